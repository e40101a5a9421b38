import PyProof.Rows.All
import Wide.All
import OpenK.AllK
import Wide.FinOn
import Lean
import PyProof.EqAt
import PyProof.EqKinds
import PyProof.TupleCall
import PyProof.NeKinds
import KE.KTryMore
import PyProof.ExcBaseAll.ValueError
import OpenK.KOwn
import PyProof.ConsumeWalk
import KE.KIntText
import PyProof.EnumFor
import PyProof.EnumMake
import PyProof.StrWalks
import KE.KRevSl
import PyProof.ReprRoads
import PyProof.ReprBulk
import PyProof.Draws
import PyProof.TupleIter
import PyProof.WalksMore
import KE.KIsAll
import PyProof.RulesAs
import PyProof.NsDelKeeps
import PyProof.Rows.SetFrom
import PyProof.SetRoads
import PyProof.ListRange
import KE.KItemsList
import KE.KSortTup
import PyProof.Rows.MinMaxN
import PyProof.WalkInts
import PyProof.Rows.ListMulArg
import PyProof.Rows.SumAny
import PyProof.MaxThree
import PyProof.AttrMissHeap
import KE.KDictOf
import KE.KRevIter
import PyProof.CollectIter
import KE.IntTextLaws
import PyProof.Rows.StrSub
import PyProof.Rows.StrMul
import PyProof.StrLawsReplace
import PyProof.Rows.StrClose3
import PyProof.ZipIter
import KE.KUnpack
import PyProof.CollectWalk
import PyProof.Rows.Range3
import PyProof.Rows.TupDisplay
import PyProof.SetScanFacts
import PyProof.TupleKey
import PyProof.TupleOfGen
import PySem.SetOps
import PySem.Challenge.RW_glowcells_k74_whole_shapes_of_rims
set_option genSizeOf false
set_option genInjectivity false
open PySem renaming wpAny_bind→z00,wpAny_pure→z04,sizeLine→z24,wpAny_call_entry→z61,sizeLine_eq→z67,mainGlobals→z68,wpAny_newObj_type→z69,wpAny_holding→z79,wpAny_callSpecial?_slot→z83,bootBuiltins→z90,wpAny_seqItems→za8,wpAny_setField_rec→za9,wpAny_mono→zb4,wpAny_field→zb5,wpAny_isInstance→zc1,wpAny_forIn_list→zc2,mem_of_lookup→zc4,wpAny_setState_of→zc7,wpAny_specialOf→ze5,wpAny_ite_split→ze6,codeAny_builtin→ze7,wpAny_typeNameOfWhole_keyiter→zf7,wpAny_passesOwn→zg9,wpAny_truthy_bool→zh4,wpAny_typeNameOf_keyiter→zi6,boot_len→zj3,wpAny_tupleItemsOf→zj8,wpAny_attempt→zj9,eqBool→zk0,wpAny_rule→zk7,wpAny_fieldsOf→zl1,isSubtype_tuple_tuple→zl3,codeAny_mono→zl4,wpAny_askSetting→zl8,wpAny_typeOf→zn7,wpAny_pyHash_tuple→zn8,wpAny_Call_Name_kw→zn9,wpAny_dictEntries→zo6,wpAny_of_eq→zp9,wpAny_newList→zq0,wpAny_updateSeq→zr6,wpAny_loadPart'→zr7,wpAny_isOneOf_keyiter→zr8,wpAny_execs_nil→zr9,Builtin→zs1,wpAny_updateSeq_pair→zt0,wpAny_setField→zt4,wpAny_setEntries_of→zt8,wpAny_pyIter_tuple→zv6,wpAny_onRaise→zv7,wpAny_eqBool_tuple→zv8,wpAny_richCompare_same_room→y04,wpAny_dictEpoch→y05,wpAny_newTuple→y21,isSubtype_type→y22,isSubtype_stop→y23,wpAny_getItem_list_slice→y31,wpAny_standAt→y35,wpAny_handled→y36,call→y39,wpAny_pyNext_list_item→y48
open List renaming length_map→z01,mem_append_right→z05,getElem?_eq_getElem→z06,mem_cons_of_mem→z07,mem_append→z08,mem_cons_self→z09,length_append→z10,getElem?_eq_some_iff→z11,nodup_append→z12,mem_append_left→z13,mem_singleton→z16,getElem?_map→z17,mem_cons→z21,size_toArray→z22,append_assoc→z23,getD_eq_getElem?_getD→z25,map_cons→z28,length_cons→z31,take_append_drop→z33,mem_map→z37,mem_of_getElem?→z38,nodup_cons→z39,range→z41,pairwise_append→z42,getElem?_append_right→z44,map_append→z47,length_take→z48,append_nil→z50,length_range→z52,getElem?_append_left→z53,flatten_append→z55,getElem?_toArray→z56,pairwise_cons→z59,map_map→z60,take_length→z63,mem_range→z70,extract_eq_drop_take→z71,getElem?_of_mem→z74,mem_filter→z77,map_congr_left→z80,filterMap_cons→z81,pairwise_iff_getElem→z84,take_of_length_le→z86,getElem?_set_self→z87,zip_cons_cons→z88,perm_iff_count→z91,take_succ→z92,length_drop→z93,getElem?_set_ne→z95,lookup_cons→z98,count_eq_zero_of_not_mem→z99,any_cons→za6,all_eq_true→za7,zipWith_cons_cons→zb1,drop_eq_getElem_cons→zb2,getElem?_take_of_lt→zb6,length_reverse→zc6,mem_reverse→zd0,zipWith→zd2,replicate→zd4,length→zd5,reverse_perm→zd8,pairwise_map→zd9,flatten_cons→ze0,count_append→ze1,length_eq_zero_iff→ze3,flatMap_append→ze4,filter_cons→ze9,filterMap_map→zf4,perm_append_comm→zf8,length_filter_le→zf9,foldl_cons→zg0,mem_of_mem_drop→zg8,take_zero→zh1,not_mem_nil→zh5,getElem_inj→zh6,length_erase_of_mem→zh8,length_zip→zi1,length_nil→zi2,getElem?_cons_succ→zi3,find?_cons→zi4,range_succ_eq_map→zi8,length_pos_of_mem→zi9,drop_of_length_le→zj0,flatMap_cons→zj5,ext_getElem?→zj6,mem_flatMap→zk5,countP_cons→zk6,mem_of_mem_take→zk8,mem_erase_of_ne→zk9,getElem_of_mem→zl6,getElem?_range→zl7,nodup_nil→zm6,getElem?_eq_none_iff→zm7,drop_zero→zm8,take_sublist→zn3,getElem_map→zo3,any_eq_true→zo4,zip_append→zp1,range_succ→zp2,map_nil→zp3,length_set→zp4,getElem?_eq_none→zp5,forIn_cons→zp6,count_cons→zp7,reverse_append→zq9,mem_map_of_mem→zr0,map_id→zr1,mem_filterMap→zs6,getElem?_drop→zs7,filter_append→zs8,take_succ_eq_append_getElem→zt1,findIdx_cons→zt6,any_eq_false→zt7,zipIdx_cons→zu5,take_append_of_le_length→zu6,mem_flatten→zu7,map_snd_zip→zu8,map_reverse→zu9,map_fst_zip→zv0,ext_getElem→zv1,eq_nil_of_length_eq_zero→zv2,drop_length→zv3,of_mem_zip→zw9,nil_append→zx0,nodup_iff_pairwise_ne→zx9,take_take→zy5,getElem?_zip_eq_some→zy6,forIn_nil→zy7,exists_mem_of_ne_nil→zy8,pairwise_singleton→y00,pairwise_lt_range→y10,getElem_cons_drop→y11,toArray→y14,set_set→y15,set_append_right→y16,pairwise_reverse→y17,length_singleton→y18,reverse_reverse→y26,map_eq_cons_iff→y27,getElem?_zipIdx→y28,range'→y33,countP_eq_zero→y34,map_filterMap→y42,length_zipIdx→y43,getElem_range→y44,getElem?_take→y45,take_add_one→y53,reverse_cons→y54,foldl_append→y55,drop_sublist→y56
open PySem.W renaming Frag→z02,mg_none_of→za5,nsIn→zd7,fnOf→zh0,OpenLaw→zo1,methodObj→zs0,keepIn→zv9,codeIn→zw0,cellsFrom_some→zy1
open Option renaming map_eq_some_iff→z03,bind_eq_some_iff→z27,bind_some→z72,getD_some→zc8,map_some→zf6,toList_some→zq8,map→zs4,isSome_map→zs5,isSome_iff_exists→zx8,getD_none→y41
open PySem.Heap renaming get?_push_of_some→z14,get?_push_size→z29,lt_size→z34,get?_update_self→za2,SameBut→zd3,get?_update_other→zf3,size_push→zh2,get?_push_ne→zj7,get?_none_of_le→zl0,get?_update_ne→zr2,size_update→zv4
open Nat renaming le_refl→z15,ne_of_lt→z45,lt_of_lt_of_le→z46,zero_le→z58,le_trans→z73,lt_or_ge→z85,zero_add→z96,le_of_lt→za3,add_sub_cancel_left→zc3,lt_succ_of_lt→zc5,lt_succ_self→zd1,lt_irrefl→ze8,le_add_right→zf0,not_lt_zero→zg3,ne_of_gt→zg4,sub_self→zk1,le_succ→zm0,min_self→zm4,lt_of_le_of_lt→zm5,min_eq_left→zq2,lt_trans→zq3,pow_le_pow_right→zq5,mod_lt→zt9,lt_trichotomy→zu0,le_of_lt_succ→zu1,succ_pos→zu4,mul_le_mul→zz7,mul_assoc→y08,add_assoc→y09,pow_succ→y24,mul_comm→y25,add_sub_cancel→y52
open Array renaming getElem?_toList→z18,getElem?_eq_getElem→z20,getD_eq_getD_getElem?→z32,length_toList→z43,toList_push→z49,toList_append→z62,size_push→z65,toList_extract→z94,size_append→zd6,getElem?_eq_none→zf2,getElem?_eq_some_iff→zg6,toList_reverse→zg7,forIn_toList→zi0,getElem?_setIfInBounds_self_of_lt→zo8,getElem?_setIfInBounds_ne→zt3,toList_setIfInBounds→zx2,toList_filterMap→y03,toList→y12,toList_inj→y57
open Bool renaming false_ne_true→z19,false_eq_true→z35,and_eq_true_iff→z75,and_eq_true→z76,not_true→zc0,eq_false_iff→zn4,eq_iff_iff→zp8,not_false→zq7,true_and→zs9,and_false→zz2,false_or→y02
open Option.some renaming inj→z26
open PySem.Value renaming ref→z30,none→z40,int→z82,bool→y37
open Or renaming inl→z36,inr→z57
open PySem.NameKind renaming free→z51,cell→zb0
open PySem.Obj renaming mapSeq→z54,putSet→zl5,data_mapDictKeys→y32,data_mapFields→y51
open True renaming intro→z64
open Int renaming toNat_natCast→z66,emod_lt_of_pos→zm9,emod_nonneg→zq4,toNat→y29,toNat_of_nonneg→y46
open PySem.Heap.SameBut renaming update→z78,refl→zy9
open Classical renaming choose_spec→z89,propDecidable→zm2,byContradiction→zu2,choose→y19
open PySem.Paired renaming length→z97,snoc→y13
open PySem.F renaming slot_dict_keyiterator_next→za0,called_set→zb3,plain_extend_loop→zc9,slot_tuple_iterator_next→zh3,slot_tuple_eq→zj2,slot_tuple_hash→zk2,plainAttrs_list→zn0,slot_dict_get→zo2,args_dict_keyiterator_next_1→zp0,entry_dict_keyiterator_next→zq1,slot_zip_next→zq6,slot_dict_setdefault→zt5,entry_extend_loop→zw1,type_list_append→zw5,slot_list_append→zw6,args_tuple_add_2→zw7,plain_list_iadd→zx4,plainAttrs_dict→zx5,entry_tuple_add→zx6,args_dict_get_3→zx7,slot_tuple_add→zy2,slot_dict_iter→zy3,entry_dict_get→zy4,args_tuple_iterator_next_1→zz0,slot_set_iter→zz5,plain_set_new→zz6,entry_tuple_iterator_next→zz8
open PySem.SeqAt.EqAt renaming int_int→za1,same→zn2,of_refs→zo9,str_int→zz3,int_str→zz4
open PySem.Builtin.SmallTypes renaming nextOf→za4
open PyProof.Rows renaming callWith_type1→zb7,slot_tuple_getitem→zh7,envOfC→zj4,lt_int→zw8
open PySem.Builtin.List renaming listLengthHint→zb8,listTooLong→zl2,listExtendWith→zr5,listSameRef→zt2
open PySem.Around renaming under_plainId→zb9
open List.Perm renaming refl→ze2,append_left→zf1,trans→zn5
open PySem.Builtin.Slice renaming slicePlaces→zf5,sliceAdjust→zk4,sliceApplied→zr4
open PySem.Builtin.Tuple renaming tupleExact→zg1,tupleHashOf→zk3,tupleItemsOf→zr3
open PySem.Str renaming ofString→zg2
open Prod renaming fst→zg5,ext→zo0,snd→y40
open Ne renaming symm→zh9
open Sum renaming inl→zi5,inr→zx3
open PySem.SeqAt renaming EqAt→zi7,RcNeAt→y06,RcAt→y38
open False renaming elim→zj1
open Std.Legacy.Range renaming forIn_eq_forIn_range'→zl9,size→zs3
open Std.Legacy renaming Range→zm1
open PySem.Calls renaming call_function_entry→zm3,spliced_cons→zs2,Name_function_global→zx1,callWith_builtin→y01,evalArgs_plain→y20,spliced_nil→y47
open Prod.mk renaming injEq→zn1,inj→y07
open ForInStep renaming yield→zn6
open PySem.Builtin.Dict_items renaming ownsTuple→zo5
open PyProof.Rows.F renaming plain_set_update_loop→zo7,entry_set_update_loop→y30
open PySem.SetTable renaming grown→zu3,fill→zw4,fits→y50
open PySem.Builtin.Dict renaming showsAll→zv5
open PySem.Heap.IsSliceOf renaming new→zw2
open PySem.DictEntry renaming key→zw3
open List.Pairwise renaming imp→zy0
open Decidable renaming of_not_not→zz1
open PySem.SeqAt.RcAt renaming tuples→zz9
open PySem.pickOrder renaming go→y49
set_option compiler.extract_closed false
set_option hygiene false
set_option Elab.async false
set_option linter.all false
set_option maxRecDepth 100000
set_option maxHeartbeats 4000000
set_option hygiene false in
local macro_rules
|`(@0)=>`((by lia))
|`(@1)=>`((model prog w))
|`(@2)=>`((by decide))
|`(@3)=>`((model X.prog X.w))
|`(@4)=>`((by first|exact z36 rfl|exact z57 (z36 rfl)|exact z57 (z57 rfl)))
|`(@5)=>`((fun _ z=>nomatch z))
|`(@6)=>`((by simp))
|`(@7)=>`((~~~(.lst (os.map Qw))))
|`(@8)=>`((Addr×Obj))
|`(@9)=>`((z36 rfl))
|`(@10)=>`((x == ("__debug__" : Str)))
|`(@11)=>`((~~~(.lst (s.map pl))))
set_option hygiene false in
local macro_rules
|`(@12)=>`((a.toList++b.toList))
|`(@13)=>`((Int×Int))
|`(@14)=>`((.inl rfl))
|`(@15)=>`((mC (.int 1)))
|`(@16)=>`((false,eval e X.env))
|`(@17)=>`((Option Nat))
|`(@18)=>`((seqObj "list" #[] 0))
|`(@19)=>`((by simpa using c))
|`(@20)=>`((.Name x np))
|`(@21)=>`((hP prog w pr))
|`(@22)=>`((L2.V×D))
|`(@23)=>`((x == ("__classdict__" : Str)))
set_option hygiene false in
local macro_rules
|`(@24)=>`((fun c=>?_))
|`(@25)=>`((fin_bl I q @6))
|`(@26)=>`((some v))
|`(@27)=>`((hr^^^0))
|`(@28)=>`((.ref a))
|`(@29)=>`((ps.map pl))
|`(@30)=>`((hts c es))
|`(@31)=>`((tgQ bb))
|`(@32)=>`((Int×Value))
|`(@33)=>`((inS ps))
|`(@34)=>`((t.probeStart @21))
noncomputable section
namespace L2
open PySem
variable {prog:Program}{w:World}{K:Type}{s:Shared}{k x y:List K}{a b:Addr}{h:Heap}{E:Value->Shared->Prop}{Q:Bool->Shared->Prop}{P:Fin->Shared->Prop}{ys:Array Value}
section
variable [DecidableEq K](knd:KeyKind prog w K)
def QQ (h:Heap)(k:List K)(a:Addr):Prop:=
 ∃k1 k2 p q o n,k=k1++k2/\k1.length=2/\k2.length=2/\h.get? a=some o/\o.cls=.type "tuple" /\ o.data=.seq #[.ref p,.ref q] n/\IsTupleKey knd h k1 p/\IsTupleKey knd h k2 q
def Qa9 (k:List K):Int:=reduceHash (zk3 [tupleKeyHash knd (k.take 2),tupleKeyHash knd (k.drop 2)])
variable {knd}
theorem QcE {k1 k2 l1 l2:List K}(h1:k1.length=2)(h2:l1.length=2):(k1++k2=l1++l2)↔k1=l1/\k2=l2:=
 ⟨fun e=>List.append_inj e (h1.trans h2.symm),fun e=>by rw[e.1,e.2]⟩
theorem QQ.type(x:QQ knd s.heap k a):s.TypeIs @28 "tuple" := let ⟨_,_,_,_,o,_,_,_,_,h,c,_⟩:=x;⟨o,h,c⟩
theorem QQ.uniq(hx:QQ knd h x a)(hy:QQ knd h y a):x=y:=by
 obtain⟨k1,k2,p,q,o,n,rfl,_,_,h1,_,d1,i1,i2⟩:=hx;obtain⟨l1,l2,p',q',o',n',rfl,_,_,h2,_,d2,j1,j2⟩:=hy;cases h1.symm.trans h2
 rw[d1] at d2;injection d2 with e _;cases e
 rw[i1.inj j1,i2.inj j2]
theorem QQ.stays {h':Heap}{d:Addr}{o:Obj}{es ep}(x:QQ knd h k a)(ho:h.get? d=some o)(hd:o.data=.dict es ep)(hs:zd3 d h h'):QQ knd h' k a:=by
 obtain⟨k1,k2,p,q,o',n,e,l1,l2,h1,c1,d1,i1,i2⟩:=x
 have ne:a≠d:=fun z=>by
  subst z;cases h1.symm.trans ho
  rw[hd] at d1;cases d1
 exact⟨k1,k2,p,q,o',n,e,l1,l2,(hs.2 a ne).trans h1,c1,d1,i1.keeps ho hd hs,i2.keeps ho hd hs⟩
variable {A:Around}
theorem QeQ{Q:Int->Shared->Prop}(hu:A.units+1<cLine)(hk:QQ knd s.heap k a)(h:Q (Qa9 knd k) { s with toks:=s.toks+7 }) :
  wpAny @1 A (PySem.pyHash @28) Q E s:=by
 have T:=hk.type;obtain⟨k1,k2,p,q,o,n,rfl,l1,l2,ho,hc,hd,i1,i2⟩:=hk;unfold PySem.pyHash
 first|unfold pyHashByItsType|skip
 first|refine z00 (wpAny_cRoomFor_or (.inr @0) ?_)|skip
 refine z00 (ze5 T zk2.lookup ?_);refine(if_neg (by rw[beq_builtin_none];exact z19):(if(some (Value.builtin "tuple.__hash__") == some z40)=true then _ else _)=_)▸?_
 refine z00 (ze5 T zk2.lookup ?_);refine z00 (wpAny_callSpecialIfBoundUnlessNone?_slot T zk2 (z61 zk2 T F.entry_tuple_hash ?_ (F.args_tuple_hash_1 _)));show wpAny _ _ (zr3 @28 >>= _) _ _ s;refine z00 (zj8 ho hd (z00 ?_));rw[← zi0]
 refine zc2 _ (fun rest (b:Array Int) s'=>(rest=[.ref p,.ref q]/\b = #[]/\s'=s)\/(rest=[.ref q]/\b = #[tupleKeyHash knd k1]/\s'={ s with toks:=s.toks+3 })\/
  (rest=[]/\b = #[tupleKeyHash knd k1,tupleKeyHash knd k2]/\s'={ s with toks:=s.toks+6 })) _ ?_ ?_ _ _ (.inl ⟨rfl,rfl,rfl⟩)
 ·rintro x rest b s' (⟨e,rfl,rfl⟩|⟨e,rfl,rfl⟩|⟨e,_,_⟩)
  ·cases e
   refine z00 (zn8 (by show A.units+1<cLine;lia) i1 ?_);rw[l1];exact z04 (.inr (.inl ⟨rfl,rfl,rfl⟩))
  ·cases e
   refine z00 (zn8 (s:={ s with toks:=s.toks+3 }) (by show A.units+1<cLine;lia) i2 ?_);rw[l2];exact z04 (.inr (.inr ⟨rfl,rfl,rfl⟩))
  ·cases e
 ·rintro b s' (⟨e,_,_⟩|⟨e,_,_⟩|⟨_,rfl,rfl⟩)
  ·cases e
  ·cases e
  have e1:(k1++k2).take 2=k1:=by rw[← l1];exact List.take_left
  have e2:(k1++k2).drop 2=k2:=by rw[← l1];exact List.drop_left
  unfold Qa9 reduceHash at h;rw[e1,e2] at h;show wpAny _ _ (retInt (zk3 [tupleKeyHash knd k1,tupleKeyHash knd k2])) _ _ _;refine wpAny_ret_mkInt ?_;generalize zk3 [tupleKeyHash knd k1,tupleKeyHash knd k2]=z at h ⊢;show wpAny _ _ (if(decide (-(2:Int) ^ 63<=z) && decide (z<2 ^ 63))=true then _ else _) Q E _
  split at h
  ·rw[if_pos ‹_›];exact z04 h
  ·rw[if_neg ‹_›];exact z00 (zk7 (z04 h))
theorem QbW(hu:A.units<cLine)(hx:QQ knd s.heap x a)(hy:QQ knd s.heap y b)(h:P (.done (.ret (.bool (decide (x=y))))) s) :
  wpAny @1 A (Builtin.«tuple.__eq__» ⟨[.ref a,.ref b],[]⟩) P E s:=by
 have T:=hy.type;obtain⟨k1,k2,p,q,o,n,rfl,l1,l2,ho,hc,hd,i1,i2⟩:=hx;obtain⟨m1,m2,p',q',o',n',rfl,l1',l2',ho',hc',hd',j1,j2⟩:=hy
 have dec:decide (k1++k2=m1++m2)=(decide (k1=m1) && decide (k2=m2)):=by
  rw[← Bool.decide_and];exact decide_eq_decide.mpr (QcE l1 l1')
 rw[dec] at h;show wpAny _ _ (isInstance (.ref b) (.type "tuple") >>= _) _ _ s
 refine z00 (zc1 T zl3 ?_);simp only[zc0,z35,if_false];refine z00 (zj8 ho hd (z00 (zj8 ho' hd' (z00 ?_))));refine zc2 _ (fun rest r s'=>r.1=none/\s'=s/\(rest=[(.ref p,.ref p'),(.ref q,.ref q')]\/(k1=m1/\rest=[(.ref q,.ref q')])\/(k1=m1/\k2=m2/\rest=[]))) _ ?_ ?_ _ _ ⟨rfl,rfl,.inl rfl⟩
 ·rintro⟨u,v⟩ rest r s' ⟨hr,rfl,c⟩;rcases c with c|⟨c1,c⟩|⟨_,_,c⟩
  ·cases c
   refine z00 (zv8 hu i1 j1 ?_)
   by_cases z:k1=m1
   ·rw[decide_eq_true z];exact z04 ⟨rfl,rfl,.inr (.inl ⟨z,rfl⟩)⟩
   ·rw[decide_eq_false z] at h ⊢;exact z00 (z04 (z04 (z04 h)))
  ·cases c
   refine z00 (zv8 hu i2 j2 ?_)
   by_cases z:k2=m2
   ·rw[decide_eq_true z];exact z04 ⟨rfl,rfl,.inr (.inr ⟨c1,z,rfl⟩)⟩
   ·rw[decide_eq_false z,zz2] at h;rw[decide_eq_false z];exact z00 (z04 (z04 (z04 h)))
  ·cases c
 ·rintro⟨r1,r2⟩ s' ⟨hr,rfl,c⟩;rcases c with c|⟨c1,c⟩|⟨z1,z2,c⟩
  ·cases c
  ·cases c
  cases(show r1=none from hr)
  refine z04 ?_;rw[decide_eq_true z1,decide_eq_true z2] at h;exact h
theorem QiZ(hu:A.units+1<cLine)(hx:QQ knd s.heap x a)(hy:QQ knd s.heap y b)(h:Q (decide (x=y)) s) :
  wpAny @1 A (zk0 @28 (.ref b)) Q E s:=by
 unfold zk0
 try with_reducible refine z79 ?_
 show wpAny _ _ (if(z30 a == z30 b)=true then _ else _) Q E s
 by_cases c:(z30 a == z30 b)=true
 ·rw[if_pos c];cases eq_of_beq c
  cases hx.uniq hy
  rw[decide_eq_true rfl] at h;exact z00 (zk7 (z04 h))
 ·rw[if_neg c]
  exact z00 (y04 (op:=.Eq) hx.type hy.type zj2
   (z61 zj2 hx.type F.entry_tuple_eq (QbW (by show A.units+1<cLine;lia) hx hy ⟨_,rfl,(fun e=>nomatch e),zh4 h⟩) (F.args_tuple_eq_2 _ _)) @0)
theorem QbX {n:Nat}{ks:List K}(hk:IsTupleKey knd s.heap ks a)(h:Q true s):wpAny @1 A (eqIsQuiet (n+1) @28) Q E s:=by
 have T:=hk.typeIs;obtain⟨o,items,m,ho,_,hd,hi⟩:=hk;unfold eqIsQuiet;refine z00 (ze5 T zj2.lookup ?_);show wpAny _ _ (isInstance @28 (.type "tuple") >>= _) _ _ s
 refine z00 (zc1 T zl3 ?_);simp only[zc0,z35,if_false];refine z00 (za8 ho hd (z00 ?_));show wpAny _ _ (forIn items _ _) _ _ s;rw[← zi0];refine zc2 _ (fun rest r s'=>(r.1=none/\s'=s)/\∀v∈rest,carriedByValue v=true) _ ?_ ?_ _ _ ⟨⟨rfl,rfl⟩,hi.byValue⟩
 ·rintro v rest r s' ⟨⟨_,rfl⟩,all⟩;rw[eqIsQuiet_byValue _ (all v z09)];exact z00 (z04 (z04 ⟨⟨rfl,rfl⟩,fun u z=>all u (z07 _ z)⟩))
 ·rintro⟨r1,r2⟩ s' ⟨⟨hr,rfl⟩,_⟩;cases(show r1=none from hr)
  exact z04 h
theorem Qem(hk:QQ knd s.heap k a)(h:Q true s):wpAny @1 A (eqIsQuiet 8 @28) Q E s:=by
 have T:=hk.type;obtain⟨k1,k2,p,q,o,n,rfl,l1,l2,ho,hc,hd,i1,i2⟩:=hk;unfold eqIsQuiet;refine z00 (ze5 T zj2.lookup ?_);show wpAny _ _ (isInstance @28 (.type "tuple") >>= _) _ _ s
 refine z00 (zc1 T zl3 ?_);simp only[zc0,z35,if_false];refine z00 (za8 ho hd (z00 ?_));show wpAny _ _ (forIn (#[z30 p,z30 q]:Array Value) _ _) _ _ s;rw[← zi0];refine zc2 _ (fun rest r s'=>(r.1=none/\s'=s)/\∀v∈rest,v=.ref p\/v=.ref q) _ ?_ ?_ _ _ ⟨⟨rfl,rfl⟩,fun v hv=>by simpa using hv⟩
 ·rintro v rest r s' ⟨⟨_,rfl⟩,all⟩
  have go:wpAny @1 A (eqIsQuiet 7 v) (fun b s2=>b=true/\s2=s') E s':=by
   rcases all v z09 with e|e<;>rw[e]
   ·exact QbX i1 ⟨rfl,rfl⟩
   ·exact QbX i2 ⟨rfl,rfl⟩
  refine z00 (zb4 go ?_ (fun _ _ z=>z));rintro b s2 ⟨rfl,rfl⟩;exact z04 ⟨⟨rfl,rfl⟩,fun u z=>all u (z07 _ z)⟩
 ·rintro⟨r1,r2⟩ s' ⟨⟨hr,rfl⟩,_⟩;cases(show r1=none from hr)
  exact z04 h
theorem QcF {xs:Array Value}(ha:s.heap.IsTuple a xs)(hb:s.heap.IsTuple b ys)
  (hz:∀u v r,xs.toList.zip ys.toList=(u,v)::r->∀Q:Bool->Shared->Prop,Q false s->wpAny @1 A (zk0 u v) Q E s) (hn:xs.toList.zip ys.toList=[]->(xs.size == ys.size)=false) (h:P (.done (.ret (.bool false))) s) :
  wpAny @1 A (Builtin.«tuple.__eq__» ⟨[.ref a,.ref b],[]⟩) P E s:=by
 obtain⟨o,ho,hc,n,hd⟩:=ha;obtain⟨o',ho',hc',n',hd'⟩:=hb;have T:s.TypeIs (.ref b) "tuple" := ⟨o',ho',hc'⟩
 show wpAny _ _ (isInstance (.ref b) (.type "tuple") >>= _) _ _ s
 refine z00 (zc1 T zl3 ?_);simp only[zc0,z35,if_false];refine z00 (zj8 ho hd (z00 (zj8 ho' hd' (z00 ?_))));refine zc2 _ (fun rest r s'=>(r.1=none/\s'=s)/\rest=xs.toList.zip ys.toList) _ ?_ ?_ _ _ ⟨⟨rfl,rfl⟩,rfl⟩
 ·rintro⟨u,v⟩ rest r s' ⟨⟨_,rfl⟩,c⟩;exact z00 (hz u v rest c.symm _ (z00 (z04 (z04 (z04 h)))))
 ·rintro⟨r1,r2⟩ s' ⟨⟨hr,rfl⟩,c⟩;cases(show r1=none from hr)
  refine z04 ?_;show P (.done (.ret (.bool (xs.size == ys.size)))) s';rw[hn c.symm];exact h
theorem QbY {xs:Array Value}(hu:A.units<cLine)(ne:a≠b)(ha:s.heap.IsTuple a xs)(hb:s.heap.IsTuple b ys)
  (hz:∀u v r,xs.toList.zip ys.toList=(u,v)::r->∀Q:Bool->Shared->Prop,Q false s->wpAny @1 A.in1 (zk0 u v) Q E s) (hn:xs.toList.zip ys.toList=[]->(xs.size == ys.size)=false) (h:Q false s) :
  wpAny @1 A (zk0 @28 (.ref b)) Q E s:=by
 have T:s.TypeIs @28 "tuple" := let ⟨o,ho,hc,_⟩:=ha;⟨o,ho,hc⟩
 have T':s.TypeIs (.ref b) "tuple" := let ⟨o,ho,hc,_⟩:=hb;⟨o,ho,hc⟩
 unfold zk0
 try with_reducible refine z79 ?_
 show wpAny _ _ (if(z30 a == z30 b)=true then _ else _) Q E s;rw[if_neg fun c=>ne (by cases eq_of_beq c;rfl)]
 exact z00 (y04 (op:=.Eq) T T' zj2
   (z61 zj2 T F.entry_tuple_eq (QcF ha hb hz hn ⟨_,rfl,(fun e=>nomatch e),zh4 h⟩) (F.args_tuple_eq_2 _ _)) hu)
end
section
variable [DecidableEq K](knd:KeyKind prog w K)
def Qi0 (h:Heap)(k:List K)(a:Addr):Prop:=(k.length≠4/\IsTupleKey knd h k a)\/QQ knd h k a
def keyHash (k:List K):Int:=if k.length=4 then Qa9 knd k else tupleKeyHash knd k
variable {knd}
theorem QQ.four(x:QQ knd h k a):k.length=4:=by
 obtain⟨k1,k2,_,_,_,_,rfl,l1,l2,_⟩:=x;rw[z10,l1,l2]
theorem QQ.tup(x:QQ knd h k a):∃p q,h.IsTuple a #[.ref p,.ref q]/\(∃xs,h.IsTuple p xs):=by
 obtain⟨k1,k2,p,q,o,n,_,_,_,h1,h2,h3,⟨o1,x1,n1,a1,a2,a3,_⟩,_⟩:=x;exact⟨p,q,⟨o,h1,h2,n,h3⟩,x1,o1,a1,a2,n1,a3⟩
theorem key_ne(hx:IsTupleKey knd h x a)(hy:QQ knd h y b):a≠b:=by
 intro e;subst e;obtain⟨k1,k2,p,q,o,n,_,_,_,h1,h2,h3,_⟩:=hy;obtain⟨o',items,n',g1,_,g3,gi⟩:=hx;cases h1.symm.trans g1
 rw[h3] at g3;injection g3 with e _;subst e;have:=gi.byValue (.ref p) z09;cases this
def Sca (knd:KeyKind prog w K):Prop:=∀k v,knd.is k v=true->(∃i t,v=.int i t)\/∃x t,v=.str x t
variable {A:Around}
theorem QkV (S:Sca knd)(hu:A.units+1<cLine)(hx:Qi0 knd s.heap x a)(hy:Qi0 knd s.heap y b)(h:Q (decide (x=y)) s) :
  wpAny @1 A (zk0 @28 (.ref b)) Q E s:=by
 rcases hx with⟨n1,hx⟩|hx<;>rcases hy with⟨n2,hy⟩|hy
 ·exact zv8 @0 hx hy h
 ·rw[decide_eq_false fun e=>n1 (by rw[e];exact hy.four)] at h;obtain⟨p,q,hb,ys,hp⟩:=hy.tup;have ne:=key_ne hx hy;obtain⟨o,items,m,ho,hc,hd,hi⟩:=hx;refine QbY @0 ne ⟨o,ho,hc,m,hd⟩ hb (fun u v r e Q hQ=>?_) (fun e=>?_) h
  ·generalize items.toList=l at hi e
   cases hi with
   |nil=>cases e
   |cons h1 t=>
    cases e
    rcases S _ _ h1 with⟨i,t,rfl⟩|⟨z,t,rfl⟩
    ·exact SeqAt.EqAt.int_tuple i t hp (by show A.units+1<cLine;lia) _ _ _ _ hQ
    ·exact SeqAt.EqAt.str_tuple z t hp (by show A.units+1<cLine;lia) _ _ _ _ hQ
  ·generalize hl:items.toList=l at hi e
   cases hi with
   |nil=>rw[← z43,hl];rfl
   |cons h1 t=>cases e
 ·rw[decide_eq_false fun e=>n2 (by rw[← e];exact hx.four)] at h;obtain⟨p,q,hb,ys,hp⟩:=hx.tup;have ne:=key_ne hy hx;obtain⟨o,items,m,ho,hc,hd,hi⟩:=hy;refine QbY @0 ne.symm hb ⟨o,ho,hc,m,hd⟩ (fun u v r e Q hQ=>?_) (fun e=>?_) h
  ·generalize items.toList=l at hi e
   cases hi with
   |nil=>cases e
   |cons h1 t=>
    cases e
    rcases S _ _ h1 with⟨i,t,rfl⟩|⟨z,t,rfl⟩
    ·exact SeqAt.EqAt.tuple_int i t hp (by show A.units+1<cLine;lia) _ _ _ _ hQ
    ·exact SeqAt.EqAt.tuple_str z t hp (by show A.units+1<cLine;lia) _ _ _ _ hQ
  ·generalize hl:items.toList=l at hi e
   cases hi with
   |nil=>rw[← z43 (xs:=items),hl];rfl
   |cons h1 t=>cases e
 ·exact QiZ hu hx hy h
end
def keyKind[DecidableEq K](knd:KeyKind prog w K)(S:Sca knd):HeapKind prog w (List K) where
 is:=Qi0 knd
 hash:=keyHash knd
 draws:=fun k=>if k.length=4 then 7 else k.length+1
 room:=fun A=>A.units+1<cLine
 inj:=fun hx hy=>by
  rcases hx with⟨n1,hx⟩|hx<;>rcases hy with⟨n2,hy⟩|hy
  ·exact hx.inj hy
  ·exact absurd rfl (key_ne hx hy)
  ·exact absurd rfl (key_ne hy hx)
  ·exact hx.uniq hy
 keeps:=fun x ho hd hs=>x.imp (fun z=>⟨z.1,z.2.keeps ho hd hs⟩) fun z=>z.stays ho hd hs
 pyHash:=fun hu hk h=>by
  unfold keyHash at h;rcases hk with⟨n,hk⟩|hk
  ·rw[if_neg n,if_neg n] at h;exact zn8 (Nat.lt_of_succ_lt hu) hk h
  ·rw[if_pos hk.four,if_pos hk.four] at h;exact QeQ hu hk h
 eqBool:=fun hu hx hy h=>QkV S hu hx hy h
 quiet:=fun hk h=>by
  rcases hk with⟨n,hk⟩|hk
  ·exact wpAny_eqIsQuiet_tuple hk h
  ·exact Qem hk h
end L2
namespace L2
open PySem PySem.Spec PyProof.Rows
variable {a b:Addr}{u:Value}{P:Program}{w:World}{A:Around}{h h' base:Heap}{x:Str}{e c tg value:Expr}{t' i:Nat}{ch fp:List Addr}{N ps:List Str}{M:Model}{E Q:Value->Shared->Prop}{s' s:Shared}{pos pos' p:Pos}{pins:List @8}{K:z02}{es:List Expr}{g:Int->Int->Int}{body:List Stmt}{f:Value->Value->Sem Value}{us:List Value}{mg:Str->Option Value}{fd:FuncData}{scope:Scope}{osl:Array (Option Value)}{id:String}
abbrev Key:=Sum Int Str
variable {k:List Key}
def keyIs:Key->Value->Bool
 |.inl k,v=>Value.isInt k v
 |.inr x,v=>Value.isStrOf x v
def keyH (w:World):Key->Int
 |.inl k=>hashInt k
 |.inr x=>hashStr w x
theorem keyIs_shape:∀{k:Key} {v:Value},keyIs k v=true->(∃i t,k=zi5 i/\v=z82 i t)\/(∃x t,k=zx3 x/\v=Value.str x t)
 |.inl i,v,h=>by
  obtain⟨t,e⟩:=Value.isInt_shape (k:=i) (v:=v) h;exact .inl ⟨i,t,rfl,e⟩
 |.inr x,v,h=>by
  obtain⟨t,e⟩:=Value.isStrOf_shape (x:=x) (v:=v) h;exact .inr ⟨x,t,rfl,e⟩
theorem keyIs_int (i:Int)(t:Tok):keyIs (.inl i) (.int i t)=true:=by simp[keyIs,Value.isInt]
theorem keyIs_str (x:Str)(t:Tok):keyIs (.inr x) (.str x t)=true:=by simp[keyIs,Value.isStrOf]
theorem key_ll (a b:Int):decide ((zi5 a:Key)=zi5 b)=(a == b):=by
 by_cases e:a=b
 ·subst e;simp
 ·have h:¬ (zi5 a:Key)=zi5 b:=fun q=>e (Sum.inl.inj q);rw[decide_eq_false h];exact(beq_eq_false_iff_ne.mpr e).symm
theorem key_rr (a b:Str):decide ((zx3 a:Key)=zx3 b)=decide (a=b):=by
 by_cases e:a=b
 ·subst e;simp
 ·have h:¬ (zx3 a:Key)=zx3 b:=fun q=>e (Sum.inr.inj q);rw[decide_eq_false h,decide_eq_false e]
theorem key_lr (a:Int)(b:Str):decide ((zi5 a:Key)=zx3 b)=false:=decide_eq_false (fun q=>nomatch q)
theorem key_rl (a:Str)(b:Int):decide ((zx3 a:Key)=zi5 b)=false:=decide_eq_false (fun q=>nomatch q)
def mixKind (prog:Program)(w:World):PySem.KeyKind prog w Key where
 is:=keyIs
 hash:=keyH w
 inj:=fun v a b ha hb=>by
  rcases keyIs_shape ha with⟨i,t,rfl,rfl⟩|⟨x,t,rfl,rfl⟩
  ·rcases keyIs_shape hb with⟨j,u,rfl,e⟩|⟨y,u,rfl,e⟩
   ·injection e with e1 _;rw[e1]
   ·exact nomatch e
  ·rcases keyIs_shape hb with⟨j,u,rfl,e⟩|⟨y,u,rfl,e⟩
   ·exact nomatch e
   ·injection e with e1 _;rw[e1]
 byValue:=fun k v h=>by
  rcases keyIs_shape h with⟨i,t,rfl,rfl⟩|⟨x,t,rfl,rfl⟩<;>rfl
 pyHash:=fun hv h=>by
  rcases keyIs_shape hv with⟨i,t,rfl,rfl⟩|⟨x,t,rfl,rfl⟩
  ·exact wpAny_pyHash_int h
  ·exact wpAny_pyHash_str h
 eqBool:=fun hu hv h=>by
  rcases keyIs_shape hu with⟨i,t,rfl,rfl⟩|⟨x,t,rfl,rfl⟩
  ·rcases keyIs_shape hv with⟨j,u,rfl,rfl⟩|⟨y,u,rfl,rfl⟩
   ·rw[key_ll] at h;exact wpAny_eqBool_int h
   ·rw[key_lr] at h;exact zz4 i t y u _ _ _ _ h
  ·rcases keyIs_shape hv with⟨j,u,rfl,rfl⟩|⟨y,u,rfl,rfl⟩
   ·rw[key_rl] at h;exact zz3 x t j u _ _ _ _ h
   ·rw[key_rr] at h;exact wpAny_eqBool_str h
 «strs» := fun k x t v h=>by
  rcases keyIs_shape h with⟨i,u,rfl,e⟩|⟨y,u,rfl,e⟩
  ·exact nomatch e
  ·injection e with e1 _;subst e1;cases v<;>rfl
theorem mixKind_int (prog:Program)(w:World)(i:Int)(t:Tok):(mixKind prog w).is (.inl i) (.int i t)=true:=keyIs_int i t
theorem mixKind_str (prog:Program)(w:World)(x:Str)(t:Tok):(mixKind prog w).is (.inr x) (.str x t)=true:=keyIs_str x t
set_option genInjectivity true in
inductive V where
 |non|bl (b:Bool)|int (i:Int)|str (x:Str)|byt (b:Array UInt8)|flt (b:UInt64)|ref (a:Addr)|ty (n:String)
 deriving DecidableEq
variable {v y:V}{kvs:List (List Key×V)}
def RelV:V->Value->Prop
 |.non,u=>u=z40
 |.bl b,u=>u=y37 b
 |.int i,u=>∃t,u=z82 i t
 |.str x,u=>∃t,u=Value.str x t
 |.byt b,u=>∃t,u=Value.bytes b t
 |.flt b,u=>∃t,u=Value.float b t
 |.ref a,u=>u=z30 a
 |.ty n,u=>u=Value.type n
abbrev Vals:List V->List Value->Prop:=Paired RelV
theorem Vals.length {xs:List V}{us:List Value}(r:Vals xs us):xs.length=us.length:=z97 r
theorem Vals.get:∀{xs:List V} {us:List Value} {i:Nat} {x:V},Vals xs us->xs[i]? = some x->∃u,us[i]? = some u/\RelV x u
 |_,_,_,_,.nil,e=>by simp at e
 |_,_,0,_,.cons r _,e=>by simp at e;subst e;exact⟨_,rfl,r⟩
 |_,_,i+1,x,.cons _ t,e=>by
  obtain⟨u,h1,h2⟩:=Vals.get (i:=i) (x:=x) t (by simpa using e);exact⟨u,by simpa using h1,h2⟩
theorem Vals.set {x:V}{u:Value}(r:RelV x u):∀{xs:List V} {us:List Value} (i:Nat),Vals xs us->Vals (xs.set i x) (us.set i u)
 |_,_,_,.nil=>.nil
 |_,_,0,.cons _ t=>.cons r t
 |_,_,i+1,.cons q t=>.cons q (Vals.set r i t)
theorem Vals.append:∀{xs ys:List V} {us ws:List Value},Vals xs us->Vals ys ws->Vals (xs++ys) (us++ws)
 |_,_,_,_,.nil,s=>s
 |_,_,_,_,.cons r t,s=>.cons r (Vals.append t s)
theorem Vals.take:∀{xs:List V} {us:List Value} (n:Nat),Vals xs us->Vals (xs.take n) (us.take n)
 |_,_,0,_=>.nil
 |_,_,_+1,.nil=>.nil
 |_,_,n+1,.cons r t=>.cons r (Vals.take n t)
theorem Vals.drop:∀{xs:List V} {us:List Value} (n:Nat),Vals xs us->Vals (xs.drop n) (us.drop n)
 |_,_,0,r=>r
 |_,_,_+1,.nil=>.nil
 |_,_,n+1,.cons _ t=>Vals.drop n t
def RelO:Option V->Option Value->Prop
 |some v,some u=>RelV v u
 |none,none=>True
 |_,_=>False
def KV {κ:Type}:List (κ×V)->List (κ×Value)->Prop:=Paired fun(p:κ×V) (q:κ×Value)=>p.1=q.1/\RelV p.2 q.2
def kV:Key->V
 |.inl i=>.int i
 |.inr x=>.str x
inductive HO where
 |lst (xs:List V)
 |tup (xs:List V)
 |dK (kvs:List (Key×V))|dT (kvs:List (List Key×V))
 |set (S:Int->Bool) (n:Nat)
 |ins (C dx:Addr) (fs:List (Str×V))
 |own (x:Addr)
 |xd (fs:List (Str×V))
 |met (f x:Addr)
 |rng (lo hi:Int)
 |frz (o:Obj) (u:HO)
 |tbl (ps:Array Value)
 |ext (φ:Heap->Prop)
abbrev Hp:=Addr->Option HO
variable {H':Hp}
def upd (H:Hp)(a:Addr)(o:HO):Hp:=fun b=>if b=a then some o else H b
theorem upd_same {H:Hp}{o:HO}:upd H a o a=some o:=by unfold upd;rw[if_pos rfl]
theorem upd_ne {H:Hp}{o:HO}(h:b≠a):upd H a o b=H b:=by unfold upd;rw[if_neg h]
theorem ne_of {H:Hp}{o u:HO}(h:H a=some o)(h':H b=some u)(d:o≠u):a≠b:=by
 intro e;subst e;rw[h] at h';exact d (z26 h')
theorem ne_of_none {H:Hp}{o:HO}(h:H a=some o)(h':H b=none):a≠b:=by
 intro e;subst e;rw[h] at h';cases h'
theorem Qi1 (P:Program)(w:World):Sca (mixKind P w):=fun k v h=>by
 have h:keyIs k v=true:=h;cases v<;>cases k<;>first|exact .inl ⟨_,_,rfl⟩|exact .inr ⟨_,_,rfl⟩|cases h
abbrev QcG (P:Program)(w:World):HeapKind P w (List Key):=keyKind (mixKind P w) (Qi1 P w)
theorem Qal(hu:A.units+2<cLine):(QcG P w).room A.in1:=hu
def YB (H:Hp)(a:Addr)(k:List Key):Prop:=(k.length≠4/\H a=some (.tup (k.map kV)))\/
 ∃k1 k2 p q,k=k1++k2/\k1.length=2/\k2.length=2/\H a=some (.tup [.ref p,.ref q])/\H p=some (.tup (k1.map kV))/\H q=some (.tup (k2.map kV))
theorem YB.mono {H:Hp}(x:YB H a k)(ht:∀b xs,H b=some (.tup xs)->H' b=some (.tup xs)):YB H' a k:=
 x.imp (fun z=>⟨z.1,ht _ _ z.2⟩) fun⟨k1,k2,p,q,e0,l1,l2,e,e1,e2⟩=>⟨k1,k2,p,q,e0,l1,l2,ht _ _ e,ht _ _ e1,ht _ _ e2⟩
theorem YB.flat {H:Hp}(x:YB H a k)(h:k.length≠4):H a=some (.tup (k.map kV)):=by
 rcases x with x|⟨k1,k2,p,q,e0,l1,l2,_⟩
 ·exact x.2
 ·exact absurd (by rw[e0,z10,l1,l2]) h
section
variable (P:Program)(w:World)
def ObjOk (H:Hp)(h:Heap)(a:Addr):HO->Prop
 |.lst xs=>xs.length<=z24/\∃(its:List Value) (n:Nat),Vals xs its/\h.get? a=some { cls:=.type "list",data:=.seq its.toArray n }
 |.tup xs=>xs.length<=z24/\∃its:List Value,Vals xs its/\IsTup h a its.toArray
 |.dK kvs=>kvs.length<=z24/\(a == sysModules)=false/\∃vs,KV kvs vs/\h.DictOf (mixKind P w) a vs
 |.dT kvs=>kvs.length<=z24/\(a == sysModules)=false/\∃xs:List (List Key×Addr×Value),
   Paired (fun(p:List Key×V) (q:List Key×Addr×Value)=>p.1=q.1/\YB H q.2.1 p.1/\RelV p.2 q.2.2) kvs xs/\
   ∃o es ep,h.get? a=some o/\o.ExactDict/\o.data=.dict es ep/\es.toList=xs.map (entryOfKey (QcG P w))/\(xs.map (·.1)).Nodup
 |.set S n=>h.SetOf (intKind P w) a S n
 |.ins C dx fs=>H dx=some (.own a)/\fs.length<=1000/\dx≠a/\h.get? a=some (PySem.W.instObj C dx)/\
   ∃mA,h.Ns1 dx mA/\(∀f,RelO (fs.lookup f) (mA f))/\PySem.Within mA (fs.map (·.1))
 |.own _=>∃o,h.get? a=some o
 |.xd fs=>∃mA,h.Ns1 a mA/\∀f,RelO (fs.lookup f) (mA f)
 |.rng lo hi=>∃t u v,h.get? a=some { cls:=.type "range",data:=.fields #[.int lo t,.int hi u,.int 1 v]}
 |.frz o u=>h.get? a=some o/\ObjOk H h a u
 |.tbl ps=>h.get? a=some { cls:=.none,data:=.fields ps }
 |.met f x=>h.get? a=some (zs0 (.ref f) (.ref x))
 |.ext φ=>φ h/\(∃o,h.get? a=some o)/\∀h1 h2:Heap,φ h1->(∀o,h1.get? a=some o->h2.get? a=some o)->φ h2
def HOk (H:Hp)(h:Heap):Prop:=∀a o,H a=some o->ObjOk P w H h a o
end
section
variable {P:Program}{w:World}{H H':Hp}{h h':Heap}{a:Addr}{o:HO}
theorem ObjOk.lt (x:ObjOk P w H h a o):a<h.objs.size:=by
 cases o with
 |lst xs=>obtain⟨_,_,_,_,e⟩:=x;exact z34 e
 |tup xs=>obtain⟨_,_,_,p⟩:=x;exact p.lt
 |dK kvs=>obtain⟨_,_,_,_,o,_,_,e,_⟩:=x;exact z34 e
 |dT kvs=>obtain⟨_,_,_,_,o,_,_,e,_⟩:=x;exact z34 e
 |set S n=>obtain⟨o,_,_,_,e,_⟩:=x;exact z34 e
 |ins C dx fs=>obtain⟨_,_,_,e,_⟩:=x;exact z34 e
 |own y=>obtain⟨_,e⟩:=x;exact z34 e
 |xd fs=>obtain⟨_,⟨_,_,_,e,_⟩,_⟩:=x;exact z34 e
 |rng lo hi=>obtain⟨_,_,_,e⟩:=x;exact z34 e
 |frz ob u=>obtain⟨e,_⟩:=x;exact z34 e
 |tbl ps=>exact z34 (show h.get? a=some _ from x)
 |met f y=>exact z34 (show h.get? a=some _ from x)
 |ext φ=>obtain⟨_,⟨_,e⟩,_⟩:=x;exact z34 e
theorem Paired.mapP {α β:Type}{F G:α->β->Prop}:∀{l₁:List α} {l₂:List β},Paired F l₁ l₂->(∀a b,F a b->G a b)->Paired G l₁ l₂
 |_,_,.nil,_=>.nil
 |_,_,.cons r t,f=>.cons (f _ _ r) (Paired.mapP t f)
theorem Paired.imp' {α β:Type}{F G:α->β->Prop}(f:∀a b,F a b->G a b){l₁:List α}{l₂:List β}(r:Paired F l₁ l₂):Paired G l₁ l₂:=Paired.mapP r f
theorem ObjOk.stay (x:ObjOk P w H h a o)(k:∀b u,(b=a\/H b=some (.own a))->h.get? b=some u->h'.get? b=some u)
  (ho:∀b,H b=some (.own a)->H' b=some (.own a)) (ht:∀b xs,H b=some (.tup xs)->H' b=some (.tup xs)):ObjOk P w H' h' a o:=by
 induction o with
 |lst xs=>obtain⟨z,its,n,r,e⟩:=x;exact⟨z,its,n,r,k _ _ @14 e⟩
 |tup xs=>obtain⟨z,its,r,ob,e,c⟩:=x;exact⟨z,its,r,ob,k _ _ @14 e,c⟩
 |dK kvs=>obtain⟨z,y,vs,r,ob,es,ep,e,c⟩:=x;exact⟨z,y,vs,r,ob,es,ep,k _ _ @14 e,c⟩
 |dT kvs=>
  obtain⟨z,y,xs,r,ob,es,ep,e,c⟩:=x;exact⟨z,y,xs,Paired.mapP r fun p q z=>⟨z.1,z.2.1.mono ht,z.2.2⟩,ob,es,ep,k _ _ @14 e,c⟩
 |set S n=>obtain⟨ob,es,ep,t,e,c⟩:=x;exact⟨ob,es,ep,t,k _ _ @14 e,c⟩
 |ins C dx fs=>
  obtain⟨d,z,ne,e,mA,⟨od,es,ep,e2,c⟩,r⟩:=x;exact⟨ho _ d,z,ne,k _ _ @14 e,mA,⟨od,es,ep,k _ _ (.inr d) e2,c⟩,r⟩
 |own y=>obtain⟨ob,e⟩:=x;exact⟨ob,k _ _ @14 e⟩
 |xd fs=>obtain⟨mA,⟨od,es,ep,e,c⟩,r⟩:=x;exact⟨mA,⟨od,es,ep,k _ _ @14 e,c⟩,r⟩
 |rng lo hi=>obtain⟨t,u,v,e⟩:=x;exact⟨t,u,v,k _ _ @14 e⟩
 |frz ob u ih=>obtain⟨e,q⟩:=x;exact⟨k _ _ @14 e,ih q⟩
 |tbl ps=>
  have e:h.get? a=some { cls:=.none,data:=.fields ps }:=x;show h'.get? a=some { cls:=.none,data:=.fields ps };exact k a _ @14 e
 |met f y=>
  have e:h.get? a=some (zs0 (.ref f) (.ref y)):=x;show h'.get? a=some (zs0 (.ref f) (.ref y));exact k a _ @14 e
 |ext φ=>obtain⟨p,⟨o,e⟩,st⟩:=x;exact⟨st _ _ p fun o q=>k _ _ @14 q,⟨o,k _ _ @14 e⟩,st⟩
theorem HOk.lt (x:HOk P w H h)(e:H a=some o):a<h.objs.size:=(x a o e).lt
theorem HOk.fresh (x:HOk P w H h)(e:h.objs.size<=a):H a=none:=by
 cases q:H a with
 |none=>rfl
 |some u=>exact absurd (z46 (x.lt q) e) (ze8 _)
theorem HOk.kept (x:HOk P w H h)(k:∀b u,h.get? b=some u->h'.get? b=some u):HOk P w H h':=fun a o e=>
 (x a o e).stay (fun b u _ q=>k b u q) (fun _ q=>q) fun _ _ q=>q
theorem HOk.laid (x:HOk P w H h)(k:∀b u,h.get? b=some u->h'.get? b=some u)(hp:h.objs.size<=a)(new:ObjOk P w (upd H a o) h' a o):HOk P w (upd H a o) h':=fun b u e=>by
 have hn:=x.fresh hp
 by_cases hb:b=a
 ·subst hb;rw[upd_same] at e;cases e;exact new
 ·rw[upd_ne hb] at e;exact(x b u e).stay (fun c v _ q=>k c v q) (fun c q=>by rw[upd_ne (ne_of_none q hn)];exact q) fun c xs q=>by rw[upd_ne (ne_of_none q hn)];exact q
end
def Rd (H:Hp)(a:Addr)(u:HO):Prop:=H a=some u\/∃o,H a=some (.frz o u)
theorem Rd.ok{H:Hp}{u:HO}(r:Rd H a u)(x:HOk P w H h):ObjOk P w H h a u:=by
 rcases r with r|⟨o,r⟩
 ·exact x a u r
 ·obtain⟨_,q⟩:=x a _ r;exact q
def Mut:Option HO->Prop
 |some (.lst _)=>True
 |some (.dK _)=>True
 |some (.dT _)=>True
 |some (.set _ _)=>True
 |some (.ins _ _ _)=>True
 |some (.ext _)=>True
 |_=>False
section
variable {H:Hp}{x e:Addr}{o':HO}
theorem HOk.write (ok:HOk P w H h)(mu:Mut (H x))(he:e=x\/H e=some (.own x))(k:∀b u,b≠e->h.get? b=some u->h'.get? b=some u)(heo:∃u,h'.get? e=some u)
  (new:ObjOk P w (upd H x o') h' x o'):HOk P w (upd H x o') h':=fun b u q=>by
 have nown:∀c y,H c=some (.own y)->c≠x:=fun c y r z=>by subst z;rw[r] at mu;exact mu
 have ntup:∀c xs,H c=some (.tup xs)->c≠x:=fun c xs r z=>by subst z;rw[r] at mu;exact mu
 by_cases hb:b=x
 ·subst hb;rw[upd_same] at q;cases q;exact new
 ·rw[upd_ne hb] at q
  by_cases hbe:b=e
  ·have q':H b=some (.own x):=by
    rcases he with z|z
    ·exact absurd (hbe.trans z) hb
    ·rw[hbe];exact z
   rw[q] at q';cases q';obtain⟨v,hv⟩:=heo;exact⟨v,by rw[hbe];exact hv⟩
  ·refine(ok b u q).stay (fun c v hc r=>k c v ?_ r) (fun c r=>by rw[upd_ne (nown c b r)];exact r) fun c xs r=>by rw[upd_ne (ntup c xs r)];exact r
   rcases hc with rfl|hc
   ·exact hbe
   ·rintro rfl;rcases he with z|z
    ·exact nown c b hc z
    ·rw[hc] at z;cases z;exact hb rfl
end
structure Un (fs ex:List Addr)(H H':Hp)(h h':Heap):Prop where
 keep:∀b o,h.get? b=some o->H b=none->b∉fs->b∉ex->h'.get? b=some o
 slot:∀b o,h.get? b=some o->H b=none->b∈fs->b∉ex->∃sl,h'.get? b=some { o with slots:=sl }
 free:∀b o,h.get? b=some o->H b=none->b∉ex->H' b=none
 there:∀b o,h.get? b=some o->b∉ex->∃o',h'.get? b=some o'
 tups:∀b xs,H b=some (.tup xs)->H' b=some (.tup xs)
 frzs:∀b o u,H b=some (.frz o u)->H' b=some (.frz o u)
 tbls:∀b ps,H b=some (.tbl ps)->∃more,H' b=some (.tbl (ps++more))
section
variable {fs ex:List Addr}{H H1:Hp}{h1:Heap}{x e:Addr}{o:HO}
theorem Un.any (u:Un fs ex H H1 h h1){ob:Obj}(q:h.get? b=some ob)(n:H b=none)(hx:b∉ex):∃sl,h1.get? b=some { ob with slots:=sl }:=by
 by_cases hb:b∈fs
 ·exact u.slot b ob q n hb hx
 ·exact⟨ob.slots,u.keep b ob q n hb hx⟩
theorem Un.kept (k:∀b u,h.get? b=some u->h'.get? b=some u):Un fs ex H H h h':=
 ⟨fun b ob q _ _ _=>k b ob q,fun b ob q _ _ _=>⟨ob.slots,k b ob q⟩,fun _ _ _ n _=>n,fun b ob q _=>⟨ob,k b ob q⟩,fun _ _ q=>q,fun _ _ _ q=>q,fun _ ps q=>⟨#[],by rw[q];simp⟩⟩
theorem Un.refl:Un fs ex H H h h:=Un.kept fun _ _ q=>q
theorem Un.laid (k:∀b u,h.get? b=some u->h'.get? b=some u)(hp:h.objs.size<=a)(hn:H a=none):Un fs ex H (upd H a o) h h' where
 keep:=fun b u q _ _ _=>k b u q
 slot:=fun b u q _ _ _=>⟨u.slots,k b u q⟩
 free:=fun b u q n _=>by rw[upd_ne (z45 (z46 (z34 q) hp))];exact n
 there:=fun b u q _=>⟨u,k b u q⟩
 tups:=fun b xs q=>by rw[upd_ne (ne_of_none q hn)];exact q
 frzs:=fun b u xs q=>by rw[upd_ne (ne_of_none q hn)];exact q
 tbls:=fun b ps q=>⟨#[],by rw[upd_ne (ne_of_none q hn),q];simp⟩
theorem Un.write (mu:Mut (H x))(he:e=x\/H e=some (.own x))(k:∀b u,b≠e->h.get? b=some u->h'.get? b=some u)(heo:∃u,h'.get? e=some u):Un fs ex H (upd H x o) h h':=by
 have hx:∀b,H b=none->b≠x:=fun b n z=>by subst z;rw[n] at mu;exact mu
 have hb:∀b,H b=none->b≠e:=fun b n z=>by
  subst z;rcases he with r|r
  ·exact hx b n r
  ·rw[n] at r;cases r
 have hm:∀b u,H b=some u->¬ Mut (some u)->b≠x:=fun b u q nm z=>by subst z;rw[q] at mu;exact nm mu
 refine⟨fun b u q n _ _=>k b u (hb b n) q,fun b u q n _ _=>⟨u.slots,k b u (hb b n) q⟩,fun b u q n _=>by rw[upd_ne (hx b n)];exact n,fun b u q _=>?_,
  fun b xs q=>by rw[upd_ne (hm b _ q fun z=>z)];exact q,fun b u xs q=>by rw[upd_ne (hm b _ q fun z=>z)];exact q,fun b ps q=>⟨#[],by rw[upd_ne (hm b _ q fun z=>z),q];simp⟩⟩
 by_cases hbe:b=e
 ·subst hbe;exact heo
 ·exact⟨u,k b u hbe q⟩
end
def trk (h:Heap)(H:Hp):List Addr:=(z41 h.objs.size).filter fun a=>(H a).isSome
def hidT (h:Heap)(H:Hp):Heap:=PySem.W.hideAll h (trk h H)
theorem hidT_size (h:Heap)(H:Hp):(hidT h H).objs.size=h.objs.size:=PySem.W.hideAll_size _ _
theorem hidT_get{H:Hp}{o:Obj}(e:h.get? b=some o)(n:H b=none):(hidT h H).get? b=some o:=
 PySem.W.hideAll_get _ e fun hm=>by
  have q:(H b).isSome=true:=(z77.mp hm).2;rw[n] at q;simp at q
theorem of_hidT{H:Hp}{o:Obj}(e:(hidT h H).get? b=some o):h.get? b=some o/\H b=none:=by
 have e':h.get? b=some o:=PySem.W.of_hideAll (trk h H) e;refine⟨e',?_⟩
 cases q:H b with
 |none=>rfl
 |some x=>
  have hm:b∈trk h H:=z77.mpr ⟨z70.mpr (z34 e'),by simp[q]⟩;have z:(hidT h H).get? b=none:=PySem.W.hideAll_none (trk h H) hm;rw[z] at e;cases e
structure Mod (K:z02)(mg:Str->Option Value)(base:Heap):Prop where
 kin:K.In base
 glob:base.Ns z68 mg
 blt:∃mb,base.Ns builtinsNs mb/\∀x:Str,x ≠ "__name__" -> mb x=z90 x
 nolimit:base.NoLimit
structure Cx where
 prog:Program
 w:World
 K:z02
 mg:Str->Option Value
 base:Heap
 A:Around
 N:List Str
 s₀:Shared
 H₀:Hp
 env:Env
 outer:List Env
 stack:List Env
 ex:List Addr
 fn:Str->Bool
 calm:Bool
 pn:List @8
 xe:Value->Shared->Prop
variable {X:Cx}
def frs (l:List Env):List Addr:=l.filterMap (·.frame)
abbrev Cx.fs (X:Cx):List Addr:=frs X.outer
def Vis (sc:Scope)(x:Str):Prop:=sc.names.lookup x=some .local\/sc.names.lookup x=some .cell\/sc.names.lookup x=some .free
def Loc (sc:Scope)(x:Str):Prop:=sc.names.lookup x=some .local\/sc.names.lookup x=some .cell
def Look (env:Env)(h:Heap)(m:Str->Option Value)(x:Str)(u:Value):Prop:=
 (env.kindOf x=some .local/\m x=some u)\/((env.kindOf x=some .cell\/env.kindOf x=some .free)/\∃c,env.cells.lookup x=some c/\h.IsCell c (some u))
structure Cx.Ok (X:Cx):Prop where
 mod:Mod X.K X.mg X.base
 kind:X.env.scope.kind=.function
 glob:X.env.globals=z68
 blt:X.env.builtins=builtinsNs
 above:X.s₀.heap.objs.size<=X.env.locals
 inj:∀x y c,X.env.cells.lookup x=some c->X.env.cells.lookup y=some c->x=y
 has:∀x,(X.env.kindOf x=some .cell\/X.env.kindOf x=some .free)->∃c,X.env.cells.lookup x=some c
 cab:∀x c,X.fn x=true->X.env.cells.lookup x=some c->X.s₀.heap.objs.size<=c
 hd:X.calm=true->X.A.handled=none
 frames:X.A.frames=some X.stack
 stk:X.stack=X.outer\/(X.stack=X.env::X.outer/\X.env.frame=some X.env.locals)
 exf:∀b∈X.ex,b≠X.env.locals/\∀x c,X.env.cells.lookup x=some c->c≠b
 bs:∀b o,X.base.get? b=some o->X.s₀.heap.get? b=some o/\X.H₀ b=none
 bsz:X.base.objs.size<=X.s₀.heap.objs.size
 noex:∀b o,X.base.get? b=some o->b∉X.ex
 exfs:∀b∈X.ex,b∉X.fs
 funs:X.s₀.heap.FunFrames X.base X.outer
 frf:∀b∈X.fs,X.H₀ b=none
structure Inv (X:Cx)(pins:List @8)(σ:List (Option V))(H:Hp)(s:Shared):Prop where
 ok:X.Ok
 os:s.os=X.s₀.os
 bare:AllBare s.gens
 base:Un X.fs X.ex X.H₀ H X.s₀.heap s.heap
 loc:∃m,s.heap.Ns X.env.locals m/\∀(i:Nat) (x:Str) (v:V),X.N[i]? = some x->σ[i]? = some @26->Vis X.env.scope x->∃u,RelV v u/\Look X.env s.heap m x u
 cell:∀x c,X.env.cells.lookup x=some c->∃v,s.heap.IsCell c v
 free:H X.env.locals=none
 freeC:∀x c,X.env.cells.lookup x=some c->H c=none
 pin:∀p∈X.pn++pins,s.heap.get? p.1=some p.2/\H p.1=none/\p.1≠X.env.locals/\p.1∉X.fs/\∀v,p.2.data≠.cell v
 hok:HOk X.prog X.w H s.heap
 len:σ.length=X.N.length
section
variable {X:Cx}{pins:List @8}{σ:List (Option V)}{H H':Hp}{s:Shared}{h':Heap}
theorem Cx.Ok.nofr (ok:X.Ok){o:Obj}(e:X.base.get? b=some o):b∉X.fs:=fun hb=>by
 have:=(ok.funs.mem hb).1;rw[e] at this;cases this
theorem Inv.bs (I:Inv X pins σ H s):∀b o,X.base.get? b=some o->s.heap.get? b=some o/\H b=none:=fun b o e=>
 ⟨I.base.keep b o (I.ok.bs b o e).1 (I.ok.bs b o e).2 (I.ok.nofr e) (I.ok.noex b o e),I.base.free b o (I.ok.bs b o e).1 (I.ok.bs b o e).2 (I.ok.noex b o e)⟩
theorem Inv.bk (I:Inv X pins σ H s):∀b o,X.base.get? b=some o->s.heap.get? b=some o:=fun b o e=>(I.bs b o e).1
theorem Inv.mod (I:Inv X pins σ H s):Mod X.K X.mg X.base:=I.ok.mod
theorem Inv.kIn (I:Inv X pins σ H s):X.K.In s.heap:=I.ok.mod.kin.keeps I.bk
theorem Inv.fr (I:Inv X pins σ H s):∃m,Fr X.base X.env.locals s.heap m:=
 let ⟨m,hn,_⟩:=I.loc
 ⟨m,hn,I.bk,z73 I.ok.bsz I.ok.above⟩
theorem Inv.lt (I:Inv X pins σ H s):X.env.locals<s.heap.objs.size:=let ⟨_,hn,_⟩:=I.loc;hn.lt
theorem Inv.sz (I:Inv X pins σ H s):X.s₀.heap.objs.size<=s.heap.objs.size:=z73 I.ok.above (za3 I.lt)
theorem Inv.nofs (I:Inv X pins σ H s)(h:s.heap.objs.size<=a):a∉X.fs:=fun hb=>by
 obtain⟨_,o,ho,_⟩:=I.ok.funs.mem hb;exact absurd (z46 (z34 ho) (z73 I.sz h)) (ze8 _)
theorem Inv.cne (I:Inv X pins σ H s):∀x c,X.env.cells.lookup x=some c->c≠X.env.locals:=fun x c e z=>by
 obtain⟨v,o,ho,hd⟩:=I.cell x c e;obtain⟨m,⟨o',es,ep,ho',hd',_⟩,_⟩:=I.loc;rw[z,ho'] at ho;cases ho;rw[hd'] at hd;cases hd
theorem Inv.funs (I:Inv X pins σ H s):s.heap.FunFrames X.base X.outer:=by
 have all:∀(l:List Env),(∀b∈frs l,b∈X.fs)->X.s₀.heap.FunFrames X.base l->s.heap.FunFrames X.base l:=by
  intro l
  induction l with
  |nil=>intro _ _;trivial
  |cons env r ih=>
   intro hs hl;obtain⟨hk,⟨L,o,hf,hn,ho,hd⟩,hr⟩:=hl;have hL:L∈X.fs:=hs L (by unfold frs;rw[z81,hf];exact z09);obtain⟨sl,e⟩:=I.base.slot L o ho (I.ok.frf L hL) hL fun z=>I.ok.exfs L z hL;exact⟨hk,⟨L,_,hf,hn,e,hd⟩,ih (fun b hb=>hs b (by unfold frs;rw[z81,hf];exact z07 _ hb)) hr⟩
 exact all X.outer (fun _ hb=>hb) I.ok.funs
theorem Inv.stack (I:Inv X pins σ H s):s.heap.FunFrames X.base X.stack:=by
 rcases I.ok.stk with e|⟨e,hf⟩
 ·rw[e];exact I.funs
 ·rw[e];obtain⟨m,hn,_⟩:=I.loc;refine .cons (by rw[I.ok.kind];decide) hf hn ?_ I.funs;exact zl0 (z73 I.ok.bsz I.ok.above)
theorem Inv.stkSub (I:Inv X pins σ H s):∀b∈frs X.stack,b∈X.env.locals::X.fs:=fun b hb=>by
 rcases I.ok.stk with e|⟨e,hf⟩
 ·rw[e] at hb;exact z07 _ hb
 ·rw[e] at hb;unfold frs at hb;rw[z81,hf] at hb;exact hb
theorem Inv.stkFree (I:Inv X pins σ H s):∀b∈frs X.stack,H b=none:=fun b hb=>by
 rcases z21.mp (I.stkSub b hb) with e|hb
 ·rw[e];exact I.free
 ·obtain⟨_,o,ho,_⟩:=I.ok.funs.mem hb;exact I.base.free b o ho (I.ok.frf b hb) fun z=>I.ok.exfs b z hb
theorem Inv.step {g':Array GenState}{t':Nat}{d':Drawn}{ch:List Addr}(I:Inv X pins σ H s)
  (hch:∀b∈ch,(b∈X.ex\/X.s₀.heap.objs.size<=b)/\b≠X.env.locals/\(∀x c,X.env.cells.lookup x=some c->c≠b)/\∀p∈X.pn++pins,p.1≠b)
  (keep:∀b o,b≠X.env.locals->b∉X.fs->b∉ch->s.heap.get? b=some o->H b=none->h'.get? b=some o)
  (slot:∀b o,b≠X.env.locals->b∈X.fs->b∉ch->s.heap.get? b=some o->H b=none->∃sl,h'.get? b=some { o with slots:=sl }) (free:∀b o,b∉ch->s.heap.get? b=some o->H b=none->H' b=none)
  (there:∀b o,b∉ch->s.heap.get? b=some o->∃o',h'.get? b=some o')
  (tups:∀b xs,H b=some (.tup xs)->H' b=some (.tup xs)) (frzs:∀b o u,H b=some (.frz o u)->H' b=some (.frz o u)) (tbls:∀b ps,H b=some (.tbl ps)->∃more,H' b=some (.tbl (ps++more)))
  (ns:∀m,s.heap.Ns X.env.locals m->h'.Ns X.env.locals m) (hok:HOk X.prog X.w H' h') (hg:AllBare g') :
  Inv X pins σ H' { s with heap:=h',gens:=g',drawn:=d',toks:=t' }:=by
 have neL:∀b o,X.s₀.heap.get? b=some o->b≠X.env.locals:=fun b o e=>z45 (z46 (z34 e) I.ok.above)
 have neC:∀b o,X.s₀.heap.get? b=some o->b∉X.ex->b∉ch:=fun b o e hx hb=>by
  rcases(hch b hb).1 with z|z
  ·exact hx z
  ·exact absurd (z46 (z34 e) z) (ze8 _)
 have cellK:∀x c,X.env.cells.lookup x=some c->∀v,s.heap.IsCell c v->h'.IsCell c v:=fun x c e v ⟨o,ho,hd⟩=>by
  have nch:c∉ch:=fun z=>(hch c z).2.2.1 x c e rfl
  by_cases hc:c∈X.fs
  ·obtain⟨sl,q⟩:=slot c o (I.cne x c e) hc nch ho (I.freeC x c e);exact⟨_,q,hd⟩
  ·exact⟨o,keep c o (I.cne x c e) hc nch ho (I.freeC x c e),hd⟩
 refine⟨I.ok,I.os,hg,⟨fun b o e n hb hx=>?_,fun b o e n hb hx=>?_,fun b o e n hx=>?_,fun b o e hx=>?_,fun b xs e=>tups b xs (I.base.tups b xs e),fun b o xs e=>frzs b o xs (I.base.frzs b o xs e),fun b ps e=>?_⟩,?_,fun x c e=>?_,?_,fun x c e=>?_,fun p hp=>?_,hok,I.len⟩
 ·exact keep b o (neL b o e) hb (neC b o e hx) (I.base.keep b o e n hb hx) (I.base.free b o e n hx)
 ·obtain⟨sl,e1⟩:=I.base.slot b o e n hb hx;obtain⟨sl',e2⟩:=slot b _ (neL b o e) hb (neC b o e hx) e1 (I.base.free b o e n hx);exact⟨sl',e2⟩
 ·obtain⟨o',e1⟩:=I.base.there b o e hx;exact free b o' (neC b o e hx) e1 (I.base.free b o e n hx)
 ·obtain⟨o',e1⟩:=I.base.there b o e hx;exact there b o' (neC b o e hx) e1
 ·obtain⟨m1,e1⟩:=I.base.tbls b ps e;obtain⟨m2,e2⟩:=tbls b _ e1;exact⟨m1++m2,by rw[e2,Array.append_assoc]⟩
 ·obtain⟨m,hn,hl⟩:=I.loc;refine⟨m,ns m hn,fun i x v e1 e2 e3=>?_⟩;obtain⟨u,r,l⟩:=hl i x v e1 e2 e3;refine⟨u,r,?_⟩;rcases l with l|⟨k,c,e,z⟩
  ·exact .inl l
  ·exact .inr ⟨k,c,e,cellK x c e _ z⟩
 ·obtain⟨v,z⟩:=I.cell x c e;exact⟨v,cellK x c e v z⟩
 ·obtain⟨m,⟨o,_,_,ho,_⟩,_⟩:=I.loc;exact free _ o (fun z=>(hch _ z).2.1 rfl) ho I.free
 ·obtain⟨v,o,ho,hd⟩:=I.cell x c e;exact free c o (fun z=>(hch c z).2.2.1 x c e rfl) ho (I.freeC x c e)
 ·obtain⟨e,n,ne,nf,d⟩:=I.pin p hp;have nch:p.1∉ch:=fun z=>(hch p.1 z).2.2.2 p hp rfl;exact⟨keep p.1 p.2 ne nf nch e n,free p.1 p.2 nch e n,ne,nf,d⟩
theorem Inv.un(I:Inv X pins σ H s)(u:Un X.fs [] H H' s.heap h')(hok:HOk X.prog X.w H' h'):Inv X pins σ H' { s with heap:=h',toks:=t' }:=by
 obtain⟨m,⟨o,es,ep,ho,r⟩,_⟩:=id I.loc;obtain⟨sl,hL⟩:=u.any ho I.free @6
 exact I.step (g':=s.gens) (d':=s.drawn) (ch:=[]) @5 (fun b o _ hb _ e n=>u.keep b o e n hb @6) (fun b o _ hb _ e n=>u.slot b o e n hb @6) (fun b o _ e n=>u.free b o e n @6) (fun b o _ e=>u.there b o e @6) u.tups u.frzs u.tbls (fun m' hm=>by
  obtain⟨o',es',ep',ho',r'⟩:=hm;rw[ho] at ho';cases ho'
  exact⟨_,es',ep',hL,r'⟩) hok I.bare
theorem Inv.call {g':Array GenState}{d':Drawn}(I:Inv X pins σ H s)(u:Un (frs X.stack) ch H H' s.heap h')(hok:HOk X.prog X.w H' h')(hg:AllBare g')
  (hch:∀b∈ch,(b∈X.ex\/X.s₀.heap.objs.size<=b)/\b≠X.env.locals/\(∀x c,X.env.cells.lookup x=some c->c≠b)/\∀p∈X.pn++pins,p.1≠b) :
  Inv X pins σ H' { s with heap:=h',gens:=g',drawn:=d',toks:=t' }:=by
 obtain⟨m,⟨o,es,ep,ho,r⟩,_⟩:=id I.loc;obtain⟨sl,hL⟩:=u.any ho I.free fun z=>(hch _ z).2.1 rfl
 exact I.step (ch:=ch) hch (fun b o hL hb hc e n=>u.keep b o e n (fun z=>(z21.mp (I.stkSub b z)).elim hL hb) hc) (fun b o _ _ hc e n=>u.any e n hc) (fun b o hc e n=>u.free b o e n hc) (fun b o hc e=>u.there b o e hc) u.tups u.frzs u.tbls (fun m' hm=>by
  obtain⟨o',es',ep',ho',r'⟩:=hm;rw[ho] at ho';cases ho'
  exact⟨_,es',ep',hL,r'⟩) hok hg
theorem Inv.turned{it:Addr}(I:Inv X pins σ H s)(k:∀b o,b≠it->s.heap.get? b=some o->h'.get? b=some o)(hn:H it=none)(hL:it≠X.env.locals)
  (h1:it∈X.ex\/X.s₀.heap.objs.size<=it) (h2:∀x c,X.env.cells.lookup x=some c->c≠it) (h3:∀p∈X.pn++pins,p.1≠it):Inv X pins σ H { s with heap:=h',toks:=t' }:=by
 have nit:∀b u,H b=some u->b≠it:=fun b u e z=>by rw[z,hn] at e;cases e
 refine I.step (g':=s.gens) (d':=s.drawn) (ch:=[it]) (fun b hb=>?_) (fun b o _ _ hc e _=>k b o (fun z=>hc (by simp[z])) e) (fun b o _ _ hc e _=>⟨o.slots,k b o (fun z=>hc (by simp[z])) e⟩) (fun _ _ _ _ n=>n)
  (fun b o hc e=>⟨o,k b o (fun z=>hc (by simp[z])) e⟩) (fun _ _ e=>e) (fun _ _ _ e=>e) (fun b ps e=>⟨#[],by rw[e];simp⟩) (fun m hm=>?_) (fun b u e=>?_) I.bare
 ·have e:b=it:=by simpa using hb
  subst e;exact⟨h1,hL,h2,h3⟩
 ·obtain⟨o,es,ep,ho,r⟩:=hm;exact⟨o,es,ep,k _ o (zh9 hL) ho,r⟩
 ·refine(I.hok b u e).stay (fun c v hc q=>k c v ?_ q) (fun _ q=>q) fun _ _ q=>q;rcases hc with z|z
  ·rw[z];exact nit b u e
  ·exact nit c _ z
theorem Inv.tok (I:Inv X pins σ H s)(t:Nat):Inv X pins σ H { s with toks:=t }:=I.un (h':=s.heap) (t':=t) Un.refl I.hok
theorem Inv.kept {t':Nat}(I:Inv X pins σ H s)(k:∀b u,s.heap.get? b=some u->h'.get? b=some u):Inv X pins σ H { s with heap:=h',toks:=t' }:=I.un (Un.kept k) (I.hok.kept k)
theorem Inv.laid {a:Addr}{o:HO}{t':Nat}(I:Inv X pins σ H s)(k:∀b u,s.heap.get? b=some u->h'.get? b=some u)(hp:s.heap.objs.size<=a)(new:ObjOk X.prog X.w (upd H a o) h' a o) :
  Inv X pins σ (upd H a o) { s with heap:=h',toks:=t' }:=I.un (Un.laid k hp (I.hok.fresh hp)) (I.hok.laid k hp new)
theorem Inv.write {x e:Addr}{o:HO}{t':Nat}(I:Inv X pins σ H s)(mu:Mut (H x))(he:e=x\/H e=some (.own x))(k:∀b u,b≠e->s.heap.get? b=some u->h'.get? b=some u)(heo:∃u,h'.get? e=some u)
  (new:ObjOk X.prog X.w (upd H x o) h' x o):Inv X pins σ (upd H x o) { s with heap:=h',toks:=t' }:=I.un (Un.write mu he k heo) (I.hok.write mu he k heo new)
theorem Inv.weak {σ':List (Option V)}(I:Inv X pins σ H s)(hl:σ'.length=σ.length)(w:∀(i:Nat) v,σ'[i]? = some @26->σ[i]? = some @26):Inv X pins σ' H s:=
 ⟨I.ok,I.os,I.bare,I.base,let ⟨m,hn,hl'⟩:=I.loc;⟨m,hn,fun i x v e1 e2 e3=>hl' i x v e1 (w i v e2) e3⟩,I.cell,I.free,I.freeC,I.pin,I.hok,hl.trans I.len⟩
theorem Inv.pins_of {pins':List @8}(I:Inv X pins σ H s)(h:∀p∈pins',s.heap.get? p.1=some p.2/\H p.1=none/\p.1≠X.env.locals/\p.1∉X.fs/\∀v,p.2.data≠.cell v):Inv X pins' σ H s:=
 ⟨I.ok,I.os,I.bare,I.base,I.loc,I.cell,I.free,I.freeC,fun p hp=>(z08.mp hp).elim (fun z=>I.pin p (z13 _ z)) (h p),I.hok,I.len⟩
theorem nodup_ix(hN:N.Nodup){j:Nat}(a:N[i]? = some x)(b:N[j]? = some x):i=j:=by
 obtain⟨h1,e1⟩:=z11.mp a;obtain⟨h2,e2⟩:=z11.mp b;exact(zh6 hN).mp (e1.trans e2.symm)
theorem store_ok2{Q:Unit->Shared->Prop}(I:Inv X pins σ H s)(hN:X.N.Nodup)(hi:X.N[i]? = some x)(hx:Loc X.env.scope x)(r:RelV v u)
  (h:∀s',Inv X pins (σ.set i @26) H s'->(∃a,zd3 a s.heap s'.heap/\(a=X.env.locals\/X.env.cells.lookup x=some a))->Q () s') (hf:X.fn x=true\/X.env.scope.names.lookup x=some .local:=by first|exact .inl rfl|exact .inr rfl|assumption):wpAny M A (storeName X.env x u) Q E s:=by
 obtain⟨m,hn,hl⟩:=id I.loc;have hcls:(X.env.scope.kind == .class || (X.env.scope.kind == .module && X.env.locals != X.env.globals))=false:=by rw[I.ok.kind];rfl
 have hiσ:i<σ.length:=by rw[I.len];exact(z11.mp hi).1
 have cne:=I.cne
 have tracked:∀{a:Addr} {h':Heap},(∃o,s.heap.get? a=some o/\H a=none)->zd3 a s.heap h'->HOk X.prog X.w H h':=fun{a h'} ha hs b ob e=>by
  obtain⟨_,_,hfree⟩:=ha;refine(I.hok b ob e).stay (fun c w' hc q=>(hs.2 c ?_).trans q) (fun _ q=>q) fun _ _ q=>q;rintro rfl;rcases hc with rfl|hc
  ·rw[hfree] at e;cases e
  ·rw[hfree] at hc;cases hc
 rcases hx with hk|hk
 ·refine wpAny_storeName_local hk hn (fun h' hn' hs=>?_) hcls;obtain⟨oL,_,_,hoL,_⟩:=id hn;refine h _ ⟨I.ok,I.os,I.bare,⟨fun b o e n hb hx=>?_,fun b o e n hb hx=>?_,I.base.free,fun b o e hx=>?_,I.base.tups,I.base.frzs,I.base.tbls⟩,⟨_,hn',fun j y v' e1 e2 e3=>?_⟩,fun y c e=>?_,I.free,I.freeC,fun p hp=>?_,tracked ⟨oL,hoL,I.free⟩ hs,by simpa using I.len⟩ ⟨_,hs,.inl rfl⟩
  ·exact(hs.2 b (z45 (z46 (z34 e) I.ok.above))).trans (I.base.keep b o e n hb hx)
  ·obtain⟨sl,e1⟩:=I.base.slot b o e n hb hx;exact⟨sl,(hs.2 b (z45 (z46 (z34 e) I.ok.above))).trans e1⟩
  ·obtain⟨o',e1⟩:=I.base.there b o e hx;exact⟨o',(hs.2 b (z45 (z46 (z34 e) I.ok.above))).trans e1⟩
  ·by_cases hj:j=i
   ·subst hj;rw[hi] at e1;cases e1;rw[z87 hiσ] at e2;cases e2
    exact⟨u,r,.inl ⟨hk,by simp⟩⟩
   ·rw[z95 (zh9 hj)] at e2;obtain⟨u',r',q⟩:=hl j y v' e1 e2 e3;refine⟨u',r',?_⟩;rcases q with⟨k,e⟩|⟨k,c,e,z⟩
    ·refine .inl ⟨k,?_⟩;have:y≠x:=fun e=>hj (nodup_ix hN e1 (e▸hi));simp[this,e]
    ·exact .inr ⟨k,c,e,z.sameBut hs (cne y c e)⟩
  ·obtain⟨w',z⟩:=I.cell y c e;exact⟨w',z.sameBut hs (cne y c e)⟩
  ·obtain⟨e,n,ne,nf,d⟩:=I.pin p hp;exact⟨(hs.2 p.1 ne).trans e,n,ne,nf,d⟩
 ·have hfn:X.fn x=true:=by
   rcases hf with z|z
   ·exact z
   ·rw[z] at hk;cases hk
  obtain⟨c,hc⟩:=I.ok.has x (.inl hk);obtain⟨w',z⟩:=I.cell x c hc;refine wpAny_storeName_cell I.ok.kind hk hc z (fun h' hc' hs=>?_);obtain⟨oc,hoc,hocd⟩:=id z;refine h { s with heap:=h' } ⟨I.ok,I.os,I.bare,⟨fun b o e n hb hx=>?_,fun b o e n hb hx=>?_,I.base.free,fun b o e hx=>?_,I.base.tups,I.base.frzs,I.base.tbls⟩,⟨m,hn.sameBut hs (zh9 (cne x c hc)),fun j y v' e1 e2 e3=>?_⟩,fun y c' e=>?_,I.free,I.freeC,fun p hp=>?_,tracked ⟨oc,hoc,I.freeC x c hc⟩ hs,by simpa using I.len⟩ ⟨c,hs,.inr hc⟩
  ·exact(hs.2 b (z45 (z46 (z34 e) (I.ok.cab x c hfn hc)))).trans (I.base.keep b o e n hb hx)
  ·obtain⟨sl,e1⟩:=I.base.slot b o e n hb hx;exact⟨sl,(hs.2 b (z45 (z46 (z34 e) (I.ok.cab x c hfn hc)))).trans e1⟩
  ·obtain⟨o',e1⟩:=I.base.there b o e hx;exact⟨o',(hs.2 b (z45 (z46 (z34 e) (I.ok.cab x c hfn hc)))).trans e1⟩
  ·by_cases hj:j=i
   ·subst hj;rw[hi] at e1;cases e1;rw[z87 hiσ] at e2;cases e2
    exact⟨u,r,.inr ⟨.inl hk,c,hc,hc'⟩⟩
   ·rw[z95 (zh9 hj)] at e2;obtain⟨u',r',q⟩:=hl j y v' e1 e2 e3;refine⟨u',r',?_⟩;rcases q with q|⟨k,c',e,z'⟩
    ·exact .inl q
    ·refine .inr ⟨k,c',e,z'.sameBut hs ?_⟩;rintro rfl;exact hj (nodup_ix hN e1 (I.ok.inj _ _ _ e hc▸hi))
  ·by_cases hcc:c'=c
   ·subst hcc;exact⟨_,hc'⟩
   ·obtain⟨w2,z2⟩:=I.cell y c' e;exact⟨w2,z2.sameBut hs hcc⟩
  ·obtain⟨e,n,ne,nf,d⟩:=I.pin p hp;refine⟨(hs.2 p.1 ?_).trans e,n,ne,nf,d⟩;intro q;rw[q,hoc] at e;have q':oc=p.2:=z26 e;exact d w' (by rw[← q'];exact hocd)
theorem store_ok{Q:Unit->Shared->Prop}(I:Inv X pins σ H s)(hN:X.N.Nodup)(hi:X.N[i]? = some x)(hx:Loc X.env.scope x)(r:RelV v u)
  (h:∀s',Inv X pins (σ.set i @26) H s'->Q () s') (hf:X.fn x=true\/X.env.scope.names.lookup x=some .local:=by first|exact .inl rfl|exact .inr rfl|assumption):wpAny M A (storeName X.env x u) Q E s:=
 store_ok2 I hN hi hx r (fun s' I' _=>h s' I') hf
theorem Inv.call'(I:Inv X pins σ H s)(ho:s'.os=s.os)(u:Un (frs X.stack) ch H H' s.heap s'.heap)(hok:HOk X.prog X.w H' s'.heap)(hg:AllBare s'.gens)
  (hch:∀b∈ch,(b∈X.ex\/X.s₀.heap.objs.size<=b)/\b≠X.env.locals/\(∀x c,X.env.cells.lookup x=some c->c≠b)/\∀p∈X.pn++pins,p.1≠b):Inv X pins σ H' s':=by
 obtain⟨h',g',d',t',o'⟩:=s';have e:o'=s.os:=ho;subst e;exact I.call (g':=g') (t':=t') (d':=d') u hok hg hch
end
abbrev XK:=Value->Option Addr->Hp->Prop
abbrev St:=List (Option V)
variable {σ:St}
abbrev VK:=V->Hp->Prop
abbrev TE:=St->Hp->VK->Prop
variable {ta tb te:TE}
abbrev TT:=St->Hp->(Bool->Hp->Prop)->Prop
abbrev TA:=St->Hp->(List V->Hp->Prop)->Prop
structure Ends where
 nx:St->Hp->Prop
 rt:VK
 bk:St->Hp->Prop:=fun _ _=>False
 ct:St->Hp->Prop:=fun _ _=>False
abbrev TS:=Ends->St->Hp->Prop
def EP (X:Cx)(pins:List @8)(σ:St)(Q:VK)(u:Value)(s':Shared):Prop:=∃v H',Inv X pins σ H' s'/\RelV v u/\Q v H'
def TP (X:Cx)(pins:List @8)(σ:St)(Q:Bool->Hp->Prop)(b:Bool)(s':Shared):Prop:=∃H',Inv X pins σ H' s'/\Q b H'
def AP (X:Cx)(pins:List @8)(σ:St)(Q:List V->Hp->Prop)(us:List Value)(s':Shared):Prop:=∃vs H',Inv X pins σ H' s'/\Vals vs us/\Q vs H'
def SP (X:Cx)(pins:List @8)(D:Ends)(f:Flow)(s':Shared):Prop:=
 match f with
 |.next=>∃σ' H',Inv X pins σ' H' s'/\D.nx σ' H'
 |.brk=>∃σ' H',Inv X pins σ' H' s'/\D.bk σ' H'
 |.cont=>∃σ' H',Inv X pins σ' H' s'/\D.ct σ' H'
 |.ret u=>∃v σ' H',Inv X pins σ' H' s'/\RelV v u/\D.rt v H'
def PE (X:Cx)(e:Expr)(t:TE):Prop:=
 ∀(pins:List @8) (s:Shared) (σ:St) (H:Hp) (Q:VK),Inv X pins σ H s->t σ H Q->wpAny @3 X.A (eval e X.env) (EP X pins σ Q) X.xe s
def PT (X:Cx)(e:Expr)(t:TT):Prop:=
 ∀(pins:List @8) (s:Shared) (σ:St) (H:Hp) (Q:Bool->Hp->Prop),Inv X pins σ H s->t σ H Q->wpAny @3 X.A (isTrue e X.env (eval e X.env)) (TP X pins σ Q) X.xe s
def PW (X:Cx)(e:Expr)(t:TT):Prop:=
 ∀(whole:Sem Value) (pins:List @8) (s:Shared) (σ:St) (H:Hp) (Q:Bool->Hp->Prop),Inv X pins σ H s->t σ H Q->wpAny @3 X.A (isTrue e X.env whole) (TP X pins σ Q) X.xe s
theorem PW.pt{t:TT}(h:PW X e t):PT X e t:=h _
def PA (X:Cx)(es:List Expr)(t:TA):Prop:=
 ∀(pos:Pos) (pins:List @8) (s:Shared) (σ:St) (H:Hp) (Q:List V->Hp->Prop),Inv X pins σ H s->t σ H Q->wpAny @3 X.A (spliced (backTo pos (starEach es X.env))) (AP X pins σ Q) X.xe s
def PS (X:Cx)(st:Stmt)(t:TS):Prop:=
 ∀(pins:List @8) (s:Shared) (σ:St) (H:Hp) (D:Ends),Inv X pins σ H s->t D σ H->wpAny @3 X.A (exec st X.env) (SP X pins D) X.xe s
def PSs (X:Cx)(st:List Stmt)(t:TS):Prop:=
 ∀(pins:List @8) (s:Shared) (σ:St) (H:Hp) (D:Ends),Inv X pins σ H s->t D σ H->wpAny @3 X.A (execs st X.env) (SP X pins D) X.xe s
theorem thn {α:Type}{t:Sem α}{Q Q':α->Shared->Prop}(h:wpAny M A t Q E s)(hQ:∀a s,Q a s->Q' a s):wpAny M A t Q' E s:=zb4 h hQ fun _ _ x=>x
section
def tVar (i:Nat):TE:=fun σ H Q=>∃v,σ[i]? = some @26/\Q v H
def tC (v:V):TE:=fun _ H Q=>Q v H
theorem pe_var(hN:X.N[i]? = some x)(hv:Vis X.env.scope x)(hd:@10=false:=by decide)(hcd:@23=false:=by decide):PE X (.Name x pos) (tVar i):=by
 intro pins s σ H Q I h;obtain⟨v,e,h⟩:=h;obtain⟨m,hn,hl⟩:=I.loc;obtain⟨u,r,l⟩:=hl i x v hN e hv;have fin:EP X pins σ Q u s:=⟨v,H,I,r,h⟩;rcases l with⟨hk,hm⟩|⟨hk,c,hc,hcell⟩
 ·exact wpAny_Name (wpAny_loadName_local I.ok.kind hk hn hm fin) hd
 ·rcases hk with hk|hk
  ·exact wpAny_Name (wpAny_loadName_cell I.ok.kind hk hc hcell fin) hd
  ·exact wpAny_Name (wpAny_loadName_free I.ok.kind hk hc hcell fin hcd) hd
theorem pe_int {i j pos}:PE X (.Constant (.int i) j pos) (tC (.int i)):=fun _ _ _ H _ I h=>wpAny_Constant_int ⟨.int i,H,I.tok _,⟨_,rfl⟩,h⟩
theorem pe_bl {b j pos}:PE X (.Constant (.bool b) j pos) (tC (.bl b)):=fun _ _ _ H _ I h=>Constant_bool ⟨.bl b,H,I,rfl,h⟩
def Gl (X:Cx)(x:Str):Prop:=X.env.kindOf x=some .globalImplicit
theorem ld_glob{H:Hp}(I:Inv X pins σ H s)(hg:Gl X x)(hm:X.mg x=some u)(h:Q u s)
  (hd:@10=false:=by decide):wpAny @3 X.A (eval (.Name x pos) X.env) Q E s:=
 zx1 I.ok.kind hg (Calls.loadGlobal_global (by rw[I.ok.glob];exact I.mod.glob.keeps I.bk) hm h) hd
theorem ld_blt{H:Hp}(I:Inv X pins σ H s)(hg:Gl X x)(hm:X.mg x=none)(hv:z90 x=some u)(h:Q u s)
  (hn:x ≠ "__name__" := by decide) (hd:@10=false:=by decide):wpAny @3 X.A (eval (.Name x pos) X.env) Q E s:=by
 obtain⟨mb,h1,h2⟩:=I.mod.blt;exact zx1 I.ok.kind hg (Calls.loadGlobal_builtin (by rw[I.ok.glob];exact I.mod.glob.keeps I.bk) hm (by rw[I.ok.blt];exact h1.keeps I.bk) ((h2 x hn).trans hv) h) hd
variable {a b:Expr}
def PC (X:Cx)(op:CmpOp)(a b:Expr)(t:TE):Prop:=
 ∀(pins:List @8) (s:Shared) (σ:St) (H:Hp) (Q:VK),Inv X pins σ H s->t σ H Q->
  wpAny @3 X.A (eval a X.env) (fun v s₁=>wpAny @3 X.A (eval b X.env) (fun u s₂=>wpAny @3 X.A (compareOp op v u) (EP X pins σ Q) X.xe s₂) X.xe s₁) X.xe s
def tB (t:TE):TT:=fun σ H Q=>t σ H fun x H1=>∃c,x=.bl c/\Q c H1
theorem pt_cmp {op:CmpOp}{t:TE}(h:PC X op a b t)(h1:behindInMarks op b=false:=by first|exact nobehind _ @2 @2|rfl):PT X (.Compare a [op] [b] pos) (tB t):=by
 intro pins s σ H Q I hw;refine wpAny_isTrue_Compare1 (thn (h pins s σ H _ I hw) fun v s1 h1=>thn h1 fun u s2 h2=>thn h2 fun c s3 hz=>?_) h1;obtain⟨x,H1,I1,r1,q1⟩:=hz;obtain⟨d,rfl,q⟩:=q1;cases r1
 exact zh4 ⟨H1,I1,q⟩
theorem pt_val{t:TE}(h:PE X e t)(he:∀whole,isTrue e X.env whole=(do let v ← whole;standAt e.pos;holding [v] (truthy v)):=by intro _;rfl):PT X e (tB t):=by
 intro pins s σ H Q I hw;refine isTrue_plain (thn (h pins s σ H _ I hw) fun v s1 hz=>?_) (he _);obtain⟨x,H1,I1,r1,q1⟩:=hz;obtain⟨d,rfl,q⟩:=q1;cases r1
 exact zh4 ⟨H1,I1,q⟩
variable {tA tB':TT}{rest:List Expr}
def tAnd (t u:TT):TT:=fun σ H Q=>t σ H fun c H1=>if c=true then u σ H1 Q else Q false H1
def tOr (t u:TT):TT:=fun σ H Q=>t σ H fun c H1=>if c=true then Q true H1 else u σ H1 Q
theorem pw_and1 (ha:PT X a tA):PW X (.BoolOp .And [a] pos) tA:=by
 intro wh pins s σ H Q I h;refine isTrue_and (thn (ha pins s σ H Q I h) fun c s1 e=>?_)
 cases c with
 |true=>exact isTrue_and_nil e
 |false=>exact e
theorem pw_or1 (ha:PT X a tA):PW X (.BoolOp .Or [a] pos) tA:=by
 intro wh pins s σ H Q I h;refine isTrue_or (thn (ha pins s σ H Q I h) fun c s1 e=>?_)
 cases c with
 |false=>exact isTrue_or_nil e
 |true=>exact e
theorem pw_and (ha:PT X a tA)(hb:PW X (.BoolOp .And (b::rest) pos) tB'):PW X (.BoolOp .And (a::b::rest) pos) (tAnd tA tB'):=by
 intro wh pins s σ H Q I h;refine isTrue_and (thn (ha pins s σ H _ I h) fun c s1 hz=>?_);obtain⟨H1,I1,q1⟩:=hz
 cases c with
 |true=>exact hb wh pins s1 σ H1 Q I1 q1
 |false=>exact⟨H1,I1,q1⟩
theorem pw_or (ha:PT X a tA)(hb:PW X (.BoolOp .Or (b::rest) pos) tB'):PW X (.BoolOp .Or (a::b::rest) pos) (tOr tA tB'):=by
 intro wh pins s σ H Q I h;refine isTrue_or (thn (ha pins s σ H _ I h) fun c s1 hz=>?_);obtain⟨H1,I1,q1⟩:=hz
 cases c with
 |true=>exact⟨H1,I1,q1⟩
 |false=>exact hb wh pins s1 σ H1 Q I1 q1
def tAndV (ta tb:TE):TE:=fun σ H Q=>ta σ H fun x H1=>∃c,x=.bl c/\if c=true then tb σ H1 Q else Q (.bl false) H1
theorem pe_one {op}{t:TE}(h:PE X a t):PE X (.BoolOp op [a] pos) t:=fun pins s σ H Q I hw=>BoolOp_one (h pins s σ H Q I hw)
theorem pe_and (ha:PE X a ta)(hb:PE X (.BoolOp .And (b::rest) pos) tb):PE X (.BoolOp .And (a::b::rest) pos) (tAndV ta tb):=by
 intro pins s σ H Q I h;refine BoolOp_and (thn (ha pins s σ H _ I h) fun v s1 hz=>?_);obtain⟨x,H1,I1,r1,q1⟩:=hz;obtain⟨c,rfl,q1⟩:=q1;cases r1
 refine zh4 ?_
 cases c with
 |true=>exact hb pins s1 σ H1 Q I1 q1
 |false=>exact⟨.bl false,H1,I1,rfl,q1⟩
def tIf (t:TT)(ta tb:TE):TE:=fun σ H Q=>t σ H fun c H1=>if c=true then ta σ H1 Q else tb σ H1 Q
theorem pe_ifExp(hc:PT X c tA)(ha:PE X a ta)(hb:PE X b tb):PE X (.IfExp c a b pos) (tIf tA ta tb):=by
 intro pins s σ H Q I h;refine wpAny_IfExp (thn (hc pins s σ H _ I h) fun d s1 hz=>?_);obtain⟨H1,I1,q1⟩:=hz
 cases d with
 |true=>exact ha pins s1 σ H1 Q I1 q1
 |false=>exact hb pins s1 σ H1 Q I1 q1
end
def SqL (K:z02)(H:Hp)(a:Addr)(xs:List V):Prop:=
 Rd H a (.lst xs)\/
  ∃(o:Obj) (its:Array Value) (n:Nat),K.lookup a=some o/\o.cls=.type "list" /\ o.dict=none/\o.data=.seq its n/\its.size<=z24/\Vals xs its.toList
def SqT (K:z02)(H:Hp)(a:Addr)(xs:List V):Prop:=
 Rd H a (.tup xs)\/
  ∃(o:Obj) (its:Array Value) (n:Nat),K.lookup a=some o/\o.cls=.type "tuple" /\ o.data=.seq its n/\its.size<=z24/\Vals xs its.toList
def absV:Value->Option V
 |.none=>some .non
 |.bool b=>some (.bl b)
 |.int i _=>some (.int i)
 |.str x _=>some (.str x)
 |.bytes b _=>some (.byt b)
 |.float b _=>some (.flt b)
 |.ref a=>some @28
 |.type n=>some (.ty n)
 |_=>none
theorem RelV.abs {x:V}(r:RelV x u):absV u=some x:=by
 cases x with
 |non=>cases r;rfl
 |bl _=>cases r;rfl
 |int _=>obtain⟨t,rfl⟩:=r;rfl
 |str _=>obtain⟨t,rfl⟩:=r;rfl
 |byt _=>obtain⟨t,rfl⟩:=r;rfl
 |flt _=>obtain⟨t,rfl⟩:=r;rfl
 |ref _=>cases r;rfl
 |ty _=>cases r;rfl
theorem RelV.inj {x:V}(r:RelV x u)(q:RelV y u):x=y:=z26 (r.abs.symm.trans q.abs)
theorem Vals.inj:∀{xs ys:List V} {us:List Value},Vals xs us->Vals ys us->xs=ys
 |_,_,_,.nil,.nil=>rfl
 |_,_,_,.cons r t,.cons r' t'=>by rw[r.inj r',Vals.inj t t']
section
variable {H:Hp}{xs ys:List V}
theorem SqL.of(h:H a=some (.lst xs)):SqL K H a xs:=.inl (.inl h)
theorem SqT.of(h:H a=some (.tup xs)):SqT K H a xs:=.inl (.inl h)
theorem Inv.list (I:Inv X pins σ H s)(h:SqL X.K H a xs):∃its:List Value,Vals xs its/\PlainL s.heap a its.toArray/\xs.length<=z24:=by
 rcases h with h|⟨o,its,n,hk,hc,hd,hs,hz,r⟩
 ·obtain⟨z,its,n,r,e⟩:=h.ok I.hok;exact⟨its,r,⟨_,n,e,rfl,rfl,rfl⟩,z⟩
 ·refine⟨its.toList,r,⟨o,n,I.kIn a o hk,hc,hd,by simpa using hs⟩,?_⟩;have e:=r.length;simp only[z43] at e;lia
theorem Inv.tuple (I:Inv X pins σ H s)(h:SqT X.K H a xs):∃its:List Value,Vals xs its/\IsTup s.heap a its.toArray/\xs.length<=z24:=by
 rcases h with h|⟨o,its,n,hk,hc,hs,hz,r⟩
 ·obtain⟨z,its,r,p⟩:=h.ok I.hok;exact⟨its,r,p,z⟩
 ·refine⟨its.toList,r,⟨o,I.kIn a o hk,hc,n,by simpa using hs⟩,?_⟩;have e:=r.length;simp only[z43] at e;lia
theorem Inv.list_inj (I:Inv X pins σ H s)(h:SqL X.K H a xs)(h':SqL X.K H a ys):xs=ys:=by
 obtain⟨its,r,⟨o,n,e,_,_,d⟩,_⟩:=I.list h;obtain⟨its',r',⟨o',n',e',_,_,d'⟩,_⟩:=I.list h';rw[e] at e';cases e';rw[d] at d';injection d' with d1 _;have:its=its':=by simpa using congrArg y12 d1
 subst this;exact r.inj r'
theorem Inv.tuple_inj (I:Inv X pins σ H s)(h:SqT X.K H a xs)(h':SqT X.K H a ys):xs=ys:=by
 obtain⟨its,r,⟨o,e,_,n,d⟩,_⟩:=I.tuple h;obtain⟨its',r',⟨o',e',_,n',d'⟩,_⟩:=I.tuple h';rw[e] at e';cases e';rw[d] at d';injection d' with d1 _;have:its=its':=by simpa using congrArg y12 d1
 subst this;exact r.inj r'
end
section
variable {st:Stmt}{rest:List Stmt}{t u:TS}
def tNext:TS:=fun D σ H=>D.nx σ H
def tSeq (t u:TS):TS:=fun D σ H=>t { D with nx:=u D } σ H
theorem pss_nil:PSs X [] tNext:=fun _ _ σ H _ I h=>zr9 ⟨σ,H,I,h⟩
theorem pss_cons (h1:PS X st t)(h2:PSs X rest u):PSs X (st::rest) (tSeq t u):=by
 intro pins s σ H D I h;refine wpAny_execs_cons (thn (h1 pins s σ H { D with nx:=u D } I h) fun f s1 q=>?_)
 cases f with
 |next=>
  obtain⟨σ',H',I',q⟩:=q;exact h2 pins s1 σ' H' D I' q
 |ret v=>exact q
 |brk=>exact q
 |cont=>exact q
theorem pss_one (h1:PS X st t):PSs X [st] t:=by
 intro pins s σ H D I h;refine wpAny_execs_cons (thn (h1 pins s σ H D I h) fun f s1 q=>?_)
 cases f with
 |next=>exact zr9 q
 |ret v=>exact q
 |brk=>exact q
 |cont=>exact q
theorem Inv.quiet{H:Hp}(I:Inv X pins σ H s):interactive X.env=false:=by simp[interactive,I.ok.kind]
def tDrop (te:TE):TS:=fun D σ H=>te σ H fun _ H1=>D.nx σ H1
theorem ps_expr (he:PE X e te)(hs:swapsWith e none pos.line X.env=pure false:=by rfl):PS X (.Expr e pos) (tDrop te):=by
 intro pins s σ H D I h;exact wpAny_Expr_any (thn (he pins s σ H _ I h) fun v s1 ⟨x,H1,I1,r1,q1⟩=>⟨σ,H1,I1,q1⟩) I.quiet hs
def tRet (te:TE):TS:=fun D σ H=>te σ H D.rt
theorem ps_ret (he:PE X e te):PS X (.Return (some e) pos) (tRet te):=by
 intro pins s σ H D I h;exact wpAny_Return_some (thn (he pins s σ H _ I h) fun v s1 ⟨x,H1,I1,r1,q1⟩=>⟨x,σ,H1,I1,r1,q1⟩)
def tIfS (c:TT)(t u:TS):TS:=fun D σ H=>c σ H fun b H1=>if b=true then t D σ H1 else u D σ H1
theorem ps_if{a b:List Stmt}{tc:TT}(hc:PT X c tc)(ha:PSs X a t)(hb:PSs X b u):PS X (.If c a b pos) (tIfS tc t u):=by
 intro pins s σ H D I h;refine wpAny_If (thn (hc pins s σ H _ I h) fun d s1 hz=>?_);obtain⟨H1,I1,q1⟩:=hz
 cases d with
 |true=>exact ha pins s1 σ H1 D I1 q1
 |false=>exact hb pins s1 σ H1 D I1 q1
end
abbrev TG:=V->St->Hp->(St->Hp->Prop)->Prop
abbrev TGs:=List V->St->Hp->(St->Hp->Prop)->Prop
def PG (X:Cx)(target:Expr)(t:TG):Prop:=
 ∀(pins:List @8) (s:Shared) (σ:St) (H:Hp) (v:V) (u:Value) (Q:St->Hp->Prop),Inv X pins σ H s->RelV v u->t v σ H Q->
  wpAny @3 X.A (assign target X.env u) (fun _ s'=>∃σ' H',Inv X pins σ' H' s'/\Q σ' H') X.xe s
def PGs (X:Cx)(ts:List Expr)(t:TGs):Prop:=
 ∀(pins:List @8) (s:Shared) (σ:St) (H:Hp) (vs:List V) (us:List Value) (Q:St->Hp->Prop),Inv X pins σ H s->Vals vs us->t vs σ H Q->
  wpAny @3 X.A (assignInOrder ((assignEach ts X.env).map (·.2)) us) (fun _ s'=>∃σ' H',Inv X pins σ' H' s'/\Q σ' H') X.xe s
abbrev TSet:=V->V->V->Hp->(Hp->Prop)->Prop
def PSet (X:Cx)(t:TSet):Prop:=
 ∀(pins:List @8) (s:Shared) (σ:St) (H:Hp) (o i v:V) (ov iv u:Value) (Q:Hp->Prop),Inv X pins σ H s->RelV o ov->RelV i iv->RelV v u->t o i v H Q->
  wpAny @3 X.A (setItem ov iv u) (fun _ s'=>∃H',Inv X pins σ H' s'/\Q H') X.xe s
abbrev TIp:=V->V->Hp->VK->Prop
def PIp (X:Cx)(op:Operator)(t:TIp):Prop:=
 ∀(pins:List @8) (s:Shared) (σ:St) (H:Hp) (x y:V) (v u:Value) (Q:VK),Inv X pins σ H s->RelV x v->RelV y u->t x y H Q->
  wpAny @3 X.A (inplaceOp op v u) (EP X pins σ Q) X.xe s
section
def gName (i:Nat):TG:=fun v σ H Q=>Q (σ.set i @26) H
theorem pg_name(hN:X.N.Nodup)(hi:X.N[i]? = some x)(hx:Loc X.env.scope x)(hf:X.fn x=true\/X.env.scope.names.lookup x=some .local:=by first|exact .inl rfl|exact .inr rfl|assumption):PG X (.Name x pos) (gName i):=by
 intro pins s σ H v u Q I r h;exact wpAny_assign_Name (store_ok I hN hi hx r (fun s' I'=>⟨_,H,I',h⟩) hf)
def gNil:TGs:=fun vs σ H Q=>vs=[]/\Q σ H
def gCons (t:TG)(u:TGs):TGs:=fun vs σ H Q=>∃v r,vs=v::r/\t v σ H fun σ' H'=>u r σ' H' Q
theorem pgs_nil:PGs X [] gNil:=by
 intro pins s σ H vs us Q I r h;obtain⟨e,h⟩:=h;subst e;cases r
 exact assignInOrder_nil ⟨σ,H,I,h⟩
theorem pgs_cons{t:TG}{u:TGs}(h1:PG X e t)(h2:PGs X es u)
  (hs:(assignEach (e::es) X.env).map (·.2)=assign e X.env::(assignEach es X.env).map (·.2):=by rfl):PGs X (e::es) (gCons t u):=by
 intro pins s σ H vs us Q I r h;obtain⟨v,vr,e1,h⟩:=h;subst e1
 cases r with
 |cons r rr=>
  rw[hs];refine assignInOrder_cons (thn (h1 pins s σ H _ _ _ I r h) fun _ s1 hz=>?_);obtain⟨σ1,H1,I1,q1⟩:=hz;exact h2 pins s1 σ1 H1 _ _ Q I1 rr q1
def gTup (K:z02)(n:Nat)(t:TGs):TG:=fun v σ H Q=>∃a xs,v=.ref a/\SqT K H a xs/\xs.length=n/\t xs σ H Q
theorem pg_tup{k:Nat}{t:TGs}{n:Nat}(hc:X.calm=true)(h:PGs X es t)
  (hn:(assignEach es X.env).length=n:=by rfl) (hst:(assignEach es X.env).findIdx? (·.1)=none:=by rfl):PG X (.Tuple es k pos) (gTup X.K n t):=by
 intro pins s σ H v u Q I r hw;obtain⟨a,xs,e1,hq,hl,hw⟩:=hw;subst e1;cases r
 obtain⟨its,rv,ht,hz⟩:=I.tuple hq;refine assign_Tuple_tuple (I.ok.hd hc) ht (by simp[hn,← hl,rv.length]) hst fun h' hx=>?_;have I1:Inv X pins σ H { s with heap:=h' }:=I.kept (t':=s.toks) fun b o e=>hx b o (z45 (z34 e)) e;exact h pins _ σ H xs _ Q I1 (by simpa using rv) hw
def gSub (to ti:TE)(t:TSet):TG:=fun v σ H Q=>to σ H fun o H1=>ti σ H1 fun i H2=>t o i v H2 fun H3=>Q σ H3
theorem pg_sub {o i:Expr}{to ti:TE}{t:TSet}(ho:PE X o to)(hi:PE X i ti)(hs:PSet X t)
  (ha:∀v,assign (.Subscript o i pos) X.env v=(do
   let ov ← holding [v] (eval o X.env)
   let iv ← holding [v,ov] (eval i X.env)
   standAt pos
   holding [v,ov,iv] (setItem ov iv v)
   release [v,ov,iv] []):=by intro _;rfl):PG X (.Subscript o i pos) (gSub to ti t):=by
 intro pins s σ H v u Q I r h;rw[ha];refine z00 (z79 (thn (ho pins s σ H _ I h) fun ov s1 hz=>?_));obtain⟨x,H1,I1,r1,q1⟩:=hz;refine z00 (z79 (thn (hi pins s1 σ H1 _ I1 q1) fun iv s2 hz=>?_));obtain⟨y,H2,I2,r2,q2⟩:=hz;refine z00 (y35 (z00 (z79 (thn (hs pins s2 σ H2 x y v ov iv u _ I2 r1 r2 r q2) fun _ s3 hz=>?_))));obtain⟨H3,I3,q3⟩:=hz;exact wpAny_release ⟨σ,H3,I3,q3⟩
def tAsg (te:TE)(g:TG):TS:=fun D σ H=>te σ H fun x H1=>g x σ H1 D.nx
theorem ps_asg{g:TG}(he:PE X e te)(hg:PG X tg g)(hs:swapsWithSole [tg] e pos.line X.env=pure false:=by rfl)(hw:swappedStores [tg] e X.env=pure none:=by rfl)
  (h1:(assignEach [tg] X.env).map (·.2)=[assign tg X.env]:=by rfl):PS X (.Assign [tg] e pos) (tAsg te g):=by
 intro pins s σ H D I h;refine wpAny_Assign_stores (thn (he pins s σ H _ I h) fun v s1 hz=>?_) hs hw;obtain⟨x,H1,I1,r1,q1⟩:=hz;rw[h1];exact thn (hg pins s1 σ H1 x v _ I1 r1 q1) fun _ s2 q=>q
theorem ps_set(hN:X.N.Nodup)(hi:X.N[i]? = some x)(hx:Loc X.env.scope x)(he:PE X e te)(hs:swapsWith e (some (.Name x pos')) pos.line X.env=pure false:=by rfl)(hf:X.fn x=true\/X.env.scope.names.lookup x=some .local:=by first|exact .inl rfl|exact .inr rfl|assumption) :
  PS X (.Assign [.Name x pos'] e pos) (tAsg te (gName i)):=by
 intro pins s σ H D I h;refine wpAny_Assign_Name (thn (he pins s σ H _ I h) fun v s1 hz=>?_) hs;obtain⟨y,H1,I1,r1,q1⟩:=hz;exact store_ok I1 hN hi hx r1 (fun s2 I2=>⟨_,H1,I2,q1⟩) hf
def tAug (i:Nat)(te:TE)(ti:TIp):TS:=fun D σ H=>∃x,σ[i]? = some (some x)/\te σ H fun y H1=>ti x y H1 fun z H2=>D.nx (σ.set i (some z)) H2
theorem ps_aug{op:Operator}{ti:TIp}(hN:X.N.Nodup)(hi:X.N[i]? = some x)(hx:Loc X.env.scope x)(he:PE X e te)(ho:PIp X op ti)(hf:X.fn x=true\/X.env.scope.names.lookup x=some .local:=by first|exact .inl rfl|exact .inr rfl|assumption) :
  PS X (.AugAssign (.Name x pos') op e pos) (tAug i te ti):=by
 intro pins s σ H D I h;obtain⟨v,e1,h⟩:=h;obtain⟨m,hn,hl⟩:=I.loc;have vis:Vis X.env.scope x:=by rcases hx with k|k;exact .inl k;exact .inr (.inl k)
 obtain⟨u,r,l⟩:=hl i x v hi e1 vis;refine wpAny_AugAssign_Name ?_
 have go:wpAny @3 X.A (eval e X.env) (fun w s₂=>wpAny @3 X.A (inplaceOp op u w) (fun r s₃=>wpAny @3 X.A (storeName X.env x r) (fun _=>SP X pins D .next) X.xe s₃) X.xe s₂) X.xe s:=by
  refine thn (he pins s σ H _ I h) fun w s1 hz=>?_;obtain⟨y,H1,I1,r1,q1⟩:=hz;refine thn (ho pins s1 σ H1 v y u w _ I1 r r1 q1) fun z s2 hz=>?_;obtain⟨zv,H2,I2,r2,q2⟩:=hz;exact store_ok I2 hN hi hx r2 (fun s3 I3=>⟨_,H2,I3,q2⟩) hf
 rcases l with⟨hk,hm⟩|⟨hk,c,hc,hcell⟩
 ·exact wpAny_loadName_local I.ok.kind hk hn hm go
 ·rcases hk with hk|hk
  ·exact wpAny_loadName_cell I.ok.kind hk hc hcell go
  ·rcases hx with k|k
   ·have:X.env.scope.names.lookup x=some .free:=hk;rw[k] at this;cases this
   ·have:X.env.scope.names.lookup x=some .free:=hk;rw[k] at this;cases this
def ipI (f:Int->Int->Int):TIp:=fun x y H Q=>∃i j,x=.int i/\y=.int j/\Q (.int (f i j)) H
theorem ip_add:PIp X .Add (ipI fun i j=>i+j):=by
 intro pins s σ H x y v u Q I r1 r2 h;obtain⟨i,j,e1,e2,q⟩:=h;subst e1;subst e2;obtain⟨t,rfl⟩:=r1;obtain⟨t',rfl⟩:=r2;exact iadd_int ⟨.int _,H,I.tok _,⟨_,rfl⟩,q⟩
end
section
def tWhile (c:TT)(tb:TS):TS:=fun D σ H=>∃W:Nat->St->Hp->Prop,(∃m,W m σ H)/\∀m σ H,W m σ H->
 c σ H fun b H1=>if b=true then ∃N:St->Hp->Prop,(∀σ' H',N σ' H'->∃m',m' < m/\W m' σ' H')/\tb { D with nx:=N,ct:=N,bk:=D.nx } σ H1 else D.nx σ H1
theorem ps_while{tc:TT}{tb:TS}(hp:PassesOwn @3 X.A X.env X.xe)(hc:PT X c tc)(hb:PSs X body tb):PS X (.While c body [] pos) (tWhile tc tb):=by
 intro pins s σ H D I h;obtain⟨W,⟨m0,w0⟩,turn⟩:=h;refine wpAny_While (codeAny_whileLoop (fun n s'=>∃σ' H',Inv X pins σ' H' s'/\W n σ' H') ?_ m0 ⟨σ,H,I,w0⟩);rintro n s1 ⟨σ1,H1,I1,w1⟩;refine zg9 hp (thn (hc pins s1 σ1 H1 _ I1 (turn n σ1 H1 w1)) fun b s2 hz=>?_);obtain⟨H2,I2,q2⟩:=hz
 cases b with
 |true=>
  obtain⟨N,hN,q2⟩:=q2;rw[if_pos rfl];refine zg9 hp (thn (hb pins s2 σ1 H2 _ I2 q2) fun f s3 q3=>?_)
  cases f with
  |next=>
   obtain⟨σ3,H3,I3,n3⟩:=q3;obtain⟨m',hm,w3⟩:=hN σ3 H3 n3;exact⟨m',hm,σ3,H3,I3,w3⟩
  |cont=>
   obtain⟨σ3,H3,I3,n3⟩:=q3;obtain⟨m',hm,w3⟩:=hN σ3 H3 n3;exact⟨m',hm,σ3,H3,I3,w3⟩
  |brk=>exact q3
  |ret v=>exact q3
 |false=>
  rw[if_neg z19];exact zr9 ⟨σ1,H2,I2,q2⟩
end
structure It where
 go:Nat->Hp->Prop
 yld:Nat->Hp->V->Hp->Prop
 stop:Nat->Hp->Prop
def FpOk (X:Cx)(pins:List @8)(H:Hp)(b:Addr):Prop:=
 H b=none/\b≠X.env.locals/\b∉X.fs/\(b∈X.ex\/X.s₀.heap.objs.size<=b)/\(∀x c,X.env.cells.lookup x=some c->c≠b)/\∀p∈X.pn++pins,p.1≠b
theorem Inv.fpOk{H:Hp}(I:Inv X pins σ H s)(hb:s.heap.objs.size<=b)(hn:H' b=none):FpOk X pins H' b:=by
 refine⟨hn,zg4 (z46 I.lt hb),I.nofs hb,.inr (z73 I.sz hb),fun x c e z=>?_,fun p hp z=>?_⟩
 ·obtain⟨v,q⟩:=I.cell x c e;exact absurd (z46 q.lt (by rw[z];exact hb)) (ze8 _)
 ·exact absurd (z46 (z34 (I.pin p hp).1) (by rw[z];exact hb)) (ze8 _)
structure Turn (P:Program)(w:World)(K:z02)(tg:Expr)(J:It)(fp:List Addr)(it:Addr)(tn:Nat->Heap->Prop):Prop where
 mem:it∈fp
 obj:∀i h,tn i h->∀b∈fp,∃o,h.get? b=some o/\∀v,o.data≠.cell v
 keep:∀i h h',tn i h->(∀b∈fp,∀o,h.get? b=some o->h'.get? b=some o)->tn i h'
 item:∀(X:Cx),X.prog=P->X.w=w->X.K=K->X.calm=true->∀(i:Nat) (pins:List @8) (s:Shared) (σ:St) (H:Hp) (E:Value->Shared->Prop),Inv X pins σ H s->(∀b∈fp,FpOk X pins H b)->tn i s.heap->J.go i H->
  wpAny (model P w) X.A (pyNext (.ref it)) (fun r s1=>∃u,r=some u/\
   wpAny (model P w) X.A (letOwnedTupleGo tg (.ref it) u) (fun _ s2=>∃x H',Inv X pins σ H' s2/\RelV x u/\J.yld i H x H'/\tn (i+1) s2.heap/\∀b∈fp,H' b=none) E s1) E s
 done:∀(X:Cx),X.prog=P->X.w=w->X.K=K->X.calm=true->∀(i:Nat) (pins:List @8) (s:Shared) (σ:St) (H:Hp) (E:Value->Shared->Prop),Inv X pins σ H s->(∀b∈fp,FpOk X pins H b)->tn i s.heap->J.stop i H->
  wpAny (model P w) X.A (pyNext (.ref it)) (fun r s1=>r=none/\Inv X pins σ H s1) E s
 self:∀(A:Around) (i:Nat) (s:Shared) (Q:Value->Shared->Prop) (E:Value->Shared->Prop),tn i s.heap->Q (.ref it) s->wpAny (model P w) A (pyIter (.ref it)) Q E s
abbrev TI:=St->Hp->(It->Hp->Prop)->Prop
def PIE (X:Cx)(pins:List @8)(σ:St)(tg:Expr)(R:It->Hp->Prop)(itv:Value)(s2:Shared):Prop:=
 ∃(it:Addr) (fp:List Addr) (tn:Nat->Heap->Prop) (J:It) (H':Hp),itv=.ref it/\Inv X pins σ H' s2/\Turn X.prog X.w X.K tg J fp it tn/\tn 0 s2.heap/\(∀b∈fp,FpOk X pins H' b)/\R J H'
def PI (X:Cx)(tg iter:Expr)(wi:TI):Prop:=
 ∀(pins:List @8) (s:Shared) (σ:St) (H:Hp) (R:It->Hp->Prop),Inv X pins σ H s->wi σ H R->
  wpAny @3 X.A (eval iter X.env) (fun v s1=>wpAny @3 X.A (pyIter v) (PIE X pins σ tg R) X.xe s1) X.xe s
theorem go_of{it:Addr}{o:Obj}{n:String}{vs:Array Value}{Q:Unit->Shared->Prop}(ho:s.heap.get? it=some o)(hc:o.cls=.type n)(hd:o.data=.fields vs)
  (hn:["enumerate","zip","dict_itemiterator","dict_reverseitemiterator","odict_iterator","itertools.zip_longest","itertools.pairwise"].contains n=false) (hQ:Q () s):wpAny M A (letOwnedTupleGo tg (.ref it) u) Q E s:=by
 unfold letOwnedTupleGo
 cases tg<;>first
  |exact z04 hQ
  |(cases u<;>first
    |exact z04 hQ
    |(refine z00 (wpAny_load ho ?_);rw[hc,hd];show wpAny M A (if(["enumerate","zip","dict_itemiterator","dict_reverseitemiterator","odict_iterator","itertools.zip_longest","itertools.pairwise"].contains n && vs[0]? == some (rawInt _))=true then _ else _) Q E s;rw[if_neg (by intro h;rw[hn,Bool.false_and] at h;cases h)];exact z04 hQ))
def Itl (K:z02)(a:Addr):It:=
 ⟨fun i H=>∃xs x,SqL K H a xs/\xs[i]? = some x,fun i H x H'=>H'=H/\∀xs,SqL K H a xs->xs[i]? = some x,fun i H=>∃xs,SqL K H a xs/\xs.length<=i⟩
def Itt (K:z02)(a:Addr):It:=
 ⟨fun i H=>∃xs x,SqT K H a xs/\xs[i]? = some x,fun i H x H'=>H'=H/\∀xs,SqT K H a xs->xs[i]? = some x,fun i H=>∃xs,SqT K H a xs/\xs.length<=i⟩
def Itr (lo:Int)(n:Nat):It:=⟨fun i _=>i<n,fun i H x H'=>H'=H/\x=.int (lo+i),fun i _=>n<=i⟩
theorem turn_list(a it:Addr):Turn P w K tg (Itl K a) [it] it (fun i h=>h.IsListIter it a i) where
 mem:=by simp
 obj:=fun i h st b hb=>by
  have e:b=it:=by simpa using hb
  subst e;obtain⟨o,e,c,d⟩:=st;exact⟨o,e,fun v z=>by rw[d] at z;cases z⟩
 keep:=fun i h h' st k=>st.at fun o e=>k it @6 o e
 item:=by
  intro X hP hw hK hc i pins s σ H E I hf st hg;subst hP hw hK;obtain⟨xs,x,hq,hx⟩:=hg;obtain⟨its,rv,p,hz⟩:=I.list hq;obtain⟨u,hu,ru⟩:=rv.get hx;obtain⟨f0,f1,f2,f3,f4,f5⟩:=hf it @6;refine y48 st p.isList (x:=u) (by simpa using hu) fun h' st' sb=>?_;have I1:Inv X pins σ H { s with heap:=h' }:=I.turned (t':=s.toks) (fun b o hb e=>(sb.2 b hb).trans e) f0 f1 f3 f4 f5;obtain⟨o,e,c,d⟩:=id st';exact⟨u,rfl,go_of (s:={ s with heap:=h' }) e c d @2 ⟨x,H,I1,ru,⟨rfl,fun ys hy=>by rw[I.list_inj hy hq];exact hx⟩,st',fun b hb=>(hf b hb).1⟩⟩
 done:=by
  intro X hP hw hK hc i pins s σ H E I hf st hg;subst hP hw hK;obtain⟨xs,hq,hx⟩:=hg;obtain⟨its,rv,p,hz⟩:=I.list hq;obtain⟨f0,f1,f2,f3,f4,f5⟩:=hf it @6;have hl:=rv.length;exact wpAny_pyNext_list_end (I.ok.hd hc) st p.isList (by simp;lia) fun h' eb=>⟨rfl,I.turned (t':=s.toks) (fun b o hb e=>eb b o hb e) f0 f1 f3 f4 f5⟩
 self:=fun _ _ _ _ _ st h=>wpAny_pyIter_listiter st h
theorem turn_tuple(a it:Addr):Turn P w K tg (Itt K a) [it] it (fun i h=>h.IsTupleIter it a i) where
 mem:=by simp
 obj:=fun i h st b hb=>by
  have e:b=it:=by simpa using hb
  subst e;obtain⟨o,e,c,d⟩:=st;exact⟨o,e,fun v z=>by rw[d] at z;cases z⟩
 keep:=fun i h h' st k=>st.at fun o e=>k it @6 o e
 item:=by
  intro X hP hw hK hc i pins s σ H E I hf st hg;subst hP hw hK;obtain⟨xs,x,hq,hx⟩:=hg;obtain⟨its,rv,p,hz⟩:=I.tuple hq;obtain⟨u,hu,ru⟩:=rv.get hx;obtain⟨f0,f1,f2,f3,f4,f5⟩:=hf it @6;refine wpAny_pyNext_tuple_item st (show s.heap.IsTuple a its.toArray from p) (x:=u) (by simpa using hu) fun h' st' sb=>?_;have I1:Inv X pins σ H { s with heap:=h' }:=I.turned (t':=s.toks) (fun b o hb e=>(sb.2 b hb).trans e) f0 f1 f3 f4 f5;obtain⟨o,e,c,d⟩:=id st';exact⟨u,rfl,go_of (s:={ s with heap:=h' }) e c d @2 ⟨x,H,I1,ru,⟨rfl,fun ys hy=>by rw[I.tuple_inj hy hq];exact hx⟩,st',fun b hb=>(hf b hb).1⟩⟩
 done:=by
  intro X hP hw hK hc i pins s σ H E I hf st hg;subst hP hw hK;obtain⟨xs,hq,hx⟩:=hg;obtain⟨its,rv,p,hz⟩:=I.tuple hq;obtain⟨f0,f1,f2,f3,f4,f5⟩:=hf it @6;have hl:=rv.length;exact wpAny_pyNext_tuple_end (I.ok.hd hc) st (show s.heap.IsTuple a its.toArray from p) (by simp;lia) fun h' eb=>⟨rfl,I.turned (t':=s.toks) (fun b o hb e=>eb b o hb e) f0 f1 f3 f4 f5⟩
 self:=fun _ _ _ _ _ st h=>wpAny_pyIter_tupleiter st h
theorem turn_range(it:Addr)(lo:Int)(n:Nat):Turn P w K tg (Itr lo n) [it] it (fun i h=>IsRangeIter h it (lo+(i:Nat) * 1) ((n:Int) - (i:Nat)) 1) where
 mem:=by simp
 obj:=fun i h st b hb=>by
  have e:b=it:=by simpa using hb
  subst e
  exact⟨_,st,fun v z=>by
   have z':Data.fields _=Data.cell v:=z
   cases z'⟩
 keep:=fun i h h' st k=>k it @6 _ st
 item:=by
  intro X hP hw hK hc i pins s σ H E I hf st hg;subst hP hw hK;obtain⟨f0,f1,f2,f3,f4,f5⟩:=hf it @6;have W:=Walks.range (prog:=X.prog) (w:=X.w) (I.ok.hd hc) it lo 1 n;refine W.item i s _ _ hg st fun v h' tk hv st' kk=>?_;obtain⟨t,rfl⟩:=hv;have I1:Inv X pins σ H { s with heap:=h',toks:=tk }:=I.turned (fun b o hb e=>kk b o (by simpa using hb) e) f0 f1 f3 f4 f5;refine⟨_,rfl,go_of (s:={ s with heap:=h',toks:=tk }) (n := "range_iterator") st' rfl rfl @2 ⟨.int (lo+i),H,I1,⟨t,?_⟩,⟨rfl,rfl⟩,st',fun b hb=>(hf b hb).1⟩⟩
  rw[Int.mul_one]
 done:=by
  intro X hP hw hK hc i pins s σ H E I hf st hg;subst hP hw hK;obtain⟨f0,f1,f2,f3,f4,f5⟩:=hf it @6;exact wpAny_pyNext_range_end (I.ok.hd hc) st (by have:n<=i:=hg;lia) fun h' eb=>⟨rfl,I.turned (t':=s.toks) (fun b o hb e=>eb b o hb e) f0 f1 f3 f4 f5⟩
 self:=fun _ _ _ _ _ st h=>wpAny_pyIter_rangeiter st h
section
theorem range_it{H:Hp}{R:It->Hp->Prop}{lo hi:Int}{t u v:Tok}{tk:Nat}(I:Inv X pins σ H s)(h1 : -(2 ^ 62)<=lo)(h2:lo<2 ^ 62)(h3 : -(2 ^ 62)<=hi)(h4:hi<2 ^ 62)
  (q:R (Itr lo (hi - lo).toNat) H):wpAny @3 X.A (pyIter (.ref s.heap.objs.size)) (PIE X pins σ tg R) E { s with heap:=s.heap.push { cls:=.type "range",data:=.fields #[.int lo t,.int hi u,.int 1 v]},toks:=tk }:=by
 refine wpAny_pyIter_range (IsRange.new ..) (small_one h1 h2 h3 h4) ?_;have I1:Inv X pins σ H { s with heap:=s.heap.push { cls:=.type "range",data:=.fields #[.int lo t,.int hi u,.int 1 v]},toks:=tk }:=I.kept fun b o e=>z14 _ e
 refine⟨(s.heap.push { cls:=.type "range",data:=.fields #[.int lo t,.int hi u,.int 1 v]}).objs.size,[(s.heap.push { cls:=.type "range",data:=.fields #[.int lo t,.int hi u,.int 1 v]}).objs.size],_,_,H,rfl,
  I1.kept (t':=tk) fun b o e=>z14 _ e,turn_range _ lo (hi - lo).toNat,?_,fun b hb=>?_,q⟩
 ·have e1:lo+((0:Nat):Int) * 1=lo:=by simp
  have e2:(((hi - lo).toNat:Nat):Int) - ((0:Nat):Int)=Builtin.Range.rangeSize lo hi 1:=by rw[rangeSize_one];split<;>lia
  show IsRangeIter _ _ (lo+((0:Nat):Int) * 1) ((((hi - lo).toNat:Nat):Int) - ((0:Nat):Int)) 1;rw[e1,e2];exact z29 _ rfl
 ·have e:b=(s.heap.push { cls:=.type "range",data:=.fields #[.int lo t,.int hi u,.int 1 v]}).objs.size:=by simpa using hb
  subst e;exact I1.fpOk (z15 _) (I1.hok.fresh (z15 _))
def iRng1 (ta:TA):TI:=fun σ H R=>ta σ H fun vs H1=>∃j:Int,vs=[.int j]/\-(2 ^ 62)<=j/\j<2 ^ 62/\R (Itr 0 j.toNat) H1
def iRng2 (ta:TA):TI:=fun σ H R=>ta σ H fun vs H1=>∃i j:Int,vs=[.int i,.int j]/\(-(2 ^ 62)<=i/\i<2 ^ 62/\-(2 ^ 62)<=j/\j<2 ^ 62)/\R (Itr i (j - i).toNat) H1
theorem pi_range1 {a:Expr}{ta:TA}(hg:Gl X "range")(hm:X.mg "range" = none)(ha:PA X [a] ta)(hs:starEach [a] X.env=[(false,eval a X.env)]:=by rfl):PI X tg (.Call (.Name "range" p) [a] [] pos) (iRng1 ta):=by
 intro pins s σ H R I h;refine Call_ (ld_blt I hg hm boot_range (zb7 (thn (ha pos pins s σ H _ I h) fun us s1 hz=>?_) hs rfl));obtain⟨vs,H1,I1,r1,q1⟩:=hz;obtain⟨j,e,q1,q2,q⟩:=q1;subst e
 cases r1 with
 |cons r rr=>
  cases rr
  obtain⟨t,rfl⟩:=r;exact call_range_1 (range_it I1 @0 @0 q1 q2 (by simpa using q))
theorem pi_range2 {a b:Expr}{ta:TA}(hg:Gl X "range")(hm:X.mg "range" = none)(ha:PA X [a,b] ta)(hs:starEach [a,b] X.env=[(false,eval a X.env),(false,eval b X.env)]:=by rfl)(hs2:starEach [b] X.env=[(false,eval b X.env)]:=by rfl) :
  PI X tg (.Call (.Name "range" p) [a,b] [] pos) (iRng2 ta):=by
 intro pins s σ H R I h;refine Call_ (ld_blt I hg hm boot_range (zb7 (thn (ha pos pins s σ H _ I h) fun us s1 ⟨vs,H1,I1,r1,q1⟩=>?_) (by rw[hs,hs2]) (by rw[hs2];rfl)));obtain⟨i,j,e,⟨q1,q2,q3,q4⟩,q⟩:=q1;subst e
 cases r1 with
 |cons r rr=>
  cases rr with
  |cons r' rr=>
   cases rr
   obtain⟨t,rfl⟩:=r;obtain⟨t',rfl⟩:=r';exact call_range_2 (range_it I1 q1 q2 q3 q4 q)
def tFor (wi:TI)(g:TG)(tb:TS):TS:=fun D σ H=>wi σ H fun J H1=>∃W:Nat->Nat->St->Hp->Prop,(∃m,W 0 m σ H1)/\∀i m σ H,W i m σ H->
 (J.stop i H/\D.nx σ H)\/(J.go i H/\∃N:St->Hp->Prop,(∀σ' H',N σ' H'->∃m',m' < m/\W (i+1) m' σ' H')/\∀x H',J.yld i H x H'->g x σ H' fun σ2 H2=>tb { D with nx:=N,ct:=N,bk:=D.nx } σ2 H2)
def pinsAt (fp:List Addr)(h:Heap):List @8:=fp.filterMap fun b=>(h.get? b).map fun o=>(b,o)
theorem mem_pinsAt{o:Obj}(hb:b∈fp)(e:h.get? b=some o):(b,o)∈pinsAt fp h:=zs6.mpr ⟨b,hb,by rw[e];rfl⟩
theorem of_pinsAt{p:Addr×Obj}(hp:p∈pinsAt fp h):p.1∈fp/\h.get? p.1=some p.2:=by
 obtain⟨b,hb,e⟩:=zs6.mp hp
 cases q:h.get? b with
 |none=>rw[q] at e;cases e
 |some o=>
  rw[q] at e;have e':(b,o)=p:=z26 e;subst e';exact⟨hb,q⟩
theorem Inv.pinned{H:Hp}(I:Inv X pins σ H s)(hf:∀b∈fp,FpOk X pins H b)(ho:∀b∈fp,∃o,s.heap.get? b=some o/\∀v,o.data≠.cell v):Inv X (pins++pinsAt fp s.heap) σ H s:=
 I.pins_of fun p hp=>(z08.mp hp).elim (fun z=>I.pin p (z05 _ z)) fun z=>by
  obtain⟨hb,e⟩:=of_pinsAt z;obtain⟨f0,f1,f2,_⟩:=hf p.1 hb;obtain⟨o,e',d⟩:=ho p.1 hb;rw[e] at e';cases e';exact⟨e,f0,f1,f2,d⟩
theorem Inv.unpinned {pl:List @8}{H:Hp}(I:Inv X (pins++pl) σ H s):Inv X pins σ H s:=I.pins_of fun p hp=>I.pin p (z05 _ (z13 _ hp))
theorem ps_for {iter:Expr}{wi:TI}{g:TG}{tb:TS}(hp:PassesOwn @3 X.A X.env X.xe)(hc:X.calm=true)(hi:PI X tg iter wi)(hg:PG X tg g)(hb:PSs X body tb)
  (hs:∀x,foldedSetIterable iter X.env x=pure x:=by intro _;rfl):PS X (.For tg iter body [] pos) (tFor wi g tb):=by
 intro pins s σ H D I h;refine wpAny_For (thn (hi pins s σ H _ I h) fun v s1 h1=>thn h1 fun itv s2 h2=>?_) hs;obtain⟨it,fp,tn,J,H2,e,I2,T,st2,f2,W,⟨m0,w0⟩,turn⟩:=h2;subst e
 -- what stays true of the iterator's objects through the loop
 have stat:∀{H':Hp},(∀b∈fp,H' b=none)->∀b∈fp,FpOk X pins H' b:=fun hn b hb=>⟨hn b hb,(f2 b hb).2⟩;refine codeAny_forLoop_any (fun n s'=>∃i σ' H',Inv X pins σ' H' s'/\tn i s'.heap/\(∀b∈fp,H' b=none)/\W i n σ' H') ?_ m0 ⟨0,σ,H2,I2,st2,fun b hb=>(f2 b hb).1,w0⟩;rintro n s3 ⟨i,σ3,H3,I3,st3,fr3,w3⟩;rcases turn i n σ3 H3 w3 with⟨stop,qn⟩|⟨go,N,hN,step⟩
 ·refine zg9 hp (thn (T.done X rfl rfl rfl hc i pins s3 σ3 H3 X.xe I3 (stat fr3) st3 stop) fun r s4 hz=>?_);obtain⟨hr,I4⟩:=hz;subst hr;exact zr9 ⟨σ3,H3,I4,qn⟩
 ·refine zg9 hp (thn (T.item X rfl rfl rfl hc i pins s3 σ3 H3 X.xe I3 (stat fr3) st3 go) fun r s4 hz=>?_);obtain⟨u,hr,h4⟩:=hz;subst hr;refine zg9 hp (thn h4 fun _ s5 hz=>?_);obtain⟨x,H5,I5,r5,y5,st5,fr5⟩:=hz;have I5':=I5.pinned (stat fr5) (T.obj _ _ st5);refine zg9 hp (thn (hg _ s5 σ3 H5 x u _ I5' r5 (step x H5 y5)) fun _ s6 hz=>?_);obtain⟨σ6,H6,I6,q6⟩:=hz;refine zg9 hp (thn (hb _ s6 σ6 H6 _ I6 q6) fun f s7 q7=>?_)
  have again:∀{σ7:St} {H7:Hp},Inv X (pins++pinsAt fp s5.heap) σ7 H7 s7->N σ7 H7->∃m,m<n/\∃i σ' H',Inv X pins σ' H' s7/\tn i s7.heap/\(∀b∈fp,H' b=none)/\W i m σ' H':=fun{σ7 H7} I7 n7=>by
   obtain⟨m',hm,w7⟩:=hN σ7 H7 n7;refine⟨m',hm,i+1,σ7,H7,I7.unpinned,T.keep _ _ _ st5 fun b hb o e=>(I7.pin (b,o) (z05 _ (z05 _ (mem_pinsAt hb e)))).1,fun b hb=>?_,w7⟩;obtain⟨o,e,d⟩:=T.obj _ _ st5 b hb;exact(I7.pin (b,o) (z05 _ (z05 _ (mem_pinsAt hb e)))).2.1
  cases f with
  |next=>obtain⟨σ7,H7,I7,n7⟩:=q7;exact again I7 n7
  |cont=>obtain⟨σ7,H7,I7,n7⟩:=q7;exact again I7 n7
  |brk=>obtain⟨σ7,H7,I7,q7⟩:=q7;exact⟨σ7,H7,I7.unpinned,q7⟩
  |ret v=>obtain⟨x7,σ7,H7,I7,r7,q7⟩:=q7;exact⟨x7,σ7,H7,I7.unpinned,r7,q7⟩
end
abbrev R2:=V->V->Hp->VK->Prop
def OpR (X:Cx)(f:Value->Value->Sem Value)(r:R2):Prop:=
 ∀(pins:List @8) (s:Shared) (σ:St) (H:Hp) (x y:V) (v u:Value) (Q:VK),Inv X pins σ H s->RelV x v->RelV y u->r x y H Q->
  wpAny @3 X.A (f v u) (EP X pins σ Q) X.xe s
def UnR (X:Cx)(f:Value->Sem Value)(r:V->Hp->VK->Prop):Prop:=
 ∀(pins:List @8) (s:Shared) (σ:St) (H:Hp) (x:V) (v:Value) (Q:VK),Inv X pins σ H s->RelV x v->r x H Q->
  wpAny @3 X.A (f v) (EP X pins σ Q) X.xe s
def CallR (X:Cx)(f:Value)(r:List V->Hp->VK->Prop):Prop:=
 ∀(pins:List @8) (s:Shared) (σ:St) (H:Hp) (xs:List V) (us:List Value) (Q:VK),Inv X pins σ H s->Vals xs us->r xs H Q->
  wpAny @3 X.A (call f us) (EP X pins σ Q) X.xe s
def tOp (r:R2)(ta tb:TE):TE:=fun σ H Q=>ta σ H fun x H1=>tb σ H1 fun y H2=>r x y H2 Q
def tUn (r:V->Hp->VK->Prop)(ta:TE):TE:=fun σ H Q=>ta σ H fun x H1=>r x H1 Q
def rI (C:Int->Int->Prop)(g:Int->Int->V):R2:=fun x y H Q=>∃i j,x=.int i/\y=.int j/\C i j/\Q (g i j) H
def rI0 (g:Int->Int->V):R2:=fun x y H Q=>∃i j,x=.int i/\y=.int j/\Q (g i j) H
def rU (g:Int->V):V->Hp->VK->Prop:=fun x H Q=>∃i,x=.int i/\Q (g i) H
section
variable {a b:Expr}
theorem binT (ha:PE X a ta)(hb:PE X b tb){H:Hp}{R:V->V->Hp->Prop}(I:Inv X pins σ H s)
  (h:ta σ H fun x H1=>tb σ H1 fun y H2=>R x y H2)
  (hf:∀v u s2 x y H2,Inv X pins σ H2 s2->RelV x v->RelV y u->R x y H2->wpAny @3 X.A (f v u) Q X.xe s2) :
  wpAny @3 X.A (eval a X.env) (fun v s₁=>wpAny @3 X.A (eval b X.env) (fun u s₂=>wpAny @3 X.A (f v u) Q X.xe s₂) X.xe s₁) X.xe s:=by
 refine thn (ha pins s σ H _ I h) fun v s1 hz=>?_;obtain⟨x,H1,I1,r1,q1⟩:=hz;refine thn (hb pins s1 σ H1 _ I1 q1) fun u s2 hz=>?_;obtain⟨y,H2,I2,r2,q2⟩:=hz;exact hf v u s2 x y H2 I2 r1 r2 q2
theorem pe_op {op:Operator}{r:R2}(ho:OpR X (binaryOp op) r)(ha:PE X a ta)(hb:PE X b tb):PE X (.BinOp a op b pos) (tOp r ta tb):=by
 intro pins s σ H Q I h;exact wpAny_BinOp (binT ha hb I h fun v u s2 x y H2 I2 rx ry q=>ho pins s2 σ H2 x y v u Q I2 rx ry q)
theorem pe_un {op:UnaryOp}{r:V->Hp->VK->Prop}(ho:UnR X (unaryOp op) r)(ha:PE X a ta):PE X (.UnaryOp op a pos) (tUn r ta):=by
 intro pins s σ H Q I h;exact UnaryOp_ (thn (ha pins s σ H _ I h) fun v s1 ⟨x,H1,I1,r1,q1⟩=>ho pins s1 σ H1 x v Q I1 r1 q1)
theorem opI{C:Int->Int->Prop}
  (rule:∀(i j:Int) (t u:Tok) (s:Shared) (Q:Value->Shared->Prop) (E:Value->Shared->Prop),C i j->Q (.int (g i j) s.toks) { s with toks:=s.toks+1 }->wpAny @3 X.A (f (.int i t) (.int j u)) Q E s) :
  OpR X f (rI C fun i j=>.int (g i j)):=by
 intro pins s σ H x y v u Q I rx ry h;obtain⟨i,j,rfl,rfl,hc,q⟩:=h;obtain⟨t,rfl⟩:=rx;obtain⟨t',rfl⟩:=ry;exact rule i j t t' s _ _ hc ⟨.int (g i j),H,I.tok _,⟨_,rfl⟩,q⟩
theorem opI0
  (rule:∀(i j:Int) (t u:Tok) (s:Shared) (Q:Value->Shared->Prop) (E:Value->Shared->Prop),Q (.int (g i j) s.toks) { s with toks:=s.toks+1 }->wpAny @3 X.A (f (.int i t) (.int j u)) Q E s) :
  OpR X f (rI0 fun i j=>.int (g i j)):=by
 intro pins s σ H x y v u Q I rx ry h;obtain⟨i,j,rfl,rfl,q⟩:=h;obtain⟨t,rfl⟩:=rx;obtain⟨t',rfl⟩:=ry;exact rule i j t t' s _ _ ⟨.int (g i j),H,I.tok _,⟨_,rfl⟩,q⟩
theorem opB0{g:Int->Int->Bool}
  (rule:∀(i j:Int) (t u:Tok) (s:Shared) (Q:Value->Shared->Prop) (E:Value->Shared->Prop),Q (.bool (g i j)) s->wpAny @3 X.A (f (.int i t) (.int j u)) Q E s) :
  OpR X f (rI0 fun i j=>.bl (g i j)):=by
 intro pins s σ H x y v u Q I rx ry h;obtain⟨i,j,rfl,rfl,q⟩:=h;obtain⟨t,rfl⟩:=rx;obtain⟨t',rfl⟩:=ry;exact rule i j t t' s _ _ ⟨.bl (g i j),H,I,rfl,q⟩
def CPow (i j:Int):Prop:=0<=j/\j<=1000000/\i.natAbs<2 ^ 64
def CMul (i j:Int):Prop:=(-(2 ^ 64)<i/\i<2 ^ 64)\/(-(2 ^ 64)<j/\j<2 ^ 64)
theorem CMul.ok {i j:Int}(h:CMul i j):IntMulOk i j:=by
 rcases h with⟨h1,h2⟩|⟨h1,h2⟩
 ·exact .of_left (intBits_le_64 h1 h2)
 ·exact .of_right (intBits_le_64 h1 h2)
theorem op_add:OpR X (binaryOp .Add) (rI0 fun i j=>.int (i+j)):=opI0 fun _ _ _ _ _ _ _ q=>add_int q
theorem op_sub:OpR X (binaryOp .Sub) (rI0 fun i j=>.int (i - j)):=opI0 fun _ _ _ _ _ _ _ q=>sub_int q
theorem op_mul:OpR X (binaryOp .Mult) (rI CMul fun i j=>.int (i * j)):=opI fun _ _ _ _ _ _ _ hc q=>mul_int q hc.ok
theorem op_mod:OpR X (binaryOp .Mod) (rI (fun _ j=>0<j) fun i j=>.int (i % j)):=opI fun i j _ _ _ _ _ hc q=>by
 have h1:(0:Int)<j:=hc;exact mod_int' @0 (by rw[Int.fmod_eq_emod_of_nonneg i @0];exact q)
theorem op_pow:OpR X (binaryOp .Pow) (rI CPow fun i j=>.int (i ^ j.toNat)):=opI fun _ _ _ _ _ _ _ hc q=>pow_int_small hc.1 hc.2.1 hc.2.2 q
theorem unI {f:Value->Sem Value}{g:Int->Int}
  (rule:∀(i:Int) (t:Tok) (s:Shared) (Q:Value->Shared->Prop) (E:Value->Shared->Prop),Q (.int (g i) s.toks) { s with toks:=s.toks+1 }->wpAny @3 X.A (f (.int i t)) Q E s) :
  UnR X f (rU fun i=>.int (g i)):=by
 intro pins s σ H x v Q I rx h;obtain⟨i,rfl,q⟩:=h;obtain⟨t,rfl⟩:=rx;exact rule i t s _ _ ⟨.int (g i),H,I.tok _,⟨_,rfl⟩,q⟩
theorem un_neg:UnR X (unaryOp .USub) (rU fun i=>.int (-i)):=unI fun _ _ _ _ _ q=>neg_int q
end
def scal:V->V->Bool
 |.non,.non=>true|.non,.int _=>true|.int _,.non=>true|.non,.bl _=>true|.bl _,.non=>true|.non,.str _=>true|.str _,.non=>true
 |.int _,.int _=>true|.bl _,.bl _=>true|.str _,.str _=>true|.byt _,.byt _=>true
 |.int _,.str _=>true|.str _,.int _=>true|.bl _,.str _=>true|.str _,.bl _=>true
 |_,_=>false
def rEq:R2:=fun x y H Q=>scal x y=true/\Q (.bl (decide (x=y))) H
def rNe:R2:=fun x y H Q=>scal x y=true/\Q (.bl (!decide (x=y))) H
theorem dec_int {i j:Int}:decide (V.int i=V.int j)=(i == j):=by
 rw[zp8];simp
theorem dec_bl {i j:Bool}:decide (V.bl i=V.bl j)=(i == j):=by
 rw[zp8];simp
theorem dec_str {i j:Str}:decide (V.str i=V.str j)=(i == j):=by
 rw[zp8];simp
theorem dec_byt {i j:Array UInt8}:decide (V.byt i=V.byt j)=(i.toList == j.toList):=by
 rw[zp8];cases i
 cases j
 simp
section
variable {a b:Expr}
theorem fin_bl{H:Hp}{Q:VK}{k k':Bool}(I:Inv X pins σ H s)(q:Q (.bl k) H)(e:k=k'):EP X pins σ Q (.bool k') s:=by
 subst e;exact⟨.bl k,H,I,rfl,q⟩
theorem op_eq:OpR X (compareOp .Eq) rEq:=by
 intro pins s σ H x y v u Q I rx ry h;obtain⟨hs,q⟩:=h
 cases x with
 |non=>
  cases rx
  cases y with
  |non=>cases ry;exact PySem.EqNone.eq_none_none @25
  |bl j=>cases ry;exact PySem.EqNone.eq_none_bool @25
  |int j=>obtain⟨t',rfl⟩:=ry;exact PySem.EqNone.eq_none_int @25
  |str j=>obtain⟨t',rfl⟩:=ry;exact PySem.EqNone.eq_none_str @25
  |_=>exact absurd (show false=true from hs) z19
 |bl i=>
  cases rx
  cases y with
  |non=>cases ry;exact PySem.EqNone.eq_bool_none @25
  |bl j=>cases ry;exact eq_bool (fin_bl I q dec_bl)
  |str j=>obtain⟨t',rfl⟩:=ry;exact PySem.EqMixed.eq_bool_str @25
  |_=>exact absurd (show false=true from hs) z19
 |int i=>
  obtain⟨t,rfl⟩:=rx
  cases y with
  |non=>cases ry;exact PySem.EqNone.eq_int_none @25
  |int j=>obtain⟨t',rfl⟩:=ry;exact eq_int (fin_bl I q dec_int)
  |str j=>obtain⟨t',rfl⟩:=ry;exact PySem.EqMixed.eq_int_str @25
  |_=>exact absurd (show false=true from hs) z19
 |str i=>
  obtain⟨t,rfl⟩:=rx
  cases y with
  |non=>cases ry;exact PySem.EqNone.eq_str_none @25
  |bl j=>cases ry;exact PySem.EqMixed.eq_str_bool @25
  |int j=>obtain⟨t',rfl⟩:=ry;exact PySem.EqMixed.eq_str_int @25
  |str j=>obtain⟨t',rfl⟩:=ry;exact eq_str (fin_bl I q dec_str)
  |_=>exact absurd (show false=true from hs) z19
 |byt i=>
  obtain⟨t,rfl⟩:=rx
  cases y with
  |byt j=>obtain⟨t',rfl⟩:=ry;exact PySem.W.eq_bytes (fin_bl I q dec_byt)
  |_=>exact absurd (show false=true from hs) z19
 |_=>cases y<;>exact absurd (show false=true from hs) z19
theorem op_ne:OpR X (compareOp .NotEq) rNe:=by
 intro pins s σ H x y v u Q I rx ry h;obtain⟨hs,q⟩:=h
 cases x with
 |non=>
  cases rx
  cases y with
  |non=>cases ry;exact PySem.EqNone.ne_none_none @25
  |bl j=>cases ry;exact PySem.EqNone.ne_none_bool @25
  |int j=>obtain⟨t',rfl⟩:=ry;exact PySem.EqNone.ne_none_int @25
  |str j=>obtain⟨t',rfl⟩:=ry;exact PySem.EqNone.ne_none_str @25
  |_=>exact absurd (show false=true from hs) z19
 |bl i=>
  cases rx
  cases y with
  |non=>cases ry;exact PySem.EqNone.ne_bool_none @25
  |bl j=>cases ry;exact ne_bool (fin_bl I q (congrArg not dec_bl))
  |str j=>obtain⟨t',rfl⟩:=ry;exact PySem.EqMixed.ne_bool_str @25
  |_=>exact absurd (show false=true from hs) z19
 |int i=>
  obtain⟨t,rfl⟩:=rx
  cases y with
  |non=>cases ry;exact PySem.EqNone.ne_int_none @25
  |int j=>obtain⟨t',rfl⟩:=ry;exact ne_int (fin_bl I q (congrArg not dec_int))
  |str j=>obtain⟨t',rfl⟩:=ry;exact PySem.EqMixed.ne_int_str @25
  |_=>exact absurd (show false=true from hs) z19
 |str i=>
  obtain⟨t,rfl⟩:=rx
  cases y with
  |non=>cases ry;exact PySem.EqNone.ne_str_none @25
  |bl j=>cases ry;exact PySem.EqMixed.ne_str_bool @25
  |int j=>obtain⟨t',rfl⟩:=ry;exact PySem.EqMixed.ne_str_int @25
  |str j=>obtain⟨t',rfl⟩:=ry;exact ne_str (fin_bl I q (congrArg not dec_str))
  |_=>exact absurd (show false=true from hs) z19
 |byt i=>
  obtain⟨t,rfl⟩:=rx
  cases y with
  |byt j=>obtain⟨t',rfl⟩:=ry;exact PySem.W.ne_bytes (fin_bl I q (congrArg not dec_byt))
  |_=>exact absurd (show false=true from hs) z19
 |_=>cases y<;>exact absurd (show false=true from hs) z19
theorem op_lt:OpR X (compareOp .Lt) (rI0 fun i j=>.bl (decide (i<j))):=opB0 fun _ _ _ _ _ _ _ q=>lt_int q
theorem op_le:OpR X (compareOp .LtE) (rI0 fun i j=>.bl (decide (i<=j))):=opB0 fun _ _ _ _ _ _ _ q=>le_int q
theorem op_ge:OpR X (compareOp .GtE) (rI0 fun i j=>.bl (decide (j<=i))):=opB0 fun _ _ _ _ _ _ _ q=>ge_int q
theorem OpR.or{r r':R2}(h:OpR X f r)(h':OpR X f r'):OpR X f (fun x y H Q=>r x y H Q\/r' x y H Q):=by
 intro pins s σ H x y v u Q I rx ry q;rcases q with q|q
 ·exact h pins s σ H x y v u Q I rx ry q
 ·exact h' pins s σ H x y v u Q I rx ry q
theorem nomark (b:Expr){op:CmpOp}(h:op≠.In:=by decide)(h2:op≠.NotIn:=by decide):behindInMarks op b=false:=by
 have e1:(op == CmpOp.In)=false:=by cases op<;>first|rfl|exact absurd rfl h
 have e2:(op == CmpOp.NotIn)=false:=by cases op<;>first|rfl|exact absurd rfl h2
 cases b<;>simp[behindInMarks,e1,e2]
theorem pe_cmpR {op:CmpOp}{r:R2}(ho:OpR X (compareOp op) r)(ha:PE X a ta)(hb:PE X b tb)(hm:behindInMarks op b=false):PE X (.Compare a [op] [b] pos) (tOp r ta tb):=by
 intro pins s σ H Q I h;exact wpAny_Compare1 (binT ha hb I h fun v u s2 x y H2 I2 rx ry q=>ho pins s2 σ H2 x y v u Q I2 rx ry q) hm
def tTest (t:TE):TT:=fun σ H Q=>t σ H fun x H'=>∃k,x=.bl k/\Q k H'
theorem pt_cmpR {op:CmpOp}{r:R2}(ho:OpR X (compareOp op) r)(ha:PE X a ta)(hb:PE X b tb)(hm:behindInMarks op b=false):PT X (.Compare a [op] [b] pos) (tTest (tOp r ta tb)):=by
 intro pins s σ H Q I h;refine wpAny_isTrue_Compare1 (thn (ha pins s σ H _ I h) fun v s1 hz=>?_) hm;obtain⟨x,H1,I1,r1,q1⟩:=hz;refine thn (hb pins s1 σ H1 _ I1 q1) fun u s2 hz=>?_;obtain⟨y,H2,I2,r2,q2⟩:=hz;refine thn (ho pins s2 σ H2 x y v u _ I2 r1 r2 q2) fun c s3 hz=>?_;obtain⟨z,H3,I3,r3,k,e,q3⟩:=hz;subst e;cases r3
 exact zh4 ⟨H3,I3,q3⟩
theorem line63:(z24:Nat)<2 ^ 63:=by rw[z67];decide
theorem vals1 {x:V}(r:Vals [x] us):∃u,us=[u]/\RelV x u:=by
 cases r with
 |cons r1 r2=>cases r2;exact⟨_,rfl,r1⟩
theorem vals2 {x:V}(r:Vals [x,y] us):∃u w',us=[u,w']/\RelV x u/\RelV y w':=by
 cases r with
 |cons r1 r2=>
  cases r2 with
  |cons r3 r4=>cases r4;exact⟨_,_,rfl,r1,r3⟩
theorem call_min2 (hc:X.calm=true):CallR X (.builtin "min") (fun xs H Q=>∃i j,xs=[.int i,.int j]/\Q (.int (if j<i then j else i)) H):=by
 intro pins s σ H xs us Q I r h;obtain⟨i,j,rfl,q⟩:=h;obtain⟨u,w',rfl,⟨t,rfl⟩,⟨t',rfl⟩⟩:=vals2 r;refine min_two_ints (I.ok.hd hc) fun h' tk k=>⟨_,H,I.kept k,?_,q⟩
 by_cases hj:j<i
 ·rw[if_pos hj,if_pos hj];exact⟨_,rfl⟩
 ·rw[if_neg hj,if_neg hj];exact⟨_,rfl⟩
def LenV (K:z02)(x:V)(H:Hp)(n:Nat):Prop:=
 match x with
 |.str y=>y.length<=z24/\n=y.length
 |.byt y=>y.size<=z24/\n=y.size
 |.ref p=>(∃xs,SqL K H p xs/\n=xs.length)\/∃xs,SqT K H p xs/\n=xs.length
 |_=>False
theorem call_len:CallR X (.builtin "len") (fun xs H Q=>∃x n,xs=[x]/\LenV X.K x H n/\Q (.int n) H):=by
 intro pins s σ H xs us Q I r h;obtain⟨x,n,rfl,e,q⟩:=h;obtain⟨u,rfl,rx⟩:=vals1 r;have hl:=line63;have hs:z24=16777216:=z67
 cases x with
 |str y=>
  obtain⟨t,rfl⟩:=rx;obtain⟨hy,e'⟩:y.length<=z24/\n=y.length:=e;subst e';exact len_str @0 ⟨.int _,H,I.tok _,⟨_,rfl⟩,q⟩
 |byt y=>
  obtain⟨t,rfl⟩:=rx;obtain⟨hy,e'⟩:y.size<=z24/\n=y.size:=e;subst e';exact PySem.W.len_bytes @0 ⟨.int _,H,I.tok _,⟨_,rfl⟩,q⟩
 |ref p=>
  cases rx
  have e':(∃xs,SqL X.K H p xs/\n=xs.length)\/∃xs,SqT X.K H p xs/\n=xs.length:=e;rcases e' with⟨xs,hx,e'⟩|⟨xs,hx,e'⟩
  ·subst e';obtain⟨its,r',pl,hz⟩:=I.list hx;have hlen:=r'.length;exact Calls.call_len_list pl.isList (by simp only[z22];lia) ⟨.int xs.length,H,I.tok _,⟨_,by simp only[z22];rw[hlen]⟩,q⟩
  ·subst e';obtain⟨its,r',pl,hz⟩:=I.tuple hx;have hlen:=r'.length;exact len_tuple pl (by simp only[z22];lia) ⟨.int xs.length,H,I.tok _,⟨_,by simp only[z22];rw[hlen]⟩,q⟩
 |_=>exact(show False from e).elim
end
theorem RelO.some_of{o:Option Value}(r:RelO @26 o):∃u,o=some u/\RelV v u:=by
 cases o with
 |none=>exact(show False from r).elim
 |some u=>exact⟨u,rfl,r⟩
structure Room (k:Nat)(A:Around):Prop where
 hd:A.handled=none
 dp:A.depth+3 * k+5<recursionLimit
 un:A.units+16 * k+200<cLine
 gd:A.guards=some []
theorem Room.mono {j k:Nat}(r:Room k A)(h:j<=k):Room j A:=⟨r.hd,by have:=r.dp;lia,by have:=r.un;lia,r.gd⟩
theorem Room.deeper {k:Nat}{A:Around}(r:Room (k+1) A)(env:Env):Room k (A.deeper env):=
 ⟨r.hd,by have:=r.dp;show A.depth+1+3 * k+5<_;lia,by have:=r.un;show A.units+3+16 * k+200<_;lia,r.gd⟩
theorem Room.depth {k:Nat}{A:Around}(r:Room k A):A.depth<recursionLimit:=by have:=r.dp;lia
theorem Room.units {k:Nat}{A:Around}(r:Room k A):A.units+64<cLine:=by have:=r.un;lia
def tNil:TA:=fun _ H Q=>Q [] H
def tCons (ta:TE)(tr:TA):TA:=fun σ H Q=>ta σ H fun x H1=>tr σ H1 fun xs H2=>Q (x::xs) H2
section
variable {t:TA}
theorem pa_nil:PA X [] tNil:=fun _ _ _ _ H Q I h=>y47 ⟨[],H,I,.nil,h⟩
theorem pa_cons (ha:PE X e te)(hr:PA X es t)(hs:starEach (e::es) X.env=@16::starEach es X.env:=by rfl):PA X (e::es) (tCons te t):=by
 intro pos pins s σ H Q I h;rw[hs];show wpAny _ _ (spliced ((false,eval e X.env)::backTo pos (starEach es X.env))) _ _ s;refine zs2 (thn (ha pins s σ H _ I h) fun u s1 hz=>?_);obtain⟨x,H1,I1,r1,q1⟩:=hz;exact thn (hr pos pins s1 σ H1 _ I1 q1) fun us s2 ⟨xs,H2,I2,r2,q2⟩=>⟨x::xs,H2,I2,.cons r1 r2,q2⟩
def tTup (t:TA):TE:=fun σ H Q=>t σ H fun xs H1=>xs.length<=z24/\∀p,H1 p=none->Q (.ref p) (upd H1 p (.tup xs))
def tLst (t:TA):TE:=fun σ H Q=>t σ H fun xs H1=>xs.length<=z24/\∀p,H1 p=none->Q (.ref p) (upd H1 p (.lst xs))
theorem pe_tup {x1}(h:PA X es t):PE X (.Tuple es x1 pos) (tTup t):=by
 intro pins s σ H Q I hq;refine wpAny_Tuple_spliced (thn (h pos pins s σ H _ I hq) fun us s1 ⟨xs,H1,I1,r,z,q⟩=>⟨by rw[← r.length];exact z,?_⟩);have hf:H1 s1.heap.objs.size=none:=I1.hok.fresh (z15 _);refine⟨.ref s1.heap.objs.size,upd H1 s1.heap.objs.size (.tup xs),I1.laid (t':=s1.toks) (fun b u e=>z14 _ e) (z15 _) ?_,rfl,q _ hf⟩;exact⟨z,us,r,⟨_,z29 _ rfl,rfl,_,rfl⟩⟩
theorem pe_lst (h:PA X es t):PE X (.List es pos) (tLst t):=by
 intro pins s σ H Q I hq;refine wpAny_List_spliced (thn (h pos pins s σ H _ I hq) fun us s1 ⟨xs,H1,I1,r,z,q⟩=>⟨by rw[← r.length];exact z,?_⟩);have hf:H1 s1.heap.objs.size=none:=I1.hok.fresh (z15 _);refine⟨.ref s1.heap.objs.size,upd H1 s1.heap.objs.size (.lst xs),I1.laid (t':=s1.toks) (fun b u e=>z14 _ e) (z15 _) ?_,rfl,q _ hf⟩;exact⟨z,us,0,r,z29 _ rfl⟩
end
abbrev Sp:=List V->Hp->VK->XK->Prop
abbrev CXT:=List Env->Hp->Shared->XK->Value->Shared->Prop
variable {CX:CXT}
structure Env0 (P:Program)(w:World)(K:z02)(mg:Str->Option Value)(base:Heap)(A:Around)(outer:List Env)(s:Shared)(H:Hp):Prop where
 frames:A.frames=some outer
 mod:Mod K mg base
 bs:∀b o,base.get? b=some o->s.heap.get? b=some o/\H b=none
 bsz:base.objs.size<=s.heap.objs.size
 funs:s.heap.FunFrames base outer
 frf:∀b∈frs outer,H b=none
 hok:HOk P w H s.heap
 bare:AllBare s.gens
def CE (outer:List Env)(P:Program)(w:World)(H:Hp)(s:Shared)(Q:VK)(u:Value)(s':Shared):Prop:=
 ∃v H',s'.os=s.os/\AllBare s'.gens/\Un (frs outer) [] H H' s.heap s'.heap/\HOk P w H' s'.heap/\RelV v u/\Q v H'
def CR (CX:CXT)(outer:List Env)(P:Program)(w:World)(H:Hp)(s:Shared)(Q:VK)(E:XK)(r:Result)(s':Shared):Prop:=
 match r with
 |.ok (.ret u)=>CE outer P w H s Q u s'
 |.ok _=>False
 |.error e=>CX outer H s E e s'
structure FnOk (P:Program)(w:World)(K:z02)(mg:Str->Option Value)(base:Heap)(CX:CXT)(k:Nat)(f:Addr)(fd:FuncData)(ps:List Str)(sp:Sp):Prop where
 len:∀vs H Q E,sp vs H Q E->vs.length=ps.length
 run:∀(A:Around) (outer:List Env) (s:Shared) (H:Hp) (args:Args) (us:List Value) (vs:List V) (Q:VK) (E:XK),Room k A->Env0 P w K mg base A outer s H->BindsTo s fd args (ps.zip us)->Vals vs us->sp vs H Q E->
  codeAny (model P w) A (.call (.ref f) args) (CR CX outer P w H s Q E) s
theorem FnOk.imp{k:Nat}{f:Addr}{sp sp':Sp}(F:FnOk P w K mg base CX k f fd ps sp)
  (h:∀vs H Q E,sp' vs H Q E->sp vs H Q E):FnOk P w K mg base CX k f fd ps sp':=
 ⟨fun vs H Q E q=>F.len vs H Q E (h _ _ _ _ q),fun A outer s H args us vs Q E hr he hb hv hs=>F.run A outer s H args us vs Q E hr he hb hv (h _ _ _ _ hs)⟩
section
variable {H:Hp}
theorem Inv.env0 (I:Inv X pins σ H s):Env0 X.prog X.w X.K X.mg X.base X.A X.stack s H:=
 ⟨I.ok.frames,I.ok.mod,I.bs,z73 I.ok.bsz I.sz,I.stack,I.stkFree,I.hok,I.bare⟩
theorem Inv.after {Q:VK}(I:Inv X pins σ H s)(h:CE X.stack X.prog X.w H s Q u s'):EP X pins σ Q u s':=by
 obtain⟨v,H',os,bare,un,hok,r,q⟩:=h;obtain⟨hh,g,d,t,os'⟩:=s';obtain rfl:os'=s.os:=os;exact⟨v,H',I.call (h':=hh) (g':=g) (d':=d) (t':=t) (ch:=[]) un hok bare (fun b z=>absurd z @6),r,q⟩
end
def Binds (K:z02)(fd:FuncData)(ps:List Str)(ds:List Value):Prop:=
 ∀(s:Shared) (us:List Value),K.In s.heap->(us++ds).length=ps.length->BindsTo s fd ⟨us,[]⟩ (ps.zip (us++ds))
theorem Binds.all(h:∀us:List Value,us.length=ps.length->bindArgs fd ⟨us,[]⟩=pure (ps.zip us)):Binds K fd ps []:=fun s us _ hl=>by
 rw[z50] at hl ⊢;exact .of_eq (h us hl)
structure FnScope (N P:List Str)(sc:Scope):Prop where
 kind:sc.kind=.function
 co:sc.isCoroutine=false
 gen:sc.isGenerator=false
 nd:N.Nodup
 pre:N.take P.length=P
 par:∀x∈P,sc.names.lookup x=some .local\/sc.names.lookup x=some .cell
 nofree:∀y∈sc.names,y.2≠.free
theorem bindL_out {kindOf:Str->Option NameKind}{x:Str}:∀{binds:List (Str×Value)} {m:Str->Option Value},(∀v,(x,v)∉binds)->bindL kindOf binds m x=m x
 | [],_,_=>rfl
 |(n,v)::r,m,h=>by
  unfold bindL;rw[bindL_out fun w hw=>h w (z07 _ hw)]
  split
  ·have:x≠n:=by rintro rfl;exact h v z09
   simp[this]
  ·rfl
theorem bindC_out {kindOf:Str->Option NameKind}{x:Str}:∀{binds:List (Str×Value)} {m:Str->Option Value},(∀v,(x,v)∉binds)->bindC kindOf binds m x=m x
 | [],_,_=>rfl
 |(n,v)::r,m,h=>by
  unfold bindC;rw[bindC_out fun w hw=>h w (z07 _ hw)]
  split
  ·rfl
  ·have:x≠n:=by rintro rfl;exact h v z09
   simp[this]
theorem bindL_get {kindOf:Str->Option NameKind}{x:Str}{v:Value}:∀{P:List Str} {vs:List Value} {i:Nat} {m:Str->Option Value},P.Nodup->P[i]? = some x->vs[i]? = some v->kindOf x=some .local->
  bindL kindOf (P.zip vs) m x=some v
 | [],_,_,_,_,h,_,_=>by simp at h
 |_::_,[],_,_,_,_,h,_=>by simp at h
 |p::P,w::vs,0,m,nd,h1,h2,hk=>by
  simp at h1 h2;subst h1;subst h2;show bindL kindOf ((p,w)::P.zip vs) m p=_;unfold bindL;rw[bindL_out fun v hv=>(z39.mp nd).1 (zw9 hv).1,if_pos hk];simp
 |p::P,w::vs,i+1,m,nd,h1,h2,hk=>by
  show bindL kindOf ((p,w)::P.zip vs) m x=_;unfold bindL;exact bindL_get (i:=i) (z39.mp nd).2 (by simpa using h1) (by simpa using h2) hk
theorem bindC_get {kindOf:Str->Option NameKind}{x:Str}{v:Value}:∀{P:List Str} {vs:List Value} {i:Nat} {m:Str->Option Value},P.Nodup->P[i]? = some x->vs[i]? = some v->kindOf x≠some .local->
  bindC kindOf (P.zip vs) m x=some v
 | [],_,_,_,_,h,_,_=>by simp at h
 |_::_,[],_,_,_,_,h,_=>by simp at h
 |p::P,w::vs,0,m,nd,h1,h2,hk=>by
  simp at h1 h2;subst h1;subst h2;show bindC kindOf ((p,w)::P.zip vs) m p=_;unfold bindC;rw[bindC_out fun v hv=>(z39.mp nd).1 (zw9 hv).1,if_neg hk];simp
 |p::P,w::vs,i+1,m,nd,h1,h2,hk=>by
  show bindC kindOf ((p,w)::P.zip vs) m x=_;unfold bindC;exact bindC_get (i:=i) (z39.mp nd).2 (by simpa using h1) (by simpa using h2) hk
def start (N:List Str)(vs:List V):St:=vs.map some++zd4 (N.length - vs.length) none
def cxOf (CX:CXT)(P:Program)(w:World)(K:z02)(mg:Str->Option Value)(base:Heap)(N:List Str)(qual:Str)(scope:Scope)(f:Addr)(cd:Value)(A:Around)(outer:List Env)(s:Shared)(H:Hp)(E:XK):Cx where
 prog:=P
 w:=w
 K:=K
 mg:=mg
 base:=base
 A:=A.deeper (envOfC qual scope s.heap.objs.size f cd)
 N:=N
 s₀:=s
 H₀:=H
 env:=envOfC qual scope s.heap.objs.size f cd
 outer:=outer
 stack:=envOfC qual scope s.heap.objs.size f cd::outer
 ex:=[]
 calm:=true
 fn:=fun _=>true
 pn:=[]
 xe:=fun e s'=>wpAny (model P w) (A.deeper (envOfC qual scope s.heap.objs.size f cd)) (leaving (envOfC qual scope s.heap.objs.size f cd) e) (fun _ s''=>CX outer H s E e s'') (fun e' s''=>CX outer H s E e' s'') s'
theorem cell_has {sc:Scope}{n:Nat}(h:sc.names.lookup x=some .cell):∃c,(cellsFrom n sc.names []).lookup x=some c:=by
 have q:=zy1 sc.names n [] (.inl h);exact zx8.mp q
theorem inv_start{qual:Str}{f:Addr}{cd:Value}{outer:List Env}{s1:Shared}{H:Hp}{E:XK}{vs:List V}
  (S:FnScope N ps scope) (hd:A.handled=none) (e0:Env0 P w K mg base A outer s H) (hl:vs.length=ps.length) (r:Vals vs us)
  (x:InCallC s s.heap.objs.size (bindL (envOfC qual scope s.heap.objs.size f cd).kindOf (ps.zip us) fun _=>none) (cellsFrom (s.heap.objs.size+1) scope.names []) (bindC (envOfC qual scope s.heap.objs.size f cd).kindOf (ps.zip us) fun _=>none) s1) :
  Inv (cxOf CX P w K mg base N qual scope f cd A outer s H E) [] (start N vs) H s1:=by
 have hpl:ps.length<=N.length:=by have:=congrArg zd5 S.pre;rw[z48] at this;lia
 obtain⟨h1,tk,rfl,hk⟩:=x.done;have noA:∀b:Addr,b∉(cxOf CX P w K mg base N qual scope f cd A outer s H E).ex:=fun b z=>absurd (show b∈([]:List Addr) from z) @6
 refine⟨⟨e0.mod,S.kind,rfl,rfl,z15 _,fun y z c h1 h2=>?_,fun y hy=>?_,fun y c _ h=>?_,fun _=>hd,Around.frames_deeper e0.frames,.inr ⟨rfl,rfl⟩,fun b z=>absurd z (noA b),e0.bs,e0.bsz,fun b _ _=>noA b,fun b z=>absurd z (noA b),e0.funs,e0.frf⟩,
  rfl,e0.bare,Un.kept hk,⟨_,x.toInCall.ns,fun i y v h1 h2 h3=>?_⟩,fun y c h=>⟨_,x.cell y c h⟩,e0.hok.fresh (z15 _),fun y c h=>?_,fun p hp=>absurd (show p∈([]:List @8) from hp) @6,e0.hok.kept hk,?_⟩
 ·exact name_of_addr x.apart (zc4 h1) (zc4 h2)
 ·have hy:scope.names.lookup y=some .cell\/scope.names.lookup y=some .free:=hy;rcases hy with hy|hy
  ·exact cell_has hy
  ·exact absurd rfl (S.nofree _ (zc4 hy))
 ·exact za3 (x.above y c (zc4 h))
 ·have hi:i<vs.length:=by
   unfold start at h2
   by_cases hi:i<vs.length
   ·exact hi
   ·rw[z44 (by simpa using hi)] at h2;rw[List.getElem?_replicate] at h2
    split at h2<;>cases h2
  have ha:vs[i]? = some v:=by
   unfold start at h2;rw[z53 (by simpa using hi),z17] at h2
   cases e:vs[i]? with
   |none=>rw[e] at h2;cases h2
   |some a=>rw[e] at h2;cases h2;rfl
  obtain⟨u,hu,rv⟩:=r.get ha
  have hp:ps[i]? = some y:=by
   rw[← S.pre,zb6 @0];exact h1
  have ndP:ps.Nodup:=by rw[← S.pre];exact S.nd.sublist (zn3 _ _)
  refine⟨u,rv,?_⟩;rcases S.par y (z38 hp) with k|k
  ·exact .inl ⟨k,bindL_get ndP hp hu k⟩
  ·obtain⟨c,e⟩:=cell_has (n:=s.heap.objs.size+1) k;refine .inr ⟨.inl k,c,e,?_⟩;have q:=x.cell y c e;rw[bindC_get ndP hp hu (by show scope.names.lookup y≠_;rw[k];decide)] at q;exact q
 ·exact e0.hok.fresh (za3 (x.above y c (zc4 h)))
 ·unfold start;show _=N.length;rw[z10,z01,List.length_replicate];lia
theorem fn_of{k:Nat}{f:Addr}{name qual:Str}{params:Arguments}{dV kV doc pm cdv ct oc:Value}{an od:Option Addr} {sp:Sp} (lk:K.lookup f=some ⟨oc,od,.func (zh0 name qual params body scope dV kV doc pm an cdv ct),osl⟩) (hcd:zw0 K cdv qual=true) (S:FnScope N ps scope)
  (len:∀vs H Q E,sp vs H Q E->vs.length=ps.length)
  (hbody:∀(A:Around) (outer:List Env) (s:Shared) (H:Hp) (vs:List V) (Q:VK) (E:XK),Room k (A.deeper (envOfC qual scope s.heap.objs.size f cdv))->sp vs H Q E->
   ∃t,PSs (cxOf CX P w K mg base N qual scope f cdv A outer s H E) body t/\t { nx:=fun _ H'=>Q .non H',rt:=Q } (start N vs) H) :
  FnOk P w K mg base CX (k+1) f (zh0 name qual params body scope dV kV doc pm an cdv ct) ps sp:=by
 refine⟨len,fun A outer s H args us vs Q E hr e0 hb r hsp=>?_⟩;have hl:=len _ _ _ _ hsp;have KX:K.In s.heap:=e0.mod.kin.keeps fun b o e=>(e0.bs b o e).1;have lim:s.heap.NoLimit:=e0.mod.nolimit.keeps fun b o e=>(e0.bs b o e).1
 have hkind:∀y∈ps.zip us,scope.names.lookup y.1=some .local\/(scope.names.lookup y.1=some .cell/\((cellsFrom (s.heap.objs.size+1) scope.names []).lookup y.1).isSome=true):=fun⟨n,v⟩ hy=>by
  rcases S.par n (zw9 hy).1 with q|q
  ·exact .inl q
  ·exact .inr ⟨q,zy1 _ _ _ (.inl q)⟩
 refine codeAny_call_function hr.depth (KX _ _ lk) rfl S.co S.gen rfl (PySem.W.codeRec_of KX hcd) (hb _ _ _ _ ?_);refine wpAny_newFunctionEnv_cells S.kind hkind fun env he s1 x=>?_;subst he;refine⟨lim.keeps x.toInCall.keep,codeAny_func ?_⟩;obtain⟨t,ht,hq⟩:=hbody A outer s H vs Q E (hr.deeper _) hsp;have I:Inv (cxOf CX P w K mg base N qual scope f cdv A outer s H E) [] (start N vs) H s1:=inv_start S hr.hd e0 hl r x;refine zb4 (ht [] s1 (start N vs) H _ I hq) (fun fl s' hs=>?_) fun e s' hs=>hs
 have fin:∀{σ':St} {H':Hp} {v:V} {u:Value},Inv (cxOf CX P w K mg base N qual scope f cdv A outer s H E) [] σ' H' s'->RelV v u->Q v H'->CE outer P w H s Q u s':=
  fun{σ' H' v u} J rv q=>⟨v,H',J.os,J.bare,J.base,J.hok,rv,q⟩
 cases fl with
 |ret u=>
  obtain⟨v,σ',H',J,rv,q⟩:=hs;exact fin J rv q
 |next=>
  obtain⟨σ',H',J,q⟩:=hs;exact fin (v:=V.non) (u:=z40) J rfl q
 |brk=>
  obtain⟨_,_,_,q⟩:=hs;exact zj1 q
 |cont=>
  obtain⟨_,_,_,q⟩:=hs;exact zj1 q
section
variable {t:TA}{T:String}{r:List V->Hp->VK->Prop}
def tCB (r:List V->Hp->VK->Prop)(t:TA):TE:=fun σ H Q=>t σ H fun vs H1=>r vs H1 Q
theorem pe_callB (hc:CallR X (.builtin id) r)(hg:Gl X x)(hm:X.mg x=none)(hv:z90 x=some (.builtin id))(ha:PA X (e::es) t)(hn:x ≠ "__name__" := by decide)(hdb:@10=false:=by decide)
  (he:starEach (e::es) X.env=@16::starEach es X.env:=by rfl) (hpl:(backTo pos (starEach es X.env)).any (·.1)=false:=by rfl):PE X (.Call (.Name x p) (e::es) [] pos) (tCB r t):=by
 intro pins s σ H Q I h;refine zn9 (ld_blt I hg hm hv ?_ hn hdb);exact PyProof.Rows.callWith_builtin1 (thn (ha pos pins s σ H _ I h) fun us s1 ⟨vs,H1,I1,r1,q1⟩=>hc pins s1 σ H1 vs us Q I1 r1 q1) he hpl
theorem pe_callTy (hc:CallR X (.type T) r)(hg:Gl X x)(hm:X.mg x=none)(hv:z90 x=some (.type T))(ha:PA X (e::es) t)(hn:x ≠ "__name__" := by decide)(hdb:@10=false:=by decide)
  (he:starEach (e::es) X.env=@16::starEach es X.env:=by rfl) (hpl:(backTo pos (starEach es X.env)).any (·.1)=false:=by rfl):PE X (.Call (.Name x p) (e::es) [] pos) (tCB r t):=by
 intro pins s σ H Q I h;refine zn9 (ld_blt I hg hm hv ?_ hn hdb);exact zb7 (thn (ha pos pins s σ H _ I h) fun us s1 ⟨vs,H1,I1,r1,q1⟩=>hc pins s1 σ H1 vs us Q I1 r1 q1) he hpl
end
section
variable {κ:Type}[DecidableEq κ]
def valV (kvs:List (κ×V))(k:κ):Option V:=(kvs.find? fun kv=>decide (kv.1=k)).map (·.2)
def putK (kvs:List (κ×V))(k:κ)(v:V):List (κ×V):=
 if(kvs.any fun kv=>decide (kv.1=k))=true then kvs.map (fun kv=>if kv.1=k then(kv.1,v) else kv) else kvs++[(k,v)]
theorem valV_pos {p:κ×V}{r:List (κ×V)}{k:κ}(e:p.1=k):valV (p::r) k=some p.2:=by simp[valV,zi4,e]
theorem valV_neg {p:κ×V}{r:List (κ×V)}{k:κ}(e:¬ p.1=k):valV (p::r) k=valV r k:=by simp[valV,zi4,e]
theorem valV_any (k:κ):∀kvs:List (κ×V),(kvs.any fun kv=>decide (kv.1=k))=(valV kvs k).isSome
 | []=>rfl
 |p::r=>by
  rw[za6]
  by_cases e:p.1=k
  ·simp only[valV_pos e,decide_eq_true e,Bool.true_or,Option.isSome_some]
  ·rw[valV_neg e,decide_eq_false e,y02];exact valV_any k r
theorem length_putK (kvs:List (κ×V))(k:κ)(v:V):(putK kvs k v).length<=kvs.length+1:=by
 unfold putK
 split
 ·rw[z01];lia
 ·rw[z10,z31,zi2];lia
theorem putK_new {kvs:List (κ×V)}{k:κ}(v:V)(h:valV kvs k=none):putK kvs k v=kvs++[(k,v)]:=by
 unfold putK;rw[valV_any,h];exact if_neg @2
theorem RelO.isSome_eq {o:Option V}{u:Option Value}(r:RelO o u):o.isSome=u.isSome:=by
 cases o with
 |none=>cases u with
  |none=>rfl
  |some _=>exact(show False from r).elim
 |some _=>cases u with
  |none=>exact(show False from r).elim
  |some _=>rfl
theorem RelO.getD {o:Option V}{u:Option Value}{d:V}{d':Value}(r:RelO o u)(rd:RelV d d'):RelV (o.getD d) (u.getD d'):=by
 cases o with
 |none=>cases u with
  |none=>exact rd
  |some _=>exact(show False from r).elim
 |some _=>cases u with
  |none=>exact(show False from r).elim
  |some _=>exact r
theorem KV.val {kvs:List (κ×V)}{vs:List (κ×Value)}(r:KV kvs vs)(k:κ):RelO (valV kvs k) (valueAt vs k):=by
 unfold KV at r
 induction r with
 |nil=>exact z64
 | @cons p q ps qs h t ih=>
  obtain⟨h1,h2⟩:=h
  by_cases e:p.1=k
  ·have e':q.1=k:=h1.symm.trans e;have b:valueAt (q::qs) k=some q.2:=by simp[valueAt,zi4,e']
   rw[valV_pos e,b];exact h2
  ·have e':¬ q.1=k:=fun z=>e (h1.trans z);have b:valueAt (q::qs) k=valueAt qs k:=by simp[valueAt,zi4,e']
   rw[valV_neg e,b];exact ih
theorem KV.any {kvs:List (κ×V)}{vs:List (κ×Value)}(r:KV kvs vs)(k:κ):(kvs.any fun kv=>decide (kv.1=k))=vs.any fun kv=>decide (kv.1=k):=by
 unfold KV at r
 induction r with
 |nil=>rfl
 |cons h t ih=>rw[za6,za6,ih,h.1]
theorem KV.repl {kvs:List (κ×V)}{vs:List (κ×Value)}(r:KV kvs vs)(k:κ)(ry:RelV y u) :
  KV (kvs.map fun kv=>if kv.1=k then(kv.1,y) else kv) (vs.map fun kv=>if kv.1=k then(kv.1,u) else kv):=by
 unfold KV at r ⊢
 induction r with
 |nil=>exact .nil
 | @cons p q ps qs h t ih=>
  rw[z28,z28];refine .cons ?_ ih;obtain⟨h1,h2⟩:=h
  by_cases e:p.1=k
  ·rw[if_pos e,if_pos (h1.symm.trans e)];exact⟨h1,ry⟩
  ·rw[if_neg e,if_neg (fun z=>e (h1.trans z))];exact⟨h1,h2⟩
theorem KV.put {kvs:List (κ×V)}{vs:List (κ×Value)}(r:KV kvs vs)(k:κ)(ry:RelV y u):KV (putK kvs k y) (stored vs k u):=by
 unfold putK stored;rw[r.any k]
 by_cases e:(vs.any fun kv=>decide (kv.1=k))=true
 ·rw[if_pos e,if_pos e];exact r.repl k ry
 ·rw[if_neg e,if_neg e];exact y13 r ⟨rfl,ry⟩
theorem KV.length {kvs:List (κ×V)}{vs:List (κ×Value)}(r:KV kvs vs):kvs.length=vs.length:=z97 r
end
theorem kV_is{k:Key}(r:RelV (kV k) u):(mixKind P w).is k u=true:=by
 cases k with
 |inl i=>obtain⟨t,e⟩:=(show ∃t,u=z82 i t from r);subst e;exact mixKind_int P w i t
 |inr x=>obtain⟨t,e⟩:=(show ∃t,u=Value.str x t from r);subst e;exact mixKind_str P w x t
theorem items_are {P:Program}{w:World}:∀{ks:List Key} {us:List Value},Vals (ks.map kV) us->ItemsAre (mixKind P w) ks us
 | [],_,r=>by rw[zp3] at r;cases r;exact .nil
 |k::ks,_,r=>by
  rw[z28] at r
  cases r with
  |cons h t=>exact .cons (kV_is h) (items_are t)
abbrev KT (H:Hp):List (List Key×V)->List (List Key×Addr×Value)->Prop:=Paired fun p q=>p.1=q.1/\YB H q.2.1 p.1/\RelV p.2 q.2.2
theorem KT.val {H:Hp}{xs:List (List Key×Addr×Value)}(r:KT H kvs xs)(k:List Key):RelO (valV kvs k) ((atKey xs k).map (·.2)):=by
 induction r with
 |nil=>exact z64
 | @cons p q ps qs h t ih=>
  obtain⟨h1,_,h2⟩:=h
  by_cases e:p.1=k
  ·have e':q.1=k:=h1.symm.trans e;have b:atKey (q::qs) k=some q.2:=by simp[atKey,zi4,e']
   rw[valV_pos e,b];exact h2
  ·have e':¬ q.1=k:=fun z=>e (h1.trans z);have b:atKey (q::qs) k=atKey qs k:=by simp[atKey,zi4,e']
   rw[valV_neg e,b];exact ih
theorem KT.repl {H:Hp}{xs:List (List Key×Addr×Value)}(r:KT H kvs xs)(k:List Key)(ry:RelV y u) :
  KT H (kvs.map fun kv=>if kv.1=k then(kv.1,y) else kv) (xs.map (putAt k u)):=by
 induction r with
 |nil=>exact .nil
 | @cons p q ps qs h t ih=>
  rw[z28,z28];refine .cons ?_ ih;obtain⟨h1,h2,h3⟩:=h;unfold putAt
  by_cases e:p.1=k
  ·rw[if_pos e,if_pos (h1.symm.trans e)];exact⟨h1,h2,ry⟩
  ·rw[if_neg e,if_neg (fun z=>e (h1.trans z))];exact⟨h1,h2,h3⟩
theorem KT.put {H:Hp}{xs:List (List Key×Addr×Value)}(r:KT H kvs xs)(k:List Key)(hb:YB H b k)(ry:RelV y u) :
  KT H (putK kvs k y) (storedH xs k b u):=by
 have e:(kvs.any fun kv=>decide (kv.1=k))=(atKey xs k).isSome:=by
  rw[valV_any,(r.val k).isSome_eq,zs5]
 unfold putK storedH;rw[e]
 by_cases q:(atKey xs k).isSome=true
 ·rw[if_pos q,if_pos q];exact r.repl k ry
 ·rw[if_neg q,if_neg q];exact y13 r ⟨rfl,hb,ry⟩
theorem KT.keeps {H:Hp}{xs:List (List Key×Addr×Value)}(r:KT H kvs xs)(ht:∀b ys,H b=some (.tup ys)->H' b=some (.tup ys)):KT H' kvs xs:=
 Paired.mapP r fun _ _ z=>⟨z.1,z.2.1.mono ht,z.2.2⟩
section
variable {H:Hp}
theorem rd_of {u:HO}(ok:HOk P w H h)(e:Rd H a u):ObjOk P w H h a u:=e.ok ok
theorem dk_rd {kvs:List (Key×V)}(ok:HOk P w H h)(e:Rd H a (.dK kvs)):kvs.length<=z24/\(a == sysModules)=false/\∃vs,KV kvs vs/\h.DictOf (mixKind P w) a vs:=
 show ObjOk P w H h a (.dK kvs) from rd_of ok e
theorem dk_of {kvs:List (Key×V)}(ok:HOk P w H h)(e:H a=some (.dK kvs)):kvs.length<=z24/\(a == sysModules)=false/\∃vs,KV kvs vs/\h.DictOf (mixKind P w) a vs:=dk_rd ok (.inl e)
theorem key_of {ks:List Key}(ok:HOk P w H h)(e:YB H a ks):(QcG P w).is h ks a:=by
 have flat:∀{a:Addr} {ks:List Key},H a=some (.tup (ks.map kV))->IsTupleKey (mixKind P w) h ks a:=fun{a ks} e=>by
  obtain⟨_,its,r,o,h1,h2,n,h3⟩:=(show ObjOk P w H h a (.tup (ks.map kV)) from ok a _ e);exact⟨o,its.toArray,n,h1,h2,h3,by simpa using items_are r⟩
 rcases e with⟨n,e⟩|⟨k1,k2,p,q,e0,l1,l2,e,e1,e2⟩
 ·exact .inl ⟨n,flat e⟩
 ·obtain⟨_,its,r,o,h1,h2,n,h3⟩:=(show ObjOk P w H h a (.tup [.ref p,.ref q]) from ok a _ e)
  have ei:its=[.ref p,.ref q]:=by
   cases r with
   |cons r1 r=>
    cases r with
    |cons r2 r=>
     cases r
     rw[show _=z30 p from r1,show _=z30 q from r2]
  subst ei;exact .inr ⟨k1,k2,p,q,o,n,e0,l1,l2,h1,h2,h3,flat e1,flat e2⟩
theorem dt_rd(ok:HOk P w H h)(e:Rd H a (.dT kvs)):kvs.length<=z24/\(a == sysModules)=false/\
  ∃xs,KT H kvs xs/\h.DictOfH (QcG P w) a xs:=by
 obtain⟨z,y,xs,r,o,es,ep,h1,h2,h3,h4,h5⟩:=(show ObjOk P w H h a (.dT kvs) from rd_of ok e);refine⟨z,y,xs,r,o,es,ep,h1,h2,h3,h4,fun x hx=>?_,h5⟩
 have all:∀{l:List (List Key×V)} {m:List (List Key×Addr×Value)},KT H l m->∀x∈m,(QcG P w).is h x.1 x.2.1:=by
  intro l m q
  induction q with
  |nil=>intro x hx;exact nomatch hx
  | @cons p q ps qs hq t ih=>
   intro x hx;rcases z21.mp hx with e|hx
   ·subst e;exact key_of ok (by rw[← hq.1];exact hq.2.1)
   ·exact ih x hx
 exact all r x hx
theorem dt_of(ok:HOk P w H h)(e:H a=some (.dT kvs)):kvs.length<=z24/\(a == sysModules)=false/\
  ∃xs,KT H kvs xs/\h.DictOfH (QcG P w) a xs:=dt_rd ok (.inl e)
end
def DGet (H:Hp)(a:Addr)(y:V)(r:Option V):Prop:=
 (∃kvs k,Rd H a (.dK kvs)/\y=kV k/\r=valV kvs k)\/∃kvs k b,Rd H a (.dT kvs)/\y=.ref b/\YB H b k/\r=valV kvs k
def DPut (H:Hp)(a:Addr)(y v:V)(H':Hp):Prop:=
 (∃kvs k,H a=some (.dK kvs)/\y=kV k/\kvs.length<z24/\H'=upd H a (.dK (putK kvs k v)))\/
 ∃kvs k b,H a=some (.dT kvs)/\y=.ref b/\YB H b k/\kvs.length<z24/\H'=upd H a (.dT (putK kvs k v))
theorem DPut.t {H:Hp}(e:H a=some (.dT kvs))(eb:YB H b k)(hl:kvs.length<z24) :
  DPut H a (.ref b) v (upd H a (.dT (putK kvs k v))):=.inr ⟨kvs,k,b,e,rfl,eb,hl,rfl⟩
section
variable {H:Hp}{r:Value}{o:Option V}
theorem Inv.big (I:Inv X pins σ H s):sysModules<s.heap.objs.size:=by
 have h:z68<s.heap.objs.size:=(I.mod.glob.keeps I.bk).lt;exact zq3 @2 h
theorem d_getItem(hu:A.units+2<cLine)(I:Inv X pins σ H s)(g:DGet H a y @26)(ry:RelV y u)(h:∀w' s',Inv X pins σ H s'->RelV v w'->Q w' s') :
  wpAny @3 A (getItem @28 u) Q E s:=by
 rcases g with⟨kvs,k,e,ey,l⟩|⟨kvs,k,b,e,ey,eb,l⟩
 ·subst ey;obtain⟨z,hd,vs,rel,dd⟩:=dk_rd I.hok e;obtain⟨w',hw,rw'⟩:=RelO.some_of (v:=v) (o:=valueAt vs k) (by rw[l];exact rel.val k);exact wpAny_getItem_of (kV_is ry) dd.mapOf hw (h w' _ (I.tok _) rw')
 ·subst ey;cases(show u=z30 b from ry)
  obtain⟨z,hd,xs,rel,dd⟩:=dt_rd I.hok e;obtain⟨w',hw,rw'⟩:=RelO.some_of (v:=v) (o:=(atKey xs k).map (·.2)) (by rw[l];exact rel.val k);obtain⟨p,hp,hp2⟩:=z03.mp hw;refine wpAny_getItem_heap (Qal hu) (key_of I.hok eb) dd hp ?_;rw[hp2];exact h w' _ (I.tok _) rw'
theorem d_in(hu:A.units+2<cLine)(I:Inv X pins σ H s)(g:DGet H a y o)(ry:RelV y u)(h:∀s',Inv X pins σ H s'->Q (.bool o.isSome) s') :
  wpAny @3 A (compareOp .In u @28) Q E s:=by
 rcases g with⟨kvs,k,e,ey,l⟩|⟨kvs,k,b,e,ey,eb,l⟩
 ·subst ey;obtain⟨z,hd,vs,rel,dd⟩:=dk_rd I.hok e;refine wpAny_in_of (kV_is ry) hd dd.mapOf ?_;rw[← (rel.val k).isSome_eq,← l];exact h _ (I.tok _)
 ·subst ey;cases(show u=z30 b from ry)
  obtain⟨z,hd,xs,rel,dd⟩:=dt_rd I.hok e;refine wpAny_in_heap (Qal hu) (key_of I.hok eb) hd dd ?_;have q:=(rel.val k).isSome_eq;rw[zs5] at q;rw[← q,← l];exact h _ (I.tok _)
theorem d_notIn(hu:A.units+2<cLine)(I:Inv X pins σ H s)(g:DGet H a y o)(ry:RelV y u)(h:∀s',Inv X pins σ H s'->Q (.bool (!o.isSome)) s') :
  wpAny @3 A (compareOp .NotIn u @28) Q E s:=by
 rcases g with⟨kvs,k,e,ey,l⟩|⟨kvs,k,b,e,ey,eb,l⟩
 ·subst ey;obtain⟨z,hd,vs,rel,dd⟩:=dk_rd I.hok e;refine wpAny_notIn_of (kV_is ry) hd dd.mapOf ?_;rw[← (rel.val k).isSome_eq,← l];exact h _ (I.tok _)
 ·subst ey;cases(show u=z30 b from ry)
  obtain⟨z,hd,xs,rel,dd⟩:=dt_rd I.hok e;refine wpAny_notIn_heap (Qal hu) (key_of I.hok eb) hd dd ?_;have q:=(rel.val k).isSome_eq;rw[zs5] at q;rw[← q,← l];exact h _ (I.tok _)
theorem d_write{ob:HO}(I:Inv X pins σ H s)(mu:Mut (H a))(hs:zd3 a s.heap h')(he:∃q,h'.get? a=some q)(new:ObjOk X.prog X.w (upd H a ob) h' a ob) :
  Inv X pins σ (upd H a ob) { s with heap:=h',toks:=t' }:=
 I.write (x:=a) (e:=a) mu @14 (fun b q hb z=>(hs.2 b hb).trans z) he new
theorem dk_new{kvs:List (Key×V)}{vs:List (Key×Value)}(z:kvs.length<=z24)(hd:(a == sysModules)=false)(rel:KV kvs vs)(dd:h'.DictOf (mixKind P w) a vs) :
  ObjOk P w H' h' a (.dK kvs):=⟨z,hd,vs,rel,dd⟩
theorem d_setItem{Q:Unit->Shared->Prop}(hu:A.units+2<cLine)(I:Inv X pins σ H s)(g:DPut H a y v H')(ry:RelV y u)(rv:RelV v r)(h:∀s',Inv X pins σ H' s'->Q () s') :
  wpAny @3 A (setItem @28 u r) Q E s:=by
 rcases g with⟨kvs,k,e,ey,l,eH⟩|⟨kvs,k,b,e,ey,eb,l,eH⟩
 ·subst ey eH;obtain⟨z,hd,vs,rel,dd⟩:=dk_of I.hok e;have hz:vs.length<=z24:=by rw[← rel.length];exact z
  have hl:(putK kvs k v).length<=z24:=by have:=length_putK kvs k v;lia
  refine wpAny_setItem_pairs (hsz:=hz) (kV_is ry) dd fun h' dd' hs=>h _ ?_;have he:∃q,h'.get? a=some q:=let ⟨q,_,_,hq,_⟩:=dd';⟨q,hq⟩
  exact d_write I (by rw[e];exact z64) hs he (dk_new hl hd (rel.put k rv) dd')
 ·subst ey eH;cases(show u=z30 b from ry)
  obtain⟨z,hd,xs,rel,dd⟩:=dt_of I.hok e;have hz:xs.length<=z24:=by rw[← z97 rel];exact z
  have hl:(putK kvs k v).length<=z24:=by have:=length_putK kvs k v;lia
  refine wpAny_setItem_heap (hsz:=hz) (Qal hu) (key_of I.hok eb) dd fun h' dd' hs=>h _ ?_;obtain⟨q,es,ep,hq,h2,h3,h4,_,h5⟩:=dd';refine d_write I (by rw[e];exact z64) hs ⟨q,hq⟩ ⟨hl,hd,_,(rel.put k eb rv).keeps fun c ys ec=>?_,q,es,ep,hq,h2,h3,h4,h5⟩;rw[upd_ne (ne_of ec e (fun z=>nomatch z))];exact ec
end
def NoSl (i:Expr):Prop:=∀ov iv,subscripted i false ov iv=operate [ov,iv] (getItem ov iv)
theorem subD_of {prog:Program}{w:World}{env:Env}{slice:Expr}{T:String}
  (hl:typeLookup (.type T) "__getitem__" = pure (some (.builtin id))) (hs:NoSl slice)
  (h:wpAny @1 A (eval value env) (fun o s₁=>wpAny @1 A (eval slice env) (fun i s₂=>s₂.TypeIs o T/\wpAny @1 A (getItem o i) Q E s₂) E s₁) E s) :
  wpAny @1 A (eval (.Subscript value slice pos) env) Q E s:=by
 refine Subscript_ (zb4 h (fun o s₁ h₁=>zb4 h₁ (fun i s₂ h₂=>?_) fun _ _ x=>x) fun _ _ x=>x);obtain⟨hT,h₂⟩:=h₂;unfold subscriptTail;refine z00 ?_;rw[getitemInPython_of_ne hT.not_modules];refine z00 (ze5 hT hl ?_)
 have fin:wpAny @1 A (subscripted slice false o i) (fun r s₃=>wpAny @1 A (letTemporaryGo value o r >>= fun _=>pure r) Q E s₃) E s₂:=by
  rw[hs o i];exact wpAny_operating (zb4 h₂ (fun r s₃ h₃=>z00 (wpAny_letTemporaryGo (z04 h₃))) fun _ _ x=>x)
 first
  |exact z04 (z00 fin)
  |exact z00 (z04 (z00 fin))
  |exact z00 fin
theorem dict_typeIs{H:Hp}{o:Option V}(I:Inv X pins σ H s)(g:DGet H a y o):s.TypeIs @28 "dict" := by
 rcases g with⟨kvs,k,e,_,_⟩|⟨kvs,k,b,e,_,_,_⟩
 ·obtain⟨_,_,vs,_,dd⟩:=dk_rd I.hok e;exact dd.typeIs
 ·obtain⟨_,_,xs,_,dd⟩:=dt_rd I.hok e;exact dd.typeIs
def tDGet (td ty:TE):TE:=fun σ H Q=>td σ H fun x H1=>ty σ H1 fun y H2=>∃a v,x=.ref a/\DGet H2 a y @26/\Q v H2
def tDIn (ty td:TE):TE:=fun σ H Q=>ty σ H fun y H1=>td σ H1 fun x H2=>∃a o,x=.ref a/\DGet H2 a y o/\Q (.bl o.isSome) H2
def tDNotIn (ty td:TE):TE:=fun σ H Q=>ty σ H fun y H1=>td σ H1 fun x H2=>∃a o,x=.ref a/\DGet H2 a y o/\Q (.bl (!o.isSome)) H2
def sDPut (td ty tv:TE):TS:=fun D σ H=>tv σ H fun v H1=>td σ H1 fun x H2=>ty σ H2 fun y H3=>∃a H4,x=.ref a/\DPut H3 a y v H4/\D.nx σ H4
section
variable {o i:Expr}{td ty tv:TE}
theorem pe_dget (hu:X.A.units+2<cLine)(ho:PE X o td)(hi:PE X i ty)(hs:NoSl i):PE X (.Subscript o i pos) (tDGet td ty):=by
 intro pins s σ H Q I h;refine subD_of PySem.F.slot_dict_getitem.lookup hs (thn (ho pins s σ H _ I h) fun u s1 hz=>?_);obtain⟨x,H1,I1,rx,q1⟩:=hz;refine thn (hi pins s1 σ H1 _ I1 q1) fun iv s2 hz=>?_;obtain⟨y,H2,I2,ry,a,v,ex,g,q2⟩:=hz;subst ex;obtain rfl:u=z30 a:=rx;exact⟨dict_typeIs I2 g,d_getItem hu I2 g ry fun w' s3 I3 rw'=>⟨v,H2,I3,rw',q2⟩⟩
theorem pc_din (hu:X.A.units+2<cLine)(hi:PE X i ty)(ho:PE X o td):PC X .In i o (tDIn ty td):=by
 intro pins s σ H Q I h;refine thn (hi pins s σ H _ I h) fun iv s1 hz=>?_;obtain⟨y,H1,I1,ry,q1⟩:=hz;refine thn (ho pins s1 σ H1 _ I1 q1) fun u s2 hz=>?_;obtain⟨x,H2,I2,rx,a,ov,ex,g,q2⟩:=hz;subst ex;obtain rfl:u=z30 a:=rx;exact d_in hu I2 g ry fun s3 I3=>⟨.bl ov.isSome,H2,I3,rfl,q2⟩
theorem pc_dnotin (hu:X.A.units+2<cLine)(hi:PE X i ty)(ho:PE X o td):PC X .NotIn i o (tDNotIn ty td):=by
 intro pins s σ H Q I h;refine thn (hi pins s σ H _ I h) fun iv s1 hz=>?_;obtain⟨y,H1,I1,ry,q1⟩:=hz;refine thn (ho pins s1 σ H1 _ I1 q1) fun u s2 hz=>?_;obtain⟨x,H2,I2,rx,a,ov,ex,g,q2⟩:=hz;subst ex;obtain rfl:u=z30 a:=rx;exact d_notIn hu I2 g ry fun s3 I3=>⟨.bl (!ov.isSome),H2,I3,rfl,q2⟩
theorem ps_dput (hu:X.A.units+2<cLine)(ho:PE X o td)(hi:PE X i ty)(hv:PE X value tv)(hs:swapsWith value (some (.Subscript o i pos')) pos.line X.env=pure false) :
  PS X (.Assign [.Subscript o i pos'] value pos) (sDPut td ty tv):=by
 intro pins s σ H D I h;refine wpAny_Assign_Subscript (thn (hv pins s σ H _ I h) fun r s1 hz=>?_) hs;obtain⟨v,H1,I1,rv,q1⟩:=hz;refine thn (ho pins s1 σ H1 _ I1 q1) fun u s2 hz=>?_;obtain⟨x,H2,I2,rx,q2⟩:=hz;refine thn (hi pins s2 σ H2 _ I2 q2) fun iv s3 hz=>?_;obtain⟨y,H3,I3,ry,a,H4,ex,g,q3⟩:=hz;subst ex;obtain rfl:u=z30 a:=rx;exact d_setItem hu I3 g ry rv fun s4 I4=>⟨σ,H4,I4,q3⟩
end
theorem dk_empty{H:Hp}(h:Heap)(hb:sysModules<h.objs.size):ObjOk P w H (h.push { cls:=.type "dict",data:=.dict #[]}) h.objs.size (.dK []):=
 ⟨z58 _,beq_eq_false_iff_ne.mpr (zh9 (z45 hb)),[],.nil,Heap.DictOf.new h⟩
theorem dt_empty{H:Hp}(h:Heap)(hb:sysModules<h.objs.size):ObjOk P w H (h.push { cls:=.type "dict",data:=.dict #[]}) h.objs.size (.dT []):=
 ⟨z58 _,beq_eq_false_iff_ne.mpr (zh9 (z45 hb)),[],.nil,_,#[],0,z29 _ rfl,⟨rfl,rfl,rfl⟩,rfl,rfl,zm6⟩
def tDNewK:TE:=fun _ H Q=>∀p,H p=none->Q (.ref p) (upd H p (.dK []))
def tDNewT:TE:=fun _ H Q=>∀p,H p=none->Q (.ref p) (upd H p (.dT []))
section
theorem pe_dnewK:PE X (.Dict [] [] pos) tDNewK:=fun pins s σ H Q I h=>
 wpAny_Dict_empty ⟨.ref s.heap.objs.size,_,I.laid (a:=s.heap.objs.size) (o:=.dK []) (t':=s.toks) (fun _ _ q=>z14 _ q) (z15 _) (dk_empty s.heap I.big),rfl,h _ (I.hok.fresh (z15 _))⟩
theorem pe_dnewT:PE X (.Dict [] [] pos) tDNewT:=fun pins s σ H Q I h=>
 wpAny_Dict_empty ⟨.ref s.heap.objs.size,_,I.laid (a:=s.heap.objs.size) (o:=.dT []) (t':=s.toks) (fun _ _ q=>z14 _ q) (z15 _) (dt_empty s.heap I.big),rfl,h _ (I.hok.fresh (z15 _))⟩
end
structure M2 (X:Cx)(o:Expr)(m:Str)(apos:Pos)(e f:Expr)(cpos:Pos):Prop where
 base:attributeBase o m X.env (eval o X.env)=eval o X.env
 few:((backTo cpos (starEach [e,f] X.env)).all (fun x=>!x.1) && (backToKw cpos (keywordEach [] X.env)).all (fun x=>x.1.isSome)
  && decide (([e,f]:List Expr).length+([]:List Keyword).length+(if([]:List Keyword).isEmpty then 0 else 1)<30))=true
 line:(apos.endLine == cpos.line)=true
 trees:backTo cpos (starEach [e,f] X.env)=[@16,(false,eval f X.env)]
def IsD (H:Hp)(a:Addr):Prop:=(∃kvs,Rd H a (.dK kvs))\/∃kvs,Rd H a (.dT kvs)
theorem isD_at{H:Hp}(I:Inv X pins σ H s)(d:IsD H a) :
  s.TypeIs @28 "dict" /\ (∀b,z30 a=.ref b->∃ob,s.heap.get? b=some ob/\ob.dict=none)/\(a == sysModules)=false:=by
 rcases d with⟨kvs,e⟩|⟨kvs,e⟩
 ·obtain⟨_,hd,vs,_,dd⟩:=dk_rd I.hok e;refine⟨dd.typeIs,fun b q=>?_,hd⟩;cases q
  obtain⟨ob,_,_,h1,h2,_⟩:=dd;exact⟨ob,h1,h2.2.1⟩
 ·obtain⟨_,hd,xs,_,dd⟩:=dt_rd I.hok e;refine⟨dd.typeIs,fun b q=>?_,hd⟩;cases q
  obtain⟨ob,_,_,h1,h2,_⟩:=dd;exact⟨ob,h1,h2.2.1⟩
section
variable {H:Hp}{d:V}{r:Value}{o:Option V}
theorem d_get2(hu:A.units+2<cLine)(I:Inv X pins σ H s)(g:DGet H a y o)(ry:RelV y u)(rd:RelV d r)(h:∀w' s',Inv X pins σ H s'->RelV (o.getD d) w'->Q w' s') :
  wpAny @3 A (call (.builtin "dict.get") [.ref a,u,r]) Q E s:=by
 rcases g with⟨kvs,k,e,ey,l⟩|⟨kvs,k,b,e,ey,eb,l⟩
 ·subst ey;obtain⟨z,hd,vs,rel,dd⟩:=dk_rd I.hok e;refine call_meetsIn zo2 dd.typeIs zy4 (zx7 _ _ _) (meets_dict_get_default (mixKind X.prog X.w) a (kV_is ry) hd r) ⟨_,dd.mapOf,h _ _ (I.tok _) ?_⟩;rw[l];exact(rel.val k).getD rd
 ·subst ey;cases(show u=z30 b from ry)
  obtain⟨z,hd,xs,rel,dd⟩:=dt_rd I.hok e;refine call_meetsIn zo2 dd.typeIs zy4 (zx7 _ _ _) (meetsH_dict_get_default (QcG X.prog X.w) a b hd r) ⟨Qal hu,k,xs,key_of I.hok eb,dd,h _ _ (I.tok _) ?_⟩;rw[l];exact(rel.val k).getD rd
end
def tDGet2 (td ty tx:TE):TE:=fun σ H Q=>td σ H fun x H1=>∃a,x=.ref a/\IsD H1 a/\ty σ H1 fun y H2=>tx σ H2 fun z H3=>∃o,DGet H3 a y o/\Q (o.getD z) H3
section
variable {o f:Expr}{apos cpos:Pos}{td ty tx:TE}
theorem pe_dget2 (hu:X.A.units+2<cLine)(ho:PE X o td)(he:PE X e ty)(hf:PE X f tx)(m:M2 X o "get" apos e f cpos):PE X (.Call (.Attribute o "get" apos) [e,f] [] cpos) (tDGet2 td ty tx):=by
 intro pins s σ H Q I h;refine wpAny_Call_method m.base m.few m.line zx5 zo2 PySem.F.type_dict_get (thn (ho pins s σ H _ I h) fun u s1 hz=>?_);obtain⟨x,H1,I1,rx,a,ex,d,q1⟩:=hz;subst ex;obtain rfl:u=z30 a:=rx;obtain⟨t1,t2,_⟩:=isD_at I1 d;refine⟨t1,t2,?_⟩;rw[m.trees];refine y01 rfl (y20 (zs2 (thn (he pins s1 σ H1 _ I1 q1) fun iv s2 hz=>?_)));obtain⟨y,H2,I2,ry,q2⟩:=hz;refine zs2 (thn (hf pins s2 σ H2 _ I2 q2) fun fv s3 hz=>?_);obtain⟨z,H3,I3,rz,ov,g,q3⟩:=hz;refine y47 ?_;exact d_get2 hu I3 g ry rz fun w' s4 I4 rw'=>⟨_,H3,I4,rw',q3⟩
end
end L2
namespace HT
open PySem PyProof.Rows
variable {E Q:Value->Shared->Prop}{hi:Option Int}
theorem rcLt_int (A:Around)(s:Shared)(a:Int)(t:Tok)(c:Int)(u:Tok)(prog:Program)(w:World)(E:Value->Shared->Prop)(Q:Value->Shared->Prop)(h:Q (.bool (decide (a<c))) s) :
  wpAny @1 A (richCompare .Lt (.int a t) (.int c u)) Q E s:=
 (zw8 h:wpAny @1 A (compareOp .Lt (.int a t) (.int c u)) Q E s)
section
open PySem.SeqAt
open PySem.AutoSeq1 (wpAny_loadPart')
open PySem.MeetsSeq PySem.MeetsSeq2 PySem.MeetsSeq3
end
section
variable {prog:Program}{w:World}{A:Around}{s:Shared}
theorem cat_tup {t b:Addr}{vs ws:List Value}(ht:IsTup s.heap t vs.toArray)(hb:IsTup s.heap b ws.toArray)(hv:vs≠[])
  (h1:ws=[]->Q (.ref t) s) (h2:ws≠[]->Q (.ref s.heap.objs.size) { s with heap:=s.heap.push { cls:=.type "tuple",data:=.seq (vs++ws).toArray }})
  (hsz:vs.length+ws.length<=z24):wpAny @1 A (binaryOp .Add (.ref t) (.ref b)) Q E s:=by
 obtain⟨⟨cls,dd,data,sl⟩,ho,hc,n,hd⟩:=id ht;obtain⟨⟨cls2,dd2,data2,sl2⟩,ho2,hc2,n2,hd2⟩:=id hb;simp only at hc hd hc2 hd2;subst hc hd hc2 hd2;have e:vs.toArray++ws.toArray=(vs++ws).toArray:=by simp
 by_cases hw:ws=[]
 ·exact concat_meets ⟨_,ho,rfl⟩ ⟨_,ho2,rfl⟩ noFill_tuple_add seq_tuple_add zy2 zx6 (zw7 _ _)
   (tuple_addW1 t b vs.toArray ws.toArray n n2 dd dd2 sl sl2 (by simpa using hv) (by simp[hw])) ⟨ho,ho2,h1 hw⟩
 ·refine concat_meets ⟨_,ho,rfl⟩ ⟨_,ho2,rfl⟩ noFill_tuple_add seq_tuple_add zy2 zx6 (zw7 _ _)
   (tuple_addW2 t b vs.toArray ws.toArray n n2 dd dd2 sl sl2 (by simpa using hv) (by simpa using hw) (by rw[z22,z22];exact hsz)) ⟨ho,ho2,?_⟩
  rw[e];exact h2 hw
def sIx (n d:Nat):Option Int->Nat
 |none=>d
 |some v=>if v<0 then(v+(n:Int)).toNat else min v.toNat n
theorem sIx_none (n d:Nat):sIx n d none=d:=rfl
theorem sIx_nat (n d k:Nat):sIx n d (some (k:Int))=min k n:=by
 show(if(k:Int)<0 then((k:Int)+(n:Int)).toNat else min (k:Int).toNat n)=min k n;rw[if_neg @0,z66]
theorem sIx_le (n d:Nat)(hd:d<=n)(o:Option Int):sIx n d o<=n:=by
 cases o with
 |none=>exact hd
 |some v=>
  show(if v<0 then(v+(n:Int)).toNat else min v.toNat n)<=n
  by_cases hv:v<0
  ·rw[if_pos hv];lia
  ·rw[if_neg hv];exact Nat.min_le_right _ _
theorem clip_eq (v:Int)(n d:Nat):(if v<0 then max (v+(n:Int)) 0 else min v (n:Int))=((sIx n d @26:Nat):Int):=by
 show(if v<0 then max (v+(n:Int)) 0 else min v (n:Int))=(((if v<0 then(v+(n:Int)).toNat else min v.toNat n):Nat):Int)
 by_cases hv:v<0
 ·simp only[if_pos hv];lia
 ·simp only[if_neg hv];lia
theorem adjust_gen (lo hi:Option Int)(n:Nat):zk4 lo hi 1 (n:Int)=(((sIx n 0 lo:Nat):Int),((sIx n n hi:Nat):Int)):=by
 have h1:¬ ((1:Int)<0):=by lia
 unfold zk4;simp only[h1,if_false];refine zo0 ?_ ?_
 ·cases lo with
  |none=>rfl
  |some v=>exact clip_eq v n 0
 ·cases hi with
  |none=>rfl
  |some v=>exact clip_eq v n n
theorem places_gen (i j:Nat):zf5 (i:Int) (j:Int) 1=j - i:=by
 unfold zf5;have h1:(1:Int) > 0:=by lia
 simp only[h1,if_true,Int.ediv_one]
 split<;>lia
theorem slicePart_ {v:Value}{o:Option Int}{Q:Option Int->Shared->Prop}(p:IsPart v o)(h:Q o s):wpAny @1 A (Builtin.Slice.slicePartIndex v) Q E s:=by
 cases p with
 |none=>exact slicePart_none h
 |int i t=>exact slicePart_int h
theorem sliceApplied_gen {sl:Addr}{vl vu:Value}{lo:Option Int}{n:Nat}{Q:Int×Int×Nat->Shared->Prop}(hs:s.heap.IsSliceOf sl vl vu .none)(pl:IsPart vl lo)(pu:IsPart vu hi)
  (h:Q (((sIx n 0 lo:Nat):Int),1,sIx n n hi - sIx n 0 lo) s):wpAny @1 A (zr4 (.ref sl) (pure (n:Int))) Q E s:=by
 obtain⟨os,hos,hcs,hds⟩:=id hs;unfold zr4 Builtin.Slice.sliceFields;refine z00 (z00 (zb5 hos hds (x:=vl) rfl (z00 (zb5 hos hds (x:=vu) rfl (z00 (zb5 hos hds (x:=.none) rfl (z04 ?_)))))));refine z00 (slicePart_none ?_);show wpAny _ _ (if((1:Int) == 0)=true then _ else _) _ _ s;rw[if_neg @2];refine z00 (slicePart_ pl (z00 (slicePart_ pu (z00 (z04 ?_)))));show wpAny _ _ (match zk4 lo hi 1 (n:Int) with|(lo,hi)=>pure (lo,(1:Int),zf5 lo hi 1)) _ _ s;rw[adjust_gen lo hi n];show wpAny _ _ (pure (((sIx n 0 lo:Nat):Int),(1:Int),zf5 ((sIx n 0 lo:Nat):Int) ((sIx n n hi:Nat):Int) 1)) _ _ s;rw[places_gen];exact z04 h
theorem pick_gen (xs:Array Value)(i k:Nat):((z41 k).filterMap fun(m:Nat)=>xs[((i:Int)+(m:Int) * 1).toNat]?).toArray=((xs.toList.drop i).take k).toArray:=by
 have e:(fun(m:Nat)=>xs[((i:Int)+(m:Int) * 1).toNat]?)=fun m=>xs[i+m]?:=by
  funext m
  have:((i:Int)+(m:Int) * 1).toNat=i+m:=by lia
  rw[this]
 rw[e];have:=pick_run xs i k;rw[zf4] at this;have e2:((fun x=>xs[x]?)∘fun x=>i+x)=fun m=>xs[i+m]?:=rfl;rw[e2] at this;rw[this]
theorem getItem_tuple_cut {t sl:Addr}{items:Array Value}{vl vu:Value}{lo:Option Int}(ht:IsTup s.heap t items)(hs:s.heap.IsSliceOf sl vl vu .none)(pl:IsPart vl lo)(pu:IsPart vu hi)
  (hw:¬ (sIx items.size 0 lo=0/\sIx items.size items.size hi=items.size))
  (h:Q (.ref s.heap.objs.size) { s with heap:=s.heap.push { cls:=.type "tuple",data:=.seq ((items.toList.drop (sIx items.size 0 lo)).take (sIx items.size items.size hi - sIx items.size 0 lo)).toArray }})
  (hsz:items.size<=z24):wpAny @1 A (getItem (.ref t) (.ref sl)) Q E s:=by
 have htake:sizeOk (.seq ((items.toList.drop (sIx items.size 0 lo)).take (sIx items.size items.size hi - sIx items.size 0 lo)).toArray):=by
  show((items.toList.drop (sIx items.size 0 lo)).take (sIx items.size items.size hi - sIx items.size 0 lo)).toArray.size<=z24;rw[z22,z48,z93,z43];lia
 have hj:sIx items.size items.size hi<=items.size:=sIx_le _ _ (z15 _) hi;obtain⟨os,hos,hcs,hds⟩:=id hs;have hTs:s.TypeIs (.ref sl) "slice" := ⟨os,hos,hcs⟩
 unfold getItem
 try with_reducible refine z79 ?_
 first|refine z00 (z04 ?_)|skip
 refine z00 (wpAny_sequenceKey ht.typeIs @2 ?_)
 refine z00 (z83 (name:=zg2 "__getitem__") ht.typeIs zh7
  (z61 zh7 ht.typeIs entry_tuple_getitem ?_ (args_tuple_getitem _ _)))
 show wpAny _ _ (zr3 (.ref t) >>= _) _ _ s;refine z00 (tupleItemsOf_ ht ?_);refine z00 (zn7 hTs ?_);rw[if_pos @2];refine z00 (sliceApplied_gen hs pl pu ?_)
 have hno:¬ ((((sIx items.size 0 lo:Nat):Int) == 0 && (1:Int) == 1 && (sIx items.size items.size hi - sIx items.size 0 lo) == items.size)=true):=by
  intro q;rw[z76,z76] at q;have q1:((sIx items.size 0 lo:Nat):Int)=0:=eq_of_beq q.1.1;have q2:sIx items.size items.size hi - sIx items.size 0 lo=items.size:=eq_of_beq q.2;exact hw ⟨by lia,by lia⟩
 show wpAny _ _ (if(((sIx items.size 0 lo:Nat):Int) == 0 && (1:Int) == 1 && (sIx items.size items.size hi - sIx items.size 0 lo) == items.size)=true then _ else _) _ _ s;rw[if_neg hno,pick_gen]
 first
  |exact z00 (m:=zg1 _) (z69 (z04 ⟨_,rfl,z04 h⟩) htake)
  |exact z00 (m:=zg1 _) (z69 (z00 (z04 (z04 ⟨_,rfl,z04 h⟩))) htake)
  |exact z00 (z00 (m:=zg1 _) (z69 (z04 (z04 ⟨_,rfl,z04 h⟩)) htake))
  |exact z00 (z00 (m:=zg1 _) (z69 (z04 ⟨_,rfl,z04 h⟩) htake))
end
end HT
namespace L2
open PySem PySem.Spec PyProof.Rows
variable {X:Cx}{r':V->Option Int->Option Int->Hp->VK->Prop}{us its its':List Value}{n:Nat}{pins:List @8}{σ:St}{s:Shared}{ys:List V}{f:Array Value->Array Value}{x:V}
abbrev TO:=St->Hp->(Option Int->Hp->Prop)->Prop
def PO (X:Cx)(e:Option Expr)(t:TO):Prop:=
 ∀(pins:List @8) (s:Shared) (σ:St) (H:Hp) (Q:Option Int->Hp->Prop),Inv X pins σ H s->t σ H Q->
  wpAny @3 X.A (evalPart e X.env) (fun u s'=>∃o H',Inv X pins σ H' s'/\IsPart u o/\Q o H') X.xe s
def tNoPart:TO:=fun _ H Q=>Q none H
def tPart (t:TE):TO:=fun σ H Q=>t σ H fun x H1=>∃i,x=.int i/\Q (some i) H1
section
variable {e:Expr}{te:TE}{lo hi:Option Expr}{tl th:TO}{pos p2:Pos}
theorem po_none:PO X none tNoPart:=by
 intro pins s σ H Q I h;rw[evalPart_none];exact z04 ⟨none,H,I,.none,h⟩
theorem po_some (h:PE X e te):PO X (some e) (tPart te):=by
 intro pins s σ H Q I hw;rw[evalPart_some];refine thn (h pins s σ H _ I hw) fun u s1 hz=>?_;obtain⟨x,H1,I1,r1,q1⟩:=hz;obtain⟨i,rfl,q⟩:=q1;obtain⟨t,rfl⟩:=r1;exact⟨some i,H1,I1,.int i t,q⟩
def SlR (X:Cx)(r:V->Option Int->Option Int->Hp->VK->Prop):Prop:=
 ∀(pins:List @8) (s:Shared) (σ:St) (H:Hp) (x:V) (v vl vu:Value) (lo hi:Option Int) (sl:Addr) (Q:VK),Inv X pins σ H s->RelV x v->s.heap.IsSliceOf sl vl vu .none->IsPart vl lo->IsPart vu hi->r x lo hi H Q->
  ∃T id,typeLookup (.type T) "__getitem__" = pure (some (.builtin id))/\s.TypeIs v T/\wpAny @3 X.A (getItem v (.ref sl)) (EP X pins σ Q) X.xe s
theorem SlR.or {r:V->Option Int->Option Int->Hp->VK->Prop}(h:SlR X r)(h':SlR X r'):SlR X (fun x lo hi H Q=>r x lo hi H Q\/r' x lo hi H Q):=by
 intro pins s σ H x v vl vu lo hi sl Q I rx hs pl pu q;rcases q with q|q
 ·exact h pins s σ H x v vl vu lo hi sl Q I rx hs pl pu q
 ·exact h' pins s σ H x v vl vu lo hi sl Q I rx hs pl pu q
def tSl (r:V->Option Int->Option Int->Hp->VK->Prop)(te:TE)(tl th:TO):TE:=fun σ H Q=>te σ H fun x H1=>tl σ H1 fun l H2=>th σ H2 fun u H3=>r x l u H3 Q
theorem pe_slice {r:V->Option Int->Option Int->Hp->VK->Prop}(hr:SlR X r)(he:PE X e te)(hl:PO X lo tl)(hu:PO X hi th):PE X (.Subscript e (.Slice lo hi none p2) pos) (tSl r te tl th):=by
 intro pins s σ H Q I h;refine Subscript_ (thn (he pins s σ H _ I h) fun v s1 hz=>?_);obtain⟨x,H1,I1,r1,q1⟩:=hz;refine wpAny_Slice (thn (hl pins s1 σ H1 _ I1 q1) fun vl s2 hz=>?_);obtain⟨l,H2,I2,pl,q2⟩:=hz;refine thn (hu pins s2 σ H2 _ I2 q2) fun vu s3 hz=>?_;obtain⟨u,H3,I3,pu,q3⟩:=hz;rw[evalPart_none];refine z04 ?_;have I4:Inv X pins σ H3 { s3 with heap:=s3.heap.push { cls:=.type "slice",data:=.fields #[vl,vu,.none]}}:=I3.kept (t':=s3.toks) fun b ob q=>z14 _ q
 obtain⟨T,id,hT,ht,hg⟩:=hr pins { s3 with heap:=s3.heap.push { cls:=.type "slice",data:=.fields #[vl,vu,.none]}} σ H3 x v vl vu l u s3.heap.objs.size Q I4 r1 (zw2 ..) pl pu q3
 show wpAny @3 X.A (subscriptTail e (.Slice lo hi none p2) v (.ref s3.heap.objs.size)) (EP X pins σ Q) X.xe { s3 with heap:=s3.heap.push { cls:=.type "slice",data:=.fields #[vl,vu,.none]}}
 exact tail_any (ops:=[.ref s3.heap.objs.size,v]) ht hT hg (by with_unfolding_all rfl)
def cutV (xs:List V)(lo hi:Option Int):List V:=(xs.drop (HT.sIx xs.length 0 lo)).take (HT.sIx xs.length xs.length hi - HT.sIx xs.length 0 lo)
theorem cutV_length (xs:List V)(lo hi:Option Int):(cutV xs lo hi).length<=xs.length:=by
 unfold cutV;rw[z48,z93];lia
def rSlT (K:z02):V->Option Int->Option Int->Hp->VK->Prop:=fun x lo hi H Q=>∃a xs,x=.ref a/\SqT K H a xs/\
 ¬ (HT.sIx xs.length 0 lo=0/\HT.sIx xs.length xs.length hi=xs.length)/\∀p,H p=none->Q (.ref p) (upd H p (.tup (cutV xs lo hi)))
theorem sl_tup:SlR X (rSlT X.K):=by
 intro pins s σ H x v vl vu lo hi sl Q I rx hs pl pu h;obtain⟨a,xs,rfl,hx,hw,q⟩:=h;cases rx
 obtain⟨its,r,ht,hz⟩:=I.tuple hx;have hlen:its.toArray.size=xs.length:=by rw[z22];exact r.length.symm
 refine⟨"tuple",_,zh7.lookup,ht.typeIs,?_⟩
 refine HT.getItem_tuple_cut ht hs pl pu (by rw[hlen];exact hw) ?_ (by rw[hlen];exact hz);rw[hlen];refine⟨.ref s.heap.objs.size,_,I.laid (t':=s.toks) (o:=.tup (cutV xs lo hi)) (fun b ob q=>z14 _ q) (z15 _) ?_,rfl,q _ (I.hok.fresh (z15 _))⟩;exact⟨z73 (cutV_length xs lo hi) hz,_,(r.drop (HT.sIx xs.length 0 lo)).take (HT.sIx xs.length xs.length hi - HT.sIx xs.length 0 lo),IsTup.new _ _⟩
def rCatT (K:z02):R2:=fun x y H Q=>∃a b xs ys,x=.ref a/\y=.ref b/\SqT K H a xs/\SqT K H b ys/\xs≠[]/\xs.length+ys.length<=z24/\
 (ys=[]->Q @28 H)/\(ys≠[]->∀p,H p=none->Q (.ref p) (upd H p (.tup (xs++ys))))
theorem Vals.nil_iff {xs:List V}(r:Vals xs us):us=[]↔xs=[]:=by
 cases r with
 |nil=>simp
 |cons _ _=>simp
theorem op_catT:OpR X (binaryOp .Add) (rCatT X.K):=by
 intro pins s σ H x y v u Q I rx ry h;obtain⟨a,b,xs,ys,rfl,rfl,ha,hb,hx,hz,q1,q2⟩:=h;cases rx
 cases ry
 obtain⟨its,r1,p1,_⟩:=I.tuple ha;obtain⟨its2,r2,p2,_⟩:=I.tuple hb;refine HT.cat_tup p1 p2 (fun z=>hx (r1.nil_iff.mp z)) (fun z=>⟨.ref a,H,I,rfl,q1 (r2.nil_iff.mp z)⟩) (fun z=>?_) (by rw[← r1.length,← r2.length];exact hz);refine⟨.ref s.heap.objs.size,_,I.laid (t':=s.toks) (o:=.tup (xs++ys)) (fun b ob q=>z14 _ q) (z15 _) ?_,rfl,q2 (fun w=>z (r2.nil_iff.mpr w)) _ (I.hok.fresh (z15 _))⟩;exact⟨by rw[z10];exact hz,_,r1.append r2,IsTup.new _ _⟩
end
noncomputable def ixN (n:Nat)(i:Int):Option Nat:=if 0<=i then(if i<n then some i.toNat else none) else if -(n:Int)<=i then some (i+n).toNat else none
noncomputable def atI {α:Type}(xs:List α)(i:Int):Option α:=(ixN xs.length i).bind fun j=>xs[j]?
theorem ixN_seq{i:Int}{j:Nat}(h:ixN n i=some j):seqIndex? i n=some j/\j<n/\-(n:Int)<=i/\i<n:=by
 unfold ixN at h
 by_cases h0:0<=i
 ·rw[if_pos h0] at h
  by_cases h1:i<n
  ·rw[if_pos h1] at h;have e:i.toNat=j:=z26 h;exact⟨by rw[seqIndex_of h0 h1,e],by lia,by lia,h1⟩
  ·rw[if_neg h1] at h;cases h
 ·rw[if_neg h0] at h
  by_cases h1 : -(n:Int)<=i
  ·rw[if_pos h1] at h;have e:(i+n).toNat=j:=z26 h;exact⟨by rw[seqIndex_neg @0 h1,e],by lia,h1,by lia⟩
  ·rw[if_neg h1] at h;cases h
theorem atI_get {α:Type}{xs:List α}{i:Int}{v:α}(h:atI xs i=some v):∃j,seqIndex? i xs.length=some j/\xs[j]? = some v/\j<xs.length/\-(xs.length:Int)<=i/\i<xs.length:=by
 unfold atI at h
 cases e:ixN xs.length i with
 |none=>rw[e] at h;cases h
 |some j=>
  rw[e] at h;obtain⟨h1,h2,h3,h4⟩:=ixN_seq e;exact⟨j,h1,h,h2,h3,h4⟩
def PlainIx (b:Expr):Prop:=∀o i,subscripted b false o i=operate [o,i] (getItem o i)
def IxR (X:Cx)(r:R2):Prop:=
 ∀(value slice:Expr) (pins:List @8) (s:Shared) (σ:St) (H:Hp) (x y:V) (v u:Value) (Q:VK),Inv X pins σ H s->RelV x v->RelV y u->r x y H Q->
  subscripted slice false v u=operate [v,u] (getItem v u)->wpAny @3 X.A (subscriptTail value slice v u) (EP X pins σ Q) X.xe s
def MtR (X:Cx)(id:String)(r:V->List V->Hp->VK->Prop):Prop:=
 ∀(pins:List @8) (s:Shared) (σ:St) (H:Hp) (x:V) (xs:List V) (v:Value) (us:List Value) (Q:VK),Inv X pins σ H s->RelV x v->Vals xs us->r x xs H Q->
  wpAny @3 X.A (call (.builtin id) (v::us)) (EP X pins σ Q) X.xe s
section
variable {a b:Expr}{ta tb:TE}{pos:Pos}
theorem IxR.or {r r':R2}(h:IxR X r)(h':IxR X r'):IxR X (fun x y H Q=>r x y H Q\/r' x y H Q):=by
 intro value slice pins s σ H x y v u Q I rx ry q hs;rcases q with q|q
 ·exact h value slice pins s σ H x y v u Q I rx ry q hs
 ·exact h' value slice pins s σ H x y v u Q I rx ry q hs
theorem pe_ix {r:R2}(hr:IxR X r)(ha:PE X a ta)(hb:PE X b tb)(hs:PlainIx b):PE X (.Subscript a b pos) (tOp r ta tb):=by
 intro pins s σ H Q I h;exact Subscript_ (binT ha hb I h fun v u s2 x y H2 I2 rx ry q=>hr a b pins s2 σ H2 x y v u Q I2 rx ry q (hs _ _))
def rIxL (K:z02):R2:=fun x y H Q=>∃p xs i v,x=.ref p/\y=.int i/\SqL K H p xs/\atI xs i=some v/\Q v H
def rIxT (K:z02):R2:=fun x y H Q=>∃p xs i v,x=.ref p/\y=.int i/\SqT K H p xs/\atI xs i=some v/\Q v H
def rIxS:R2:=fun x y H Q=>∃z i c,x=.str z/\y=.int i/\z.length<=z24/\atI z.cps.toList i=some c/\Q (.str ⟨#[c]⟩) H
theorem ix_list:IxR X (rIxL X.K):=by
 intro value slice pins s σ H x y v u Q I rx ry h hs;obtain⟨p,xs,i,z,rfl,rfl,hq,he,q⟩:=h;cases rx
 obtain⟨t,rfl⟩:=ry;obtain⟨its,r,pl,hz⟩:=I.list hq;obtain⟨j,h1,h2,h3,h4,h5⟩:=atI_get he;obtain⟨w,ew,rw'⟩:=r.get h2;have hl:=r.length;have hn:=line63;have fin:EP X pins σ Q w s:=⟨z,H,I,rw',q⟩
 by_cases h0:0<=i
 ·have hj:i.toNat=j:=by
   rw[seqIndex_of h0 h5] at h1;exact z26 h1
  exact item_listR pl.isList h0 @0 (by rw[hj];simpa using ew) fin hs
 ·have hj:(i+(its.toArray.size:Int)).toNat=j:=by
   rw[seqIndex_neg @0 h4] at h1;rw[z22,← hl];exact z26 h1
  exact subscriptTail_builtinR (x:=w) pl.isList.typeIs slot_list_getitem.lookup
   (wpAny_getItem_list_neg (Q:=fun r s'=>r=w/\EP X pins σ Q r s') pl.isList @0 (by rw[z22]<;>lia) @0 (by rw[hj];simpa using ew) ⟨rfl,fin⟩) hs
theorem ix_tup:IxR X (rIxT X.K):=by
 intro value slice pins s σ H x y v u Q I rx ry h hs;obtain⟨p,xs,i,z,rfl,rfl,hq,he,q⟩:=h;cases rx
 obtain⟨t,rfl⟩:=ry;obtain⟨its,r,pl,hz⟩:=I.tuple hq;obtain⟨j,h1,h2,h3,h4,h5⟩:=atI_get he;obtain⟨w,ew,rw'⟩:=r.get h2;have hl:=r.length;have hn:=line63;have fin:EP X pins σ Q w s:=⟨z,H,I,rw',q⟩
 exact subscriptTail_builtinR (x:=w) pl.typeIs slot_tuple_getitem.lookup
  (getItem_tuple (j:=j) (Q:=fun r s'=>r=w/\EP X pins σ Q r s') pl @0 @0 (by rw[z22,← hl];exact h1) (by simpa using ew) ⟨rfl,fin⟩) hs
theorem ix_str:IxR X rIxS:=by
 intro value slice pins s σ H x y v u Q I rx ry h hs;obtain⟨z,i,c,rfl,rfl,hz,he,q⟩:=h;obtain⟨t,rfl⟩:=rx;obtain⟨t',rfl⟩:=ry;obtain⟨j,h1,h2,h3,h4,h5⟩:=atI_get he;have hl:z.cps.toList.length=z.length:=by simp[Str.length]
 rw[hl] at h1 h4 h5;have hn:=line63
 exact tail_any (typeIs_str s z t) slot_str_getitem.lookup (getItem_str (c:=c) (by
  have e1:decide (i < -(2 ^ 63:Int))=false:=decide_eq_false @0;have e2:decide (i ≥ 2 ^ 63)=false:=decide_eq_false @0
  rw[e1,e2,Bool.or_false]) (by rw[h1];simpa using h2) ⟨.str ⟨#[c]⟩,H,I.tok _,⟨_,rfl⟩,q⟩) hs
def rIx (K:z02):R2:=fun x y H Q=>rIxL K x y H Q\/rIxT K x y H Q\/rIxS x y H Q
theorem ix_seq:IxR X (rIx X.K):=ix_list.or (ix_tup.or ix_str)
theorem mapSeq_set (its:List Value)(n j:Nat)(u:Value):z54 (·.setIfInBounds j u) { cls:=.type "list",data:=.seq its.toArray n }={ cls:=.type "list",data:=.seq (its.set j u).toArray n }:=by
 simp[z54]
theorem Inv.lst{H:Hp}{p:Addr}{xs:List V}(I:Inv X pins σ H s)(h:H p=some (.lst xs)) :
  ∃(its:List Value) (n:Nat),Vals xs its/\s.heap.get? p=some { cls:=.type "list",data:=.seq its.toArray n }/\xs.length<=z24:=by
 obtain⟨z,its,n,r,e⟩:=I.hok p _ h;exact⟨its,n,r,e,z⟩
theorem Inv.lstUpd{H:Hp}{p:Addr}{xs:List V}{n':Nat}{f:Obj->Obj}(I:Inv X pins σ H s)(h:H p=some (.lst xs))
  (ho:s.heap.get? p=some { cls:=.type "list",data:=.seq its.toArray n }) (hf:f { cls:=.type "list",data:=.seq its.toArray n }={ cls:=.type "list",data:=.seq its'.toArray n' }) (r:Vals ys its') (hz:ys.length<=z24) (t:Nat) :
  Inv X pins σ (upd H p (.lst ys)) { s with heap:=s.heap.update p f,toks:=t }:=by
 have e:(s.heap.update p f).get? p=some { cls:=.type "list",data:=.seq its'.toArray n' }:=by
  rw[za2 f ho (by rw[hf]<;>rfl),hf]
 refine I.write (x:=p) (e:=p) (by rw[h];trivial) @14 (fun b u hb q=>(zf3 _ _ (zh9 hb)).trans q) ⟨_,e⟩ ?_;exact⟨hz,its',n',r,e⟩
def rSetL:V->V->V->Hp->(Hp->Prop)->Prop:=fun o i v H Q=>∃p xs k j,o=.ref p/\i=.int k/\H p=some (.lst xs)/\ixN xs.length k=some j/\Q (upd H p (.lst (xs.set j v)))
theorem set_list:PSet X rSetL:=by
 intro pins s σ H o i v ov iv u Q I ro ri rv h;obtain⟨p,xs,k,j,rfl,rfl,hp,hj,q⟩:=h;cases ro
 obtain⟨t,rfl⟩:=ri;obtain⟨its,n,r,ho,hz⟩:=I.lst hp;obtain⟨h1,h2,h3,h4⟩:=ixN_seq hj;have hl:=r.length;have hn:=line63
 have I':Inv X pins σ (upd H p (.lst (xs.set j v))) { s with heap:=s.heap.update p (z54 (·.setIfInBounds j u))}:=
  I.lstUpd hp ho (mapSeq_set its n j u) (r.set rv j) (by rw[zp4];exact hz) s.toks
 by_cases h0:0<=k
 ·have hk:k.toNat=j:=by
   rw[seqIndex_of h0 h4] at h1;exact z26 h1
  exact PySem.W.ki_setAt ho h0 @0 (by rw[z22,← hl];exact h4) (by rw[hk];exact⟨_,I',q⟩)
 ·have hk:(k+(its.toArray.size:Int)).toNat=j:=by
   rw[seqIndex_neg @0 h3] at h1;rw[z22,← hl];exact z26 h1
  exact PySem.W.ki_setBack ho @0 (by rw[z22,← hl];exact h3) @0 (by rw[hk];exact⟨_,I',q⟩)
theorem slice_bounds (lo hi:Option Int)(n:Nat):(sliceBounds lo hi none n).1=((HT.sIx n 0 lo:Nat):Int)/\(sliceBounds lo hi none n).2.1=((HT.sIx n n hi:Nat):Int)/\(sliceBounds lo hi none n).2.2=1:=by
 refine⟨?_,?_,rfl⟩
 ·cases lo with
  |none=>simp[sliceBounds,HT.sIx]
  |some i=>
   simp only[sliceBounds,HT.sIx,y41,show(1:Int) > 0 by decide,if_true]
   by_cases h:i<0
   ·simp only[h,if_true]<;>lia
   ·simp only[h,if_false]<;>lia
 ·cases hi with
  |none=>simp[sliceBounds,HT.sIx]
  |some i=>
   simp only[sliceBounds,HT.sIx,y41,show(1:Int) > 0 by decide,if_true]
   by_cases h:i<0
   ·simp only[h,if_true]<;>lia
   ·simp only[h,if_false]<;>lia
theorem slicePick_cut (its:List Value)(lo hi:Option Int):slicePick its.toArray lo hi none=((its.drop (HT.sIx its.length 0 lo)).take (HT.sIx its.length its.length hi - HT.sIx its.length 0 lo)).toArray:=by
 obtain⟨h1,h2,h3⟩:=slice_bounds lo hi its.toArray.size;unfold slicePick;rw[h1,h2,h3];simp only[sliceRange_one,pick_run,z22]<;>rfl
def rSlL (K:z02):V->Option Int->Option Int->Hp->VK->Prop:=fun x lo hi H Q=>∃a xs,x=.ref a/\SqL K H a xs/\∀p,H p=none->Q (.ref p) (upd H p (.lst (cutV xs lo hi)))
theorem sl_list:SlR X (rSlL X.K):=by
 intro pins s σ H x v vl vu lo hi sl Q I rx hs pl pu h;obtain⟨a,xs,rfl,hx,q⟩:=h;cases rx
 obtain⟨its,r,ht,hz⟩:=I.list hx;have hlen:=r.length;refine⟨"list",_,slot_list_getitem.lookup,ht.isList.typeIs,?_⟩
 refine y31 ht.isList hs pl pu .none @6 ?_ (by rw[z22]<;>lia);rw[slicePick_cut,← hlen];refine⟨.ref s.heap.objs.size,_,I.laid (t':=s.toks) (o:=.lst (cutV xs lo hi)) (fun b ob q=>z14 _ q) (z15 _) ?_,rfl,q _ (I.hok.fresh (z15 _))⟩;exact⟨z73 (cutV_length xs lo hi) hz,_,0,(r.drop (HT.sIx xs.length 0 lo)).take (HT.sIx xs.length xs.length hi - HT.sIx xs.length 0 lo),z29 _ rfl⟩
def flatV:V->Bool
 |.non=>true
 |.bl _=>true
 |.int _=>true
 |.str _=>true
 |_=>false
def eqV:V->V->Bool
 |.non,.non=>true
 |.bl a,.bl b=>a == b
 |.bl a,.int b=>(if a then 1 else 0) == b
 |.int a,.bl b=>a == (if b then 1 else 0)
 |.int a,.int b=>a == b
 |.str a,.str b=>a == b
 |_,_=>false
theorem eqAt_V {A:Around}{y:V}{u v:Value}(ry:RelV y u)(rx:RelV x v)(fy:flatV y=true)(fx:flatV x=true):zi7 A s u v (eqV y x):=by
 cases y with
 |non=>
  cases ry
  cases x with
  |non=>cases rx;exact zn2 _
  |bl b=>cases rx;exact SeqAt.EqAt.none_bool b
  |int b=>obtain⟨t,rfl⟩:=rx;exact SeqAt.EqAt.none_int b t
  |str b=>obtain⟨t,rfl⟩:=rx;exact SeqAt.EqAt.none_str b t
  |_=>exact absurd (show false=true from fx) z19
 |bl a=>
  cases ry
  cases x with
  |non=>cases rx;exact SeqAt.EqAt.bool_none a
  |bl b=>cases rx;exact SeqAt.EqAt.bool_bool a b
  |int b=>obtain⟨t,rfl⟩:=rx;exact SeqAt.EqAt.bool_int a b t
  |str b=>obtain⟨t,rfl⟩:=rx;exact SeqAt.EqAt.bool_str a b t
  |_=>exact absurd (show false=true from fx) z19
 |int a=>
  obtain⟨t',rfl⟩:=ry
  cases x with
  |non=>cases rx;exact SeqAt.EqAt.int_none a t'
  |bl b=>cases rx;exact SeqAt.EqAt.int_bool a t' b
  |int b=>obtain⟨t,rfl⟩:=rx;exact za1 a t' b t
  |str b=>obtain⟨t,rfl⟩:=rx;exact zz4 a t' b t
  |_=>exact absurd (show false=true from fx) z19
 |str a=>
  obtain⟨t',rfl⟩:=ry
  cases x with
  |non=>cases rx;exact SeqAt.EqAt.str_none a t'
  |bl b=>cases rx;exact SeqAt.EqAt.str_bool a t' b
  |int b=>obtain⟨t,rfl⟩:=rx;exact zz3 a t' b t
  |str b=>obtain⟨t,rfl⟩:=rx;exact SeqAt.EqAt.str_str a t' b t
  |_=>exact absurd (show false=true from fx) z19
 |_=>exact absurd (show false=true from fy) z19
theorem call_list_of:CallR X (.type "list") (fun xs H Q=>∃p ys,xs=[.ref p]/\(SqL X.K H p ys\/SqT X.K H p ys)/\∀l,H l=none->Q (.ref l) (upd H l (.lst ys))):=by
 intro pins s σ H xs us Q I r h;obtain⟨p,ys,rfl,hq,q⟩:=h;obtain⟨u,rfl,rx⟩:=vals1 r;cases rx
 have fin:∀(its:List Value),Vals ys its->ys.length<=z24->∀(h':Heap) (c':Nat),(∀b o',s.heap.get? b=some o'->h'.get? b=some o')->
   h'.get? s.heap.objs.size=some { cls:=.type "list",dict:=none,data:=.seq its.toArray c',slots:=#[]}->EP X pins σ Q (.ref s.heap.objs.size) { s with heap:=h' }:=fun its r' hz h' c' kp e=>
  ⟨.ref s.heap.objs.size,_,I.laid (t':=s.toks) kp (z15 _) (show ObjOk X.prog X.w _ h' _ (.lst ys) from⟨hz,its,c',r',e⟩),rfl,q _ (I.hok.fresh (z15 _))⟩
 rcases hq with hq|hq
 ·obtain⟨its,r',pl,hz⟩:=I.list hq;have hlen:=r'.length;obtain⟨o,ho,hc,n,hd⟩:=pl.isList;exact call_list_seq p @14 ho hc hd (fun h' c' kp e=>fin its r' hz h' c' kp e) (by simp only[z22]<;>lia)
 ·obtain⟨its,r',pl,hz⟩:=I.tuple hq;have hlen:=r'.length;obtain⟨o,ho,hc,n,hd⟩:=pl;exact call_list_seq p (.inr rfl) ho hc hd (fun h' c' kp e=>fin its r' hz h' c' kp e) (by simp only[z22]<;>lia)
theorem call_tuple_of:CallR X (.type "tuple") (fun xs H Q=>∃p ys,xs=[.ref p]/\((SqL X.K H p ys/\∀l,H l=none->Q (.ref l) (upd H l (.tup ys)))\/(SqT X.K H p ys/\Q (.ref p) H))):=by
 intro pins s σ H xs us Q I r h;obtain⟨p,ys,rfl,h⟩:=h;obtain⟨u,rfl,rx⟩:=vals1 r;cases rx
 rcases h with⟨hq,q⟩|⟨hq,q⟩
 ·obtain⟨its,r',pl,hz⟩:=I.list hq;have hlen:=r'.length;refine call_tuple_list pl.isList (fun h' kp=>?_) (by simp only[z22]<;>lia);have I1:Inv X pins σ H { s with heap:=h' }:=I.kept (t':=s.toks) kp
  have I2:Inv X pins σ (upd H h'.objs.size (.tup ys)) { s with heap:=h'.push { cls:=.type "tuple",data:=.seq its.toArray }}:=
   I1.laid (t':=s.toks) (fun b o e=>z14 _ e) (z15 _) (show ObjOk X.prog X.w _ _ _ (.tup ys) from⟨hz,its,r',IsTup.new _ _⟩)
  exact⟨.ref h'.objs.size,_,I2,rfl,q _ (I1.hok.fresh (z15 _))⟩
 ·obtain⟨its,r',pl,hz⟩:=I.tuple hq;exact call_tuple_same pl ⟨.ref p,H,I,rfl,q⟩
def tyV (K:z02)(T:String)(x:V)(H:Hp):Prop:=match x with
 |.str _=>T = "str"
 |.int _=>T = "int"
 |.ref p=>(T = "list" /\ ∃xs,SqL K H p xs)\/(T = "tuple" /\ ∃o,K.lookup p=some o/\o.cls=.type "tuple" /\ o.dict=none)\/
   (T = "dict" /\ ((∃kvs,H p=some (.dK kvs))\/∃kvs,H p=some (.dT kvs)))\/(T = "set" /\ ∃S n,H p=some (.set S n))
 |_=>False
theorem tyV_is{H:Hp}{T:String}{v:Value}(I:Inv X pins σ H s)(r:RelV x v)(ty:tyV X.K T x H) :
  s.TypeIs v T/\∀a,v=.ref a->∃ob,s.heap.get? a=some ob/\ob.dict=none:=by
 cases x with
 |str z=>
  obtain⟨t,rfl⟩:=r;cases(show T = "str" from ty)
  exact⟨typeIs_str s z t,fun _ e=>nomatch e⟩
 |int i=>
  obtain⟨t,rfl⟩:=r;cases(show T = "int" from ty)
  exact⟨typeIs_int s i t,fun _ e=>nomatch e⟩
 |ref p=>
  cases r
  rcases ty with⟨rfl,xs,hq⟩|⟨rfl,o,hk,hc,hd⟩|⟨rfl,hk⟩|⟨rfl,S,n,hk⟩
  ·obtain⟨its,_,pl,_⟩:=I.list hq;refine⟨pl.isList.typeIs,fun a e=>?_⟩;cases e
   obtain⟨o,n,e,c,hd,_⟩:=pl;exact⟨o,e,hd⟩
  ·refine⟨⟨o,I.kIn p o hk,hc⟩,fun a e=>?_⟩;cases e
   exact⟨o,I.kIn _ o hk,hd⟩
  ·have z:∃o,s.heap.get? p=some o/\o.ExactDict:=by
    rcases hk with⟨kvs,hk⟩|⟨kvs,hk⟩
    ·obtain⟨_,_,_,_,o,_,_,e,ex,_⟩:=I.hok p _ hk;exact⟨o,e,ex⟩
    ·obtain⟨_,_,_,_,o,_,_,e,ex,_⟩:=I.hok p _ hk;exact⟨o,e,ex⟩
   obtain⟨o,e,ex⟩:=z;refine⟨⟨o,e,ex.1⟩,fun a e2=>?_⟩;cases e2
   exact⟨o,e,ex.2.1⟩
  ·obtain⟨o,_,_,_,e,ex,_⟩:=I.hok p _ hk;refine⟨⟨o,e,ex.1⟩,fun a e2=>?_⟩;cases e2
   exact⟨o,e,ex.2.1⟩
 |_=>exact zj1 ty
def tBM (K:z02)(T:String)(r:V->List V->Hp->VK->Prop)(to:TE)(t:TA):TE:=fun σ H Q=>to σ H fun x H1=>tyV K T x H1/\t σ H1 fun xs H2=>r x xs H2 Q
variable {o e:Expr}{es:List Expr}{to:TE}{t:TA}{name:Str}{apos cpos:Pos}{T id:String}{r:V->List V->Hp->VK->Prop}
theorem pe_bm (pa:PlainAttrs T)(slot:Slot T name id)(hty:typeOf (.builtin id)=pure (.type "method_descriptor"))(hm:MtR X id r)(ho:PE X o to)(ha:PA X (e::es) t)
  (hbase:attributeBase o name X.env (eval o X.env)=eval o X.env:=by rfl)
  (hfew:((backTo cpos (starEach (e::es) X.env)).all (fun x=>!x.1) && (backToKw cpos (keywordEach [] X.env)).all (fun x=>x.1.isSome)
   && decide ((e::es).length+([]:List Keyword).length+(if([]:List Keyword).isEmpty then 0 else 1)<30))=true:=by rfl)
  (hline:(apos.endLine == cpos.line)=true:=by rfl) (hs:starEach (e::es) X.env=@16::starEach es X.env:=by rfl) (hplain:(backTo cpos (starEach es X.env)).any (·.1)=false:=by rfl) :
  PE X (.Call (.Attribute o name apos) (e::es) [] cpos) (tBM X.K T r to t):=by
 intro pins s σ H Q I h;refine wpAny_Call_method_late hbase hfew hline rfl (thn (ho pins s σ H _ I h) fun v s1 hz=>?_);obtain⟨x,H1,I1,r1,ty,q1⟩:=hz;obtain⟨h1,h2⟩:=tyV_is I1 r1 ty;refine⟨T,id,pa,slot,hty,h1,h2,?_⟩;have hA:=ha cpos pins s1 σ H1 _ I1 q1;rw[hs] at hA ⊢;refine y01 (by show(false || (backTo cpos (starEach es X.env)).any (·.1))=false;rw[hplain]<;>rfl) (y20 ?_);exact thn hA fun us s2 ⟨vs,H2,I2,r2,q2⟩=>hm pins s2 σ H2 x vs v us Q I2 r1 r2 q2
end
def MtM (X:Cx)(id:String)(r:V->List V->Hp->VK->Prop):Prop:=
 ∀(pins:List @8) (s:Shared) (σ:St) (H:Hp) (x:V) (xs:List V) (v:Value) (us:List Value) (Q:VK),Inv X pins σ H s->RelV x v->Vals xs us->r x xs H Q->
  wpAny @3 X.A (call (.builtin id) (v::us)) (EP X pins σ Q) X.xe s
theorem Vals.one(h:Vals [x] us):∃u,us=[u]/\RelV x u:=by
 cases h with
 |cons r t=>cases t;exact⟨_,rfl,r⟩
theorem Vals.two {y:V}(h:Vals [x,y] us):∃u v,us=[u,v]/\RelV x u/\RelV y v:=by
 cases h with
 |cons r t=>obtain⟨u,rfl,q⟩:=Vals.one t;exact⟨_,_,rfl,r,q⟩
section
variable {H:Hp}{l:Addr}{xs:List V}
theorem Inv.lset{t':Nat}(I:Inv X pins σ H s)(hH:H l=some (.lst xs))
  (e:s.heap.get? l=some { cls:=.type "list",data:=.seq its.toArray n }) (hf:f its.toArray=its'.toArray) (hv:Vals ys its') (hz:ys.length<=z24) :
  Inv X pins σ (upd H l (.lst ys)) { s with heap:=s.heap.update l (z54 f),toks:=t' }:=by
 have q:=PySem.IsL.update e f;rw[hf] at q;refine I.write (x:=l) (e:=l) (by rw[hH];exact trivial) @14 (fun b' u hb hu=>(zf3 s.heap (z54 f) (zh9 hb)).trans hu) ⟨_,q⟩ ?_;exact⟨hz,its',_,hv,q⟩
theorem Inv.lnew{t':Nat}(I:Inv X pins σ H s)(hv:Vals ys its)(hz:ys.length<=z24) :
  Inv X pins σ (upd H s.heap.objs.size (.lst ys)) { s with heap:=s.heap.push { cls:=.type "list",data:=.seq its.toArray },toks:=t' }:=
 I.laid (fun _ _ q=>z14 _ q) (z15 _) ⟨hz,its,0,hv,z29 _ rfl⟩
theorem Inv.fresh (I:Inv X pins σ H s):H s.heap.objs.size=none:=I.hok.fresh (z15 _)
theorem Inv.lstM (I:Inv X pins σ H s)(hH:H l=some (.lst xs)):xs.length<=z24/\∃(its:List Value) (n:Nat),Vals xs its/\xs.length=its.length/\s.heap.get? l=some { cls:=.type "list",data:=.seq its.toArray n }:=by
 obtain⟨z,its,n,r,e⟩:=I.hok l _ hH;exact⟨z,its,n,r,r.length,e⟩
theorem notLongL(h:n<=z24):zl2 n=false:=by
 unfold zl2;exact decide_eq_false @0
end
section
def rAppend:V->List V->Hp->VK->Prop:=fun x vs H Q=>∃l xs y,x=.ref l/\vs=[y]/\H l=some (.lst xs)/\xs.length<z24/\Q .non (upd H l (.lst (xs++[y])))
theorem mt_append:MtM X "list.append" rAppend:=by
 intro pins s σ H x vs v us Q I rx rv h;obtain⟨l,xs,y,rfl,rfl,hH,hz,q⟩:=h;cases rx
 obtain⟨u,rfl,ru⟩:=rv.one;obtain⟨z,its,n,r,hl,e⟩:=I.lstM hH;refine call_meets F.slot_list_append ⟨_,e,rfl⟩ F.entry_list_append (F.args_list_append_2 _ _) (PySem.list_append l its.toArray n u (by rw[z22];lia)) ⟨e,?_⟩;refine⟨.non,_,I.lset (its':=its++[u]) hH e @6 (r.append (.cons ru .nil)) ?_,rfl,q⟩;rw[z10,y18];lia
end
end L2
namespace Att
open PySem PySem.W PySem.Calls PyProof.Rows
variable {l:OpenLaw}{XP:(Str->Option Value)->Heap->Prop}
theorem ints_of_wellAll {P:Params}{h:Heap}:∀(ns:List Int) (vs:List Value),WellAll P h vs (ns.map WData.int)->IntsAre vs ns:=by
 intro ns
 induction ns with
 |nil=>
  intro vs w;rw[zp3] at w;cases w
  exact .nil
 |cons n ns ih=>
  intro vs w;rw[z28] at w
  cases w with
  |cons a b=>
   cases a
   exact .cons _ _ (ih _ b)
theorem script_of{n:Nat}(hn:l.most=some n){P:Params}{h:Heap}{args:List WData}{vals:List Value}
  (hpre:l.row.toRowW.claim.pre args=true) (hwl:WellAll P h vals args) :
  ∃a vs ns,vals=[z30 a]/\args=[WData.list (ns.map WData.int)]/\h.get? a=some { cls:=.type "list",data:=.seq vs.toArray }/\IntsAre vs ns/\ns.length<=n:=by
 have hsh:WShape.hasAll [] args [.list .int]=true:=(pre_splitW hpre).1;have hc:l.pre.holds [] { args:=args }=true:=(pre_splitW hpre).2;obtain⟨d,r,rfl,h1,h2⟩:=hasAllW_cons hsh;obtain rfl:=hasAllW_nil h2;obtain⟨xs,rfl,h3⟩:=hasW_list h1;obtain⟨ns,rfl⟩:=items_int h3
 have hlen:ns.length<=n:=by
  unfold OpenLaw.pre at hc
  have h4:(WTm.not (.lt (.lit (.int (n:Int))) (.len (.arg 0)))).holds [] { args:=[.list (ns.map .int)]}=true:=by
   have h4:=(holds_andW hc).1;rw[hn] at h4;exact h4
  have h5:=condW_of h4 (w_not (w_lt w_lit (w_len_list (w_arg rfl))));rw[z01] at h5;refine Nat.le_of_not_lt fun q=>?_;have q':(n:Int)<((ns.length:Nat):Int):=by lia
  first
   |(rw[decide_eq_true q'] at h5;exact absurd h5 @2)
   |(simp at h5;lia)
 cases hwl with
 |cons w1 w2=>
  cases w2
  cases w1 with
  |list ho hall=>exact⟨_,_,ns,rfl,rfl,ho,ints_of_wellAll ns _ hall,hlen⟩
theorem post_true (l:OpenLaw)(args:List WData):l.row.toRowW.claim.post args (.bool true) args=true:=
 postW_of (r:=l.row.toRowW) (X:=(true == true))
  (show WShape.has [] (.bool true) .bool=true by first|rfl|decide|simp[WShape.has,WShape.arms,WShape.armsAll])
  (show(WTm.eq .res (.lit (.bool true))).value [] { args:=args,res:=some (.bool true),after:=args }=some (.bool (true == true)) from w_eq_bool (w_res rfl) w_lit) rfl
theorem attach_call{n:Nat}{q:Program}{loose:List Str}{YP:World->Heap->Prop}{d:DefRec}
  (hn:l.most=some n) (hdf:d.params.defaults=[])
  (call:∀(w:World) (s₀ s₁:Shared) (mg mb:Str->Option Value) (fa:Addr) (o:Obj) (pm cd doc:Value) (a:Addr) (vs:List Value) (ns:List Int),
   Ground q loose [] XP w s₀ mg mb s₁.heap->YP w s₁.heap->
   s₁.heap.get? fa=some o->o.data=.func (docDef d.name d.params d.body d.scope pm cd doc)->s₁.heap.CodeRec cd d.name->mg d.name=some (.ref fa)->
   s₁.heap.get? a=some { cls:=.type "list",data:=.seq vs.toArray }->IntsAre vs ns->ns.length<=n->s₁.gens = #[]->
   codeAny (model l.prog w) callerA (.call (.ref fa) ⟨[.ref a],[]⟩) (fun r s'=>r=.ok (.ret (.bool true))/\OldK s₁.heap s'.heap/\s'.os=s₁.os/\AllBare s'.gens) s₁) :
  WalkO q loose XP YP l.row.toRowW d [] (fun f vs=>y39 f vs):=by
 intro w s₀ s₁ mg mb G Y fa o pm cd doc dV kV ho hd hcd hD hmg hg args vals as hpre hlay hrd hwl hlo;obtain rfl:dV=.none:=Dflts.none hD hdf;obtain rfl:kV=.none:=Dflts.noKw hD;obtain⟨a,vs,ns,rfl,rfl,hobj,hints,hlen⟩:=script_of hn hpre hwl;refine enter_call (zl4 (call w s₀ s₁ mg mb fa o pm cd doc a vs ns G Y ho (fd_plain hd) hcd hmg hobj hints hlen hg) fun r s' hq=>?_);obtain⟨rfl,h2,h3,h4⟩:=hq;exact⟨.inl ⟨.bool true,.bool true,[],rfl,fun _=>rfl,.bool true,post_true l _,fun _=>⟨List.Pairwise.nil,fun _ hm=>(nomatch hm)⟩⟩,h2,h3,h4⟩
end Att
namespace L2
open PySem PySem.Spec PyProof.Rows
variable {P:Program}{w:World}{K:z02}{mg:Str->Option Value}{k:Nat}{a f:Addr}{fd:FuncData}{x qual:Str}{XP:(Str->Option Value)->Heap->Prop}{st:Stmt}{ps N:List Str}{osl:Array (Option Value)}{A:Around}{X:Cx}{pos:Pos}{scope:Scope}{s:Shared}{elt iter tg:Expr}{ifs es:List Expr}{base:Heap}{E Q Qm9:Value->Shared->Prop}{wi:TI}{tc:TT}{te:TE}{pins:List @8}{use:Option (Value->Sem Unit)}{ch:List Addr}{ys:Array Value}
theorem vals_ints:∀{vs:List Value} {ns:List Int},IntsAre vs ns->Vals (ns.map V.int) vs
 |_,_,.nil=>.nil
 |_,_,.cons n t h=>.cons ⟨t,rfl⟩ (vals_ints h)
def Only (H:Hp):Prop:=∀b,H b=none\/∃o xs,H b=some (.frz o (.lst xs))
theorem law_call{mb:Str->Option Value}{CX:CXT}{fa:Addr}{sp:Sp}{s₁:Shared}{vs:List Value}{ns:List Int}
  (KX:K.In s₁.heap) (hns:s₁.heap.Ns z68 mg) (hb:s₁.heap.Ns builtinsNs mb) (hbb:∀x:Str,x ≠ "__name__" -> mb x=z90 x) (hlim:s₁.heap.NoLimit) (hg:s₁.gens = #[])
  (ha:s₁.heap.get? a=some { cls:=.type "list",data:=.seq vs.toArray }) (hi:IntsAre vs ns) (hl:ns.length<=z24) (hr:Room k callerA)
  (F:∀base:Heap,K.In base->base.Ns z68 mg->FnOk P w K mg base CX k fa fd [x] sp) (hbind:∀(s:Shared) (u:Value),BindsTo s fd ⟨[u],[]⟩ [(x,u)])
  (hsp:∀H:Hp,Only H->SqL K H a (ns.map V.int)->sp [.ref a] H (fun v _=>v=.bl true) fun _ _ _=>False)
  (hCX:∀H e s',CX [] H s₁ (fun _ _ _=>False) e s'->False) :
  codeAny (model P w) callerA (.call (.ref fa) ⟨[.ref a],[]⟩) (fun r s'=>r=.ok (.ret (.bool true))/\OldK s₁.heap s'.heap/\s'.os=s₁.os/\AllBare s'.gens) s₁:=by
 have rv:=vals_ints hi;have lenV:=hi.length
 -- from an abstract heap in which nothing but the script may be tracked
 have core:∀H:Hp,Only H->SqL K H a (ns.map V.int)->HOk P w H s₁.heap->(∀b,H b≠none->b=a)->(H a≠none->K.lookup a=none)->
   codeAny (model P w) callerA (.call (.ref fa) ⟨[.ref a],[]⟩) (fun r s'=>r=.ok (.ret (.bool true))/\OldK s₁.heap s'.heap/\s'.os=s₁.os/\AllBare s'.gens) s₁:=by
  intro H hO hS hok hA hK;have base_of:∀{b:Addr} {o:Obj},s₁.heap.get? b=some o->H b=none->(hidT s₁.heap H).get? b=some o:=fun e n=>hidT_get e n
  have noA:∀{b:Addr} {o:Obj} {es:Array DictEntry} {ep:Nat},s₁.heap.get? b=some o->o.data=.dict es ep->H b=none:=fun{b o es ep} e d=>by
   cases q:H b with
   |none=>rfl
   |some u=>
    have e':b=a:=hA b (by rw[q];simp);subst e';rw[ha] at e;cases e;have d':Data.seq vs.toArray _=Data.dict es ep:=d;cases d'
  have nsK:∀{b:Addr} {m:Str->Option Value},s₁.heap.Ns b m->(hidT s₁.heap H).Ns b m:=fun{b m} ⟨o,es,ep,e,d,r⟩=>⟨o,es,ep,base_of e (noA e d),d,r⟩
  have hKb:K.In (hidT s₁.heap H):=fun b o e=>base_of (KX b o e) (by
   cases q:H b with
   |none=>rfl
   |some u=>
    have e':b=a:=hA b (by rw[q];simp);subst e'
    rw[hK (by rw[q];simp)] at e;cases e)
  have hM:Mod K mg (hidT s₁.heap H):=⟨hKb,nsK hns,⟨mb,nsK hb,hbb⟩,let ⟨mc,h1,h2⟩:=hlim;⟨mc,nsK h1,h2⟩⟩;have e0:Env0 P w K mg (hidT s₁.heap H) callerA [] s₁ H:=⟨rfl,hM,fun b o e=>of_hidT e,Nat.le_of_eq (hidT_size _ _),trivial,fun b hb=>absurd (show b∈([]:List Addr) from hb) @6,hok,.of_eq hg⟩;refine zl4 ((F _ hKb (nsK hns)).run callerA [] s₁ H ⟨[.ref a],[]⟩ [.ref a] [.ref a] _ _ hr e0 (hbind s₁ @28) (.cons rfl .nil) (hsp H hO hS)) fun r s' h=>?_
  cases r with
  |error e=>exact(hCX H e s' h).elim
  |ok fl=>
   cases fl with
   |next=>exact zj1 h
   |brk=>exact zj1 h
   |cont=>exact zj1 h
   |ret u=>
    obtain⟨v,H',os,bare,un,hok',r',q⟩:=h;have q':v=.bl true:=q;subst q';obtain rfl:u=y37 true:=r';refine⟨rfl,OldK.of_keep fun b o e=>?_,os,bare⟩
    cases q:H b with
    |none=>exact un.keep b o e q (by intro z;exact absurd (show b∈([]:List Addr) from z) @6) @6
    |some u=>
     rcases hO b with z|⟨ob,xs,z⟩
     ·rw[q] at z;cases z
     ·have z2:=un.frzs b ob _ z;obtain⟨e1,_⟩:=hok b _ z;obtain⟨e2,_⟩:=hok' b _ z2;rw[e] at e1;cases e1;exact e2
 cases hk:K.lookup a with
 |some o=>
  -- the script is one of the module's own objects
  have e:=KX a o hk;rw[ha] at e;cases e
  refine core (fun _=>none) (fun _=>.inl rfl) (.inr ⟨_,vs.toArray,_,hk,rfl,rfl,rfl,by rw[z22,lenV];exact hl,by simpa using rv⟩) (fun b u z=>by have z':(none:Option HO)=some u:=z;cases z') (fun b z=>absurd rfl z) fun z=>absurd rfl z
 |none=>
  refine core (fun b=>if b=a then some (.frz { cls:=.type "list",data:=.seq vs.toArray } (.lst (ns.map V.int))) else none) (fun b=>?_) (.inl (.inr ⟨{ cls:=.type "list",data:=.seq vs.toArray },if_pos rfl⟩)) (fun b u z=>?_) (fun b z=>?_) fun _=>hk
  ·by_cases hb:b=a
   ·exact .inr ⟨_,_,if_pos hb⟩
   ·exact .inl (if_neg hb)
  ·by_cases hb:b=a
   ·have z':=(if_pos hb).symm.trans z;cases z'
    subst hb;exact⟨ha,by rw[z01];exact hl,vs,_,rv,ha⟩
   ·have z':=(if_neg hb).symm.trans z;cases z'
  ·by_cases hb:b=a
   ·exact hb
   ·exact absurd (if_neg hb) z
theorem walk_of {l:zo1}{n:Nat}{q:Program}{loose:List Str}{YP:World->Heap->Prop}{d:DefRec}{K:Params->z02}{CX:World->CXT}{sp:World->Sp}
  (hn:l.most=some n) (hn2:n<=z24) (hdf:d.params.defaults=[]) (hr:Room k callerA)
  (hY:∀(w:World) (h:Heap),YP w h->(K w.params).In h)
  (F:∀(w:World) (mg:Str->Option Value) (fa:Addr) (h:Heap),(K w.params).In h->h.Ns z68 mg->mg d.name=some (.ref fa)->
   ∃fd:FuncData,(∀(s:Shared) (u:Value),BindsTo s fd ⟨[u],[]⟩ [(x,u)])/\
    ∀base:Heap,(K w.params).In base->base.Ns z68 mg->FnOk l.prog w (K w.params) mg base (CX w) k fa fd [x] (sp w))
  (hsp:∀(w:World) (H:Hp) (a:Addr) (ns:List Int),ns.length<=n->Only H->SqL (K w.params) H a (ns.map V.int)->sp w [.ref a] H (fun v _=>v=.bl true) fun _ _ _=>False)
  (hCX:∀(w:World) (H:Hp) (s:Shared) (e:Value) (s':Shared),CX w [] H s (fun _ _ _=>False) e s'->False) :
  PySem.W.WalkO q loose XP YP l.row.toRowW d [] (fun f vs=>y39 f vs):=by
 refine Att.attach_call hn hdf fun w s₀ s₁ mg mb fa o pm cd doc a vs ns G Y ho hd hcd hmg hobj hints hlen hg=>?_;have KX:=hY w _ Y;obtain⟨fd,hb,hF⟩:=F w mg fa _ KX G.T.g hmg;exact law_call KX G.T.g G.T.b G.T.builtins G.T.nolimit hg hobj hints (z73 hlen hn2) hr hF hb (fun H hO hS=>hsp w H a ns hlen hO hS) fun H e s'=>hCX w H s₁ e s'
def defArgs (s:Stmt):Arguments:=match s with
 |.FunctionDef _ a _ _ _ _ _ _ _ _=>a
 |_=>{ posonlyargs:=[],args:=[],vararg:=none,kwonlyargs:=[],kw_defaults:=[],kwarg:=none,defaults:=[]}
def defBody (s:Stmt):List Stmt:=match s with
 |.FunctionDef _ _ b _ _ _ _ _ _ _=>b
 |_=>[]
def defScope (s:Stmt):Scope:=match s with
 |.FunctionDef _ _ _ _ _ _ sc _ _ _=>sc
 |_=>{ kind:=.function,names:=[],isGenerator:=false,isCoroutine:=false }
structure Fun (K:z02)(x qual:Str)(st:Stmt)(f:Addr)(fd:FuncData):Prop where
 ex:∃(oc:Value) (od:Option Addr) (kV doc pm:Value) (an:Option Addr) (cdv ct:Value) (osl:Array (Option Value)),
  fd=zh0 x qual (defArgs st) (defBody st) (defScope st) .none kV doc pm an cdv ct/\K.lookup f=some ⟨oc,od,.func fd,osl⟩/\zw0 K cdv qual=true
 kp:zv9 K (.ref f)=true
section
theorem Fun.binds(F:Fun K x qual st f fd)
  (h:∀(kV doc pm:Value) (an:Option Addr) (cdv ct:Value) (us:List Value),us.length=ps.length->bindArgs (zh0 x qual (defArgs st) (defBody st) (defScope st) .none kV doc pm an cdv ct) ⟨us,[]⟩=pure (ps.zip us)):Binds K fd ps []:=by
 obtain⟨oc,od,kV,doc,pm,an,cdv,ct,osl,rfl,lk,hcd⟩:=F.ex;exact .all (h kV doc pm an cdv ct)
theorem fun_mk{oc:Value}{od an:Option Addr}{kV doc pm cdv ct:Value}(l:K.lookup f=some ⟨oc,od,.func (zh0 x qual (defArgs st) (defBody st) (defScope st) .none kV doc pm an cdv ct),osl⟩)
  (c:zw0 K cdv qual=true) (k:zv9 K (.ref f)=true):Fun K x qual st f (zh0 x qual (defArgs st) (defBody st) (defScope st) .none kV doc pm an cdv ct):=⟨⟨oc,od,kV,doc,pm,an,cdv,ct,osl,rfl,l,c⟩,k⟩
end
theorem hu_of(hr:Room k A):A.units+2<cLine:=zm5 (Nat.add_le_add_left (by decide:2<=64) _) hr.units
section
theorem pv (i:Nat)(hN:X.N[i]? = some x:=by rfl)(hv:Vis X.env.scope x:=by first|exact z36 rfl|exact z57 @9|exact z57 (z57 rfl))(hd:@10=false:=by decide)
  (hcd:@23=false:=by decide):PE X (.Name x pos) (tVar i):=pe_var hN hv hd hcd
end
def Same (H H':Hp):Prop:=∀b o,H b=some o->H' b=some o
theorem Same.refl (H:Hp):Same H H:=fun _ _ h=>h
theorem Same.trans {H H1 H2:Hp}(a:Same H H1)(b:Same H1 H2):Same H H2:=fun c o h=>b c o (a c o h)
theorem Same.free {H H':Hp}(e:Same H H'){l:Addr}(h:H' l=Option.none):H l=Option.none:=by
 cases q:H l with
 |none=>rfl
 |some o=>
  rw[e l o q] at h;cases h
section
variable {κ:Type}[DecidableEq κ]
end
theorem Qen {α β:Type}{l:List α}{f:α->β->Sem (ForInStep β)}{g:α->β->β}(h:∀x∈l,∀c,f x c=pure (.yield (g x c))):∀c:β,forIn l c f=pure (l.foldl (fun c x=>g x c) c):=by
 induction l with
 |nil=>intro c;rfl
 |cons x l ih=>
  intro c;rw[zp6,h x z09,pure_bind];exact ih (fun y hy=>h y (z07 _ hy)) _
def QbZ (cells:List (Str×Addr))(names:List (Str×NameKind)):List (Str×Addr):=
 names.foldl (fun c x=>if(x.2 == z51)=true then(x.1,(cells.lookup x.1).getD 0)::c else c) []
theorem Qeo{env:Env}(h:∀x∈scope.names,x.2=.free->∃c,env.cells.lookup x.1=some c):closureFor scope env=pure (QbZ env.cells scope.names):=by
 simp only[closureFor]
 rw[Qen (g:=fun(x:Str×NameKind) c=>if(x.2 == z51)=true then(x.1,(env.cells.lookup x.1).getD 0)::c else c) (fun x hx c=>by
  obtain⟨n,kind⟩:=x
  by_cases hk:kind=.free
  ·subst hk;obtain⟨a,ha⟩:=h _ hx rfl;simp[cellOf,ha]
  ·have hb:(kind == z51)=false:=by simpa using hk
   simp only[hb,z35,if_false])]
 rfl
theorem QaT {cells:List (Str×Addr)}:∀(names:List (Str×NameKind)) (acc:List (Str×Addr)),(∀x∈names,x.2=.free->∃c,cells.lookup x.1=some c)->(∀p∈acc,cells.lookup p.1=some p.2)->
  ∀p∈names.foldl (fun c (x:Str×NameKind)=>if(x.2 == z51)=true then(x.1,(cells.lookup x.1).getD 0)::c else c) acc,cells.lookup p.1=some p.2
 | [],_,_,ha=>ha
 |(n,k)::r,acc,h,ha=>by
  rw[zg0];refine QaT r _ (fun x hx=>h x (z07 _ hx)) ?_
  by_cases hk:k=.free
  ·subst hk;obtain⟨a,e⟩:=h (n,.free) z09 rfl;intro p hp;simp only[beq_self_eq_true,if_true] at hp;rcases z21.mp hp with rfl|hp
   ·show cells.lookup n=some ((cells.lookup n).getD 0);have e':cells.lookup n=some a:=e;rw[e'];rfl
   ·exact ha p hp
  ·have hb:(k == z51)=false:=by simpa using hk
   simp only[hb,z35,if_false];exact ha
theorem Vy {cells:List (Str×Addr)}{y:Str}:∀(names:List (Str×NameKind)) (acc:List (Str×Addr)),((y,z51)∈names\/y∈acc.map (·.1))->
  y∈(names.foldl (fun c (x:Str×NameKind)=>if(x.2 == z51)=true then(x.1,(cells.lookup x.1).getD 0)::c else c) acc).map (·.1)
 | [],acc,h=>h.elim (fun z=>nomatch z) fun z=>z
 |(n,k)::r,acc,h=>by
  rw[zg0];refine Vy r _ ?_;rcases h with h|h
  ·rcases z21.mp h with e|h
   ·cases e
    refine .inr ?_;simp
   ·exact .inl h
  ·refine .inr ?_
   split
   ·exact z07 _ h
   ·exact h
theorem Vz {y:Str}:∀{l:List (Str×Addr)},y∈l.map (·.1)->∃c,l.lookup y=some c
 | [],h=>nomatch h
 |(n,a)::r,h=>by
  by_cases e:y=n
  ·subst e;exact⟨a,by simp[z98]⟩
  ·have hb:(y == n)=false:=by simpa using e
   have hr:y∈r.map (·.1):=(z21.mp h).resolve_left e;obtain⟨c,hc⟩:=Vz hr;exact⟨c,by rw[z98,hb];exact hc⟩
theorem J5 {env:Env}{y:Str}:∀{names:List (Str×NameKind)} {k:NameKind},(∀z∈names,z.2≠.cell)->
  (names.map fun(n,k)=>if(k == z51 && env.scope.kind == .function && env.kindOf n == some .cell) then(n,zb0) else(n,k)).lookup y=some k->k=.cell\/k=.free->(y,z51)∈names
 | [],_,_,h,_=>by simp at h
 |(n,k0)::r,k,hc,h,hk=>by
  rw[z28] at h
  by_cases e:y=n
  ·subst e
   by_cases c:(k0 == z51 && env.scope.kind == .function && env.kindOf y == some .cell)=true
   ·have hf:k0=.free:=by
     have:=c;simp only[z76] at this;simpa using this.1.1
    subst hf;exact z09
   ·have h':k0=k:=by
     rw[show(match (y,k0) with|(n,k)=>if(k == z51 && env.scope.kind == .function && env.kindOf n == some .cell)=true then(n,zb0) else(n,k))=(y,k0) from if_neg c] at h;simpa[z98] using h
    subst h';rcases hk with rfl|rfl
    ·exact absurd rfl (hc _ z09)
    ·exact z09
  ·have hb:(y == n)=false:=by simpa using e
   refine z07 _ (J5 (env:=env) (k:=k) (fun z hz=>hc z (z07 _ hz)) ?_ hk)
   by_cases c:(k0 == z51 && env.scope.kind == .function && env.kindOf n == some .cell)=true
   ·rw[show(match (n,k0) with|(n,k)=>if(k == z51 && env.scope.kind == .function && env.kindOf n == some .cell)=true then(n,zb0) else(n,k))=(n,zb0) from if_pos c,z98,hb] at h;exact h
   ·rw[show(match (n,k0) with|(n,k)=>if(k == z51 && env.scope.kind == .function && env.kindOf n == some .cell)=true then(n,zb0) else(n,k))=(n,k0) from if_neg c,z98,hb] at h;exact h
theorem J6 {env:Env}{y:Str}:∀{names:List (Str×NameKind)},names.lookup y=some .free->
  (names.map fun(n,k)=>if(k == z51 && env.scope.kind == .function && env.kindOf n == some .cell) then(n,zb0) else(n,k)).lookup y=some .cell\/
  (names.map fun(n,k)=>if(k == z51 && env.scope.kind == .function && env.kindOf n == some .cell) then(n,zb0) else(n,k)).lookup y=some .free
 | [],h=>by simp at h
 |(n,k)::r,h=>by
  have ih:=@J6 env y r;show List.lookup y ((if(k == z51 && env.scope.kind == .function && env.kindOf n == some .cell)=true then(n,zb0) else(n,k))::_)=_\/List.lookup y ((if(k == z51 && env.scope.kind == .function && env.kindOf n == some .cell)=true then(n,zb0) else(n,k))::_)=_
  cases hx:y == n with
  |true=>
   simp only[z98,hx] at h;cases h
   by_cases hc:(z51 == z51 && env.scope.kind == .function && env.kindOf n == some .cell)=true
   ·rw[if_pos hc];simp[z98,hx]
   ·rw[if_neg hc];simp[z98,hx]
  |false=>
   simp only[z98,hx] at h
   by_cases hc:(k == z51 && env.scope.kind == .function && env.kindOf n == some .cell)=true
   ·rw[if_pos hc];simp only[z98,hx];exact ih h
   ·rw[if_neg hc];simp only[z98,hx];exact ih h
structure Blk (X:Cx)(scope:Scope)(N:List Str)(ix:List @17):Prop where
 kind:scope.kind=.function
 Qdj:∀y∈scope.names,y.2≠.cell
 names:∀y∈scope.names,y.2=.local->scope.names.lookup y.1=some .local
 free:∀y∈scope.names,y.2=.free->X.env.kindOf y.1=some .cell\/X.env.kindOf y.1=some .free
 nd:N.Nodup
 len:ix.length=N.length
 slots:∀(j i:Nat) (y:Str),ix[j]? = some (some i)->N[j]? = some y->X.N[i]? = some y/\scope.names.lookup y=some .free
def QM (ix:List @17)(σ:St):St:=ix.map fun o=>o.bind fun i=>(σ[i]?).join
def Cx.blk (X:Cx)(scope:Scope)(N:List Str)(pins:List @8)(C:Addr)(s:Shared)(H:Hp)(ex:List Addr):Cx:=
 { X with N:=N,s₀:=s,H₀:=H,env:=compEnvC scope (QbZ X.env.cells scope.names) C X.env,outer:=X.stack,stack:=X.stack,ex:=ex,fn:=fun _=>false,pn:=X.pn++pins,xe:=fun _ _=>False }
def PIf (X:Cx)(ifs:List Expr)(t:TT):Prop:=
 ∀(pins:List @8) (s:Shared) (σ:St) (H:Hp) (Q:Bool->Hp->Prop),Inv X pins σ H s->t σ H Q->
  wpAny @3 X.A (forIn ifs true fun c r=>if r=true then do let ok ← isTrue c X.env (eval c X.env);pure (zn6 ok) else pure (zn6 r)) (TP X pins σ Q) X.xe s
def QoF:TT:=fun _ H Q=>Q true H
theorem Qi2:PIf X [] QoF:=fun pins s σ H Q I h=>wpAny_tests_nil ⟨H,I,h⟩
theorem Qi3{c:Expr}{t:TT}(h:PT X c t):PIf X [c] t:=fun pins s σ H Q I q=>wpAny_tests_one (h pins s σ H Q I q)
theorem Y0 {prog:Program}{w:World}{R:Result->Shared->Prop}{target:Expr}{it acc:Value}{env:Env}(I:Nat->Shared->Prop)
  (turn:∀n s,I n s->wpAny @1 A (pyNext it) (fun r s₁=>match r with
   |none=>R (.ok .next) s₁
   |some v=>wpAny @1 A (letOwnedTupleGo target it v) (fun _ s₀=>wpAny @1 A (assign target env v) (fun _ s₂=>
     wpAny @1 A (forIn ifs true fun c r=>if r=true then do let ok ← isTrue c env (eval c env);pure (zn6 ok) else pure (zn6 r)) (fun ok s₃=>
      if ok=true then wpAny @1 A (eval elt env) (fun x s₄=>
       wpAny @1 A (call (.builtin "list.append") [acc,x]) (fun _ s₅=>∃m,m<n/\I m s₅) (fun _ _=>False) s₄) (fun _ _=>False) s₃
      else ∃m,m<n/\I m s₃) (fun _ _=>False) s₂) (fun _ _=>False) s₀) (fun _ _=>False) s₁) (fun _ _=>False) s)
  (n:Nat) (h:I n s) :
  codeAny @1 A (.compLoop (.ListComp elt [⟨target,iter,ifs,0⟩] scope pos) 0 it acc env) R s:=by
 refine codeAny_loop rfl I (fun n s hI=>?_) n h;show wpAny _ A ((compTurn (.ListComp elt [⟨target,iter,ifs,0⟩] scope pos) 0 it acc env).onRaise (fun x=>do noteFrame x env;theTreesLotGoes x)) _ _ s;refine wpAny_noted ?_;rw[compTurn_list];refine z00 (y35 (z00 (zb4 (turn n s hI) (fun r s₁ h₁=>?_) fun _ _ h'=>h'.elim)))
 cases r with
 |none=>exact z04 h₁
 |some v=>
  refine z00 (zb4 h₁ (fun _ s₀ h₀=>?_) fun _ _ h'=>h'.elim);refine z00 (zb4 h₀ (fun _ s₂ h₂=>z00 (zb4 h₂ (fun ok s₃ h₃=>?_) fun _ _ h'=>h'.elim)) fun _ _ h'=>h'.elim)
  cases ok with
  |false=>exact z04 ⟨rfl,h₃⟩
  |true=>
   exact z00 (z00 (zb4 h₃ (fun x s₄ h₄=>z00 (zb4 h₄ (fun _ s₅ h₅=>z04 (z04 ⟨rfl,h₅⟩)) fun _ _ h'=>h'.elim)) fun _ _ h'=>h'.elim))
theorem HOk.track{H:Hp}{h:Heap}{o:HO}(x:HOk P w H h)(hn:H a=none)(new:ObjOk P w (upd H a o) h a o):HOk P w (upd H a o) h:=fun b u e=>by
 by_cases hb:b=a
 ·subst hb;rw[upd_same] at e;cases e;exact new
 ·rw[upd_ne hb] at e;exact(x b u e).stay (fun c v _ q=>q) (fun c q=>by rw[upd_ne (ne_of_none q hn)];exact q) fun c xs q=>by rw[upd_ne (ne_of_none q hn)];exact q
theorem HOk.but{H:Hp}{h h':Heap}(x:HOk P w H h)(hn:H a=none)(sb:zd3 a h h'):HOk P w H h':=fun b u e=>by
 refine(x b u e).stay (fun c v hc q=>(sb.2 c ?_).trans q) (fun _ q=>q) fun _ _ q=>q;rintro rfl;rcases hc with rfl|hc
 ·rw[hn] at e;cases e
 ·rw[hn] at hc;cases hc
section
def QcH (i j:Int):Prop:=0<j/\j<115792089237316195423570985008687907853269984665640564039457584007913129639936
theorem Qhf {j:Int}(h:QcH 0 j):j.natAbs.log2<9000:=by
 have h1:(0:Int)<j:=h.1;have h2:j<115792089237316195423570985008687907853269984665640564039457584007913129639936:=h.2;have e:(2:Nat) ^ 256=115792089237316195423570985008687907853269984665640564039457584007913129639936:=by decide
 have h3:j.natAbs<2 ^ 256:=by rw[e];lia
 have h4:j.natAbs.log2<256:=(Nat.log2_lt @0).mpr h3;lia
theorem Qhg:OpR X (binaryOp .FloorDiv) (rI QcH fun i j=>.int (i / j)):=opI fun i j _ _ _ _ _ hc q=>by
 have h1:(0:Int)<j:=hc.1;exact floordiv_int @0 (by rw[Int.fdiv_eq_ediv_of_nonneg i @0];exact q) (.inl (PyProof.noPylong_of_log2 (Qhf ⟨hc.1,hc.2⟩)))
theorem Paired.get {α β:Type}{F:α->β->Prop}:∀{l:List α} {m:List β} {i:Nat} {a:α},Paired F l m->l[i]? = some a->∃b,m[i]? = some b/\F a b
 |_,_,_,_,.nil,e=>by simp at e
 |_,_,0,_,.cons r _,e=>by simp at e;subst e;exact⟨_,rfl,r⟩
 |_,_,i+1,x,.cons _ t,e=>by
  obtain⟨u,h1,h2⟩:=Paired.get (i:=i) (a:=x) t (by simpa using e);exact⟨u,by simpa using h1,h2⟩
end
theorem Blk.of{ix:List @17}(kind:scope.kind=.function:=by rfl)
  (c1:(scope.names.all fun y=>y.2 != zb0)=true:=by rfl)
  (c2:(scope.names.all fun y=>y.2 != NameKind.local || scope.names.lookup y.1 == some NameKind.local)=true:=by rfl)
  (c3:(scope.names.all fun y=>y.2 != z51 || (X.env.scope.names.lookup y.1 == some zb0 || X.env.scope.names.lookup y.1 == some z51))=true:=by rfl)
  (nd:N.Nodup:=by decide +kernel) (len:ix.length=N.length:=by rfl)
  (c4:((List.zip ix N).all fun p=>match p.1 with|none=>true|some i=>X.N[i]? == some p.2 && scope.names.lookup p.2 == some z51)=true:=by rfl):Blk X scope N ix where
 kind:=kind
 Qdj:=fun y hy e=>by
  have q:=za7.mp c1 y hy;rw[e] at q;exact absurd q @2
 names:=fun y hy e=>by
  have q:=za7.mp c2 y hy;rw[e] at q;exact beq_iff_eq.mp (by simpa using q)
 free:=fun y hy e=>by
  have q:=za7.mp c3 y hy;rw[e] at q;have q':(X.env.scope.names.lookup y.1 == some zb0 || X.env.scope.names.lookup y.1 == some z51)=true:=by simpa using q
  rcases Bool.or_eq_true_iff.mp q' with z|z
  ·exact .inl (beq_iff_eq.mp z)
  ·exact .inr (beq_iff_eq.mp z)
 nd:=nd
 len:=len
 slots:=fun j i y h1 h2=>by
  have hm:(some i,y)∈List.zip ix N:=by
   have e:(List.zip ix N)[j]? = some (some i,y):=by rw[zy6];exact⟨h1,h2⟩
   exact z38 e
  have q:=za7.mp c4 _ hm;have q':(X.N[i]? == some y && scope.names.lookup y == some z51)=true:=q;obtain⟨z1,z2⟩:=z75.mp q';exact⟨beq_iff_eq.mp z1,beq_iff_eq.mp z2⟩
def SqB (kd:Bool)(K:z02)(H:Hp)(a:Addr)(xs:List V):Prop:=match kd with
 |true=>SqL K H a xs
 |false=>SqT K H a xs
def Itb (kd:Bool)(K:z02)(a:Addr):It:=match kd with
 |true=>Itl K a
 |false=>Itt K a
def QoG (K:z02)(tl:TE):TI:=fun σ H R=>tl σ H fun x H1=>∃a kd,x=.ref a/\(∃xs,SqB kd K H1 a xs)/\R (Itb kd K a) H1
theorem QkW{l:Expr}{tl:TE}(hl:PE X l tl):PI X tg l (QoG X.K tl):=by
 intro pins s σ H R I h;refine thn (hl pins s σ H _ I h) fun v s1 hz=>?_;obtain⟨x,H1,I1,r1,q1⟩:=hz;obtain⟨a,kd,e,⟨xs,hq⟩,q⟩:=q1;subst e;cases r1
 cases kd with
 |true=>
  obtain⟨its,rv,p,hz⟩:=I1.list (show SqL X.K H1 a xs from hq);refine wpAny_pyIter_list p.isList ?_;refine⟨s1.heap.objs.size,[s1.heap.objs.size],_,_,H1,rfl,I1.kept (t':=s1.toks) fun b o e=>z14 _ e,turn_list a _,⟨_,z29 _ rfl,rfl,rfl⟩,fun b hb=>?_,q⟩;have e:b=s1.heap.objs.size:=by simpa using hb
  subst e;exact I1.fpOk (z15 _) (I1.hok.fresh (z15 _))
 |false=>
  obtain⟨its,rv,p,hz⟩:=I1.tuple (show SqT X.K H1 a xs from hq);refine zv6 (show s1.heap.IsTuple a its.toArray from p) ?_;refine⟨s1.heap.objs.size,[s1.heap.objs.size],_,_,H1,rfl,I1.kept (t':=s1.toks) fun b o e=>z14 _ e,turn_tuple a _,⟨_,z29 _ rfl,rfl,rfl⟩,fun b hb=>?_,q⟩;have e:b=s1.heap.objs.size:=by simpa using hb
  subst e;exact I1.fpOk (z15 _) (I1.hok.fresh (z15 _))
theorem Same.upd {H:Hp}{a:Addr}{o:HO}(h:H a=none):Same H (upd H a o):=fun b u e=>by rw[upd_ne (ne_of_none e h)];exact e
structure ExcAt (s:Shared)(H:Hp)(h:Heap)(e:Addr)(cv:Value)(dx:Option Addr):Prop where
 dk:∀d,dx=some d->∃oe,h.get? e=some oe/\oe.dict=some d
 new:s.heap.get? e=none
 free:H e=none
 tr:∃oe vs a0 T oT ts,h.get? e=some oe/\oe.cls=cv/\vs[0]? = some a0/\oe.data=.fields vs/\vs[1]? = some (.ref T)/\T≠e/\s.heap.get? T=none/\H T=none/\h.get? T=some oT/\oT.data=.fields ts/\ts[3]? = some .none
def CXe (P:Program)(w:World):CXT:=fun outer H s E ev s'=>∃e cv dx H',ev=.ref e/\s'.os=s.os/\AllBare s'.gens/\Un (frs outer) [] H H' s.heap s'.heap/\HOk P w H' s'.heap/\ExcAt s H' s'.heap e cv dx/\E cv dx H'
section
variable {cd:Value}{outer:List Env}{H:Hp}{E:XK}
theorem QoH:PassesOwn (model P w) (A.deeper (envOfC qual scope s.heap.objs.size f cd)) (envOfC qual scope s.heap.objs.size f cd) (cxOf (CXe P w) P w K mg base N qual scope f cd A outer s H E).xe:=PassesOwn.leaving
end
theorem Fun.okE{sp:Sp}(F:Fun K x qual st f fd)(S:FnScope N ps (defScope st))(len:∀vs H Q E,sp vs H Q E->vs.length=ps.length)
  (hbody:∀(cdv:Value) (A:Around) (outer:List Env) (s:Shared) (H:Hp) (vs:List V) (Q:VK) (E:XK),Room k (A.deeper (envOfC qual (defScope st) s.heap.objs.size f cdv))->A.handled=none->sp vs H Q E->
   ∃t,PSs (cxOf (CXe P w) P w K mg base N qual (defScope st) f cdv A outer s H E) (defBody st) t/\t { nx:=fun _ H'=>Q .non H',rt:=Q } (start N vs) H):FnOk P w K mg base (CXe P w) (k+1) f fd ps sp:=by
 obtain⟨oc,od,kV,doc,pm,an,cdv,ct,osl,rfl,lk,hcd⟩:=F.ex;exact fn_of lk hcd S len fun A outer s H vs Q E hr hsp=>hbody cdv A outer s H vs Q E hr hr.hd hsp
structure VB (P:Program)(w:World)(K:z02)(mg:Str->Option Value)(base:Heap)(k:Nat)(x:Str)(ps:List Str)(sp:Sp):Prop where
 ex:∃f fd,FnOk P w K mg base (CXe P w) k f fd ps sp/\mg x=some (.ref f)/\zv9 K (.ref f)=true/\Binds K fd ps []
def Ext (σ τ:St):Prop:=τ.length=σ.length/\∀(i:Nat) v,σ[i]? = some @26->τ[i]? = some @26
def Qdk (wi:TI)(ix:List @17)(g:TG)(tc:TT)(te:TE):TE:=fun σ H Q=>wi σ H fun J H1=>∃W:Nat->Nat->List V->Hp->Prop,(∃m,W 0 m [] H1)/\∀i m ys H,W i m ys H->
 (J.stop i H/\∀D,H D=none->Q (.ref D) (upd H D (.lst ys)))\/
 (J.go i H/\∃N:List V->Hp->Prop,(∀ys' H',N ys' H'->∃m',m' < m/\W (i+1) m' ys' H')/\∀x H',J.yld i H x H'->
  g x (QM ix σ) H' fun τ H1'=>Ext (QM ix σ) τ/\tc τ H1' fun c H2=>if c=true then te τ H2 fun y H3=>ys.length<z24/\N (ys++[y]) H3 else N ys H2)
theorem Qb0{ix:List @17}{g:TG}
  (hc:X.calm=true) (B:Blk X scope N ix) (hg:∀pins C s H ex,PG (X.blk scope N pins C s H ex) tg g)
  (ht:∀pins C s H ex,PIf (X.blk scope N pins C s H ex) ifs tc) (he:∀pins C s H ex,PE (X.blk scope N pins C s H ex) elt te)
  (hs:∀x,foldedSetIterable iter X.env x=pure x) {σ:St} {H:Hp} {Q:VK} {pos':Pos} (I:Inv X pins σ H s) (hi:∀R:It->Hp->Prop,wi σ H R->wpAny @3 X.A (eval iter X.env) (fun v s1=>wpAny @3 X.A (pyIter v) (PIE X pins σ tg R) X.xe s1) X.xe s) (h:Qdk wi ix g tc te σ H Q)
  (fin:∀{s4:Shared} {H3:Hp} {D C:Addr} {ys:List V} {m:Str->Option Value},s4.heap.Ns C m->(∀h',zd3 C s4.heap h'->Inv X pins σ (upd H3 D (.lst ys)) { s4 with heap:=h' })->C≠X.env.locals->(∀y c,X.env.cells.lookup y=some c->c≠C)->(∀p∈X.pn++pins,p.1≠C)->X.s₀.heap.objs.size<=C->upd H3 D (.lst ys) C=none->Q (.ref D) (upd H3 D (.lst ys))->∀v,compPost @3 X.A X.xe use Qm9 (.ref D) C (.ok v) s4) :
  wpAny @3 X.A (comprehension (.ListComp elt [⟨tg,iter,ifs,0⟩] scope pos) scope X.env pos' (newList []) false (eval iter X.env) use) Qm9 X.xe s:=by
 have hcl:∀y∈scope.names,y.2=.free->∃c,X.env.cells.lookup y.1=some c:=fun y hy hf=>I.ok.has y.1 (B.free y hy hf);refine wpAny_comprehension_free (use:=use) (cl:=QbZ X.env.cells scope.names) rfl hs (Qeo hcl) B.kind B.names ?_;refine thn (hi _ h) fun v s1 h1=>thn h1 fun itv s2 h2=>?_;obtain⟨it,fp,tn,J,H2,e,I2,T,st2,f2,W,⟨m0,w0⟩,turn⟩:=h2;subst e;refine z69 (wpAny_newFunctionEnv B.Qdj (by intro y hy;simp at hy) (fun h₁ QkX QkQ=>?_) B.kind);dsimp only at QkX QkQ ⊢;generalize hHp:s2.heap.push { cls:=.type "list",dict:=none,data:=.seq ([]:List Value).toArray }=Hq at QkX QkQ ⊢
 generalize hD:s2.heap.objs.size=D at QkX QkQ ⊢;generalize hCq:Hq.objs.size=C at QkX QkQ ⊢;have hC:C=D+1:=by rw[← hCq,← hHp,zh2,hD]
 have hDC:D≠C:=by lia
 have below:∀b o,s2.heap.get? b=some o->b≠C/\b≠D:=fun b o e=>by
  have h1:b<D:=by rw[← hD];exact z34 e
  exact⟨z45 (z46 h1 (by rw[hC];exact zm0 D)),z45 h1⟩
 have old:∀b o,s2.heap.get? b=some o->h₁.get? b=some o:=fun b o e=>QkQ.extBut b o (below b o e).1 (z14 _ (hHp▸z14 _ e))
 have Qna:h₁.get? D=some { cls:=.type "list",data:=.seq ([]:List Value).toArray }:=
  QkQ.extBut _ _ hDC (z14 _ (hHp▸hD▸z29 _ rfl))
 have H2D:H2 D=none:=I2.hok.fresh (by rw[hD];exact z15 _);have H2C:H2 C=none:=I2.hok.fresh (by rw[hD];lia);have clM:∀y c,(QbZ X.env.cells scope.names).lookup y=some c->X.env.cells.lookup y=some c:=fun y c e=>QaT scope.names [] hcl (fun p hp=>nomatch hp) (y,c) (zc4 e);have Qnb:∀b∈fp,∃o,s2.heap.get? b=some o:=fun b hb=>let ⟨o,e,_⟩:=T.obj 0 _ st2 b hb;⟨o,e⟩
 have QkY:∀p∈X.pn++pins,s2.heap.get? p.1=some p.2:=fun p hp=>(I2.pin p hp).1;have Qio:∀y c,X.env.cells.lookup y=some c->∃o,s2.heap.get? c=some o:=fun y c e=>let ⟨v,o,ho,_⟩:=I2.cell y c e;⟨o,ho⟩
 let Xb:Cx:=X.blk scope N pins C s2 H2 fp
 have okb:Xb.Ok:=by
  refine⟨I2.ok.mod,B.kind,I2.ok.glob,I2.ok.blt,?_,fun y z c e1 e2=>I2.ok.inj y z c (clM y c e1) (clM z c e2),fun y hy=>?_,fun y c hf _=>?_,I2.ok.hd,I2.ok.frames,.inl rfl,fun b hb=>?_,I2.bs,z73 I2.ok.bsz I2.sz,fun b o e hb=>?_,fun b hb hf=>?_,I2.stack,I2.stkFree⟩
  ·show s2.heap.objs.size<=C;rw[hD];lia
  ·have hy':(y,z51)∈scope.names:=by
    rcases hy with hy|hy
    ·exact J5 (env:=X.env) B.Qdj (show(relabel scope X.env).names.lookup y=some .cell from hy) @14
    ·exact J5 (env:=X.env) B.Qdj (show(relabel scope X.env).names.lookup y=some .free from hy) (.inr rfl)
   exact Vz (Vy scope.names [] (.inl hy'))
  ·exact absurd (show false=true from hf) z19
  ·obtain⟨o,e⟩:=Qnb b hb;refine⟨(below b o e).1,fun y c hy=>?_⟩;exact(f2 b hb).2.2.2.2.1 y c (clM y c hy)
  ·rcases(f2 b hb).2.2.2.1 with z|z
   ·exact I2.ok.noex b o e z
   ·exact absurd (z46 (z34 e) (z73 I2.ok.bsz z)) (ze8 _)
  ·rcases z21.mp (I2.stkSub b hf) with z|z
   ·exact(f2 b hb).2.1 z
   ·exact(f2 b hb).2.2.1 z
 have QoI:(QM ix σ).length=N.length:=by unfold QM;rw[z01];exact B.len
 have Qnc:∀p∈X.pn++pins,p.1∉frs X.stack:=fun p hp z=>by
  obtain⟨_,_,n1,n2,_⟩:=I2.pin p hp;exact(z21.mp (I2.stkSub p.1 z)).elim n1 n2
 have DFs:D∉frs X.stack:=fun z=>by
  rcases z21.mp (I2.stkSub D z) with q|q
  ·have h3:=I2.lt;rw[hD,← q] at h3;exact absurd h3 (ze8 _)
  ·exact I2.nofs (by rw[hD];exact z15 _) q
 -- at the block's start
 have Ib:Inv Xb [(D,{ cls:=.type "list",data:=.seq ([]:List Value).toArray })] (QM ix σ) H2 { s2 with heap:=h₁,toks:=s2.toks+([]:List (Str×Value)).length }:=by
  refine⟨okb,rfl,I2.bare,Un.kept old,⟨_,QkX,fun a y v e1 e2 e3=>?_⟩,fun y c e=>?_,H2C,fun y c e=>I2.freeC y c (clM y c e),fun p hp=>?_,I2.hok.kept old,QoI⟩
  ·unfold QM at e2;rw[z17] at e2
   cases q:ix[a]? with
   |none=>rw[q] at e2;cases e2
   |some o=>
    rw[q] at e2
    cases o with
    |none=>cases e2
    |some i=>
     have e2':(σ[i]?).join=some v:=z26 e2
     have QoJ:σ[i]? = some @26:=by
      cases r:σ[i]? with
      |none=>rw[r] at e2';cases e2'
      |some t=>rw[r] at e2';exact congrArg some e2'
     obtain⟨n1,n2'⟩:=B.slots a i y q e1;have n2:(y,z51)∈scope.names:=zc4 n2';have kf:=B.free _ n2 rfl;obtain⟨m,_,hl⟩:=I2.loc;obtain⟨u,r,l⟩:=hl i y v n1 QoJ (kf.elim (fun z=>.inr (.inl z)) fun z=>.inr (.inr z));refine⟨u,r,?_⟩;rcases l with⟨l,_⟩|⟨_,c,hc1,hc2⟩
     ·rcases kf with z|z<;>(rw[show X.env.kindOf y=some .local from l] at z;cases z)
     ·obtain⟨c',hc'⟩:=Vz (Vy (cells:=X.env.cells) scope.names [] (.inl n2));have:c'=c:=z26 ((clM y c' hc').symm.trans hc1);subst this;have kb:(relabel scope X.env).names.lookup y=some .cell\/(relabel scope X.env).names.lookup y=some .free:=J6 n2';obtain⟨oc,hoc,hcd⟩:=hc2;exact .inr ⟨kb,c',hc',oc,old _ _ hoc,hcd⟩
  ·obtain⟨v,oc,hoc,hcd⟩:=I2.cell y c (clM y c e);exact⟨v,oc,old _ _ hoc,hcd⟩
  ·rcases z08.mp hp with hp|hp
   ·obtain⟨p1,p2,p3,p4,p5⟩:=I2.pin p hp;exact⟨old _ _ p1,p2,(below _ _ p1).1,Qnc p hp,p5⟩
   ·have e:p=(D,{ cls:=.type "list",data:=.seq ([]:List Value).toArray }):=by simpa using hp
    subst e;exact⟨Qna,H2D,hDC,DFs,fun v z=>nomatch z⟩
 have stat:∀{H':Hp} {ob:Obj},(∀b∈fp,H' b=none)->∀b∈fp,FpOk Xb [(D,ob)] H' b:=fun{H' ob} hn b hb=>by
  obtain⟨o,e⟩:=Qnb b hb;refine⟨hn b hb,(below b o e).1,okb.exfs b hb,.inl hb,fun y c hy=>(f2 b hb).2.2.2.2.1 y c (clM y c hy),fun p hp z=>?_⟩;rcases z08.mp hp with hp|hp
  ·exact(f2 b hb).2.2.2.2.2 p hp z
  ·have q:p=(D,ob):=by simpa using hp
   subst q;exact(below b o e).2 z.symm
 have loop:codeAny @3 X.A (.compLoop (.ListComp elt [⟨tg,iter,ifs,0⟩] scope pos) 0 (.ref it) (.ref D) (compEnvC scope (QbZ X.env.cells scope.names) C X.env))
   (compPost @3 X.A X.xe use Qm9 (.ref D) C) { s2 with heap:=h₁,toks:=s2.toks+([]:List (Str×Value)).length }:=by
  refine Y0 (fun n s'=>∃i ys H' its k,Inv Xb [(D,{ cls:=.type "list",data:=.seq (y14 its) k })] (QM ix σ) H' s'/\tn i s'.heap/\(∀b∈fp,H' b=none)/\Vals ys its/\ys.length<=z24/\W i n ys H') ?_ m0
   ⟨0,[],H2,[],_,Ib,T.keep _ _ _ st2 fun b _ o e=>old b o e,fun b hb=>(f2 b hb).1,.nil,z58 _,w0⟩
  rintro n s3 ⟨i,ys,H3,its,k,I3,st3,fr3,hv3,hz3,w3⟩;rcases turn i n ys H3 w3 with⟨stop,qn⟩|⟨go,N',hN,step⟩
  ·refine thn (T.done Xb rfl rfl rfl hc i _ s3 _ H3 (fun _ _=>False) I3 (stat fr3) st3 stop) fun r s4 hz=>?_;obtain⟨hr,I4⟩:=hz;subst hr;obtain⟨m,hn,_⟩:=I4.loc;have hp4:=I4.pin (D,{ cls:=.type "list",data:=.seq its.toArray k }) @6
   obtain⟨gD,nD,_,_,_⟩:=hp4
   have all:∀h',zd3 C s4.heap h'->Inv X pins σ (upd H3 D (.lst ys)) { s4 with heap:=h' }:=fun h' sb=>by
    have n3C:H3 C=none:=I4.free;have un4:Un (frs X.stack) fp H2 H3 s2.heap s4.heap:=I4.base;have gD':h'.get? D=some { cls:=.type "list",data:=.seq its.toArray k }:=(sb.2 D hDC).trans gD
    have up:∀b o,s2.heap.get? b=some o->h'.get? b=s4.heap.get? b:=fun b o e=>sb.2 b (below b o e).1;refine I2.call' (ch:=fp) (s':={ s4 with heap:=h' }) I4.os ?_ ?_ I4.bare fun b hb=>⟨(f2 b hb).2.2.2.1,(f2 b hb).2.1,(f2 b hb).2.2.2.2.1,(f2 b hb).2.2.2.2.2⟩
    ·refine⟨fun b o e n hb hx=>(up b o e).trans (un4.keep b o e n hb hx),fun b o e n hb hx=>?_,fun b o e n hx=>?_,fun b o e hx=>?_,fun b xs e=>?_,fun b o u e=>?_,fun b ps e=>?_⟩
     ·obtain⟨sl,q⟩:=un4.slot b o e n hb hx;exact⟨sl,(up b o e).trans q⟩
     ·rw[upd_ne (below b o e).2];exact un4.free b o e n hx
     ·obtain⟨o',q⟩:=un4.there b o e hx;exact⟨o',(up b o e).trans q⟩
     ·have q:=un4.tups b xs e;rw[upd_ne (ne_of_none q nD)];exact q
     ·have q:=un4.frzs b o u e;rw[upd_ne (ne_of_none q nD)];exact q
     ·obtain⟨more,q⟩:=un4.tbls b ps e;exact⟨more,by rw[upd_ne (ne_of_none q nD)];exact q⟩
    ·exact(HOk.but I4.hok n3C sb).track nD ⟨hz3,its,k,hv3,gD'⟩
   refine fin (C:=C) hn all (fun z=>?_) (fun y' c hy' z=>?_) (fun p hp z=>?_) (z73 I2.sz (by rw[hD];lia)) (by rw[upd_ne (zh9 hDC)];exact I4.free) (qn D nD) _
   ·have l1:=I2.lt;rw[hD,← z,hC] at l1;exact absurd l1 (Nat.not_lt.mpr (zm0 D))
   ·obtain⟨o,q'⟩:=Qio y' c hy';exact(below c o q').1 z
   ·exact(below _ _ (QkY p hp)).1 z
  ·refine thn (T.item Xb rfl rfl rfl hc i _ s3 _ H3 (fun _ _=>False) I3 (stat fr3) st3 go) fun r s4 hz=>?_;obtain⟨u,hr,h4⟩:=hz;subst hr;refine thn h4 fun _ s5 hz=>?_;obtain⟨x5,H5,I5,r5,y5,st5,fr5⟩:=hz;have I5':=I5.pinned (stat fr5) (T.obj _ _ st5);refine thn (hg pins C s2 H2 fp _ s5 _ H5 x5 u _ I5' r5 (step x5 H5 y5)) fun _ s6 hz=>?_;obtain⟨σ6,H6,I6,Qod,q6⟩:=hz;refine thn (ht pins C s2 H2 fp _ s6 _ _ _ I6 q6) fun ok s7 hz=>?_;obtain⟨H7,I7,q7⟩:=hz
   have back:∀{H8:Hp} {s8:Shared} {ob:Obj} {ys':List V} {its':List Value} {k':Nat},Inv Xb ([(D,ob)]++pinsAt fp s5.heap) σ6 H8 s8->ob={ cls:=.type "list",data:=.seq its'.toArray k' }->Vals ys' its'->ys'.length<=z24->N' ys' H8->
     ∃m,m<n/\∃i ys H' its k,Inv Xb [(D,{ cls:=.type "list",data:=.seq (y14 its) k })] (QM ix σ) H' s8/\tn i s8.heap/\(∀b∈fp,H' b=none)/\Vals ys its/\ys.length<=z24/\W i m ys H':=fun{H8 s8 ob ys' its' k'} I8 eo hv8 hz8 n8=>by
    subst eo;obtain⟨m',hm,w8⟩:=hN ys' H8 n8;refine⟨m',hm,i+1,ys',H8,its',k',?_,T.keep _ _ _ st5 fun b hb o e=>(I8.pin (b,o) (z05 _ (z05 _ (mem_pinsAt hb e)))).1,fun b hb=>?_,hv8,hz8,w8⟩
    ·exact(I8.unpinned).weak Qod.1.symm Qod.2
    ·obtain⟨o,e,d⟩:=T.obj _ _ st5 b hb;exact(I8.pin (b,o) (z05 _ (z05 _ (mem_pinsAt hb e)))).2.1
   cases ok with
   |false=>exact back I7 rfl hv3 hz3 q7
   |true=>
    have q7':te σ6 H7 fun y H3=>ys.length<z24/\N' (ys++[y]) H3:=q7;show wpAny _ _ (eval elt _) _ _ _;refine thn (he pins C s2 H2 fp _ s7 _ H7 _ I7 q7') fun y8 s8 hz=>?_;obtain⟨v8,H8,I8,r8,hz8,q8⟩:=hz;have gD8:=(I8.pin (D,{ cls:=.type "list",data:=.seq its.toArray k }) @6).1
    have nD8:=(I8.pin (D,{ cls:=.type "list",data:=.seq its.toArray k }) @6).2.1
    have hl8:=hv3.length;refine wpAny_list_append_plain (hsz:=by rw[z22];lia) ⟨k,gD8⟩ fun h9 pl9 sb9=>?_;obtain⟨k9,g9⟩:=pl9;have g9':h9.get? D=some { cls:=.type "list",data:=.seq (its++[y8]).toArray k9 }:=by rw[g9];simp
    have Qnd:∀p∈pinsAt fp s5.heap,p.1≠D:=fun p hp z=>by
     obtain⟨hb,_⟩:=of_pinsAt hp;obtain⟨o,e⟩:=Qnb p.1 hb;exact(below _ o e).2 z
    have I8':Inv Xb (pinsAt fp s5.heap) σ6 H8 s8:=I8.pins_of fun p hp=>I8.pin p (z05 _ (z05 _ hp))
    have I9:Inv Xb (pinsAt fp s5.heap) σ6 H8 { s8 with heap:=h9 }:=I8'.turned (t':=s8.toks) (fun b o hb e=>(sb9.2 b hb).trans e) nD8 hDC (.inr (by show s2.heap.objs.size<=D;rw[hD];exact z15 _))
     (fun y c hy z=>by obtain⟨o,e⟩:=Qio y c (clM y c hy);exact(below c o e).2 z)
     (fun p hp z=>by
      rcases z08.mp hp with hp|hp
      ·exact(below _ _ (QkY p hp)).2 z
      ·exact Qnd p hp z)
    have I10:Inv Xb ([(D,{ cls:=.type "list",data:=.seq (its++[y8]).toArray k9 })]++pinsAt fp s5.heap) σ6 H8 { s8 with heap:=h9 }:=I9.pins_of fun p hp=>by
     rcases z08.mp hp with hp|hp
     ·have q:p=(D,{ cls:=.type "list",data:=.seq (its++[y8]).toArray k9 }):=by simpa using hp
      subst q;exact⟨g9',nD8,hDC,DFs,fun v z=>nomatch z⟩
     ·exact I9.pin p (z05 _ hp)
    exact back I10 rfl (hv3.append (.cons r8 .nil)) (by rw[z10,y18];lia) q8
 exact codeAny_compStart_list loop (T.self _ 0 _ _ _ (T.keep _ _ _ st2 fun b _ o e=>old b o e) loop)
theorem Qhh{y:Str}{py spos:Pos}{ix:List @17}{i0:Nat}{g:TG}
  (hc:X.calm=true) (hXN:X.N.Nodup) (hi0:X.N[i0]? = some y) (hy:Loc X.env.scope y) (B:Blk X scope N ix) (hi:PI X tg iter wi) (hg:∀pins C s H ex,PG (X.blk scope N pins C s H ex) tg g)
  (ht:∀pins C s H ex,PIf (X.blk scope N pins C s H ex) ifs tc) (he:∀pins C s H ex,PE (X.blk scope N pins C s H ex) elt te)
  (hsw:swapsWith (.ListComp elt [⟨tg,iter,ifs,0⟩] scope pos) (some (.Name y py)) spos.line X.env=pure true:=by rfl)
  (hf:X.fn y=true\/X.env.scope.names.lookup y=some .local:=by first|exact .inl rfl|exact .inr rfl|assumption)
  (hs:∀x,foldedSetIterable iter X.env x=pure x:=by intro _;rfl):PS X (.Assign [.Name y py] (.ListComp elt [⟨tg,iter,ifs,0⟩] scope pos) spos) (tAsg (Qdk wi ix g tc te) (gName i0)):=by
 intro pins s σ H DD I h;rw[exec_Assign_Name_used _ _ _ _ hsw];refine z00 (y35 (z00 ?_))
 show wpAny _ X.A (do
  let _ ← comprehension (.ListComp elt [⟨tg,iter,ifs,0⟩] scope pos) scope X.env _ (newList []) false (eval iter X.env) (some (assign (.Name y py) X.env))) _ _ s
 refine z00 (thn (Q:=fun _ s'=>SP X pins DD .next s') ?_ fun _ s' hq=>z04 (z04 hq));refine Qb0 hc B hg ht he hs I (fun R r=>hi pins s σ H R I r) h fun{s4 H3 D C ys m} hn all c1 c2 c3 c4 c5 qn _=>?_;show wpAny _ X.A (assign (.Name y py) X.env (.ref D)) _ _ s4;refine wpAny_assign_Name (store_ok2 (all s4.heap (zy9 _ _)) hXN hi0 hy (show RelV (.ref D) (.ref D) from rfl) (fun s5 I5 hz=>?_) hf);obtain⟨a,sb,ha⟩:=hz;refine⟨m,hn.sameBut sb fun z=>?_,fun h' sb'=>⟨_,_,I5.turned (t':=s5.toks) (it:=C) (fun b o hb e=>(sb'.2 b hb).trans e) c5 c1 (.inr c4) c2 c3,qn⟩⟩;rcases ha with q|q
 ·exact c1 (z.trans q)
 ·exact c2 y a q z.symm
theorem Qhi{ix:List @17}{g:TG}
  (hc:X.calm=true) (B:Blk X scope N ix) (hi:PI X tg iter wi) (hg:∀pins C s H ex,PG (X.blk scope N pins C s H ex) tg g)
  (ht:∀pins C s H ex,PIf (X.blk scope N pins C s H ex) ifs tc) (he:∀pins C s H ex,PE (X.blk scope N pins C s H ex) elt te)
  (hs:∀x,foldedSetIterable iter X.env x=pure x:=by intro _;rfl):PE X (.ListComp elt [⟨tg,iter,ifs,0⟩] scope pos) (Qdk wi ix g tc te):=by
 intro pins s σ H Q I h;rw[eval_ListComp];exact Qb0 hc B hg ht he hs I (fun R r=>hi pins s σ H R I r) h fun{s4 H3 D C ys m} hn all _ _ _ _ _ q _=>⟨m,hn,fun h' sb=>⟨.ref D,upd H3 D (.lst ys),all h' sb,rfl,q⟩⟩
section
variable {σ:St}{H:Hp}{h':Heap}
theorem Inv.QeR {t':Nat}(I:Inv X pins σ H s)(k:∀b o,b∉ch->s.heap.get? b=some o->h'.get? b=some o)(f:∀b∈ch,FpOk X pins H b):Inv X pins σ H { s with heap:=h',toks:=t' }:=by
 have nit:∀b u,H b=some u->b∉ch:=fun b u e z=>by rw[(f b z).1] at e;cases e
 refine I.step (g':=s.gens) (d':=s.drawn) (ch:=ch) (fun b hb=>?_) (fun b o _ _ hc e _=>k b o hc e) (fun b o _ _ hc e _=>⟨o.slots,k b o hc e⟩) (fun _ _ _ _ n=>n)
  (fun b o hc e=>⟨o,k b o hc e⟩) (fun _ _ e=>e) (fun _ _ _ e=>e) (fun b ps e=>⟨#[],by rw[e];simp⟩) (fun m hm=>?_) (fun b u e=>?_) I.bare
 ·obtain⟨f0,f1,f2,f3,f4,f5⟩:=f b hb;exact⟨f3,f1,f4,f5⟩
 ·obtain⟨o,es,ep,ho,r⟩:=hm;exact⟨o,es,ep,k _ o (fun z=>(f _ z).2.1 rfl) ho,r⟩
 ·refine(I.hok b u e).stay (fun c v hc q=>k c v ?_ q) (fun _ q=>q) fun _ _ q=>q;rcases hc with z|z
  ·rw[z];exact nit b u e
  ·exact nit c _ z
theorem Inv.QkZ {t':Nat}{o:HO}(I:Inv X pins σ H s)(k:∀b o,b∉ch->s.heap.get? b=some o->h'.get? b=some o)(f:∀b∈ch,FpOk X pins H b)(hp:s.heap.objs.size<=a)(new:ObjOk X.prog X.w (upd H a o) h' a o):Inv X pins σ (upd H a o) { s with heap:=h',toks:=t' }:=by
 have nit:∀b u,H b=some u->b∉ch:=fun b u e z=>by rw[(f b z).1] at e;cases e
 have hn:H a=none:=I.hok.fresh hp;have na:∀b u,H b=some u->b≠a:=fun b u e z=>by rw[z,hn] at e;cases e
 refine I.step (g':=s.gens) (d':=s.drawn) (ch:=ch) (fun b hb=>?_) (fun b o _ _ hc e _=>k b o hc e) (fun b o _ _ hc e _=>⟨o.slots,k b o hc e⟩) (fun b o _ e n=>?_)
  (fun b o hc e=>⟨o,k b o hc e⟩) (fun b xs e=>?_) (fun b o u e=>?_) (fun b ps e=>⟨#[],?_⟩) (fun m hm=>?_) (fun b u e=>?_) I.bare
 ·obtain⟨f0,f1,f2,f3,f4,f5⟩:=f b hb;exact⟨f3,f1,f4,f5⟩
 ·rw[upd_ne (z45 (z46 (z34 e) hp))];exact n
 ·rw[upd_ne (na _ _ e)];exact e
 ·rw[upd_ne (na _ _ e)];exact e
 ·rw[upd_ne (na _ _ e),e];simp
 ·obtain⟨o,es,ep,ho,r⟩:=hm;exact⟨o,es,ep,k _ o (fun z=>(f _ z).2.1 rfl) ho,r⟩
 ·by_cases z:b=a
  ·subst z;rw[upd_same] at e;cases e
   exact new
  ·rw[upd_ne z] at e;refine(I.hok b u e).stay (fun c v hc q=>k c v ?_ q) (fun _ q=>?_) fun _ _ q=>?_
   ·rcases hc with z|z
    ·rw[z];exact nit b u e
    ·exact nit c _ z
   ·first|exact q|(rw[upd_ne (na _ _ q)];exact q)
   ·first|exact q|(rw[upd_ne (na _ _ q)];exact q)
end
section
def Ite (K:z02)(a:Addr):It:=
 ⟨fun i H=>∃xs x,SqL K H a xs/\xs[i]? = some x,fun i H v H'=>∃T x,H T=none/\v=.ref T/\H'=upd H T (.tup [.int (i:Nat),x])/\∀xs,SqL K H a xs->xs[i]? = some x,fun i H=>∃xs,SqL K H a xs/\xs.length<=i⟩
theorem QeS{tp:Pos}(a e it:Addr)(hne:e≠it):Turn P w K (.Tuple es k tp) (Ite K a) [e,it] e (fun i h=>(∃old,IsEnum h e it ((i:Nat):Int) old)/\h.IsListIter it a i) where
 mem:=by simp
 obj:=fun i h st b hb=>by
  obtain⟨⟨old,he⟩,o,ho,c,d⟩:=st;rcases z21.mp hb with rfl|hb
  ·exact⟨_,he,fun v z=>by cases z⟩
  ·have q:b=it:=by simpa using hb
   subst q;exact⟨o,ho,fun v z=>by rw[d] at z;cases z⟩
 keep:=fun i h h' st k=>by
  obtain⟨⟨old,he⟩,hit⟩:=st;exact⟨⟨old,k e @6 _ he⟩,hit.at fun o q=>k it @6 o q⟩
 item:=by
  intro X hP hw hK hc i pins s σ H E I hf st hg;subst hP hw hK;obtain⟨⟨old,he⟩,hit⟩:=st;obtain⟨xs,x,hq,hx⟩:=hg;obtain⟨its,rv,p,hz⟩:=I.list hq;obtain⟨u,hu,ru⟩:=rv.get hx;refine wpAny_pyNext_enum_item he hit p.isList (x:=u) (by simpa using hu) hne fun h1 heo hit1 ht1 hz1 hk1=>?_;refine⟨_,rfl,wpAny_letOwnedTupleGo_enum heo fun h2 he2 hs2=>?_⟩;have hel:e<s.heap.objs.size:=z34 he;have hT:H s.heap.objs.size=none:=I.hok.fresh (z15 _)
  have kk:∀b o,b∉[e,it]->s.heap.get? b=some o->h2.get? b=some o:=fun b o hb q=>by
   have nb:b≠e:=fun z=>hb (by simp[z]);have ni:b≠it:=fun z=>hb (by simp[z]);exact(hs2.2 b nb).trans (hk1 b o nb ni q)
  have gT:h2.get? s.heap.objs.size=some { cls:=.type "tuple",data:=.seq #[.int i s.toks,u]}:=(hs2.2 _ (zg4 hel)).trans ht1
  -- the heap ahead of the tuple
  have I1:Inv X pins σ (upd H s.heap.objs.size (.tup [.int (i:Nat),x])) { s with heap:=h2,toks:=s.toks+1 }:=I.QkZ kk hf (z15 _) ⟨by show 2<=z24;decide,[.int i s.toks,u],.cons ⟨_,rfl⟩ (.cons ru .nil),⟨_,gT,rfl,_,rfl⟩⟩;refine⟨.ref s.heap.objs.size,_,I1,rfl,⟨s.heap.objs.size,x,hT,rfl,rfl,fun ys hy=>by rw[I.list_inj hy hq];exact hx⟩,⟨⟨u,?_⟩,hit1.extBut hs2.extBut (zh9 hne)⟩,fun b hb=>?_⟩
  ·have:((i+1:Nat):Int)=(i:Int)+1:=by push_cast;rfl
   rw[this];exact he2
  ·have nb:b≠s.heap.objs.size:=by
    rcases z21.mp hb with rfl|hb
    ·exact z45 hel
    ·have q:b=it:=by simpa using hb
     subst q;obtain⟨o,ho,_⟩:=hit;exact z45 (z34 ho)
   rw[upd_ne nb];exact(hf b hb).1
 done:=by
  intro X hP hw hK hc i pins s σ H E I hf st hg;subst hP hw hK;obtain⟨⟨old,he⟩,hit⟩:=st;obtain⟨xs,hq,hx⟩:=hg;obtain⟨its,rv,p,hz⟩:=I.list hq;have hl:=rv.length;exact wpAny_pyNext_enum_end (I.ok.hd hc) he hit p.isList (by simp;lia) fun h' eb=>⟨rfl,I.QeR (ch:=[e,it]) (t':=s.toks) (fun b o hb q=>eb b o (fun z=>hb (by simp[z])) q) hf⟩
 self:=fun _ _ _ _ _ st h=>let ⟨_,he⟩:=st.1;wpAny_pyIter_enum he h
def Qne (K:z02)(ta:TA):TI:=fun σ H R=>ta σ H fun vs H1=>∃a,vs=[.ref a]/\(∃xs,SqL K H1 a xs)/\R (Ite K a) H1
theorem QeT:z90 "enumerate" = some (.type "enumerate"):=by decide +kernel
theorem Qi4{tp:Pos}{e:Expr}{ta:TA}{p:Pos}(hg:Gl X "enumerate")(hm:X.mg "enumerate" = none)(ha:PA X [e] ta)(hs:starEach [e] X.env=@16::starEach [] X.env:=by rfl)
  (hpl:(backTo pos (starEach [] X.env)).any (·.1)=false:=by rfl):PI X (.Tuple es k tp) (.Call (.Name "enumerate" p) [e] [] pos) (Qne X.K ta):=by
 intro pins s σ H R I h;refine zn9 (ld_blt I hg hm QeT ?_ @2 @2);refine zb7 (thn (ha pos pins s σ H _ I h) fun us s1 ⟨vs,H1,I1,r1,a,e1,⟨xs,hq⟩,q⟩=>?_) hs hpl;subst e1;obtain⟨u,rfl,ru⟩:=vals1 r1;cases ru
 obtain⟨its,rv,pl,hz⟩:=I1.list hq;refine call_enumerate_list pl.isList fun h' he hit hsz kp=>wpAny_pyIter_enum he ?_;have I2:Inv X pins σ H1 { s1 with heap:=h' }:=I1.kept (t':=s1.toks) kp;refine⟨s1.heap.objs.size+1,[s1.heap.objs.size+1,s1.heap.objs.size],_,Ite X.K a,H1,rfl,I2,QeS a _ _ (Nat.succ_ne_self _),⟨⟨_,he⟩,hit⟩,fun b hb=>?_,q⟩
 have hb':s1.heap.objs.size<=b:=by
  rcases z21.mp hb with rfl|hb
  ·exact zm0 _
  ·have z:b=s1.heap.objs.size:=by simpa using hb
   rw[z];exact z15 _
 have f:=I1.fpOk (H':=H1) hb' (I1.hok.fresh hb');exact f
end
section
variable {prog:Program}
theorem Qep {it tp:Addr}{j:Nat}{y:Value}(jt:s.heap.IsTupleIter it tp j)(jl:s.heap.IsTuple tp ys)(jx:ys[j]? = some y)
  (K:∀h2,h2.IsTupleIter it tp (j+1)->zd3 it s.heap h2->Q y { s with heap:=h2 }):wpAny @1 A (za4 (.ref it)) Q E s:=by
 obtain⟨oi,hi,ci,di⟩:=id jt;obtain⟨ot,htp,_,nt,dt⟩:=jl;unfold za4;refine z00 (z83 (name:=zg2 "__next__") jt.typeIs zh3 (z61 zh3 jt.typeIs zz8 ?_ (zz0 _)))
 show wpAny _ _ (field (.ref it) 0 >>= _) _ _ s;refine z00 (zb5 hi di (x:=.ref tp) rfl ?_);show wpAny _ _ (if(z30 tp == z40)=true then _ else _) _ _ s;rw[if_neg (show ¬ ((z30 tp == z40)=true) from z19)];show wpAny _ _ (field (.ref it) 1 >>= _) _ _ s;refine z00 (zb5 hi di (x:=.int j 0) rfl ?_);show wpAny _ _ (seqItems? (.ref tp) >>= _) _ _ s;refine z00 (za8 htp dt ?_);simp only[z66,jx];refine z00 (zt4 hi di @6 (z04 ⟨y,rfl,z04 (K _ ?_ (z78 ..))⟩));exact⟨_,za2 _ hi (Obj.isFreed_of_fields (y51 di _)),(Obj.cls_mapFields ..).trans ci,by rw[y51 di];simp[rawInt]⟩
theorem QeU {it tp:Addr}{j:Nat}(hh:A.handled=none)(jt:s.heap.IsTupleIter it tp j)(jl:s.heap.IsTuple tp ys)(jx:ys[j]? = none)
  (K:∀h2 x,Heap.ExtBut it s.heap h2->(∃o,h2.get? x=some o/\o.cls=.type "StopIteration")->E (.ref x) { s with heap:=h2 }):wpAny @1 A (za4 (.ref it)) Q E s:=by
 obtain⟨oi,hi,ci,di⟩:=id jt;obtain⟨ot,htp,_,nt,dt⟩:=jl;unfold za4;refine z00 (z83 (name:=zg2 "__next__") jt.typeIs zh3 (z61 zh3 jt.typeIs zz8 ?_ (zz0 _)))
 show wpAny _ _ (field (.ref it) 0 >>= _) _ _ s;refine z00 (zb5 hi di (x:=.ref tp) rfl ?_);show wpAny _ _ (if(z30 tp == z40)=true then _ else _) _ _ s;rw[if_neg (show ¬ ((z30 tp == z40)=true) from z19)];show wpAny _ _ (field (.ref it) 1 >>= _) _ _ s;refine z00 (zb5 hi di (x:=.int j 0) rfl ?_);show wpAny _ _ (seqItems? (.ref tp) >>= _) _ _ s;refine z00 (za8 htp dt ?_);simp only[z66,jx];refine z00 (zk7 (z00 (zt4 hi di @6 ?_)));show wpAny _ _ (newExc (.type "StopIteration") [] >>= _) _ _ _
 refine z00 ?_;simp only[newExc,newTuple];refine z00 (z69 ?_ (by size_fits));refine z00 (m:=firstArgMember _ _) (zp9 (a:=z40) (by first|rfl|(simp only[firstArgMember];rfl)) ?_);refine z69 ?_ (by size_fits);simp only[raiseNew];refine z00 (y36 ?_)
 first|rw[show A.in1.handled=none from hh]|rw[hh]
 refine z00 (z04 (wpAny_throw ?_));exact K _ _ (((z78 ..).extBut.push _).push _) ⟨_,z29 _ rfl,rfl⟩
open AutoSeq1 (wpAny_loadPart') in
end
section
def Qk0 (a:Addr)(cv:Value)(dx:Option Addr:=none):HO:=.ext fun h=>∃o,h.get? a=some o/\o.cls=cv/\∀d,dx=some d->o.dict=some d/\PySem.W.notCls o=true
end
section
theorem boot_set:z90 "set" = some (.type "set"):=by decide +kernel
end
end L2
namespace L2
open PySem PySem.Spec PyProof.Rows
def Qoe (d:Addr)(fs:List (Str×V)):HO:=.ext fun h=>∃mA,h.Ns1 d mA/\(∀f,RelO (fs.lookup f) (mA f))/\PySem.Within mA (fs.map (·.1))
end L2
namespace L2.Srt
open PySem PySem.W PyProof.Rows
structure Ord (n:Nat)(lt:Nat->Nat->Bool):Prop where
 ir:∀i,lt i i=false
 tr:∀i j k,lt i j=true->lt j k=true->lt i k=true
 to:∀i j,i<n->j<n->i≠j->lt i j=false->lt j i=true
end L2.Srt
namespace L2.Srt
open PySem PyProof.Rows
variable {J:Shared->Prop}{M:Model}{A:Around}{E:Value->Shared->Prop}{st:SortSt}{Q:Unit->SortSt->Prop}{f:Nat->Option @17×Nat×Nat->StateT SortSt Sem (ForInStep (Option @17×Nat×Nat))}{x key y:Keyed}{a b out:Array Keyed}{i n j k:Nat}{κ:SortKind}{U:Keyed->Prop}{L L':Keyed->Keyed->Bool}{T P l pre X S:List Keyed}{left:Bool}
def Qi5:Bool->Keyed->Array Keyed->Nat->Nat->Nat->StateT SortSt Sem @17:=sortPriv% PySem.Builtin.gallop
def Qhj:Array Keyed->Array Keyed->StateT SortSt Sem (Array Keyed):=sortPriv% PySem.Builtin.mergeLo
def Qhk:Array Keyed->Array Keyed->StateT SortSt Sem (Array Keyed):=sortPriv% PySem.Builtin.mergeHi
section
variable {α β:Type}
def wpT (J:Shared->Prop)(M:Model)(A:Around)(E:Value->Shared->Prop){α:Type}(m:StateT SortSt Sem α)(Q:α->SortSt->Prop)(st:SortSt):Prop:=
 ∀s,J s->wpAny M A (m st) (fun r s'=>J s'/\Q r.1 r.2) E s
theorem Qb1 {m:StateT SortSt Sem α}{Q:α->SortSt->Prop}(h:wpT J M A E m Q st){s:Shared}(hs:J s):wpAny M A (m st) (fun r s'=>J s'/\Q r.1 r.2) E s:=h s hs
theorem Qc {a:α}{Q:α->SortSt->Prop}(h:Q a st):wpT J M A E (pure a:StateT SortSt Sem α) Q st:=fun s hs=>z04 ⟨hs,h⟩
theorem Qa {m:StateT SortSt Sem α}{f:α->StateT SortSt Sem β}{Q:β->SortSt->Prop}(h:wpT J M A E m (fun a st'=>wpT J M A E (f a) Q st') st):wpT J M A E (m >>= f) Q st:=fun s hs=>
 z00 (zb4 (h s hs) (fun r s' h'=>h'.2 s' h'.1) fun _ _ e=>e)
theorem Qq {m:StateT SortSt Sem α}{Q Q':α->SortSt->Prop}(h:wpT J M A E m Q st)(k:∀a st',Q a st'->Q' a st'):wpT J M A E m Q' st:=fun s hs=>
 zb4 (h s hs) (fun r _ h'=>⟨h'.1,k _ _ h'.2⟩) fun _ _ e=>e
theorem Q6 {Q:SortSt->SortSt->Prop}(h:Q st st):wpT J M A E (get:StateT SortSt Sem SortSt) Q st:=fun s hs=>z04 ⟨hs,h⟩
theorem Qi6 {st':SortSt}{Q:PUnit->SortSt->Prop}(h:Q ⟨⟩ st'):wpT J M A E (set st':StateT SortSt Sem PUnit) Q st:=fun s hs=>z04 ⟨hs,h⟩
theorem QD {f:SortSt->SortSt}{Q:PUnit->SortSt->Prop}(h:Q ⟨⟩ (f st)):wpT J M A E (modify f:StateT SortSt Sem PUnit) Q st:=fun s hs=>z04 ⟨hs,h⟩
theorem Yu {x:String}(h:Q () st):wpT J M A E (liftM (rule x):StateT SortSt Sem Unit) Q st:=fun s hs=>by
 show wpAny M A (rule x >>= fun a=>pure (a,st)) _ E s;exact z00 (zk7 (z04 ⟨hs,h⟩))
theorem Qh {c:Prop}[Decidable c]{m u:StateT SortSt Sem α}{Q:α->SortSt->Prop}(h1:c->wpT J M A E m Q st)(h2:¬c->wpT J M A E u Q st):wpT J M A E (if c then m else u) Q st:=by
 by_cases h:c
 ·rw[if_pos h];exact h1 h
 ·rw[if_neg h];exact h2 h
theorem Qdl (f:Nat->β->StateT SortSt Sem (ForInStep β))(I:Nat->β->SortSt->Prop)(Q:β->SortSt->Prop)(b0:Nat)
  (step:∀i c st,i<b0->I i c st->wpT J M A E (f i c) (fun r st'=>match r with|.done c'=>Q c' st'|.yield c'=>I (i+1) c' st') st) (fin:∀c st,I b0 c st->Q c st) :
  ∀(n i:Nat) (c:β) (st:SortSt),i+n=b0->I i c st->wpT J M A E (forIn (y33 i n 1) c f) Q st:=fun n=>by
 induction n with
 |zero=>intro i c st e h;have:i=b0:=e;subst this;rw[List.range'_zero,zy7];exact Qc (fin _ _ h)
 |succ n ih=>
  intro i c st e h;rw[List.range'_succ,zp6];refine Qa (Qq (step i c st @0 h) fun r st' h'=>?_)
  cases r with
  |done c'=>exact Qc h'
  |yield c'=>exact ih (i+1) c' st' @0 h'
theorem QW {b0:Nat}{f:Nat->β->StateT SortSt Sem (ForInStep β)}(I:Nat->β->SortSt->Prop){Q:β->SortSt->Prop}
  (step:∀i c st,i<b0->I i c st->wpT J M A E (f i c) (fun r st'=>match r with|.done c'=>Q c' st'|.yield c'=>I (i+1) c' st') st)
  (fin:∀c st,I b0 c st->Q c st) {c:β} (h:I 0 c st):wpT J M A E (forIn [:b0] c f) Q st:=by
 rw[zl9];have hsz:([:b0]:zm1).size=b0:=by simp[zs3]
 show wpT J M A E (forIn (y33 0 ([:b0]:zm1).size 1) c f) Q st;rw[hsz];exact Qdl f I Q b0 step fin b0 0 c st @0 h
theorem Qba {a b0:Nat}(hab:a<=b0){f:Nat->β->StateT SortSt Sem (ForInStep β)}(I:Nat->β->SortSt->Prop){Q:β->SortSt->Prop}
  (step:∀i c st,a<=i->i<b0->I i c st->wpT J M A E (f i c) (fun r st'=>match r with|.done c'=>Q c' st'|.yield c'=>I (i+1) c' st') st)
  (fin:∀c st,I b0 c st->Q c st) {c:β} (h:I a c st):wpT J M A E (forIn [a:b0] c f) Q st:=by
 rw[zl9];have hsz:([a:b0]:zm1).size=b0 - a:=by simp[zs3]
 show wpT J M A E (forIn (y33 a ([a:b0]:zm1).size 1) c f) Q st;rw[hsz];refine Qdl f (fun i c st=>a<=i/\I i c st) Q b0 (fun i c st hi h=>Qq (step i c st h.1 hi h.2) fun r st' h'=>?_) (fun c st h=>fin c st h.2) (b0 - a) a c st @0 ⟨z15 _,h⟩
 cases r with
 |done c'=>exact h'
 |yield c'=>exact⟨by lia,h'⟩
end
structure Od (U:Keyed->Prop)(L:Keyed->Keyed->Bool):Prop where
 tr:∀x y z,L x y=true->L y z=true->L x z=true
 ir:∀x,L x x=false
 to:∀x y,U x->U y->x≠y->L x y=false->L y x=true
abbrev Sd (L:Keyed->Keyed->Bool)(l:List Keyed):Prop:=l.Pairwise fun x y=>L x y=true
abbrev H (a:Array Keyed)(i:Nat):Keyed:=a.getD i (z40,z40)
theorem Qeq(h:i<a.size):a[i]? = some (H a i):=by
 rw[H,z32,z20 h];rfl
def Ask (J:Shared->Prop)(M:Model)(A:Around)(E:Value->Shared->Prop)(κ:SortKind)(U:Keyed->Prop)(L:Keyed->Keyed->Bool):Prop:=
 ∀x y st (Q:Option Bool->SortSt->Prop),kindOf st=κ->U x->U y->Q (some (L x y)) st->wpT J M A E (lt' x y) Q st
section
theorem Qj{Q:Keyed->SortSt->Prop}(h:i<a.size)(q:Q (H a i) st):wpT J M A E (elem' a i) Q st:=by
 rw[elem'_eq,Qeq h];exact Qc q
structure Mg (L:Keyed->Keyed->Bool)(T O A1 B1:List Keyed):Prop where
 pm:(O++(A1++B1)).Perm T
 so:Sd L O
 oa:∀x∈O,∀y∈A1,L x y=true
 ob:∀x∈O,∀y∈B1,L x y=true
 sa:Sd L A1
 sb:Sd L B1
variable {O A1 A2 B1 B2:List Keyed}
theorem Mg.mvA (m:Mg L T O (P++A2) B1)(h:∀x∈P,∀y∈B1,L x y=true):Mg L T (O++P) A2 B1:=by
 obtain⟨s1,s2,s3⟩:=z42.mp m.sa;refine⟨?_,z42.mpr ⟨m.so,s1,fun x hx y hy=>m.oa x hx y (z13 _ hy)⟩,fun x hx y hy=>?_,fun x hx y hy=>?_,s2,m.sb⟩
 ·have:=m.pm;rw[z23] at this ⊢;exact this
 ·rcases z08.mp hx with hx|hx
  ·exact m.oa x hx y (z05 _ hy)
  ·exact s3 x hx y hy
 ·rcases z08.mp hx with hx|hx
  ·exact m.ob x hx y hy
  ·exact h x hx y hy
theorem Mg.mvB (m:Mg L T O A1 (P++B2))(h:∀x∈P,∀y∈A1,L x y=true):Mg L T (O++P) A1 B2:=by
 obtain⟨s1,s2,s3⟩:=z42.mp m.sb;refine⟨?_,z42.mpr ⟨m.so,s1,fun x hx y hy=>m.ob x hx y (z13 _ hy)⟩,fun x hx y hy=>?_,fun x hx y hy=>?_,m.sa,s2⟩
 ·refine zn5 ?_ m.pm;rw[z23];refine zf1 O ?_;rw[← z23,← z23];exact List.Perm.append_right _ zf8
 ·rcases z08.mp hx with hx|hx
  ·exact m.oa x hx y hy
  ·exact h x hx y hy
 ·rcases z08.mp hx with hx|hx
  ·exact m.ob x hx y (z05 _ hy)
  ·exact s3 x hx y hy
theorem Mg.Qof (m:Mg L T O A1 []):(O++A1).Perm T/\Sd L (O++A1):=by
 refine⟨?_,z42.mpr ⟨m.so,m.sa,m.oa⟩⟩;have:=m.pm;rw[z50] at this;exact this
theorem Mg.Qog (m:Mg L T O [] B1):(O++B1).Perm T/\Sd L (O++B1):=⟨m.pm,z42.mpr ⟨m.so,m.sb,m.ob⟩⟩
theorem Mg.Qoh (m:Mg L T O [x] B1)(h:∀y∈B1,L y x=true):(O++B1++[x]).Perm T/\Sd L (O++B1++[x]):=by
 refine⟨?_,?_⟩
 ·refine zn5 ?_ m.pm;rw[z23];exact zf1 O zf8
 ·rw[z23]
  exact z42.mpr ⟨m.so,z42.mpr ⟨m.sb,z59.mpr ⟨@5,.nil⟩,fun y hy z hz=>by rw[z16.mp hz];exact h y hy⟩,fun y hy z hz=>by
   rcases z08.mp hz with hz|hz
   ·exact m.ob y hy z hz
   ·exact m.oa y hy z hz⟩
def bey (L:Keyed->Keyed->Bool)(left:Bool)(key:Keyed)(a:Array Keyed)(b i:Nat):Bool:=if left=true then L (H a (b+i)) key else !(L key (H a (b+i)))
theorem Qdm{g:Nat->Bool}(mono:∀i j,i<=j->j<n->g j=true->g i=true)
  (hf:∀x lo hi (R:ForInStep (Option @17×Nat×Nat)->SortSt->Prop),lo<hi->hi<=n->R (if g (lo+(hi - lo) / 2)=true then .yield (none,lo+(hi - lo) / 2+1,hi) else .yield (none,lo,lo+(hi - lo) / 2)) st->wpT J M A E (f x (none,lo,hi)) R st)
  (hf2:∀x lo hi (R:ForInStep (Option @17×Nat×Nat)->SortSt->Prop),lo ≥ hi->R (.done (none,lo,hi)) st->wpT J M A E (f x (none,lo,hi)) R st)
  {lo hi:Nat} (h1:lo<=hi) (h2:hi<=n) (h3:∀i<lo,g i=true) (h4:∀i,hi<=i->i<n->g i=false) :
  wpT J M A E (forIn [:n] (none,lo,hi) f) (fun c st'=>∃k,c=(none,k,k)/\st'=st/\k<=n/\(∀i<k,g i=true)/\(∀i,k<=i->i<n->g i=false)) st:=by
 refine QW (I:=fun x c st'=>∃lo hi,c=(none,lo,hi)/\st'=st/\lo<=hi/\hi<=n/\hi - lo<=n - x/\(∀i<lo,g i=true)/\(∀i,hi<=i->i<n->g i=false)) ?_ ?_ ⟨lo,hi,rfl,rfl,h1,h2,by lia,h3,h4⟩
 ·rintro x c st' hx ⟨lo,hi,rfl,rfl,g1,g2,g3,g4,g5⟩
  by_cases c:lo ≥ hi
  ·have:lo=hi:=by lia
   subst this;exact hf2 x lo lo _ c ⟨lo,rfl,rfl,g2,g4,g5⟩
  ·refine hf x lo hi _ @0 g2 ?_
   cases e:g (lo+(hi - lo) / 2) with
   |true=>exact⟨_,hi,rfl,rfl,by lia,g2,by lia,fun i hi'=>mono i _ @0 @0 e,g5⟩
   |false=>
    refine⟨lo,_,rfl,rfl,by lia,by lia,by lia,g4,fun i i1 i2=>?_⟩
    cases e2:g i with
    |false=>rfl
    |true=>rw[mono _ i i1 i2 e2] at e;cases e
 ·rintro c st' ⟨lo,hi,rfl,rfl,g1,g2,g3,g4,g5⟩;have:lo=hi:=by lia
  subst this;exact⟨lo,rfl,rfl,g2,g4,g5⟩
theorem QR (ask:Ask J M A E κ U L){b h:Nat}{Q:Option Nat->SortSt->Prop}(hk:kindOf st=κ)(uk:U key)(ua:∀i<n,U (H a (b+i)))(hn:h<n)(hb:b+n<=a.size)
  (mono:∀i j,i<=j->j<n->bey L left key a b j=true->bey L left key a b i=true)
  (K:∀k,k<=n->(∀i<k,bey L left key a b i=true)->(∀i,k<=i->i<n->bey L left key a b i=false)->Q (some k) st):wpT J M A E (Qi5 left key a b n h) Q st:=by
 intro s hs
 wp_delta
 wp_delta
 refine Qb1 ?_ hs
 have by_:∀{i:Nat} {R:Option Bool->SortSt->Prop},i<n->R (some (bey L left key a b i)) st->wpT J M A E (do
   let x ← elem' a (b+i)
   if left=true then lt' x key else do
    let r ← lt' key x
    pure (zs4 (fun x=>!x) r)) R st:=fun{i R} hi r=>by
  refine Qa (Qj @0 ?_);unfold bey at r
  cases left with
  |true=>rw[if_pos rfl];exact ask _ _ _ _ hk (ua i hi) uk r
  |false=>rw[if_neg @2];exact Qa (ask _ _ _ _ hk uk (ua i hi) (Qc r))
 refine Qa (by_ hn ?_);dsimp only
 cases e0:bey L left key a b h with
 |true=>
  rw[if_pos rfl]
  refine Qa (Qq (QW (I:=fun x c st'=>∃lf f,c=(none,lf,f)/\st'=st/\lf<f/\x+1<=f/\h+lf<n/\bey L left key a b (h+lf)=true)
   (Q:=fun c st'=>∃lf f,c=(none,lf,f)/\st'=st/\lf<f/\h+lf<n/\bey L left key a b (h+lf)=true/\(n - h<=f\/bey L left key a b (h+f)=false)) ?_ ?_ ⟨0,1,rfl,rfl,by lia,by lia,by lia,e0⟩) ?_)
  ·rintro x c st' hx ⟨lf,f,rfl,rfl,g1,g2,g3,g4⟩;dsimp only;refine Qh (fun c=>Qc ⟨lf,f,rfl,rfl,g1,g3,g4,.inl c⟩) @24;refine Qa (by_ (i:=h+f) @0 ?_)
   cases e:bey L left key a b (h+f) with
   |true=>exact Qc ⟨f,_,rfl,rfl,by lia,by lia,by lia,e⟩
   |false=>exact Qc ⟨lf,f,rfl,rfl,g1,g3,g4,.inr e⟩
  ·rintro c st' ⟨lf,f,rfl,rfl,g1,g2,g3,g4⟩;exact⟨lf,f,rfl,rfl,g1,g3,g4,.inl @0⟩
  ·rintro c st' ⟨lf,f,rfl,rfl,g1,g3,g4,g5⟩
   refine Qa (Qq (Qdm (g:=bey L left key a b) mono (fun x lo hi R l1 l2 r=>by
     dsimp only;rw[if_neg @0];refine Qa (by_ @0 ?_)
     cases e:bey L left key a b (lo+(hi - lo) / 2) with
     |true=>rw[e,if_pos rfl] at r;exact Qc r
     |false=>rw[e,if_neg @2] at r;exact Qc r) (fun x lo hi R l1 r=>by
     dsimp only
     rw[if_pos l1];exact Qc r) (lo:=h+lf+1) (hi:=h+min f (n - h)) @0 @0 (fun i hi=>mono i (h+lf) @0 g3 g4) (fun i i1 i2=>?_)) fun c st' q=>by
    obtain⟨k,rfl,rfl,g1,g2,g3⟩:=q
    exact Qc (K k g1 g2 g3))
   rcases g5 with g5|g5
   ·lia
   ·cases e2:bey L left key a b i with
    |false=>rfl
    |true=>rw[mono (h+f) i @0 i2 e2] at g5;cases g5
 |false=>
  rw[if_neg @2]
  refine Qa (Qq (QW (I:=fun x c st'=>∃lf f,c=(none,lf,f)/\st'=st/\lf<f/\x+1<=f/\lf<=h/\bey L left key a b (h - lf)=false)
   (Q:=fun c st'=>∃lf f,c=(none,lf,f)/\st'=st/\lf<f/\lf<=h/\bey L left key a b (h - lf)=false/\(h+1<=f\/(f<=h/\bey L left key a b (h - f)=true))) ?_ ?_ ⟨0,1,rfl,rfl,by lia,by lia,by lia,e0⟩) ?_)
  ·rintro x c st' hx ⟨lf,f,rfl,rfl,g1,g2,g3,g4⟩;dsimp only;refine Qh (fun c=>Qc ⟨lf,f,rfl,rfl,g1,g3,g4,.inl c⟩) @24;refine Qa (by_ (i:=h - f) @0 ?_)
   cases e:bey L left key a b (h - f) with
   |true=>exact Qc ⟨lf,f,rfl,rfl,g1,g3,g4,.inr ⟨by lia,e⟩⟩
   |false=>exact Qc ⟨f,_,rfl,rfl,by lia,by lia,by lia,e⟩
  ·rintro c st' ⟨lf,f,rfl,rfl,g1,g2,g3,g4⟩;exact⟨lf,f,rfl,rfl,g1,g3,g4,.inl @0⟩
  ·rintro c st' ⟨lf,f,rfl,rfl,g1,g3,g4,g5⟩
   refine Qa (Qq (Qdm (g:=bey L left key a b) mono (fun x lo hi R l1 l2 r=>by
     dsimp only;rw[if_neg @0];refine Qa (by_ @0 ?_)
     cases e:bey L left key a b (lo+(hi - lo) / 2) with
     |true=>rw[e,if_pos rfl] at r;exact Qc r
     |false=>rw[e,if_neg @2] at r;exact Qc r) (fun x lo hi R l1 r=>by
     dsimp only
     rw[if_pos l1];exact Qc r) (lo:=h+1 - min f (h+1)) (hi:=h - lf) @0 @0 (fun i hi=>?_) (fun i i1 i2=>?_)) fun c st' q=>by
    obtain⟨k,rfl,rfl,g1,g2,g3⟩:=q
    exact Qc (K k g1 g2 g3))
   ·rcases g5 with g5|⟨g5,g6⟩
    ·lia
    ·exact mono i (h - f) @0 @0 g6
   ·cases e2:bey L left key a b i with
    |false=>rfl
    |true=>rw[mono (h - lf) i i1 i2 e2] at g4;cases g4
end
def Qnf:Nat->StateT SortSt Sem Unit:=sortPriv% PySem.Builtin.setMinGallop
structure Ev (st st':SortSt):Prop where
 k:kindOf st'=kindOf st
 a:arrOf st'=arrOf st
 p:pendingOf st'=pendingOf st
 f:failedOf st'=failedOf st
theorem Ev.refl (st:SortSt):Ev st st:=⟨rfl,rfl,rfl,rfl⟩
theorem Ev.trans {s t u:SortSt}(h:Ev s t)(k:Ev t u):Ev s u:=⟨k.k.trans h.k,k.a.trans h.a,k.p.trans h.p,k.f.trans h.f⟩
section
theorem Qad {g:Nat}(h:∀st',Ev st st'->Q () st'):wpT J M A E (Qnf g) Q st:=by
 intro s hs
 wp_delta
 wp_delta
 exact z04 ⟨hs,h _ ⟨rfl,rfl,rfl,rfl⟩⟩
theorem Q7(h:i<a.size):H a i∈a.toList:=by
 have:=Qeq h;rw[← z18] at this;exact z38 this
theorem Qdn(h:i<a.size):a.toList.drop i=H a i::a.toList.drop (i+1):=by
 have e:=Qeq h;rw[z20 h] at e;rw[zb2 (by simpa using h),← z26 e];simp
theorem Qip (s:Sd L a.toList)(h:i<j)(hj:j<a.size):L (H a i) (H a j)=true:=by
 have e1:=Qeq (show i<a.size by lia);have e2:=Qeq hj;rw[z20 @0] at e1 e2;rw[← z26 e1,← z26 e2];have:=z84.mp s i j (by simpa using(show i<a.size by lia)) (by simpa using hj) h;simpa using this
theorem Yv(hy:y∈a.toList.drop i):∃j,i<=j/\j<a.size/\y=H a j:=by
 obtain⟨k,hk,e⟩:=zl6 hy;rw[List.getElem_drop] at e;have hl:i+k<a.size:=by rw[z93] at hk;simp at hk;lia
 refine⟨i+k,by lia,hl,?_⟩;have e1:=Qeq hl;rw[z20 hl] at e1;rw[← z26 e1,← e];simp
theorem VD (o:Od U L)(s:Sd L a.toList)(h:L x (H a i)=true):∀y∈a.toList.drop i,L x y=true:=fun y hy=>by
 obtain⟨j,h1,h2,rfl⟩:=Yv hy
 by_cases e:i=j
 ·subst e;exact h
 ·exact o.tr _ _ _ h (Qip s @0 h2)
theorem Qdo(h:i+k<=a.size):a.toList.drop i=(a.extract i (i+k)).toList++a.toList.drop (i+k):=by
 rw[z94,z71,← List.drop_drop,zc3,z33]
theorem Qbb:(a.extract i).toList=a.toList.drop i:=by
 rw[z94,z71,z86];rw[z93];simp
theorem QeV(h:i+k<=a.size)(hy:y∈(a.extract i (i+k)).toList):∃j,j<k/\y=H a (i+j):=by
 obtain⟨j,hj,e⟩:=zl6 hy;have hl:j<k:=by simp at hj;lia
 refine⟨j,hl,?_⟩;have e1:=Qeq (show i+j<a.size by lia);rw[z20 @0] at e1;rw[← z26 e1,← e];simp
theorem QeW (o:Od U L)(s:Sd L a.toList)(hn:i+n<=a.size):∀u v,u<=v->v<n->bey L false key a i v=true->bey L false key a i u=true:=fun u v h1 h2 h=>by
 unfold bey at h ⊢;rw[if_neg @2] at h ⊢
 by_cases e:u=v
 ·subst e;exact h
 ·cases c:L key (H a (i+u)) with
  |false=>rfl
  |true=>rw[o.tr _ _ _ c (Qip s (show i+u<i+v by lia) @0)] at h;cases h
theorem Qb2 (o:Od U L)(s:Sd L a.toList)(hn:i+n<=a.size):∀u v,u<=v->v<n->bey L true key a i v=true->bey L true key a i u=true:=fun u v h1 h2 h=>by
 unfold bey at h ⊢;rw[if_pos rfl] at h ⊢
 by_cases e:u=v
 ·subst e;exact h
 ·exact o.tr _ _ _ (Qip s (show i+u<i+v by lia) @0) h
variable {O:List Keyed}
structure Two (U:Keyed->Prop)(L:Keyed->Keyed->Bool)(a b:Array Keyed):Prop where
 sa:Sd L a.toList
 sb:Sd L b.toList
 ua:∀x∈a.toList,U x
 ub:∀x∈b.toList,U x
 ne:∀x∈a.toList,∀y∈b.toList,x≠y
theorem Mg.Qhl (o:Od U L)(t:Two U L a b)(m:Mg L T O (a.toList.drop i) (b.toList.drop j))(hj:j<b.size)(h:L (H b j) (H a i)=true):Mg L T (O++[H b j]) (a.toList.drop i) (b.toList.drop (j+1)):=by
 rw[Qdn hj] at m;exact Mg.mvB (P:=[H b j]) m fun x hx=>by rw[z16.mp hx];exact VD o t.sa h
theorem Mg.QeX (o:Od U L)(t:Two U L a b)(m:Mg L T O (a.toList.drop i) (b.toList.drop j))(hi:i<a.size)(h:L (H a i) (H b j)=true):Mg L T (O++[H a i]) (a.toList.drop (i+1)) (b.toList.drop j):=by
 rw[Qdn hi] at m;exact Mg.mvA (P:=[H a i]) m fun x hx=>by rw[z16.mp hx];exact VD o t.sb h
theorem Two.flip (o:Od U L)(t:Two U L a b)(hi:i<a.size)(hj:j<b.size)(h:L (H b j) (H a i)=false):L (H a i) (H b j)=true:=
 o.to _ _ (t.ub _ (Q7 hj)) (t.ua _ (Q7 hi)) (zh9 (t.ne _ (Q7 hi) _ (Q7 hj))) h
theorem Mg.QoK (o:Od U L)(t:Two U L a b)(m:Mg L T O (a.toList.drop i) (b.toList.drop j))(hj:j<b.size)(hk:i+k<=a.size)(h:∀u<k,bey L false (H b j) a i u=true):Mg L T (O++(a.extract i (i+k)).toList) (a.toList.drop (i+k)) (b.toList.drop j):=by
 rw[Qdo hk] at m;refine Mg.mvA m fun x hx=>?_;obtain⟨u,hu,rfl⟩:=QeV hk hx;have:=h u hu;unfold bey at this;rw[if_neg @2] at this;exact VD o t.sb (t.flip o @0 hj (by simpa using this))
theorem Mg.Qoi (o:Od U L)(t:Two U L a b)(m:Mg L T O (a.toList.drop i) (b.toList.drop j))(hk:j+k<=b.size)(h:∀u<k,bey L true (H a i) b j u=true):Mg L T (O++(b.extract j (j+k)).toList) (a.toList.drop i) (b.toList.drop (j+k)):=by
 rw[Qdo hk] at m;refine Mg.mvB m fun x hx=>?_;obtain⟨u,hu,rfl⟩:=QeV hk hx;have:=h u hu;unfold bey at this;rw[if_pos rfl] at this;exact VD o t.sa this
theorem Mg.len(m:Mg L @12 out.toList (a.toList.drop i) (b.toList.drop j))(hi:i<=a.size)(hj:j<=b.size):out.size+(a.size - i)+(b.size - j)=a.size+b.size:=by
 have:=m.pm.length_eq;rw[z10,z10,z10,z93,z93] at this;simp at this;lia
def Gd (L:Keyed->Keyed->Bool)(a b r:Array Keyed):Prop:=r.toList.Perm @12/\Sd L r.toList
theorem Mg.done(m:Mg L @12 out.toList (a.toList.drop i) (b.toList.drop j))(h:i=a.size\/j=b.size):Gd L a b (out++a.extract i++b.extract j):=by
 unfold Gd;rw[z62,z62,Qbb,Qbb];rcases h with rfl|rfl
 ·have e:a.toList.drop a.size=[]:=zj0 @6;rw[e] at m ⊢;rw[z50];exact m.Qog
 ·have e:b.toList.drop b.size=[]:=zj0 @6;rw[e] at m ⊢;rw[z50];exact m.Qof
theorem Mg.last(m:Mg L @12 out.toList (a.toList.drop i) (b.toList.drop j))(h:i+1=a.size)(hl:∀y∈b.toList,L y (H a (a.size - 1))=true):Gd L a b (out++b.extract j++a.extract i):=by
 unfold Gd;rw[z62,z62,Qbb,Qbb]
 have e:a.toList.drop i=[H a i]:=by
  rw[Qdn @0,h];rw[zj0 @6]
 rw[e] at m ⊢;refine m.Qoh fun y hy=>?_;have:=hl y (zg8 hy);rw[show a.size - 1=i by lia] at this;exact this
theorem Qiq {α β:Type}{c:Prop}[Decidable c]{B:β->StateT SortSt Sem α}{y:β}{p:β->Prop}{Q:α->SortSt->Prop}(h:∀v,wpT J M A E (B v) Q st):∀x,p x->wpT J M A E (if c then B x else B y) Q st:=fun x _=>Qh (fun _=>h x) (fun _=>h y)
theorem QcI (ask:Ask J M A E κ U L)(o:Od U L){Q:Array Keyed->SortSt->Prop}(hk:kindOf st=κ)(t:Two U L a b)(na:0<a.size)(nb:0<b.size)(hb:L (H b 0) (H a 0)=true)(hl:∀y∈b.toList,L y (H a (a.size - 1))=true)
  (K:∀r st',Ev st st'->Gd L a b r->Q r st'):wpT J M A E (Qhj a b) Q st:=by
 intro s hs
 wp_delta
 wp_delta
 refine Qb1 ?_ hs;refine Qa (Yu ?_);refine Qa (Qj nb ?_);have m0:Mg L @12 [] (a.toList.drop 0) (b.toList.drop 0):=⟨ze2 _,.nil,@5,@5,t.sa,t.sb⟩;have m1:Mg L @12 (#[H b 0]:Array Keyed).toList (a.toList.drop 0) (b.toList.drop 1):=m0.Qhl o t nb hb;refine Qh (fun c=>Qc (K _ _ (.refl _) (m1.done (.inr @19)))) (fun c1=>?_);refine Qh (fun c=>Qc (K _ _ (.refl _) (m1.last @19 hl))) (fun c2=>?_);have c1:¬ 1=b.size:=by simpa using c1
 have c2:¬ 0+1=a.size:=by simpa using c2
 refine Qa (Q6 ?_)
 refine Qa (Qq (QW (I:=fun x c st'=>∃out i j g,c=(none,out,i,j,g)/\Ev st st'/\i+1<a.size/\j<b.size/\x+1<=out.size/\Mg L @12 out.toList (a.toList.drop i) (b.toList.drop j))
  (Q:=fun c st'=>∃r w,c=(some r,w)/\Ev st st'/\Gd L a b r) ?_ ?_ ⟨_,0,1,_,rfl,.refl _,by lia,by lia,by simp,m1⟩) ?_)
 ·rintro x c st1 hx ⟨Y4,i,j,g,rfl,ev,hi,hj,hx1,m⟩;dsimp only
  refine Qa (Qq (QW (I:=fun y c st'=>∃out i j ac bc,c=(none,out,i,j,ac,bc)/\Ev st st'/\i+1<a.size/\j<b.size/\Y4.size<=out.size/\Mg L @12 out.toList (a.toList.drop i) (b.toList.drop j))
   (Q:=fun c st'=>(∃r w,c=(some r,w)/\Ev st st'/\Gd L a b r)\/∃out i j ac bc,c=(none,out,i,j,ac,bc)/\Ev st st'/\i+1<a.size/\j<b.size/\Y4.size<=out.size/\Mg L @12 out.toList (a.toList.drop i) (b.toList.drop j)) ?_ ?_ ⟨_,i,j,0,0,rfl,ev,hi,hj,z15 _,m⟩) ?_)
  ·rintro y c st2 hy ⟨out,i,j,ac,bc,rfl,ev,hi,hj,ho,m⟩;dsimp only;refine Qa (Qj hj (Qa (Qj @0 (Qa (ask _ _ _ _ (ev.k.trans hk) (t.ub _ (Q7 hj)) (t.ua _ (Q7 @0)) ?_)))))
   cases e:L (H b j) (H a i) with
   |true=>
    dsimp only;rw[if_pos rfl];refine Qa (Qj hj ?_);have m2:=m.Qhl o t hj e;rw[← z49] at m2;refine Qh (fun c=>Qc (.inl ⟨_,_,rfl,ev,m2.done (.inr @19)⟩)) @24;have c:¬ j+1=b.size:=by simpa using c
    have hs:Y4.size<=(out.push (H b j)).size:=by rw[z65];lia
    refine Qh (fun _=>Qc (.inr ⟨_,i,j+1,_,_,rfl,ev,hi,by lia,hs,m2⟩)) (fun _=>Qc ⟨_,i,j+1,_,_,rfl,ev,hi,by lia,hs,m2⟩)
   |false=>
    dsimp only;rw[if_neg @2];refine Qa (Qj @0 ?_);have m2:=m.QeX o t @0 (t.flip o @0 hj e);rw[← z49] at m2;refine Qh (fun c=>Qc (.inl ⟨_,_,rfl,ev,m2.last @19 hl⟩)) @24;have c:¬ i+1+1=a.size:=by simpa using c
    have hs:Y4.size<=(out.push (H a i)).size:=by rw[z65];lia
    refine Qh (fun _=>Qc (.inr ⟨_,i+1,j,_,_,rfl,ev,by lia,hj,hs,m2⟩)) (fun _=>Qc ⟨_,i+1,j,_,_,rfl,ev,by lia,hj,hs,m2⟩)
  ·rintro c st2 h;exact .inr h
  rintro c st2 (⟨r,w,rfl,ev,gd⟩|⟨out,i,j,ac,bc,rfl,ev,hi,hj,ho,m⟩)
  ·exact Qc ⟨r,_,rfl,ev,gd⟩
  dsimp only;refine Qa (Yu ?_)
  refine Qa (Qq (QW (I:=fun y c st'=>∃out i j g ac bc,c=(none,out,i,j,g,ac,bc)/\Ev st st'/\i+1<a.size/\j<b.size/\Y4.size+y<=out.size/\Mg L @12 out.toList (a.toList.drop i) (b.toList.drop j))
   (Q:=fun c st'=>(∃r w,c=(some r,w)/\Ev st st'/\Gd L a b r)\/∃out i j g ac bc,c=(none,out,i,j,g,ac,bc)/\Ev st st'/\i+1<a.size/\j<b.size/\Y4.size+1<=out.size/\Mg L @12 out.toList (a.toList.drop i) (b.toList.drop j)) ?_ ?_ ⟨_,i,j,_,ac,bc,rfl,ev,hi,hj,ho,m⟩) ?_)
  ·rintro y c st3 hy ⟨out,i,j,g,ac,bc,rfl,ev,hi,hj,ho,m⟩;dsimp only;generalize hx:g - 1=x1
   revert x1
   refine Qiq fun v=>?_
   all_goals
    refine Qa (Qad fun st4 ev4=>?_);have ev:=ev.trans ev4;clear ev4;refine Qa (Qj hj ?_);refine Qa (QR ask (ev.k.trans hk) (t.ub _ (Q7 hj)) (fun u hu=>t.ua _ (Q7 @0)) @0 @0 (QeW o t.sa @0) fun k k1 k2 k3=>?_)
    have m2:Mg L @12 (out++a.extract i (i+k)).toList (a.toList.drop (i+k)) (b.toList.drop j):=by
     rw[z62 (xs:=out)];exact m.QoK o t hj (k:=k) @0 k2
    have hs2:(out++a.extract i (i+k)).size=out.size+k:=by rw[zd6,Array.size_extract];lia
    have hq:i+k<a.size->L (H b j) (H a (i+k))=true:=fun h=>by
     have:=k3 k (z15 _) @0;unfold bey at this;rw[if_neg @2] at this;simpa using this
    refine Qh (fun k0=>Qh (fun c=>Qc (.inl ⟨_,_,rfl,ev,m2.last @19 hl⟩)) (fun c=>Qh (fun c=>Qc (.inl ⟨_,_,rfl,ev,m2.done (.inl @19)⟩)) (fun c'=>?_))) (fun k0=>?_)
    rotate_left
    ·have k0:k=0:=by lia
     subst k0;have hc:=hq (show i+0<a.size by lia);rw[Nat.add_zero] at hc;refine Qa (Qj hj ?_);have n1:=Mg.Qhl o t m hj hc;rw[← z49] at n1;have z1:Y4.size+y+1<=(out.push (H b j)).size:=by rw[z65];have:=ho;lia
     refine Qh (fun c=>Qc (.inl ⟨_,_,rfl,ev,n1.done (.inr @19)⟩)) @24
     have hj1:j+1<b.size:=by
      have c:¬ j+1=b.size:=by simpa using c
      lia
     clear c;generalize out.push (H b j)=Qam at n1 z1 ⊢;refine Qa (Qj @0 ?_);refine Qa (QR ask (ev.k.trans hk) (t.ua _ (Q7 @0)) (fun u hu=>t.ub _ (Q7 @0)) @0 @0 (Qb2 o t.sb @0) fun k' q1 q2 q3=>?_)
     have n2:Mg L @12 (Qam++b.extract (j+1) (j+1+k')).toList (a.toList.drop i) (b.toList.drop (j+1+k')):=by
      rw[z62 (xs:=Qam)];exact n1.Qoi o t (k:=k') @0 q2
     have z2:Y4.size+y+1<=(Qam++b.extract (j+1) (j+1+k')).size:=by rw[zd6];lia
     have hq2:j+1+k' < b.size->L (H a i) (H b (j+1+k'))=true:=fun h=>by
      have:=q3 k' (z15 _) @0;unfold bey at this;rw[if_pos rfl] at this;exact t.flip o @0 h this
     refine Qh (fun k1=>Qh (fun c=>Qc (.inl ⟨_,_,rfl,ev,n2.done (.inr @19)⟩)) @24) (fun k1=>?_)
     ·have hj2:j+1+k' < b.size:=by
       have c:¬ j+1+k'=b.size:=by simpa using c
       lia
      have hc2:=hq2 hj2;generalize Qam++b.extract (j+1) (j+1+k')=Qi7 at n2 z2 ⊢;generalize j+1+k'=j3 at n2 hj2 hc2 ⊢;refine Qa (Qj @0 ?_);have n3:=n2.QeX o t @0 hc2;rw[← z49] at n3;refine Qh (fun c=>Qc (.inl ⟨_,_,rfl,ev,n3.last @19 hl⟩)) @24;have c:¬ i+1+1=a.size:=by simpa using c
      have z3:Y4.size+y+1<=(Qi7.push (H a i)).size:=by rw[z65];lia
      exact Qh (fun _=>Qc (.inr ⟨_,_,_,_,_,_,rfl,ev,by lia,hj2,by lia,n3⟩)) (fun _=>Qc ⟨_,_,_,_,_,_,rfl,ev,by lia,hj2,by lia,n3⟩)
     ·have k1:k'=0:=by lia
      subst k1;have hc2:=hq2 hj1;refine Qa (Qj @0 ?_);have n3:=n1.QeX o t @0 hc2;rw[← z49] at n3;refine Qh (fun c=>Qc (.inl ⟨_,_,rfl,ev,n3.last @19 hl⟩)) @24;have c:¬ i+1+1=a.size:=by simpa using c
      have z3:Y4.size+y+1<=(Qam.push (H a i)).size:=by rw[z65];lia
      exact Qh (fun _=>Qc (.inr ⟨_,_,_,_,_,_,rfl,ev,by lia,hj1,by lia,n3⟩)) (fun _=>Qc ⟨_,_,_,_,_,_,rfl,ev,by lia,hj1,by lia,n3⟩)
    ·have hi2:i+k+1<a.size:=by
      have c:¬ i+k+1=a.size:=by simpa using c
      have c':¬ i+k=a.size:=by simpa using c'
      lia
     have hc:=hq @0;have ho2:Y4.size+y<=(out++a.extract i (i+k)).size:=by rw[hs2];lia
     clear hs2 hq k2 k3 c c';generalize out++a.extract i (i+k)=Qk1 at m2 ho2 ⊢;generalize i+k=i1 at m2 hi2 hc ⊢;refine Qa (Qj hj ?_);have n1:=Mg.Qhl o t m2 hj hc;rw[← z49] at n1;have z1:Y4.size+y+1<=(Qk1.push (H b j)).size:=by rw[z65];have:=ho2;lia
     refine Qh (fun c=>Qc (.inl ⟨_,_,rfl,ev,n1.done (.inr @19)⟩)) @24
     have hj1:j+1<b.size:=by
      have c:¬ j+1=b.size:=by simpa using c
      lia
     clear c;generalize Qk1.push (H b j)=Qam at n1 z1 ⊢;refine Qa (Qj @0 ?_);refine Qa (QR ask (ev.k.trans hk) (t.ua _ (Q7 @0)) (fun u hu=>t.ub _ (Q7 @0)) @0 @0 (Qb2 o t.sb @0) fun k' q1 q2 q3=>?_)
     have n2:Mg L @12 (Qam++b.extract (j+1) (j+1+k')).toList (a.toList.drop i1) (b.toList.drop (j+1+k')):=by
      rw[z62 (xs:=Qam)];exact n1.Qoi o t (k:=k') @0 q2
     have z2:Y4.size+y+1<=(Qam++b.extract (j+1) (j+1+k')).size:=by rw[zd6];lia
     have hq2:j+1+k' < b.size->L (H a i1) (H b (j+1+k'))=true:=fun h=>by
      have:=q3 k' (z15 _) @0;unfold bey at this;rw[if_pos rfl] at this;exact t.flip o @0 h this
     refine Qh (fun k1=>Qh (fun c=>Qc (.inl ⟨_,_,rfl,ev,n2.done (.inr @19)⟩)) @24) (fun k1=>?_)
     ·have hj2:j+1+k' < b.size:=by
       have c:¬ j+1+k'=b.size:=by simpa using c
       lia
      have hc2:=hq2 hj2;generalize Qam++b.extract (j+1) (j+1+k')=Qi7 at n2 z2 ⊢;generalize j+1+k'=j3 at n2 hj2 hc2 ⊢;refine Qa (Qj @0 ?_);have n3:=n2.QeX o t @0 hc2;rw[← z49] at n3;refine Qh (fun c=>Qc (.inl ⟨_,_,rfl,ev,n3.last @19 hl⟩)) @24;have c:¬ i1+1+1=a.size:=by simpa using c
      have z3:Y4.size+y+1<=(Qi7.push (H a i1)).size:=by rw[z65];lia
      exact Qh (fun _=>Qc (.inr ⟨_,_,_,_,_,_,rfl,ev,by lia,hj2,by lia,n3⟩)) (fun _=>Qc ⟨_,_,_,_,_,_,rfl,ev,by lia,hj2,by lia,n3⟩)
     ·have k1:k'=0:=by lia
      subst k1;have hc2:=hq2 hj1;refine Qa (Qj @0 ?_);have n3:=n1.QeX o t @0 hc2;rw[← z49] at n3;refine Qh (fun c=>Qc (.inl ⟨_,_,rfl,ev,n3.last @19 hl⟩)) @24;have c:¬ i1+1+1=a.size:=by simpa using c
      have z3:Y4.size+y+1<=(Qam.push (H a i1)).size:=by rw[z65];lia
      exact Qh (fun _=>Qc (.inr ⟨_,_,_,_,_,_,rfl,ev,by lia,hj1,by lia,n3⟩)) (fun _=>Qc ⟨_,_,_,_,_,_,rfl,ev,by lia,hj1,by lia,n3⟩)
  ·rintro c st3 ⟨out,i,j,g,ac,bc,rfl,ev,hi,hj,ho,m⟩;exact .inr ⟨out,i,j,g,ac,bc,rfl,ev,hi,hj,by lia,m⟩
  rintro c st3 (⟨r,w,rfl,ev,gd⟩|⟨out,i,j,g,ac,bc,rfl,ev,hi,hj,ho,m⟩)
  ·exact Qc ⟨r,_,rfl,ev,gd⟩
  dsimp only;refine Qa (Qad fun st4 ev4=>?_);exact Qc ⟨out,i,j,_,rfl,ev.trans ev4,hi,hj,by lia,m⟩
 ·rintro c st1 ⟨out,i,j,g,rfl,ev,hi,hj,hx,m⟩;have:=m.len @0 @0;lia
 ·rintro c st1 ⟨r,w,rfl,ev,gd⟩;exact Qc (K r st1 ev gd)
end
def fl (L:Keyed->Keyed->Bool)(x y:Keyed):Bool:=L y x
section
variable {O:List Keyed}
abbrev tk (a:Array Keyed)(n:Nat):List Keyed:=(a.toList.take n).reverse
theorem Qng (h:i<a.size):tk a (i+1)=H a i::tk a i:=by
 have e:=Qeq h;rw[z20 h] at e;unfold tk;rw[zt1 (by simpa using h),zq9,← z26 e];simp
theorem QaU(hi:i<=a.size)(hy:y∈tk a i):∃j,j<i/\y=H a j:=by
 obtain⟨k,hk,e⟩:=zl6 (zd0.mp hy);rw[List.getElem_take] at e;have hl:k<i:=by rw[z48] at hk;lia
 refine⟨k,hl,?_⟩;have e1:=Qeq (show k<a.size by lia);rw[z20 @0] at e1;rw[← z26 e1,← e];simp
theorem Qhm (o:Od U L)(s:Sd L a.toList)(h1:0<i)(hi:i<=a.size)(h:L (H a (i - 1)) x=true):∀y∈tk a i,L y x=true:=fun y hy=>by
 obtain⟨j,hj,rfl⟩:=QaU hi hy
 by_cases e:j=i - 1
 ·subst e;exact h
 ·exact o.tr _ _ _ (Qip s (show j<i - 1 by lia) @0) h
theorem Qir(h:k<=i)(hi:i<=a.size):tk a i=(a.extract k i).toList.reverse++tk a k:=by
 unfold tk;rw[← zq9]
 congr 1
 rw[z94,z71];have:=z33 k (a.toList.take i);rw[zy5,zq2 h,List.drop_take] at this;exact this.symm
theorem Qdp(hi:i<=a.size)(hy:y∈(a.extract k i).toList):∃j,k<=j/\j<i/\y=H a j:=by
 obtain⟨j,hj,e⟩:=zl6 hy;have hl:k+j<i:=by simp at hj;lia
 refine⟨k+j,by lia,hl,?_⟩;have e1:=Qeq (show k+j<a.size by lia);rw[z20 @0] at e1;rw[← z26 e1,← e];simp
theorem Mg.Qer (o:Od U L)(t:Two U L a b)(m:Mg (fl L) T O (tk a (i+1)) (tk b j))(hi:i<a.size)(j0:0<j)(hj:j<=b.size)(h:L (H b (j - 1)) (H a i)=true):Mg (fl L) T (O++[H a i]) (tk a i) (tk b j):=by
 rw[Qng hi] at m;exact Mg.mvA (P:=[H a i]) m fun x hx=>by rw[z16.mp hx];exact Qhm o t.sb j0 hj h
theorem Mg.Qi8 (o:Od U L)(t:Two U L a b)(m:Mg (fl L) T O (tk a i) (tk b (j+1)))(hj:j<b.size)(i0:0<i)(hi:i<=a.size)(h:L (H a (i - 1)) (H b j)=true):Mg (fl L) T (O++[H b j]) (tk a i) (tk b j):=by
 rw[Qng hj] at m;exact Mg.mvB (P:=[H b j]) m fun x hx=>by rw[z16.mp hx];exact Qhm o t.sa i0 hi h
theorem Mg.Qnh (o:Od U L)(t:Two U L a b)(m:Mg (fl L) T O (tk a i) (tk b j))(j0:0<j)(hj:j<=b.size)(hk:k<=i)(hi:i<=a.size)(h:∀u,k<=u->u<i->bey L false (H b (j - 1)) a 0 u=false):Mg (fl L) T (O++(a.extract k i).toList.reverse) (tk a k) (tk b j):=by
 rw[Qir hk hi] at m;refine Mg.mvA m fun x hx=>?_;obtain⟨u,u1,u2,rfl⟩:=Qdp hi (zd0.mp hx);have:=h u u1 u2;unfold bey at this;rw[if_neg @2,z96] at this;exact Qhm o t.sb j0 hj (by simpa using this)
theorem Mg.Qk2 (o:Od U L)(t:Two U L a b)(m:Mg (fl L) T O (tk a i) (tk b j))(i0:0<i)(hi:i<=a.size)(hk:k<=j)(hj:j<=b.size)(h:∀u,k<=u->u<j->bey L true (H a (i - 1)) b 0 u=false):Mg (fl L) T (O++(b.extract k j).toList.reverse) (tk a i) (tk b k):=by
 rw[Qir hk hj] at m;refine Mg.mvB m fun x hx=>?_;obtain⟨u,u1,u2,rfl⟩:=Qdp hj (zd0.mp hx);have:=h u u1 u2;unfold bey at this;rw[if_pos rfl,z96] at this;exact Qhm o t.sa i0 hi (t.flip o @0 @0 this)
theorem QeY(h:Sd (fl L) l):Sd L l.reverse:=y17.mpr h
theorem Qiu(h:Sd L l):Sd (fl L) l.reverse:=y17.mpr h
theorem Mg.QoL(m:Mg (fl L) @12 out.toList (tk a i) (tk b j))(hi:i<=a.size)(hj:j<=b.size):out.size+i+j=a.size+b.size:=by
 have:=m.pm.length_eq;rw[z10,z10,z10,zc6,zc6,z48,z48] at this;simp at this;lia
theorem Mg.Qbc(m:Mg (fl L) @12 out.toList (tk a i) (tk b j))(h:i=0\/j=0):Gd L a b (a.extract 0 i++b.extract 0 j++out.reverse):=by
 unfold Gd
 have e:(a.extract 0 i++b.extract 0 j++out.reverse).toList=(out.toList++tk b j++tk a i).reverse:=by
  rw[z62,z62,zg7,z94,z94,z71,z71];simp[tk]
 rw[e]
 have g:(out.toList++tk b j++tk a i).Perm @12/\Sd (fl L) (out.toList++tk b j++tk a i):=by
  rcases h with rfl|rfl
  ·have z:tk a 0=[]:=by simp[tk]
   rw[z] at m ⊢;rw[z50];exact m.Qog
  ·have z:tk b 0=[]:=by simp[tk]
   rw[z] at m ⊢;rw[z50];exact m.Qof
 exact⟨(zd8 _).trans g.1,QeY g.2⟩
theorem Mg.QaV(m:Mg (fl L) @12 out.toList (tk a i) (tk b 1))(hb:0<b.size)(hi:i<=a.size)(h0:∀y∈a.toList,L (H b 0) y=true):Gd L a b (b.extract 0 1++a.extract 0 i++out.reverse):=by
 unfold Gd
 have e:(b.extract 0 1++a.extract 0 i++out.reverse).toList=(out.toList++tk a i++tk b 1).reverse:=by
  rw[z62,z62,zg7,z94,z94,z71,z71];simp[tk]
 rw[e]
 have z:tk b 1=[H b 0]:=by
  rw[show 1=0+1 from rfl,Qng hb];simp[tk]
 have m':Mg (fl L) @12 out.toList [H b 0] (tk a i):=by
  rw[z] at m;refine⟨?_,m.so,m.ob,m.oa,m.sb,m.sa⟩;exact zn5 (zf1 _ zf8) m.pm
 have g:=m'.Qoh fun y hy=>by
  obtain⟨k,hk,rfl⟩:=QaU hi hy;exact h0 _ (Q7 @0)
 rw[z];exact⟨(zd8 _).trans g.1,QeY g.2⟩
theorem QcJ (ask:Ask J M A E κ U L)(o:Od U L){Q:Array Keyed->SortSt->Prop}(hk:kindOf st=κ)(t:Two U L a b)(na:0<a.size)(nb:0<b.size)(h0:∀y∈a.toList,L (H b 0) y=true)(hl:L (H b (b.size - 1)) (H a (a.size - 1))=true)
  (K:∀r st',Ev st st'->Gd L a b r->Q r st'):wpT J M A E (Qhk a b) Q st:=by
 intro s hs
 wp_delta
 wp_delta
 refine Qb1 ?_ hs;refine Qa (Yu ?_);refine Qa (Qj @0 ?_)
 have m0:Mg (fl L) @12 [] (tk a (a.size - 1+1)) (tk b b.size):=by
  rw[show a.size - 1+1=a.size by lia];have ea:tk a a.size=a.toList.reverse:=by unfold tk;rw[z86 @6]
  have eb:tk b b.size=b.toList.reverse:=by unfold tk;rw[z86 @6]
  rw[ea,eb];exact⟨show(a.toList.reverse++b.toList.reverse).Perm @12 from List.Perm.append (zd8 _) (zd8 _),.nil,@5,@5,Qiu t.sa,Qiu t.sb⟩
 have m1:Mg (fl L) @12 (#[H a (a.size - 1)]:Array Keyed).toList (tk a (a.size - 1)) (tk b b.size):=m0.Qer o t @0 nb (z15 _) hl;refine Qh (fun c=>Qc (K _ _ (.refl _) (m1.Qbc (.inl @19)))) (fun c1=>?_);refine Qh (fun c=>Qc (K _ _ (.refl _) ?_)) (fun c2=>?_)
 ·have c:b.size=1:=by simpa using c
  rw[c] at m1 ⊢;exact m1.QaV nb @0 h0
 have c1:¬ a.size - 1=0:=by simpa using c1
 have c2:¬ b.size=1:=by simpa using c2
 refine Qa (Q6 ?_)
 refine Qa (Qq (QW (I:=fun x c st'=>∃out i j g,c=(none,i,j,out,g)/\Ev st st'/\0<i/\i<=a.size/\1<j/\j<=b.size/\x+1<=out.size/\Mg (fl L) @12 out.toList (tk a i) (tk b j))
  (Q:=fun c st'=>∃r w,c=(some r,w)/\Ev st st'/\Gd L a b r) ?_ ?_ ⟨_,a.size - 1,b.size,_,rfl,.refl _,by lia,by lia,by lia,by lia,by simp,m1⟩) ?_)
 ·rintro x c st1 hx ⟨Y4,i,j,g,rfl,ev,i0,hi,j0,hj,hx1,m⟩;dsimp only
  refine Qa (Qq (QW (I:=fun y c st'=>∃out i j ac bc,c=(none,i,j,out,ac,bc)/\Ev st st'/\0<i/\i<=a.size/\1<j/\j<=b.size/\Y4.size<=out.size/\Mg (fl L) @12 out.toList (tk a i) (tk b j))
   (Q:=fun c st'=>(∃r w,c=(some r,w)/\Ev st st'/\Gd L a b r)\/∃out i j ac bc,c=(none,i,j,out,ac,bc)/\Ev st st'/\0<i/\i<=a.size/\1<j/\j<=b.size/\Y4.size<=out.size/\Mg (fl L) @12 out.toList (tk a i) (tk b j)) ?_ ?_ ⟨_,i,j,0,0,rfl,ev,i0,hi,j0,hj,z15 _,m⟩) ?_)
  ·rintro y c st2 hy ⟨out,i,j,ac,bc,rfl,ev,i0,hi,j0,hj,ho,m⟩;dsimp only;refine Qa (Qj @0 (Qa (Qj @0 (Qa (ask _ _ _ _ (ev.k.trans hk) (t.ub _ (Q7 @0)) (t.ua _ (Q7 @0)) ?_)))))
   cases e:L (H b (j - 1)) (H a (i - 1)) with
   |true=>
    dsimp only;rw[if_pos rfl];refine Qa (Qj @0 ?_);have m2:=Mg.Qer (i:=i - 1) o t (by rw[show i - 1+1=i by lia];exact m) @0 @0 hj e;rw[← z49] at m2;refine Qh (fun c=>Qc (.inl ⟨_,_,rfl,ev,m2.Qbc (.inl @19)⟩)) @24;have c:¬ i - 1=0:=by simpa using c
    have hs:Y4.size<=(out.push (H a (i - 1))).size:=by rw[z65];lia
    exact Qh (fun _=>Qc (.inr ⟨_,_,_,_,_,rfl,ev,by lia,by lia,j0,hj,hs,m2⟩)) (fun _=>Qc ⟨_,_,_,_,_,rfl,ev,by lia,by lia,j0,hj,hs,m2⟩)
   |false=>
    dsimp only;rw[if_neg @2];refine Qa (Qj @0 ?_);have m2:=Mg.Qi8 (j:=j - 1) o t (by rw[show j - 1+1=j by lia];exact m) @0 i0 hi (t.flip o @0 @0 e);rw[← z49] at m2;refine Qh (fun c=>Qc (.inl ⟨_,_,rfl,ev,?_⟩)) @24
    ·have c:j - 1=1:=by simpa using c
     rw[c] at m2 ⊢;exact m2.QaV nb hi h0
    have c:¬ j - 1=1:=by simpa using c
    have hs:Y4.size<=(out.push (H b (j - 1))).size:=by rw[z65];lia
    exact Qh (fun _=>Qc (.inr ⟨_,_,_,_,_,rfl,ev,i0,hi,by lia,by lia,hs,m2⟩)) (fun _=>Qc ⟨_,_,_,_,_,rfl,ev,i0,hi,by lia,by lia,hs,m2⟩)
  ·rintro c st2 h;exact .inr h
  rintro c st2 (⟨r,w,rfl,ev,gd⟩|⟨out,i,j,ac,bc,rfl,ev,i0,hi,j0,hj,ho,m⟩)
  ·exact Qc ⟨r,_,rfl,ev,gd⟩
  refine Qa (Yu ?_)
  refine Qa (Qq (QW (I:=fun y c st'=>∃out i j g ac bc,c=(none,i,j,out,g,ac,bc)/\Ev st st'/\0<i/\i<=a.size/\1<j/\j<=b.size/\Y4.size+y<=out.size/\Mg (fl L) @12 out.toList (tk a i) (tk b j))
   (Q:=fun c st'=>(∃r w,c=(some r,w)/\Ev st st'/\Gd L a b r)\/∃out i j g ac bc,c=(none,i,j,out,g,ac,bc)/\Ev st st'/\0<i/\i<=a.size/\1<j/\j<=b.size/\Y4.size+1<=out.size/\Mg (fl L) @12 out.toList (tk a i) (tk b j)) ?_ ?_ ⟨_,i,j,_,ac,bc,rfl,ev,i0,hi,j0,hj,ho,m⟩) ?_)
  ·rintro y c st3 hy ⟨out,i,j,g,ac,bc,rfl,ev,i0,hi,j0,hj,ho,m⟩;dsimp only;generalize hx:g - 1=x1
   revert x1
   refine Qiq fun v=>?_
   all_goals
    refine Qa (Qad fun st4 ev4=>?_);have ev:=ev.trans ev4;clear ev4;refine Qa (Qj @0 ?_);refine Qa (QR ask (ev.k.trans hk) (t.ub _ (Q7 @0)) (fun u hu=>t.ua _ (Q7 @0)) @0 @0 (QeW o t.sa @0) fun k k1 k2 k3=>?_)
    have m2:Mg (fl L) @12 (out++(a.extract k i).reverse).toList (tk a k) (tk b j):=by
     rw[z62 (xs:=out),zg7];exact m.Qnh o t @0 hj k1 hi k3
    have hq:0<k->L (H a (k - 1)) (H b (j - 1))=true:=fun h=>by
     have:=k2 (k - 1) @0;unfold bey at this;rw[if_neg @2,z96] at this;exact t.flip o @0 @0 (by simpa using this)
    refine Qh (fun k0=>Qh (fun c=>Qc (.inl ⟨_,_,rfl,ev,m2.Qbc (.inl @19)⟩)) @24) (fun k0=>?_)
    rotate_left
    ·have k0:k=i:=by lia
     subst k0;have hc:=hq i0;refine Qa (Qj @0 ?_);have n1:=Mg.Qi8 (j:=j - 1) o t (by rw[show j - 1+1=j by lia];exact m) @0 i0 hi hc;rw[← z49] at n1;have z1:Y4.size+y+1<=(out.push (H b (j - 1))).size:=by rw[z65];have:=ho;lia
     refine Qh (fun c=>Qc (.inl ⟨_,_,rfl,ev,?_⟩)) @24
     ·have c:j - 1=1:=by simpa using c
      rw[c] at n1 ⊢;exact n1.QaV nb hi h0
     have hj1:1<j - 1:=by
      have c:¬ j - 1=1:=by simpa using c
      lia
     clear c;generalize out.push (H b (j - 1))=Qam at n1 z1 ⊢;have hjb:j - 1<=b.size:=by lia
     generalize j - 1=j2 at n1 hj1 hjb ⊢;refine Qa (Qj @0 ?_);refine Qa (QR ask (ev.k.trans hk) (t.ua _ (Q7 @0)) (fun u hu=>t.ub _ (Q7 @0)) @0 @0 (Qb2 o t.sb @0) fun k' q1 q2 q3=>?_)
     have n2:Mg (fl L) @12 (Qam++(b.extract k' j2).reverse).toList (tk a k) (tk b k'):=by
      rw[z62 (xs:=Qam),zg7];exact n1.Qk2 o t i0 hi q1 hjb q3
     have z2:Y4.size+y+1<=(Qam++(b.extract k' j2).reverse).size:=by rw[zd6];lia
     have hq2:0<k'->L (H b (k' - 1)) (H a (k - 1))=true:=fun h=>by
      have:=q2 (k' - 1) @0;unfold bey at this;rw[if_pos rfl,z96] at this;exact this
     refine Qh (fun k1=>Qh (fun c=>Qc (.inl ⟨_,_,rfl,ev,?_⟩)) (fun c=>Qh (fun c'=>Qc (.inl ⟨_,_,rfl,ev,n2.Qbc (.inr (by simpa using c'))⟩)) (fun c'=>?_))) (fun k1=>?_)
     ·have c:k'=1:=by simpa using c
      subst c;exact n2.QaV nb hi h0
     ·have hj3:1<k':=by
       have c:¬ k'=1:=by simpa using c
       have c':¬ k'=0:=by simpa using c'
       lia
      have hc2:=hq2 @0;generalize Qam++(b.extract k' j2).reverse=Qi7 at n2 z2 ⊢;have n3:=Mg.Qer (i:=k - 1) o t (by rw[show k - 1+1=k by lia];exact n2) @0 @0 @0 hc2;rw[← z49] at n3;refine Qa (Qj @0 ?_);refine Qh (fun c=>Qc (.inl ⟨_,_,rfl,ev,n3.Qbc (.inl @19)⟩)) @24;have c:¬ k - 1=0:=by simpa using c
      have z3:Y4.size+y+1<=(Qi7.push (H a (k - 1))).size:=by rw[z65];lia
      exact Qh (fun _=>Qc (.inr ⟨_,_,_,_,_,_,rfl,ev,by lia,by lia,hj3,by lia,by lia,n3⟩)) (fun _=>Qc ⟨_,_,_,_,_,_,rfl,ev,by lia,by lia,hj3,by lia,by lia,n3⟩)
     ·have k1:k'=j2:=by lia
      subst k1;have hc2:=hq2 @0;have n3:=Mg.Qer (i:=k - 1) o t (by rw[show k - 1+1=k by lia];exact n1) @0 @0 @0 hc2;rw[← z49] at n3;refine Qa (Qj @0 ?_);refine Qh (fun c=>Qc (.inl ⟨_,_,rfl,ev,n3.Qbc (.inl @19)⟩)) @24;have c:¬ k - 1=0:=by simpa using c
      have z3:Y4.size+y+1<=(Qam.push (H a (k - 1))).size:=by rw[z65];lia
      exact Qh (fun _=>Qc (.inr ⟨_,_,_,_,_,_,rfl,ev,by lia,by lia,hj1,by lia,by lia,n3⟩)) (fun _=>Qc ⟨_,_,_,_,_,_,rfl,ev,by lia,by lia,hj1,by lia,by lia,n3⟩)
    ·have i2:0<k:=by
      have c:¬ k=0:=by simpa using c
      lia
     have hc:=hq i2;have his:k<=a.size:=by lia
     have ho2:Y4.size+y<=(out++(a.extract k i).reverse).size:=by rw[zd6];lia
     generalize out++(a.extract k i).reverse=Qk1 at m2 ho2 ⊢;refine Qa (Qj @0 ?_);have n1:=Mg.Qi8 (j:=j - 1) o t (by rw[show j - 1+1=j by lia];exact m2) @0 i2 his hc;rw[← z49] at n1;have z1:Y4.size+y+1<=(Qk1.push (H b (j - 1))).size:=by rw[z65];have:=ho2;lia
     refine Qh (fun c=>Qc (.inl ⟨_,_,rfl,ev,?_⟩)) @24
     ·have c:j - 1=1:=by simpa using c
      rw[c] at n1 ⊢;exact n1.QaV nb his h0
     have hj1:1<j - 1:=by
      have c:¬ j - 1=1:=by simpa using c
      lia
     clear c;generalize Qk1.push (H b (j - 1))=Qam at n1 z1 ⊢;have hjb:j - 1<=b.size:=by lia
     generalize j - 1=j2 at n1 hj1 hjb ⊢;refine Qa (Qj @0 ?_);refine Qa (QR ask (ev.k.trans hk) (t.ua _ (Q7 @0)) (fun u hu=>t.ub _ (Q7 @0)) @0 @0 (Qb2 o t.sb @0) fun k' q1 q2 q3=>?_)
     have n2:Mg (fl L) @12 (Qam++(b.extract k' j2).reverse).toList (tk a k) (tk b k'):=by
      rw[z62 (xs:=Qam),zg7];exact n1.Qk2 o t i2 his q1 hjb q3
     have z2:Y4.size+y+1<=(Qam++(b.extract k' j2).reverse).size:=by rw[zd6];lia
     have hq2:0<k'->L (H b (k' - 1)) (H a (k - 1))=true:=fun h=>by
      have:=q2 (k' - 1) @0;unfold bey at this;rw[if_pos rfl,z96] at this;exact this
     refine Qh (fun k1=>Qh (fun c=>Qc (.inl ⟨_,_,rfl,ev,?_⟩)) (fun c=>Qh (fun c'=>Qc (.inl ⟨_,_,rfl,ev,n2.Qbc (.inr (by simpa using c'))⟩)) (fun c'=>?_))) (fun k1=>?_)
     ·have c:k'=1:=by simpa using c
      subst c;exact n2.QaV nb his h0
     ·have hj3:1<k':=by
       have c:¬ k'=1:=by simpa using c
       have c':¬ k'=0:=by simpa using c'
       lia
      have hc2:=hq2 @0;generalize Qam++(b.extract k' j2).reverse=Qi7 at n2 z2 ⊢;have n3:=Mg.Qer (i:=k - 1) o t (by rw[show k - 1+1=k by lia];exact n2) @0 @0 @0 hc2;rw[← z49] at n3;refine Qa (Qj @0 ?_);refine Qh (fun c=>Qc (.inl ⟨_,_,rfl,ev,n3.Qbc (.inl @19)⟩)) @24;have c:¬ k - 1=0:=by simpa using c
      have z3:Y4.size+y+1<=(Qi7.push (H a (k - 1))).size:=by rw[z65];lia
      exact Qh (fun _=>Qc (.inr ⟨_,_,_,_,_,_,rfl,ev,by lia,by lia,hj3,by lia,by lia,n3⟩)) (fun _=>Qc ⟨_,_,_,_,_,_,rfl,ev,by lia,by lia,hj3,by lia,by lia,n3⟩)
     ·have k1:k'=j2:=by lia
      subst k1;have hc2:=hq2 @0;have n3:=Mg.Qer (i:=k - 1) o t (by rw[show k - 1+1=k by lia];exact n1) @0 @0 @0 hc2;rw[← z49] at n3;refine Qa (Qj @0 ?_);refine Qh (fun c=>Qc (.inl ⟨_,_,rfl,ev,n3.Qbc (.inl @19)⟩)) @24;have c:¬ k - 1=0:=by simpa using c
      have z3:Y4.size+y+1<=(Qam.push (H a (k - 1))).size:=by rw[z65];lia
      exact Qh (fun _=>Qc (.inr ⟨_,_,_,_,_,_,rfl,ev,by lia,by lia,hj1,by lia,by lia,n3⟩)) (fun _=>Qc ⟨_,_,_,_,_,_,rfl,ev,by lia,by lia,hj1,by lia,by lia,n3⟩)
  ·rintro c st3 ⟨out,i,j,g,ac,bc,rfl,ev,i0,hi,j0,hj,ho,m⟩;exact .inr ⟨out,i,j,g,ac,bc,rfl,ev,i0,hi,j0,hj,by lia,m⟩
  rintro c st3 (⟨r,w,rfl,ev,gd⟩|⟨out,i,j,g,ac,bc,rfl,ev,i0,hi,j0,hj,ho,m⟩)
  ·exact Qc ⟨r,_,rfl,ev,gd⟩
  refine Qa (Qad fun st4 ev4=>?_);exact Qc ⟨out,i,j,_,rfl,ev.trans ev4,i0,hi,j0,hj,by lia,m⟩
 ·rintro c st1 ⟨out,i,j,g,rfl,ev,i0,hi,j0,hj,hx,m⟩;have:=m.QoL hi hj;lia
 ·rintro c st1 ⟨r,w,rfl,ev,gd⟩;exact Qc (K r st1 ev gd)
end
section
variable {Y post:List Keyed}
theorem Qni(e:a.toList=pre++l):H a (pre.length+n)=H l.toArray n:=by
 rw[H,H,z32,z32,← z18,e,z44 @0,zc3,z56]
theorem Qk3 {X Y:List Keyed}(h:n<X.length):H (X++Y).toArray n=H X.toArray n:=by
 rw[H,H,z32,z32,z56,z56,z53 h]
theorem V0{b u:Nat}{x:Array Keyed}(h:H a (b+u)=H x u):bey L left key a b u=bey L left key x 0 u:=by
 unfold bey;rw[h,z96]
theorem Qdq:∀(l q p t:List Keyed) (a:Array Keyed) (c n:Nat),a.toList=p++(q++t)->q.length=l.length->p.length=c+n->
  ((l.zipIdx n).foldl (fun a x=>match x with|(y,j)=>a.setIfInBounds (c+j) y) a).toList=p++(l++t)
 | [],[],p,t,a,c,n,e,_,_=>e
 | [],_::_,_,_,_,_,_,_,h,_=>nomatch h
 |_::_,[],_,_,_,_,_,_,h,_=>nomatch h
 |y::l,z::q,p,t,a,c,n,e,h,hp=>by
  rw[zu5,zg0]
  have e2:(a.setIfInBounds (c+n) y).toList=(p++[y])++(q++t):=by
   rw[zx2,e,y16 _ _ @0,hp,zk1];simp
  rw[Qdq l q (p++[y]) t _ c (n+1) e2 (by simpa using h) (by rw[z10,hp];rfl)];simp
theorem QcK (ask:Ask J M A E κ U L)(o:Od U L){pw pw2:Nat}{Q:Bool->SortSt->Prop}(hk:kindOf st=κ)(hf:failedOf st=none)(ea:(arrOf st).toList=pre++(X++(Y++post)))
  (hp1:(pendingOf st)[i]? = some (pre.length,X.length,pw)) (hp2:(pendingOf st)[i+1]? = some (pre.length+X.length,Y.length,pw2)) (sX:Sd L X) (sY:Sd L Y) (nX:0<X.length) (nY:0<Y.length) (uX:∀x∈X,U x) (uY:∀x∈Y,U x) (ne:∀x∈X,∀y∈Y,x≠y)
  (K:∀st' Z,kindOf st'=κ->failedOf st'=none->(arrOf st').toList=pre++(Z++post)->Z.Perm (X++Y)->Sd L Z->pendingOf st'=((pendingOf st).setIfInBounds i (pre.length,X.length+Y.length,pw)).eraseIdxIfInBounds (i+1)->Q true st'):wpT J M A E (mergeAt' i) Q st:=by
 intro s hs
 wp_delta
 wp_delta
 refine Qb1 ?_ hs;refine Qa (Q6 ?_);rw[show(pendingOf st)[i]? = _ from hp1,show(pendingOf st)[i+1]? = _ from hp2];refine Qa (Qi6 ?_)
 have sz:(arrOf st).size=pre.length+(X.length+(Y.length+post.length)):=by
  have:=congrArg zd5 ea;simpa using this
 have hX:∀u,u<X.length->H (arrOf st) (pre.length+u)=H X.toArray u:=fun u hu=>by rw[Qni ea,Qk3 hu]
 have hY:∀u,u<Y.length->H (arrOf st) (pre.length+X.length+u)=H Y.toArray u:=fun u hu=>by
  have e2:(arrOf st).toList=(pre++X)++(Y++post):=by rw[ea,z23]
  have:=Qni (n:=u) e2;rw[z10] at this;rw[this,Qk3 hu]
 have hy0:H (arrOf st) (pre.length+X.length)=H Y.toArray 0:=hY 0 nY;have tXY:Two U L X.toArray Y.toArray:=⟨sX,sY,uX,uY,ne⟩;have nXs:X.toArray.size=X.length:=by simp
 have nYs:Y.toArray.size=Y.length:=by simp
 refine Qa (Qj (a:=arrOf st) @0 ?_);rw[hy0]
 refine Qa (QR (a:=arrOf st) ask hk (uY _ (Q7 (a:=Y.toArray) @0)) (fun u hu=>by rw[hX u hu];exact uX _ (Q7 (a:=X.toArray) @0)) nX @0
  (fun u v h1 h2 h3=>by rw[V0 (hX v h2)] at h3;rw[V0 (hX u @0)];exact QeW o (a:=X.toArray) (n:=X.length) sX @0 u v h1 h2 h3) fun k k1 k2 k3=>?_)
 have g1:∀u,u<k->L (H X.toArray u) (H Y.toArray 0)=true:=fun u hu=>by
  have:=k2 u hu;rw[V0 (hX u @0)] at this;unfold bey at this;rw[if_neg @2,z96] at this;exact tXY.flip o @0 @0 (by simpa using this)
 have g2:∀u,k<=u->u<X.length->L (H Y.toArray 0) (H X.toArray u)=true:=fun u h1 h2=>by
  have:=k3 u h1 h2;rw[V0 (hX u h2)] at this;unfold bey at this;rw[if_neg @2,z96] at this;simpa using this
 have pX:∀x∈X.take k,∀y∈Y,L x y=true:=fun x hx y hy=>by
  obtain⟨u,hu,rfl⟩:=QaU (a:=X.toArray) (i:=k) @0 (zd0.mpr hx);exact VD o (a:=Y.toArray) (i:=0) sY (g1 u hu) y hy
 refine Qh (fun c=>Qc (K _ (X++Y) hk hf (by rw[z23];exact ea) (ze2 _) (z42.mpr ⟨sX,sY,?_⟩) rfl)) @24
 ·have c:X.length - k=0:=by simpa using c
  rw[z86 @0] at pX;exact pX
 have kx:k<X.length:=by
  have c:¬ X.length - k=0:=by simpa using c
  lia
 clear c
 have hxl:H (arrOf st) (pre.length+k+(X.length - k) - 1)=H X.toArray (X.length - 1):=by
  rw[show pre.length+k+(X.length - k) - 1=pre.length+(X.length - 1) by lia];exact hX _ @0
 refine Qa (Qj (a:=arrOf st) @0 ?_);rw[hxl]
 refine Qa (QR (a:=arrOf st) ask hk (uX _ (Q7 (a:=X.toArray) @0)) (fun u hu=>by rw[hY u hu];exact uY _ (Q7 (a:=Y.toArray) @0)) @0 @0
  (fun u v h1 h2 h3=>by rw[V0 (hY v h2)] at h3;rw[V0 (hY u @0)];exact Qb2 o (a:=Y.toArray) (n:=Y.length) sY @0 u v h1 h2 h3) fun m m1 m2 m3=>?_)
 have f1:∀u,u<m->L (H Y.toArray u) (H X.toArray (X.length - 1))=true:=fun u hu=>by
  have:=m2 u hu;rw[V0 (hY u @0)] at this;unfold bey at this;rw[if_pos rfl,z96] at this;exact this
 have f2:∀u,m<=u->u<Y.length->L (H X.toArray (X.length - 1)) (H Y.toArray u)=true:=fun u h1 h2=>by
  have:=m3 u h1 h2;rw[V0 (hY u h2)] at this;unfold bey at this;rw[if_pos rfl,z96] at this;exact tXY.flip o @0 @0 this
 have m0:0<m:=by
  rcases Nat.eq_zero_or_pos m with e|e
  ·subst e;have a1:=f2 0 (z15 _) nY;have a2:=g2 (X.length - 1) @0 @0;have:=o.tr _ _ _ a1 a2;rw[o.ir] at this;cases this
  ·exact e
 refine Qh (fun c=>absurd (show m=0 by simpa using c) @0) @24;clear c
 have ex:((arrOf st).extract (pre.length+k) (pre.length+X.length)).toList=X.drop k:=by
  rw[z94,z71,ea,List.drop_append,zj0 @0,zx0,show pre.length+k - pre.length=k by lia,List.drop_append_of_le_length @0,show pre.length+X.length - (pre.length+k)=(X.drop k).length by rw[z93];lia,List.take_left]
 have ey:((arrOf st).extract (pre.length+X.length) (pre.length+X.length+m)).toList=Y.take m:=by
  have e2:(arrOf st).toList=(pre++X)++(Y++post):=by rw[ea,z23]
  rw[z94,z71,e2,show pre.length+X.length=(pre++X).length by rw[z10],List.drop_left,zc3,zu6 m1]
 generalize (arrOf st).extract (pre.length+k) (pre.length+X.length)=x at ex ⊢;generalize (arrOf st).extract (pre.length+X.length) (pre.length+X.length+m)=y at ey ⊢;have xs:x.size=X.length - k:=by rw[← z43,ex,z93]
 have ys:y.size=m:=by rw[← z43,ey,z48];lia
 have hx:∀u,u<x.size->H x u=H X.toArray (k+u):=fun u hu=>by
  rw[H,H,z32,z32,← z18,ex,zs7,z56]
 have hy:∀u,u<y.size->H y u=H Y.toArray u:=fun u hu=>by
  rw[H,H,z32,z32,← z18,ey,zb6 @0,z56]
 have txy:Two U L x y:=⟨by rw[ex];exact sX.sublist (y56 _ _),by rw[ey];exact sY.sublist (zn3 _ _),fun v hv=>uX v (zg8 (ex▸hv)),fun v hv=>uY v (zk8 (ey▸hv)),fun v hv w hw=>ne v (zg8 (ex▸hv)) w (zk8 (ey▸hw))⟩;have b0:L (H y 0) (H x 0)=true:=by rw[hy 0 @0,hx 0 @0];exact g2 _ @0 @0
 have lx:H x (x.size - 1)=H X.toArray (X.length - 1):=by rw[hx _ @0];congr 1;lia
 have bl:∀w∈y.toList,L w (H x (x.size - 1))=true:=fun w hw=>by
  obtain⟨u,hu,rfl⟩:=QaU (a:=y) (i:=y.size) (z15 _) (zd0.mpr (by rw[z86 @6];exact hw));rw[lx,hy u hu];exact f1 u @0
 have fin:∀(r:Array Keyed) (st':SortSt),Ev (setPending st (((pendingOf st).setIfInBounds i (pre.length,X.length+Y.length,pw)).eraseIdxIfInBounds (i+1))) st'->Gd L x y r->
   Q true (setArr st' (List.foldl (fun a x=>match x with|(p,j)=>a.setIfInBounds (pre.length+k+j) p) (arrOf st') r.toList.zipIdx)):=fun r st' ev gd=>by
  have pm:r.toList.Perm (X.drop k++Y.take m):=by have:=gd.1;rw[ex,ey] at this;exact this
  have pY:∀v∈r.toList,∀w∈Y.drop m,L v w=true:=fun v hv w hw=>by
   obtain⟨j,j1,j2,rfl⟩:=Yv (a:=Y.toArray) hw;rcases z08.mp (pm.mem_iff.mp hv) with z|z
   ·obtain⟨u,u1,u2,rfl⟩:=Yv (a:=X.toArray) z;have q:=f2 j j1 @0
    by_cases e:u=X.length - 1
    ·subst e;exact q
    ·exact o.tr _ _ _ (Qip (a:=X.toArray) sX (show u<X.length - 1 by lia) @0) q
   ·obtain⟨u,hu,rfl⟩:=QaU (a:=Y.toArray) (i:=m) @0 (zd0.mpr z);exact Qip (a:=Y.toArray) sY @0 j2
  have pT:∀v∈X.take k,∀w∈r.toList,L v w=true:=fun v hv w hw=>by
   rcases z08.mp (pm.mem_iff.mp hw) with z|z
   ·exact(z42.mp (show Sd L (X.take k++X.drop k) by rw[z33];exact sX)).2.2 v hv w z
   ·exact pX v hv w (zk8 z)
  have e0:(arrOf st').toList=(pre++X.take k)++((X.drop k++Y.take m)++(Y.drop m++post)):=by
   rw[ev.a];show(arrOf st).toList=_;rw[ea];simp only[z23];rw[← z23 (X.take k),z33,← z23 (Y.take m),z33]
  have e1:=Qdq r.toList (X.drop k++Y.take m) (pre++X.take k) (Y.drop m++post) (arrOf st') (pre.length+k) 0 e0 pm.length_eq.symm (by rw[z10,z48];lia);refine K _ (X.take k++(r.toList++Y.drop m)) (ev.k.trans hk) (ev.f.trans hf) ?_ ?_ ?_ ev.p
  ·refine Eq.trans e1 ?_;simp only[z23]
  ·have q:(r.toList++Y.drop m).Perm (X.drop k++Y):=by
    refine(pm.append_right _).trans ?_;rw[z23,z33]
   refine(q.append_left _).trans ?_;rw[← z23,z33]
  ·refine z42.mpr ⟨sX.sublist (zn3 _ _),z42.mpr ⟨gd.2,sY.sublist (y56 _ _),pY⟩,fun v hv w hw=>?_⟩;rcases z08.mp hw with z|z
   ·exact pT v hv w z
   ·exact pX v hv w (zg8 z)
 refine Qh (fun _=>?_) (fun _=>?_)
 ·refine Qa (QcI ask o hk txy @0 @0 b0 bl fun r st' ev gd=>?_);have ff:failedOf st'=none:=ev.f.trans hf;refine Qa (QD (Qa (Q6 (Qc ?_))));show Q (failedOf st').isNone _;rw[ff];exact fin r st' ev gd
 ·refine Qa (QcJ ask o hk txy @0 @0 (fun v hv=>VD o (a:=x) (i:=0) txy.sa b0 v hv) (bl _ (Q7 @0)) fun r st' ev gd=>?_);have ff:failedOf st'=none:=ev.f.trans hf;refine Qa (QD (Qa (Q6 (Qc ?_))));show Q (failedOf st').isNone _;rw[ff];exact fin r st' ev gd
end
section
theorem Qhn (ask:Ask J M A E κ U L){i:Nat}{Q:Option Bool->SortSt->Prop}(hk:kindOf st=κ)(hi:i<(arrOf st).size)(hj:j<(arrOf st).size)(ui:U (H (arrOf st) i))(uj:U (H (arrOf st) j))(q:Q (some (L (H (arrOf st) i) (H (arrOf st) j))) st):wpT J M A E (ltAt' i j) Q st:=by
 rw[ltAt'_eq];exact Qa (Q6 (Qa (Qj hi (Qa (Qj hj (ask _ _ _ _ hk ui uj q))))))
structure Rst (κ:SortKind)(U:Keyed->Prop)(pre S:List Keyed)(st:SortSt):Prop where
 k:kindOf st=κ
 f:failedOf st=none
 e:(arrOf st).toList=pre++S
 u:∀x∈S,U x
 nd:S.Nodup
theorem Rst.sz (r:Rst κ U pre S st):(arrOf st).size=pre.length+S.length:=by
 have:=congrArg zd5 r.e;simpa using this
theorem Rst.H (r:Rst κ U pre S st):Srt.H (arrOf st) (pre.length+i)=Srt.H S.toArray i:=Qni r.e
theorem Rst.uH (r:Rst κ U pre S st)(h:i<S.length):U (Srt.H S.toArray i):=r.u _ (Q7 (a:=S.toArray) (by simpa using h))
theorem Rst.ne (r:Rst κ U pre S st)(hi:i<S.length)(hj:j<S.length)(h:i≠j):Srt.H S.toArray i≠Srt.H S.toArray j:=fun z=>by
 have e1:=Qeq (a:=S.toArray) (show i<S.toArray.size by simpa using hi);have e2:=Qeq (a:=S.toArray) (show j<S.toArray.size by simpa using hj);rw[z56,z06 hi] at e1;rw[z56,z06 hj] at e2;rw[← z26 e1,← z26 e2] at z;exact h ((zh6 r.nd).mp z)
theorem Rst.ask (r:Rst κ U pre S st)(ask:Ask J M A E κ U L){u v:Nat}{Q:Option Bool->SortSt->Prop}(hu:u<S.length)(hv:v<S.length)(q:Q (some (L (Srt.H S.toArray u) (Srt.H S.toArray v))) st):wpT J M A E (ltAt' (pre.length+u) (pre.length+v)) Q st:=by
 refine Qhn ask r.k (by rw[r.sz];lia) (by rw[r.sz];lia) (by rw[r.H];exact r.uH hu) (by rw[r.H];exact r.uH hv) ?_;rw[r.H,r.H];exact q
theorem Qbd (h:n<S.length):S.take (n+1)=S.take n++[H S.toArray n]:=by
 have e:=Qeq (a:=S.toArray) (show n<S.toArray.size by simpa using h);rw[z56,z06 h] at e;rw[zt1 h,z26 e]
theorem Qes(hn:n<=S.length)(hy:y∈S.take n):∃j,j<n/\y=H S.toArray j:=QaU (a:=S.toArray) (by simpa using hn) (zd0.mpr hy)
theorem QcL (o:Od U L)(tr:∀x y z,L' x y=true->L' y z=true->L' x z=true)(h0:0<n)(h:n<S.length)(s:Sd L' (S.take n))(c:L' (H S.toArray (n - 1)) (H S.toArray n)=true):Sd L' (S.take (n+1)):=by
 rw[Qbd h];refine z42.mpr ⟨s,z59.mpr ⟨@5,.nil⟩,fun x hx y hy=>?_⟩;rw[z16.mp hy];rw[show n=(n - 1)+1 by lia,Qbd @0] at hx s;rcases z08.mp hx with hx|hx
 ·have:=(z42.mp s).2.2 x hx _ (z16.mpr rfl);exact tr _ _ _ this c
 ·rw[z16.mp hx];exact c
theorem Qdr (r:Rst κ U pre S st)(o:Od U L)(h0:0<n)(h:n<S.length)(c:L (Srt.H S.toArray n) (Srt.H S.toArray (n - 1))=false):L (Srt.H S.toArray (n - 1)) (Srt.H S.toArray n)=true:=
 o.to _ _ (r.uH h) (r.uH @0) (r.ne h @0 @0) c
theorem QcM {Y:List Keyed}(e:a.toList=pre++(X++Y)):(mirror a pre.length (pre.length+X.length) ((pre.length+X.length - pre.length) / 2)).toList=pre++(X.reverse++Y):=by
 have sz:a.size=pre.length+(X.length+Y.length):=by
  have:=congrArg zd5 e;simpa using this
 refine zj6 fun k=>?_
 have g1:∀u,(pre++(X++Y))[u]? = if u<pre.length then pre[u]? else if u<pre.length+X.length then X[u - pre.length]? else Y[u - pre.length - X.length]?:=fun u=>by
  by_cases c:u<pre.length
  ·rw[if_pos c,z53 c]
  ·rw[if_neg c,z44 @0]
   by_cases c2:u<pre.length+X.length
   ·rw[if_pos c2,z53 @0]
   ·rw[if_neg c2,z44 @0]
 have g2:(pre++(X.reverse++Y))[k]? = if k<pre.length then pre[k]? else if k<pre.length+X.length then X.reverse[k - pre.length]? else Y[k - pre.length - X.length]?:=by
  by_cases c:k<pre.length
  ·rw[if_pos c,z53 c]
  ·rw[if_neg c,z44 @0]
   by_cases c2:k<pre.length+X.length
   ·rw[if_pos c2,z53 (by rw[zc6];lia)]
   ·rw[if_neg c2,z44 (by rw[zc6];lia),zc6]
 rw[z18,getElem?_mirror_all @0,← z18,← z18,e,g1,g1,g2]
 by_cases c:pre.length<=k/\k<pre.length+X.length
 ·rw[if_pos c,if_neg @0,if_pos @0,if_neg @0,if_pos c.2,List.getElem?_reverse @0]
  congr 1;lia
 ·rw[if_neg c]
  by_cases c1:k<pre.length
  ·rw[if_pos c1,if_pos c1]
  ·rw[if_neg c1,if_neg c1,if_neg @0,if_neg @0]
theorem QeZ (ask:Ask J M A E κ U L)(o:Od U L)(r:Rst κ U pre S st)(h0:0<S.length){Q:Option Nat->SortSt->Prop}
  (K:∀n st' S',Rst κ U pre S' st'->pendingOf st'=pendingOf st->S'.Perm S->0<n->n<=S'.length->Sd L (S'.take n)->Q (some n) st'):wpT J M A E (countRun' pre.length S.length) Q st:=by
 rw[countRun'_eq]
 have asc:∀{st:SortSt} {S:List Keyed} (r:Rst κ U pre S st) (n0:Nat),0<n0->n0<=S.length->Sd L (S.take n0)->∀{f:Nat->Option @17×Nat->StateT SortSt Sem (ForInStep (Option @17×Nat))},
   (∀i n (R:ForInStep (Option @17×Nat)->SortSt->Prop),0<n->n<S.length->(L (H S.toArray n) (H S.toArray (n - 1))=true->R (.done (none,n)) st)->(L (H S.toArray n) (H S.toArray (n - 1))=false->R (.yield (none,n+1)) st)->wpT J M A E (f i (none,n)) R st)->
   wpT J M A E (forIn [n0:S.length] (none,n0) f) (fun c st'=>∃n,c=(none,n)/\st=st'/\n0<=n/\n<=S.length/\Sd L (S.take n)/\(n<S.length->L (H S.toArray n) (H S.toArray (n - 1))=true)) st:=fun{st S} r n0 n1 n2 s f hf=>by
  refine Qba n2 (I:=fun i c st'=>c=(none,i)/\st=st'/\n0<=i/\Sd L (S.take i)) ?_ ?_ ⟨rfl,rfl,z15 _,s⟩
  ·rintro i c st' i1 i2 ⟨rfl,rfl,i3,s⟩;refine hf i i _ @0 i2 (fun c=>⟨i,rfl,rfl,i3,by lia,s,fun _=>c⟩) (fun c=>⟨rfl,rfl,by lia,QcL o o.tr @0 i2 s (Qdr r o @0 i2 c)⟩)
  ·rintro c st' ⟨rfl,rfl,i3,s⟩;exact⟨S.length,rfl,rfl,i3,z15 _,s,fun h=>absurd h (ze8 _)⟩
 have s1:Sd L (S.take 1):=by
  rw[Qbd (n:=0) h0,zh1];exact z59.mpr ⟨@5,.nil⟩
 refine Qa (Qq (asc r 1 @0 h0 s1 fun i n R n1 n2 h3 h4=>?_) ?_)
 ·dsimp only;rw[show pre.length+n - 1=pre.length+(n - 1) by lia];refine Qa (r.ask ask n2 @0 ?_)
  cases c:L (H S.toArray n) (H S.toArray (n - 1)) with
  |true=>exact Qc (h3 c)
  |false=>exact Qc (h4 c)
 rintro c st' ⟨n,rfl,rfl,n1,n2,s,hc⟩;refine Qh (fun c=>Qc (K n _ S r rfl (ze2 _) @0 n2 s)) @24;have c:¬ n=S.length:=by simpa using c
 refine Qh (fun c1=>?_) (fun c1=>?_)
 ·rw[show pre.length+n - 1=pre.length+(n - 1) by lia]
  have q:L (H S.toArray 0) (H S.toArray (n - 1))=true:=by
   have:=Qip (a:=(S.take n).toArray) s (show 0<n - 1 by lia) (by simp;lia)
   have h1:∀u,u<n->H (S.take n).toArray u=H S.toArray u:=fun u hu=>by
    rw[H,H,z32,z32,z56,z56,zb6 hu]
   rw[h1 0 @0,h1 (n - 1) @0] at this;exact this
  refine Qa (r.ask ask (u:=0) (v:=n - 1) @0 @0 ?_);rw[q];dsimp only;rw[if_pos rfl];exact Qc (K n _ S r rfl (ze2 _) @0 n2 s)
 have e1:n=1:=by lia
 subst e1;have d1:=hc @0;refine Qa (Yu ?_)
 have sd1:Sd (fl L) (S.take 1):=by
  rw[Qbd (n:=0) h0,zh1];exact z59.mpr ⟨@5,.nil⟩
 have trf:∀x y z,fl L x y=true->fl L y z=true->fl L x z=true:=fun x y z h1 h2=>o.tr z y x h2 h1;have sd2:Sd (fl L) (S.take 2):=QcL o trf (n:=1) @0 @0 sd1 d1;refine Qa (Qq (Qba (a:=1+1) @0 (I:=fun i c st'=>c=(none,i,0)/\st=st'/\2<=i/\Sd (fl L) (S.take i)) (Q:=fun c st'=>∃n,c=(none,n,0)/\st=st'/\2<=n/\n<=S.length/\Sd (fl L) (S.take n)) ?_ ?_ ⟨rfl,rfl,z15 _,sd2⟩) ?_)
 ·rintro i c st' i1 i2 ⟨rfl,rfl,i3,s⟩;dsimp only;rw[show pre.length+i - 1=pre.length+(i - 1) by lia];refine Qa (r.ask ask i2 @0 ?_)
  cases c:L (H S.toArray i) (H S.toArray (i - 1)) with
  |true=>
   dsimp only;rw[if_pos rfl,if_neg @0];exact Qc ⟨rfl,rfl,by lia,QcL o trf @0 i2 s c⟩
  |false=>
   dsimp only;rw[if_neg @2];refine Qa (r.ask ask @0 i2 ?_);rw[Qdr r o @0 i2 c];dsimp only;rw[if_pos rfl];exact Qc ⟨i,rfl,rfl,i3,by lia,s⟩
 ·rintro c st' ⟨rfl,rfl,i3,s⟩;exact⟨S.length,rfl,rfl,i3,z15 _,s⟩
 rintro c st' ⟨n,rfl,rfl,n1,n2,s⟩;dsimp only;rw[if_neg @0];rw[reverseSlice'_eq];refine Qa (QD ?_)
 have r2:Rst κ U pre ((S.take n).reverse++S.drop n) (setArr st (mirror (arrOf st) pre.length (pre.length+n) ((pre.length+n - pre.length) / 2))):=by
  have pm:((S.take n).reverse++S.drop n).Perm S:=by
   have:=(zd8 (S.take n)).append_right (S.drop n);rw[z33] at this;exact this
  refine⟨r.k,r.f,?_,fun x hx=>r.u x (pm.mem_iff.mp hx),pm.nodup_iff.mpr r.nd⟩;have ln:(S.take n).length=n:=by rw[z48];lia
  have:=QcM (a:=arrOf st) (pre:=pre) (X:=S.take n) (Y:=S.drop n) (by rw[z33];exact r.e);rw[ln] at this;exact this
 have pm:((S.take n).reverse++S.drop n).Perm S:=by
  have:=(zd8 (S.take n)).append_right (S.drop n);rw[z33] at this;exact this
 have sl:((S.take n).reverse++S.drop n).length=S.length:=pm.length_eq
 have st1:Sd L (((S.take n).reverse++S.drop n).take n):=by
  rw[zu6 (by rw[zc6,z48];lia),z86 (by rw[zc6,z48];lia)];exact QeY s
 generalize hS2:(S.take n).reverse++S.drop n=S2 at r2 pm sl st1;have hp:pendingOf (setArr st (mirror (arrOf st) pre.length (pre.length+n) ((pre.length+n - pre.length) / 2)))=pendingOf st:=rfl;generalize setArr st (mirror (arrOf st) pre.length (pre.length+n) ((pre.length+n - pre.length) / 2))=st2 at r2 hp ⊢;rw[← sl];refine Qa (Qq (asc r2 n @0 @0 st1 fun i m R m1 m2 h3 h4=>?_) ?_)
 ·dsimp only;rw[show pre.length+m - 1=pre.length+(m - 1) by lia];refine Qa (r2.ask ask m2 @0 ?_)
  cases c:L (H S2.toArray m) (H S2.toArray (m - 1)) with
  |true=>exact Qc (h3 c)
  |false=>exact Qc (h4 c)
 rintro c st3 ⟨m,rfl,rfl,m1,m2,s3,_⟩;exact Qc (K m _ S2 r2 hp pm @0 m2 s3)
end
section
theorem QcN {R t:List Keyed}(e:a.toList=P++(R++(x::t))):(bubble a (P.length+R.length) R.length).toList=P++(x::(R++t)):=by
 have sz:a.size=P.length+(R.length+(t.length+1)):=by
  have:=congrArg zd5 e;simpa using this
 refine zj6 fun k=>?_
 have g1:∀u,(P++(R++(x::t)))[u]? = if u<P.length then P[u]? else if u<P.length+R.length then R[u - P.length]? else(x::t)[u - P.length - R.length]?:=fun u=>by
  by_cases c:u<P.length
  ·rw[if_pos c,z53 c]
  ·rw[if_neg c,z44 @0]
   by_cases c2:u<P.length+R.length
   ·rw[if_pos c2,z53 @0]
   ·rw[if_neg c2,z44 @0]
 have g2:(P++(x::(R++t)))[k]? = if k<P.length then P[k]? else if k=P.length then some x else if k<=P.length+R.length then R[k - P.length - 1]? else t[k - P.length - 1 - R.length]?:=by
  by_cases c:k<P.length
  ·rw[if_pos c,z53 c]
  ·rw[if_neg c,z44 @0]
   by_cases c1:k=P.length
   ·rw[if_pos c1,c1,zk1];rfl
   ·rw[if_neg c1,show k - P.length=(k - P.length - 1)+1 by lia,zi3,y52]
    by_cases c2:k<=P.length+R.length
    ·rw[if_pos c2,z53 @0]
    ·rw[if_neg c2,z44 @0]
 rw[z18,getElem?_bubble @0 _ @0,← z18,← z18,← z18,e,g1,g1,g1,g2,y52]
 by_cases c1:k=P.length
 ·rw[if_pos c1,if_neg @0,if_neg @0,if_neg @0,if_pos c1,zc3,zk1];rfl
 ·rw[if_neg c1]
  by_cases c2:P.length<k/\k<=P.length+R.length
  ·rw[if_pos c2,if_neg @0,if_pos @0,if_neg @0,if_neg c1,if_pos c2.2]
   congr 1;lia
  ·rw[if_neg c2]
   by_cases c3:k<P.length
   ·rw[if_pos c3,if_pos c3]
   ·rw[if_neg c3,if_neg @0,if_neg c3,if_neg c1,if_neg @0,show k - P.length - R.length=(k - P.length - 1 - R.length)+1 by lia,zi3]
theorem Qi9 (ask:Ask J M A E κ U L)(o:Od U L)(r:Rst κ U pre S st){ok:Nat}(h1:0<ok)(h2:ok<=n)(h3:n<=S.length)(s:Sd L (S.take ok)){Q:Bool->SortSt->Prop}
  (K:∀st' S',Rst κ U pre S' st'->pendingOf st'=pendingOf st->S'.Perm S->Sd L (S'.take n)->Q true st'):wpT J M A E (binarySort' pre.length n ok) Q st:=by
 rw[binarySort'_eq,show max ok 1=ok by lia];refine Qa (Qq (Qba h2 (I:=fun k c st'=>c=(none,())/\∃S',Rst κ U pre S' st'/\pendingOf st'=pendingOf st/\S'.Perm S/\Sd L (S'.take k)) (Q:=fun c st'=>c=(none,())/\∃S',Rst κ U pre S' st'/\pendingOf st'=pendingOf st/\S'.Perm S/\Sd L (S'.take n)) ?_ (fun _ _ h=>h) ⟨rfl,S,r,rfl,ze2 _,s⟩) ?_)
 ·rintro k c st1 k1 k2 ⟨rfl,S1,r1,hp,pm,s⟩;have sl:=pm.length_eq
  refine Qa (Qq (QW (I:=fun y c st'=>∃l q,c=(none,l,q)/\st1=st'/\l<=q/\q<=k/\q - l<=k - y/\(∀u,u<l->L (H S1.toArray u) (H S1.toArray k)=true)/\(∀u,q<=u->u<k->L (H S1.toArray k) (H S1.toArray u)=true))
   (Q:=fun c st'=>∃l q,c=(none,l,q)/\st1=st'/\l<=k/\(∀u,u<l->L (H S1.toArray u) (H S1.toArray k)=true)/\(∀u,l<=u->u<k->L (H S1.toArray k) (H S1.toArray u)=true)) ?_ ?_ ⟨0,k,rfl,rfl,by lia,by lia,by lia,(fun u h=>absurd h (zg3 _)),fun u a b=>absurd b @0⟩) ?_)
  ·rintro y c st2 hy ⟨l,q,rfl,rfl,g1,g2,g3,g4,g5⟩;dsimp only;refine Qh (fun c=>Qc ⟨l,q,rfl,rfl,by lia,g4,fun u a b=>g5 u @0 b⟩) @24;have hm:(l+q) / 2<q/\l<=(l+q) / 2:=by lia
   have srt:∀u v,u<v->v<k->L (H S1.toArray u) (H S1.toArray v)=true:=fun u v a b=>by
    have:=Qip (a:=(S1.take k).toArray) s a (by simp;lia)
    have h1:∀u,u<k->H (S1.take k).toArray u=H S1.toArray u:=fun u hu=>by
     rw[H,H,z32,z32,z56,z56,zb6 hu]
    rw[h1 u @0,h1 v b] at this;exact this
   refine Qa (r1.ask ask (u:=k) (v:=(l+q) / 2) @0 @0 ?_)
   cases e:L (H S1.toArray k) (H S1.toArray ((l+q) / 2)) with
   |true=>
    refine Qc ⟨l,_,rfl,rfl,by lia,by lia,by lia,g4,fun u a b=>?_⟩
    by_cases z:u=(l+q) / 2
    ·subst z;exact e
    ·exact o.tr _ _ _ e (srt _ u @0 b)
   |false=>
    have e2:=o.to _ _ (r1.uH @0) (r1.uH @0) (r1.ne (i:=k) (j:=(l+q) / 2) @0 @0 @0) e;refine Qc ⟨_,q,rfl,rfl,by lia,g2,by lia,fun u a=>?_,g5⟩
    by_cases z:u=(l+q) / 2
    ·subst z;exact e2
    ·exact o.tr _ _ _ (srt u _ (show u<(l+q) / 2 by lia) @0) e2
  ·rintro c st2 ⟨l,q,rfl,rfl,g1,g2,g3,g4,g5⟩;exact⟨l,q,rfl,rfl,by lia,g4,fun u a b=>g5 u @0 b⟩
  rintro c st2 ⟨l,q,rfl,rfl,l1,g4,g5⟩;dsimp only;rw[moveDown'_eq];refine Qa (QD (Qc ⟨rfl,?_⟩));have hk:k<S1.length:=by lia
  have eS:S1=S1.take l++((S1.take k).drop l++(H S1.toArray k::S1.drop (k+1))):=by
   have a1:S1.take k=S1.take l++(S1.take k).drop l:=by
    have:=z33 l (S1.take k);rw[zy5,zq2 l1] at this;exact this.symm
   have a2:=Qdn (a:=S1.toArray) (i:=k) (by simpa using hk);have a2:S1.drop k=H S1.toArray k::S1.drop (k+1):=a2;rw[← a2,← z23,← a1,z33]
  have lP:(S1.take l).length=l:=by rw[z48];lia
  have lR:((S1.take k).drop l).length=k - l:=by rw[z93,z48];lia
  have mP:∀y∈S1.take l,∃u,u<l/\y=H S1.toArray u:=fun y hy=>Qes @0 hy
  have mR:∀y∈(S1.take k).drop l,∃u,l<=u/\u<k/\y=H S1.toArray u:=fun y hy=>by
   obtain⟨u,u1,u2,e⟩:=Yv (a:=(S1.take k).toArray) hy;have u2:u<k:=by simp at u2;lia
   refine⟨u,u1,u2,?_⟩;rw[e,H,H,z32,z32,z56,z56,zb6 u2]
  have sPR:Sd L (S1.take l++(S1.take k).drop l):=by
   have:=z33 l (S1.take k);rw[zy5,zq2 l1] at this;rw[this];exact s
  have eA:=r1.e;generalize S1.take l=P at eS lP mP sPR;generalize (S1.take k).drop l=R at eS lR mR sPR;generalize hx:H S1.toArray k=x at eS g4 g5;generalize S1.drop (k+1)=t at eS
  have pm2:(P++(x::(R++t))).Perm S1:=by
   rw[eS];refine zf1 P ?_;exact(List.perm_middle (l₁:=R)).symm
  refine⟨P++(x::(R++t)),⟨r1.k,r1.f,?_,fun y hy=>r1.u y (pm2.mem_iff.mp hy),pm2.nodup_iff.mpr r1.nd⟩,hp,pm2.trans pm,?_⟩
  ·rw[eS] at eA;have eB:(arrOf st1).toList=(pre++P)++(R++(x::t)):=by rw[eA,z23]
   have:=QcN eB;rw[z10,lP,lR] at this;show(bubble (arrOf st1) (pre.length+k) (pre.length+k - (pre.length+l))).toList=_;rw[show pre.length+k - (pre.length+l)=k - l by lia];rw[show pre.length+l+(k - l)=pre.length+k by lia] at this;rw[this,z23]
  ·have ek:(P++(x::(R++t))).take (k+1)=P++(x::R):=by
    have:(P++(x::(R++t)))=(P++(x::R))++t:=by rw[z23];rfl
    rw[this,List.take_left' (by rw[z10,z31,lP,lR];lia)]
   rw[ek];obtain⟨s1,s2,s3⟩:=z42.mp sPR;refine z42.mpr ⟨s1,z59.mpr ⟨fun y hy=>?_,s2⟩,fun y hy w hw=>?_⟩
   ·obtain⟨u,u1,u2,rfl⟩:=mR y hy;exact g5 u u1 u2
   ·rcases z21.mp hw with rfl|hw
    ·obtain⟨u,hu,rfl⟩:=mP y hy;exact g4 u hu
    ·exact s3 y hy w hw
 ·rintro c st1 ⟨rfl,S1,r1,hp,pm,s⟩;exact Qc (K st1 S1 r1 hp pm s)
end
def layR:Nat->List (List Keyed)->List (Nat×Nat)
 |_,[]=>[]
 |n,r::rs=>(n,r.length)::layR (n+r.length) rs
abbrev p2 (t:Nat×Nat×Nat):Nat×Nat:=(t.1,t.2.1)
theorem Qae:∀(n:Nat) (a b:List (List Keyed)),layR n (a++b)=layR n a++layR (n+a.flatten.length) b
 |n,[],b=>by simp[layR]
 |n,r::a,b=>by
  show(n,r.length)::layR (n+r.length) (a++b)=(n,r.length)::(layR (n+r.length) a++_);rw[Qae (n+r.length) a b,ze0,z10,y09]
theorem Qbe:∀(n:Nat) (a:List (List Keyed)),(layR n a).length=a.length
 |_,[]=>rfl
 |n,r::a=>by show(layR _ a).length+1=_;rw[Qbe];rfl
section
variable {rest:List Keyed}{rs r1 r2:List (List Keyed)}{Y:List Keyed}
structure Rn (κ:SortKind)(L:Keyed->Keyed->Bool)(T:List Keyed)(rs:List (List Keyed))(rest:List Keyed)(st:SortSt):Prop where
 k:kindOf st=κ
 f:failedOf st=none
 e:(arrOf st).toList=rs.flatten++rest
 pm:(arrOf st).toList.Perm T
 p:(pendingOf st).toList.map p2=layR 0 rs
 s:∀r∈rs,Sd L r/\0<r.length
theorem Rn.psz (r:Rn κ L T rs rest st):(pendingOf st).size=rs.length:=by
 have:=congrArg zd5 r.p;rw[z01,Qbe] at this;simpa using this
theorem Rn.merge (ask:Ask J M A E κ U L)(o:Od U L)(uT:∀x∈T,U x)(nT:T.Nodup)(r:Rn κ L T (r1++X::Y::r2) rest st)(hi:r1.length=i){Q:Bool->SortSt->Prop}
  (K:∀st' Z,Rn κ L T (r1++Z::r2) rest st'->Z.length=X.length+Y.length->Q true st'):wpT J M A E (mergeAt' i) Q st:=by
 have ea:(arrOf st).toList=r1.flatten++(X++(Y++(r2.flatten++rest))):=by
  rw[r.e];simp only[z55,ze0,z23]
 have hp:=r.p;rw[Qae,z96] at hp;have hp':(pendingOf st).toList.map p2=layR 0 r1++((r1.flatten.length,X.length)::(r1.flatten.length+X.length,Y.length)::layR (r1.flatten.length+X.length+Y.length) r2):=hp;obtain⟨P1,Pr,eP,q1,q2⟩:=List.map_eq_append_iff.mp hp';obtain⟨x,Pr,rfl,q3,q4⟩:=y27.mp q2;obtain⟨y,P2,rfl,q5,q6⟩:=y27.mp q4;obtain⟨x1,x2,x3⟩:=x;obtain⟨y1,y2,y3⟩:=y;obtain⟨rfl,rfl⟩:=y07 q3;obtain⟨rfl,rfl⟩:=y07 q5
 have l1:P1.length=i:=by
  have:=congrArg zd5 q1;rw[z01,Qbe] at this;rw[this,hi]
 have g1:(pendingOf st)[i]? = some (r1.flatten.length,X.length,x3):=by
  rw[← z18,eP,← l1,z44 (z15 _),zk1];rfl
 have g2:(pendingOf st)[i+1]? = some (r1.flatten.length+X.length,Y.length,y3):=by
  rw[← z18,eP,← l1,z44 @0,zc3];rfl
 have hX:=r.s X (z05 _ z09);have hY:=r.s Y (z05 _ (z07 _ z09))
 have mem:∀v,v∈X++Y->v∈T:=fun v hv=>r.pm.mem_iff.mp (by
  rw[ea];rcases z08.mp hv with z|z
  ·exact z05 _ (z13 _ z)
  ·exact z05 _ (z05 _ (z13 _ z)))
 have nd:(r1.flatten++(X++(Y++(r2.flatten++rest)))).Nodup:=by rw[← ea];exact r.pm.nodup_iff.mpr nT
 have ne:∀v∈X,∀w∈Y,v≠w:=fun v hv w hw e=>by
  have n2:=(z12.mp nd).2.1;exact(z12.mp n2).2.2 v hv w (z13 _ hw) e
 refine QcK ask o r.k r.f ea g1 g2 hX.1 hY.1 hX.2 hY.2 (fun v hv=>uT v (mem v (z13 _ hv))) (fun v hv=>uT v (mem v (z05 _ hv))) ne fun st' Z z1 z2 z3 z4 z5 z6=>?_;have lZ:Z.length=X.length+Y.length:=by rw[z4.length_eq,z10]
 refine K st' Z ⟨z1,z2,?_,?_,?_,fun v hv=>?_⟩ lZ
 ·rw[z3];simp only[z55,ze0,z23]
 ·rw[z3];refine zn5 ?_ r.pm;rw[ea];refine zf1 _ ?_;rw[← z23 X];exact z4.append_right _
 ·have e6:(pendingOf st').toList=P1++((r1.flatten.length,X.length+Y.length,x3)::P2):=by
   rw[z6,Array.toList_eraseIdxIfInBounds,zx2,eP,← l1,y16 _ _ (z15 _),zk1,List.eraseIdx_append_of_length_le @0,zc3];rfl
  rw[e6,z47,q1,z28,q6,Qae,z96];show layR 0 r1++((r1.flatten.length,X.length+Y.length)::_)=layR 0 r1++((r1.flatten.length,Z.length)::layR (r1.flatten.length+Z.length) r2);rw[lZ,y09]
 ·rcases z08.mp hv with z|z
  ·exact r.s v (z13 _ z)
  ·rcases z21.mp z with rfl|z
   ·exact⟨z5,by rw[lZ];have:=hX.2;lia⟩
   ·exact r.s v (z05 _ (z07 _ (z07 _ z)))
theorem Qan (h:i+1<rs.length):∃r1 X Y r2,rs=r1++X::Y::r2/\r1.length=i:=by
 refine⟨rs.take i,rs[i],rs[i+1],rs.drop (i+1+1),?_,by rw[z48];lia⟩;rw[← zb2,← zb2,z33]
theorem Qja (h:∀r∈rs,Sd L r/\0<r.length):rs.length<=rs.flatten.length:=by
 induction rs with
 |nil=>exact z15 _
 |cons r rs ih=>
  rw[ze0,z10,z31];have:=ih fun x hx=>h x (z07 _ hx);have:=(h r z09).2;lia
theorem Qiv {a:Array (Nat×Nat×Nat)}{i:Nat}{f:Nat×Nat×Nat->Nat×Nat×Nat}(h:∀t,p2 (f t)=p2 t):(a.modify i f).toList.map p2=a.toList.map p2:=by
 refine zj6 fun k=>?_;rw[z17,z17,z18,z18,Array.getElem?_modify]
 split
 ·rw[Option.map_map]
  congr 1
  funext t
  exact h t
 ·rfl
theorem Qho (ask:Ask J M A E κ U L)(o:Od U L)(uT:∀x∈T,U x)(nT:T.Nodup)(hk:kindOf st=κ)(hf:failedOf st=none)(hp:pendingOf st = #[])(ea:(arrOf st).toList=T)(h1:0<T.length)
  (K:∀st',failedOf st'=none->(arrOf st').toList.Perm T->Sd L (arrOf st').toList->Q () st'):wpT J M A E sortRuns' Q st:=by
 rw[sortRuns'_eq];refine Qa (Q6 ?_);have sz:(arrOf st).size=T.length:=by rw[← ea];simp
 dsimp only;rw[sz];generalize minRun' T.length T.length 0=mr;refine Qa (Qq (QW (I:=fun x c st'=>∃rs rest,c=(none,rs.flatten.length)/\x<=rs.flatten.length/\Rn κ L T rs rest st') (Q:=fun c st'=>∃rs n,c=(none,n)/\Rn κ L T rs [] st') ?_ ?_ ⟨[],T,rfl,z15 _,⟨hk,hf,ea,by rw[ea],by rw[hp];rfl,fun _ z=>nomatch z⟩⟩) ?_)
 ·rintro x c st1 hx ⟨rs,rest,rfl,hx2,r⟩;have tl:rs.flatten.length+rest.length=T.length:=by rw[← r.pm.length_eq,r.e,z10]
  refine Qh (fun c=>Qc ?_) @24
  ·have:rest=[]:=zv2 @0;subst this;exact⟨rs,_,rfl,r⟩
  rw[show T.length - rs.flatten.length=rest.length by lia];have QoM:∀x∈rest,x∈T:=fun x hx=>r.pm.mem_iff.mp (by rw[r.e];exact z05 _ hx);have ndR:rest.Nodup:=(z12.mp (show(rs.flatten++rest).Nodup by rw[← r.e];exact r.pm.nodup_iff.mpr nT)).2.1;have q0:Rst κ U rs.flatten rest st1:=⟨r.k,r.f,r.e,fun x hx=>uT x (QoM x hx),ndR⟩
  have again:∀{st2:SortSt} {S2:List Keyed} {m:Nat},Rst κ U rs.flatten S2 st2->pendingOf st2=pendingOf st1->S2.Perm rest->0<m->m<=S2.length->Sd L (S2.take m)->Rn κ L T rs S2 st2:=fun{st2 S2 m} r2 e pm _ _ _=>by
   refine⟨r2.k,r2.f,r2.e,?_,by rw[e];exact r.p,r.s⟩;rw[r2.e];refine(pm.append_left _).trans ?_;rw[← r.e];exact r.pm
  have more:∀{st2:SortSt} {S2:List Keyed} {m:Nat} {rs2:List (List Keyed)},Rn κ L T rs2 S2 st2->rs2.flatten.length=rs.flatten.length->0<m->m<=S2.length->Sd L (S2.take m)->∃rs3 Qet,((none,rs.flatten.length+m):Option Unit×Nat)=(none,rs3.flatten.length)/\x+1<=rs3.flatten.length/\Rn κ L T rs3 Qet (setPending st2 ((pendingOf st2).push (rs.flatten.length,m,0))):=fun{st2 S2 m rs2} r2 e m1 m2 s=>by
   have lt:(S2.take m).length=m:=by rw[z48];lia
   have fl:(rs2++[S2.take m]).flatten.length=rs.flatten.length+m:=by rw[z55,z10,e];simp[m2]
   refine⟨rs2++[S2.take m],S2.drop m,by rw[fl],by rw[fl];lia,r2.k,r2.f,?_,r2.pm,?_,fun v hv=>?_⟩
   ·show(arrOf st2).toList=_;rw[r2.e,z55];simp
   ·show((pendingOf st2).push _).toList.map p2=_;rw[z49,z47,r2.p,Qae,z96,e];show layR 0 rs2++[(rs.flatten.length,m)]=layR 0 rs2++[(rs.flatten.length,(S2.take m).length)];rw[lt]
   ·rcases z08.mp hv with z|z
    ·exact r2.s v z
    ·rw[z16.mp z];exact⟨s,by rw[lt];exact m1⟩
  refine Qa (QeZ ask o q0 @0 fun m st2 S2 t1 t2 t3 t4 t5 t6=>?_);refine Qh (fun c=>Qa (Yu (Qa (Qi9 ask o t1 (n:=min rest.length mr) t4 (by rw[t3.length_eq] at t5;lia) (by rw[t3.length_eq];lia) t6 fun st3 S3 v1 v2 v3 v4=>?_)))) @24
  ·rw[if_neg @2];have m1:0<min rest.length mr:=by lia
   have m2:min rest.length mr<=S3.length:=by rw[v3.length_eq,t3.length_eq];lia
   have rn:=again v1 (v2.trans t2) (v3.trans t3) m1 m2 v4;generalize min rest.length mr=m' at m1 m2 v4 ⊢;refine Qa (Q6 ?_)
   cases hb:(pendingOf st3).back? with
   |none=>
    exact Qa (QD (Qc (more rn rfl m1 m2 v4)))
   |some t=>
    obtain⟨u1,u2,u3⟩:=t;refine Qa (Qq (QW (I:=fun y c st'=>c=(none,())/\∃rs2,Rn κ L T rs2 S3 st'/\rs2.flatten.length=rs.flatten.length) (Q:=fun c st'=>c=(none,())/\∃rs2,Rn κ L T rs2 S3 st'/\rs2.flatten.length=rs.flatten.length) ?_ (fun _ _ h=>h) ⟨rfl,rs,rn,rfl⟩) ?_)
    ·rintro y c st4 hy ⟨rfl,rs2,r2,e2⟩;refine Qa (Q6 ?_);have ps:=r2.psz
     by_cases c1:(pendingOf st4).size > 1
     ·rw[if_pos c1]
      cases hg:(pendingOf st4)[(pendingOf st4).size - 2]? with
      |none=>exact Qc ⟨rfl,rs2,r2,e2⟩
      |some v=>
       obtain⟨v1,v2,v3⟩:=v;refine Qh (fun _=>Qc ⟨rfl,rs2,r2,e2⟩) (fun _=>?_);obtain⟨q1,X,Y,q2,e,li⟩:=Qan (rs:=rs2) (i:=(pendingOf st4).size - 2) @0;subst e;refine Qa (r2.merge ask o uT nT li fun st5 Z rz lz=>?_);rw[if_neg @2];refine Qc ⟨rfl,_,rz,?_⟩;rw[← e2];simp only[z55,ze0,z10];lia
     ·rw[if_neg c1];exact Qc ⟨rfl,rs2,r2,e2⟩
    ·rintro c st4 ⟨rfl,rs2,r2,e2⟩;refine Qa (QD ?_);refine Qa (QD (Qc (more (rs2:=rs2) ⟨r2.k,r2.f,r2.e,r2.pm,?_,r2.s⟩ e2 m1 m2 v4)));rw[← r2.p];exact Qiv fun _=>rfl
  ·have rn:=again t1 t2 t3 t4 t5 t6;refine Qa (Q6 ?_)
   cases hb:(pendingOf st2).back? with
   |none=>
    exact Qa (QD (Qc (more rn rfl t4 t5 t6)))
   |some t=>
    obtain⟨u1,u2,u3⟩:=t;refine Qa (Qq (QW (I:=fun y c st'=>c=(none,())/\∃rs2,Rn κ L T rs2 S2 st'/\rs2.flatten.length=rs.flatten.length) (Q:=fun c st'=>c=(none,())/\∃rs2,Rn κ L T rs2 S2 st'/\rs2.flatten.length=rs.flatten.length) ?_ (fun _ _ h=>h) ⟨rfl,rs,rn,rfl⟩) ?_)
    ·rintro y c st4 hy ⟨rfl,rs2,r2,e2⟩;refine Qa (Q6 ?_);have ps:=r2.psz
     by_cases c1:(pendingOf st4).size > 1
     ·rw[if_pos c1]
      cases hg:(pendingOf st4)[(pendingOf st4).size - 2]? with
      |none=>exact Qc ⟨rfl,rs2,r2,e2⟩
      |some v=>
       obtain⟨v1,v2,v3⟩:=v;refine Qh (fun _=>Qc ⟨rfl,rs2,r2,e2⟩) (fun _=>?_);obtain⟨q1,X,Y,q2,e,li⟩:=Qan (rs:=rs2) (i:=(pendingOf st4).size - 2) @0;subst e;refine Qa (r2.merge ask o uT nT li fun st5 Z rz lz=>?_);rw[if_neg @2];refine Qc ⟨rfl,_,rz,?_⟩;rw[← e2];simp only[z55,ze0,z10];lia
     ·rw[if_neg c1];exact Qc ⟨rfl,rs2,r2,e2⟩
    ·rintro c st4 ⟨rfl,rs2,r2,e2⟩;refine Qa (QD ?_);refine Qa (QD (Qc (more (rs2:=rs2) ⟨r2.k,r2.f,r2.e,r2.pm,?_,r2.s⟩ e2 t4 t5 t6)));rw[← r2.p];exact Qiv fun _=>rfl
 ·rintro c st1 ⟨rs,rest,rfl,hx2,r⟩;have tl:rs.flatten.length+rest.length=T.length:=by rw[← r.pm.length_eq,r.e,z10]
  have:rest=[]:=zv2 @0;subst this;exact⟨rs,_,rfl,r⟩
 rintro c st1 ⟨rs,n,rfl,r⟩
 have l0:rs.length<=T.length:=by
  have:=Qja r.s;have e:=r.pm.length_eq;rw[r.e,z50] at e;lia
 refine Qa (Qq (QW (I:=fun x c st'=>∃rs,c=(none,())/\Rn κ L T rs [] st'/\(rs.length<=1\/rs.length<=T.length - x)) (Q:=fun c st'=>∃rs,c=(none,())/\Rn κ L T rs [] st'/\rs.length<=1) ?_ ?_ ⟨rs,rfl,r,.inr @0⟩) ?_)
 ·rintro x c st2 hx ⟨rs,rfl,r,hl⟩;refine Qa (Q6 ?_);have ps:=r.psz;refine Qh (fun c=>Qc ⟨rs,rfl,r,by lia⟩) @24;have l2:2<=rs.length:=by lia
  have ok:∀i',i' + 1<rs.length->wpT J M A E (mergeAt' i') (fun r st'=>r=true/\∃rs,Rn κ L T rs [] st'/\rs.length<=T.length - (x+1)) st2:=fun i' h=>by
   obtain⟨r1,X,Y,r2,e,li⟩:=Qan h;subst e;refine r.merge ask o uT nT li fun st' Z rz _=>⟨rfl,_,rz,?_⟩;simp only[z10,z31] at hl ⊢;simp only[z10,z31] at l2;lia
  refine Qa (Qq (ok _ ?_) ?_)
  ·rw[ps]
   repeat' split
   all_goals lia
  ·rintro b st3 ⟨rfl,rs',r',l'⟩;rw[if_neg @2];exact Qc ⟨rs',rfl,r',.inr l'⟩
 ·rintro c st2 ⟨rs,rfl,r,hl⟩;exact⟨rs,rfl,r,by lia⟩
 rintro c st2 ⟨rs,rfl,r,hl⟩;refine Qc (K st2 r.f r.pm ?_);have el:=r.pm.length_eq;rw[r.e,z50] at el ⊢
 match rs,hl,r.s with
 | [],_,_=>exact .nil
 | [x],_,s=>
  have:=(s x z09).1;simpa using this
end
end L2.Srt
namespace L2.Srt
open PySem PySem.W PySem.Calls PyProof.Rows
variable {prog:Program}{w:World}{A:Around}{E Q:Value->Shared->Prop}{s:Shared}{vs:List Value}{n:Nat}{κ:SortKind}{P:PySem.Fin->Shared->Prop}{l q:Addr}{h:Heap}{pr x y:Int×Int}{qs:List Addr}{ps:List @13}
section
def Kp (h h':Heap):Prop:=∀b o,h.get? b=some o->h'.get? b=some o
theorem Qb3 {a:Addr}{lt:Nat->Nat->Bool}{h0:Heap}(ho:s.heap.get? a=some (seqObj "list" vs.toArray n))(h0k:Kp h0 s.heap)(h0a:h0.get? a=none)(h2:2<=vs.length)(h64:vs.length<=4000)(nv:vs.Nodup)(o:Ord vs.length lt)
  (hk:∀(h':Heap) (tk:Nat) (Q:SortKind->Shared->Prop),Kp h0 h'->Q κ { s with heap:=h',toks:=tk }->wpAny @1 A (keyKind' vs.toArray) Q (fun _ _=>False) { s with heap:=h',toks:=tk })
  (hc:∀(h':Heap) (tk i j:Nat) (Q:Bool->Shared->Prop),Kp h0 h'->i<vs.length->j<vs.length->(∀tk',Q (lt i j) { s with heap:=h',toks:=tk' })->wpAny @1 A (keyLt' κ (vs.getD i z40) (vs.getD j z40)) Q (fun _ _=>False) { s with heap:=h',toks:=tk })
  (hQ:∀(h':Heap) (tk:Nat) (is:List Nat) (c:Nat),is.Perm (z41 vs.length)->is.Pairwise (fun i j=>lt i j=true)->Kp h0 h'->h'.get? a=some (seqObj "list" (is.map fun i=>vs.getD i z40).toArray c)->P (.done (.ret .none)) { s with heap:=h',toks:=tk }) :
  wpAny @1 A (Builtin.«list.sort» ⟨[.ref a],[]⟩) P E s:=by
 have ha:a<s.heap.objs.size:=z34 ho;have s1:=z78 s.heap a (z54 fun _=>(#[]:Array Value));obtain⟨e1,ho1⟩:∃e1,(s.heap.update a (z54 fun _=>(#[]:Array Value))).get? a=some (seqObj "list" #[] e1):=⟨_,get?_update_seq ho fun _=>#[]⟩
 have ne:∀b o,h0.get? b=some o->b≠a:=fun b o e z=>by rw[z,h0a] at e;cases e
 have kp3:Kp h0 (((s.heap.update a (z54 fun _=>(#[]:Array Value))).push (seqObj "tuple" vs.toArray 0)).push @18):=fun b x e=>
  z14 _ (z14 _ ((s1.2 b (ne b x e)).trans (h0k b x e)))
 have ho3:(((s.heap.update a (z54 fun _=>(#[]:Array Value))).push (seqObj "tuple" vs.toArray 0)).push @18).get? a=some (seqObj "list" #[] e1):=z14 _ (z14 _ ho1)
 rw[list_sort_plain];refine z00 (listItems_at ho rfl ?_);refine z00 (listUpdate_at ho rfl ?_ (by rw[z22,z67];lia) (z58 _));refine z00 (seqEpoch_at ho1 rfl ?_);refine z00 (y21 ?_ (by show vs.length<=_;rw[z67];lia));refine z00 (zq0 ?_ (z58 _));refine z79 ?_;show wpAny @1 A _ P E { s with heap:=((s.heap.update a (z54 fun _=>(#[]:Array Value))).push (seqObj "tuple" vs.toArray 0)).push @18}
 generalize ((s.heap.update a (z54 fun _=>(#[]:Array Value))).push (seqObj "tuple" vs.toArray 0)).push @18=h3 at kp3 ho3 ⊢
 dsimp only;have hn2:¬ vs.toArray.size<2:=by rw[z22];lia
 rw[if_neg hn2,if_neg hn2];refine z00 (zb4 (hk h3 s.toks (fun κ' s'=>κ'=κ/\s'={ s with heap:=h3 }) kp3 ⟨rfl,rfl⟩) (fun κ' s0 hk'=>?_) fun _ _ x=>x.elim);obtain⟨rfl,rfl⟩:=hk'
 obtain⟨g,hg⟩:∃g:Keyed->Nat,∀i,i<vs.length->g (vs.getD i z40,vs.getD i z40)=i:=by
  classical
  refine⟨fun x=>if h:∃i,i<vs.length/\vs.getD i z40=x.1 then h.choose else 0,fun i hi=>?_⟩;have h:∃j,j<vs.length/\vs.getD j z40=vs.getD i z40:=⟨i,hi,rfl⟩;dsimp only;rw[dif_pos h];obtain⟨h1,h2⟩:=h.choose_spec;generalize h.choose=c at h1 h2 ⊢;rw[z25,z25,z06 h1,z06 hi] at h2;exact(zh6 nv).mp h2
 have eT:vs.map (fun v=>(v,v))=(z41 vs.length).map fun i=>((vs.getD i z40,vs.getD i z40):Keyed):=by
  apply zv1
  ·simp
  ·intro i h1 h2;rw[z01] at h1;simp[z25,z06 h1]
 have uT:∀x∈vs.map (fun v=>((v,v):Keyed)),∃i,i<vs.length/\x=(vs.getD i z40,vs.getD i z40):=fun x hx=>by
  rw[eT] at hx;obtain⟨i,hi,rfl⟩:=z37.mp hx;exact⟨i,z70.mp hi,rfl⟩
 have gT:(vs.map fun v=>((v,v):Keyed)).map g=z41 vs.length:=by
  rw[eT,z60]
  conv=>rhs;rw[← zr1 (z41 vs.length)]
  exact z80 fun i hi=>hg i (z70.mp hi)
 have nT:(vs.map fun v=>((v,v):Keyed)).Nodup:=List.Pairwise.map _ (fun a b ne e=>ne (y07 e).1) nv
 have run:=Qb1 (s:={ s with heap:=h3 }) (J:=fun s'=>∃tk,s'={ s with heap:=h3,toks:=tk }) (Qho (M:=model prog w) (A:=A) (E:=E) (κ:=κ') (U:=fun x=>∃i,i<vs.length/\x=(vs.getD i z40,vs.getD i z40)) (L:=fun x y=>lt (g x) (g y)) (T:=vs.map fun v=>(v,v)) (st:=SortSt.mk' κ' (vs.toArray.zip vs.toArray) #[] 7 none)
  (Q:=fun _ st'=>failedOf st'=none/\(arrOf st').toList.Perm (vs.map fun v=>(v,v))/\Sd (fun x y=>lt (g x) (g y)) (arrOf st').toList) ?ask ⟨fun x y z=>o.tr _ _ _,fun x=>o.ir _,?od⟩ uT nT rfl rfl rfl ?arr (by rw[z01];lia) fun st' a1 a2 a3=>⟨a1,a2,a3⟩) ⟨s.toks,rfl⟩
 case ask=>
  rintro x y st Q hk ⟨i,hi,rfl⟩ ⟨j,hj,rfl⟩ q;dsimp only at q;rw[hg i hi,hg j hj] at q;rw[lt'_eq];refine Qa (Q6 ?_);rw[hk];refine Qa ?_;rintro s1 ⟨tk,rfl⟩;show wpAny @1 A (Sem.attempt (keyLt' κ' (vs.getD i z40) (vs.getD j z40)) >>= fun a=>pure (a,st)) _ E _;refine z00 (zj9 (zb4 (hc h3 tk i j (fun c s'=>c=lt i j/\∃tk',s'={ s with heap:=h3,toks:=tk' }) kp3 hi hj fun tk'=>⟨rfl,tk',rfl⟩) (fun c s' hc'=>?_) fun _ _ hF=>hF.elim));obtain⟨rfl,hs⟩:=hc';exact z04 ⟨hs,Qc q⟩
 case od=>
  rintro x y ⟨i,hi,rfl⟩ ⟨j,hj,rfl⟩ ne e;rw[hg i hi,hg j hj] at e ⊢;exact o.to i j hi hj (fun z=>ne (by rw[z])) e
 case arr=>
  show(vs.toArray.zip vs.toArray).toList=_;rw[Array.toList_zip]
  have:∀l:List Value,l.zip l=l.map fun v=>(v,v):=fun l=>by
   induction l with
   |nil=>rfl
   |cons a l ih=>rw[z88,ih];rfl
  exact this vs
 refine z00 (zb4 run ?_ fun _ _ e=>e)
 ·rintro⟨⟨⟩,st'⟩ s' ⟨⟨tk,rfl⟩,hf,pm,sd⟩;dsimp only;dsimp only at hf pm sd
  have hout:(arrOf st').map (·.2)=(((arrOf st').toList.map g).map fun i=>vs.getD i z40).toArray:=by
   apply y57.mp
   rw[Array.toList_map,z60];refine z80 fun x hx=>?_;obtain⟨i,hi,rfl⟩:=uT x (pm.mem_iff.mp hx);show _=vs.getD (g _) z40;rw[hg i hi]
  have pr:=pm.map g;rw[gT] at pr;rw[hout];have pw:((arrOf st').toList.map g).Pairwise (fun i j=>lt i j=true):=zd9.mpr sd;generalize (arrOf st').toList.map g=is at pr pw ⊢;have hsz:(is.map fun i=>vs.getD i z40).toArray.size=vs.length:=by rw[z22,z01,pr.length_eq,z52]
  have s2:=z78 h3 a (z54 fun _=>(is.map fun i=>vs.getD i z40).toArray);obtain⟨c2,hc2⟩:∃c2,(h3.update a (z54 fun _=>(is.map fun i=>vs.getD i z40).toArray)).get? a=some (seqObj "list" (is.map fun i=>vs.getD i z40).toArray c2):=⟨_,get?_update_seq ho3 fun _=>(is.map fun i=>vs.getD i z40).toArray⟩
  refine z00 (seqEpoch_at ho3 rfl ?_);refine z00 (listUpdate_at ho3 rfl ?_ (z58 _) (z73 (Nat.le_of_eq hsz) (by rw[z67];lia)));rw[hf];simp only[bne_self_eq_false,z35,if_false];exact z04 (hQ _ tk is c2 pr pw (fun b x e=>(s2.2 b (ne b x e)).trans (kp3 b x e)) hc2)
theorem QcO{lt:Nat->Nat->Bool}(hl:s.heap.IsList l vs.toArray)(h2:2<=vs.length)(h64:vs.length<=4000)(nv:vs.Nodup)(o:Ord vs.length lt)
  (hk:∀(h':Heap) (tk:Nat) (Q:SortKind->Shared->Prop),Kp s.heap h'->Q κ { s with heap:=h',toks:=tk }->wpAny @1 A.in1.in1 (keyKind' vs.toArray) Q (fun _ _=>False) { s with heap:=h',toks:=tk })
  (hc:∀(h':Heap) (tk i j:Nat) (Q:Bool->Shared->Prop),Kp s.heap h'->i<vs.length->j<vs.length->(∀tk',Q (lt i j) { s with heap:=h',toks:=tk' })->wpAny @1 A.in1.in1 (keyLt' κ (vs.getD i z40) (vs.getD j z40)) Q (fun _ _=>False) { s with heap:=h',toks:=tk })
  (hQ:∀(h':Heap) (tk:Nat) (is:List Nat) (c:Nat),is.Perm (z41 vs.length)->is.Pairwise (fun i j=>lt i j=true)->Kp s.heap h'->h'.get? (s.heap.objs.size+1)=some (seqObj "list" (is.map fun i=>vs.getD i z40).toArray c)->Q (.ref (s.heap.objs.size+1)) { s with heap:=h',toks:=tk }) :
  wpAny @1 A (call (.builtin "sorted") [.ref l]) Q E s:=by
 refine zm3 kind_sorted plain_sorted entry_sorted (args_sorted1 _) ?_;unfold Builtin.«sorted»;refine z00 (m:=checkCount "sorted" 1 1 _) (z04 ?_)
 refine z00 (collect_list hl ?_ (by rw[z67];lia));refine z00 (zq0 ?_ (by rw[z67];lia))
 have hsz:((s.heap.push @18).update s.heap.objs.size (z54 (·++vs.toArray))).objs.size=s.heap.objs.size+1:=by
  rw[zv4,size_push']
 have hoL:(((s.heap.push @18).update s.heap.objs.size (z54 (·++vs.toArray))).push (seqObj "list" vs.toArray 0)).get? (s.heap.objs.size+1)=some (seqObj "list" vs.toArray 0):=by
  rw[← hsz];exact z29 _ rfl
 have keep:Kp s.heap (((s.heap.push @18).update s.heap.objs.size (z54 (·++vs.toArray))).push (seqObj "list" vs.toArray 0)):=fun b o q=>by
  have hlt:b<s.heap.objs.size:=z34 q;rw[zj7 _ _ _ (by rw[hsz];exact z45 (zc5 hlt)),zr2 _ _ _ _ (z45 hlt),zj7 _ _ _ (z45 hlt)];exact q
 have hn0:s.heap.get? (s.heap.objs.size+1)=none:=zl0 (zm0 _);show wpAny _ _ _ _ _ { s with heap:=((s.heap.push @18).update s.heap.objs.size (z54 (·++vs.toArray))).push (seqObj "list" vs.toArray 0)}
 rw[hsz];refine z00 (z79 (z61 slot_list_sort ⟨_,hoL,rfl⟩ entry_list_sort ?body (args_list_sort _)))
 case body=>
  refine Qb3 (s:={ s with heap:=((s.heap.push @18).update s.heap.objs.size (z54 (·++vs.toArray))).push (seqObj "list" vs.toArray 0)}) (h0:=s.heap) (κ:=κ) (lt:=lt) hoL keep hn0 h2 h64 nv o (fun h' tk Q kp q=>hk h' tk Q kp q) (fun h' tk i j Q kp hi hj q=>hc h' tk i j Q kp hi hj q) fun h' tk p c pp up kp hD=>?_
  exact⟨_,rfl,z04 ⟨_,rfl,hQ h' tk p c pp up kp hD⟩⟩
end
section
theorem QaW {a:Addr}{h0:Heap}(ho:s.heap.get? a=some (seqObj "list" vs.toArray n))(h0k:Kp h0 s.heap)(h0a:h0.get? a=none)(h2:vs.length<2)
  (hQ:∀(h':Heap) (tk:Nat) (c:Nat),Kp h0 h'->h'.get? a=some (seqObj "list" vs.toArray c)->P (.done (.ret .none)) { s with heap:=h',toks:=tk }) :
  wpAny @1 A (Builtin.«list.sort» ⟨[.ref a],[]⟩) P E s:=by
 have s1:=z78 s.heap a (z54 fun _=>(#[]:Array Value));obtain⟨e1,ho1⟩:∃e1,(s.heap.update a (z54 fun _=>(#[]:Array Value))).get? a=some (seqObj "list" #[] e1):=⟨_,get?_update_seq ho fun _=>#[]⟩
 have ne:∀b o,h0.get? b=some o->b≠a:=fun b o e z=>by rw[z,h0a] at e;cases e
 have kp3:Kp h0 (((s.heap.update a (z54 fun _=>(#[]:Array Value))).push (seqObj "tuple" vs.toArray 0)).push @18):=fun b x e=>
  z14 _ (z14 _ ((s1.2 b (ne b x e)).trans (h0k b x e)))
 have ho3:(((s.heap.update a (z54 fun _=>(#[]:Array Value))).push (seqObj "tuple" vs.toArray 0)).push @18).get? a=some (seqObj "list" #[] e1):=z14 _ (z14 _ ho1)
 rw[list_sort_plain];refine z00 (listItems_at ho rfl ?_);refine z00 (listUpdate_at ho rfl ?_ (by rw[z22,z67];lia) (z58 _));refine z00 (seqEpoch_at ho1 rfl ?_);refine z00 (y21 ?_ (by show vs.length<=_;rw[z67];lia));refine z00 (zq0 ?_ (z58 _));refine z79 ?_;show wpAny @1 A _ P E { s with heap:=((s.heap.update a (z54 fun _=>(#[]:Array Value))).push (seqObj "tuple" vs.toArray 0)).push @18}
 generalize ((s.heap.update a (z54 fun _=>(#[]:Array Value))).push (seqObj "tuple" vs.toArray 0)).push @18=h3 at kp3 ho3 ⊢
 dsimp only;have hn2:vs.toArray.size<2:=by rw[z22];lia
 rw[if_pos hn2,if_pos hn2];refine z00 (z04 ?_);rw[StateT.run_pure];refine z00 (z04 ?_);dsimp only
 have e2:(arrOf (SortSt.mk' general' (vs.toArray.zip vs.toArray) #[] 7 none)).map (·.2)=vs.toArray:=by
  show((vs.toArray.zip vs.toArray)).map (·.2)=vs.toArray
  apply y57.mp
  simp[zu8]
 rw[e2];have s2:=z78 h3 a (z54 fun _=>vs.toArray);obtain⟨c2,hc2⟩:∃c2,(h3.update a (z54 fun _=>vs.toArray)).get? a=some (seqObj "list" vs.toArray c2):=⟨_,get?_update_seq ho3 fun _=>vs.toArray⟩
 refine z00 (seqEpoch_at ho3 rfl ?_);refine z00 (listUpdate_at ho3 rfl ?_ (z58 _) (by rw[z22,z67];lia));simp only[bne_self_eq_false,z35,if_false];exact z04 (hQ _ s.toks c2 (fun b x e=>(s2.2 b (ne b x e)).trans (kp3 b x e)) hc2)
end
section
theorem Qeu{lt:Nat->Nat->Bool}(hl:s.heap.IsList l vs.toArray)(h64:vs.length<=4000)(nv:vs.Nodup)(o:Ord vs.length lt)
  (hk:2<=vs.length->∀(h':Heap) (tk:Nat) (Q:SortKind->Shared->Prop),Kp s.heap h'->Q κ { s with heap:=h',toks:=tk }->wpAny @1 A.in1.in1 (keyKind' vs.toArray) Q (fun _ _=>False) { s with heap:=h',toks:=tk })
  (hc:∀(h':Heap) (tk i j:Nat) (Q:Bool->Shared->Prop),Kp s.heap h'->i<vs.length->j<vs.length->(∀tk',Q (lt i j) { s with heap:=h',toks:=tk' })->wpAny @1 A.in1.in1 (keyLt' κ (vs.getD i z40) (vs.getD j z40)) Q (fun _ _=>False) { s with heap:=h',toks:=tk })
  (hQ:∀(h':Heap) (tk:Nat) (is:List Nat) (c:Nat),is.Perm (z41 vs.length)->is.Pairwise (fun i j=>lt i j=true)->Kp s.heap h'->h'.get? (s.heap.objs.size+1)=some (seqObj "list" (is.map fun i=>vs.getD i z40).toArray c)->Q (.ref (s.heap.objs.size+1)) { s with heap:=h',toks:=tk }) :
  wpAny @1 A (call (.builtin "sorted") [.ref l]) Q E s:=by
 by_cases h2:2<=vs.length
 ·exact QcO hl h2 h64 nv o (hk h2) hc hQ
 ·refine zm3 kind_sorted plain_sorted entry_sorted (args_sorted1 _) ?_;unfold Builtin.«sorted»;refine z00 (m:=checkCount "sorted" 1 1 _) (z04 ?_)
  refine z00 (collect_list hl ?_ (by rw[z67];lia));refine z00 (zq0 ?_ (by rw[z67];lia))
  have hsz:((s.heap.push @18).update s.heap.objs.size (z54 (·++vs.toArray))).objs.size=s.heap.objs.size+1:=by
   rw[zv4,size_push']
  have hoL:(((s.heap.push @18).update s.heap.objs.size (z54 (·++vs.toArray))).push (seqObj "list" vs.toArray 0)).get? (s.heap.objs.size+1)=some (seqObj "list" vs.toArray 0):=by
   rw[← hsz];exact z29 _ rfl
  have keep:Kp s.heap (((s.heap.push @18).update s.heap.objs.size (z54 (·++vs.toArray))).push (seqObj "list" vs.toArray 0)):=fun b o q=>by
   have hlt:b<s.heap.objs.size:=z34 q;rw[zj7 _ _ _ (by rw[hsz];exact z45 (zc5 hlt)),zr2 _ _ _ _ (z45 hlt),zj7 _ _ _ (z45 hlt)];exact q
  have hn0:s.heap.get? (s.heap.objs.size+1)=none:=zl0 (zm0 _);show wpAny _ _ _ _ _ { s with heap:=((s.heap.push @18).update s.heap.objs.size (z54 (·++vs.toArray))).push (seqObj "list" vs.toArray 0)}
  rw[hsz];refine z00 (z79 (z61 slot_list_sort ⟨_,hoL,rfl⟩ entry_list_sort ?body (args_list_sort _)))
  case body=>
   refine QaW (s:={ s with heap:=((s.heap.push @18).update s.heap.objs.size (z54 (·++vs.toArray))).push (seqObj "list" vs.toArray 0)}) (h0:=s.heap) hoL keep hn0 @0 fun h' tk c kp hD=>?_
   refine⟨_,rfl,z04 ⟨_,rfl,hQ h' tk (z41 vs.length) c (ze2 _) ?_ kp ?_⟩⟩
   ·rw[z84];intro i j hi hj hij;rw[z52] at hj;lia
   ·rw[hD]
    congr 2
    refine congrArg y14 ?_
    apply zv1
    ·simp
    ·intro i h1 h2;simp[z25,z06 h1]
end
def ltP (a b:Int×Int):Bool:=decide (a.1<b.1\/(a.1=b.1/\a.2<b.2))
def PT (K:z02)(H:Hp)(q:Addr)(pr:Int×Int):Prop:=SqT K H q [.int pr.1,.int pr.2]
def PO (h:Heap)(q:Addr)(pr:Int×Int):Prop:=∃o t u n,h.get? q=some o/\o.cls=.type "tuple" /\ o.data=.seq #[.int pr.1 t,.int pr.2 u] n
theorem PO.kp {h':Heap}(p:PO h q pr)(k:Kp h h'):PO h' q pr:=by
 obtain⟨o,t,u,n,e,r⟩:=p;exact⟨o,t,u,n,k _ _ e,r⟩
theorem Qe0 {X:Cx}{pins:List @8}{σ:St}{H:Hp}(I:Inv X pins σ H s)(h:PT X.K H q pr):PO s.heap q pr:=by
 obtain⟨its,rv,⟨o,e,c,n,d⟩,_⟩:=I.tuple h;obtain⟨u,v,rfl,⟨t,rfl⟩,⟨t',rfl⟩⟩:=Vals.two rv;exact⟨o,t,t',n,e,c,d⟩
theorem Qjb(p:Paired (PO h) qs ps):∃fs,KatTups h (qs.map z30) fs/\fs.length=ps.length/\∀v∈fs,∃i t,v=z82 i t:=by
 induction p with
 |nil=>exact⟨[],.nil,rfl,fun v z=>nomatch z⟩
 |cons z _ ih=>
  obtain⟨fs,k,l,a⟩:=ih;obtain⟨o,t,u,n,e,c,d⟩:=z;refine⟨_::fs,KatTups.cons e c d rfl k,by rw[z31,z31,l],fun v hv=>?_⟩;rcases z21.mp hv with rfl|hv
  ·exact⟨_,_,rfl⟩
  ·exact a v hv
theorem Qjc {prog:Program}{w:World}{r:Addr}{a b:Int×Int}{Q:Bool->Shared->Prop}(hq:PO s.heap q a)(hr:PO s.heap r b)(h:Q (ltP a b) s):wpAny @1 A (keyLt' (tuples' true) (.ref q) (.ref r)) Q E s:=by
 obtain⟨o,t,u,n,e,c,d⟩:=hq;obtain⟨o',t',u',n',e',c',d'⟩:=hr;refine kat_lt (b:=true) e d e' d' ?_;show KatLex prog w A true _ Q [(z82 a.1 t,z82 b.1 t'),(z82 a.2 u,z82 b.2 u')] 0 s;refine kat_cons ((za1 a.1 t b.1 t') prog w _ _ (kat_go (fun e1=>kat_yes ?_) fun e1=>kat_no ?_))
 ·have e1':a.1=b.1:=by simpa using e1
  refine kat_cons ((za1 a.2 u b.2 u') prog w _ _ (kat_go (fun e2=>kat_yes ?_) fun e2=>kat_no ?_))
  ·have e2':a.2=b.2:=by simpa using e2
   refine kat_nil ?_;have z:ltP a b=false:=decide_eq_false @0;rw[z] at h;exact h
  ·have e2':a.2≠b.2:=by simpa using e2
   refine kat_one _ _ (zw8 ?_);show Q (decide (a.2<b.2)) s;have z:ltP a b=decide (a.2<b.2):=by unfold ltP;simp[e1']
   rw[z] at h;exact h
 ·have e1':a.1≠b.1:=by simpa using e1
  refine oneLt_int ?_;have z:ltP a b=decide (a.1<b.1):=by unfold ltP;simp[e1']
  rw[z] at h;exact h
theorem Qb4.Qoj {R:Addr->Int×Int->Prop}(p:Paired R qs ps){i:Nat}(hi:i<qs.length):R (qs.getD i 0) (ps.getD i (0,0)):=by
 have e:qs[i]? = some qs[i]:=z06 hi;obtain⟨b,eb,r⟩:=Paired.get p e;rw[z25,z25,e,eb];exact r
theorem range_getD {α:Type}(d:α)(l:List α):(z41 l.length).map (fun i=>l.getD i d)=l:=by
 apply zv1
 ·simp
 ·intro i h1 h2;simp[z25,z06 h2]
section
theorem Qao:∀{qs:List Addr} {us:List Value},Vals (qs.map V.ref) us->us=qs.map z30
 | [],_,.nil=>rfl
 |q::qs,_,.cons r t=>by cases r;rw[Qao t];rfl
theorem Vo:∀(qs:List Addr),Vals (qs.map V.ref) (qs.map z30)
 | []=>.nil
 |q::qs=>.cons rfl (Vo qs)
end
inductive Qb5 (A:Around) (s:Shared) (fin:Bool):List (Value×Value)->Bool->Prop
 |nil:Qb5 A s fin [] fin
 |eq {p q:Value} {r:List (Value×Value)} {b:Bool} (h:zi7 A s p q true) (t:Qb5 A s fin r b):Qb5 A s fin ((p,q)::r) b
 |lt {p q:Value} {r:List (Value×Value)} {b:Bool} (h:zi7 A s p q false) (t:∀(prog:Program) (w:World) (E Q:Value->Shared->Prop),Q (.bool b) s->wpAny @1 A (richCompare .Lt p q) Q E s):Qb5 A s fin ((p,q)::r) b
section
open PySem.SeqAt
open PySem.AutoSeq1 (wpAny_loadPart')
open PySem.MeetsSeq PySem.MeetsSeq2 PySem.MeetsSeq3
theorem Qb6 (l b:Addr)(items items2:Array Value)(n n2:Nat)(dd dd2:Option Addr)(sl sl2:Array (Option Value))(res:Bool) :
  Meets (Builtin.«tuple.__lt__» ⟨[.ref l,.ref b],[]⟩)
   (fun A R s=>s.heap.get? l=some { cls:=.type "tuple",dict:=dd,data:=.seq items n,slots:=sl }/\s.heap.get? b=some { cls:=.type "tuple",dict:=dd2,data:=.seq items2 n2,slots:=sl2 }/\
    Qb5 A.in1 s (decide (items.size<items2.size)) (items.toList.zip items2.toList) res/\R (.ok (.ret (.bool res))) s):=
 .of_wp fun prog w A R s h=>by
  obtain⟨hp,g,d,tk,os⟩:=s;obtain⟨hl,hb,hx,h⟩:=h;have f2:=AutoSeq1.sub_tuple_tuple
  wp_walk using zr7 hl,zr7 hb,zc2 _ (fun rest b s'=>b.1=none/\s'=⟨hp,g,d,tk,os⟩/\Qb5 A.in1 ⟨hp,g,d,tk,os⟩ (decide (items.size<items2.size)) rest res) _
  case turn=>
   rintro⟨y,x⟩ rest b s' ⟨hb',rfl,hL⟩
   cases hL with
   |eq he hr=>
    refine z00 (he prog w _ _ ?_)
    wp_walk
    exact⟨rfl,rfl,hr⟩
   |lt he hlt=>
    refine z00 (he prog w _ _ ?_);have hri:=hlt prog w
    wp_walk using hri
    exact⟨_,rfl,by simpa using h⟩
  case fin=>
   rintro⟨b1,b2⟩ s' ⟨hb',rfl,hL⟩;simp only at hb';subst hb';cases hL
   wp_walk
   exact⟨_,rfl,by simpa[Builtin.Tuple.tupleCompareSizes] using h⟩
  case h=>exact⟨rfl,rfl,hx⟩
end
theorem Qk4 {prog:Program}{w:World}{b:Addr}{o o2:Obj}{items items2:Array Value}{n2:Nat}{res:Bool}(h1:s.heap.get? l=some o)(c1:o.cls=.type "tuple")(d1:o.data=.seq items n)(h2:s.heap.get? b=some o2)(c2:o2.cls=.type "tuple")(d2:o2.data=.seq items2 n2)
  (hu:A.units<cLine) (hx:Qb5 A.in1 s (decide (items.size<items2.size)) (items.toList.zip items2.toList) res) (h:Q (.bool res) s):wpAny @1 A (compareOp .Lt (.ref l) (.ref b)) Q E s:=by
 obtain⟨cls,dd,data,sl⟩:=o;obtain⟨cls2,dd2,data2,sl2⟩:=o2;simp only at c1 d1 c2 d2;subst c1 d1 c2 d2
 exact richCompare_meets_room (op:=.Lt) ⟨_,h1,rfl⟩ ⟨_,h2,rfl⟩ PySem.F.slot_tuple_lt PySem.F.entry_tuple_lt (PySem.F.args_tuple_lt_2 _ _) (Qb6 l b items items2 n n2 dd dd2 sl sl2 res)
  ⟨h1,h2,hx,show y37 res≠Value.notImplemented/\Q (.bool res) s from⟨(fun x=>nomatch x),h⟩⟩ hu
abbrev NP:=Int×@13
def QoN (a b:NP):Bool:=decide (a.1<b.1) || (decide (a.1=b.1) && ltP a.2 b.2)
theorem PO.det(p:PO h q x)(p':PO h q y):x=y:=by
 obtain⟨o,t,u,n,e,c,d⟩:=p;obtain⟨o',t',u',n',e',c',d'⟩:=p';rw[e] at e';cases e';rw[d] at d';injection d' with d1 d2;have:=congrArg y12 d1;simp at this;exact zo0 this.1.1 this.2.1
theorem Qjd{r:Addr}(hu:A.units<cLine)(hq:PO s.heap q x)(hr:PO s.heap r y):zi7 A s (.ref q) (.ref r) (decide (x=y)):=by
 by_cases e:q=r
 ·subst e;rw[decide_eq_true (hq.det hr)];exact zn2 _
 ·obtain⟨o,t1,t2,n,e1,c1,d1⟩:=hq;obtain⟨o',t3,t4,n',e2,c2,d2⟩:=hr;refine zo9 e ?_
  have key:=zz9 (A:=A) (e:=fun j=>if j=0 then x.1 == y.1 else x.2 == y.2) (show s.heap.IsTuple q [z82 x.1 t1,z82 x.2 t2].toArray from⟨o,e1,c1,n,d1⟩) (show s.heap.IsTuple r [z82 y.1 t3,z82 y.2 t4].toArray from⟨o',e2,c2,n',d2⟩) hu (fun j h1 h2=>by
   have hj:j=0\/j=1:=by simp at h1;lia
   rcases hj with rfl|rfl
   ·exact za1 x.1 t1 y.1 t3
   ·exact za1 x.2 t2 y.2 t4)
  have e2:((z41 (min [z82 x.1 t1,z82 x.2 t2].toArray.size [z82 y.1 t3,z82 y.2 t4].toArray.size)).all (fun j=>if j=0 then x.1 == y.1 else x.2 == y.2) && [z82 x.1 t1,z82 x.2 t2].toArray.size == [z82 y.1 t3,z82 y.2 t4].toArray.size)=decide (x=y):=by
   obtain⟨x1,x2⟩:=x;obtain⟨y1,y2⟩:=y
   by_cases h1:x1=y1<;>by_cases h2:x2=y2<;>simp[h1,h2,zp2]
  rw[e2] at key;exact key
theorem Qok {prog:Program}{w:World}{r:Addr}(hu:A.units<cLine)(hq:PO s.heap q x)(hr:PO s.heap r y)(h:Q (.bool (ltP x y)) s):wpAny @1 A (compareOp .Lt (.ref q) (.ref r)) Q E s:=by
 obtain⟨o,t1,t2,n,e1,c1,d1⟩:=hq;obtain⟨o',t3,t4,n',e2,c2,d2⟩:=hr;refine Qk4 e1 c1 d1 e2 c2 d2 hu ?_ h;show Qb5 _ s false [(z82 x.1 t1,z82 y.1 t3),(z82 x.2 t2,z82 y.2 t4)] _
 by_cases h1:x.1=y.1
 ·refine .eq (by have:=za1 (A:=A.in1) (s:=s) x.1 t1 y.1 t3;rwa[beq_iff_eq.mpr h1] at this) ?_
  by_cases h2:x.2=y.2
  ·have z:ltP x y=false:=decide_eq_false @0;rw[z];exact .eq (by have:=za1 (A:=A.in1) (s:=s) x.2 t2 y.2 t4;rwa[beq_iff_eq.mpr h2] at this) .nil
  ·have z:ltP x y=decide (x.2<y.2):=by unfold ltP;simp[h1]
   rw[z];exact .lt (by have:=za1 (A:=A.in1) (s:=s) x.2 t2 y.2 t4;rwa[beq_eq_false_iff_ne.mpr h2] at this) fun prog w E Q hq=>HT.rcLt_int _ _ _ _ _ _ prog w E Q hq
 ·have z:ltP x y=decide (x.1<y.1):=by unfold ltP;simp[h1]
  rw[z];exact .lt (by have:=za1 (A:=A.in1) (s:=s) x.1 t1 y.1 t3;rwa[beq_eq_false_iff_ne.mpr h1] at this) fun prog w E Q hq=>HT.rcLt_int _ _ _ _ _ _ prog w E Q hq
end L2.Srt
namespace L2.Srt
open PySem PySem.W PySem.Calls PyProof.Rows
variable {a b:Int×Int}{α:Type}{qs:List Addr}
theorem Qap (a:Int×Int):ltP a a=false:=decide_eq_false @0
theorem Qe1 {c:Int×Int}(h:ltP a b=true)(h':ltP b c=true):ltP a c=true:=by
 have h:=of_decide_eq_true h;have h':=of_decide_eq_true h';exact decide_eq_true @0
theorem QcP(h:a≠b)(h':ltP a b=false):ltP b a=true:=by
 have h':=of_decide_eq_false h';refine decide_eq_true ?_
 by_cases e:a.1=b.1
 ·have:a.2≠b.2:=fun z=>h (zo0 e z);lia
 ·lia
structure Lin {α:Type}(lt:α->α->Bool):Prop where
 irr:∀a,lt a a=false
 tr:∀a b c,lt a b=true->lt b c=true->lt a c=true
 tot:∀a b,a≠b->lt a b=false->lt b a=true
theorem YC:Lin ltP:=⟨Qap,fun _ _ _=>Qe1,fun _ _=>QcP⟩
theorem Lin.ord{lt:α->α->Bool}(L:Lin lt)(d:α){ps:List α}(nd:ps.Nodup):Ord ps.length fun i j=>lt (ps.getD i d) (ps.getD j d) where
 ir:=fun i=>L.irr _
 tr:=fun i j k a b=>L.tr _ _ _ a b
 to:=fun i j hi hj ne a=>by
  refine L.tot _ _ (fun z=>?_) a;rw[z25,z25,z06 hi,z06 hj] at z;exact ne ((zh6 nd).mp z)
theorem Qb4.Qk5{d:α}{R:Addr->α->Prop}{ps:List α}(p:Paired R qs ps){i:Nat}(hi:i<qs.length):R (qs.getD i 0) (ps.getD i d):=by
 have e:qs[i]? = some qs[i]:=z06 hi;obtain⟨b,eb,r⟩:=Paired.get p e;rw[z25,z25,e,eb];exact r
structure Qb7 (A:Around)(α:Type)(lt:α->α->Bool)(PO:Heap->Addr->α->Prop)(κ:SortKind):Prop where
 kp:∀{h h':Heap} {q:Addr} {x:α},PO h q x->Kp h h'->PO h' q x
 kind:∀{prog:Program} {w:World} {s:Shared} {qs:List Addr} {ps:List α} {Q:SortKind->Shared->Prop},Paired (PO s.heap) qs ps->2<=ps.length->Q κ s->wpAny @1 A (keyKind' (qs.map z30).toArray) Q (fun _ _=>False) s
 det:∀{h:Heap} {q:Addr} {x y:α},PO h q x->PO h q y->x=y
 cmp:∀{prog:Program} {w:World} {s:Shared} {q r:Addr} {x y:α} {Q:Bool->Shared->Prop},PO s.heap q x->PO s.heap r y->Q (lt x y) s->wpAny @1 A (keyLt' κ (.ref q) (.ref r)) Q (fun _ _=>False) s
theorem Qb7.nq {A:Around}{d:α}{lt:α->α->Bool}{PO:Heap->Addr->α->Prop}{κ:SortKind}(S:Qb7 A α lt PO κ){h:Heap}{ps:List α}(pr:Paired (PO h) qs ps)(nd:ps.Nodup):(qs.map z30).Nodup:=by
 have lq:=z97 pr;rw[zx9,z84];intro i j hi hj hij e;rw[zo3,zo3] at e;rw[z01] at hi hj;have e:=Value.ref.inj e;have p1:=Qb4.Qk5 (d:=d) pr hi;have p2:=Qb4.Qk5 (d:=d) pr hj;rw[z25,z06 hi] at p1;rw[z25,z06 hj] at p2;rw[zc8,e] at p1;rw[zc8] at p2;have z:=S.det p1 p2;rw[z25,z25,z06 @0,z06 @0] at z;have:=(zh6 nd).mp z;lia
section
def YD (q:Int×Int):List Key:=[.inl q.1,.inl q.2]
end
end L2.Srt
namespace L2.St
open PySem PySem.SetTable
variable {mask i n j:Nat}{l:List Nat}{α:Type}{es:Array @32}{ow:Array @17}
def pth (mask:Nat)(p:Probe):Nat->Probe
 |0=>p
 |n+1=>advance { (default:SetTable) with mask:=mask } (pth mask p n)
theorem Qk6 (t:SetTable)(p:Probe):t.advance p=advance { (default:SetTable) with mask:=t.mask } p:=rfl
theorem Qbf (mask:Nat)(p:Probe)(a:Nat):∀n,pth mask (pth mask p a) n=pth mask p (a+n)
 |0=>rfl
 |n+1=>by rw[pth,Qbf mask p a n];rfl
def gst (mask i q:Nat):Probe:={ j:=i,more:=runEnd mask i - i,i:=i,perturb:=q,dummy:=none }
theorem Vp (mask i:Nat):i<=runEnd mask i/\runEnd mask i<=i+9/\(i<=mask->runEnd mask i<=mask):=by unfold runEnd;split<;>lia
theorem Qb8 (mask i q:Nat):∀k,k<=runEnd mask i - i->pth mask (gst mask i q) k={ j:=i+k,more:=runEnd mask i - i - k,i:=i,perturb:=q,dummy:=none }
 |0,_=>rfl
 |k+1,h=>by
  rw[pth,Qb8 mask i q k @0];unfold advance;dsimp only;rw[if_pos @0]
  congr 1
theorem QcQ (mask i q:Nat):pth mask (gst mask i q) (runEnd mask i - i+1)=gst mask (leap mask i q).1 (leap mask i q).2:=by
 rw[pth,Qb8 mask i q _ (z15 _)];unfold advance;dsimp only;rw[if_neg @0];rfl
def lps (mask:Nat)(x:Nat×Nat):Nat->Nat×Nat
 |0=>x
 |n+1=>leap mask (lps mask x n).1 (lps mask x n).2
theorem Qiw (mask:Nat)(x:Nat×Nat):∀g,∃n,n<=10 * g/\pth mask (gst mask x.1 x.2) n=gst mask (lps mask x g).1 (lps mask x g).2
 |0=>⟨0,z15 _,rfl⟩
 |g+1=>by
  obtain⟨n,h1,h2⟩:=Qiw mask x g;refine⟨n+(runEnd mask (lps mask x g).1 - (lps mask x g).1+1),?_,?_⟩
  ·have:=Vp mask (lps mask x g).1;lia
  ·rw[← Qbf,h2,QcQ];rfl
theorem Qe2 (mask:Nat)(x:Nat×Nat):∀g,(lps mask x g).2=x.2 / 32 ^ g
 |0=>by simp[lps]
 |g+1=>by
  show(lps mask x g).2 / 32=_;rw[Qe2 mask x g,Nat.div_div_eq_div_mul];rfl
theorem Qix (mask:Nat)(x:Nat×Nat)(g:Nat):(lps mask x (g+1)).1<=mask:=zu1 (zt9 _ (zu4 _))
def five (m:Nat)(i:Nat):Nat->Nat
 |0=>i
 |n+1=>(five m i n * 5+1) % m
theorem Vq (m i a:Nat):∀n,five m (five m i a) n=five m i (a+n)
 |0=>rfl
 |n+1=>by rw[five,Vq m i a n];rfl
theorem Qbg (mask:Nat)(x:Nat×Nat)(g:Nat)(h:x.2<32 ^ g):∀n,(lps mask x (g+n)).1=five (mask+1) (lps mask x g).1 n
 |0=>rfl
 |n+1=>by
  show((lps mask x (g+n)).1 * 5+1+(lps mask x (g+n)).2 / 32) % (mask+1)=_
  have e:(lps mask x (g+n)).2=0:=by
   rw[Qe2];exact Nat.div_eq_of_lt (z46 h (zq5 @2 (zf0 _ _)))
  rw[Qbg mask x g h n,e];rfl
def cyc (m:Nat):Nat->Nat->Nat->Nat
 |0,_,acc=>acc
 |n+1,i,acc=>cyc m n ((i * 5+1) % m) (acc ||| (1 <<< i))
theorem Qiy (m x:Nat):∀(n i acc:Nat),(cyc m n i acc).testBit x=true->acc.testBit x=true\/∃g,g<n/\five m i g=x
 |0,i,acc,h=>.inl h
 |n+1,i,acc,h=>by
  rcases Qiy m x n _ _ h with h|⟨g,h1,h2⟩
  ·rw[Nat.testBit_or,Bool.or_eq_true] at h;rcases h with h|h
   ·exact .inl h
   ·refine .inr ⟨0,zu4 _,?_⟩;rw[Nat.one_shiftLeft,Nat.testBit_two_pow] at h;exact of_decide_eq_true h
  ·refine .inr ⟨1+g,by lia,?_⟩;rw[← Vq];exact h2
def Mk (mask:Nat):Prop:=∃k,k<=10/\mask+1=8 * 2 ^ k
theorem Qje:∀k,k<=10->cyc (8 * 2 ^ k) (8 * 2 ^ k) 0 0=2 ^ (8 * 2 ^ k) - 1/\five (8 * 2 ^ k) 0 (8 * 2 ^ k)=0:=by
 intro k hk;have:k=0\/k=1\/k=2\/k=3\/k=4\/k=5\/k=6\/k=7\/k=8\/k=9\/k=10:=by lia
 rcases this with rfl|rfl|rfl|rfl|rfl|rfl|rfl|rfl|rfl|rfl|rfl<;>decide +kernel
theorem Qds(hm:Mk mask){x:Nat}(hi:i<=mask)(hx:x<=mask):∃g,g<=mask/\five (mask+1) i g=x:=by
 obtain⟨k,hk,e⟩:=hm;have c:=Qje k hk;rw[← e] at c;obtain⟨c1,c2⟩:=c
 have at_:∀y,y<=mask->∃g,g<mask+1/\five (mask+1) 0 g=y:=fun y hy=>by
  have:(cyc (mask+1) (mask+1) 0 0).testBit y=true:=by
   rw[c1,Nat.testBit_two_pow_sub_one];exact decide_eq_true @0
  rcases Qiy _ _ _ _ _ this with h|h
  ·rw[Nat.zero_testBit] at h;cases h
  ·exact h
 obtain⟨a,ha,ea⟩:=at_ i hi;obtain⟨b,hb,eb⟩:=at_ x hx;rcases z85 b a with h|h
 ·refine⟨mask+1 - a+b,by lia,?_⟩;have e2:five (mask+1) 0 (mask+1+b)=x:=by rw[← Vq,c2];exact eb
  rw[← ea,Vq,show a+(mask+1 - a+b)=mask+1+b by lia];exact e2
 ·refine⟨b - a,by lia,?_⟩;rw[← ea,Vq,show a+(b - a)=b by lia];exact eb
theorem met(hm:Mk mask){q x:Nat}(hq:q<2 ^ 64)(hx:x<=mask):∃n,n<=10 * (mask+13)/\(pth mask (gst mask i q) n).j=x:=by
 have hz:q<32 ^ 13:=z46 hq @2;obtain⟨g,h1,h2⟩:=Qds hm (Qix mask (i,q) 12) hx;obtain⟨n,h3,h4⟩:=Qiw mask (i,q) (13+g);refine⟨n,by lia,?_⟩;rw[h4];show(lps mask (i,q) (13+g)).1=x;rw[Qbg mask (i,q) 13 hz g];exact h2
theorem Qe3 (h:Int):bits h<2 ^ 64:=by
 unfold bits;have:(h % (2 ^ 64:Int))<2 ^ 64:=zm9 _ @2;have h0:0<=h % (2 ^ 64:Int):=zq4 _ @2;lia
theorem missing(h:l.length<n):∃x,x<n/\x∉l:=by
 refine zu2 fun z=>?_;have all:∀x,x<n->x∈l:=fun x hx=>zu2 fun y=>z ⟨x,hx,y⟩
 have:∀(m:Nat) (l:List Nat),(∀x,x<m->x∈l)->m<=l.length:=by
  intro m
  induction m with
  |zero=>intro _ _;exact z58 _
  |succ m ih=>
   intro l hl;have:=ih (l.erase m) fun x hx=>(zk9 (z45 hx)).mpr (hl x (zc5 hx));rw[zh8 (hl m (zd1 m))] at this;have:0<l.length:=zi9 (hl m (zd1 m));lia
 have:=this n l all;lia
theorem first {P:Nat->Prop}[DecidablePred P](h:P n):∃m,m<=n/\P m/\∀k,k<m->¬ P k:=by
 induction n using Nat.strongRecOn with
 |_ n ih=>
  by_cases z:∃k,k<n/\P k
  ·obtain⟨k,hk,pk⟩:=z;obtain⟨m,h1,h2⟩:=ih k hk pk;exact⟨m,by lia,h2⟩
  ·exact⟨n,z15 _,h,fun k hk pk=>z ⟨k,hk,pk⟩⟩
theorem Qjf(hm:Mk mask)(hl:l.length<=mask)(h:Int):∃N,N<=10 * (mask+13)/\(pth mask (gst mask (bits h % (mask+1)) (bits h)) N).j∉l/\∀k,k<N->(pth mask (gst mask (bits h % (mask+1)) (bits h)) k).j∈l:=by
 obtain⟨x,hx,nx⟩:=missing (n:=mask+1) (l:=l) @0;obtain⟨n,h1,h2⟩:=met hm (i:=bits h % (mask+1)) (q:=bits h) (Qe3 h) (show x<=mask by lia);obtain⟨m,e1,e2,e3⟩:=first (P:=fun n=>(pth mask (gst mask (bits h % (mask+1)) (bits h)) n).j∉l) (n:=n) (by show _∉l;rw[h2];exact nx)
 exact⟨m,by lia,e2,fun k hk=>Classical.not_not.mp (e3 k hk)⟩
def Ris (xs:List Nat):Prop:=xs.Pairwise (· < ·)
theorem Qjg {xs:Array Nat}(hr:Ris xs.toList)(j:Nat):∀(fuel lo hi:Nat),hi<=xs.size->lo<=hi->hi<=lo+fuel->(∀i a,i<lo->xs[i]? = some a->a<j)->(∀i a,hi<=i->xs[i]? = some a->¬ a<j)->
  below.go xs j fuel lo hi<=xs.size/\(∀i a,i<below.go xs j fuel lo hi->xs[i]? = some a->a<j)/\(∀i a,below.go xs j fuel lo hi<=i->xs[i]? = some a->¬ a<j)
 |0,lo,hi,h1,h2,h3,a1,a2=>by
  have e:lo=hi:=by lia
  subst e;exact⟨h1,a1,a2⟩
 |fuel+1,lo,hi,h1,h2,h3,a1,a2=>by
  have mono:∀i k a b,i<k->xs[i]? = some a->xs[k]? = some b->a<b:=fun i k a b hik ha hb=>by
   rw[← z18] at ha hb;obtain⟨hi',rfl⟩:=z11.mp ha;obtain⟨hk',rfl⟩:=z11.mp hb;exact z84.mp hr i k hi' hk' hik
  unfold below.go
  by_cases c:lo<hi
  ·rw[if_pos c];have hm:(lo+hi) / 2<xs.size:=by lia
   have em:xs[(lo+hi) / 2]? = some xs[(lo+hi) / 2]:=z20 hm;have ed:xs.getD ((lo+hi) / 2) j=xs[(lo+hi) / 2]:=by simp[Array.getD,hm]
   dsimp only;rw[ed]
   by_cases d:xs[(lo+hi) / 2] < j
   ·rw[if_pos d];refine Qjg hr j fuel _ _ h1 @0 @0 (fun i a hi' ha=>?_) a2;rcases z85 i ((lo+hi) / 2) with z|z
    ·exact zq3 (mono i _ a _ z ha em) d
    ·have:i=(lo+hi) / 2:=by lia
     subst this;rw[em] at ha;cases ha;exact d
   ·rw[if_neg d];refine Qjg hr j fuel _ _ @0 @0 @0 a1 (fun i a hi' ha=>?_);rcases z85 ((lo+hi) / 2) i with z|z
    ·have:=mono _ i _ a z em ha;lia
    ·have:i=(lo+hi) / 2:=by lia
     subst this;rw[em] at ha;cases ha;exact d
  ·rw[if_neg c];have e:lo=hi:=by lia
   subst e;exact⟨h1,a1,a2⟩
theorem below_at {xs:Array Nat}(hr:Ris xs.toList)(j:Nat):below xs j<=xs.size/\(∀i a,i<below xs j->xs[i]? = some a->a<j)/\(∀i a,below xs j<=i->xs[i]? = some a->¬ a<j):=
 Qjg hr j xs.size 0 xs.size (z15 _) (z58 _) @0 (fun i a h=>absurd h (zg3 _)) fun i a h e=>by
  have:xs[i]? = none:=zf2 h;rw[this] at e;cases e
theorem Vr {xs:Array Nat}(hr:Ris xs.toList)(h:xs[i]? = some j):below xs j=i:=by
 obtain⟨h1,h2,h3⟩:=below_at hr j;rcases zu0 (below xs j) i with z|z|z
 ·have hb:below xs j<xs.size:=zq3 z (zg6.mp h).1;have e:=z20 hb;have:=h3 _ _ (z15 _) e
  have hl:xs[below xs j] < j:=by
   have e':=e;rw[← z18] at h e';obtain⟨q1,q2⟩:=z11.mp h;obtain⟨q3,q4⟩:=z11.mp e';have w:=z84.mp hr _ _ q3 q1 z;lia
  exact absurd hl this
 ·exact z
 ·have:=h2 i j z h;lia
theorem Qb9 {t:SetTable}(hr:Ris t.place.toList)(h:t.place[i]? = some j):t.slot j=.live i:=by
 unfold slot;rw[Vr hr h];dsimp only;rw[if_pos (by rw[h];exact beq_self_eq_true _)]
theorem Qev {t:SetTable}(hd:t.dummies = #[])(h:j∉t.place.toList):t.slot j=.empty:=by
 unfold slot;dsimp only;rw[if_neg,if_neg]
 ·rw[hd];unfold has;simp
 ·intro z;have z:=eq_of_beq z;rw[← z18] at z;exact h (z38 z)
structure Tp (t:SetTable)(es:Array @32):Prop where
 dm:t.dummies = #[]
 ms:Mk t.mask
 sz:t.place.size=es.size
 ri:Ris t.place.toList
 pa:∀(i:Nat) (e:Int×Value),es[i]? = some e->∃n j,t.place[i]? = some j/\(pth t.mask (t.probeStart e.1) n).j=j/\∀m,m<n->(pth t.mask (t.probeStart e.1) m).j∈t.place.toList
theorem Qdt {t:SetTable}{es:Array @32}(T:Tp t es)(hashAt:Nat->Int)(h:Int){p0:Probe}(h0:∀n,(pth t.mask p0 n).dummy=none){N:Nat}(hN:(pth t.mask p0 N).j∉t.place.toList)(hb:∀k,k<N->(pth t.mask p0 k).j∈t.place.toList) :
  ∀(fuel k:Nat),k<=N->N<k+fuel->
   (probe.go t hashAt h fuel (pth t.mask p0 k)=some (.empty (pth t.mask p0 N).j none)/\∀m i,k<=m->m<N->t.place[i]? = some (pth t.mask p0 m).j->hashAt i≠h)\/
   ∃m i,k<=m/\m<N/\t.place[i]? = some (pth t.mask p0 m).j/\hashAt i=h/\probe.go t hashAt h fuel (pth t.mask p0 k)=some (.candidate (pth t.mask p0 m).j i (pth t.mask p0 (m+1)))/\∀m' i',k<=m'->m' < m->t.place[i']? = some (pth t.mask p0 m').j->hashAt i'≠h
 |0,k,h1,h2=>by lia
 |fuel+1,k,h1,h2=>by
  unfold probe.go;rcases z85 k N with z|z
  ·obtain⟨i,hi⟩:=z74 (hb k z);rw[z18] at hi;rw[Qb9 T.ri hi];dsimp only;have un:∀i',t.place[i']? = some (pth t.mask p0 k).j->i'=i:=fun i' h'=>by rw[← Vr T.ri h',Vr T.ri hi]
   by_cases c:hashAt i=h
   ·rw[if_pos (by rw[c];exact beq_self_eq_true _)];exact .inr ⟨k,i,z15 _,z,hi,c,by rw[Qk6];rfl,fun m' i' a b=>by lia⟩
   ·rw[if_neg (by intro q;exact c (eq_of_beq q))];have e:t.advance (pth t.mask p0 k)=pth t.mask p0 (k+1):=rfl;rw[e];rcases Qdt T hashAt h h0 hN hb fuel (k+1) z @0 with⟨q1,q2⟩|⟨m,i2,q1,q2,q3,q4,q5,q6⟩
    ·refine .inl ⟨q1,fun m i' a b e'=>?_⟩;rcases z85 k m with y|y
     ·exact q2 m i' y b e'
     ·have:m=k:=by lia
      subst this;rw[un i' e'];exact c
    ·refine .inr ⟨m,i2,by lia,q2,q3,q4,q5,fun m' i' a b e'=>?_⟩;rcases z85 k m' with y|y
     ·exact q6 m' i' y b e'
     ·have:m'=k:=by lia
      subst this;rw[un i' e'];exact c
  ·have e:k=N:=by lia
   subst e;rw[Qev T.dm hN];dsimp only;rw[h0 k];exact .inl ⟨rfl,fun m i a b=>by lia⟩
theorem Qca {mask:Nat}{p:Probe}(h:p.dummy=none):∀n,(pth mask p n).dummy=none
 |0=>h
 |n+1=>by
  have:=Qca (mask:=mask) h n;rw[pth];unfold advance
  split
  ·exact this
  ·exact this
theorem ins_get{xs:Array α}{p:Nat}(hp:p<=xs.size)(x:α)(i:Nat):(insertAt xs p x)[i]? = if i<p then xs[i]? else if i=p then some x else xs[i - 1]?:=by
 rw[← z18,toList_insertAt];have lt:(xs.toList.take p).length=p:=by rw[z48,z43];lia
 rcases zu0 i p with z|z|z
 ·rw[if_pos z,z53 @0,zb6 z,z18]
 ·subst z;rw[if_neg (ze8 _),if_pos rfl,z44 @0,lt,zk1];rfl
 ·rw[if_neg @0,if_neg @0,z44 @0,lt];obtain⟨d,rfl⟩:=Nat.exists_eq_add_of_lt z;rw[show p+d+1 - p=d+1 by lia,zi3,zs7,z18,show p+d+1 - 1=p+d by lia]
theorem Qbh(xs:Array α)(p:Nat)(x:α):(insertAt xs p x).size=xs.size+1:=by
 have:=(insertAt_perm xs p x).length_eq;simpa using this
theorem QcR(xs:Array α)(p:Nat)(x y:α):y∈(insertAt xs p x).toList↔y∈xs.toList\/y=x:=by
 rw[(insertAt_perm xs p x).mem_iff,z49,z08,z16]
theorem Qjh {xs:Array Nat}(hr:Ris xs.toList)(hj:j∉xs.toList):Ris (insertAt xs (below xs j) j).toList:=by
 obtain⟨h1,h2,h3⟩:=below_at hr j;rw[toList_insertAt];have ha:=z33 (below xs j) xs.toList;have hr':=hr;unfold Ris at hr';rw[← ha] at hr';obtain⟨r1,r2,r3⟩:=z42.mp hr'
 have a1:∀a∈xs.toList.take (below xs j),a<j:=fun a ha=>by
  obtain⟨i,hi⟩:=z74 ha;rw[y45] at hi
  split at hi
  ·rw[z18] at hi;exact h2 i a (by assumption) hi
  ·cases hi
 have a2:∀a∈xs.toList.drop (below xs j),j<a:=fun a ha=>by
  obtain⟨i,hi⟩:=z74 ha;rw[zs7,z18] at hi;have:=h3 _ a (zf0 _ _) hi;have:a≠j:=fun e=>hj (e▸zg8 ha);lia
 refine z42.mpr ⟨r1,z59.mpr ⟨a2,r2⟩,fun a ha b hb=>?_⟩;rcases z21.mp hb with rfl|hb
 ·exact a1 a ha
 ·exact zq3 (a1 a ha) (a2 b hb)
theorem Qk7 {t:SetTable}(hd:t.dummies = #[])(j:Nat):t.put j=({ t with place:=insertAt t.place (below t.place j) j },below t.place j):=by
 unfold put;have:has t.dummies j=false:=by rw[hd];unfold has;simp
 simp only[this,z35,if_false]
theorem Qk8 {t:SetTable}(T:Tp t es){h:Int}{x:Value}{N:Nat}(hN:(pth t.mask (t.probeStart h) N).j∉t.place.toList)(hb:∀k,k<N->(pth t.mask (t.probeStart h) k).j∈t.place.toList) :
  Tp (t.put (pth t.mask (t.probeStart h) N).j).1 (insertAt es (t.put (pth t.mask (t.probeStart h) N).j).2 (h,x)):=by
 rw[Qk7 T.dm];generalize ej:(pth t.mask (t.probeStart h) N).j=j at hN ⊢;obtain⟨b1,b2,b3⟩:=below_at T.ri j;have bs:below t.place j<=es.size:=by rw[← T.sz];exact b1
 refine⟨T.dm,T.ms,?_,Qjh T.ri hN,fun i e hi=>?_⟩
 ·show(insertAt t.place _ j).size=_;rw[Qbh,Qbh,T.sz]
 ·dsimp only at hi ⊢;rw[ins_get bs] at hi;rw[ins_get b1]
  by_cases c1:i<below t.place j
  ·rw[if_pos c1] at hi ⊢;obtain⟨n,j',e1,e2,e3⟩:=T.pa i e hi;exact⟨n,j',e1,e2,fun m hm=>(QcR _ _ _ _).mpr (.inl (e3 m hm))⟩
  ·rw[if_neg c1] at hi ⊢
   by_cases c2:i=below t.place j
   ·rw[if_pos c2] at hi ⊢;cases hi
    exact⟨N,j,rfl,ej,fun m hm=>(QcR _ _ _ _).mpr (.inl (hb m hm))⟩
   ·rw[if_neg c2] at hi ⊢;obtain⟨n,j',e1,e2,e3⟩:=T.pa (i - 1) e hi;exact⟨n,j',e1,e2,fun m hm=>(QcR _ _ _ _).mpr (.inl (e3 m hm))⟩
theorem Qcb (mask:Nat)(x:Nat×Nat):∀g,lps mask (leap mask x.1 x.2) g=lps mask x (g+1)
 |0=>rfl
 |g+1=>by rw[lps,Qcb mask x g];rfl
theorem Qe4 {mask:Nat}(ow:Array @17):∀(fuel i q g:Nat),g<fuel->(ow.getD (lps mask (i,q) g).1 (some 0)).isNone=true->
  ∃n j,layClean.free mask ow fuel i q=some j/\(pth mask (gst mask i q) n).j=j/\(ow.getD j (some 0)).isNone=true/\∀m,m<n->(ow.getD (pth mask (gst mask i q) m).j (some 0)).isNone=false
 |0,i,q,g,h,_=>absurd h (zg3 _)
 |fuel+1,i,q,g,hg,hf=>by
  unfold layClean.free;have re:=Vp mask i
  cases e:(z41 (runEnd mask i+1 - i)).find? fun k=>(ow.getD (i+k) (some 0)).isNone with
  |some k=>
   dsimp only;obtain⟨p1,p2,p3⟩:=List.find?_range_eq_some.mp e;have hk:k<=runEnd mask i - i:=by have:=z70.mp p2;lia
   refine⟨k,i+k,rfl,by rw[Qb8 mask i q k hk],p1,fun m hm=>?_⟩;rw[Qb8 mask i q m @0];simpa using p3 m hm
  |none=>
   dsimp only
   have al:∀k,k<=runEnd mask i - i->(ow.getD (i+k) (some 0)).isNone=false:=fun k hk=>by
    have:=List.find?_eq_none.mp e k (z70.mpr @0);exact zn4.mpr this
   cases g with
   |zero=>
    have:=al 0 (z58 _);rw[Nat.add_zero] at this;rw[show(lps mask (i,q) 0).1=i from rfl,this] at hf
    cases hf
   |succ g=>
    rw[← Qcb] at hf;obtain⟨n,j,e1,e2,e3,e4⟩:=Qe4 ow fuel (leap mask i q).1 (leap mask i q).2 g @0 hf;refine⟨runEnd mask i - i+1+n,j,e1,?_,e3,fun m hm=>?_⟩
    ·rw[← Qbf,QcQ];exact e2
    ·rcases z85 m (runEnd mask i - i+1) with z|z
     ·rw[Qb8 mask i q m @0];exact al m @0
     ·obtain⟨d,rfl⟩:=Nat.exists_eq_add_of_le z;rw[← Qbf,QcQ];exact e4 d @0
structure Ow (mask:Nat)(hs:List Int)(ow:Array @17)(k:Nat):Prop where
 sz:ow.size=mask+1
 pa:∀(k':Nat) (h:Int),k' < k->hs[k']? = some h->∃n j:Nat,ow[j]? = some (some k')/\(pth mask (gst mask (bits h % (mask+1)) (bits h)) n).j=j/\∀m,m<n->∃v,ow[(pth mask (gst mask (bits h % (mask+1)) (bits h)) m).j]? = some @26
 lt:∀j k':Nat,ow[j]? = some (some k')->k' < k
 ij:∀j j' k':Nat,ow[j]? = some (some k')->ow[j']? = some (some k')->j=j'
theorem getD_none:(ow.getD j (some 0)).isNone=true↔ow[j]? = some none:=by
 rw[z32]
 cases e:ow[j]? with
 |none=>simp
 |some v=>cases v<;>simp
theorem getD_some(h:(ow.getD j (some 0)).isNone=false)(hj:j<ow.size):∃v,ow[j]? = some @26:=by
 rw[z32,z20 hj] at h;rw[z20 hj]
 cases e:ow[j] with
 |none=>rw[e] at h;cases h
 |some v=>exact⟨v,rfl⟩
theorem Qk9 {q:Nat}(hi:i<=mask)(n:Nat):(pth mask (gst mask i q) n).j+(pth mask (gst mask i q) n).more<=mask:=by
 induction n with
 |zero=>have:=Vp mask i;show i+(runEnd mask i - i)<=mask;lia
 |succ n ih=>
  rw[pth];unfold advance
  split
  ·show _+1+(_ - 1)<=mask;lia
  ·have h1:(leap mask (pth mask (gst mask i q) n).i (pth mask (gst mask i q) n).perturb).1<=mask:=zu1 (zt9 _ (zu4 _));have:=Vp mask (leap mask (pth mask (gst mask i q) n).i (pth mask (gst mask i q) n).perturb).1;show(leap mask (pth mask (gst mask i q) n).i (pth mask (gst mask i q) n).perturb).1+(runEnd mask (leap mask (pth mask (gst mask i q) n).i (pth mask (gst mask i q) n).perturb).1 - (leap mask (pth mask (gst mask i q) n).i (pth mask (gst mask i q) n).perturb).1)<=mask;lia
theorem Ow.step {mask:Nat}(hm:Mk mask){hs:List Int}{ow:Array @17}{k:Nat}(O:Ow mask hs ow k)(hk:k<hs.length)(hl:hs.length<=mask){h:Int}(hh:hs[k]? = some h) :
  ∃j,layClean.free mask ow (turns mask) (bits h % (mask+1)) (bits h)=some j/\Ow mask hs (ow.setIfInBounds j (some k)) (k+1):=by
 have i0:bits h % (mask+1)<=mask:=zu1 (zt9 _ (zu4 _))
 have sl:∀k',k' < k->∃j:Nat,ow[j]? = some (some k'):=fun k' hk'=>by
  obtain⟨n,j,e,_⟩:=O.pa k' _ hk' (z06 (zq3 hk' hk));exact⟨j,e⟩
 obtain⟨x,hx,nx⟩:=missing (n:=mask+1) (l:=(z41 k).map fun k'=>if c:k' < k then y19 (sl k' c) else 0) (by rw[z01,z52];lia)
 have ox:ow[x]? = some none:=by
  rw[z20 (by rw[O.sz];exact hx)]
  cases e:ow[x]'(by rw[O.sz];exact hx) with
  |none=>rfl
  |some k'=>
   exfalso
   have e':ow[x]? = some (some k'):=by rw[z20 (by rw[O.sz];exact hx),e]
   have c:=O.lt x k' e';refine nx (z37.mpr ⟨k',z70.mpr c,?_⟩);rw[dif_pos c];exact O.ij _ _ k' (z89 (sl k' c)) e'
 obtain⟨g,g1,g2⟩:=Qds hm (Qix mask (bits h % (mask+1),bits h) 12) (show x<=mask by lia);have hz:bits h<32 ^ 13:=z46 (Qe3 h) @2;have g3:=Qbg mask (bits h % (mask+1),bits h) 13 hz g;rw[g2] at g3;obtain⟨n,j,f1,f2,f3,f4⟩:=Qe4 ow (turns mask) (bits h % (mask+1)) (bits h) (13+g) (by unfold turns;lia) (by rw[g3];exact getD_none.mpr ox);have oj:=getD_none.mp f3;have jl:j<ow.size:=(zg6.mp oj).1
 have up:∀y v:Nat,ow[y]? = some @26->(ow.setIfInBounds j (some k))[y]? = some @26:=fun y v e=>by
  rw[zt3 (fun z=>by rw[← z,oj] at e;cases e)];exact e
 have dn:∀y v:Nat,(ow.setIfInBounds j (some k))[y]? = some @26->(y=j/\v=k)\/ow[y]? = some @26:=fun y v e=>by
  by_cases c:j=y
  ·subst c;rw[zo8 jl] at e;cases e;exact .inl ⟨rfl,rfl⟩
  ·rw[zt3 c] at e;exact .inr e
 have se:(ow.setIfInBounds j (some k))[j]? = some (some k):=zo8 jl;refine⟨j,f1,by rw[Array.size_setIfInBounds];exact O.sz,fun k' h' hk' hh'=>?_,fun y k' e=>?_,fun y y' k' e e'=>?_⟩
 ·rcases z85 k' k with z|z
  ·obtain⟨n',j',q1,q2,q3⟩:=O.pa k' h' z hh';exact⟨n',j',up _ _ q1,q2,fun m hm=>by obtain⟨v,q⟩:=q3 m hm;exact⟨v,up _ _ q⟩⟩
  ·have:k'=k:=by lia
   subst this;rw[hh] at hh';cases hh';refine⟨n,j,se,f2,fun m hm=>?_⟩;obtain⟨v,q⟩:=getD_some (f4 m hm) (by rw[O.sz];have:=Qk9 i0 (q:=bits h) m;lia);exact⟨v,up _ _ q⟩
 ·rcases dn y k' e with⟨_,rfl⟩|e
  ·exact zd1 _
  ·exact zc5 (O.lt y k' e)
 ·rcases dn y k' e with⟨a1,a2⟩|a1<;>rcases dn y' k' e' with⟨b1,b2⟩|b1
  ·rw[a1,b1]
  ·exact absurd (O.lt _ _ b1) @0
  ·exact absurd (O.lt _ _ a1) @0
  ·exact O.ij _ _ _ a1 b1
theorem Qla(hm:Mk mask){hs:List Int}(hl:hs.length<=mask):∃ow,layClean mask hs.toArray=some ow/\Ow mask hs ow hs.length:=by
 have key:∀(rest:List Int) (ow:Array @17) (k:Nat),k+rest.length=hs.length->(∀i,rest[i]? = hs[k+i]?)->Ow mask hs ow k->∃ow',(rest.foldl (fun(acc:Option (Array @17×Nat)) h=>do
   let (owner,k) ← acc
   let j ← layClean.free mask owner (turns mask) (bits h % (mask+1)) (bits h)
   pure (owner.setIfInBounds j (some k),k+1)) (some (ow,k)))=some (ow',hs.length)/\Ow mask hs ow' hs.length:=by
  intro rest
  induction rest with
  |nil=>
   intro ow k h1 h2 O;have:k=hs.length:=by simpa using h1
   subst this;exact⟨ow,rfl,O⟩
  |cons h rest ih=>
   intro ow k h1 h2 O;have hk:k<hs.length:=by simp at h1;lia
   obtain⟨j,f1,f2⟩:=O.step hm hk hl (h:=h) (by have:=h2 0;simpa using this.symm);rw[zg0];simp only[Option.bind_eq_bind,z72,f1];exact ih _ (k+1) (by simp at h1;lia) (fun i=>by have:=h2 (i+1);simpa[y09,Nat.add_comm 1 i] using this) f2
 have no:∀j k':Nat,¬ (Array.replicate (mask+1) (none:Option Nat))[j]? = some (some k'):=fun j k' e=>by
  rw[Array.getElem?_replicate] at e
  split at e<;>cases e
 obtain⟨ow,e,O⟩:=key hs (Array.replicate (mask+1) none) 0 @6 (fun i=>by simp) ⟨by simp,fun _ _ z=>absurd z (zg3 _),fun j k' e=>absurd e (no j k'),fun j j' k' e=>absurd e (no j k')⟩;refine⟨ow,?_,O⟩;unfold layClean;rw[← Array.foldl_toList];exact(congrArg (zs4 (·.1)) e).trans rfl
theorem Qji {r:List Nat}(hl:l.Nodup)(hr:r.Nodup)(h:∀x,x∈l↔x∈r):l.Perm r:=by
 rw[z91];intro a
 by_cases c:a∈l
 ·rw[hl.count,hr.count,if_pos c,if_pos ((h a).mp c)]
 ·rw[z99 c,z99 (fun z=>c ((h a).mpr z))]
theorem Qjj {finger moves:Nat}{led plain:Bool}(hm:Mk mask)(hl:es.size<=mask) :
  ∃t' order,laid mask finger moves led plain (es.map (·.1))=some (t',order)/\t'.mask=mask/\t'.led=led/\t'.plain=plain/\(order.filterMap (es[·]?)).toList.Perm es.toList/\Tp t' (order.filterMap (es[·]?)):=by
 have eh:es.map (·.1)=(es.toList.map (·.1)).toArray:=by cases es;simp
 obtain⟨ow,e,O⟩:=Qla hm (hs:=es.toList.map (·.1)) (by simpa using hl);rw[← eh] at e;have lh:(es.toList.map (·.1)).length=es.size:=by simp
 rw[lh] at O;unfold laid;rw[e];have hL:∃live,live=(z41 (mask+1)).filterMap fun j=>(ow.getD j none).map (j,·):=⟨_,rfl⟩;obtain⟨live,el⟩:=hL;refine⟨_,_,rfl,rfl,rfl,rfl,?_⟩;rw[← el]
 have lv:∀j k,(j,k)∈live↔ow[j]? = some (some k):=fun j k=>by
  rw[el,zs6]
  constructor
  ·rintro⟨x,hx,q⟩;obtain⟨v,q1,q2⟩:=z03.mp q;cases q2
   rw[z32] at q1
   cases c:ow[j]? with
   |none=>rw[c] at q1;cases q1
   |some w=>rw[c] at q1;simp only[zc8] at q1;rw[q1]
  ·intro q;refine⟨j,z70.mpr ?_,?_⟩
   ·rw[← O.sz];exact(zg6.mp q).1
   ·rw[z32,q];rfl
 have ris:(live.map (·.1)).Pairwise (· < ·):=by
  have:live.map (·.1)=(z41 (mask+1)).filter fun j=>(ow.getD j none).isSome:=by
   rw[el,y42];generalize z41 (mask+1)=r
   induction r with
   |nil=>rfl
   |cons j r ih=>
    rw[z81,ze9]
    cases c:ow.getD j none with
    |none=>simpa using ih
    |some v=>simpa using ih
  rw[this];exact List.Pairwise.filter _ y10
 have nd1:live.Nodup:=by
  have:=zy0 (fun{a b} (h:a<b)=>z45 h) ris;rw[zd9] at this;exact this.imp fun{a b} h z=>h (by rw[z])
 have nd2:(live.map (·.2)).Nodup:=by
  rw[zx9,zd9];refine List.Pairwise.imp_of_mem (fun{a b} ha hb h z=>h ?_) nd1;obtain⟨a1,a2⟩:=a;obtain⟨b1,b2⟩:=b;dsimp only at z;subst z;rw[O.ij _ _ _ ((lv a1 a2).mp ha) ((lv b1 a2).mp hb)]
 have Qol:∀k,k∈live.map (·.2)↔k∈z41 es.size:=fun k=>by
  rw[z37,z70]
  constructor
  ·rintro⟨⟨j,k'⟩,h1,rfl⟩;exact O.lt _ _ ((lv j k').mp h1)
  ·intro hk;obtain⟨n,j,q,_⟩:=O.pa k _ hk (z06 (by rw[lh];exact hk));exact⟨(j,k),(lv j k).mpr q,rfl⟩
 have pm:(live.map (·.2)).Perm (z41 es.size):=Qji nd2 List.nodup_range Qol;have ls:live.length=es.size:=by have:=pm.length_eq;simpa using this
 have pe:((live.map (·.2)).toArray.filterMap (es[·]?)).toList.Perm es.toList:=by
  rw[y03];exact(pm.filterMap _).trans (by rw[filterMap_getElem?_range])
 refine⟨pe,rfl,hm,?_,by simpa[Ris] using ris,fun i x hi=>?_⟩
 ·have:=pe.length_eq;simp only[z43] at this;rw[this];simpa using ls
 ·have fm:∀(l:List Nat),(∀k∈l,k<es.size)->∀(i:Nat) (x:Int×Value),(l.filterMap (es[·]?))[i]? = some x->∃k,l[i]? = some k/\es[k]? = some x:=by
   intro l
   induction l with
   |nil=>intro _ i x h;simp at h
   |cons k l ih=>
    intro hl i x h;have hk:=hl k z09;rw[z81,z20 hk] at h
    cases i with
    |zero=>exact⟨k,rfl,by rw[z20 hk];simpa using h⟩
    |succ i=>
     obtain⟨k',q1,q2⟩:=ih (fun k' h'=>hl k' (z07 _ h')) i x (by simpa using h);exact⟨k',by simpa using q1,q2⟩
  rw[← z18,y03] at hi;obtain⟨k,q1,q2⟩:=fm _ (fun k hk=>z70.mp ((Qol k).mp hk)) i x hi;rw[z17] at q1;obtain⟨⟨j,k'⟩,q3,q4⟩:=z03.mp q1;dsimp only at q4;subst q4;have hj:=(lv j k').mp (z38 q3);obtain⟨n,j',r1,r2,r3⟩:=O.pa k' x.1 (O.lt _ _ hj) (by rw[z17,z18,q2];rfl);have:=O.ij _ _ _ r1 hj;subst this;refine⟨n,j',?_,r2,fun m hm=>?_⟩
  ·show(live.map (·.1)).toArray[i]? = _;rw[z56,z17,q3];rfl
  ·obtain⟨v,q⟩:=r3 m hm;exact z37.mpr ⟨_,(lv _ v).mpr q,rfl⟩
theorem Yw (n:Nat):∀(d fuel size:Nat),d<=fuel->n<size * 2 ^ d->∃k,k<=d/\sizeAbove.go n fuel size=size * 2 ^ k/\n<size * 2 ^ k
 |d,0,size,h,hn=>by
  have:d=0:=by lia
  subst this;exact⟨0,z15 _,by simp[sizeAbove.go],hn⟩
 |d,fuel+1,size,h,hn=>by
  unfold sizeAbove.go
  by_cases c:size<=n
  ·rw[if_pos c]
   cases d with
   |zero=>simp at hn;lia
   |succ d=>
    obtain⟨k,h1,h2,h3⟩:=Yw n d fuel (size * 2) @0 (by rw[y24,y25 (2 ^ d),← y08] at hn;exact hn);refine⟨k+1,by lia,?_,?_⟩
    ·rw[h2,y24,y25 (2 ^ k),← y08]
    ·rw[y24,y25 (2 ^ k),← y08];exact h3
  ·rw[if_neg c];exact⟨0,z58 _,by simp,by simpa using c⟩
theorem Qhp(h:n<8192):Mk (sizeAbove n - 1)/\n<sizeAbove n/\sizeAbove n<=8192:=by
 obtain⟨k,h1,h2,h3⟩:=Yw n 10 64 8 @0 @0;have e:sizeAbove n=8 * 2 ^ k:=h2;have p:2 ^ k<=2 ^ 10:=zq5 @2 h1;have q:0<2 ^ k:=Nat.pow_pos @2;rw[e];exact⟨⟨k,h1,by lia⟩,h3,by lia⟩
end L2.St
namespace L2.Srt
open PySem PySem.SetTable L2.St PyProof.Rows
variable {prog:Program}{w:World}{A:Around}{E Q₁:Value->Shared->Prop}{s:Shared}{h:Heap}{q a:Addr}{p pr:Int×Int}{Q:Bool->Shared->Prop}{M:Addr->Int×Int->Prop}{es:Array @32}{ps:List @13}{qs:List Addr}
def hP (prog:Program)(w:World)(p:Int×Int):Int:=tupleKeyHash (intKind prog w) [p.1,p.2]
section
theorem Qiz(x:PO h q p):IsTupleKey (intKind prog w) h [p.1,p.2] q:=by
 obtain⟨o,t,u,n,e,c,d⟩:=x;exact⟨o,_,n,e,c,d,.cons (intKind_is _ _ _ _) (.cons (intKind_is _ _ _ _) .nil)⟩
theorem Qe5(x:PO s.heap q p):s.TypeIs (.ref q) "tuple" := by
 obtain⟨o,t,u,n,e,c,d⟩:=x;exact⟨o,e,c⟩
theorem Qjk{Q:Int->Shared->Prop}(hu:A.units<cLine)(x:PO s.heap q p)(h:Q (hP prog w p) { s with toks:=s.toks+3 }):wpAny @1 A (pyHash (.ref q)) Q E s:=
 zn8 hu (Qiz x) h
theorem Qew(x:PO s.heap q p)(h:Q true s):wpAny @1 A (hashByValue 8 (.ref q)) Q E s:=by
 have hT:=Qe5 x;obtain⟨o,t,u,n,e,c,d⟩:=x;unfold hashByValue;refine z00 (ze5 hT zk2.lookup ?_);show wpAny _ _ (seqItems? (.ref q) >>= _) _ _ s;refine z00 (za8 e d ?_);dsimp only[zc8];refine z00 ?_;rw[← zi0];refine zc2 _ (fun rest r s'=>r.1=none/\s'=s/\∀v∈rest,∃a b,v=z82 a b) _ ?_ ?_ _ _ ⟨rfl,rfl,fun v hv=>?_⟩
 ·rintro v rest r s' ⟨hr,rfl,hall⟩;obtain⟨a,b,rfl⟩:=hall v z09;refine z00 (m:=hashByValue 7 (.int a b)) (zp9 (a:=true) (by unfold hashByValue;rfl) ?_);simp only[zc0,z35,if_false];exact z04 ⟨rfl,rfl,fun u hu'=>hall u (z07 _ hu')⟩
 ·rintro⟨r1,r2⟩ s' ⟨hr,rfl,_⟩;simp only at hr;subst hr;exact z04 h
 ·simp at hv;rcases hv with rfl|rfl<;>exact⟨_,_,rfl⟩
theorem Qdu(x:PO s.heap q p)(h:Q true s):wpAny @1 A (eqIsQuiet 8 (.ref q)) Q E s:=wpAny_eqIsQuiet_tuple (Qiz x) h
theorem QaX(x:PO s.heap q p)(h:Q false s):wpAny @1 A (ofAClassStatement 8 (.ref q)) Q E s:=by
 have hT:=Qe5 x;obtain⟨o,t,u,n,e,c,d⟩:=x;unfold ofAClassStatement;refine z00 (zn7 hT ?_);dsimp only;rw[if_pos (by rfl)];refine z00 (z04 ?_);simp only[zc0,z35,if_false];refine z00 (za8 e d ?_);dsimp only;refine z00 ?_;rw[← zi0];refine zc2 _ (fun rest r s'=>r.1=none/\s'=s/\∀v∈rest,∃a b,v=z82 a b) _ ?_ ?_ _ _ ⟨rfl,rfl,fun v hv=>?_⟩
 ·rintro v rest r s' ⟨hr,rfl,hall⟩;obtain⟨a,b,rfl⟩:=hall v z09;refine z00 (m:=ofAClassStatement 7 (.int a b)) (zp9 (a:=false) (by unfold ofAClassStatement;rfl) ?_);simp only[z35,if_false];exact z04 ⟨rfl,rfl,fun u hu'=>hall u (z07 _ hu')⟩
 ·rintro⟨r1,r2⟩ s' ⟨hr,rfl,_⟩;simp only at hr;subst hr;exact z04 h
 ·simp at hv;rcases hv with rfl|rfl<;>exact⟨_,_,rfl⟩
theorem Qjl{stored:List Value}(x:PO s.heap q p)(hs:∀v∈stored,∃r y,v=.ref r/\PO s.heap r y)(h:Q false s):wpAny @1 A (searchCouldBeSeen (.ref q) stored) Q E s:=by
 unfold searchCouldBeSeen;refine z00 ?_;refine zc2 _ (fun rest r s'=>r.1=none/\s'=s/\∀v∈rest,∃r y,v=.ref r/\PO s.heap r y) _ ?_ ?_ _ _ ⟨rfl,rfl,hs⟩
 ·rintro v rest r s' ⟨hr,rfl,hall⟩;obtain⟨r',y,rfl,hy⟩:=hall v z09;dsimp only;refine ze6 (fun _=>z04 ⟨rfl,rfl,fun u hu'=>hall u (z07 _ hu')⟩) (fun _=>?_);refine z00 (Qdu x ?_);simp only[zc0,z35,if_false];refine z00 (Qdu hy ?_);simp only[zc0,z35,if_false];refine z00 (QaX x ?_);simp only[z35,if_false];refine z00 (QaX hy ?_);simp only[z35,if_false];exact z04 ⟨rfl,rfl,fun u hu'=>hall u (z07 _ hu')⟩
 ·rintro⟨r1,r2⟩ s' ⟨hr,rfl,_⟩;simp only at hr;subst hr;exact z04 h
def Es (prog:Program)(w:World)(M:Addr->Int×Int->Prop)(h:Heap)(es:List @32)(ps:List @13):Prop:=Paired (fun(e:Int×Value) p=>∃q,e=(hP prog w p,.ref q)/\PO h q p/\M q p) es ps
theorem Qlb(e:Es prog w M h es.toList ps){i:Nat}(hp:ps[i]? = some p):∃q,es[i]? = some (hP prog w p,.ref q)/\PO h q p:=by
 have:i<es.toList.length:=by rw[z97 e];exact(z11.mp hp).1
 obtain⟨b,eb,q,r1,r2,_⟩:=Paired.get e (z06 this);rw[hp] at eb;cases eb;exact⟨q,by rw[← z18,z06 this,r1],r2⟩
end
section
theorem Qlc {m:Nat}(h:L2.St.Mk m):m % 2=1:=by
 obtain⟨k,_,e⟩:=h;lia
theorem Es.po(e:Es prog w M h es.toList ps){i:Nat}{x:Int×Value}(hx:es[i]? = some x):∃q p,ps[i]? = some p/\x=(hP prog w p,.ref q)/\PO h q p/\M q p:=by
 rw[← z18] at hx;obtain⟨b,eb,q,r1,r2⟩:=Paired.get e hx;exact⟨q,b,eb,r1,r2⟩
theorem QoO{o:Obj}{ep:Nat}{t:SetTable}{N:Nat}{Q:SetFound->Shared->Prop}(ho:s.heap.get? a=some o)(hd:o.data=.set es ep t)(T:Tp t es)(hl:es.size<=t.mask)(ee:Es prog w M s.heap es.toList ps)(hq:PO s.heap q pr)(hu:A.units<cLine)
  (hN:(pth t.mask @34 N).j∉t.place.toList) (hb:∀k,k<N->(pth t.mask @34 k).j∈t.place.toList) (hNl:N<=10 * (t.mask+13))
  (yes:pr∈ps->∀r,Q (.there r) s) (no:pr∉ps->Q (.free (pth t.mask @34 N).j false) s) :
  ∀(d k fuel:Nat) (stand:Option Probe),N - k=d->k<=N->d<fuel->stand.getD @34=pth t.mask @34 k->
   (∀m i:Nat,m<k->t.place[i]? = some (pth t.mask @34 m).j->ps[i]?≠some pr)->wpAny @1 A (setSearchFrom a (.ref q) @21 true fuel stand) Q E s:=by
 have hf:t.fits es.size=true:=by
  have:=T.sz;simp only[y50,zw4,T.dm,z76,beq_iff_eq,decide_eq_true_eq];exact⟨T.sz,by show t.place.size+0<=_;lia⟩
 have gw:t.gaveWay=false:=by
  unfold SetTable.gaveWay;rw[Qlc T.ms];rfl
 intro d
 induction d using Nat.strongRecOn with
 |_ d ih=>
  intro k fuel stand hdk hk hfu hst hne
  cases fuel with
  |zero=>lia
  |succ fuel=>
   unfold setSearchFrom;refine z00 (zc7 ho hd hf ?_);dsimp only;rw[gw];simp only[z35,if_false];have key:=Qdt T (fun i=>((es[i]?).map (·.1)).getD 0) @21 (p0:=t.probeStart @21) (Qca rfl) hN hb (10 * turns t.mask) k hk (by unfold turns;lia);rw[hst];have hpr:∃r,r=t.probe (fun i=>((es[i]?).map (·.1)).getD 0) @21 (pth t.mask @34 k):=⟨_,rfl⟩;obtain⟨r0,hr0⟩:=hpr
   have key:(r0=some (.empty (pth t.mask @34 N).j none)/\∀m i:Nat,k<=m->m<N->t.place[i]? = some (pth t.mask @34 m).j->((es[i]?).map (·.1)).getD 0≠hP prog w pr)\/
     ∃m i:Nat,k<=m/\m<N/\t.place[i]? = some (pth t.mask @34 m).j/\((es[i]?).map (·.1)).getD 0=hP prog w pr/\r0=some (.candidate (pth t.mask @34 m).j i (pth t.mask @34 (m+1)))/\∀m' i':Nat,k<=m'->m' < m->t.place[i']? = some (pth t.mask @34 m').j->((es[i']?).map (·.1)).getD 0≠hP prog w pr:=by
    rw[hr0];exact key
   split
   rotate_left
   ·rename_i hp
    rcases key with⟨e1,e2⟩|⟨m,i,m1,m2,m3,m4,m5,m6⟩
    ·exact(hp _ (hr0.symm.trans e1)).elim
    ·exact(hp _ (hr0.symm.trans m5)).elim
   rename_i met hp
   have hp:r0=some met:=hr0.trans hp;clear hr0;rcases key with⟨e1,e2⟩|⟨m,i,m1,m2,m3,m4,m5,m6⟩
   ·rw[e1] at hp;cases hp
    dsimp only;refine z04 (no fun hm=>?_);obtain⟨i,hi⟩:=z74 hm;obtain⟨r,er,pr'⟩:=Qlb ee hi;obtain⟨n,j,g1,g2,g3⟩:=T.pa i _ er;dsimp only at g2 g3;rcases z85 n N with z|z
    ·rcases z85 n k with y|y
     ·exact hne n i y (by rw[g2];exact g1) hi
     ·refine e2 n i y z (by rw[g2];exact g1) ?_;rw[er,zf6,zc8]
    ·rcases z85 N n with y|y
     ·exact hN (g3 N y)
     ·have:n=N:=by lia
      subst this;rw[g2] at hN;rw[← z18] at g1;exact hN (z38 g1)
   ·rw[m5] at hp;cases hp
    dsimp only;have hi:i<es.size:=by rw[← T.sz];exact(zg6.mp m3).1
    have ei:es[i]? = some es[i]:=z20 hi;obtain⟨r,p,f1,f2,f3,_⟩:=ee.po ei;rw[ei,f2]
    have rest:wpAny @1 A (do
      let equal ← holding [z30 r] (eqBool (.ref r) (.ref q))
      let (es',_,t') ← setState a
      if true && equal then return SetFound.there none
      let some same:=t'.sameMemory t.moves t.mask|unsupported "set.changed-during-lookup:is-the-new-block-at-the-old-address"
      let still ← match (if same then t'.slot (pth t.mask @34 m).j else .empty) with
       |.live i'=>match es'[i']? with
        |some (_,y')=>do pure (if ← isSame y' (.ref r) then some i' else none)
        |none=>pure none
       |_=>pure none
      match still with
      |none=>rule "set.search.anew";setSearchFrom a (.ref q) @21 true fuel none
      |some i'=>if equal then return .there (some i') else setSearchFrom a (.ref q) @21 true fuel (some (pth t.mask @34 (m+1)))) Q E s:=by
     refine z00 (z79 (Qjd hu f3 hq prog w _ _ ?_));refine z00 (zc7 ho hd hf ?_);dsimp only
     by_cases c:p=pr
     ·rw[decide_eq_true c];simp only[Bool.and_self,if_true];subst c;exact z04 (yes (z38 f1) none)
     ·rw[decide_eq_false c];simp only[zz2,z35,if_false];have sm:t.sameMemory t.moves t.mask=some true:=by unfold SetTable.sameMemory;rw[if_pos (beq_self_eq_true _)]
      rw[sm];dsimp only;rw[if_pos rfl,Qb9 T.ri m3];dsimp only;rw[ei,f2];dsimp only;refine z00 (wpAny_isSame_ref_self (z00 (z04 ?_)));simp only[if_true];refine ih (N - (m+1)) @0 (m+1) fuel _ rfl @0 @0 rfl fun m' i' h1 h2 h3=>?_;rcases z85 m' k with z|z
      ·exact hne m' i' z h2 h3
      ·rcases z85 m' m with y|y
       ·obtain⟨r',e',_⟩:=Qlb ee h3;refine m6 m' i' z y h2 ?_;rw[e',zf6,zc8]
       ·have:m'=m:=by lia
        subst this;have:i'=i:=by rw[← Vr T.ri h2,Vr T.ri m3]
        subst this;rw[f1] at h3;cases h3;exact c rfl
    cases Qcc:t.led with
    |true=>simp only[zc0,z35,if_false];exact rest
    |false=>
     simp only[zq7,if_true];refine z00 (Qjl hq (fun v hv=>?_) ?_)
     ·obtain⟨x,hx,rfl⟩:=z37.mp hv;rw[Array.toList_filter,z77] at hx;obtain⟨i',hi'⟩:=z74 hx.1;rw[z18] at hi';obtain⟨r',p',_,e',po',_⟩:=ee.po hi';exact⟨r',p',by rw[e'],po'⟩
     ·simp only[z35,if_false];exact rest
end
theorem Y5 {α β:Type}{R:α->β->Prop}{l l':List α}(p:l'.Perm l):∀{m:List β},Paired R l m->∃m',Paired R l' m'/\m'.Perm m:=by
 induction p with
 |nil=>intro m h;exact⟨m,h,.refl _⟩
 |cons x _ ih=>
  intro m h
  cases h with
  |cons r t=>obtain⟨m',h1,h2⟩:=ih t;exact⟨_::m',.cons r h1,h2.cons _⟩
 |swap x y l=>
  intro m h
  cases h with
  |cons r t=>
   cases t with
   |cons r' t=>exact⟨_::_::_,.cons r' (.cons r t),.swap _ _ _⟩
 |trans _ _ ih1 ih2=>
  intro m h;obtain⟨m',h1,h2⟩:=ih2 h;obtain⟨m'',h3,h4⟩:=ih1 h1;exact⟨m'',h3,h4.trans h2⟩
def Qe6 (prog:Program)(w:World)(M:Addr->Int×Int->Prop)(h:Heap)(a:Addr)(led:Bool)(ps:List @13):Prop:=
 ∃o es ep t,h.get? a=some o/\o.ExactSet/\o.data=.set es ep t/\Tp t es/\es.size * 5<t.mask * 3/\t.plain=true/\t.led=led/\Es prog w M h es.toList ps/\ps.Nodup
theorem PO.ext {h':Heap}{o:Obj}(x:PO h q p)(ho:h.get? a=some o)(hc:o.ExactSet)(sb:∀b o,b≠a->h.get? b=some o->h'.get? b=some o):PO h' q p:=by
 obtain⟨o',t,u,n,e,c,d⟩:=x;refine⟨o',t,u,n,sb q o' (fun z=>?_) e,c,d⟩;subst z;rw[e] at ho;cases ho;have:=hc.1;rw[c] at this;injection this with this;exact absurd this @2
section
theorem Es.ext {h h':Heap}{a:Addr}{o:Obj}{es:List @32}{ps:List @13}(x:Es prog w M h es ps)(ho:h.get? a=some o)(hc:o.ExactSet)(sb:∀b o,b≠a->h.get? b=some o->h'.get? b=some o):Es prog w M h' es ps:=
 Paired.imp' (fun _ _ ⟨q,e,po,m⟩=>⟨q,e,po.ext ho hc sb,m⟩) x
theorem QcS {t:SetTable}(T:Tp t es)(hl:es.size<=t.mask):t.fits es.size=true:=by
 simp only[y50,zw4,T.dm,z76,beq_iff_eq,decide_eq_true_eq];exact⟨T.sz,by have:=T.sz;show t.place.size+0<=_;lia⟩
theorem mk_le {m:Nat}(h:L2.St.Mk m):7<=m/\m<=8191:=by
 obtain⟨k,hk,e⟩:=h;have p:2 ^ k<=2 ^ 10:=zq5 @2 hk;have q:0<2 ^ k:=Nat.pow_pos @2;lia
theorem Qjm {t:SetTable}(T:Tp t es):t.fill=es.size:=by
 unfold zw4;rw[T.dm,T.sz];rfl
theorem Qdv {n:Nat}(h:n<=8192):n<=z24:=by rw[z67];lia
theorem Qld{led:Bool}(hu:A.units<cLine)(hS:Qe6 prog w M s.heap a led ps)(hq:PO s.heap q pr)(hm:M q pr)(hn:ps.length<1900)
  (k:∀h' ps' b,zd3 a s.heap h'->Qe6 prog w M h' a led ps'->ps'.Perm (if pr∈ps then ps else ps++[pr])->Q b { s with heap:=h' }):wpAny @1 A (setAddHashed a (.ref q) @21) Q E s:=by
 obtain⟨o,es,ep,t,ho,hex,hd,T,hlo,hpl,Qcc,hes,nd⟩:=id hS;have le:es.size=ps.length:=by have:=z97 hes;rw[z43] at this;exact this
 have mk:=mk_le T.ms;have hl:es.size<=t.mask:=by lia
 have hf:=QcS T hl;obtain⟨N,n1,n2,n3⟩:=Qjf T.ms (l:=t.place.toList) (by rw[z43,T.sz];exact hl) @21;unfold setAddHashed;refine z79 ?_;unfold setAddHashedIn;refine z00 (zc7 ho hd hf ?_);dsimp only;rw[show byScan (.ref q) es=false from rfl];simp only[z35,if_false];refine z00 (QoO (N:=N) ho hd T hl hes hq hu n2 n3 n1 (fun hin r=>?_) (fun hin=>?_) (N - 0) 0 100000 none rfl (z58 _) @0 rfl (fun m i z=>absurd z (zg3 _)))
 ·dsimp only;refine z04 ?_;have:=k s.heap ps false (zy9 _ _) hS (by rw[if_pos hin]);exact this
 ·dsimp only;have T1:=Qk8 T (x:=.ref q) n2 n3;refine z00 (zc7 ho hd hf ?_);dsimp only;generalize hpt:t.put (pth t.mask @34 N).j=pt at T1 ⊢;have Qjn:pt.1.plain=true/\pt.1.led=led/\pt.1.mask=t.mask:=by rw[← hpt];exact⟨hpl,Qcc,rfl⟩
  obtain⟨t1,p1⟩:=pt;dsimp only at T1 Qjn ⊢;have pm1:=insertAt_perm es p1 (hP prog w pr,z30 q);generalize he1:insertAt es p1 (hP prog w pr,z30 q)=es1 at T1 pm1 ⊢;rw[z49] at pm1;have sz1:es1.size=es.size+1:=by rw[← he1,Qbh]
  rw[Qjn.1];simp only[if_true];refine z00 (Qew hq ?_);simp only[if_true];refine z00 (wpAny_storeSet_of ho hd ?_ (Qdv @0))
  have hg:(s.heap.update a (zl5 es1 t1)).get? a=some { o with data:=.set es1 (ep+1) t1 }:=by
   have:=za2 (zl5 es1 t1) ho (by rw[putSet_of es1 t1 hd];rfl);rw[putSet_of es1 t1 hd] at this;exact this
  have hsb:=z78 s.heap a (zl5 es1 t1);have Qom:Obj.ExactSet { o with data:=.set es1 (ep+1) t1 }:=hex;obtain⟨ps1,QoP,pm2⟩:=Y5 pm1 (y13 hes (show ∃r,(hP prog w pr,z30 q)=(hP prog w pr,z30 r)/\PO s.heap r pr/\M r pr from⟨q,rfl,hq,hm⟩));have Qjo:Es prog w M (s.heap.update a (zl5 es1 t1)) es1.toList ps1:=Es.ext QoP ho hex hsb.extBut
  have nd1:ps1.Nodup:=pm2.nodup_iff.mpr (by
   rw[z12]
   exact⟨nd,z39.mpr ⟨by simp,zm6⟩,fun x hx y hy e=>by rw[z16] at hy;subst hy;subst e;exact hin hx⟩)
  have pmk:∀ps':List @13,ps'.Perm ps1->ps'.Perm (if pr∈ps then ps else ps++[pr]):=fun ps' z=>by rw[if_neg hin];exact z.trans pm2
  generalize s.heap.update a (zl5 es1 t1)=h1 at hg hsb Qjo ⊢;refine ze6 (fun hc=>?_) (fun hc=>z04 (k h1 ps1 true hsb ⟨_,es1,ep+1,t1,hg,Qom,rfl,T1,?_,Qjn.1,Qjn.2.1,Qjo,nd1⟩ (pmk _ (.refl _))))
  ·refine z00 ?_;unfold setRelay;refine z00 (zc7 (s:={ s with heap:=h1 }) (es:=es1) (ep:=ep+1) (t:=t1) hg rfl (QcS T1 (by rw[Qjn.2.2];lia)) ?_);dsimp only;have gr:zu3 (es.size+1)=(es.size+1) * 4:=by unfold zu3;rw[if_neg @0]
   obtain⟨mk2,mk3,mk4⟩:=Qhp (n:=zu3 (es.size+1)) (by rw[gr];lia);rw[gr] at mk2 mk3 mk4 ⊢;rw[if_neg (by rw[z67];lia)];have hr:=Qjj (finger:=t1.finger) (moves:=t1.movedTo (sizeAbove ((es.size+1) * 4) - 1)) (led:=t1.led) (plain:=t1.plain) mk2 (es:=es1) @0;obtain⟨t2,order,r1,r2,r3,r4,r5,r6⟩:=hr;have r1:t1.relaid (es1.map (·.1)) ((es.size+1) * 4)=some (t2,order):=r1;rw[r1];have ls:=r5.length_eq;rw[z43,z43] at ls;have ne:((order.filterMap (es1[·]?)).size != es1.size)=false:=by rw[ls];exact bne_self_eq_false _
   refine z00 ?_;show wpAny _ _ (if((order.filterMap (es1[·]?)).size != es1.size)=true then unsupported _ >>= fun _=>pure (order.filterMap (es1[·]?),t2) else pure (order.filterMap (es1[·]?),t2)) _ _ _;rw[ne];simp only[z35,if_false];refine z04 ?_;dsimp only;generalize order.filterMap (es1[·]?)=es2 at r5 r6 ls ⊢;refine wpAny_storeSet_of (s:={ s with heap:=h1 }) (es:=es1) (ep:=ep+1) (t:=t1) hg rfl ?_ (Qdv @0)
   have hg2:(h1.update a (zl5 es2 t2)).get? a=some { o with data:=.set es2 (ep+1+1) t2 }:=by
    have:=za2 (zl5 es2 t2) hg (by rw[putSet_of es2 t2 (es:=es1) (ep:=ep+1) (t:=t1) rfl];rfl);rw[putSet_of es2 t2 (es:=es1) (ep:=ep+1) (t:=t1) rfl] at this;exact this
   have Qon:=z78 h1 a (zl5 es2 t2);obtain⟨ps2,QoQ,pm3⟩:=Y5 r5 Qjo;refine z04 (k _ ps2 true (hsb.trans Qon) ⟨_,es2,_,t2,hg2,hex,rfl,r6,?_,by rw[r4];exact Qjn.1,by rw[r3];exact Qjn.2.1,Es.ext QoQ hg Qom Qon.extBut,pm3.nodup_iff.mpr nd1⟩ (pmk _ pm3));rw[r2];lia
  ·have f1:=Qjm T1;simp only[zq7,zs9,SetTable.tooFull,f1] at hc;simpa using hc
end
def Ji (ps:List @13)(p:Int×Int):List @13:=if p∈ps then ps else ps++[p]
def upTo (ps:List @13):List @13:=ps.foldl Ji []
theorem Qhq(h:ps.Nodup):(Ji ps p).Nodup:=by
 unfold Ji
 split
 ·exact h
 ·rename_i c
  rw[z12];exact⟨h,z39.mpr ⟨by simp,zm6⟩,fun x hx y hy e=>by rw[z16] at hy;subst hy;subst e;exact c hx⟩
theorem Qaq{q:Int×Int}:q∈Ji ps p↔q∈ps\/q=p:=by
 unfold Ji
 split
 ·rename_i c
  exact⟨.inl,fun h=>h.elim id fun e=>e▸c⟩
 ·rw[z08,z16]
theorem Qar:(Ji ps p).length<=ps.length+1:=by
 unfold Ji
 split
 ·lia
 ·rw[z10];exact z15 _
theorem Qex {qs:List @13}(h:ps.Perm qs):(Ji ps p).Perm (Ji qs p):=by
 unfold Ji
 by_cases c:p∈ps
 ·rw[if_pos c,if_pos (h.mem_iff.mp c)];exact h
 ·rw[if_neg c,if_neg fun z=>c (h.mem_iff.mpr z)];exact h.append (.refl _)
theorem Qe7 (ps:List @13)(p:Int×Int):upTo (ps++[p])=Ji (upTo ps) p:=by
 unfold upTo;rw[y55];rfl
theorem Qbi:∀(ps:List @13),(upTo ps).length<=ps.length:=by
 intro ps
 have:∀(ps acc:List @13),(ps.foldl Ji acc).length<=acc.length+ps.length:=by
  intro ps
  induction ps with
  |nil=>intro acc;exact z15 _
  |cons p ps ih=>intro acc;rw[zg0,z31];have:=ih (Ji acc p);have:=Qar (ps:=acc) (p:=p);lia
 simpa[upTo] using this ps []
theorem Qbj (ps:List @13):(upTo ps).Nodup:=by
 have:∀(ps acc:List @13),acc.Nodup->(ps.foldl Ji acc).Nodup:=by
  intro ps
  induction ps with
  |nil=>intro acc h;exact h
  |cons p ps ih=>intro acc h;exact ih _ (Qhq h)
 exact this ps [] .nil
theorem Qhr (ps:List @13)(q:Int×Int):q∈upTo ps↔q∈ps:=by
 have:∀(ps acc:List @13),q∈ps.foldl Ji acc↔q∈acc\/q∈ps:=by
  intro ps
  induction ps with
  |nil=>intro acc;simp
  |cons p ps ih=>intro acc;rw[zg0,ih,Qaq,z21,or_assoc]
 simpa[upTo] using this ps []
section
variable {R:Result->Shared->Prop}
theorem Qe6.fresh (led:Bool){h:Heap}{a:Addr}(ho:h.get? a=some { cls:=.type "set",dict:=none,data:=.set #[] 0 (.fresh 0 0 led)}):Qe6 prog w M h a led []:=
 ⟨_,#[],0,.fresh 0 0 led,ho,⟨rfl,rfl,rfl⟩,rfl,⟨rfl,⟨0,by lia,rfl⟩,rfl,.nil,fun i e z=>by simp at z⟩,by show 0 * 5<7 * 3;lia,rfl,rfl,.nil,.nil⟩
theorem Qe8 (hh:A.handled=none)(hu:A.units+1<cLine){S I l:Addr}{led:Bool}(hSI:S≠I)(hSl:S≠l)(hIl:l≠I)(lq:qs.length=ps.length)(hn:ps.length<1900)(pM:Paired M qs ps){h0:Heap}
  (hR:∀h' tk ps',(∀b o,b≠S->b≠I->h0.get? b=some o->h'.get? b=some o)->Qe6 prog w M h' S led ps'->ps'.Perm (upTo ps)->R (.ok (.ret .none)) { s with heap:=h',toks:=tk }) :
  ∀(m i:Nat) (h:Heap) (tk:Nat) (ps':List @13),ps.length - i=m->i<=ps.length->h.IsListIter I l i->h.IsList l (qs.map z30).toArray->Paired (PO h) qs ps->(∀b o,b≠S->b≠I->h0.get? b=some o->h.get? b=some o)->Qe6 prog w M h S led ps'->ps'.Perm (upTo (ps.take i))->
   codeAny @1 A (.builtin "set.update.loop" ⟨[.ref S,.ref I],[]⟩) R { s with heap:=h,toks:=tk }:=by
 intro m
 induction m with
 |zero=>
  intro i h tk ps' hm hi hit hl pr kp hS pm;have:i=ps.length:=by lia
  subst this;rw[z63] at pm;refine ze7 y30 ?_;rw[zb9 zo7 _];show wpAny _ A.in1 (pyNext (.ref I) >>= _) _ _ _;refine z00 (wpAny_pyNext_list_end (s:={ s with heap:=h,toks:=tk }) hh hit hl (by simp[lq]) fun h' he=>z04 (hR h' tk ps' (fun b o b1 b2 e=>he b o b2 (kp b o b1 b2 e)) ?_ pm));obtain⟨o,es,ep,t,ho,hex,hd,T,hlo,hpl,Qcc,hes,nd⟩:=hS;refine⟨o,es,ep,t,he _ _ hSI ho,hex,hd,T,hlo,hpl,Qcc,Paired.imp' (fun _ _ ⟨q,e,⟨o',t',u',n',e',c',d'⟩,m⟩=>⟨q,e,⟨o',t',u',n',he _ _ (fun z=>?_) e',c',d'⟩,m⟩) hes,nd⟩;subst z;obtain⟨oi,q1,q2,_⟩:=hit;rw[e'] at q1;cases q1;rw[c'] at q2;injection q2 with q2;exact absurd q2 @2
 |succ m ih=>
  intro i h tk ps' hm hi hit hl pr kp hS pm;have hlt:i<ps.length:=by lia
  have hq:i<qs.length:=by lia
  refine ze7 y30 ?_;rw[zb9 zo7 _];show wpAny _ A.in1 (pyNext (.ref I) >>= _) _ _ _;refine z00 (y48 (s:={ s with heap:=h,toks:=tk }) hit hl (x:=.ref qs[i]) (by simp[hq]) fun h' hit' hs'=>?_);dsimp only at hs'
  have nI:∀{q:Addr} {p:Int×Int},PO h q p->PO h' q p:=fun{q p} ⟨o',t',u',n',e',c',d'⟩=>⟨o',t',u',n',hs'.extBut _ _ (fun z=>by
   subst z;obtain⟨oi,q1,q2,_⟩:=hit;rw[e'] at q1;cases q1
   rw[c'] at q2;injection q2 with q2;exact absurd q2 @2) e',c',d'⟩
  have hS':Qe6 prog w M h' S led ps':=by
   obtain⟨o,es,ep,t,ho,hex,hd,T,hlo,hpl,Qcc,hes,nd⟩:=hS;exact⟨o,es,ep,t,hs'.extBut _ _ hSI ho,hex,hd,T,hlo,hpl,Qcc,Paired.imp' (fun _ _ ⟨q,e,po,m⟩=>⟨q,e,nI po,m⟩) hes,nd⟩
  have pr':Paired (PO h') qs ps:=Paired.imp' (fun _ _ z=>nI z) pr
  have po:PO h' qs[i] ps[i]:=by
   have:=Qb4.Qoj pr' hq;rw[z25,z25,z06 hq,z06 hlt] at this;exact this
  have mo:M qs[i] ps[i]:=by
   have:=Qb4.Qoj pM hq;rw[z25,z25,z06 hq,z06 hlt] at this;exact this
  have kp':∀b o,b≠S->b≠I->h0.get? b=some o->h'.get? b=some o:=fun b o b1 b2 e=>hs'.extBut b o b2 (kp b o b1 b2 e);have hl':=hl.extBut hs'.extBut hIl;show wpAny _ A.in1 (holding [z30 qs[i]] (setAdd S (.ref qs[i])) >>= _) _ _ _;refine z00 (z79 ?_);unfold setAdd;refine z79 ?_;have hu1:A.in1.units<cLine:=by have:=units_in1 (A:=A);lia
  refine z00 (Qjk (s:={ s with heap:=h',toks:=tk }) hu1 po ?_);have lps:ps'.length<1900:=by rw[pm.length_eq];have:=Qbi (ps.take i);rw[z48] at this;lia
  refine Qld (s:={ s with heap:=h',toks:=tk+3 }) hu1 hS' po mo lps fun h'' QoR _ sb hS'' QoS=>z04 ⟨plainId_quiet zo7 _,?_⟩;obtain⟨so,_,_,_,hso,hsx,_⟩:=id hS';refine ih (i+1) h'' (tk+3) QoR @0 hlt (hit'.extBut sb.extBut (zh9 hSI)) (hl'.extBut sb.extBut (zh9 hSl)) (Paired.imp' (fun _ _ z=>z.ext hso hsx sb.extBut) pr') (fun b o b1 b2 e=>sb.extBut b o b1 (kp' b o b1 b2 e)) hS'' ?_;rw[z92,z06 hlt,zq8,Qe7];exact QoS.trans (Qex pm)
def Qg8 (w:World):Obj:={ cls:=.type "set",dict:=none,data:=.set #[] 0 (.fresh 0 0 (!w.params.followText "set-order"))}
theorem Qjp (a:Value)(h:Q₁ (.ref s.heap.objs.size) { s with heap:=s.heap.push (Qg8 w)}):codeAny @1 A (.call (.builtin "set.__new__") ⟨[.type "set",a],[]⟩) (wants Q₁ E) s:=by
 have key:=@code_set_new_1 prog w A E s a (fun v s'=>v=.ref s.heap.objs.size/\∃led:Bool,s'={ s with heap:=s.heap.push { cls:=.type "set",dict:=none,data:=.set #[] 0 (.fresh 0 0 led)}}) (fun led=>⟨rfl,led,rfl⟩)
 have hsub:=sub_set_self;refine codeAny_of_tree (z00 (zp9 (F.newCall_set_1 a) (z04 ⟨plainId_quiet zz6 _,ze7 PySem.F.entry_set_new ?_⟩)));rw[zb9 zz6 _];obtain⟨hp,g,d,tk,os⟩:=s;unfold Builtin.«set.__new__»;unfold Builtin.Frozenset.newClass
 wp_walk
 refine zl8 (z04 ?_);dsimp only;simp only[newObj];exact z00 (wpAny_alloc (z04 (z04 h)))
theorem Qe9 (hh:A.handled=none)(hu:A.units+8<cLine){l:Addr}{Q:Value->Shared->Prop}(hl:s.heap.IsList l (qs.map z30).toArray)(pr:Paired (PO s.heap) qs ps)(pM:Paired M qs ps)(hn:ps.length<1900)
  (k:∀(h':Heap) (tk:Nat) (ps':List @13),Qe6 prog w M h' s.heap.objs.size (!w.params.followText "set-order") ps'->ps'.Perm (upTo ps)->Kp s.heap h'->Q (.ref s.heap.objs.size) { s with heap:=h',toks:=tk }) :
  wpAny @1 A (call (.type "set") [.ref l]) Q E s:=by
 have lq:=z97 pr;obtain⟨c,tl,hmro⟩:=zb3.mro;have hmade:=zb3.made;have hsub:=zb3.sub;have h1:=zb3.notType;have h2:=zb3.canCreate;have hct:=PySem.F.typeCall_set_1 (.ref l);refine wpAny_call (codeAny_of_tree (z04 ⟨Code.quiet_builtin _ (by decide +kernel),ze7 PySem.F.entry_type_call ?_⟩));rw[Around.under_plain (weight_type_call_type "set" [.ref l] []) rfl]
 repeat (any_goals (first|assumption|wp_step))
 refine zl4 (Qjp (.ref l) (E:=E) (Q₁:=fun v s₁=>v=.ref s.heap.objs.size/\s₁={ s with heap:=s.heap.push (Qg8 w)}) ⟨rfl,rfl⟩) fun r s₁ hr=>?_;rcases r with e|fl
 ·exact hr
 ·cases fl with
  |ret obj=>
   obtain⟨rfl,rfl⟩:=hr;have hS:(s.heap.push (Qg8 w)).get? s.heap.objs.size=some (Qg8 w):=z29 _ rfl;have hT:Shared.TypeIs { s with heap:=s.heap.push (Qg8 w)} (.ref s.heap.objs.size) "set" := ⟨_,hS,rfl⟩
   have hli:=zb3.init.lookup;have hbi:=zb3.init.bind (.ref s.heap.objs.size)
   repeat (any_goals (first|assumption|wp_step))
   refine zl4 (codeAny_call_builtin (R:=wants (fun r s₂=>r=.none/\∃h' tk ps',s₂={ s with heap:=h',toks:=tk }/\Qe6 prog w M h' s.heap.objs.size (!w.params.followText "set-order") ps'/\ps'.Perm (upTo ps)/\Kp s.heap h') E) zb3.init.plain PySem.F.entry_set_init (check_set_init_1 hT ?_)) fun r₂ s₂ hr₂=>?_
   ·have kp0:Kp s.heap (s.heap.push (Qg8 w)):=fun b o e=>z14 _ e;have hl1:(s.heap.push (Qg8 w)).IsList l (qs.map z30).toArray:=hl.push _;obtain⟨ol,hol,hcl,nl,hdl⟩:=id hl;obtain⟨ocls,odict,odata,oslots⟩:=ol;simp only at hcl hdl;subst hcl;subst hdl;have hol':=z14 (Qg8 w) hol;have hsls:=F.sub_list_set;have hslf:=F.sub_list_frozenset;have hne:(Value.type "list" == Value.type "dict")=false:=by decide
    unfold Builtin.«set.__init__» noKeywords Builtin.Frozenset.updateFrom;generalize hPI:pyIter=PI
    wp_walk
    subst hPI;refine wpAny_pyIter_list hl1 (z00 (wpAny_runValue ?_));have ls:l<s.heap.objs.size:=z34 hol;have sz:(s.heap.push (Qg8 w)).objs.size=s.heap.objs.size+1:=zh2 _ _;refine Qe8 (s:=s) (S:=s.heap.objs.size) (I:=(s.heap.push (Qg8 w)).objs.size) (l:=l) (led:=!w.params.followText "set-order") (qs:=qs) (ps:=ps) (h0:=s.heap) (by simp[hh]) ?_ (by rw[sz];exact z45 (zd1 _)) (zg4 ls) (by rw[sz];exact z45 (zc5 ls)) lq hn pM ?_ (ps.length - 0) 0 _ s.toks [] rfl (z58 _) ⟨_,z29 _ rfl,rfl,rfl⟩ (hl1.push _) ?_ ?_ (Qe6.fresh _ (z14 _ hS)) (by rw[zh1];exact .refl _)
    ·show A.units+1+1+1<cLine;lia
    ·intro h' tk' ps' kp hS' pm;refine z04 (z04 ⟨rfl,h',tk',ps',rfl,hS',pm,fun b o e=>kp b o (z45 (z34 e)) (by rw[sz];exact z45 (zc5 (z34 e))) e⟩)
    ·exact Paired.imp' (fun _ _ z=>(z.kp kp0).kp fun b o e=>z14 _ e) pr
    ·exact fun b o b1 b2 e=>z14 _ (kp0 b o e)
   ·rcases r₂ with e|fl₂
    ·exact hr₂
    ·cases fl₂ with
     |ret r=>
      obtain⟨rfl,h',tk,ps',rfl,hS',pm,hk'⟩:=hr₂
      repeat (any_goals (first|assumption|wp_step))
      exact k _ _ _ hS' pm hk'
     |_=>exact hr₂.elim
  |_=>exact hr.elim
end
end L2.Srt
namespace L2.Srt
open PySem PySem.W PySem.Calls PyProof.Rows
variable {E:Value->Shared->Prop}{P:Nat->Value->Prop}
structure Wk (prog:Program)(w:World)(A:Around)(I r:Addr)(n:Nat)(P:Nat->Value->Prop)(St:Nat->Heap->Prop):Prop where
 frame:∀i h h',St i h->(∀b o,b=I\/b=r->h.get? b=some o->h'.get? b=some o)->St i h'
 item:∀i (s:Shared) (Q:Option Value->Shared->Prop) (E:Value->Shared->Prop),i<n->St i s.heap->(∀v h',P i v->St (i+1) h'->(∀b o,b≠I->s.heap.get? b=some o->h'.get? b=some o)->Q @26 { s with heap:=h' })->wpAny @1 A (pyNext (.ref I)) Q E s
 done:∀(s:Shared) (Q:Option Value->Shared->Prop) (E:Value->Shared->Prop),St n s.heap->(∀h',(∀b o,b≠I->s.heap.get? b=some o->h'.get? b=some o)->Q none { s with heap:=h' })->wpAny @1 A (pyNext (.ref I)) Q E s
section
variable {prog:Program}{w:World}{A:Around}
theorem Wk.of1 {I r:Addr}{n:Nat}{St:Nat->Heap->Prop}(W:Wk prog w A.in1 I r n P St):Wk prog w A I r n P St:=⟨W.frame,fun i s Q E hi st hQ=>wpAny_of_in1 (W.item i s Q E hi st hQ),fun s Q E st hQ=>wpAny_of_in1 (W.done s Q E st hQ)⟩
theorem Qfa {g:Shared}{S I r:Addr}{n:Nat}{P:Nat->Value->Prop}{St:Nat->Heap->Prop}{R:Result->Shared->Prop}(W:Wk prog w A.in1 I r n P St)(hn:n<=z24)(hI:S≠I)(hr:S≠r)(res:Value){h0:Heap}
  (k:∀h' tk c vs,(∀b o,b≠S->b≠I->h0.get? b=some o->h'.get? b=some o)->h'.get? S=some (seqObj "list" vs c)->ItemsOf P vs n->R (.ok (.ret res)) { g with heap:=h',toks:=tk }) :
  ∀(m i:Nat) (h:Heap) (tk c:Nat) (vs:Array Value),n - i=m->i<=n->St i h->(∀b o,b≠S->b≠I->h0.get? b=some o->h.get? b=some o)->h.get? S=some (seqObj "list" vs c)->ItemsOf P vs i->
   codeAny @1 A (.builtin "list.extend.loop" ⟨[.ref S,.ref I,res],[]⟩) R { g with heap:=h,toks:=tk }
 |0,i,h,tk,c,vs,hm,hi,st,kp,hS,hv=>by
  have:i=n:=by lia
  subst this;refine ze7 zw1 ?_;rw[zb9 zc9 _];show wpAny _ A.in1 (pyNext (.ref I) >>= _) _ _ _;exact z00 (W.done { g with heap:=h,toks:=tk } _ _ st fun h' he=>z04 (k h' tk c vs (fun b o b1 b2 e=>he b o b2 (kp b o b1 b2 e)) (he S _ hI hS) hv))
 |m+1,i,h,tk,c,vs,hm,hi,st,kp,hS,hv=>by
  have hlt:i<n:=by lia
  refine ze7 zw1 ?_;rw[zb9 zc9 _];show wpAny _ A.in1 (pyNext (.ref I) >>= _) _ _ _;refine z00 (W.item i { g with heap:=h,toks:=tk } _ _ hlt st fun v h' hP st' he=>?_);have hS':=he S _ hI hS;have oth:∀b o,b≠S->h'.get? b=some o->(h'.update S (z54 (·.push v))).get? b=some o:=fun b o hb e=>(zf3 _ _ (zh9 hb)).trans e;show wpAny _ A.in1 (updateSeq S (·.push v) >>= _) _ _ _;refine z00 (zr6 hS' rfl (z04 ⟨plainId_quiet zc9 _,Qfa W hn hI hr res k m (i+1) _ tk _ (vs.push v) @0 hlt (W.frame _ _ _ st' fun b o hb e=>oth b o (by rcases hb with rfl|rfl<;>exact zh9 (by assumption)) e) (fun b o b1 b2 e=>oth b o b1 (he b o b2 (kp b o b1 b2 e))) (za2 (z54 (·.push v)) hS' rfl) (hv.push hP)⟩) (by rw[hv.1];lia) ?_);show(vs.push v).size<=z24+1;rw[z65,hv.1];lia
theorem Qdw {g:Shared}{r:Addr}{T:String}{or it:Obj}{n:Nat}{St:Addr->Nat->Heap->Prop}{R:List Value->Shared->Prop}(hr:g.heap.get? r=some or)(hc:or.cls=.type T)(hT1:(Value.type T == Value.type "list")=false)(hT2:(Value.type T == Value.type "tuple")=false)(hn:n<=z24)(hif:it.isFreed=false)
  (hI:∀(A:Around) (h:Heap) (tk:Nat) (Q:Value->Shared->Prop) (E:Value->Shared->Prop),Kp g.heap h->Q (.ref h.objs.size) { g with heap:=h.push it,toks:=tk }->wpAny @1 A (pyIter (.ref r)) Q E { g with heap:=h,toks:=tk })
  (hh:∀(A:Around) (h:Heap) (tk:Nat) (Q:Bool->Shared->Prop) (E:Value->Shared->Prop),Kp g.heap h->Q false { g with heap:=h,toks:=tk }->wpAny @1 A (zb8 (.ref r)) Q E { g with heap:=h,toks:=tk })
  (W:∀I,r≠I->Wk prog w A.in1.in1 I r n P (St I)) (st:∀h I,r≠I->h.get? r=some or->h.get? I=some it->St I 0 h)
  (k:∀(h':Heap) (tk:Nat) (vs:List Value),Kp g.heap h'->g.heap.objs.size<h'.objs.size->vs.length=n->(∀j v,vs[j]? = some v->P j v)->R vs { g with heap:=h',toks:=tk }):wpAny @1 A (collect (.ref r)) R E g:=by
 have rl:r<g.heap.objs.size:=z34 hr;unfold collect;refine z00 (wpAny_runValue (ze7 entry_proto_collect' ?_));rw[zb9 PySem.F.plain_proto_collect _];show wpAny _ A.in1 (newList [] >>= fun l=>again (.builtin "list.__iadd__" ⟨[l,.ref r],[]⟩)) _ _ g
 refine z00 (z69 (z04 ⟨plainId_quiet zx4 _,ze7 entry_list_iadd' ?_⟩));rw[zb9 zx4 _];generalize hh1:g.heap.push { cls:=.type "list",data:=.seq ([]:List Value).toArray }=h1
 have kp1:Kp g.heap h1:=fun b o e=>by rw[← hh1];exact z14 _ e
 have sz1:h1.objs.size=g.heap.objs.size+1:=by rw[← hh1,zh2]
 have hS:h1.get? g.heap.objs.size=some @18:=by rw[← hh1];exact z29 _ rfl
 show wpAny _ A.in1 (zr5 (.ref g.heap.objs.size) (.ref r) (.ref g.heap.objs.size)) _ _ { g with heap:=h1 };unfold zr5;refine z00 (zn7 (T:=T) ⟨or,kp1 _ _ hr,hc⟩ ?_);have q1:zt2 (.ref g.heap.objs.size) (.ref r)=false:=by simp[zt2,zg4 rl]
 simp only[q1,hT1,hT2,Bool.or_false,z35,if_false];refine z00 (hI _ h1 g.toks _ _ kp1 ?_);have kp2:Kp g.heap (h1.push it):=fun b o e=>z14 _ (kp1 b o e);have nI:r≠h1.objs.size:=by rw[sz1];exact z45 (zc5 rl)
 have go:∀(h:Heap) (c tk:Nat),(∀b o,b≠g.heap.objs.size->(h1.push it).get? b=some o->h.get? b=some o)->h.get? g.heap.objs.size=some (seqObj "list" #[] c)->
   codeAny @1 A (.builtin "list.extend.loop" ⟨[.ref g.heap.objs.size,.ref h1.objs.size,.ref g.heap.objs.size],[]⟩) (fun q s'=>∃(h':Heap) (tk' c':Nat) (vs:Array Value),q=.ok (.ret (.ref g.heap.objs.size))/\s'={ g with heap:=h',toks:=tk' }/\Kp g.heap h'/\h'.get? g.heap.objs.size=some (seqObj "list" vs c')/\ItemsOf P vs n) { g with heap:=h,toks:=tk }:=fun h c tk hk hSh=>by
  refine Qfa (g:=g) (h0:=g.heap) (W h1.objs.size nI).of1 hn (by rw[sz1];exact z45 (zd1 _)) (zg4 rl) (.ref g.heap.objs.size) (fun h' tk' c' vs e1 e2 e3=>⟨h',tk',c',vs,rfl,rfl,fun b o e=>e1 b o (z45 (z34 e)) (by rw[sz1];exact z45 (zc5 (z34 e))) e,e2,e3⟩) (n - 0) 0 h tk c #[] rfl (z58 _) (st _ _ nI (hk _ _ (z45 rl) (kp2 _ _ hr)) (hk _ _ (by rw[sz1];exact zg4 (zd1 _)) (z29 _ hif))) (fun b o b1 b2 e=>hk b o b1 (kp2 b o e)) hSh (ItemsOf.nil P)
 have hS₁:=z14 it hS;refine z00 (z79 (hh _ _ g.toks _ _ kp2 (ze6 (fun _=>z00 (zk7 (z00 ?_))) (fun _=>z04 ⟨plainId_quiet zc9 _,zl4 (go _ 0 g.toks (fun b o _ e=>e) hS₁) ?_⟩))))
 ·show wpAny _ _ (updateSeq g.heap.objs.size (·.push .none) >>= fun _=>updateSeq g.heap.objs.size (·.pop)) _ _ _;have hS₂:=za2 (z54 (·.push z40)) hS₁ rfl;have hS₃:=za2 (z54 (·.pop)) hS₂ rfl;refine z00 (zr6 hS₁ rfl (zr6 (hz:=by seq_fits) hS₂ rfl (z04 ⟨plainId_quiet zc9 _,zl4 (go _ _ g.toks (fun b o hb e=>(zf3 _ _ (zh9 hb)).trans ((zf3 _ _ (zh9 hb)).trans e)) hS₃) ?_⟩)));rintro q s' ⟨h',tk',c',vs,rfl,rfl,e3,e4,e5⟩;show wpAny _ A (load g.heap.objs.size >>= _) _ _ _;exact z00 (wpAny_load e4 (z04 (k h' tk' vs.toList e3 (z34 e4) (by rw[z43,e5.1]) fun j v hj=>e5.2 j v (by rw[← z18];exact hj))))
 ·rintro q s' ⟨h',tk',c',vs,rfl,rfl,e3,e4,e5⟩;show wpAny _ A (load g.heap.objs.size >>= _) _ _ _;exact z00 (wpAny_load e4 (z04 (k h' tk' vs.toList e3 (z34 e4) (by rw[z43,e5.1]) fun j v hj=>e5.2 j v (by rw[← z18];exact hj))))
end
end L2.Srt
namespace L2.Srt
open PySem PySem.W PySem.Calls PyProof.Rows PySem.SetTable L2.St
variable {prog:Program}{E Q:Value->Shared->Prop}{a:Addr}{es:Array @32}{ep:Nat}{g:Shared}{ps:List @13}{M:Addr->Int×Int->Prop}
theorem siN:Slot "set_iterator" "__next__" "set_iterator.__next__" := .of (owner := "set_iterator") (n := "__next__") (by rw[typeLookup_type,builtinLookup_eq_fast];kernel_rfl) (by decide +kernel) (by decide +kernel) (by decide +kernel) (by first|exact .inl (by decide +kernel)|exact .inr (by decide +kernel)) (by rw[y22];kernel_rfl)
theorem siE:entryFor table "set_iterator.__next__" = some Builtin.«set_iterator.__next__» := entryFor_of_tree (by kernel_rfl)
theorem siA (a:Value):argsOk "set_iterator.__next__" ⟨[a],[]⟩:=by unfold argsOk;kernel_rfl
theorem seE:entryFor table "set.__iter__" = some Builtin.«frozenset.__iter__» := entryFor_alias (id' := "frozenset.__iter__") (by kernel_rfl) rfl (by decide +kernel) (by kernel_rfl)
theorem QaY {α:Type}:∀(l:List α) (i:Nat) (x:α),l[i]? = some x->(x::l.eraseIdx i).Perm l
 | [],i,x,h=>by simp at h
 |y::l,0,x,h=>by simp at h;subst h;exact .refl _
 |y::l,i+1,x,h=>by
  rw[List.eraseIdx_cons_succ];exact(List.Perm.swap y x _).trans ((QaY l i x (by simpa using h)).cons y)
theorem Qfb {α:Type}(next:Nat->Nat):∀(fuel k:Nat) (left:List α) (out:Array α),left.length=fuel->(y49 next fuel k left out).toList.Perm (out.toList++left)
 |0,k,left,out,h=>by
  rw[ze3.mp h,z50];exact .refl _
 |fuel+1,k,left,out,h=>by
  unfold y49;have hl:next k % left.length<left.length:=zt9 _ @0
  rw[z06 hl];dsimp only;refine(Qfb next fuel (k+1) _ _ (by rw[List.length_eraseIdx_of_lt hl];lia)).trans ?_;rw[z49,z23];exact(ze2 _).append (QaY left _ _ (z06 hl))
theorem Qfc {α:Type}(next:Nat->Nat)(xs:Array α):(pickOrder next xs).toList.Perm xs.toList:=by
 have:=Qfb next xs.size 0 xs.toList #[] @6
 simpa[pickOrder] using this
def QeK (w:World)(a:Addr)(ep:Nat)(es:Array @32):Array @32:=if w.params.followText "set-order" = true then pickOrder (w.params.setOrder a ep) es else es
theorem Qcd (w:World)(a:Addr)(ep:Nat)(es:Array @32):(QeK w a ep es).toList.Perm es.toList:=by
 unfold QeK
 split
 ·exact Qfc _ _
 ·exact .refl _
theorem Vs (w:World)(a:Addr)(ep:Nat)(es:Array @32):(QeK w a ep es).size=es.size:=by
 have:=(Qcd w a ep es).length_eq;simpa using this
def Qfd (a:Addr)(slot i n ep:Nat):Obj:={ cls:=.type "set_iterator",dict:=none,data:=.fields #[.int slot 0,.int i 0,.ref a,.int n 0,.int ep 0],slots:=#[]}
def Sep (t:SetTable)(slot i:Nat):Prop:=(∀k b,k<i->t.place[k]? = some b->b<slot)/\∀k b,i<=k->t.place[k]? = some b->slot<=b
theorem Sep.below {t:SetTable}(hr:Ris t.place.toList){slot i:Nat}(h:Sep t slot i)(hi:i<=t.place.size):below t.place slot=i:=by
 obtain⟨h1,h2,h3⟩:=below_at hr slot;rcases zu0 (SetTable.below t.place slot) i with z|z|z
 ·have e:=z20 (z46 z hi);exact absurd (h.1 _ _ z e) (h3 _ _ (z15 _) e)
 ·exact z
 ·have e:=z20 (z46 z h1);have a1:=h2 _ _ z e;have a2:=h.2 _ _ (z15 _) e;lia
section
variable {w:World}{A:Around}{s:Shared}
theorem Qdx{o:Obj}{t:SetTable}{slot i:Nat}{Q:Option (Value×Nat)->Shared->Prop}(ho:s.heap.get? a=some o)(hd:o.data=.set es ep t)(T:L2.St.Tp t es)(hf:t.fits es.size=true)(hpl:t.plain=true)(Qcc:t.led = !w.params.followText "set-order")(hs:w.params.followText "set-order" = true\/Sep t slot i)(hi:i<=es.size)
  (k1:i=es.size->Q none s) (k2:∀e Qfe,(QeK w a ep es)[i]? = some e->(w.params.followText "set-order" = true\/Sep t Qfe (i+1))->Q (some (e.2,Qfe)) s):wpAny @1 A (setNext a slot i ep) Q E s:=by
 unfold setNext;refine z00 (zc7 ho hd hf ?_);dsimp only;unfold setsByText;refine z00 (z00 (zl8 (z04 ?_)));show wpAny @1 A (if w.params.followText "set-order" = true then _ else _) Q E s
 cases c:w.params.followText "set-order" with
 |true=>
  rw[if_pos rfl,if_neg @6];refine z00 ?_;unfold setWalk;refine z00 (zc7 ho hd hf ?_);dsimp only;unfold setsByText;refine z00 (z00 (zl8 (z04 ?_)));show wpAny @1 A (if w.params.followText "set-order" = true then _ else _) _ E s
  rw[if_pos c];refine z00 (zl8 (z04 (z04 ?_)));show Q (zs4 (fun e=>(e.2,slot)) (pickOrder (w.params.setOrder a ep) es)[i]?) s;have e:QeK w a ep es=pickOrder (w.params.setOrder a ep) es:=by unfold QeK;rw[if_pos c]
  rw[← e];rcases z85 i es.size with z|z
  ·have z':i<(QeK w a ep es).size:=by rw[Vs];exact z
   rw[z20 z',zf6];exact k2 _ slot (z20 z') (.inl c)
  ·rw[zf2 (by rw[Vs];exact z)];exact k1 @0
 |false=>
  rw[if_neg @6];have hs:Sep t slot i:=hs.resolve_left (by rw[c];exact z19);refine ze6 (fun z=>?_) (fun _=>?_)
  ·have z:(!t.plain && decide (es.size > 1))=true:=z;rw[hpl] at z;cases z
  refine z00 ?_;show wpAny _ _ (if(!t.led && !es.isEmpty)=true then unsupported _ else pure ()) _ _ _;rw[Qcc,c];simp only[zq7,zc0,Bool.false_and,z35,if_false];refine z04 ?_;rw[hs.below T.ri (by rw[T.sz];exact hi)];have e:QeK w a ep es=es:=by unfold QeK;rw[if_neg (by rw[c];exact z19)]
  rcases z85 i es.size with z|z
  ·have z':i<t.place.size:=by rw[T.sz];exact z
   rw[z20 z,z20 z'];refine z04 (k2 es[i] _ (by rw[e,z20 z]) (.inr ⟨fun k b hk hb=>?_,fun k b hk hb=>?_⟩))
   ·have m:∀b',t.place[i]? = some b'->b<=b':=fun b' hb'=>by
     rcases z85 k i with y|y
     ·rw[← z18] at hb hb';obtain⟨q1,q2⟩:=z11.mp hb;obtain⟨q3,q4⟩:=z11.mp hb';have:=z84.mp T.ri k i q1 q3 y;lia
     ·have:k=i:=by lia
      subst this;rw[hb] at hb';cases hb';exact z15 _
    exact Nat.lt_succ_of_le (m _ (z20 z'))
   ·have hb':=z20 z';rw[← z18] at hb hb';obtain⟨q1,q2⟩:=z11.mp hb;obtain⟨q3,q4⟩:=z11.mp hb';have:=z84.mp T.ri i k q3 q1 hk;lia
  ·rw[zf2 z];exact z04 (k1 @0)
def StS (w:World)(a:Addr)(o:Obj)(n ep:Nat)(t:SetTable)(I:Addr)(i:Nat)(h:Heap):Prop:=∃slot,h.get? I=some (Qfd a slot i n ep)/\h.get? a=some o/\(w.params.followText "set-order" = true\/Sep t slot i)/\i<=n
theorem Qle {I:Addr}{o:Obj}{t:SetTable}(nh:A.handled=none)(nI:a≠I)(hd:o.data=.set es ep t)(T:L2.St.Tp t es)(hf:t.fits es.size=true)(hpl:t.plain=true)(Qcc:t.led = !w.params.followText "set-order") :
  Wk prog w A I a es.size (fun i v=>∃e,(QeK w a ep es)[i]? = some e/\v=e.2) (StS w a o es.size ep t I) where
 frame:=fun i h h' ⟨slot,h1,h2,h3⟩ k=>⟨slot,k _ _ @14 h1,k _ _ (.inr rfl) h2,h3⟩
 item:=fun i s Q E hi ⟨slot,h1,h2,h3,h4⟩ k=>by
  have ty:s.TypeIs (.ref I) "set_iterator" := ⟨_,h1,rfl⟩
  unfold pyNext;refine z00 (zj9 (z83 (name:=zg2 "__next__") ty siN (z61 siN ty siE ?_ (siA _))))
  unfold Builtin.«set_iterator.__next__»;refine z00 (z04 (z00 (zl1 h1 rfl ?_)));dsimp only;refine z00 (zt8 h2 hd hf ?_);rw[if_neg (show ¬ _ by simp)];simp only[z66];refine z00 (Qdx h2 hd T hf hpl Qcc h3 (za3 hi) (fun z=>absurd hi @0) fun e Qfe e1 e2=>?_);dsimp only;refine z00 (za9 (show s.heap.get? I=some { cls:=.type "set_iterator",dict:=none,data:=.fields #[.int slot 0,.int i 0,.ref a,.int es.size 0,.int ep 0],slots:=#[]} from h1) @6 fun ha a1 a2=>?_)
  refine z00 (za9 (s:={ s with heap:=ha }) a1 @6 fun hb b1 b2=>?_);refine z04 ⟨_,rfl,z04 (k e.2 hb ⟨e,e1,rfl⟩ ⟨Qfe,?_,b2.extBut _ _ nI (a2.extBut _ _ nI h2),e2,hi⟩ fun b o hb' q=>b2.extBut b o hb' (a2.extBut b o hb' q))⟩;have e:((i+1:Nat):Int)=(i:Int)+1:=by lia
  unfold Qfd;rw[e];simpa[rawInt] using b1
 done:=fun s Q E ⟨slot,h1,h2,h3,h4⟩ k=>by
  have ty:s.TypeIs (.ref I) "set_iterator" := ⟨_,h1,rfl⟩
  unfold pyNext;refine z00 (zj9 (z83 (name:=zg2 "__next__") ty siN (z61 siN ty siE ?_ (siA _))))
  unfold Builtin.«set_iterator.__next__»;refine z00 (z04 (z00 (zl1 h1 rfl ?_)));dsimp only;refine z00 (zt8 h2 hd hf ?_);rw[if_neg (show ¬ _ by simp)];simp only[z66];refine z00 (Qdx h2 hd T hf hpl Qcc h3 (z15 _) (fun _=>?_) fun e Qfe e1 e2=>?_)
  ·dsimp only;refine z00 (zt4 h1 rfl @6 (z00 ?_));simp only[newExc,newTuple];refine z00 (z69 (z00 (m:=firstArgMember _ _) (zp9 (a:=z40) (by first|rfl|(simp only[firstArgMember];rfl)) (z69 ?_ (by size_fits)))) (by size_fits));simp only[raiseNew];refine z00 (y36 ?_);rw[show A.in1.handled=none by exact nh];refine z00 (z04 (wpAny_throw ?_));refine z00 (zc1 (T := "StopIteration") (b:=true) ⟨_,z29 _ rfl,rfl⟩ y23 (z04 (k _ ?_)))
   exact((z78 ..).extBut.push _).push _
  ·rw[zf2 (by rw[Vs];exact z15 _)] at e1;cases e1
theorem Qhs{o:Obj}{t:SetTable}(ho:s.heap.get? a=some o)(hex:o.ExactSet)(hd:o.data=.set es ep t)(hf:t.fits es.size=true)(hpl:t.plain=true)
  (k:Q (.ref s.heap.objs.size) { s with heap:=s.heap.push (Qfd a 0 0 es.size ep)}):wpAny @1 A (pyIter @28) Q E s:=by
 have ty:s.TypeIs @28 "set" := ⟨o,ho,hex.1⟩
 refine wpAny_pyIter_slot ty zz5 (z61 zz5 ty seE ?_ (PySem.F.args_set_iter_1 _));unfold Builtin.«frozenset.__iter__» Builtin.Frozenset.slot0 slotArgs;simp only[List.isEmpty_nil,zc0,z35,↓reduceIte,bind_assoc,zi2,bne_self_eq_false];unfold Builtin.Frozenset.addrOf Builtin.Frozenset.sizeOf;refine z00 (z04 ?_)
 try dsimp only
 refine z00 (z04 ?_);refine z00 (z00 (zt8 ho hd hf (z04 ?_)));refine z00 ?_;unfold setDrawn setsByText;refine z00 (zc7 ho hd hf ?_);dsimp only;refine z00 (z00 (zl8 (z04 (z04 ?_))));rw[if_neg]
 ·refine z00 (z04 (z00 (wpAny_setEpoch_of ho hd hf (z00 ?_))));unfold newFields;refine z69 (z04 ⟨_,rfl,"set_iterator",_,⟨_,z29 _ rfl,rfl⟩,siN.lookup,?_⟩) (by size_fits)
  simpa[rawInt,Qfd] using k
 ·intro z;have z:=(z75.mp z).2;have z:(!t.plain && decide (es.size > 1))=true:=z;rw[hpl] at z;cases z
end
section
variable {w:World}{A:Around}{s:Shared}
theorem Qnj {A:Around}(hu:A.units+1<cLine):Qb7 A @13 ltP PO (tuples' true) where
 kp:=PO.kp
 kind:=fun{prog w s qs ps Q} pr h2 q=>by
  obtain⟨fs,kt,lf,af⟩:=Qjb pr;refine kat_kind (T:=.type "int") kt @0 (fun v hv=>?_) rfl q
  obtain⟨i,t,rfl⟩:=af v hv;exact Looks.of_pure rfl
 det:=PO.det
 cmp:=fun{prog w s q r x y Q} hq hr h=>Qjc hq hr h
theorem Qce {α:Type}{lt:α->α->Bool}{PO:Heap->Addr->α->Prop}{κ:SortKind}(d:α)(S:Qb7 A.in1.in1 α lt PO κ)(L:Lin lt){r:Addr}{ps:List α}{M:Addr->α->Prop}(l64:ps.length<=4000)(nd:ps.Nodup)
  (hc:∀(R:List Value->Shared->Prop),(∀(h1:Heap) (tk:Nat) (qs:List Addr) (ps':List α),Kp g.heap h1->g.heap.objs.size<h1.objs.size->Paired (PO h1) qs ps'->Paired M qs ps'->ps'.Perm ps->R (qs.map z30) { g with heap:=h1,toks:=tk })->wpAny @1 A.in1 (collect (.ref r)) R (fun e s'=>wants Q E (.error e) s') g)
  (k:∀(h':Heap) (tk c:Nat) (L:Addr) (qs:List Addr) (ps':List α),Kp g.heap h'->g.heap.objs.size<=L->Paired M qs ps'->ps'.Perm ps->ps'.Pairwise (fun a b=>lt a b=true)->h'.get? L=some (seqObj "list" (qs.map z30).toArray c)->Q (.ref L) { g with heap:=h',toks:=tk }) :
  wpAny @1 A (call (.builtin "sorted") [.ref r]) Q E g:=by
 refine zm3 kind_sorted plain_sorted entry_sorted (args_sorted1 _) ?_;unfold Builtin.«sorted»;refine z00 (m:=checkCount "sorted" 1 1 _) (z04 (z00 (hc _ fun h1 tk1 as qp k1 gsz pr pM pm=>?_)))
 have lp:=z97 pr;have lps:qp.length=ps.length:=pm.length_eq;have ndp:qp.Nodup:=pm.nodup_iff.mpr nd;have Qht:(as.map z30).length=qp.length:=by rw[z01,lp]
 have hn:(as.map z30).length<=z24:=by rw[Qht,z67];lia
 refine z00 (zq0 ?_ hn);have hoL:(h1.push (seqObj "list" (as.map z30).toArray 0)).get? h1.objs.size=some (seqObj "list" (as.map z30).toArray 0):=z29 _ rfl
 have keep:Kp h1 (h1.push (seqObj "list" (as.map z30).toArray 0)):=fun b o q=>z14 _ q
 have hn0:h1.get? h1.objs.size=none:=zl0 (z15 _)
 have og:∀{i:Nat},i<(as.map z30).length->(as.map z30).getD i z40=z30 (as.getD i 0):=fun{i} hi=>by
  rw[z01] at hi;rw[z25,z25,z17,z06 hi];rfl
 have tail:∀(h':Heap) (tk c:Nat) (is:List Nat),is.Perm (z41 qp.length)->is.Pairwise (fun i j=>lt (qp.getD i d) (qp.getD j d)=true)->Kp h1 h'->h'.get? h1.objs.size=some (seqObj "list" (is.map fun i=>(as.map z30).getD i z40).toArray c)->Q (.ref h1.objs.size) { g with heap:=h',toks:=tk }:=fun h' tk c is pi pw kp hD'=>by
  have hb:∀i∈is,i<qp.length:=fun i hi=>z70.mp (pi.mem_iff.mp hi)
  have Qoo:(is.map fun i=>(as.map z30).getD i z40)=(is.map fun i=>as.getD i 0).map z30:=by
   rw[z60];exact z80 fun i hi=>og (by rw[Qht];exact hb i hi)
  rw[Qoo] at hD';refine k h' tk c h1.objs.size (is.map fun i=>as.getD i 0) (is.map fun i=>qp.getD i d) (fun b o e=>kp b o (k1 b o e)) (za3 gsz) ?_ ?_ (zd9.mpr pw) hD'
  ·clear Qoo hD' pw pi
   induction is with
   |nil=>exact .nil
   |cons i is ih=>exact .cons (Qb4.Qk5 (d:=d) pM (by rw[lp];exact hb i z09)) (ih fun j hj=>hb j (z07 _ hj))
  ·have z:=pi.map fun i=>qp.getD i d;rw[range_getD] at z;exact z.trans pm
 refine z00 (z79 (z61 slot_list_sort ⟨_,hoL,rfl⟩ entry_list_sort ?body (args_list_sort _)))
 case body=>
  by_cases h2:2<=qp.length
  ·refine Qb3 (s:={ g with heap:=h1.push (seqObj "list" (as.map z30).toArray 0),toks:=tk1 }) (h0:=h1) (κ:=κ) (lt:=fun i j=>lt (qp.getD i d) (qp.getD j d)) hoL keep hn0 (by rw[Qht];exact h2) (by rw[Qht];lia) (S.nq (d:=d) pr ndp) (by rw[Qht];exact L.ord _ ndp) (fun h' tk Q' kp q=>?_) (fun h' tk i j Q' kp hi hj q=>?_) fun h' tk p c pp up kp hD=>⟨_,rfl,z04 ⟨_,rfl,?_⟩⟩
   ·exact S.kind (s:={ g with heap:=h',toks:=tk }) (Paired.imp' (fun _ _ z=>S.kp z kp) pr) h2 q
   ·rw[og hi,og hj];rw[z01] at hi hj;exact S.cmp (s:={ g with heap:=h',toks:=tk }) (S.kp (Qb4.Qk5 (d:=d) pr hi) kp) (S.kp (Qb4.Qk5 (d:=d) pr hj) kp) (q tk)
   ·rw[Qht] at pp;exact tail h' tk c p pp up kp hD
  ·refine QaW (s:={ g with heap:=h1.push (seqObj "list" (as.map z30).toArray 0),toks:=tk1 }) (h0:=h1) hoL keep hn0 (by rw[Qht];lia) fun h' tk c kp hD=>⟨_,rfl,z04 ⟨_,rfl,tail h' tk c (z41 qp.length) (ze2 _) ?_ kp ?_⟩⟩
   ·rw[z84];intro i j hi hj hij;rw[z52] at hj;lia
   rw[hD]
   congr 2
   have:(as.map z30).length<2:=by rw[Qht];lia
   rw[← Qht];generalize as.map z30=vs at this
   match vs,this with
   | [],_=>rfl
   | [v],_=>rfl
   |_::_::_,h=>exact absurd h (by simp only[z31];lia)
theorem Qdy{r:Addr}(hu:A.units+3<cLine)(l64:ps.length<=4000)(nd:ps.Nodup)
  (hc:∀(R:List Value->Shared->Prop),(∀(h1:Heap) (tk:Nat) (qs:List Addr) (ps':List @13),Kp g.heap h1->g.heap.objs.size<h1.objs.size->Paired (PO h1) qs ps'->Paired M qs ps'->ps'.Perm ps->R (qs.map z30) { g with heap:=h1,toks:=tk })->wpAny @1 A.in1 (collect (.ref r)) R (fun e s'=>wants Q E (.error e) s') g)
  (k:∀(h':Heap) (tk c:Nat) (L:Addr) (qs:List Addr) (ps':List @13),Kp g.heap h'->g.heap.objs.size<=L->Paired M qs ps'->ps'.Perm ps->ps'.Pairwise (fun a b=>ltP a b=true)->h'.get? L=some (seqObj "list" (qs.map z30).toArray c)->Q (.ref L) { g with heap:=h',toks:=tk }) :
  wpAny @1 A (call (.builtin "sorted") [.ref r]) Q E g:=Qce (0,0) (Qnj (by show A.units+1+1+1<cLine;lia)) YC l64 nd hc k
theorem Qhu {r:Addr}(hT:s.TypeIs (.ref r) "set"){Q:Bool->Shared->Prop}(h:Q false s):wpAny @1 A (zb8 (.ref r)) Q E s:=by
 unfold zb8;refine z00 (ze5 hT PySem.F.slot_set_len.lookup ?_);generalize hid:("set.__len__" : String)=id0
 wp_delta
 rw[show splitId id0=some ("set","__len__") by subst hid;decide +kernel]
 subst hid;refine z00 (zc1 (T := "set") (b:=true) hT (by rw[y22];kernel_rfl) ?_)
 refine ze6 (fun z=>absurd z @2) (fun _=>ze6 (fun _=>z00 (zn7 hT (z04 h))) (fun z=>absurd (by decide +kernel) z))
theorem Qjq{R:List Value->Shared->Prop}(nh:A.handled=none)(hS:Qe6 prog w M g.heap a (!w.params.followText "set-order") ps)
  (k:∀(h1:Heap) (tk:Nat) (qs:List Addr) (ps':List @13),Kp g.heap h1->g.heap.objs.size<h1.objs.size->Paired (PO h1) qs ps'->Paired M qs ps'->ps'.Perm ps->R (qs.map z30) { g with heap:=h1,toks:=tk }):wpAny @1 A (collect @28) R E g:=by
 obtain⟨o,es,ep,t,ho,hex,hd,T,hlo,hpl,Qcc,hes,nd⟩:=hS;have mk:=mk_le T.ms;have hf:=QcS T @0;refine Qdw (it:=Qfd a 0 0 es.size ep) (P:=fun i v=>∃e,(QeK w a ep es)[i]? = some e/\v=e.2) (St:=StS w a o es.size ep t) ho hex.1 @2 @2 (by rw[z67];lia) rfl (fun A h tk Q E kp q=>Qhs (s:={ g with heap:=h,toks:=tk }) (kp _ _ ho) hex hd hf hpl q) (fun A h tk Q E kp q=>?_) (fun I nI=>Qle nh nI hd T hf hpl Qcc) (fun h I nI h1 h2=>⟨0,h2,h1,.inr ⟨fun k b hk=>absurd hk (zg3 _),fun k b _ _=>z58 _⟩,z58 _⟩) fun h' tk vs kp gs lv hv=>?_
 ·exact Qhu (s:={ g with heap:=h,toks:=tk }) ⟨_,kp _ _ ho,hex.1⟩ q
 ·obtain⟨ps',q1,q2⟩:=Y5 (Qcd w a ep es) hes
  have:∀(l:List @32) (vs:List Value) (ps':List @13),vs.length=l.length->(∀(j:Nat) (v:Value),vs[j]? = some v->∃e:Int×Value,l[j]? = some e/\v=e.2)->Paired (fun(e:Int×Value) p=>∃q,e=(hP prog w p,.ref q)/\PO g.heap q p/\M q p) l ps'->∃qs:List Addr,vs=qs.map z30/\Paired (PO g.heap) qs ps'/\Paired M qs ps':=by
   intro l
   induction l with
   |nil=>intro vs ps' e _ h;cases h;exact⟨[],ze3.mp e,.nil,.nil⟩
   |cons x l ih=>
    intro vs ps' e hv h
    cases h with
    |cons r h=>
     obtain⟨q,rfl,po,m⟩:=r
     cases vs with
     |nil=>cases e
     |cons v vs=>
      obtain⟨e',e1,e2⟩:=hv 0 v rfl;simp at e1;subst e1;obtain⟨qs,rfl,p1,p2⟩:=ih vs _ (by simpa using e) (fun j v hj=>by simpa using hv (j+1) v (by simpa using hj)) h;exact⟨q::qs,by rw[e2];rfl,.cons po p1,.cons m p2⟩
  obtain⟨qs,rfl,p1,p2⟩:=this (QeK w a ep es).toList vs ps' (by rw[lv,z43,Vs]) (fun j v hj=>by rw[z18];exact hv j v hj) q1;exact k h' tk qs ps' kp gs (Paired.imp' (fun _ _ z=>z.kp kp) p1) p2 q2
end
end L2.Srt
namespace L2.Srt
open PySem PySem.W PySem.Calls PyProof.Rows
variable {E Q:Value->Shared->Prop}{d:Addr}{es:Array DictEntry}{ep:Nat}
section
variable {prog:Program}{w:World}{A:Around}{s:Shared}
def QcT (d:Addr)(i n ep:Nat):Obj:={ cls:=.type "dict_keyiterator",dict:=none,data:=.fields #[.ref d,.int i 0,.int n 0,.int ep 0],slots:=#[]}
def StK (d:Addr)(o:Obj)(n ep:Nat)(I:Addr)(i:Nat)(h:Heap):Prop:=h.get? I=some (QcT d i n ep)/\h.get? d=some o
theorem Qff {I:Addr}{o:Obj}(nh:A.handled=none)(nI:d≠I)(hd:o.data=.dict es ep):Wk prog w A I d es.size (fun i v=>∃e:DictEntry,es[i]? = some e/\v=e.key) (StK d o es.size ep I) where
 frame:=fun i h h' ⟨h1,h2⟩ k=>⟨k _ _ @14 h1,k _ _ (.inr rfl) h2⟩
 item:=fun i s Q E hi ⟨h1,h2⟩ k=>by
  have ty:s.TypeIs (.ref I) "dict_keyiterator" := ⟨_,h1,rfl⟩
  have ow:zo5 "dict_keyiterator" = false:=by decide
  unfold pyNext;refine z00 (zj9 (z83 (name:=zg2 "__next__") ty za0 (z61 za0 ty zq1 ?_ (zp0 _))))
  refine z00 (z04 (z00 (z00 ?_)))
  first|refine z00 (zf7 ty (z04 (z00 (zl1 h1 rfl ?_))))|refine z00 (zi6 ty (z04 (z00 (zl1 h1 rfl ?_))))
  simp only[ow,z35,if_false];show wpAny _ _ (if(z30 d == z40)=true then _ else _) _ _ _;rw[if_neg (show ¬ ((z30 d == z40)=true) from fun z=>z19 z)];refine z00 (z04 (z00 (zo6 h2 hd ?_)));rw[if_neg (show ¬ _ by simp)];refine z00 (z04 (z00 (y05 h2 hd ?_)));rw[if_neg (show ¬ _ by simp)];refine z04 ?_;simp only[show ¬ ((i:Int)<0) by lia,if_false,z66,z20 hi];refine z00 ?_
  first|refine z00 (zf7 ty (z04 (z00 (zr8 ty ?_))))|refine z00 (zi6 ty (z04 (z00 (zr8 ty ?_))))
  show wpAny _ _ (setField (.ref I) 1 (rawInt ((i:Int)+1)) >>= _) _ _ _;refine z00 (za9 (show s.heap.get? I=some { cls:=.type "dict_keyiterator",dict:=none,data:=.fields #[.ref d,.int i 0,.int es.size 0,.int ep 0],slots:=#[]} from h1) @6 fun ha a1 a2=>?_)
  have c1:ha.get? I=some (QcT d (i+1) es.size ep):=by
   have e:((i+1:Nat):Int)=(i:Int)+1:=by lia
   unfold QcT;rw[e];simpa[rawInt] using a1
  have ty1:Shared.TypeIs { s with heap:=ha } (.ref I) "dict_keyiterator" := ⟨_,c1,rfl⟩
  refine z00 (z79 (z00 (zr8 ty1 ?_)));show wpAny _ _ (pure es[i].key) _ _ _;exact z04 (z04 ⟨_,rfl,z04 (k es[i].key ha ⟨es[i],z20 hi,rfl⟩ ⟨c1,a2.extBut _ _ nI h2⟩ fun b o hb e=>a2.extBut b o hb e)⟩)
 done:=fun s Q E ⟨h1,h2⟩ k=>by
  have ty:s.TypeIs (.ref I) "dict_keyiterator" := ⟨_,h1,rfl⟩
  have ow:zo5 "dict_keyiterator" = false:=by decide
  unfold pyNext;refine z00 (zj9 (z83 (name:=zg2 "__next__") ty za0 (z61 za0 ty zq1 ?_ (zp0 _))))
  refine z00 (z04 (z00 (z00 ?_)))
  first|refine z00 (zf7 ty (z04 (z00 (zl1 h1 rfl ?_))))|refine z00 (zi6 ty (z04 (z00 (zl1 h1 rfl ?_))))
  simp only[ow,z35,if_false];show wpAny _ _ (if(z30 d == z40)=true then _ else _) _ _ _;rw[if_neg (show ¬ ((z30 d == z40)=true) from fun z=>z19 z)];refine z00 (z04 (z00 (zo6 h2 hd ?_)));rw[if_neg (show ¬ _ by simp)];refine z00 (z04 (z00 (y05 h2 hd ?_)));rw[if_neg (show ¬ _ by simp)];refine z04 ?_;simp only[show ¬ ((es.size:Int)<0) by lia,if_false,z66,zf2 (z15 es.size)];refine z00 ?_
  first|refine z00 (zf7 ty (z04 ?_))|refine z00 (zi6 ty (z04 ?_))
  show wpAny _ _ (setField (.ref I) 0 .none >>= fun _=>newExc (.type "StopIteration") [] >>= _) _ _ _
  refine z00 (zt4 h1 rfl @6 (z00 ?_));simp only[newExc,newTuple];refine z00 (z69 (z00 (m:=firstArgMember _ _) (zp9 (a:=z40) (by first|rfl|(simp only[firstArgMember];rfl)) (z69 ?_ (by size_fits)))) (by size_fits));simp only[raiseNew];refine z00 (y36 ?_);rw[show A.in1.handled=none by exact nh];refine z00 (z04 (wpAny_throw ?_));refine z00 (zc1 (T := "StopIteration") (b:=true) ⟨_,z29 _ rfl,rfl⟩ y23 (z04 (k _ ?_)))
  exact((z78 ..).extBut.push _).push _
theorem Qbk{o:Obj}(hs:(d == sysModules)=false)(ho:s.heap.get? d=some o)(hx:o.ExactDict)(hd:o.data=.dict es ep)(k:Q (.ref s.heap.objs.size) { s with heap:=s.heap.push (QcT d 0 es.size ep)}):wpAny @1 A (pyIter (.ref d)) Q E s:=by
 have ty:s.TypeIs (.ref d) "dict" := ⟨o,ho,hx.1⟩
 refine wpAny_pyIter_slot ty zy3 (z61 zy3 ty PySem.F.entry_dict_iter ?_ (PySem.F.args_dict_iter_1 _));unfold Builtin.«dict.__iter__»;unfold Builtin.Dict.dictSlotNone;refine z00 (z00 (wpAny_notOrdered_dict ty ?_));show wpAny _ _ (pure (z30 d)) _ _ s;refine z04 ?_;show wpAny _ _ (zv5 d >>= _) _ _ s;unfold zv5;rw[if_neg (show ¬ (d == sysModules)=true by rw[hs];decide)];refine z00 (z04 (z00 (zo6 ho hd (z00 (y05 ho hd ?_)))));refine z00 (z69 (z04 ⟨_,rfl,"dict_keyiterator",_,⟨_,z29 _ rfl,rfl⟩,za0.lookup,?_⟩))
 simpa[rawInt,QcT] using k
theorem Qfg {r:Addr}(hT:s.TypeIs (.ref r) "dict"){Q:Bool->Shared->Prop}(h:Q false s):wpAny @1 A (zb8 (.ref r)) Q E s:=by
 unfold zb8;refine z00 (ze5 hT PySem.F.slot_dict_len.lookup ?_);generalize hid:("dict.__len__" : String)=id0
 wp_delta
 rw[show splitId id0=some ("dict","__len__") by subst hid;decide +kernel]
 subst hid;refine z00 (zc1 (T := "dict") (b:=true) hT (by rw[y22];kernel_rfl) ?_)
 refine ze6 (fun z=>absurd z @2) (fun _=>ze6 (fun _=>z00 (zn7 hT (z04 h))) (fun z=>absurd (by decide +kernel) z))
theorem Qhv {g:Shared}{o:Obj}{R:List Value->Shared->Prop}(nh:A.handled=none)(hs:(d == sysModules)=false)(ho:g.heap.get? d=some o)(hx:o.ExactDict)(hd:o.data=.dict es ep)(hn:es.size<=z24)
  (k:∀(h1:Heap) (tk:Nat),Kp g.heap h1->g.heap.objs.size<h1.objs.size->R (es.toList.map zw3) { g with heap:=h1,toks:=tk }):wpAny @1 A (collect (.ref d)) R E g:=by
 refine Qdw (it:=QcT d 0 es.size ep) (P:=fun i v=>∃e:DictEntry,es[i]? = some e/\v=e.key) (St:=StK d o es.size ep) ho hx.1 @2 @2 hn rfl (fun A h tk Q E kp q=>Qbk (s:={ g with heap:=h,toks:=tk }) hs (kp _ _ ho) hx hd q) (fun A h tk Q E kp q=>Qfg (s:={ g with heap:=h,toks:=tk }) ⟨_,kp _ _ ho,hx.1⟩ q) (fun I nI=>Qff nh nI hd) (fun h I nI h1 h2=>⟨h2,h1⟩) fun h' tk vs kp gs lv hv=>?_
 have e:vs=es.toList.map zw3:=by
  refine zj6 fun j=>?_;rw[z17]
  cases c:vs[j]? with
  |none=>
   have z:es.toList[j]? = none:=zp5 (by rw[z43,← lv];exact zm7.mp c);rw[z];rfl
  |some v=>
   obtain⟨e,e1,e2⟩:=hv j v c;rw[z18,e1,e2];rfl
 subst e;exact k h' tk kp gs
end
end L2.Srt
namespace L2.Srt
open PySem PySem.W PySem.Calls PyProof.Rows PySem.SetTable L2.St
abbrev P4:=@13×@13
def Qey (a b:P4):Bool:=ltP a.1 b.1 || (decide (a.1=b.1) && ltP a.2 b.2)
theorem Qaf {a b:P4}:Qey a b=true↔ltP a.1 b.1=true\/(a.1=b.1/\ltP a.2 b.2=true):=by unfold Qey;simp
theorem Qfh:Lin Qey where
 irr:=fun a=>by
  rw[zn4];intro h;rcases Qaf.mp h with h|⟨_,h⟩<;>rw[Qap] at h<;>cases h
 tr:=fun a b c h h'=>by
  rw[Qaf] at h h' ⊢;rcases h with h|⟨e,h⟩<;>rcases h' with h'|⟨e',h'⟩
  ·exact .inl (Qe1 h h')
  ·exact .inl (e'▸h)
  ·exact .inl (e▸h')
  ·exact .inr ⟨e.trans e',Qe1 h h'⟩
 tot:=fun a b ne h=>by
  rw[Qaf];have h':¬ (ltP a.1 b.1=true\/(a.1=b.1/\ltP a.2 b.2=true)):=fun z=>by rw[Qaf.mpr z] at h;cases h
  by_cases e:a.1=b.1
  ·exact .inr ⟨e.symm,QcP (fun z=>ne (zo0 e z)) (by rw[zn4];exact fun z=>h' (.inr ⟨e,z⟩))⟩
  ·exact .inl (QcP e (by rw[zn4];exact fun z=>h' (.inl z)))
def PO4 (h:Heap)(q:Addr)(x:P4):Prop:=∃o a b n,h.get? q=some o/\o.cls=.type "tuple" /\ o.data=.seq #[.ref a,.ref b] n/\PO h a x.1/\PO h b x.2
theorem PO4.kp {h h':Heap}{q:Addr}{x:P4}(p:PO4 h q x)(k:Kp h h'):PO4 h' q x:=by
 obtain⟨o,a,b,n,e,c,d,p1,p2⟩:=p;exact⟨o,a,b,n,k _ _ e,c,d,p1.kp k,p2.kp k⟩
theorem Qhw {h:Heap}{qs:List Addr}{ps:List P4}(p:Paired (PO4 h) qs ps):∃fs,KatTups h (qs.map z30) fs/\fs.length=ps.length/\∀v∈fs,∃r x,v=z30 r/\PO h r x:=by
 induction p with
 |nil=>exact⟨[],.nil,rfl,fun v z=>nomatch z⟩
 |cons z _ ih=>
  obtain⟨fs,k,l,f⟩:=ih;obtain⟨o,a,b,n,e,c,d,po,_⟩:=z;refine⟨_::fs,KatTups.cons e c d rfl k,by rw[z31,z31,l],fun v hv=>?_⟩;rcases z21.mp hv with rfl|hv
  ·exact⟨_,_,rfl,po⟩
  ·exact f v hv
theorem Qlf {A:Around}(hu:A.units+1<cLine):Qb7 A P4 Qey PO4 (tuples' false) where
 kp:=PO4.kp
 kind:=fun{prog w s qs ps Q} pr h2 q=>by
  obtain⟨fs,kt,lf,af⟩:=Qhw pr;refine kat_kind (T:=.type "tuple") kt @0 (fun v hv=>?_) rfl q
  obtain⟨r,x,rfl,o,t,u,n,e,c,d⟩:=af v hv;exact fun A Q E s k q=>zn7 ⟨o,k _ _ e,c⟩ q
 det:=fun p r=>by
  obtain⟨o,a,b,n,e,c,d,p1,p2⟩:=p;obtain⟨o',a',b',n',e',c',d',r1,r2⟩:=r;cases e.symm.trans e'
  have z:=d.symm.trans d';simp at z;obtain⟨⟨z1,z2⟩,_⟩:=z;subst z1 z2;exact zo0 (p1.det r1) (p2.det r2)
 cmp:=fun{prog w s q r x y Q} hq hr h=>by
  obtain⟨o,a,b,n,e,c,d,p1,p2⟩:=hq;obtain⟨o',a',b',n',e',c',d',r1,r2⟩:=hr;refine kat_lt (b:=false) e d e' d' ?_;show KatLex prog w A false _ Q [(z30 a,z30 a'),(z30 b,z30 b')] 0 s;refine kat_cons ((Qjd @0 p1 r1) prog w _ _ (kat_go (fun e1=>kat_yes ?_) fun e1=>kat_no ?_))
  ·have e1':x.1=y.1:=of_decide_eq_true e1;have z:Qey x y=ltP x.2 y.2:=by unfold Qey;rw[e1',Qap];simp
   rw[z] at h;refine kat_cons ((Qjd @0 p2 r2) prog w _ _ (kat_go (fun e2=>kat_yes ?_) fun e2=>kat_no ?_))
   ·have e2':x.2=y.2:=of_decide_eq_true e2;refine kat_nil ?_;rw[e2',Qap] at h;exact h
   ·exact kat_one _ _ (Qok @0 p2 r2 h)
  ·have e1':x.1≠y.1:=of_decide_eq_false e1;have z:Qey x y=ltP x.1 y.1:=by unfold Qey;simp[e1']
   rw[z] at h;exact kat_one _ _ (Qok @0 p1 r1 h)
end L2.Srt
namespace L2
open PySem PySem.Spec PyProof.Rows L2.Srt
def ItK (a:Addr)(o:Obj)(u:HO)(n:Nat)(Y:Nat->V->Hp->Prop):It:=⟨fun i H=>i<n/\H a=some (.frz o u),fun i H x H'=>H'=H/\Y i x H,fun i H=>n<=i/\H a=some (.frz o u)⟩
theorem Qdz {P:Program}{w:World}{K:z02}{tg:Expr}(a it:Addr){o:Obj}{u:HO}{es:Array DictEntry}{ep:Nat}{Y:Nat->V->Hp->Prop}(hod:o.data=.dict es ep)
  (hy:∀(H:Hp) (h:Heap),HOk P w H h->ObjOk P w H h a u->h.get? a=some o->∀i e,es[i]? = some e->∃x,RelV x e.key/\Y i x H) :
  Turn P w K tg (ItK a o u es.size Y) [it] it (fun i h=>i<=es.size/\h.get? it=some (QcT a i es.size ep)) where
 mem:=by simp
 obj:=fun i h st b hb=>by
  have e:b=it:=by simpa using hb
  subst e
  exact⟨_,st.2,fun v z=>by
   have z':Data.fields _=Data.cell v:=z
   cases z'⟩
 keep:=fun i h h' st k=>⟨st.1,k it @6 _ st.2⟩
 item:=by
  intro X hP hw hK hc i pins s σ H E I hf st hg;subst hP hw hK;obtain⟨hi,ha⟩:=hg;obtain⟨f0,f1,f2,f3,f4,f5⟩:=hf it @6;obtain⟨ho,ou⟩:=(show ObjOk X.prog X.w H s.heap a (.frz o u) from I.hok a _ ha);have W:=Qff (prog:=X.prog) (w:=X.w) (A:=X.A) (I:=it) (I.ok.hd hc) (ne_of_none ha f0) hod;refine W.item i s _ _ hi ⟨st.2,ho⟩ fun v h' hv st' kk=>?_;obtain⟨e,ee,rfl⟩:=hv;have I1:Inv X pins σ H { s with heap:=h' }:=I.turned (t':=s.toks) (fun b o hb e=>kk b o hb e) f0 f1 f3 f4 f5;obtain⟨x,rx,yx⟩:=hy H s.heap I.hok ou ho i e ee;exact⟨_,rfl,go_of (s:={ s with heap:=h' }) (n := "dict_keyiterator") st'.1 rfl rfl @2 ⟨x,H,I1,rx,⟨rfl,yx⟩,⟨hi,st'.1⟩,fun b hb=>(hf b hb).1⟩⟩
 done:=by
  intro X hP hw hK hc i pins s σ H E I hf st hg;subst hP hw hK;obtain⟨hi,ha⟩:=hg;obtain⟨f0,f1,f2,f3,f4,f5⟩:=hf it @6;obtain⟨ho,ou⟩:=(show ObjOk X.prog X.w H s.heap a (.frz o u) from I.hok a _ ha);have W:=Qff (prog:=X.prog) (w:=X.w) (A:=X.A) (I:=it) (I.ok.hd hc) (ne_of_none ha f0) hod;have e:i=es.size:=by have:=st.1;lia
  subst e;exact W.done s _ _ ⟨st.2,ho⟩ fun h' kk=>⟨rfl,I.turned (t':=s.toks) (fun b o hb e=>kk b o hb e) f0 f1 f3 f4 f5⟩
 self:=fun A i s Q E st h=>wpAny_pyIter_keyiter (d:=a) (i:=i) (n:=es.size) (ep:=ep) ⟨_,st.2,rfl,rfl⟩ h
theorem Inv.freeze {X:Cx}{pins:List @8}{σ:St}{H:Hp}{s:Shared}{a:Addr}{o:Obj}{u:HO}(I:Inv X pins σ H s)(e:H a=some u)(mu:Mut (some u))(ho:s.heap.get? a=some o)
  (ok:ObjOk X.prog X.w (upd H a (.frz o u)) s.heap a u):Inv X pins σ (upd H a (.frz o u)) s:=
 I.write (x:=a) (e:=a) (t':=s.toks) (by rw[e];exact mu) @14 (fun b q hb z=>z) ⟨o,ho⟩ ⟨ho,ok⟩
section
variable {X:Cx}{e tg:Expr}{te:TE}
def YT (kvs:List (List Key×V)):Nat->V->Hp->Prop:=fun i x H=>∃p q,kvs[i]? = some p/\x=.ref q/\YB H q p.1
def Qnk (te:TE):TI:=fun σ H R=>te σ H fun v H1=>∃a kvs,v=.ref a/\H1 a=some (.dT kvs)/\∀o,R (ItK a o (.dT kvs) kvs.length (YT kvs)) (upd H1 a (.frz o (.dT kvs)))
theorem Qjr (he:PE X e te):PI X tg e (Qnk te):=by
 intro pins s σ H R I h;refine thn (he pins s σ H _ I h) fun u s1 hz=>?_;obtain⟨x,H1,I1,r1,a,kvs,e1,ha,q⟩:=hz;subst e1;cases r1
 obtain⟨z,hs,xs,rel,o,es,ep,h1,h2,h3,h4,h5⟩:=(show ObjOk X.prog X.w H1 s1.heap a (.dT kvs) from I1.hok a _ ha);have sz:es.size=kvs.length:=by rw[← z43,h4,z01,← z97 rel]
 have I2:Inv X pins σ (upd H1 a (.frz o (.dT kvs))) s1:=I1.freeze ha z64 h1 ⟨z,hs,xs,KT.keeps rel fun b ys eb=>by rw[upd_ne (ne_of eb ha (fun z=>nomatch z))];exact eb,o,es,ep,h1,h2,h3,h4,h5⟩;refine Qbk hs h1 h2 h3 ?_
 have T:=Qdz (P:=X.prog) (w:=X.w) (K:=X.K) (tg:=tg) a s1.heap.objs.size (o:=o) (u:=.dT kvs) (Y:=YT kvs) h3 fun H h hok ou ho i e ee=>by
  obtain⟨_,_,ys,Qlg,o',es',ep',g1,_,g3,g4,_⟩:=ou;cases ho.symm.trans g1
  rw[h3] at g3;injection g3 with g5 g6;subst g5;rw[← z18,g4,z17] at ee;obtain⟨y,hy,rfl⟩:=z03.mp ee;have hl:i<kvs.length:=by rw[z97 Qlg];exact(z11.mp hy).1
  obtain⟨y',ey,r1,r2,_⟩:=Paired.get Qlg (z06 hl);rw[hy] at ey;cases ey;exact⟨.ref y.2.1,rfl,kvs[i],y.2.1,z06 hl,rfl,r2⟩
 rw[sz] at T;refine⟨s1.heap.objs.size,[s1.heap.objs.size],_,_,_,rfl,I2.kept (t':=s1.toks) fun b o e=>z14 _ e,T,⟨z58 _,?_⟩,fun b hb=>?_,q o⟩
 ·rw[← sz];exact z29 _ rfl
 ·have e:b=s1.heap.objs.size:=by simpa using hb
  subst e;exact I2.fpOk (z15 _) (I2.hok.fresh (z15 _))
end
end L2
namespace L2
open PySem PySem.Spec PyProof.Rows
variable {E Q:Value->Shared->Prop}
section
variable {prog:Program}{w:World}{K:Type}[DecidableEq K]{knd:KeyKind prog w K}{A:Around}{s:Shared}
theorem Qlh {d:Addr}{kvs:List (K×Value)}{k:K}{key dflt:Value}(hkey:knd.is k key=true)(hm:s.heap.DictOf knd d kvs)(hsz:kvs.length<=z24)
  (there:∀v,valueAt kvs k=some v->Q v { s with toks:=s.toks+1 })
  (new:valueAt kvs k=none->∀h',h'.DictOf knd d (kvs++[(k,dflt)])->zd3 d s.heap h'->Q dflt { s with heap:=h',toks:=s.toks+1 }):wpAny @1 A (dictSetDefault d key dflt) Q E s:=by
 obtain⟨o,es,ep,ho,hc,hd,hk,hp,hn⟩:=id hm;obtain⟨o',es',ep',ho',_,hd',_,hf⟩:=hm.mapOf;cases ho.symm.trans ho'
 rw[hd] at hd';injection hd' with h1 h2;subst h1 h2;have hes:es.size<=z24:=by rw[← z43,hp.length];exact hsz
 unfold dictSetDefault
 try with_reducible refine z79 ?_
 refine z00 (knd.pyHash hkey (z00 (wpAny_dictFind_of (s:={ s with toks:=s.toks+1 }) hkey ho hd hk ?_)))
 have fk:valueAt kvs k=((es.findIdx? fun e=>knd.is k e.key).bind fun i=>es[i]?).map (·.val):=by
  rw[← hf k,findBy_of_findIdx?];cases es.findIdx? fun e=>knd.is k e.key<;>rfl
 cases hi:es.findIdx? fun e=>knd.is k e.key with
 |some i=>
  rw[hi] at fk;refine z00 (zo6 (s:={ s with toks:=s.toks+1 }) ho hd ?_);have lt:i<es.size:=(Array.findIdx?_eq_some_iff_findIdx_eq.mp hi).1;rw[z20 lt];refine z00 (zk7 (z04 (there _ ?_)));rw[fk];show(es[i]?).map _=_;rw[z20 lt];rfl
 |none=>
  rw[hi] at fk
  have nk:k∉kvs.map (·.1):=fun z=>by
   obtain⟨kv,hkv,e⟩:=z37.mp z;obtain⟨j,hj⟩:=z74 hkv;have:=valueAt_of_get hn (i:=j) (k:=k) (v:=kv.2) (by rw[hj,← e]);rw[fk] at this;cases this
  refine z00 (zk7 (z00 (wpAny_updateDictKeys (hz:=hes) (s:={ s with toks:=s.toks+1 }) ho hd (z04 (new fk _ ⟨_,_,ep+1,za2 _ ho (Obj.isFreed_of_dict (y32 hd _)),
   hc.mapDictKeys _,y32 hd _,hk.push hkey _,?_,?_⟩ (z78 ..))))))
  ·have z:=hp.append hkey (knd.hash k) dflt;rw[z49];exact z
  ·rw[z47]
   exact z12.mpr ⟨hn,by simp,fun a ha b hb e=>nk (by
    have:b=k:=by simpa using hb
    rw[← this,← e];exact ha)⟩
end
section
variable {X:Cx}
def Qnl:V->List V->Hp->VK->Prop:=fun x vs H Q=>∃a kvs k w,x=.ref a/\vs=[kV k,w]/\H a=some (.dK kvs)/\kvs.length<z24/\
 (∀v,valV kvs k=some v->Q v H)/\(valV kvs k=none->Q w (upd H a (.dK (putK kvs k w))))
theorem Qjs:MtR X "dict.setdefault" Qnl:=by
 intro pins s σ H x vs v us Q I rx rv h;obtain⟨a,kvs,k,w,rfl,rfl,ha,hl,q1,q2⟩:=h;cases rx
 obtain⟨u1,u2,rfl,r1,r2⟩:=Vals.two rv;obtain⟨z,hd,ws,rel,dd⟩:=dk_of I.hok ha;refine z61 zt5 dd.typeIs PySem.F.entry_dict_setdefault ?_ (PySem.F.args_dict_setdefault_3 _ _ _);unfold Builtin.«dict.setdefault» Builtin.Dict.keyAndDefault;refine z00 (z00 (wpAny_notOrdered_dict dd.typeIs ?_));show wpAny _ _ (pure (a,u1,some u2)) _ _ s;refine z04 ?_;show wpAny _ _ (if(a == sysModules)=true then _ else(dictSetDefault a u1 u2 >>= _)) _ _ s;rw[if_neg (by rw[hd];exact z19)];have rk:=rel.val k;refine z00 (Qlh (knd:=mixKind X.prog X.w) (kV_is r1) dd (by rw[← rel.length];exact z) (fun v hv=>z04 ⟨v,rfl,?_⟩) fun hv h' dd' hs=>z04 ⟨u2,rfl,?_⟩)
 ·rw[hv] at rk
  cases e:valV kvs k with
  |none=>rw[e] at rk;exact rk.elim
  |some y=>rw[e] at rk;exact⟨y,H,I.tok _,rk,q1 y e⟩
 ·rw[hv] at rk
  have e:valV kvs k=none:=by
   cases e:valV kvs k with
   |none=>rfl
   |some y=>rw[e] at rk;exact rk.elim
  have st:stored ws k u2=ws++[(k,u2)]:=by
   have hn:¬ (ws.any fun kv=>decide (kv.1=k))=true:=fun z=>by
    obtain⟨kv,hkv,e⟩:=zo4.mp z;obtain⟨j,hj⟩:=z74 hkv;obtain⟨_,_,_,_,_,_,_,_,nd⟩:=dd;have:=valueAt_of_get nd (i:=j) (k:=k) (v:=kv.2) (by rw[hj,← of_decide_eq_true e]);rw[hv] at this;cases this
   unfold stored;rw[if_neg hn]
  rw[← st] at dd';have he:∃q,h'.get? a=some q:=let ⟨q,_,_,hq,_⟩:=dd';⟨q,hq⟩
  exact⟨w,_,d_write I (by rw[ha];exact z64) hs he (dk_new (by have:=length_putK kvs k w;lia) hd (rel.put k r2) dd'),r2,q2 e⟩
end
end L2
namespace TL
open PySem L2 PyProof.Rows
inductive Tag where
 |lst|tup
 |ins (k:Addr) (ns:List Str)
 |dT (ks:List (List Key))|dK (ks:List Key)
 |exc (c:Addr)
 deriving DecidableEq
inductive D where
 |int (i:Int)|bl (b:Bool)|non|str (s:Str)|ty (n:String)|cls (c:Addr)|nd (t:Tag) (ds:List D)
abbrev D.lst (ds:List D):D:=.nd .lst ds
abbrev D.tup (ds:List D):D:=.nd .tup ds
noncomputable def Tag.mut:Tag->Bool
 |.lst=>true|.dT _=>true|.dK _=>true|_=>false
mutual
noncomputable def D.imm:D->Bool
 |.nd t ds=>!t.mut && D.Jb ds
 |_=>true
noncomputable def D.Jb:List D->Bool
 | []=>true
 |d::ds=>d.imm && D.Jb ds
end
noncomputable def D.sc:D->Option V
 |.int i=>some (.int i)|.bl b=>some (.bl b)|.non=>some .non|.str s=>some (.str s)|.ty n=>some (.ty n)|.cls c=>some (.ref c)|.nd _ _=>none
def At (K:z02)(F:Hp)(a:Addr):Tag->List V->Prop
 |.lst,vs=>SqL K F a vs
 |.tup,vs=>F a=some (.tup vs)
 |.ins k ns,vs=>ns.length=vs.length/\∃dx,F a=some (.ins k dx (ns.zip vs))/\F dx=some (.own a)
 |.dT ks,vs=>ks.length=vs.length/\Rd F a (.dT (ks.zip vs))
 |.dK ks,vs=>ks.length=vs.length/\Rd F a (.dK (ks.zip vs))
 |.exc c,vs=>(vs=[]/\F a=some (Qk0 a (.ref c)))\/∃d v,vs=[v]/\F a=some (Qk0 a (.ref c) (some d))/\F d=some (Qoe d [("line",v)])
def Mbl:HO->Prop
 |.lst _=>True|.dT _=>True|.dK _=>True|_=>False
def Mt (H:Hp)(a:Addr):Tag->List V->Prop
 |.lst,vs=>H a=some (.lst vs)
 |.dT ks,vs=>ks.length=vs.length/\H a=some (.dT (ks.zip vs))
 |.dK ks,vs=>ks.length=vs.length/\H a=some (.dK (ks.zip vs))
 |_,_=>False
section
variable {K:z02}{F H F' H':Hp}{a:Addr}{t:Tag}{vs:List V}
theorem _root_.L2.Rd.same {F F':Hp}{a:Addr}{u:HO}(h:Rd F a u)(s:Same F F'):Rd F' a u:=h.imp (fun z=>s _ _ z) fun⟨o,z⟩=>⟨o,s _ _ z⟩
theorem At.same (h:At K F a t vs)(s:Same F F'):At K F' a t vs:=by
 cases t with
 |lst=>exact h.imp (fun z=>z.imp (fun z=>s _ _ z) fun⟨o,z⟩=>⟨o,s _ _ z⟩) id
 |tup=>exact s _ _ h
 |ins k ns=>
  obtain⟨l,dx,h1,h2⟩:=h;exact⟨l,dx,s _ _ h1,s _ _ h2⟩
 |dT ks=>exact⟨h.1,h.2.same s⟩
 |dK ks=>exact⟨h.1,h.2.same s⟩
 |exc c=>exact h.elim (fun h=>.inl ⟨h.1,s _ _ h.2⟩) fun⟨d,v,h0,h1,h2⟩=>.inr ⟨d,v,h0,s _ _ h1,s _ _ h2⟩
theorem Mt.at (h:Mt H a t vs):At K H a t vs:=by
 cases t with
 |lst=>exact .inl (.inl h)
 |tup=>exact h.elim
 |ins k ns=>exact h.elim
 |dT ks=>exact⟨h.1,.inl h.2⟩
 |dK ks=>exact⟨h.1,.inl h.2⟩
 |exc c=>exact h.elim
theorem At.sql {K:z02}(h:At K F a .lst vs):SqL K F a vs:=h
theorem At.sqt {K:z02}(h:At K F a .tup vs):SqT K F a vs:=.inl (.inl h)
theorem Mt.mut (h:Mt H a t vs):t.mut=true:=by
 cases t with
 |lst=>rfl
 |tup=>exact h.elim
 |ins k ns=>exact h.elim
 |dT ks=>rfl
 |dK ks=>rfl
 |exc c=>exact h.elim
theorem Mt.eq (h:Mt H a t vs)(e:H' a=H a):Mt H' a t vs:=by
 cases t with
 |lst=>exact e.trans h
 |tup=>exact h.elim
 |ins k ns=>exact h.elim
 |dT ks=>exact⟨h.1,e.trans h.2⟩
 |dK ks=>exact⟨h.1,e.trans h.2⟩
 |exc c=>exact h.elim
theorem Mt.some (h:Mt H a t vs):∃o,H a=some o/\Mbl o:=by
 cases t with
 |lst=>exact⟨_,h,z64⟩
 |tup=>exact h.elim
 |ins k ns=>exact h.elim
 |dT ks=>exact⟨_,h.2,z64⟩
 |dK ks=>exact⟨_,h.2,z64⟩
 |exc c=>exact h.elim
end
mutual
inductive R (K:z02) (F:Hp):V->D->Prop
 |sc {v:V} {d:D} (e:d.sc=some v):R K F v d
 |nd {a:Addr} {t:Tag} {vs:List V} {ds:List D} (h:At K F a t vs) (r:RL K F vs ds):R K F @28 (.nd t ds)
inductive RL (K:z02) (F:Hp):List V->List D->Prop
 |nil:RL K F [] []
 |cons {v:V} {d:D} {vs:List V} {ds:List D} (h:R K F v d) (r:RL K F vs ds):RL K F (v::vs) (d::ds)
end
mutual
inductive O (K:z02) (F H:Hp):V->D->List Addr->Prop
 |sc {v:V} {d:D} (e:d.sc=some v):O K F H v d []
 |im {a:Addr} {t:Tag} {vs:List V} {ds:List D} {fp:List Addr} (m:t.mut=false) (h:At K F a t vs) (r:OL K F H vs ds fp):O K F H @28 (.nd t ds) fp
 |mt {a:Addr} {t:Tag} {vs:List V} {ds:List D} {fp:List Addr} (h:Mt H a t vs) (r:OL K F H vs ds fp):O K F H @28 (.nd t ds) (a::fp)
inductive OL (K:z02) (F H:Hp):List V->List D->List Addr->Prop
 |nil:OL K F H [] [] []
 |cons {v:V} {d:D} {vs:List V} {ds:List D} {f g:List Addr} (h:O K F H v d f) (r:OL K F H vs ds g):OL K F H (v::vs) (d::ds) (f++g)
end
section
variable {K:z02}{F F' H H':Hp}
theorem R.ind {P:V->D->Prop}{Q:List V->List D->Prop}(c1:∀{v d},D.sc d=some v->P v d)(c2:∀{a t vs ds},At K F a t vs->Q vs ds->P @28 (.nd t ds))(c4:Q [] [])(c5:∀{v d vs ds},P v d->Q vs ds->Q (v::vs) (d::ds)):(∀v d,R K F v d->P v d)/\∀vs ds,RL K F vs ds->Q vs ds:=
 ⟨fun _ _ h=>R.rec (motive_1:=fun v d _=>P v d) (motive_2:=fun v d _=>Q v d) (fun e=>c1 e) (fun h _ q=>c2 h q) c4 (fun _ _ p q=>c5 p q) h,fun _ _ h=>RL.rec (motive_1:=fun v d _=>P v d) (motive_2:=fun v d _=>Q v d) (fun e=>c1 e) (fun h _ q=>c2 h q) c4 (fun _ _ p q=>c5 p q) h⟩
theorem R.Qli (s:Same F F'):(∀v d,R K F v d->R K F' v d)/\∀v d,RL K F v d->RL K F' v d:=R.ind .sc (fun h q=>.nd (h.same s) q) .nil .cons
theorem R.same (s:Same F F'){v:V}{d:D}(h:R K F v d):R K F' v d:=(R.Qli s).1 _ _ h
theorem RL.same (s:Same F F'){v:List V}{d:List D}(h:RL K F v d):RL K F' v d:=(R.Qli s).2 _ _ h
theorem RL.length {v:List V}{d:List D}(h:RL K F v d):v.length=d.length:=
 (R.ind (P:=fun _ _=>True) (Q:=fun v d=>v.length=d.length) (fun _=>trivial) (fun _ _=>trivial) rfl (fun _ q=>by rw[z31,z31,q])).2 _ _ h
theorem O.ind {P:V->D->List Addr->Prop}{Q:List V->List D->List Addr->Prop}(c1:∀{v d},D.sc d=some v->P v d [])(c2:∀{a t vs ds fp},t.mut=false->At K F a t vs->Q vs ds fp->P @28 (.nd t ds) fp)(c3:∀{a t vs ds fp},Mt H a t vs->Q vs ds fp->P @28 (.nd t ds) (a::fp))(c4:Q [] [] [])(c5:∀{v d vs ds f g},P v d f->Q vs ds g->Q (v::vs) (d::ds) (f++g)):(∀v d f,O K F H v d f->P v d f)/\∀vs ds f,OL K F H vs ds f->Q vs ds f:=
 ⟨fun _ _ _ h=>O.rec (motive_1:=fun v d f _=>P v d f) (motive_2:=fun v d f _=>Q v d f) (fun e=>c1 e) (fun m h _ q=>c2 m h q) (fun h _ q=>c3 h q) c4 (fun _ _ p q=>c5 p q) h,fun _ _ _ h=>OL.rec (motive_1:=fun v d f _=>P v d f) (motive_2:=fun v d f _=>Q v d f) (fun e=>c1 e) (fun m h _ q=>c2 m h q) (fun h _ q=>c3 h q) c4 (fun _ _ p q=>c5 p q) h⟩
theorem OL.length {v:List V}{d:List D}{f:List Addr}(h:OL K F H v d f):v.length=d.length:=
 (O.ind (P:=fun _ _ _=>True) (Q:=fun v d _=>v.length=d.length) (fun _=>trivial) (fun _ _ _=>trivial) (fun _ _=>trivial) rfl (fun _ q=>by rw[z31,z31,q])).2 _ _ _ h
theorem O.Qlj (s:Same F F'):(∀v d fp,O K F H v d fp->(∀a∈fp,H' a=H a)->O K F' H' v d fp)/\∀v d fp,OL K F H v d fp->(∀a∈fp,H' a=H a)->OL K F' H' v d fp:=
 O.ind (fun e _=>.sc e) (fun m h q k=>.im m (h.same s) (q k)) (fun h q k=>.mt (h.eq (k _ z09)) (q fun a ha=>k a (z07 _ ha))) (fun _=>.nil) (fun p q k=>.cons (p fun a ha=>k a (z13 _ ha)) (q fun a ha=>k a (z05 _ ha)))
theorem O.keep (s:Same F F'){v:V}{d:D}{fp:List Addr}(h:O K F H v d fp)(k:∀a∈fp,H' a=H a):O K F' H' v d fp:=(O.Qlj s).1 _ _ _ h k
theorem OL.keep (s:Same F F'){v:List V}{d:List D}{fp:List Addr}(h:OL K F H v d fp)(k:∀a∈fp,H' a=H a):OL K F' H' v d fp:=(O.Qlj s).2 _ _ _ h k
theorem O.Qop:(∀v d fp,O K F H v d fp->∀a∈fp,∃o,H a=some o/\Mbl o)/\∀v d fp,OL K F H v d fp->∀a∈fp,∃o,H a=some o/\Mbl o:=
 O.ind (fun _ _ z=>nomatch z) (fun _ _ q=>q) (fun h q a ha=>(z21.mp ha).elim (fun e=>e▸h.some) (q a)) @5 (fun p q a ha=>(z08.mp ha).elim (p a) (q a))
theorem O.mem {v:V}{d:D}{fp:List Addr}(h:O K F H v d fp)(a:Addr)(ha:a∈fp):∃o,H a=some o/\Mbl o:=O.Qop.1 _ _ _ h a ha
theorem OL.mem {v:List V}{d:List D}{fp:List Addr}(h:OL K F H v d fp)(a:Addr)(ha:a∈fp):∃o,H a=some o/\Mbl o:=O.Qop.2 _ _ _ h a ha
noncomputable def jn (F H:Hp)(fp:List Addr):Hp:=fun b=>if b∈fp then H b else F b
theorem Qfi {fp:List Addr}(ap:∀a∈fp,F a=none):Same F (jn F H fp):=fun b o e=>by
 unfold jn
 by_cases h:b∈fp
 ·rw[ap b h] at e;cases e
 ·rw[if_neg h];exact e
theorem JD {fp:List Addr}(s:Same F H):Same (jn F H fp) H:=fun b o e=>by
 unfold jn at e
 by_cases h:b∈fp
 ·rw[if_pos h] at e;exact e
 ·rw[if_neg h] at e;exact s b o e
theorem JF {fp:List Addr}{b:Addr}(h:b∈fp):jn F H fp b=H b:=by unfold jn;rw[if_pos h]
theorem QF {fp:List Addr}{b:Addr}(h:b∉fp):jn F H fp b=F b:=by unfold jn;rw[if_neg h]
noncomputable def lo (F:Hp)(L:List Addr):Hp:=fun b=>if b∈L then none else F b
theorem lo_le {L:List Addr}:Same (lo F L) F:=fun b o e=>by
 unfold lo at e
 by_cases h:b∈L
 ·rw[if_pos h] at e;cases e
 ·rw[if_neg h] at e;exact e
theorem Qhx {L:List Addr}{b:Addr}(h:b∈L):lo F L b=none:=by unfold lo;rw[if_pos h]
theorem YM {L:List Addr}{b:Addr}(h:b∉L):lo F L b=F b:=by unfold lo;rw[if_neg h]
theorem O.rB (s:Same F F'):(∀v d fp,O K F H v d fp->(∀a∈fp,F' a=H a)->R K F' v d)/\∀v d fp,OL K F H v d fp->(∀a∈fp,F' a=H a)->RL K F' v d:=
 O.ind (fun e _=>.sc e) (fun m h q k=>.nd (h.same s) (q k)) (fun h q k=>.nd (h.eq (k _ z09)).at (q fun a ha=>k a (z07 _ ha))) (fun _=>.nil) (fun p q k=>.cons (p fun a ha=>k a (z13 _ ha)) (q fun a ha=>k a (z05 _ ha)))
theorem O.r (s:Same F F'){v:V}{d:D}{fp:List Addr}(h:O K F H v d fp)(k:∀a∈fp,F' a=H a):R K F' v d:=(O.rB s).1 _ _ _ h k
theorem OL.r (s:Same F F'){v:List V}{d:List D}{fp:List Addr}(h:OL K F H v d fp)(k:∀a∈fp,F' a=H a):RL K F' v d:=(O.rB s).2 _ _ _ h k
theorem QaZ {t:Tag}{ds:List D}(h:(D.nd t ds).imm=true):t.mut=false/\D.Jb ds=true:=by
 rw[D.imm,z76] at h;exact⟨by simpa using h.1,h.2⟩
theorem Jd {d:D}{ds:List D}(h:D.Jb (d::ds)=true):d.imm=true/\D.Jb ds=true:=by
 rw[D.Jb,z76] at h;exact h
theorem Qbl:∀{ds:List D},D.Jb ds=true->∀d∈ds,d.imm=true
 | [],_,d,hd=>nomatch hd
 |x::ds,h,d,hd=>by
  obtain⟨h1,h2⟩:=Jd h;rcases z21.mp hd with rfl|hd
  ·exact h1
  ·exact Qbl h2 d hd
theorem J7:∀{ds:List D},(∀d∈ds,d.imm=true)->D.Jb ds=true
 | [],_=>by rw[D.Jb]
 |x::ds,h=>by
  rw[D.Jb,z76];exact⟨h x z09,J7 fun d hd=>h d (z07 _ hd)⟩
theorem Qhy {xs ys:List D}(h:D.Jb xs=true)(h':D.Jb ys=true):D.Jb (xs++ys)=true:=J7 fun d hd=>(z08.mp hd).elim (Qbl h d) (Qbl h' d)
theorem At.lo {a:Addr}{t:Tag}{vs:List V}{L:List Addr}(m:t.mut=false)(h:At K F a t vs)(hl:∀b∈L,∀o,F b=some o->Mbl o):At K (lo F L) a t vs:=by
 cases t with
 |lst=>cases m
 |tup=>exact(YM fun z=>hl _ z _ h).trans h
 |ins k ns=>
  obtain⟨l,dx,h1,h2⟩:=h;exact⟨l,dx,(YM fun z=>hl _ z _ h1).trans h1,(YM fun z=>hl _ z _ h2).trans h2⟩
 |dT ks=>cases m
 |dK ks=>cases m
 |exc c=>exact h.elim (fun h=>.inl ⟨h.1,(YM fun z=>hl _ z _ h.2).trans h.2⟩) fun⟨d,v,h0,h1,h2⟩=>.inr ⟨d,v,h0,(YM fun z=>hl _ z _ h1).trans h1,(YM fun z=>hl _ z _ h2).trans h2⟩
theorem R.loB {L:List Addr}(hl:∀b∈L,∀o,F b=some o->Mbl o):(∀v d,R K F v d->d.imm=true->R K (lo F L) v d)/\∀v d,RL K F v d->D.Jb d=true->RL K (lo F L) v d:=
 R.ind (fun e _=>.sc e) (fun h q m=>.nd (h.lo (QaZ m).1 hl) (q (QaZ m).2)) (fun _=>.nil) (fun p q m=>.cons (p (Jd m).1) (q (Jd m).2))
theorem R.lo {L:List Addr}(hl:∀b∈L,∀o,F b=some o->Mbl o){v:V}{d:D}(h:R K F v d)(m:d.imm=true):R K (lo F L) v d:=(R.loB hl).1 _ _ h m
theorem RL.lo {L:List Addr}(hl:∀b∈L,∀o,F b=some o->Mbl o){v:List V}{d:List D}(h:RL K F v d)(m:D.Jb d=true):RL K (lo F L) v d:=(R.loB hl).2 _ _ h m
theorem R.oB:(∀v d,R K F v d->d.imm=true->O K F H v d [])/\∀v d,RL K F v d->D.Jb d=true->OL K F H v d []:=
 R.ind (fun e _=>.sc e) (fun h q m=>.im (QaZ m).1 h (q (QaZ m).2)) (fun _=>.nil) (fun p q m=>.cons (f:=[]) (p (Jd m).1) (q (Jd m).2))
theorem R.o {v:V}{d:D}(h:R K F v d)(m:d.imm=true):O K F H v d []:=R.oB.1 _ _ h m
theorem RL.o {v:List V}{d:List D}(h:RL K F v d)(m:D.Jb d=true):OL K F H v d []:=R.oB.2 _ _ h m
theorem O.QoT:(∀v d fp,O K F H v d fp->d.imm=true->fp=[])/\∀v d fp,OL K F H v d fp->D.Jb d=true->fp=[]:=
 O.ind (fun _ _=>rfl) (fun _ _ q i=>q (QaZ i).2) (fun h _ i=>absurd h.mut (by rw[(QaZ i).1];decide)) (fun _=>rfl) (fun p q i=>by rw[p (Jd i).1,q (Jd i).2];rfl)
theorem OL.Qoq {v:List V}{d:List D}{fp:List Addr}(h:OL K F H v d fp)(i:D.Jb d=true):fp=[]:=O.QoT.2 _ _ _ h i
theorem R.Qu {v:V}{d:D}{w:V}(h:R K F v d)(e:d.sc=some w):v=w:=by
 cases h with
 |sc e'=>rw[e] at e';exact(z26 e').symm
 |nd h r=>cases e
theorem RL.get {vs:List V}{ds:List D}{i:Nat}{d:D}(r:RL K F vs ds)(e:ds[i]? = some d):∃v,vs[i]? = some v/\R K F v d:=by
 induction i generalizing vs ds with
 |zero=>cases r with
  |nil=>simp at e
  |cons h r=>simp at e;subst e;exact⟨_,rfl,h⟩
 |succ i ih=>cases r with
  |nil=>simp at e
  |cons h r=>
   obtain⟨v,h1,h2⟩:=ih r (by simpa using e);exact⟨v,by simpa using h1,h2⟩
theorem RL.app {vs us:List V}{ds es:List D}(h:RL K F vs ds)(r:RL K F us es):RL K F (vs++us) (ds++es):=
 ((R.ind (P:=fun v d=>R K F v d) (Q:=fun vs ds=>RL K F vs ds/\RL K F (vs++us) (ds++es)) .sc (fun h q=>.nd h q.1) ⟨.nil,r⟩ (fun p q=>⟨.cons p q.1,.cons p q.2⟩)).2 _ _ h).2
theorem OL.app {vs us:List V}{ds es:List D}{f g:List Addr}(h:OL K F H vs ds f)(r:OL K F H us es g):OL K F H (vs++us) (ds++es) (f++g):=
 ((O.ind (P:=fun v d f=>O K F H v d f) (Q:=fun vs ds f=>OL K F H vs ds f/\OL K F H (vs++us) (ds++es) (f++g)) .sc (fun m h q=>.im m h q.1) (fun h q=>.mt h q.1) ⟨.nil,r⟩ (fun p q=>⟨.cons p q.1,by rw[z23];exact .cons p q.2⟩)).2 _ _ _ h).2
end
end TL
namespace TL
open PySem L2
variable {K:z02}{F H' F1 H1:Hp}{σ:L2.St}{f fp fp1:List Addr}{g:D->D->Option D}{b p q pa:Bool}{v:L2.V}{d:D}{α:Type}{X:Cx}{e a c tg iter:Expr}{pos px:Pos}{τ:List @22}{Q:VK}{i j n:Nat}{x:Str}{es:List Expr}{vs us:List L2.V}{ds ys:List D}{body:List Stmt}{io:List Bool}{ps N:List Str}{fd:FuncData}{pins:List @8}{s:Shared}{as:List @17}
inductive Sl where
 |frz (d:D)
 |own (d:D)
 |par (d:D)
abbrev Rho:=List (Option Sl)
variable {ρ:Rho}{tgd:D->Rho->Option Rho}
structure Cn where
 K:z02
 H₀:Hp
 F₀:Hp
 A:List Addr
 Qez:List (Nat×V)
variable {C:Cn}
inductive S1 (K:z02) (F H:Hp):Option V->Option Sl->List Addr->List Addr->Prop
 |non {x:Option V}:S1 K F H x none [] []
 |frz {v:V} {d:D} (h:R K F v d):S1 K F H @26 (some (.frz d)) [] []
 |own {v:V} {d:D} {f:List Addr} (h:O K F H v d f):S1 K F H @26 (some (.own d)) f []
 |par {v:V} {d:D} {f:List Addr} (h:O K F H v d f):S1 K F H @26 (some (.par d)) [] f
inductive SL (K:z02) (F H:Hp):St->Rho->List Addr->List Addr->Prop
 |nil:SL K F H [] [] [] []
 |cons {x:Option V} {s:Option Sl} {σ:St} {ρ:Rho} {f0 g0 f g:List Addr} (h:S1 K F H x s f0 g0) (r:SL K F H σ ρ f g):SL K F H (x::σ) (s::ρ) (f0++f) (g0++g)
section
variable {F' H:Hp}
theorem S1.keep {x:Option V}{s:Option Sl}{f g:List Addr}(sf:Same F F')(h:S1 K F H x s f g)(k:∀a∈f++g,H' a=H a):S1 K F' H' x s f g:=by
 cases h with
 |non=>exact .non
 |frz h=>exact .frz (h.same sf)
 |own h=>exact .own (h.keep sf fun a ha=>k a (z13 _ ha))
 |par h=>exact .par (h.keep sf fun a ha=>k a ha)
theorem S1.mem {x:Option V}{s:Option Sl}{f g:List Addr}(h:S1 K F H x s f g):∀a∈f++g,∃o,H a=some o/\Mbl o:=by
 cases h with
 |non=>intro a ha;exact nomatch ha
 |frz h=>intro a ha;exact nomatch ha
 |own h=>intro a ha;rw[z50] at ha;exact h.mem a ha
 |par h=>intro a ha;exact h.mem a ha
theorem SL.keep (sf:Same F F'){σ:St}{ρ:Rho}{f g:List Addr}(h:SL K F H σ ρ f g)(k:∀a∈f++g,H' a=H a):SL K F' H' σ ρ f g:=by
 induction h with
 |nil=>exact .nil
 |cons h r ih=>
  refine .cons (h.keep sf fun a ha=>k a ?_) (ih fun a ha=>k a ?_)<;>rcases z08.mp ha with z|z
  ·exact z13 _ (z13 _ z)
  ·exact z05 _ (z13 _ z)
  ·exact z13 _ (z05 _ z)
  ·exact z05 _ (z05 _ z)
theorem SL.mem {σ:St}{ρ:Rho}{f g:List Addr}(h:SL K F H σ ρ f g):∀a∈f++g,∃o,H a=some o/\Mbl o:=by
 induction h with
 |nil=>exact fun a ha=>nomatch ha
 |cons h r ih=>
  intro a ha;rcases z08.mp ha with z|z<;>rcases z08.mp z with z|z
  ·exact h.mem a (z13 _ z)
  ·exact ih a (z13 _ z)
  ·exact h.mem a (z05 _ z)
  ·exact ih a (z05 _ z)
theorem SL.len {σ:St}{g:List Addr}(h:SL K F H σ ρ f g):σ.length=ρ.length:=by
 induction h with
 |nil=>rfl
 |cons h r ih=>exact congrArg Nat.succ ih
theorem SL.cut {σ:St}{g:List Addr}(h:SL K F H σ ρ f g):∀{i:Nat} {s:Option Sl},ρ[i]? = some s->∃x f0 g0 f1 f2 g1 g2,σ[i]? = some x/\S1 K F H x s f0 g0/\f=f1++(f0++f2)/\g=g1++(g0++g2)/\
  ∀{F' H':Hp},Same F F'->(∀a∈f1++f2++(g1++g2),H' a=H a)->∀{x':Option V} {s':Option Sl} {f0' g0':List Addr},S1 K F' H' x' s' f0' g0'->SL K F' H' (σ.set i x') (ρ.set i s') (f1++(f0'++f2)) (g1++(g0'++g2)):=by
 induction h with
 |nil=>intro i s e;cases e
 | @cons x1 s1 σ1 ρ1 f0 g0 f g h r ih=>
  intro i s e
  cases i with
  |zero=>cases e;exact⟨_,_,_,[],f,[],g,rfl,h,rfl,rfl,fun{F' H'} sf k {x' s' f0' g0'} h'=>show SL K F' H' (_::_) (_::_) (f0'++f) (g0'++g) from .cons h' (r.keep sf k)⟩
  |succ i=>
   obtain⟨x,a0,b0,f1,f2,g1,g2,e1,h1,rfl,rfl,k⟩:=ih (i:=i) (s:=s) e;refine⟨x,a0,b0,f0++f1,f2,g0++g1,g2,e1,h1,(z23 ..).symm,(z23 ..).symm,fun{F' H'} sf kk {x' s' f0' g0'} h'=>?_⟩;rw[z23,z23];refine SL.cons (h.keep sf fun a ha=>kk a ?_) (k sf (fun a ha=>kk a ?_) h')<;>simp only[z08] at ha ⊢
   ·rcases ha with z|z
    ·exact .inl (.inl (.inl z))
    ·exact .inr (.inl (.inl z))
   ·rcases ha with(z|z)|z|z
    ·exact .inl (.inl (.inr z))
    ·exact .inl (.inr z)
    ·exact .inr (.inl (.inr z))
    ·exact .inr (.inr z)
end
def IsT:HO->Prop
 |.tup _=>True|.ext _=>True|_=>False
def Nw (H:Hp)(b:Addr)(o:HO):Prop:=H b=none\/IsT o
theorem Nw.not {H:Hp}{b:Addr}{o o':HO}(n:Nw H b o)(e:H b≠none)(e':H' b=some o)(e2:H' b=some o')(m:Mbl o'):False:=by
 rcases n with z|z
 ·exact e z
 ·rw[e'] at e2;cases e2
  cases o with
  |tup _=>exact m
  |ext _=>exact m
  |_=>exact z
theorem Nw.up {H:Hp}{b:Addr}{o:HO}(n:Nw H b o)(f:H b=none->H' b=none):Nw H' b o:=n.imp f id
structure SI (C:Cn)(F H:Hp)(σ:St)(ρ:Rho)(τ:List (V×D))(fp:List Addr):Prop where
 sl:∃f g t,SL C.K F H σ ρ f g/\OL C.K F H (τ.map (·.1)) (τ.map (·.2)) t/\fp.Perm (f++(g++t))/\(∀a∈f,C.H₀ a=none)/\(∀a∈t,C.H₀ a=none)/\∀a∈g,a∈C.A\/C.H₀ a=none
 nd:fp.Nodup
 ap:∀a∈fp,F a=none
 fh:Same F H
 f0:Same C.F₀ F
 fn:∀b o,F b=some o->C.F₀ b=some o\/Nw C.H₀ b o
 kp:∀b o,C.H₀ b=some o->b∉C.A->H b=some o
 dm:∀b,H b=none->C.H₀ b=none
 pr:∀j v,(j,v)∈C.Qez->σ[j]? = some @26/\∃d,ρ[j]? = some (some (.par d))
section
variable {C:Cn}{F F' H H':Hp}{σ:St}{ρ:Rho}{τ:List (V×D)}{fp:List Addr}
theorem SI.len (I:SI C F H σ ρ τ fp):σ.length=ρ.length:=let ⟨_,_,_,s,_⟩:=I.sl;s.len
theorem SI.mem (I:SI C F H σ ρ τ fp):∀a∈fp,∃o,H a=some o/\Mbl o:=fun a ha=>by
 obtain⟨f,g,t,s,o,p,_⟩:=I.sl;have z:=p.mem_iff.mp ha;rcases z08.mp z with z|z
 ·exact s.mem a (z13 _ z)
 ·rcases z08.mp z with z|z
  ·exact s.mem a (z05 _ z)
  ·exact o.mem a z
theorem SI.perm {fp':List Addr}(I:SI C F H σ ρ τ fp)(p:fp.Perm fp'):SI C F H σ ρ τ fp':=by
 obtain⟨f,g,t,s,o,q,r⟩:=I.sl;exact⟨⟨f,g,t,s,o,p.symm.trans q,r⟩,p.nodup_iff.mp I.nd,fun a ha=>I.ap a (p.mem_iff.mpr ha),I.fh,I.f0,I.fn,I.kp,I.dm,I.pr⟩
theorem SI.step (I:SI C F H σ ρ τ fp)(sf:Same F F')(fh:Same F' H')(hk:∀a∈fp,H' a=H a)(ap:∀a∈fp,F' a=none)(fn:∀b o,F' b=some o->F b=some o\/Nw C.H₀ b o)(kp:∀b o,C.H₀ b=some o->b∉C.A->H b=some o->H' b=some o)(dm:∀b,H' b=none->H b=none):SI C F' H' σ ρ τ fp:=by
 obtain⟨f,g,t,s,o,q,h1,h2,h3⟩:=I.sl;have inn:∀{a:Addr},a∈f++(g++t)->H' a=H a:=fun z=>hk _ (q.mem_iff.mpr z)
 refine⟨⟨f,g,t,s.keep sf fun a ha=>inn (by
  rcases z08.mp ha with z|z
  ·exact z13 _ z
  ·exact z05 _ (z13 _ z)),o.keep sf fun a ha=>inn (z05 _ (z05 _ ha)),q,h1,h2,h3⟩,I.nd,ap,fh,I.f0.trans sf,fun b ob e=>?_,fun b ob e n=>?_,fun b e=>?_,I.pr⟩
 ·rcases fn b ob e with z|z
  ·exact I.fn b ob z
  ·exact .inr z
 ·exact kp b ob e n (I.kp b ob e n)
 ·exact I.dm b (dm b e)
theorem SI.lay {p:Addr}{o:HO}(I:SI C F H σ ρ τ fp)(hp:H p=none):SI C (upd F p o) (upd H p o) σ ρ τ fp:=by
 have np:∀a∈fp,a≠p:=fun a ha=>by
  obtain⟨_,e,_⟩:=I.mem a ha;exact ne_of_none e hp
 have fp0:F p=none:=I.fh.free hp;refine I.step (Same.upd fp0) (fun b ob e=>?_) (fun a ha=>upd_ne (np a ha)) (fun a ha=>(upd_ne (np a ha)).trans (I.ap a ha)) (fun b ob e=>?_) (fun b ob _ _ e=>Same.upd hp b ob e) fun b e=>(Same.upd hp).free e
 ·by_cases hb:b=p
  ·subst hb;rw[upd_same] at e ⊢;exact e
  ·rw[upd_ne hb] at e ⊢;exact I.fh b ob e
 ·by_cases hb:b=p
  ·subst hb;exact .inr (.inl (I.dm b hp))
  ·rw[upd_ne hb] at e;exact .inl e
theorem SI.lay0 {p:Addr}{o:HO}(I:SI C F H σ ρ τ fp)(hp:H p=none):SI C F (upd H p o) σ ρ τ fp:=by
 have np:∀a∈fp,a≠p:=fun a ha=>by
  obtain⟨_,e,_⟩:=I.mem a ha;exact ne_of_none e hp
 exact I.step (Same.refl F) (I.fh.trans (Same.upd hp)) (fun a ha=>upd_ne (np a ha)) I.ap (fun b ob e=>.inl e) (fun b ob _ _ e=>Same.upd hp b ob e) fun b e=>(Same.upd hp).free e
theorem SI.pop {v:V}(I:SI C F H σ ρ ((v,d)::τ) fp):∃f rest,O C.K F H v d f/\fp.Perm (f++rest)/\SI C F H σ ρ τ rest/\(∀a∈f,C.H₀ a=none)/\(∀a∈f,F a=none)/\(f++rest).Nodup:=by
 obtain⟨f,g,t,s,o,q,h1,h2,h3⟩:=I.sl
 cases o with
 | @cons _ _ _ _ t1 t2 o1 o2=>
  have p:fp.Perm (t1++(f++(g++t2))):=by
   refine q.trans ?_;rw[z91];intro a;simp only[ze1];lia
  have nd:=p.nodup_iff.mp I.nd;refine⟨t1,f++(g++t2),o1,p,⟨⟨f,g,t2,s,o2,.refl _,h1,fun a ha=>h2 a (z05 _ ha),h3⟩,(z12.mp nd).2.1,fun a ha=>I.ap a (p.mem_iff.mpr (z05 _ ha)),I.fh,I.f0,I.fn,I.kp,I.dm,I.pr⟩,fun a ha=>h2 a (z13 _ ha),fun a ha=>I.ap a (p.mem_iff.mpr (z13 _ ha)),nd⟩
theorem SI.push {v:V}{rest:List Addr}(I:SI C F H σ ρ τ rest)(h:O C.K F H v d f)(h0:∀a∈f,C.H₀ a=none)(ap:∀a∈f,F a=none)(nd:(f++rest).Nodup):SI C F H σ ρ ((v,d)::τ) (f++rest):=by
 obtain⟨f1,g,t,s,o,q,h1,h2,h3⟩:=I.sl;refine⟨⟨f1,g,f++t,s,.cons h o,?_,h1,fun a ha=>(z08.mp ha).elim (h0 a) (h2 a),h3⟩,nd,fun a ha=>(z08.mp ha).elim (ap a) (I.ap a),I.fh,I.f0,I.fn,I.kp,I.dm,I.pr⟩;refine(q.append_left f).trans ?_;rw[z91];intro a;simp only[ze1];lia
theorem SI.cut (I:SI C F H σ ρ τ fp){i:Nat}{s:Option Sl}(hs:ρ[i]? = some s):∃x f0 g0 rest,σ[i]? = some x/\S1 C.K F H x s f0 g0/\fp.Perm (f0++(g0++rest))/\(∀a∈f0,C.H₀ a=none)/\(∀a∈g0,a∈C.A\/C.H₀ a=none)/\
  ∀{F' H':Hp} {x':Option V} {s':Option Sl} {f0' g0':List Addr},Same F F'->Same F' H'->(∀a∈rest,H' a=H a)->(∀b,H' b=none->H b=none)->(∀b o,C.H₀ b=some o->b∉C.A->H b=some o->H' b=some o)->(∀b o,F' b=some o->F b=some o\/Nw C.H₀ b o)->
   S1 C.K F' H' x' s' f0' g0'->(f0'++(g0'++rest)).Nodup->(∀a∈f0'++(g0'++rest),F' a=none)->(∀a∈f0',C.H₀ a=none)->(∀a∈g0',a∈C.A\/C.H₀ a=none)->(∀v,(i,v)∈C.Qez->x'=some v/\∃d,s'=some (.par d))->
   SI C F' H' (σ.set i x') (ρ.set i s') τ (f0'++(g0'++rest)):=by
 obtain⟨f,g,t,sl,o,q,h1,h2,h3⟩:=I.sl;obtain⟨x,f0,g0,f1,f2,g1,g2,ex,s1,rfl,rfl,k⟩:=sl.cut hs
 have mv:∀(f0 g0:List Addr),(f0++(g0++(f1++f2++(g1++g2)++t))).Perm ((f1++(f0++f2))++((g1++(g0++g2))++t)):=fun f0 g0=>by
  rw[z91];intro a;simp only[ze1];lia
 refine⟨x,f0,g0,f1++f2++(g1++g2)++t,ex,s1,q.trans (mv f0 g0).symm,fun a ha=>h1 a (by simp[ha]),fun a ha=>h3 a (by simp[ha]),fun{F' H' x' s' f0' g0'} sf fh hk dm kp fn n1 nd ap w0 w1 pr=>?_⟩;have z:=k sf (fun a ha=>hk a (z13 _ ha)) n1;refine⟨⟨_,_,t,z,o.keep sf fun a ha=>hk a (z05 _ ha),mv f0' g0',fun a ha=>?_,h2,fun a ha=>?_⟩,nd,ap,fh,I.f0.trans sf,fun b ob e=>?_,fun b ob e n=>?_,fun b e=>I.dm b (dm b e),fun j v hj=>?_⟩
 ·simp only[z08] at ha;rcases ha with z|z|z
  ·exact h1 a (by simp[z])
  ·exact w0 a z
  ·exact h1 a (by simp[z])
 ·simp only[z08] at ha;rcases ha with z|z|z
  ·exact h3 a (by simp[z])
  ·exact w1 a z
  ·exact h3 a (by simp[z])
 ·rcases fn b ob e with z|z
  ·exact I.fn b ob z
  ·exact .inr z
 ·exact kp b ob e n (I.kp b ob e n)
 ·obtain⟨p1,d,p2⟩:=I.pr j v hj
  by_cases e:i=j
  ·subst e;obtain⟨q1,d',q2⟩:=pr v hj;have l1:i<σ.length:=(z11.mp p1).1;have l2:i<ρ.length:=(z11.mp p2).1;exact⟨by rw[z87 l1,q1],d',by rw[z87 l2,q2]⟩
  ·exact⟨by rw[z95 e];exact p1,d,by rw[z95 e];exact p2⟩
theorem Qjt {p q:List Addr}(h:p.Perm q):jn F H p=jn F H q:=by
 funext b
 unfold jn
 by_cases hb:b∈p
 ·rw[if_pos hb,if_pos (h.mem_iff.mp hb)]
 ·rw[if_neg hb,if_neg fun z=>hb (h.mem_iff.mpr z)]
theorem SI.freeze {v:V}(I:SI C F H σ ρ ((v,d)::τ) fp):∃F' rest,SI C F' H σ ρ τ rest/\Same F F'/\R C.K F' v d/\jn F' H rest=jn F H fp:=by
 obtain⟨f,rest,o,p,J,h0,ap,nd⟩:=I.pop;have dis:∀a∈rest,a∉f:=fun a ha hf=>(z12.mp nd).2.2 a hf a ha rfl;have sf:Same F (jn F H f):=Qfi ap;refine⟨jn F H f,rest,J.step sf (JD J.fh) (fun _ _=>rfl) (fun a ha=>(QF (dis a ha)).trans (J.ap a ha)) (fun b ob e=>?_) (fun b ob _ _ e=>e) (fun _ e=>e),sf,o.r sf fun a ha=>JF ha,?_⟩
 ·by_cases hb:b∈f
  ·exact .inr (.inl (h0 b hb))
  ·rw[QF hb] at e;exact .inl e
 ·funext b
  unfold jn
  by_cases hb:b∈rest
  ·rw[if_pos hb,if_pos (p.mem_iff.mpr (z05 _ hb))]
  ·rw[if_neg hb]
   by_cases hf:b∈f
   ·rw[if_pos hf,if_pos (p.mem_iff.mpr (z13 _ hf))]
   ·rw[if_neg hf,if_neg fun z=>(z08.mp (p.mem_iff.mp z)).elim hf hb]
theorem SI.know {b:Addr}{o:HO}(I:SI C F H σ ρ τ fp)(hb:H b=some o)(ht:IsT o):SI C (upd F b o) H σ ρ τ fp:=by
 have nb:∀a∈fp,a≠b:=fun a ha z=>by
  subst z;obtain⟨o',e,m⟩:=I.mem a ha;rw[hb] at e;cases e
  cases o with
  |tup _=>exact m
  |ext _=>exact m
  |_=>exact ht
 have sf:Same F (upd F b o):=fun a o' e=>by
  by_cases z:a=b
  ·subst z;rw[upd_same,← hb];exact I.fh _ _ e
  ·rw[upd_ne z];exact e
 refine I.step sf (fun a o' e=>?_) (fun _ _=>rfl) (fun a ha=>(upd_ne (nb a ha)).trans (I.ap a ha)) (fun a o' e=>?_) (fun _ _ _ _ e=>e) fun _ e=>e
 ·by_cases z:a=b
  ·subst z;rw[upd_same] at e;cases e;exact hb
  ·rw[upd_ne z] at e;exact I.fh a o' e
 ·by_cases z:a=b
  ·subst z;rw[upd_same] at e;cases e;exact .inr (.inr ht)
  ·rw[upd_ne z] at e;exact .inl e
theorem SI.drop (I:SI C F H σ ρ τ fp):∃fp',SI C F H σ ρ [] fp':=by
 induction τ generalizing fp with
 |nil=>exact⟨fp,I⟩
 |cons x τ ih=>
  obtain⟨f,rest,_,_,J,_⟩:=SI.pop (v:=x.1) (d:=x.2) I;exact ih J
end
structure Xc where
 c:Addr
 l:Option Int
instance:Coe Addr Xc:=⟨fun a=>⟨a,none⟩⟩
def EX (E:XK)(c:Xc)(H:Hp):Prop:=match c.l with
 |none=>E (.ref c.c) none H
 |some n=>∀d,H d=some (Qoe d [("line",.int n)])->E (.ref c.c) (some d) H
inductive Rs (α:Type) where
 |ok (a:α)
 |ex (c:Xc) (ρ:Rho)
 |no
noncomputable def Rs.bind {α β:Type}:Rs α->(α->Rs β)->Rs β
 |.ok a,f=>f a
 |.ex c ρ,_=>.ex c ρ
 |.no,_=>.no
noncomputable def Rs.of {α:Type}:Option α->Rs α
 |some a=>.ok a
 |none=>.no
abbrev ME:=Rho->Rs (D×Rho)
variable {m mb:ME}
abbrev MT:=Rho->Rs (Bool×Rho)
variable {mt:MT}
abbrev MA:=Rho->Rs (List D×Rho)
variable {mr:MA}
abbrev XE:=L2.St->XK
variable {E:XE}
def Run (C:Cn)(E:XE)(σ:L2.St)(r:Rs α)(k:α->Prop):Prop:=match r with
 |.ok a=>k a
 |.ex c ρ=>∀F H fp,SI C F H σ ρ [] fp->EX (E σ) c H
 |.no=>False
section
variable {β:Type}
theorem Run.mono {r:Rs α}{k k':α->Prop}(h:Run C E σ r k)(f:∀a,k a->k' a):Run C E σ r k':=by
 cases r with
 |ok a=>exact f a h
 |ex c ρ=>exact h
 |no=>exact h
theorem Run.split {r:Rs α}{f:α->Rs β}{k:β->Prop}(h:Run C E σ (r.bind f) k):Run C E σ r fun a=>Run C E σ (f a) k:=by
 cases r with
 |ok a=>exact h
 |ex c ρ=>exact h
 |no=>exact h
theorem Run.of {o:Option α}{k:α->Prop}(h:Run C E σ (Rs.of o) k):∃a,o=some a/\k a:=by
 cases o with
 |none=>exact h.elim
 |some a=>exact⟨a,rfl,h⟩
end
inductive Kd where
 |V|O|B|S (i:Nat)
variable {k rk:Kd}{ks:List Kd}
def Kd.tk:Kd->L2.V->D->List @22->List @22
 |.O,v,d,τ=>(v,d)::τ
 |_,_,_,τ=>τ
def Kd.fc (C:Cn)(F H:Hp)(fp:List Addr)(σ:L2.St)(v:L2.V)(d:D):Kd->Prop
 |.V=>R C.K F v d
 |.B=>R C.K (jn F H fp) v d
 |.O=>True
 |.S i=>σ[i]? = some @26
structure Nx (p:Bool)(F H:Hp)(fp:List Addr)(F' H':Hp)(fp':List Addr):Prop where
 f:Same F F'
 g:p=true->Same (jn F H fp) (jn F' H' fp')
theorem Nx.refl {p:Bool}{F H:Hp}{fp:List Addr}:Nx p F H fp F H fp:=⟨Same.refl _,fun _=>Same.refl _⟩
theorem Nx.trans {p q:Bool}{F H F1 H1 F2 H2:Hp}{fp fp1 fp2:List Addr}(a:Nx p F H fp F1 H1 fp1)(b:Nx q F1 H1 fp1 F2 H2 fp2):Nx (p && q) F H fp F2 H2 fp2:=
 ⟨a.f.trans b.f,fun h=>(a.g (z75.mp h).1).trans (b.g (z75.mp h).2)⟩
theorem Nx.weak{H:Hp}(a:Nx p F H fp F1 H1 fp1)(h:q=true->p=true):Nx q F H fp F1 H1 fp1:=⟨a.f,fun z=>a.g (h z)⟩
def tX (k:Kd)(C:Cn)(p:Bool)(E:XE)(m:ME):TE:=fun σ H Q=>∃F ρ τ fp,SI C F H σ ρ τ fp/\Run C E σ (m ρ) fun r=>
 ∀F' H' fp' v,SI C F' H' σ r.2 (k.tk v r.1 τ) fp'->Nx p F H fp F' H' fp'->k.fc C F' H' fp' σ v r.1->Q v H'
def tT (C:Cn)(p:Bool)(E:XE)(m:MT):TT:=fun σ H Q=>∃F ρ τ fp,SI C F H σ ρ τ fp/\Run C E σ (m ρ) fun r=>
 ∀F' H' fp',SI C F' H' σ r.2 τ fp'->Nx p F H fp F' H' fp'->Q r.1 H'
def tkL:List Kd->List L2.V->List D->List @22->List @22
 |k::ks,v::vs,d::ds,τ=>tkL ks vs ds (k.tk v d τ)
 |_,_,_,τ=>τ
inductive FcL (C:Cn) (F H:Hp) (fp:List Addr) (σ:L2.St):List Kd->List L2.V->List D->Prop
 |nil:FcL C F H fp σ [] [] []
 |cons {k:Kd} {v:L2.V} {d:D} {ks:List Kd} {vs:List L2.V} {ds:List D} (h:k.fc C F H fp σ v d) (r:FcL C F H fp σ ks vs ds):FcL C F H fp σ (k::ks) (v::vs) (d::ds)
def tA (ks:List Kd)(C:Cn)(p:Bool)(E:XE)(m:MA):TA:=fun σ H Q=>∃F ρ τ fp,SI C F H σ ρ τ fp/\Run C E σ (m ρ) fun r=>
 ∀F' H' fp' vs,SI C F' H' σ r.2 (tkL ks vs r.1 τ) fp'->Nx p F H fp F' H' fp'->FcL C F' H' fp' σ ks vs r.1->Q vs H'
theorem Qm{t t':TE}(h:PE X e t)(k:∀σ H Q,t' σ H Q->t σ H Q):PE X e t':=fun pins s σ H Q I q=>h pins s σ H Q I (k _ _ _ q)
theorem Qbm{t t':TT}(h:PT X e t)(k:∀σ H Q,t' σ H Q->t σ H Q):PT X e t':=fun pins s σ H Q I q=>h pins s σ H Q I (k _ _ _ q)
theorem Qfj{e:List Expr}{t t':TA}(h:PA X e t)(k:∀σ H Q,t' σ H Q->t σ H Q):PA X e t':=fun pos pins s σ H Q I q=>h pos pins s σ H Q I (k _ _ _ q)
theorem Q8{e:Stmt}{t t':TS}(h:PS X e t)(k:∀D σ H,t' D σ H->t D σ H):PS X e t':=fun pins s σ H D I q=>h pins s σ H D I (k _ _ _ q)
theorem QdA{e:List Stmt}{t t':TS}(h:PSs X e t)(k:∀D σ H,t' D σ H->t D σ H):PSs X e t':=fun pins s σ H D I q=>h pins s σ H D I (k _ _ _ q)
section
variable {pb:Bool}{b:Expr}{ma:ME}{ka kb:Kd}
theorem R.tj {H:Hp}{τ:List (V×D)}(I:SI C F H σ ρ τ fp)(h:R C.K F v d):R C.K (jn F H fp) v d:=h.same (Qfi I.ap)
theorem R.top {H:Hp}{τ:List (V×D)}(I:SI C F H σ ρ τ fp)(h:R C.K (jn F H fp) v d):R C.K H v d:=h.same (JD I.fh)
def mC (d:D):ME:=fun ρ=>.ok (d,ρ)
theorem Qlk(e:d.sc=some v){H:Hp}(h:tX .V C true E (mC d) σ H Q):tC v σ H Q:=by
 obtain⟨F,ρ,τ,fp,I,r⟩:=h;exact r F H fp v I .refl (.sc e)
theorem Qe {i j pos}:PE X (.Constant (.int i) j pos) (tX .V C true E (mC (.int i))):=Qm pe_int fun _ _ _ h=>Qlk rfl h
theorem V9 {b j pos}:PE X (.Constant (.bool b) j pos) (tX .V C true E (mC (.bl b))):=Qm pe_bl fun _ _ _ h=>Qlk rfl h
def mB (i:Nat):ME:=fun ρ=>match ρ[i]? with
 |some (some (.frz d))=>.ok (d,ρ)
 |some (some (.own d))=>.ok (d,ρ)
 |some (some (.par d))=>.ok (d,ρ)
 |_=>.no
theorem Qll{pos:Pos}(hN:X.N[i]? = some x)(hv:Vis X.env.scope x)(hd:@10=false:=by decide)(hcd:@23=false:=by decide):PE X (.Name x pos) (tX .B C true E (mB i)):=Qm (pe_var hN hv hd hcd) fun σ H Q ⟨F,ρ,τ,fp,I,r⟩=>by
 unfold mB at r
 cases es:ρ[i]? with
 |none=>rw[es] at r;exact r.elim
 |some s=>
  rw[es] at r;obtain⟨y,f0,g0,rest,ey,s1,pm,_,_,_⟩:=I.cut es
  cases s1 with
  |non=>exact r.elim
  |frz h=>exact⟨_,ey,r F H fp _ I .refl (h.tj I)⟩
  |own h=>exact⟨_,ey,r F H fp _ I .refl (h.r (Qfi I.ap) fun a ha=>JF (pm.mem_iff.mpr (z13 _ ha)))⟩
  |par h=>exact⟨_,ey,r F H fp _ I .refl (h.r (Qfi I.ap) fun a ha=>JF (pm.mem_iff.mpr (z05 _ (z13 _ ha))))⟩
def mV (i:Nat):ME:=fun ρ=>match ρ[i]? with
 |some (some (.frz d))=>.ok (d,ρ)
 |some (some (.own d))=>.ok (d,ρ.set i (some (.frz d)))
 |_=>.no
theorem QX{l:List α}{x:α}(h:l[i]? = some x):l.set i x=l:=by
 apply zj6
 intro j
 by_cases e:i=j
 ·subst e;rw[z87 (z11.mp h).1,h]
 ·rw[z95 e]
theorem SI.Qju {H:Hp}{τ:List (V×D)}(I:SI C F H σ ρ τ fp)(es:ρ[i]? = some (some (.own d))) :
  ∃F' fp' v,σ[i]? = some @26/\SI C F' H σ (ρ.set i (some (.frz d))) τ fp'/\R C.K F' v d/\Same F F'/\jn F' H fp'=jn F H fp:=by
 obtain⟨y,f0,g0,rest,ey,s1,pm,w0,w1,cl⟩:=I.cut es
 cases s1 with
 | @own v _ _ h=>
  have nd:=pm.nodup_iff.mp I.nd;have ap:∀a∈f0,F a=none:=fun a ha=>I.ap a (pm.mem_iff.mpr (z13 _ ha));have dis:∀a∈rest,a∉f0:=fun a ha hf=>(z12.mp nd).2.2 a hf a ha rfl;have sf:Same F (TL.jn F H f0):=Qfi ap;have rr:R C.K (TL.jn F H f0) v d:=h.r sf fun a ha=>JF ha
  have q:=cl (F':=TL.jn F H f0) (H':=H) (x':=some v) (s':=some (.frz d)) (f0':=[]) (g0':=[]) sf (JD I.fh) (fun _ _=>rfl) (fun _ z=>z) (fun _ _ _ _ z=>z) (fun b o e=>by
   by_cases hb:b∈f0
   ·exact .inr (.inl (w0 b hb))
   ·rw[QF hb] at e;exact .inl e) (.frz rr) (z12.mp nd).2.1 (fun a ha=>(QF (dis a ha)).trans (I.ap a (pm.mem_iff.mpr (z05 _ ha)))) @5 @5 (fun v' hv=>by
    obtain⟨_,d',z⟩:=I.pr _ _ hv
    rw[es] at z;cases z)
  rw[QX ey] at q;refine⟨_,_,v,ey,q,rr,sf,?_⟩
  funext b
  show TL.jn (TL.jn F H f0) H rest b=TL.jn F H fp b;unfold TL.jn
  by_cases hb:b∈rest
  ·rw[if_pos hb,if_pos (pm.mem_iff.mpr (z05 _ hb))]
  ·rw[if_neg hb]
   by_cases hf:b∈f0
   ·rw[if_pos hf,if_pos (pm.mem_iff.mpr (z13 _ hf))]
   ·rw[if_neg hf,if_neg fun z=>(z08.mp (pm.mem_iff.mp z)).elim hf hb]
theorem Qlm{pos:Pos}(hN:X.N[i]? = some x)(hv:Vis X.env.scope x)(hd:@10=false:=by decide)(hcd:@23=false:=by decide):PE X (.Name x pos) (tX .V C true E (mV i)):=Qm (pe_var hN hv hd hcd) fun σ H Q ⟨F,ρ,τ,fp,I,r⟩=>by
 unfold mV at r
 cases es:ρ[i]? with
 |none=>rw[es] at r;exact r.elim
 |some s=>
  rw[es] at r
  cases s with
  |none=>exact r.elim
  |some s=>
   cases s with
   |frz d=>
    obtain⟨y,f0,g0,rest,ey,s1,_⟩:=I.cut es
    cases s1 with
    |frz h=>exact⟨_,ey,r F H fp _ I .refl h⟩
   |own d=>
    obtain⟨F',fp',v,ey,J,rr,sf,je⟩:=I.Qju es;exact⟨v,ey,r F' H fp' v J ⟨sf,fun _=>by rw[je];exact Same.refl _⟩ rr⟩
   |par d=>exact r.elim
def mO (i:Nat):ME:=fun ρ=>match ρ[i]? with
 |some (some (.own d))=>.ok (d,ρ.set i none)
 |_=>.no
theorem Qln{pos:Pos}(hN:X.N[i]? = some x)(hv:Vis X.env.scope x)(hd:@10=false:=by decide)(hcd:@23=false:=by decide):PE X (.Name x pos) (tX .O C true E (mO i)):=Qm (pe_var hN hv hd hcd) fun σ H Q ⟨F,ρ,τ,fp,I,r⟩=>by
 unfold mO at r
 cases es:ρ[i]? with
 |none=>rw[es] at r;exact r.elim
 |some s=>
  rw[es] at r;obtain⟨y,f0,g0,rest,ey,s1,pm,w0,w1,cl⟩:=I.cut es
  cases s1 with
  |non=>exact r.elim
  |frz h=>exact r.elim
  |par h=>exact r.elim
  | @own v d f h=>
   have nd:=pm.nodup_iff.mp I.nd
   have q:=cl (F':=F) (H':=H) (x':=some v) (s':=none) (f0':=[]) (g0':=[]) (Same.refl _) I.fh (fun _ _=>rfl) (fun _ z=>z) (fun _ _ _ _ z=>z) (fun b o e=>.inl e) .non (z12.mp nd).2.1 (fun a ha=>I.ap a (pm.mem_iff.mpr (z05 _ ha))) @5 @5 (fun v' hv=>by
    obtain⟨_,d',z⟩:=I.pr _ _ hv
    rw[es] at z;cases z)
   rw[QX ey] at q;have q2:=q.push h w0 (fun a ha=>I.ap a (pm.mem_iff.mpr (z13 _ ha))) nd;refine⟨v,ey,r F H _ v q2 ⟨Same.refl _,fun _=>?_⟩ z64⟩;have e:TL.jn F H fp=TL.jn F H (f0++([]++([]++rest))):=Qjt pm;rw[e];exact Same.refl _
theorem Qa0 (h:PE X e (tX .O C p E m)):PE X e (tX .V C p E m):=Qm h fun σ H Q ⟨F,ρ,τ,fp,I,r⟩=>
 ⟨F,ρ,τ,fp,I,r.mono fun a z F' H' fp' v I' n f=>by
  obtain⟨F2,rest,J,sf,rr,je⟩:=SI.freeze (show SI C F' H' σ a.2 ((v,a.1)::τ) fp' from I')
  exact z F2 H' rest v J ⟨n.f.trans sf,fun hp=>by rw[je];exact n.g hp⟩ rr⟩
def mI (m:ME):ME:=fun ρ=>(m ρ).bind fun r=>if r.1.imm=true then .ok r else .no
theorem Qaa (h:PE X e (tX .V C p E m)):PE X e (tX .O C p E (mI m)):=Qm h fun σ H Q ⟨F,ρ,τ,fp,I,r⟩=>
 ⟨F,ρ,τ,fp,I,r.split.mono fun a z F' H' fp' v I' n f=>by
  by_cases hi:a.1.imm=true
  ·rw[if_pos hi] at z;have J:=SI.push (τ:=τ) I' (R.o (H:=H') f hi) @5 @5 (by simpa using I'.nd);exact z F' H' fp' v J n z64
  ·rw[if_neg hi] at z
   exact z.elim⟩
def OpD (K:z02)(r:R2)(g:D->D->Option D):Prop:=∀H v u d e res,R K H v d->R K H u e->g d e=some res->∃w,res.sc=some w/\∀Q:VK,Q w H->r v u H Q
def mOp (g:D->D->Option D)(ma mb:ME):ME:=fun ρ=>(ma ρ).bind fun r1=>(mb r1.2).bind fun r2=>Rs.of ((g r1.1 r2.1).map fun d=>(d,r2.2))
def Kd.on:Kd->Bool->Bool
 |.V,_=>true
 |.B,p=>p
 |.O,_=>false
 |.S _,_=>false
theorem Kd.stay {H:Hp}{τ':List @22}(ok:k.on q=true)(h:k.fc C F H fp σ v d)(n:Nx q F H fp F1 H1 fp1)(I:SI C F1 H1 σ ρ τ' fp1):R C.K (TL.jn F1 H1 fp1) v d:=by
 cases k with
 |V=>exact(R.same n.f h).tj I
 |B=>exact R.same (n.g ok) h
 |O=>cases ok
 |S i=>cases ok
theorem Kd.J4(ok:k.on q=true)(v:L2.V)(d:D)(τ:List @22):k.tk v d τ=τ:=by
 cases k with
 |V=>rfl
 |B=>rfl
 |O=>cases ok
 |S i=>cases ok
theorem Qfk {r:R2}(hg:OpD C.K r g)(ok:ka.on pb=true)(ok2:kb.on true=true){H:Hp}(h:tX .V C (pa && pb) E (mOp g ma mb) σ H Q):tOp r (tX ka C pa E ma) (tX kb C pb E mb) σ H Q:=by
 obtain⟨F,ρ,τ,fp,I,h⟩:=h;refine⟨F,ρ,τ,fp,I,h.split.mono fun r1 h1 F1 H1 fp1 v1 I1 n1 f1=>?_⟩;rw[Kd.J4 ok] at I1;refine⟨F1,r1.2,τ,fp1,I1,h1.split.mono fun r2 h2 F2 H2 fp2 v2 I2 n2 f2=>?_⟩;rw[Kd.J4 ok2] at I2;obtain⟨z,ez,h3⟩:=h2.of;obtain⟨res,eg,rfl⟩:=z03.mp ez;obtain⟨w,ew,hw⟩:=hg H2 v1 v2 _ _ _ (R.top I2 (Kd.stay ok f1 n2 I2)) (R.top I2 (Kd.stay ok2 f2 .refl I2)) eg;exact hw _ (h3 F2 H2 fp2 w I2 (n1.trans n2) (.sc ew))
theorem QS {op:Operator}{r:R2}(ho:OpR X (binaryOp op) r)(hg:OpD C.K r g)(ha:PE X a (tX ka C pa E ma))(hb:PE X b (tX kb C pb E mb))(ok:ka.on pb=true:=by rfl)(ok2:kb.on true=true:=by rfl):PE X (.BinOp a op b pos) (tX .V C (pa && pb) E (mOp g ma mb)):=
 Qm (pe_op ho ha hb) fun _ _ _ h=>Qfk hg ok ok2 h
theorem Qjv {op:CmpOp}{r:R2}(ho:OpR X (compareOp op) r)(hg:OpD C.K r g)(ha:PE X a (tX ka C pa E ma))(hb:PE X b (tX kb C pb E mb))(hm:behindInMarks op b=false)(ok:ka.on pb=true:=by rfl)(ok2:kb.on true=true:=by rfl):PE X (.Compare a [op] [b] pos) (tX .V C (pa && pb) E (mOp g ma mb)):=
 Qm (pe_cmpR ho ha hb hm) fun _ _ _ h=>Qfk hg ok ok2 h
noncomputable def asB:D->Option Bool
 |.bl b=>some b
 |_=>none
def Jj (m:ME):MT:=fun ρ=>(m ρ).bind fun r=>Rs.of ((asB r.1).map fun b=>(b,r.2))
theorem Qag (ok:k.on true=true){H:Hp}{Q:Bool->Hp->Prop}(h:tT C p E (Jj m) σ H Q):tTest (tX k C p E m) σ H Q:=by
 obtain⟨F,ρ,τ,fp,I,h⟩:=h;refine⟨F,ρ,τ,fp,I,h.split.mono fun r h F1 H1 fp1 v1 I1 n1 f1=>?_⟩;rw[Kd.J4 ok] at I1;obtain⟨z,ez,h3⟩:=h.of;obtain⟨b,eb,rfl⟩:=z03.mp ez
 have e:r.1=.bl b:=by
  cases q:r.1<;>rw[q] at eb<;>cases eb
  rfl
 have rr:=Kd.stay ok f1 .refl I1;rw[e] at rr;exact⟨b,rr.Qu rfl,h3 F1 H1 fp1 I1 n1⟩
theorem Jl {op:CmpOp}{r:R2}(ho:OpR X (compareOp op) r)(hg:OpD C.K r g)(ha:PE X a (tX ka C pa E ma))(hb:PE X b (tX kb C pb E mb))(hm:behindInMarks op b=false)(ok:ka.on pb=true:=by rfl)(ok2:kb.on true=true:=by rfl):PT X (.Compare a [op] [b] pos) (tT C (pa && pb) E (Jj (mOp g ma mb))):=
 Qbm (pt_cmpR ho ha hb hm) fun σ H Q h=>by
  have q:=Qag (k:=.V) rfl h;exact Qfk hg ok ok2 q
theorem QdB (h:PE X e (tX k C p E m))(ok:k.on true=true:=by rfl)(he:∀whole,isTrue e X.env whole=(do let v ← whole;standAt e.pos;holding [v] (truthy v)):=by intro _;rfl):PT X e (tT C p E (Jj m)):=
 Qbm (pt_val h he) fun _ _ _ h=>Qag ok h
def Qlo (m u:MT):MT:=fun ρ=>(m ρ).bind fun r=>if r.1=true then u r.2 else .ok (false,r.2)
def mOr (m u:MT):MT:=fun ρ=>(m ρ).bind fun r=>if r.1=true then .ok (true,r.2) else u r.2
variable {mu:MT}{rest:List Expr}
theorem Qfl (ha:PT X a (tT C pa E mt))(hb:PW X (.BoolOp .And (b::rest) pos) (tT C pb E mu)):PW X (.BoolOp .And (a::b::rest) pos) (tT C (pa && pb) E (Qlo mt mu)):=fun whole pins s σ H Q J h=>
 pw_and ha hb whole pins s σ H Q J (by
  obtain⟨F,ρ,τ,fp,I,r⟩:=h;refine⟨F,ρ,τ,fp,I,r.split.mono fun r1 h1 F1 H1 fp1 I1 n1=>?_⟩
  by_cases c:r1.1=true
  ·rw[if_pos c] at h1 ⊢;exact⟨F1,r1.2,τ,fp1,I1,h1.mono fun r2 h2 F2 H2 fp2 I2 n2=>h2 F2 H2 fp2 I2 (n1.trans n2)⟩
  ·rw[if_neg c] at h1 ⊢
   exact h1 F1 H1 fp1 I1 (n1.weak fun z=>(z75.mp z).1))
theorem Qlp (ha:PT X a (tT C pa E mt))(hb:PW X (.BoolOp .Or (b::rest) pos) (tT C pb E mu)):PW X (.BoolOp .Or (a::b::rest) pos) (tT C (pa && pb) E (mOr mt mu)):=fun whole pins s σ H Q J h=>
 pw_or ha hb whole pins s σ H Q J (by
  obtain⟨F,ρ,τ,fp,I,r⟩:=h;refine⟨F,ρ,τ,fp,I,r.split.mono fun r1 h1 F1 H1 fp1 I1 n1=>?_⟩
  by_cases c:r1.1=true
  ·rw[if_pos c] at h1 ⊢;exact h1 F1 H1 fp1 I1 (n1.weak fun z=>(z75.mp z).1)
  ·rw[if_neg c] at h1 ⊢
   exact⟨F1,r1.2,τ,fp1,I1,h1.mono fun r2 h2 F2 H2 fp2 I2 n2=>h2 F2 H2 fp2 I2 (n1.trans n2)⟩)
theorem Qlq {op:BoolOp}(ha:PT X a (tT C p E mt)):PW X (.BoolOp op [a] pos) (tT C p E mt):=by
 cases op with
 |And=>exact pw_and1 ha
 |Or=>exact pw_or1 ha
def Qjw (ma mb:ME):ME:=fun ρ=>(ma ρ).bind fun r=>(Rs.of (asB r.1)).bind fun c=>if c=true then mb r.2 else .ok (.bl false,r.2)
theorem Qlr{b:Bool}(h:asB d=some b):d=.bl b:=by
 cases d<;>cases h
 rfl
theorem Qnm {op:BoolOp}(h:PE X a (tX k C p E m)):PE X (.BoolOp op [a] pos) (tX k C p E m):=pe_one h
theorem Qnn (ha:PE X a (tX ka C pa E ma))(hb:PE X (.BoolOp .And (b::rest) pos) (tX .V C pb E mb))(ok:ka.on true=true:=by rfl):PE X (.BoolOp .And (a::b::rest) pos) (tX .V C (pa && pb) E (Qjw ma mb)):=Qm (pe_and ha hb) fun σ H Q ⟨F,ρ,τ,fp,I,r⟩=>by
 refine⟨F,ρ,τ,fp,I,r.split.mono fun r1 h1 F1 H1 fp1 v1 I1 n1 f1=>?_⟩;rw[Kd.J4 ok] at I1;obtain⟨c,ec,h2⟩:=h1.split.of;have rr:=Kd.stay ok f1 .refl I1;rw[Qlr ec] at rr;refine⟨c,rr.Qu rfl,?_⟩
 by_cases hc:c=true
 ·rw[if_pos hc] at h2 ⊢;exact⟨F1,r1.2,τ,fp1,I1,h2.mono fun r2 h3 F2 H2 fp2 v2 I2 n2 f2=>h3 F2 H2 fp2 v2 I2 (n1.trans n2) f2⟩
 ·rw[if_neg hc] at h2 ⊢;exact h2 F1 H1 fp1 _ I1 (n1.weak fun z=>(z75.mp z).1) (.sc rfl)
def Qor (mt:MT)(ma mb:ME):ME:=fun ρ=>(mt ρ).bind fun r=>if r.1=true then ma r.2 else mb r.2
theorem Qno{pc:Bool}(hc:PT X c (tT C pc E mt))(ha:PE X a (tX k C pa E ma))(hb:PE X b (tX k C pb E mb)):PE X (.IfExp c a b pos) (tX k C (pc && (pa && pb)) E (Qor mt ma mb)):=Qm (pe_ifExp hc ha hb) fun σ H Q ⟨F,ρ,τ,fp,I,r⟩=>by
 refine⟨F,ρ,τ,fp,I,r.split.mono fun r1 h1 F1 H1 fp1 I1 n1=>?_⟩
 by_cases cc:r1.1=true
 ·rw[if_pos cc] at h1 ⊢;exact⟨F1,r1.2,τ,fp1,I1,h1.mono fun r2 h2 F2 H2 fp2 v2 I2 n2 f2=>h2 F2 H2 fp2 v2 I2 ((n1.trans n2).weak fun z=>by cases pc<;>cases pa<;>cases pb<;>simp_all) f2⟩
 ·rw[if_neg cc] at h1 ⊢;exact⟨F1,r1.2,τ,fp1,I1,h1.mono fun r2 h2 F2 H2 fp2 v2 I2 n2 f2=>h2 F2 H2 fp2 v2 I2 ((n1.trans n2).weak fun z=>by cases pc<;>cases pa<;>cases pb<;>simp_all) f2⟩
end
section
variable {pb:Bool}{b:Expr}{ma:ME}{ka kb:Kd}
def mS (i:Nat):ME:=fun ρ=>match ρ[i]? with
 |some (some (.own d))=>.ok (d,ρ)
 |some (some (.par d))=>.ok (d,ρ)
 |_=>.no
theorem Qls{pos:Pos}(hN:X.N[i]? = some x)(hv:Vis X.env.scope x)(hd:@10=false:=by decide)(hcd:@23=false:=by decide):PE X (.Name x pos) (tX (.S i) C true E (mS i)):=Qm (pe_var hN hv hd hcd) fun σ H Q ⟨F,ρ,τ,fp,I,r⟩=>by
 unfold mS at r
 cases es:ρ[i]? with
 |none=>rw[es] at r;exact r.elim
 |some s=>
  rw[es] at r;obtain⟨y,f0,g0,rest,ey,s1,_⟩:=I.cut es
  cases s1 with
  |non=>exact r.elim
  |frz h=>exact r.elim
  |own h=>exact⟨_,ey,r F H fp _ I .refl ey⟩
  |par h=>exact⟨_,ey,r F H fp _ I .refl ey⟩
def Kd.ona:Kd->Bool->Bool
 |.B,p=>p
 |_,_=>true
def Qz:MA:=fun ρ=>.ok ([],ρ)
def Qg (m:ME)(mr:MA):MA:=fun ρ=>(m ρ).bind fun r=>(mr r.2).bind fun q=>.ok (r.1::q.1,q.2)
theorem Qf:PA X [] (tA [] C true E Qz):=Qfj pa_nil fun σ H Q ⟨F,ρ,τ,fp,I,r⟩=>r F H fp [] I .refl .nil
theorem Kd.Qnp {H:Hp}(ok:k.ona q=true)(h:k.fc C F H fp σ v d)(n:Nx q F H fp F1 H1 fp1):k.fc C F1 H1 fp1 σ v d:=by
 cases k with
 |V=>exact R.same n.f h
 |B=>exact R.same (n.g ok) h
 |O=>exact z64
 |S i=>exact h
theorem Qd (ha:PE X e (tX k C pa E m))(hr:PA X es (tA ks C pb E mr))(ok:k.ona pb=true:=by rfl)(hs:starEach (e::es) X.env=@16::starEach es X.env:=by rfl):PA X (e::es) (tA (k::ks) C (pa && pb) E (Qg m mr)):=Qfj (pa_cons ha hr hs) fun σ H Q ⟨F,ρ,τ,fp,I,r⟩=>
 ⟨F,ρ,τ,fp,I,r.split.mono fun r1 h1 F1 H1 fp1 v1 I1 n1 f1=>⟨F1,r1.2,_,fp1,I1,h1.split.mono fun r2 h2 F2 H2 fp2 vs I2 n2 f2=>
  h2 F2 H2 fp2 (v1::vs) I2 (n1.trans n2) (.cons (Kd.Qnp ok f1 n2) f2)⟩⟩
def rdL:List Kd->Bool
 | []=>true
 |.V::r=>rdL r
 |.B::r=>rdL r
 |_=>false
def knL:List Kd->Bool
 | []=>true
 |.V::r=>knL r
 |_=>false
theorem Je:∀{ks:List Kd} {vs:List L2.V} {ds:List D} {τ:List @22},rdL ks=true->tkL ks vs ds τ=τ
 | [],_,_,_,_=>by unfold tkL;rfl
 |.V::ks,[],_,_,_=>by unfold tkL;rfl
 |.V::ks,_::_,[],_,_=>by unfold tkL;rfl
 |.V::ks,v::vs,d::ds,τ,h=>by unfold tkL;exact Je (ks:=ks) h
 |.B::ks,[],_,_,_=>by unfold tkL;rfl
 |.B::ks,_::_,[],_,_=>by unfold tkL;rfl
 |.B::ks,v::vs,d::ds,τ,h=>by unfold tkL;exact Je (ks:=ks) h
 |.O::ks,_,_,_,h=>by cases h
 |.S i::ks,_,_,_,h=>by cases h
theorem FcL.rd {H:Hp}(I:SI C F H σ ρ τ fp){ks:List Kd}(h:FcL C F H fp σ ks vs ds)(q:rdL ks=true):RL C.K (jn F H fp) vs ds:=by
 induction h with
 |nil=>exact .nil
 | @cons k _ _ _ _ _ h r ih=>
  cases k with
  |V=>exact .cons (R.tj I h) (ih q)
  |B=>exact .cons h (ih q)
  |O=>cases q
  |S _=>cases q
theorem FcL.kn {H:Hp}{ks:List Kd}(h:FcL C F H fp σ ks vs ds)(q:knL ks=true):RL C.K F vs ds:=by
 induction h with
 |nil=>exact .nil
 | @cons k _ _ _ _ _ h r ih=>
  cases k with
  |V=>exact .cons h (ih q)
  |B=>cases q
  |O=>cases q
  |S _=>cases q
theorem Yx:∀{ks:List Kd},knL ks=true->rdL ks=true
 | [],_=>rfl
 |.V::ks,h=>Yx (ks:=ks) h
 |.B::ks,h=>by cases h
 |.O::ks,h=>by cases h
 |.S i::ks,h=>by cases h
def CallD (K:z02)(r:List L2.V->Hp->VK->Prop)(g:List D->Option D):Prop:=∀H vs ds res,RL K H vs ds->g ds=some res->∃w,res.sc=some w/\∀Q:VK,Q w H->r vs H Q
def Vt (g:List D->Option D)(mr:MA):ME:=fun ρ=>(mr ρ).bind fun r=>Rs.of ((g r.1).map fun d=>(d,r.2))
theorem Qlt {r:List L2.V->Hp->VK->Prop}{g:List D->Option D}(hg:CallD C.K r g)(ok:rdL ks=true){H:Hp}(h:tX .V C p E (Vt g mr) σ H Q):tCB r (tA ks C p E mr) σ H Q:=by
 obtain⟨F,ρ,τ,fp,I,h⟩:=h;refine⟨F,ρ,τ,fp,I,h.split.mono fun r1 h1 F1 H1 fp1 vs I1 n1 f1=>?_⟩;rw[Je ok] at I1;obtain⟨z,ez,h3⟩:=h1.of;obtain⟨res,eg,rfl⟩:=z03.mp ez;obtain⟨w,ew,hw⟩:=hg H1 vs _ _ (RL.same (JD I1.fh) (f1.rd I1 ok)) eg;exact hw _ (h3 F1 H1 fp1 w I1 n1 (.sc ew))
theorem J8{id:String}{r:List L2.V->Hp->VK->Prop}{g:List D->Option D}(hc:CallR X (.builtin id) r)(hg:CallD C.K r g)(hm:X.mg x=none)(hv:z90 x=some (.builtin id))(ha:PA X (e::es) (tA ks C p E mr))(ok:rdL ks=true:=by rfl)(hgl:Gl X x:=by rfl)(hn:x ≠ "__name__" := by decide)(hdb:@10=false:=by decide)
  (he:starEach (e::es) X.env=@16::starEach es X.env:=by rfl) (hpl:(backTo pos (starEach es X.env)).any (·.1)=false:=by rfl):PE X (.Call (.Name x px) (e::es) [] pos) (tX .V C p E (Vt g mr)):=
 Qm (pe_callB hc hgl hm hv ha hn hdb he hpl) fun _ _ _ h=>Qlt hg ok h
theorem YQ {H:Hp}{q:Addr}{o:HO}(I:SI C F H σ ρ τ fp)(hq:H q=none):Same (jn F H fp) (jn (upd F q o) (upd H q o) fp):=fun b ob e=>by
 by_cases hb:b∈fp
 ·rw[JF hb] at e ⊢;exact Same.upd hq b ob e
 ·rw[QF hb] at e ⊢;exact Same.upd (I.fh.free hq) b ob e
theorem V1 {H:Hp}{q:Addr}{o:HO}(I:SI C F H σ ρ τ fp)(hq:H q=none):Same (jn F H fp) (jn F (upd H q o) ([q]++fp)):=fun b ob e=>by
 have fq:=I.fh.free hq;have e':=JD I.fh b ob e;have nb:b≠q:=ne_of_none e' hq
 by_cases hb:b∈fp
 ·rw[JF (z05 _ hb),upd_ne nb];exact e'
 ·rw[QF hb] at e;rw[QF (by simp[hb,nb])];exact e
theorem SI.newList {H:Hp}{q:Addr}(I:SI C F H σ ρ τ fp)(hq:H q=none)(r:RL C.K F vs ds)(hi:D.Jb ds=true):SI C F (upd H q (.lst vs)) σ ρ ((.ref q,.lst ds)::τ) ([q]++fp):=by
 have J:=I.lay0 (o:=.lst vs) hq
 have nq:q∉fp:=fun z=>by
  obtain⟨o,e,_⟩:=I.mem q z;rw[hq] at e;cases e
 refine J.push (f:=[q]) (.mt (t:=.lst) (show upd H q (.lst vs) q=some (.lst vs) from upd_same) (RL.o r hi)) (fun a ha=>?_) (fun a ha=>?_) (z12.mpr ⟨by simp,I.nd,fun x hx y hy z=>?_⟩)
 ·rw[z16.mp ha];exact I.dm q hq
 ·rw[z16.mp ha];exact I.fh.free hq
 ·subst z;rw[z16.mp hx] at hy;exact nq hy
def Qg9 (mr:MA):ME:=fun ρ=>(mr ρ).bind fun r=>if r.1.length<=z24 then .ok (.lst r.1,r.2) else .no
def QcU (mr:MA):ME:=fun ρ=>(mr ρ).bind fun r=>if r.1.length<=z24 then .ok (.tup r.1,r.2) else .no
def Qlu (mr:MA):ME:=fun ρ=>(mr ρ).bind fun r=>if r.1.length<=z24 then(if D.Jb r.1=true then .ok (.lst r.1,r.2) else .no) else .no
theorem Qv {x1:Nat}(h:PA X es (tA ks C p E mr))(ok:knL ks=true:=by rfl):PE X (.Tuple es x1 pos) (tX .V C p E (QcU mr)):=Qm (pe_tup h) fun σ H Q ⟨F,ρ,τ,fp,I,h⟩=>by
 refine⟨F,ρ,τ,fp,I,h.split.mono fun r1 h1 F1 H1 fp1 vs I1 n1 f1=>?_⟩;rw[Je (Yx ok)] at I1;have rl:=f1.kn ok
 by_cases hz:r1.1.length<=z24
 ·rw[if_pos hz] at h1;refine⟨by rw[rl.length];exact hz,fun q hq=>?_⟩;have s:=Same.upd (o:=HO.tup vs) (I1.fh.free hq);exact h1 _ _ fp1 _ (I1.lay hq) ((n1.trans (q:=true) ⟨s,fun _=>YQ I1 hq⟩).weak fun z=>by simp[z]) (.nd (t:=.tup) upd_same (rl.same s))
 ·rw[if_neg hz] at h1;exact h1.elim
theorem QdC (h:PA X es (tA ks C p E mr))(ok:knL ks=true:=by rfl):PE X (.List es pos) (tX .V C p E (Qg9 mr)):=Qm (pe_lst h) fun σ H Q ⟨F,ρ,τ,fp,I,h⟩=>by
 refine⟨F,ρ,τ,fp,I,h.split.mono fun r1 h1 F1 H1 fp1 vs I1 n1 f1=>?_⟩;rw[Je (Yx ok)] at I1;have rl:=f1.kn ok
 by_cases hz:r1.1.length<=z24
 ·rw[if_pos hz] at h1;refine⟨by rw[rl.length];exact hz,fun q hq=>?_⟩;have s:=Same.upd (o:=HO.lst vs) (I1.fh.free hq);exact h1 _ _ fp1 _ (I1.lay hq) ((n1.trans (q:=true) ⟨s,fun _=>YQ I1 hq⟩).weak fun z=>by simp[z]) (.nd (t:=.lst) (.inl (.inl upd_same)) (rl.same s))
 ·rw[if_neg hz] at h1;exact h1.elim
theorem Ju (h:PA X es (tA ks C p E mr))(ok:rdL ks=true:=by rfl):PE X (.List es pos) (tX .O C p E (Qlu mr)):=Qm (pe_lst h) fun σ H Q ⟨F,ρ,τ,fp,I,h⟩=>by
 refine⟨F,ρ,τ,fp,I,h.split.mono fun r1 h1 F1 H1 fp1 vs I1 n1 f1=>?_⟩;rw[Je ok] at I1;have rl:=f1.rd I1 ok
 by_cases hz:r1.1.length<=z24
 ·rw[if_pos hz] at h1
  by_cases hi:D.Jb r1.1=true
  ·rw[if_pos hi] at h1;refine⟨by rw[rl.length];exact hz,fun q hq=>?_⟩
   have rl':RL C.K F1 vs r1.1:=by
    have q:=RL.lo (L:=fp1) (fun b hb o e=>by
     rw[JF hb] at e;obtain⟨o',e',z⟩:=I1.mem b hb;rw[e] at e';cases e'
     exact z) rl hi
    refine q.same fun b o e=>?_
    by_cases hb:b∈fp1
    ·rw[Qhx hb] at e;cases e
    ·rw[YM hb,QF hb] at e;exact e
   exact h1 _ _ _ _ (I1.newList hq rl' hi) ((n1.trans (q:=true) ⟨Same.refl _,fun _=>V1 I1 hq⟩).weak fun z=>by simp[z]) z64
  ·rw[if_neg hi] at h1;exact h1.elim
 ·rw[if_neg hz] at h1;exact h1.elim
theorem SI.loL {H:Hp}(I:SI C F H σ ρ τ fp)(h:RL C.K (jn F H fp) vs ds)(hd:D.Jb ds=true):RL C.K F vs ds:=by
 have q:=RL.lo (L:=fp) (fun b hb o e=>by
  rw[JF hb] at e;obtain⟨o',e',z⟩:=I.mem b hb;rw[e] at e';cases e'
  exact z) h hd
 refine q.same fun b o e=>?_
 by_cases hb:b∈fp
 ·rw[Qhx hb] at e;cases e
 ·rw[YM hb,QF hb] at e;exact e
noncomputable def Qha:List D->Option (List D)
 | [.nd .lst ds]=>some ds
 | [.nd .tup ds]=>some ds
 |_=>none
theorem Qjx(h:Qha ds=some ys):ds=[.nd .lst ys]\/ds=[.nd .tup ys]:=by
 unfold Qha at h
 split at h
 ·cases h;exact .inl rfl
 ·cases h;exact .inr rfl
 ·cases h
theorem R.inv{t:Tag}(r:R K F v (.nd t ds)):∃a vs,v=.ref a/\At K F a t vs/\RL K F vs ds:=by
 cases r with
 |sc e=>cases e
 |nd h r=>exact⟨_,_,rfl,h,r⟩
theorem RL.one(r:RL K F vs [d]):∃v,vs=[v]/\R K F v d:=by
 cases r with
 |cons h t=>cases t;exact⟨_,rfl,h⟩
theorem RL.two{e:D}(r:RL K F vs [d,e]):∃v u,vs=[v,u]/\R K F v d/\R K F u e:=by
 cases r with
 |cons h t=>obtain⟨u,rfl,h'⟩:=t.one;exact⟨_,_,rfl,h,h'⟩
theorem Qfm{H:Hp}(r:RL K H vs ds)(g:Qha ds=some ys):∃q us,vs=[.ref q]/\(At K H q .lst us\/At K H q .tup us)/\RL K H us ys:=by
 rcases Qjx g with rfl|rfl
 ·obtain⟨v,rfl,h⟩:=r.one;obtain⟨a,us,rfl,h1,h2⟩:=h.inv;exact⟨a,us,rfl,.inl h1,h2⟩
 ·obtain⟨v,rfl,h⟩:=r.one;obtain⟨a,us,rfl,h1,h2⟩:=h.inv;exact⟨a,us,rfl,.inr h1,h2⟩
theorem boot_list:z90 "list" = some (.type "list"):=by decide +kernel
theorem boot_tuple:z90 "tuple" = some (.type "tuple"):=by decide +kernel
def YS (mr:MA):ME:=fun ρ=>(mr ρ).bind fun r=>(Rs.of (Qha r.1)).bind fun ds=>if D.Jb ds=true then .ok (.lst ds,r.2) else .no
theorem Qfn {x:Str}(hm:X.mg "list" = none)(hK:C.K=X.K)(ha:PA X [e] (tA ks C p E mr))(ok:rdL ks=true:=by rfl)(hgl:Gl X "list" := by rfl)(he:starEach [e] X.env=@16::starEach [] X.env:=by rfl)(hpl:(backTo pos (starEach [] X.env)).any (·.1)=false:=by rfl) :
  PE X (.Call (.Name "list" px) [e] [] pos) (tX .O C p E (YS mr)):=Qm (pe_callTy call_list_of hgl hm boot_list ha @2 @2 he hpl) fun σ H Q ⟨F,ρ,τ,fp,I,h⟩=>by
 refine⟨F,ρ,τ,fp,I,h.split.mono fun r1 h1 F1 H1 fp1 vs I1 n1 f1=>?_⟩;rw[Je ok] at I1;obtain⟨ds,eg,h2⟩:=h1.split.of
 by_cases hi:D.Jb ds=true
 ·rw[if_pos hi] at h2;obtain⟨q,us,rfl,hs,r⟩:=Qfm (f1.rd I1 ok) eg
  have hs':SqL X.K H1 q us\/SqT X.K H1 q us:=by
   rw[← hK];exact hs.imp (fun z=>(At.same z (JD I1.fh)).sql) fun z=>(At.same z (JD I1.fh)).sqt
  refine⟨q,us,rfl,hs',fun l hl=>?_⟩;exact h2 _ _ _ _ (I1.newList hl (I1.loL r hi) hi) ((n1.trans (q:=true) ⟨Same.refl _,fun _=>V1 I1 hl⟩).weak fun z=>by simp[z]) z64
 ·rw[if_neg hi] at h2;exact h2.elim
def Qhz (mr:MA):ME:=fun ρ=>(mr ρ).bind fun r=>(Rs.of (Qha r.1)).bind fun ds=>.ok (.tup ds,r.2)
theorem QdD(hm:X.mg "tuple" = none)(hK:C.K=X.K)(ha:PA X [e] (tA ks C p E mr))(ok:knL ks=true:=by rfl)(hgl:Gl X "tuple" := by rfl)(he:starEach [e] X.env=@16::starEach [] X.env:=by rfl)(hpl:(backTo pos (starEach [] X.env)).any (·.1)=false:=by rfl) :
  PE X (.Call (.Name "tuple" px) [e] [] pos) (tX .V C p E (Qhz mr)):=Qm (pe_callTy call_tuple_of hgl hm boot_tuple ha @2 @2 he hpl) fun σ H Q ⟨F,ρ,τ,fp,I,h⟩=>by
 refine⟨F,ρ,τ,fp,I,h.split.mono fun r1 h1 F1 H1 fp1 vs I1 n1 f1=>?_⟩;rw[Je (Yx ok)] at I1;obtain⟨ds,eg,h2⟩:=h1.split.of;obtain⟨q,us,rfl,hs,r⟩:=Qfm (f1.kn ok) eg;refine⟨q,us,rfl,?_⟩;rcases hs with hs|hs
 ·refine .inl ⟨by rw[← hK];exact(At.same hs I1.fh).sql,fun l hl=>?_⟩;have s:=Same.upd (o:=HO.tup us) (I1.fh.free hl);exact h2 _ _ fp1 _ (I1.lay hl) ((n1.trans (q:=true) ⟨s,fun _=>YQ I1 hl⟩).weak fun z=>by simp[z]) (.nd (t:=.tup) upd_same (r.same s))
 ·exact .inr ⟨by rw[← hK];exact(At.same hs I1.fh).sqt,h2 F1 H1 fp1 _ I1 n1 (.nd (t:=.tup) hs r)⟩
def gIx:D->D->Option D
 |.nd .lst ds,.int i=>atI ds i
 |.nd .tup ds,.int i=>atI ds i
 |_,_=>none
theorem QiA{i:Int}(r:RL K F vs ds)(h:atI ds i=some d):∃v,atI vs i=some v/\R K F v d:=by
 unfold atI at h ⊢;rw[r.length]
 cases q:ixN ds.length i with
 |none=>rw[q] at h;cases h
 |some j=>
  rw[q] at h;obtain⟨v,e,rv⟩:=r.get (i:=j) h;exact⟨v,e,rv⟩
theorem Qlv {e x:D}(h:gIx d e=some x):∃ds i,(d=.nd .lst ds\/d=.nd .tup ds)/\e=.int i/\atI ds i=some x:=by
 unfold gIx at h
 split at h
 ·exact⟨_,_,.inl rfl,rfl,h⟩
 ·exact⟨_,_,.inr rfl,rfl,h⟩
 ·cases h
theorem Qlw{H:Hp}{u:L2.V}{e x:D}(hs:Same F H)(r:R K F v d)(q:R K H u e)(g:gIx d e=some x):∃w,R K F w x/\∀Q:VK,Q w H->rIx K v u H Q:=by
 obtain⟨ds,i,hd,rfl,ha⟩:=Qlv g;obtain rfl:u=.int i:=q.Qu rfl;rcases hd with rfl|rfl
 ·obtain⟨a,vs,rfl,h1,h2⟩:=r.inv;obtain⟨w,ew,rw'⟩:=QiA h2 ha;exact⟨w,rw',fun Q hq=>.inl ⟨a,vs,i,w,rfl,rfl,(At.same h1 hs).sql,ew,hq⟩⟩
 ·obtain⟨a,vs,rfl,h1,h2⟩:=r.inv;obtain⟨w,ew,rw'⟩:=QiA h2 ha;exact⟨w,rw',fun Q hq=>.inr (.inl ⟨a,vs,i,w,rfl,rfl,(At.same h1 hs).sqt,ew,hq⟩)⟩
theorem QeA (hK:C.K=X.K)(ha:PE X a (tX ka C pa E ma))(hb:PE X b (tX kb C pb E mb))(ok:ka.on pb=true:=by rfl)(ok2:kb.on true=true:=by rfl)(hs:PlainIx b:=by intro _ _;rfl):PE X (.Subscript a b pos) (tX .B C (pa && pb) E (mOp gIx ma mb)):=Qm (pe_ix ix_seq ha hb hs) fun σ H Q ⟨F,ρ,τ,fp,I,h⟩=>by
 refine⟨F,ρ,τ,fp,I,h.split.mono fun r1 h1 F1 H1 fp1 v1 I1 n1 f1=>?_⟩;rw[Kd.J4 ok] at I1;refine⟨F1,r1.2,τ,fp1,I1,h1.split.mono fun r2 h2 F2 H2 fp2 v2 I2 n2 f2=>?_⟩;rw[Kd.J4 ok2] at I2;obtain⟨z,ez,h3⟩:=h2.of;obtain⟨res,eg,rfl⟩:=z03.mp ez;obtain⟨w,rw',hw⟩:=Qlw (JD I2.fh) (Kd.stay ok f1 n2 I2) (R.top I2 (Kd.stay ok2 f2 .refl I2)) eg;rw[← hK];exact hw _ (h3 F2 H2 fp2 w I2 (n1.trans n2) rw')
theorem Qx (hK:C.K=X.K)(ha:PE X a (tX .V C pa E ma))(hb:PE X b (tX kb C pb E mb))(ok2:kb.on true=true:=by rfl)(hs:PlainIx b:=by intro _ _;rfl):PE X (.Subscript a b pos) (tX .V C (pa && pb) E (mOp gIx ma mb)):=Qm (pe_ix ix_seq ha hb hs) fun σ H Q ⟨F,ρ,τ,fp,I,h⟩=>by
 refine⟨F,ρ,τ,fp,I,h.split.mono fun r1 h1 F1 H1 fp1 v1 I1 n1 f1=>?_⟩;refine⟨F1,r1.2,τ,fp1,I1,h1.split.mono fun r2 h2 F2 H2 fp2 v2 I2 n2 f2=>?_⟩;rw[Kd.J4 ok2] at I2;obtain⟨z,ez,h3⟩:=h2.of;obtain⟨res,eg,rfl⟩:=z03.mp ez;obtain⟨w,rw',hw⟩:=Qlw I2.fh (R.same n2.f f1) (R.top I2 (Kd.stay ok2 f2 .refl I2)) eg;rw[← hK];exact hw _ (h3 F2 H2 fp2 w I2 (n1.trans n2) rw')
end
inductive Fl where
 |nx|rt (d:D)|bk|ct
abbrev MS:=Rho->Rs (Fl×Rho)
def QcB (C:Cn)(E:XE)(r:Rs α)(k:α->Prop):Prop:=match r with
 |.ok a=>k a
 |.ex c ρ=>∀F H σ fp,SI C F H σ ρ [] fp->EX (E σ) c H
 |.no=>False
section
variable {β:Type}
theorem QcB.run {r:Rs α}{k:α->Prop}(h:QcB C E r k):Run C E σ r k:=by
 cases r with
 |ok a=>exact h
 |ex c ρ=>exact fun F H fp I=>h F H σ fp I
 |no=>exact h
theorem QcB.mono {r:Rs α}{k k':α->Prop}(h:QcB C E r k)(f:∀a,k a->k' a):QcB C E r k':=by
 cases r with
 |ok a=>exact f a h
 |ex c ρ=>exact h
 |no=>exact h
theorem QcB.split {r:Rs α}{f:α->Rs β}{k:β->Prop}(h:QcB C E (r.bind f) k):QcB C E r fun a=>QcB C E (f a) k:=by
 cases r with
 |ok a=>exact h
 |ex c ρ=>exact h
 |no=>exact h
theorem QcB.of {o:Option α}{k:α->Prop}(h:QcB C E (Rs.of o) k):∃a,o=some a/\k a:=by
 cases o with
 |none=>exact h.elim
 |some a=>exact⟨a,rfl,h⟩
end
def Out (rk:Kd)(C:Cn)(D:Ends)(F0:Hp)(f:Fl)(ρ:Rho):Prop:=match f with
 |.nx=>∀F H σ fp,Same F0 F->SI C F H σ ρ [] fp->D.nx σ H
 |.rt d=>∀F H σ fp v,Same F0 F->SI C F H σ ρ (rk.tk v d []) fp->rk.fc C F H fp σ v d->D.rt v H
 |.bk=>∀F H σ fp,Same F0 F->SI C F H σ ρ [] fp->D.bk σ H
 |.ct=>∀F H σ fp,Same F0 F->SI C F H σ ρ [] fp->D.ct σ H
theorem Out.mono{D:Ends}{F0:Hp}{f:Fl}(s:Same F0 F1)(h:Out rk C D F0 f ρ):Out rk C D F1 f ρ:=by
 cases f with
 |nx=>exact fun F H σ fp z=>h F H σ fp (s.trans z)
 |rt d=>exact fun F H σ fp v z=>h F H σ fp v (s.trans z)
 |bk=>exact fun F H σ fp z=>h F H σ fp (s.trans z)
 |ct=>exact fun F H σ fp z=>h F H σ fp (s.trans z)
def tS (rk:Kd)(C:Cn)(E:XE)(m:MS):TS:=fun D σ H=>∃F ρ fp,SI C F H σ ρ [] fp/\QcB C E (m ρ) fun r=>Out rk C D F r.1 r.2
section
variable {b:Expr}{ms mu:MS}{st:Stmt}{rest:List Stmt}
def QcV:MS:=fun ρ=>.ok (.nx,ρ)
def Qcf (m u:MS):MS:=fun ρ=>(m ρ).bind fun r=>match r.1 with
 |.nx=>u r.2
 |f=>.ok (f,r.2)
theorem VF:PSs X [] (tS rk C E QcV):=QdA pss_nil fun D σ H ⟨F,ρ,fp,I,h⟩=>h F H σ fp (Same.refl F) I
theorem Qi (h1:PS X st (tS rk C E ms))(h2:PSs X rest (tS rk C E mu)):PSs X (st::rest) (tS rk C E (Qcf ms mu)):=QdA (pss_cons h1 h2) fun D σ H ⟨F,ρ,fp,I,h⟩=>by
 refine⟨F,ρ,fp,I,h.split.mono fun r hr=>?_⟩;obtain⟨f,ρ1⟩:=r
 cases f with
 |nx=>exact fun F1 H1 σ1 fp1 s1 I1=>⟨F1,ρ1,fp1,I1,hr.mono fun q z=>z.mono s1⟩
 |rt d=>exact hr
 |bk=>exact hr
 |ct=>exact hr
theorem Qo (h1:PS X st (tS rk C E ms)):PSs X [st] (tS rk C E ms):=pss_one h1
def QeB (m:ME):MS:=fun ρ=>(m ρ).bind fun r=>.ok (.rt r.1,r.2)
theorem QZ (h:PE X e (tX rk C p E m)):PS X (.Return (some e) pos) (tS rk C E (QeB m)):=Q8 (ps_ret h) fun D σ H ⟨F,ρ,fp,I,h⟩=>
 ⟨F,ρ,[],fp,I,h.split.run.mono fun r hr F1 H1 fp1 v I1 n1 f1=>hr F1 H1 σ fp1 v n1.f I1 f1⟩
def mIf (mt:MT)(m u:MS):MS:=fun ρ=>(mt ρ).bind fun r=>if r.1=true then m r.2 else u r.2
theorem QeC{sa sb:List Stmt}(hc:PT X c (tT C p E mt))(ha:PSs X sa (tS rk C E ms))(hb:PSs X sb (tS rk C E mu)):PS X (.If c sa sb pos) (tS rk C E (mIf mt ms mu)):=Q8 (ps_if hc ha hb) fun D σ H ⟨F,ρ,fp,I,h⟩=>
 ⟨F,ρ,[],fp,I,h.split.run.mono fun r hr F1 H1 fp1 I1 n1=>by
  by_cases cc:r.1=true
  ·rw[if_pos cc] at hr ⊢;exact⟨F1,r.2,fp1,I1,hr.mono fun q z=>z.mono n1.f⟩
  ·rw[if_neg cc] at hr ⊢;exact⟨F1,r.2,fp1,I1,hr.mono fun q z=>z.mono n1.f⟩⟩
noncomputable def YF (ρ:Rho)(i:Nat)(d:D):Option Rho:=match ρ[i]? with
 |some (some (.par _))=>none
 |some _=>some (ρ.set i (some (.frz d)))
 |none=>none
noncomputable def Qjy (ρ:Rho)(i:Nat)(d:D):Option Rho:=match ρ[i]? with
 |some (some (.par _))=>none
 |some _=>some (ρ.set i (some (.own d)))
 |none=>none
theorem SI.YF {F H:Hp}{σ:L2.St}{ρ ρ':Rho}{τ:List @22}{fp:List Addr}{i:Nat}{v:L2.V}{d:D}(I:SI C F H σ ρ τ fp)(r:R C.K F v d)(h:YF ρ i d=some ρ'):∃fp',SI C F H (σ.set i @26) ρ' τ fp'/\∀a∈fp',a∈fp:=by
 unfold TL.YF at h
 cases es:ρ[i]? with
 |none=>rw[es] at h;cases h
 |some s=>
  rw[es] at h;obtain⟨x,f0,g0,rest,ex,s1,pm,w0,w1,cl⟩:=I.cut es;have nd:=pm.nodup_iff.mp I.nd
  have fin:(∀v',(i,v')∈C.Qez->False)->∃fp',SI C F H (σ.set i @26) (ρ.set i (some (.frz d))) τ fp'/\∀a∈fp',a∈fp:=fun np=>
   ⟨_,cl (x':=some v) (s':=some (.frz d)) (f0':=[]) (g0':=[]) (Same.refl F) I.fh (fun _ _=>rfl) (fun _ z=>z) (fun _ _ _ _ z=>z) (fun _ _ z=>.inl z) (.frz r) (z12.mp (z12.mp nd).2.1).2.1 (fun a ha=>I.ap a (pm.mem_iff.mpr (by simp at ha;simp[ha]))) @5 @5 (fun v' hv=>(np v' hv).elim),fun a ha=>pm.mem_iff.mpr (by simp at ha;simp[ha])⟩
  have np:∀(s0:Option Sl),s=s0->(∀q,s0≠some (.par q))->∀v',(i,v')∈C.Qez->False:=fun s0 e0 n0 v' hv=>by
   obtain⟨_,q,z⟩:=I.pr _ _ hv;rw[es] at z;cases z
   exact n0 q e0.symm
  cases s with
  |none=>cases h;exact fin (np none rfl fun q z=>nomatch z)
  |some s=>
   cases s with
   |frz d0=>cases h;exact fin (np _ rfl fun q z=>by cases z)
   |own d0=>cases h;exact fin (np _ rfl fun q z=>by cases z)
   |par d0=>cases h
theorem SI.Qjy {F H:Hp}{σ:L2.St}{ρ ρ':Rho}{τ:List @22}{fp:List Addr}{i:Nat}{v:L2.V}{d:D}(I:SI C F H σ ρ ((v,d)::τ) fp)(h:Qjy ρ i d=some ρ'):∃fp',SI C F H (σ.set i @26) ρ' τ fp':=by
 obtain⟨f,QeD,o,pm0,J,h0,ap,nd0⟩:=I.pop;unfold TL.Qjy at h
 cases es:ρ[i]? with
 |none=>rw[es] at h;cases h
 |some s=>
  rw[es] at h;obtain⟨x,f0,g0,rest,ex,s1,pm,w0,w1,cl⟩:=J.cut es;have nd:=pm.nodup_iff.mp J.nd;have ndr:=(z12.mp (z12.mp nd).2.1).2.1;have inr:∀a∈rest,a∈QeD:=fun a ha=>pm.mem_iff.mpr (by simp[ha])
  have fin:(∀v',(i,v')∈C.Qez->False)->∃fp',SI C F H (σ.set i @26) (ρ.set i (some (.own d))) τ fp':=fun np=>
   ⟨_,cl (x':=some v) (s':=some (.own d)) (f0':=f) (g0':=[]) (Same.refl F) J.fh (fun _ _=>rfl) (fun _ z=>z) (fun _ _ _ _ z=>z) (fun _ _ z=>.inl z) (.own o) (z12.mpr ⟨(z12.mp nd0).1,ndr,fun a ha b hb z=>(z12.mp nd0).2.2 a ha b (inr b hb) z⟩) (fun a ha=>by
    rcases z08.mp ha with z|z
    ·exact ap a z
    ·exact J.ap a (inr a z)) h0 @5 (fun v' hv=>(np v' hv).elim)⟩
  have np:∀(s0:Option Sl),s=s0->(∀q,s0≠some (.par q))->∀v',(i,v')∈C.Qez->False:=fun s0 e0 n0 v' hv=>by
   obtain⟨_,q,z⟩:=I.pr _ _ hv;rw[es] at z;cases z
   exact n0 q e0.symm
  cases s with
  |none=>cases h;exact fin (np none rfl fun q z=>nomatch z)
  |some s=>
   cases s with
   |frz d0=>cases h;exact fin (np _ rfl fun q z=>by cases z)
   |own d0=>cases h;exact fin (np _ rfl fun q z=>by cases z)
   |par d0=>cases h
def YG (i:Nat)(m:ME):MS:=fun ρ=>(m ρ).bind fun r=>(Rs.of (YF r.2 i r.1)).bind fun ρ'=>.ok (.nx,ρ')
def QhA (i:Nat)(m:ME):MS:=fun ρ=>(m ρ).bind fun r=>(Rs.of (Qjy r.2 i r.1)).bind fun ρ'=>.ok (.nx,ρ')
theorem Qfo{D:Ends}{H:Hp}(h:tS rk C E (YG i m) D σ H):tAsg (tX .V C p E m) (gName i) D σ H:=by
 obtain⟨F,ρ,fp,I,h⟩:=h;refine⟨F,ρ,[],fp,I,h.split.run.mono fun r hr F1 H1 fp1 v I1 n1 f1=>?_⟩;obtain⟨ρ',e,h2⟩:=hr.split.of;obtain⟨fp',J,_⟩:=SI.YF I1 f1 e;exact h2 F1 H1 _ fp' n1.f J
theorem Qjz{D:Ends}{H:Hp}(h:tS rk C E (QhA i m) D σ H):tAsg (tX .O C p E m) (gName i) D σ H:=by
 obtain⟨F,ρ,fp,I,h⟩:=h;refine⟨F,ρ,[],fp,I,h.split.run.mono fun r hr F1 H1 fp1 v I1 n1 f1=>?_⟩;obtain⟨ρ',e,h2⟩:=hr.split.of;obtain⟨fp',J⟩:=SI.Qjy (τ:=[]) I1 e;exact h2 F1 H1 _ fp' n1.f J
theorem Qt{pos':Pos}(hN:X.N.Nodup)(hi:X.N[i]? = some x)(hx:Loc X.env.scope x)(he:PE X e (tX .V C p E m))(hs:swapsWith e (some (.Name x pos')) pos.line X.env=pure false:=by rfl)(hf:X.fn x=true\/X.env.scope.names.lookup x=some .local:=by first|exact .inl rfl|exact .inr rfl|assumption) :
  PS X (.Assign [.Name x pos'] e pos) (tS rk C E (YG i m)):=Q8 (ps_set hN hi hx he hs hf) fun _ _ _ h=>Qfo h
theorem Q0{pos':Pos}(hN:X.N.Nodup)(hi:X.N[i]? = some x)(hx:Loc X.env.scope x)(he:PE X e (tX .O C p E m))(hs:swapsWith e (some (.Name x pos')) pos.line X.env=pure false:=by rfl)(hf:X.fn x=true\/X.env.scope.names.lookup x=some .local:=by first|exact .inl rfl|exact .inr rfl|assumption) :
  PS X (.Assign [.Name x pos'] e pos) (tS rk C E (QhA i m)):=Q8 (ps_set hN hi hx he hs hf) fun _ _ _ h=>Qjz h
def GD (C:Cn)(g:TG)(tg:D->Rho->Option Rho):Prop:=∀F H σ ρ τ fp x d ρ',SI C F H σ ρ τ fp->R C.K F x d->tg d ρ=some ρ'->∀Q:L2.St->Hp->Prop,(∀σ' fp',SI C F H σ' ρ' τ fp'->(∀a∈fp',a∈fp)->Q σ' H)->g x σ H Q
theorem QG:GD C (gName i) (fun d ρ=>YF ρ i d):=fun F H σ ρ τ fp x d ρ' I r h Q hq=>by
 obtain⟨fp',J,s⟩:=SI.YF I r h;exact hq _ fp' J s
def Qnq (i j:Nat)(d:D)(ρ:Rho):Option Rho:=match d with
 |.nd .tup [x,y]=>(YF ρ i x).bind fun ρ1=>YF ρ1 j y
 |_=>none
theorem Qas(hK:C.K=X.K):GD C (gTup X.K 2 (gCons (gName i) (gCons (gName j) gNil))) (Qnq i j):=fun F H σ ρ τ fp v d ρ' I r h Q hq=>by
 unfold Qnq at h
 split at h
 ·next x y=>
  obtain⟨a,vs,rfl,h1,h2⟩:=r.inv;obtain⟨v1,v2,rfl,r1,r2⟩:=h2.two;obtain⟨ρ1,e1,e2⟩:=z27.mp h;obtain⟨fp1,J1,s1⟩:=SI.YF I r1 e1;obtain⟨fp2,J2,s2⟩:=SI.YF J1 r2 e2;refine⟨a,[v1,v2],rfl,by rw[← hK];exact(At.same h1 I.fh).sqt,rfl,v1,[v2],rfl,v2,[],rfl,rfl,?_⟩;exact hq _ fp2 J2 (fun b hb=>s1 b (s2 b hb))
 ·cases h
structure ItD (K:z02)(F:Hp)(ds:List D)(J:It):Prop where
 go:∀{C:Cn} {F' H:Hp} {σ:L2.St} {ρ:Rho} {τ:List @22} {fp:List Addr} {i:Nat} {d:D},C.K=K->SI C F' H σ ρ τ fp->Same F F'->ds[i]? = some d->J.go i H/\∀x H',J.yld i H x H'->∃F'',SI C F'' H' σ ρ τ fp/\Nx true F' H fp F'' H' fp/\R K F'' x d
 stop:∀{C:Cn} {F' H:Hp} {σ:L2.St} {ρ:Rho} {τ:List @22} {fp:List Addr},C.K=K->SI C F' H σ ρ τ fp->Same F F'->J.stop ds.length H
def tI (C:Cn)(p:Bool)(E:XE)(mi:MA):TI:=fun σ H R=>∃F ρ τ fp,SI C F H σ ρ τ fp/\Run C E σ (mi ρ) fun r=>∀F' H' fp' J,SI C F' H' σ r.2 τ fp'->Nx p F H fp F' H' fp'->ItD C.K F' r.1 J->R J H'
theorem Y6{t t':TI}(h:PI X tg iter t)(k:∀σ H R,t' σ H R->t σ H R):PI X tg iter t':=fun pins s σ H R I q=>h pins s σ H R I (k _ _ _ q)
theorem Qfp{a:Addr}{kd:Bool}(h:At K F a (if kd then .lst else .tup) vs)(r:RL K F vs ds):ItD K F ds (Itb kd K a):=by
 have up:∀{F' H:Hp},Same F F'->Same F' H->SqB kd K H a vs:=fun s1 s2=>by
  cases kd with
  |true=>exact(At.same (t:=.lst) h (s1.trans s2)).sql
  |false=>exact(At.same (t:=.tup) h (s1.trans s2)).sqt
 refine⟨fun{C F' H σ ρ τ fp i d} hk I s e=>?_,fun{C F' H σ ρ τ fp} hk I s=>?_⟩
 ·obtain⟨v,ev,rv⟩:=r.get e;have q:=up s I.fh
  cases kd with
  |true=>exact⟨⟨vs,v,q,ev⟩,fun x H' ⟨e1,y⟩=>by
    subst e1;have z:=y vs q;rw[ev] at z;cases z
    exact⟨F',I,.refl,rv.same s⟩⟩
  |false=>exact⟨⟨vs,v,q,ev⟩,fun x H' ⟨e1,y⟩=>by
    subst e1;have z:=y vs q;rw[ev] at z;cases z
    exact⟨F',I,.refl,rv.same s⟩⟩
 ·have q:=up s I.fh;have l:=r.length
  cases kd with
  |true=>exact⟨vs,q,by lia⟩
  |false=>exact⟨vs,q,by lia⟩
def Jr (m:ME):MA:=fun ρ=>(m ρ).bind fun r=>(Rs.of (Qha [r.1])).bind fun ds=>.ok (ds,r.2)
theorem Q3 {l:Expr}(hK:C.K=X.K)(hl:PE X l (tX .V C p E m)):PI X tg l (tI C p E (Jr m)):=Y6 (QkW hl) fun σ H RR ⟨F,ρ,τ,fp,I,h⟩=>by
 refine⟨F,ρ,τ,fp,I,h.split.mono fun r hr F1 H1 fp1 v I1 n1 f1=>?_⟩;obtain⟨ds,eg,h2⟩:=hr.split.of;obtain⟨q,us,eq,hs,rl⟩:=Qfm (.cons f1 .nil) eg;cases eq
 rcases hs with hs|hs
 ·refine⟨q,true,rfl,⟨us,by rw[← hK];exact(At.same hs I1.fh).sql⟩,h2 F1 H1 fp1 _ I1 n1 ?_⟩;rw[← hK];exact Qfp (kd:=true) hs rl
 ·refine⟨q,false,rfl,⟨us,by rw[← hK];exact(At.same hs I1.fh).sqt⟩,h2 F1 H1 fp1 _ I1 n1 ?_⟩;rw[← hK];exact Qfp (kd:=false) hs rl
noncomputable def Qfq:List D->Option Int
 | [.int i]=>if -(2 ^ 62)<=i/\i<2 ^ 62 then some i else none
 |_=>none
def QeE (mr:MA):MA:=fun ρ=>(mr ρ).bind fun r=>(Rs.of (Qfq r.1)).bind fun n=>.ok ((z41 n.toNat).map fun j=>.int ((0:Int)+(j:Nat)),r.2)
theorem Qfr{lo:Int}:ItD K F ((z41 n).map fun j=>.int (lo+(j:Nat))) (Itr lo n):=by
 refine⟨fun{C F' H σ ρ τ fp i d} hk I s e=>?_,fun{C F' H σ ρ τ fp} hk I s=>?_⟩
 ·rw[z17] at e;obtain⟨j,ej,rfl⟩:=z03.mp e
  have hj:i<n/\j=i:=by
   rw[z11] at ej;obtain⟨h1,h2⟩:=ej;rw[y44] at h2;rw[z52] at h1;exact⟨h1,h2.symm⟩
  refine⟨hj.1,fun x H' hz=>?_⟩;obtain⟨e1,e2⟩:=hz;subst e1 e2;rw[hj.2];exact⟨F',I,.refl,.sc rfl⟩
 ·show n<=_;rw[z01,z52];exact z15 _
theorem Y7 {e:Expr}(hm:X.mg "range" = none)(ha:PA X [e] (tA ks C p E mr))(ok:rdL ks=true:=by rfl)(hg:Gl X "range" := by rfl)(hs:starEach [e] X.env=[@16]:=by rfl):PI X tg (.Call (.Name "range" px) [e] [] pos) (tI C p E (QeE mr)):=Y6 (pi_range1 hg hm ha hs) fun σ H RR ⟨F,ρ,τ,fp,I,h⟩=>by
 refine⟨F,ρ,τ,fp,I,h.split.mono fun r hr F1 H1 fp1 vs I1 n1 f1=>?_⟩;rw[Je ok] at I1;obtain⟨n,eg,h2⟩:=hr.split.of;have rl:=f1.rd I1 ok;unfold Qfq at eg
 split at eg
 ·next i ed=>
  rw[ed] at rl;obtain⟨v,rfl,rv⟩:=rl.one;obtain rfl:=rv.Qu (w:=.int i) rfl
  by_cases c : -(2 ^ 62)<=i/\i<2 ^ 62
  ·rw[if_pos c] at eg;cases eg;exact⟨n,rfl,c.1,c.2,h2 F1 H1 fp1 _ I1 n1 Qfr⟩
  ·rw[if_neg c] at eg;cases eg
 ·cases eg
def forL (tg:D->Rho->Option Rho)(mb:MS):List D->MS
 | []=>fun ρ=>.ok (.nx,ρ)
 |d::ds=>fun ρ=>(Rs.of (tg d ρ)).bind fun ρ1=>(mb ρ1).bind fun r=>match r.1 with
  |.nx=>forL tg mb ds r.2
  |.ct=>forL tg mb ds r.2
  |.bk=>.ok (.nx,r.2)
  |.rt d=>.ok (.rt d,r.2)
def QkR (mi:MA)(tg:D->Rho->Option Rho)(mb:MS):MS:=fun ρ=>(mi ρ).bind fun r=>forL tg mb r.1 r.2
theorem Js{mi:MA}{g:TG}(hp:PassesOwn @3 X.A X.env X.xe)(hc:X.calm=true)(hi:PI X tg iter (tI C p E mi))(hg:PG X tg g)(gd:GD C g tgd)(hb:PSs X body (tS rk C E ms))
  (hs:∀x,foldedSetIterable iter X.env x=pure x:=by intro _;rfl):PS X (.For tg iter body [] pos) (tS rk C E (QkR mi tgd ms)):=Q8 (ps_for hp hc hi hg hb hs) fun D σ H ⟨F,ρ,fp,I,h⟩=>by
 refine⟨F,ρ,[],fp,I,h.split.run.mono fun r hr F1 H1 fp1 J I1 n1 it=>?_⟩;refine⟨fun i m σ' H'=>m=r.1.length - i/\i<=r.1.length/\∃F' ρ' fp',SI C F' H' σ' ρ' [] fp'/\Same F1 F'/\QcB C E (forL tgd ms (r.1.drop i) ρ') fun q=>Out rk C D F q.1 q.2,⟨r.1.length,by simp,z58 _,F1,r.2,fp1,I1,Same.refl _,by rw[zm8];exact hr⟩,?_⟩;rintro i mm σ2 H2 ⟨rfl,hi2,F2,ρ2,fp2,I2,s2,k2⟩
 by_cases hlt:i<r.1.length
 ·obtain⟨d,ed⟩:∃d,r.1[i]? = some d:=⟨r.1[i],z06 hlt⟩;obtain⟨g1,g2⟩:=it.go rfl I2 s2 ed
  have edr:r.1.drop i=d::r.1.drop (i+1):=by
   rw[zb2 hlt];have:r.1[i]=d:=by rw[z06 hlt] at ed;exact z26 ed
   rw[this]
  rw[edr] at k2;obtain⟨ρ3,e3,k3⟩:=k2.split.of;refine .inr ⟨g1,fun σ' H'=>∃F' ρ' fp',SI C F' H' σ' ρ' [] fp'/\Same F1 F'/\QcB C E (forL tgd ms (r.1.drop (i+1)) ρ') fun q=>Out rk C D F q.1 q.2,fun σ' H' z=>⟨_,by lia,rfl,hlt,z⟩,fun x H' y=>?_⟩;obtain⟨F3,I3,n3,r3⟩:=g2 x H' y;have s3:Same F1 F3:=s2.trans n3.f;refine gd F3 H' σ2 ρ2 [] fp2 x d ρ3 I3 r3 e3 _ fun σ' fp' I4 _=>⟨F3,ρ3,fp',I4,k3.split.mono fun q hq=>?_⟩;obtain⟨f,ρ4⟩:=q;have sF:Same F F3:=n1.f.trans s3
  cases f with
  |nx=>exact fun F5 H5 σ5 fp5 s5 I5=>⟨F5,ρ4,fp5,I5,s3.trans s5,hq⟩
  |ct=>exact fun F5 H5 σ5 fp5 s5 I5=>⟨F5,ρ4,fp5,I5,s3.trans s5,hq⟩
  |bk=>exact fun F5 H5 σ5 fp5 s5 I5=>hq F5 H5 σ5 fp5 (sF.trans s5) I5
  |rt d=>exact fun F5 H5 σ5 fp5 v s5 I5 f5=>hq F5 H5 σ5 fp5 v (sF.trans s5) I5 f5
 ·have e:i=r.1.length:=by lia
  subst e;rw[zv3] at k2;exact .inl ⟨it.stop rfl I2 s2,k2 F2 H2 σ2 fp2 (n1.f.trans s2) I2⟩
def whl (mt:MT)(mb:MS):Nat->MS
 |0=>fun _=>.no
 |n+1=>fun ρ=>(mt ρ).bind fun r=>if r.1=true then(mb r.2).bind fun q=>match q.1 with
   |.nx=>whl mt mb n q.2
   |.ct=>whl mt mb n q.2
   |.bk=>.ok (.nx,q.2)
   |.rt d=>.ok (.rt d,q.2)
  else .ok (.nx,r.2)
def QiB (n:Nat)(mt:MT)(mb:MS):MS:=whl mt mb n
theorem Qfs(hp:PassesOwn @3 X.A X.env X.xe)(hc:PT X c (tT C p E mt))(hb:PSs X body (tS rk C E ms)):PS X (.While c body [] pos) (tS rk C E (QiB n mt ms)):=Q8 (ps_while hp hc hb) fun D σ H ⟨F,ρ,fp,I,h⟩=>by
 refine⟨fun n σ' H'=>∃F' ρ' fp',SI C F' H' σ' ρ' [] fp'/\Same F F'/\QcB C E (whl mt ms n ρ') fun q=>Out rk C D F q.1 q.2,⟨n,F,ρ,fp,I,Same.refl F,h⟩,?_⟩;rintro n σ2 H2 ⟨F2,ρ2,fp2,I2,s2,k2⟩
 cases n with
 |zero=>exact k2.elim
 |succ n=>
  refine⟨F2,ρ2,[],fp2,I2,k2.split.run.mono fun r hr F3 H3 fp3 I3 n3=>?_⟩
  by_cases cc:r.1=true
  ·rw[if_pos cc] at hr ⊢;refine⟨fun σ' H'=>∃F' ρ' fp',SI C F' H' σ' ρ' [] fp'/\Same F F'/\QcB C E (whl mt ms n ρ') fun q=>Out rk C D F q.1 q.2,fun σ' H' z=>⟨n,zd1 n,z⟩,F3,r.2,fp3,I3,hr.split.mono fun q hq=>?_⟩;obtain⟨f,ρ4⟩:=q;have sF:Same F F3:=s2.trans n3.f
   cases f with
   |nx=>exact fun F5 H5 σ5 fp5 s5 I5=>⟨F5,ρ4,fp5,I5,sF.trans s5,hq⟩
   |ct=>exact fun F5 H5 σ5 fp5 s5 I5=>⟨F5,ρ4,fp5,I5,sF.trans s5,hq⟩
   |bk=>exact fun F5 H5 σ5 fp5 s5 I5=>hq F5 H5 σ5 fp5 (sF.trans s5) I5
   |rt d=>exact fun F5 H5 σ5 fp5 v s5 I5 f5=>hq F5 H5 σ5 fp5 v (sF.trans s5) I5 f5
  ·rw[if_neg cc] at hr ⊢;exact hr F3 H3 σ2 fp3 (s2.trans n3.f) I3
end
noncomputable def mkS (par:Bool)(d:D):Sl:=if par then .par d else .own d
noncomputable def YH (par:Bool)(ρ:Rho):List Nat->Option (List D)
 | []=>some []
 |i::is=>match ρ[i]? with
  |some (some (.own d))=>if par then none else(YH par ρ is).map (d::·)
  |some (some (.par d))=>if par then(YH par ρ is).map (d::·) else none
  |_=>none
noncomputable def YW (par:Bool)(ρ:Rho):List Nat->List D->Rho
 |i::is,d::ds=>(YW par ρ is ds).set i (some (mkS par d))
 |_,_=>ρ
theorem Qcg {par:Bool}{is:List Nat}(h:YH par ρ (i::is)=some ds):∃d r,ds=d::r/\ρ[i]? = some (some (mkS par d))/\YH par ρ is=some r:=by
 unfold YH at h
 split at h
 ·next d e=>
  cases par with
  |true=>cases h
  |false=>
   obtain⟨r,hr,rfl⟩:=z03.mp h;exact⟨d,r,rfl,e,hr⟩
 ·next d e=>
  cases par with
  |false=>cases h
  |true=>
   obtain⟨r,hr,rfl⟩:=z03.mp h;exact⟨d,r,rfl,e,hr⟩
 ·cases h
theorem QdE {par:Bool}{ρ:Rho}{i:Nat}{s:Option Sl}:∀{is:List Nat},i∉is->YH par (ρ.set i s) is=YH par ρ is
 | [],_=>rfl
 |j::is,h=>by
  have n:i≠j:=fun e=>h (e▸z09);unfold YH;rw[z95 n,QdE fun z=>h (z07 _ z)]
theorem QdF {par:Bool}{ρ:Rho}{i:Nat}{s:Option Sl}:∀{is:List Nat} {ds:List D},i∉is->YW par (ρ.set i s) is ds=(YW par ρ is ds).set i s
 | [],_,_=>by unfold YW;rfl
 |j::is,[],_=>by unfold YW;rfl
 |j::is,d::ds,h=>by
  have n:i≠j:=fun e=>h (e▸z09);unfold YW;rw[QdF fun z=>h (z07 _ z),List.set_comm _ _ (fun e=>n e)]
theorem QdG {par:Bool}{ρ:Rho}{i:Nat}:∀{is:List Nat} {ds:List D},i∉is->(YW par ρ is ds)[i]? = ρ[i]?
 | [],_,_=>by unfold YW;rfl
 |j::is,[],_=>by unfold YW;rfl
 |j::is,d::ds,h=>by
  have n:j≠i:=fun e=>h (e▸z09);unfold YW;rw[z95 n,QdG fun z=>h (z07 _ z)]
theorem QdH {par:Bool}{ρ:Rho}:∀{is:List Nat} {ds:List D},(YW par ρ is ds).length=ρ.length
 | [],_=>by unfold YW;rfl
 |j::is,[]=>by unfold YW;rfl
 |j::is,d::ds=>by unfold YW;rw[zp4,QdH]
inductive Sig (σ:L2.St):List Nat->List L2.V->Prop
 |nil:Sig σ [] []
 |cons {i:Nat} {v:L2.V} {is:List Nat} {vs:List L2.V} (h:σ[i]? = some @26) (r:Sig σ is vs):Sig σ (i::is) (v::vs)
def JM (C:Cn)(par:Bool)(a:Addr):Prop:=C.H₀ a=none\/(par=true/\a∈C.A)
section
variable {H:Hp}{par:Bool}
theorem SI.Qnr (I:SI C F H σ ρ τ fp):SI { C with Qez:=[]} F H σ ρ τ fp:=⟨I.sl,I.nd,I.ap,I.fh,I.f0,I.fn,I.kp,I.dm,fun _ _ z=>nomatch z⟩
theorem SI.Qlx (hp:C.Qez=[]):∀{is:List Nat} {ρ:Rho} {fp:List Addr} {ds:List D},is.Nodup->SI C F H σ ρ τ fp->YH par ρ is=some ds->∃vs f rest,Sig σ is vs/\OL C.K F H vs ds f/\fp.Perm (f++rest)/\(∀a∈f,JM C par a)/\
  ∀{F' H':Hp} {f':List Addr} {ds':List D},Same F F'->Same F' H'->(∀a∈rest,H' a=H a)->(∀b,H' b=none->H b=none)->(∀b o,C.H₀ b=some o->b∉C.A->H b=some o->H' b=some o)->(∀b o,F' b=some o->F b=some o\/Nw C.H₀ b o)->
   OL C.K F' H' vs ds' f'->(f'++rest).Nodup->(∀a∈f'++rest,F' a=none)->(∀a∈f',JM C par a)->SI C F' H' σ (YW par ρ is ds') τ (f'++rest)
 | [],ρ,fp,ds,_,I,h=>by
  cases h
  refine⟨[],[],fp,.nil,.nil,by simp,@5,fun{F' H' f' ds'} sf fh hk dm kp fn ol nd ap fr=>?_⟩;cases ol
  exact I.step sf fh hk (fun a ha=>ap a ha) fn kp dm
 |i::is,ρ,fp,ds,nd,I,h=>by
  obtain⟨ni,nd'⟩:=z39.mp nd;obtain⟨d,r,rfl,es,hr⟩:=Qcg h;obtain⟨x,f0,g0,Qly,ex,s1,pm,w0,w1,cl⟩:=I.cut es;have ndp:=pm.nodup_iff.mp I.nd;have QjA:∀v,(i,v)∈C.Qez->False:=fun v hv=>by rw[hp] at hv;exact nomatch hv
  obtain⟨v,fi,ev,hv,efi,wfi⟩:∃v fi,x=some v/\O C.K F H v d fi/\f0++g0=fi/\∀a∈fi,JM C par a:=by
   cases par with
   |false=>cases s1 with|own h=>exact⟨_,_,rfl,h,by simp,fun a ha=>.inl (w0 a ha)⟩
   |true=>cases s1 with|par h=>exact⟨_,_,rfl,h,rfl,fun a ha=>(w1 a ha).elim (fun z=>.inr ⟨rfl,z⟩) fun z=>.inl z⟩
  subst ev;have QoU:Qly.Nodup:=(z12.mp (z12.mp ndp).2.1).2.1;have I1:=cl (x':=some v) (s':=none) (f0':=[]) (g0':=[]) (Same.refl F) I.fh (fun _ _=>rfl) (fun _ z=>z) (fun _ _ _ _ z=>z) (fun _ _ z=>.inl z) .non QoU (fun a ha=>I.ap a (pm.mem_iff.mpr (by simp at ha;simp[ha]))) @5 @5 (fun v' hv'=>(QjA v' hv').elim);rw[QX ex] at I1;obtain⟨vs,f2,QeF,sg,ol,pm2,w2,cl2⟩:=SI.Qlx hp nd' I1 (by rw[QdE ni];exact hr);have QoV:Qly.Perm (f2++QeF):=pm2
  have pmf:fp.Perm ((fi++f2)++QeF):=by
   refine pm.trans ?_;rw[← z23,efi,z23];exact QoV.append_left fi
  refine⟨v::vs,fi++f2,QeF,.cons ex sg,.cons hv ol,pmf,fun a ha=>(z08.mp ha).elim (wfi a) (w2 a),fun{F' H' f' ds'} sf fh hk dm kp fn ol' nd2 ap fr=>?_⟩
  cases ol' with
  | @cons _ d' _ Qlz fa fb oa ob=>
   have nd3:(fa++(fb++QeF)).Nodup:=by rw[← z23];exact nd2
   have I2:=cl2 sf fh hk dm kp fn ob (z12.mp nd3).2.1 (fun a ha=>ap a (by rw[z23];exact z05 _ ha)) (fun a ha=>fr a (z05 _ ha));have li:i<ρ.length:=(z11.mp es).1;have en:(YW par (ρ.set i none) is Qlz)[i]? = some none:=by rw[QdG ni,z87 li]
   obtain⟨x3,f3,g3,Qet,ex3,s3,pm3,_,_,cl3⟩:=I2.cut en;cases s3
   have Qns:(fb++QeF).Perm Qet:=pm3;have nd4:(fa++Qet).Nodup:=(Qns.append_left fa).nodup_iff.mp nd3
   have ap4:∀a∈fa++Qet,F' a=none:=fun a ha=>ap a (by
    rw[z23];rcases z08.mp ha with z|z
    ·exact z13 _ z
    ·exact z05 _ (Qns.mem_iff.mpr z))
   have eρ:(YW par (ρ.set i none) is Qlz).set i (some (mkS par d'))=YW par ρ (i::is) (d'::Qlz):=by
    rw[QdF ni,y15];rfl
   have pmx:(fa++Qet).Perm ((fa++fb)++QeF):=by rw[z23];exact Qns.symm.append_left fa
   have fra:∀a∈fa,JM C par a:=fun a ha=>fr a (z13 _ ha);rw[← eρ]
   cases par with
   |false=>
    have J:=cl3 (F':=F') (H':=H') (x':=some v) (s':=some (.own d')) (f0':=fa) (g0':=[]) (Same.refl _) fh (fun _ _=>rfl) (fun _ z=>z) (fun _ _ _ _ z=>z) (fun _ _ z=>.inl z) (.own oa) nd4 ap4 (fun a ha=>(fra a ha).resolve_right fun z=>nomatch z.1) @5 (fun v' hv'=>(QjA v' hv').elim);rw[QX ex] at J;exact J.perm pmx
   |true=>
    have J:=cl3 (F':=F') (H':=H') (x':=some v) (s':=some (.par d')) (f0':=[]) (g0':=fa) (Same.refl _) fh (fun _ _=>rfl) (fun _ z=>z) (fun _ _ _ _ z=>z) (fun _ _ z=>.inl z) (.par oa) nd4 ap4 @5 (fun a ha=>(fra a ha).elim (fun z=>.inr z) fun z=>.inl z.2) (fun v' hv'=>(QjA v' hv').elim);rw[QX ex] at J;exact J.perm pmx
theorem SI.lend {is:List Nat}(nd:is.Nodup)(I:SI C F H σ ρ τ fp)(h:YH par ρ is=some ds):∃vs f rest,Sig σ is vs/\OL C.K F H vs ds f/\fp.Perm (f++rest)/\(∀a∈f,JM C par a)/\
  ∀{F' H':Hp} {f':List Addr} {ds':List D},Same F F'->Same F' H'->(∀a∈rest,H' a=H a)->(∀b,H' b=none->H b=none)->(∀b o,C.H₀ b=some o->b∉C.A->H b=some o->H' b=some o)->(∀b o,F' b=some o->F b=some o\/Nw C.H₀ b o)->
   OL C.K F' H' vs ds' f'->(f'++rest).Nodup->(∀a∈f'++rest,F' a=none)->(∀a∈f',JM C par a)->SI C F' H' σ (YW par ρ is ds') τ (f'++rest):=by
 obtain⟨vs,f,rest,sg,ol,pm,w,cl⟩:=SI.Qlx (C:={ C with Qez:=[]}) rfl nd I.Qnr h;refine⟨vs,f,rest,sg,ol,pm,w,fun{F' H' f' ds'} sf fh hk dm kp fn ol' nd2 ap fr=>?_⟩;have J:=cl sf fh hk dm kp fn ol' nd2 ap fr;refine⟨J.sl,J.nd,J.ap,J.fh,J.f0,J.fn,J.kp,J.dm,fun j v hj=>?_⟩;obtain⟨p1,d,p2⟩:=I.pr j v hj;refine⟨p1,?_⟩
 have len:ds'.length=is.length:=by
  have e1:vs.length=is.length:=by
   have:∀{is:List Nat} {vs:List L2.V},Sig σ is vs->vs.length=is.length:=by
    intro is vs s
    induction s with
    |nil=>rfl
    |cons _ _ ih=>rw[z31,z31,ih]
   exact this sg
  rw[← ol'.length,e1]
 have go:∀{is:List Nat} {ds ds':List D},is.Nodup->YH par ρ is=some ds->ds'.length=is.length->∃d,(YW par ρ is ds')[j]? = some (some (.par d)):=by
  intro is
  induction is with
  |nil=>intro ds ds' _ _ _;unfold YW;exact⟨d,p2⟩
  |cons i is ih=>
   intro ds ds' nd h l;obtain⟨ni,nd'⟩:=z39.mp nd;obtain⟨d0,r,rfl,es,hr⟩:=Qcg h
   cases ds' with
   |nil=>cases l
   |cons d' Qlz=>
    unfold YW
    by_cases e:i=j
    ·subst e;have li:i<(YW par ρ is Qlz).length:=by rw[QdH];exact(z11.mp es).1
     rw[z87 li];rw[p2] at es
     cases par with
     |false=>cases es
     |true=>exact⟨d',rfl⟩
    ·rw[z95 e];exact ih nd' hr (by simpa using l)
 exact go nd h len
end
inductive Fr where
 |ok (r:D) (outs:List D)
 |ex (c:Xc)
 |no
inductive AL (K:z02) (F H:Hp):List Bool->List L2.V->List D->List Addr->Prop
 |nil:AL K F H [] [] [] []
 |val {v:L2.V} {d:D} {io:List Bool} {vs:List L2.V} {ds:List D} {fp:List Addr} (h:R K F v d) (r:AL K F H io vs ds fp):AL K F H (false::io) (v::vs) (d::ds) fp
 |io {v:L2.V} {d:D} {io:List Bool} {vs:List L2.V} {ds:List D} {f fp:List Addr} (h:O K F H v d f) (r:AL K F H io vs ds fp):AL K F H (true::io) (v::vs) (d::ds) (f++fp)
def ioV:List Bool->List L2.V->List L2.V
 |true::io,v::vs=>v::ioV io vs
 |false::io,_::vs=>ioV io vs
 |_,_=>[]
def RkF (rk:Kd)(K:z02)(F H:Hp)(v:L2.V)(d:D)(f:List Addr):Prop:=match rk with
 |.V=>R K F v d/\f=[]
 |.O=>O K F H v d f
 |_=>False
def spF (K:z02)(io:List Bool)(rk:Kd)(m:List D->Fr):Sp:=fun vs H Q E=>∃F ds fp,AL K F H io vs ds fp/\fp.Nodup/\(∀a∈fp,F a=none)/\Same F H/\match m ds with
 |.ok r outs=>∀F' H' v fr fo,Same F F'->Same F' H'->(∀b o,F' b=some o->F b=some o\/Nw H b o)->(∀b o,H b=some o->b∉fp->H' b=some o)->(∀b,H' b=none->H b=none)->RkF rk K F' H' v r fr->OL K F' H' (ioV io vs) outs fo->
   (fr++fo).Nodup->(∀a∈fr++fo,F' a=none)->(∀a∈fr,H a=none)->(∀a∈fo,a∈fp\/H a=none)->Q v H'
 |.ex c=>∀H',(∀b o,H b=some o->b∉fp->H' b=some o)->(∀b,H' b=none->H b=none)->EX E c H'
 |.no=>False
theorem AL.len{H:Hp}(h:AL K F H io vs ds fp):vs.length=io.length:=by
 induction h with
 |nil=>rfl
 |val _ _ ih=>rw[z31,z31,ih]
 |io _ _ ih=>rw[z31,z31,ih]
def kdOf:Option Nat->Kd
 |none=>.V
 |some i=>.S i
noncomputable def QeL:List @17->List D->List D->List D
 |none::as,d::ds,l=>d::QeL as ds l
 |some _::as,_::ds,x::l=>x::QeL as ds l
 |_,_,_=>[]
def Jf (par:Bool)(as:List @17)(f:List D->Fr)(mr:MA):ME:=fun ρ=>(mr ρ).bind fun r=>(Rs.of (YH par r.2 (as.filterMap id))).bind fun dis=>match f (QeL as r.1 dis) with
 |.ok d outs=>.ok (d,YW par r.2 (as.filterMap id) outs)
 |.ex c=>if(as.filterMap id).isEmpty=true then .ex c r.2 else .no
 |.no=>.no
def Qft (X:Cx)(E:XE):Prop:=∀(pins:List @8) (σ:L2.St) (H:Hp) (s:Shared) (e:Value) (s':Shared),Inv X pins σ H s->CXe X.prog X.w X.stack H s (E σ) e s'->X.xe e s'
def Qfu (sp:Sp)(E:XE)(t:TA):TE:=fun σ H Q=>t σ H fun vs H1=>sp vs H1 Q (E σ)
section
variable {b:Expr}{sp:Sp}{t:TA}
theorem QjB {f:Addr}{H:Hp}{us:List Value}(F:FnOk X.prog X.w X.K X.mg X.base (CXe X.prog X.w) n f fd ps sp)(hr:Room n X.A)(hb:Binds X.K fd ps [])(hx:Qft X E)
  (I:Inv X pins σ H s) (r:Vals vs us) (h:sp vs H Q (E σ)):wpAny @3 X.A (call (.ref f) us) (EP X pins σ Q) X.xe s:=by
 have hl:(us++[]).length=ps.length:=by rw[z50,← r.length];exact F.len _ _ _ _ h
 have hb':=hb s us I.kIn hl;rw[z50] at hb';refine wpAny_call (zl4 (F.run X.A X.stack s H ⟨us,[]⟩ us vs Q (E σ) hr I.env0 hb' r h) fun r s' hq=>?_)
 cases r with
 |error e=>exact hx pins σ H s e s' I hq
 |ok fl=>
  cases fl with
  |ret u=>exact I.after hq
  |next=>exact zj1 hq
  |brk=>exact zj1 hq
  |cont=>exact zj1 hq
theorem QiC (D:VB X.prog X.w X.K X.mg X.base n x ps sp)(hx:Qft X E)(hr:Room n X.A)(ha:PA X (e::es) t)(hg:Gl X x:=by rfl)
  (hdb:@10=false:=by decide) (he:starEach (e::es) X.env=@16::starEach es X.env:=by rfl) (hpl:(backTo pos (starEach es X.env)).any (·.1)=false:=by rfl) :
  PE X (.Call (.Name x px) (e::es) [] pos) (Qfu sp E t):=by
 obtain⟨f,fd,F,hm,hk,hb⟩:=D.ex;intro pins s σ H Q I h;refine zn9 (ld_glob I hg hm ?_ hdb);refine PySem.W.callWith_K (h₀:=X.base) I.ok.mod.kin hk (thn (ha pos pins s σ H _ I h) fun us s1 hz=>?_) he hpl;obtain⟨vs,H1,I1,r,q⟩:=hz;refine⟨I1.kIn,?_⟩;exact QjB F hr hb hx I1 r q
theorem Qfv:∀{as:List @17} {vs:List L2.V} {ds:List D} {τ:List @22},tkL (as.map kdOf) vs ds τ=τ
 | [],_,_,_=>by unfold tkL;rfl
 |none::as,[],_,_=>by unfold tkL;rfl
 |none::as,_::_,[],_=>by unfold tkL;rfl
 |none::as,v::vs,d::ds,τ=>by
  show tkL (Kd.V::as.map kdOf) (v::vs) (d::ds) τ=τ;unfold tkL;exact Qfv
 |some i::as,[],_,_=>by unfold tkL;rfl
 |some i::as,_::_,[],_=>by unfold tkL;rfl
 |some i::as,v::vs,d::ds,τ=>by
  show tkL (Kd.S i::as.map kdOf) (v::vs) (d::ds) τ=τ;unfold tkL;exact Qfv
theorem Qnt {H:Hp}:∀{as:List @17} {vs:List L2.V} {ds:List D} {vi:List L2.V} {di:List D} {f:List Addr},FcL C F H fp σ (as.map kdOf) vs ds->Sig σ (as.filterMap id) vi->OL C.K F H vi di f->
  AL C.K F H (as.map (·.isSome)) vs (QeL as ds di) f/\ioV (as.map (·.isSome)) vs=vi:=by
 intro as
 induction as with
 |nil=>intro _ _ _ _ _ h1 h2 h3;cases h1;cases h2;cases h3;exact⟨.nil,rfl⟩
 |cons a as ih=>
  intro _ _ vi di f h1 sg ol
  cases a with
  |none=>
   have h1:FcL C F H fp σ (_::as.map kdOf) _ _:=h1
   cases h1 with
   |cons h r=>
    obtain⟨q1,q2⟩:=ih r sg ol;exact⟨.val h q1,q2⟩
  |some i=>
   have h1:FcL C F H fp σ (_::as.map kdOf) _ _:=h1;have sg2:Sig σ (i::as.filterMap id) vi:=sg
   cases h1 with
   |cons h r=>cases sg2 with
    |cons e sg3=>cases ol with
     |cons o ol=>
      obtain⟨q1,q2⟩:=ih r sg3 ol;have ev:=z26 (z26 (Eq.trans (Eq.symm (show σ[i]? = some (some _) from h)) e));subst ev;exact⟨.io o q1,congrArg _ q2⟩
theorem QhB {par:Bool}{f:List D->Fr}(nd:(as.filterMap id).Nodup)(hrk:rk=.V\/rk=.O)(hp:p=true->(as.filterMap id)=[]){H:Hp}(h:tX rk C (pa && p) E (Jf par as f mr) σ H Q) :
  Qfu (spF C.K (as.map (·.isSome)) rk f) E (tA (as.map kdOf) C pa E mr) σ H Q:=by
 obtain⟨F,ρ,τ,fp,I,h⟩:=h;refine⟨F,ρ,τ,fp,I,h.split.mono fun r hr F1 H1 fp1 vs I1 n1 f1=>?_⟩;rw[Qfv] at I1;obtain⟨dis,eg,h2⟩:=hr.split.of;obtain⟨vi,fl,rest,sg,ol,pm,w,cl⟩:=I1.lend nd eg;obtain⟨al,eio⟩:=Qnt f1 sg ol;have ndp:=pm.nodup_iff.mp I1.nd;have inl:∀a∈fl,a∈fp1:=fun a ha=>pm.mem_iff.mpr (z13 _ ha);have inr:∀a∈rest,a∈fp1:=fun a ha=>pm.mem_iff.mpr (z05 _ ha);have Qos:∀a∈rest,a∉fl:=fun a ha hf=>(z12.mp ndp).2.2 a hf a ha rfl;refine⟨F1,_,fl,al,(z12.mp ndp).1,fun a ha=>I1.ap a (inl a ha),I1.fh,?_⟩
 cases ef:f (QeL as r.1 dis) with
 |no=>rw[ef] at h2;exact h2
 |ex c=>
  rw[ef] at h2;dsimp only at h2 ⊢;intro H' kp' dm'
  by_cases hem:(as.filterMap id).isEmpty=true
  ·rw[if_pos hem] at h2;have e0:as.filterMap id=[]:=by simpa using hem
   have ef0:fl=[]:=by
    rw[e0] at sg;cases sg
    cases ol
    rfl
   subst ef0
   have J:SI C F1 H' σ r.2 τ fp1:=I1.step (Same.refl _) (fun b o e=>kp' b o (I1.fh b o e) @6) (fun a ha=>by
    obtain⟨o,e,_⟩:=I1.mem a ha
    rw[e,kp' a o e @6]) I1.ap (fun _ _ z=>.inl z) (fun b o _ _ e=>kp' b o e @6) dm'
   obtain⟨fp2,J2⟩:=J.drop;exact h2 F1 H' fp2 J2
  ·rw[if_neg hem] at h2;exact h2.elim
 |ok d outs=>
  rw[ef] at h2;dsimp only at h2 ⊢;intro F' H' v fr fo sF fh' fn' kp' dm' rf ol' nd' ap' frn fon;rw[eio] at ol'
  have hrest:∀a∈rest,H' a=H1 a:=fun a ha=>by
   obtain⟨o,e,_⟩:=I1.mem a (inr a ha);rw[e,kp' a o e (Qos a ha)]
  have QaO:∀a∈fp1,H1 a≠none:=fun a ha z=>by
   obtain⟨o,e,_⟩:=I1.mem a ha;rw[z] at e;cases e
  have apr:∀a∈rest,F' a=none:=fun a ha=>by
   cases e:F' a with
   |none=>rfl
   |some o=>
    rcases fn' a o e with z|z
    ·rw[I1.ap a (inr a ha)] at z;cases z
    ·obtain⟨o2,e2,m2⟩:=I1.mem a (inr a ha);exact(z.not (QaO a (inr a ha)) (fh' a o e) ((hrest a ha).trans e2) m2).elim
  have Qnu:=z12.mp nd'
  have Qnv:∀a∈fo,a∉rest:=fun a ha hr=>by
   rcases fon a ha with z|z
   ·exact Qos a hr z
   ·exact QaO a (inr a hr) z
  have J:=cl sF fh' hrest dm' (fun b o e n z=>kp' b o z fun hb=>by
   rcases w b hb with y|y
   ·rw[y] at e;cases e
   ·exact n y.2) (fun b o e=>(fn' b o e).imp id fun z=>z.up fun y=>I1.dm b y) ol' (z12.mpr ⟨Qnu.2.1,(z12.mp ndp).2.1,fun a ha b hb z=>Qnv a ha (z▸hb)⟩) (fun a ha=>(z08.mp ha).elim (fun z=>ap' a (z05 _ z)) (apr a)) (fun a ha=>(fon a ha).elim (w a) fun z=>.inl (I1.dm a z))
  have nxt:∀{fp':List Addr},(∀a∈rest,a∈fp')->(∀a,F1 a≠none->a∉fp')->Nx (pa && p) F H fp F' H' fp':=fun{fp'} sub nin=>by
   refine n1.trans (q:=p) ⟨sF,fun hpp b o e=>?_⟩
   have ef0:fl=[]:=by
    rw[hp hpp] at sg;cases sg
    cases ol
    rfl
   subst ef0
   by_cases hb:b∈fp1
   ·have hb':b∈rest:=by simpa using pm.mem_iff.mp hb
    rw[JF hb] at e;rw[JF (sub b hb')];exact kp' b o e @6
   ·rw[QF hb] at e;rw[QF (nin b (by rw[e];simp))];exact sF b o e
  rcases hrk with rfl|rfl
  ·obtain⟨rv,rfl⟩:=rf;refine h2 F' H' _ v J (nxt (fun a ha=>z05 _ ha) fun a hF hm=>?_) rv;rcases z08.mp hm with z|z
   ·rw[Same.free sF (ap' a z)] at hF;exact hF rfl
   ·rw[I1.ap a (inr a z)] at hF;exact hF rfl
  ·have Qfw:(fr++(fo++rest)).Nodup:=z12.mpr ⟨Qnu.1,J.nd,fun a ha b hb z=>by
    subst z;rcases z08.mp hb with y|y
    ·exact Qnu.2.2 a ha a y rfl
    ·exact QaO a (inr a y) (frn a ha)⟩
   refine h2 F' H' _ v (J.push rf (fun a ha=>I1.dm a (frn a ha)) (fun a ha=>ap' a (z13 _ ha)) Qfw) (nxt (fun a ha=>z05 _ (z05 _ ha)) fun a hF hm=>?_) z64;rcases z08.mp hm with z|z
   ·rw[Same.free sF (ap' a (z13 _ z))] at hF;exact hF rfl
   ·rcases z08.mp z with z|z
    ·rw[Same.free sF (ap' a (z05 _ z))] at hF;exact hF rfl
    ·rw[I1.ap a (inr a z)] at hF;exact hF rfl
theorem QcC {par:Bool}{f:List D->Fr}(D:VB X.prog X.w X.K X.mg X.base n x ps (spF C.K (as.map (·.isSome)) rk f))(hx:Qft X E)(hr:Room n X.A)(ha:PA X (e::es) (tA (as.map kdOf) C pa E mr))(hrk:rk=.V\/rk=.O:=by first|exact .inl rfl|exact .inr rfl)(nd:(as.filterMap id).Nodup:=by decide)(hp:p=true->as.filterMap id=[]:=by decide)(hg:Gl X x:=by rfl)
  (hdb:@10=false:=by decide) (he:starEach (e::es) X.env=@16::starEach es X.env:=by rfl) (hpl:(backTo pos (starEach es X.env)).any (·.1)=false:=by rfl) :
  PE X (.Call (.Name x px) (e::es) [] pos) (tX rk C (pa && p) E (Jf par as f mr)):=Qm (QiC D hx hr ha hg hdb he hpl) fun _ _ _ h=>QhB nd hrk hp h
theorem O.loB{H:Hp}{L:List Addr}(hl:∀b∈L,∀o,F b=some o->Mbl o):(∀v d fp,O K F H v d fp->O K (lo F L) H v d fp)/\∀v d fp,OL K F H v d fp->OL K (lo F L) H v d fp:=
 O.ind .sc (fun m h q=>.im m (h.lo m hl) q) .mt .nil .cons
theorem O.lo {K:z02}{F H:Hp}{L:List Addr}(hl:∀b∈L,∀o,F b=some o->Mbl o){v:L2.V}{d:D}{fp:List Addr}(h:O K F H v d fp):O K (lo F L) H v d fp:=(O.loB hl).1 _ _ _ h
def JG (rk:Kd)(f:List D->Fr)(mr:MA):ME:=fun ρ=>(mr ρ).bind fun r=>match f r.1 with
 |.ok d _=>match rk with
  |.V=>if d.imm=true then .ok (d,r.2) else .no
  |_=>.ok (d,r.2)
 |.ex c=>.ex c r.2
 |.no=>.no
theorem QlA {K:z02}{F H:Hp}:∀{vs:List L2.V} {ds:List D},RL K F vs ds->AL K F H (vs.map fun _=>false) vs ds []
 |_,_,.nil=>.nil
 |_,_,.cons h r=>.val h (QlA r)
theorem Qfx {f:List D->Fr}(hio:io.all (!·)=true)(hl:io.length=ks.length)(hrk:rk=.V\/rk=.O)(ok:rdL ks=true){H:Hp}(h:tX rk C pa E (JG rk f mr) σ H Q):Qfu (spF C.K io rk f) E (tA ks C pa E mr) σ H Q:=by
 obtain⟨F,ρ,τ,fp,I,h⟩:=h;refine⟨F,ρ,τ,fp,I,h.split.mono fun r hr F1 H1 fp1 vs I1 n1 f1=>?_⟩;rw[Je ok] at I1;have rl:=f1.rd I1 ok
 have hlen:vs.length=ks.length:=by
  have:∀{ks:List Kd} {vs:List L2.V} {ds:List D},FcL C F1 H1 fp1 σ ks vs ds->vs.length=ks.length:=by
   intro ks vs ds z
   induction z with
   |nil=>rfl
   |cons _ _ ih=>rw[z31,z31,ih]
  exact this f1
 have eio:io=vs.map fun _=>false:=by
  have:∀{io:List Bool} {n:Nat},io.all (!·)=true->io.length=n->io=zd4 n false:=by
   intro io
   induction io with
   |nil=>intro n _ e;subst e;rfl
   |cons x io ih=>
    intro n h e;subst e;rw[List.all_cons,z76] at h;rw[z31,List.replicate_succ,← ih h.2 rfl];have:x=false:=by simpa using h.1
    rw[this]
  rw[this hio (hl.trans hlen.symm)];exact(List.map_const' ..).symm
 have hmt:∀{F':Hp},Same (jn F1 H1 fp1) F'->∀b∈fp1,∀o,F' b=some o->Mbl o:=fun{F'} s b hb o e=>by
  obtain⟨o',e',z⟩:=I1.mem b hb;have q:=s b o' (by rw[JF hb];exact e');rw[e] at q;cases q;exact z
 refine⟨jn F1 H1 fp1,r.1,[],by rw[eio];exact QlA rl,zm6,@5,JD I1.fh,?_⟩
 cases ef:f r.1 with
 |no=>rw[ef] at hr;exact hr
 |ex c=>
  rw[ef] at hr;dsimp only at hr ⊢;intro H' kp' dm'
  have J:SI C F1 H' σ r.2 τ fp1:=I1.step (Same.refl _) (fun b o e=>kp' b o (I1.fh b o e) @6) (fun a ha=>by
   obtain⟨o,e,_⟩:=I1.mem a ha
   rw[e,kp' a o e @6]) I1.ap (fun _ _ z=>.inl z) (fun b o _ _ e=>kp' b o e @6) dm'
  obtain⟨fp2,J2⟩:=J.drop;exact hr F1 H' fp2 J2
 |ok d outs=>
  rw[ef] at hr;dsimp only at hr ⊢;intro F' H' v fr fo sF fh' fn' kp' dm' rf ol' nd' ap' frn fon
  have sN:Same F1 (lo F' fp1):=fun b o e=>by
   have nb:b∉fp1:=fun z=>by rw[I1.ap b z] at e;cases e
   rw[YM nb];exact sF b o (by rw[QF nb];exact e)
  have J:SI C (lo F' fp1) H' σ r.2 τ fp1:=by
   refine I1.step sN (lo_le.trans fh') (fun a ha=>?_) (fun a ha=>Qhx ha) (fun b o e=>?_) (fun b o _ _ e=>kp' b o e @6) dm'
   ·obtain⟨o,e,_⟩:=I1.mem a ha;rw[e,kp' a o e @6]
   ·have nb:b∉fp1:=fun z=>by rw[Qhx z] at e;cases e
    rw[YM nb] at e;rcases fn' b o e with z|z
    ·rw[QF nb] at z;exact .inl z
    ·exact .inr (z.up fun y=>I1.dm b y)
  have QlB:∀{fp':List Addr},(∀a∈fp1,a∈fp')->(∀a,F1 a≠none->a∉fp')->Nx pa F H fp (lo F' fp1) H' fp':=fun{fp'} sub nin=>by
   refine(n1.trans (q:=true) ⟨sN,fun _ b o e=>?_⟩).weak fun z=>by simp[z]
   by_cases hb:b∈fp1
   ·rw[JF hb] at e;rw[JF (sub b hb)];exact kp' b o e @6
   ·rw[QF hb] at e;rw[QF (nin b (by rw[e];simp))];exact sN b o e
  have QaO:∀a∈fp1,H1 a≠none:=fun a ha z=>by
   obtain⟨o,e,_⟩:=I1.mem a ha;rw[z] at e;cases e
  rcases hrk with rfl|rfl
  ·obtain⟨rv,rfl⟩:=rf;dsimp only at hr
   by_cases hi:d.imm=true
   ·rw[if_pos hi] at hr;exact hr _ H' fp1 v J (QlB (fun a ha=>ha) fun a hF hm=>hF (I1.ap a hm)) (R.lo (hmt sF) rv hi)
   ·rw[if_neg hi] at hr;exact hr.elim
  ·dsimp only at hr
   have Qfw:(fr++fp1).Nodup:=z12.mpr ⟨(z12.mp nd').1,I1.nd,fun a ha b hb z=>by
    subst z;exact QaO a hb (frn a ha)⟩
   refine hr _ H' _ v (J.push (O.lo (hmt sF) rf) (fun a ha=>I1.dm a (frn a ha)) (fun a ha=>lo_le.free (ap' a (z13 _ ha))) Qfw) (QlB (fun a ha=>z05 _ ha) fun a hF hm=>?_) z64;rcases z08.mp hm with z|z
   ·exact hF (I1.fh.free (frn a z))
   ·exact hF (I1.ap a z)
theorem JH{f:List D->Fr}(D:VB X.prog X.w X.K X.mg X.base n x ps (spF C.K io rk f))(hx:Qft X E)(hr:Room n X.A)(ha:PA X (e::es) (tA ks C pa E mr))(hio:io.all (!·)=true:=by rfl)(hl:io.length=ks.length:=by rfl)(hrk:rk=.V\/rk=.O:=by first|exact .inl rfl|exact .inr rfl)(ok:rdL ks=true:=by rfl)(hg:Gl X x:=by rfl)
  (hdb:@10=false:=by decide) (he:starEach (e::es) X.env=@16::starEach es X.env:=by rfl) (hpl:(backTo pos (starEach es X.env)).any (·.1)=false:=by rfl) :
  PE X (.Call (.Name x px) (e::es) [] pos) (tX rk C pa E (JG rk f mr)):=Qm (QiC D hx hr ha hg hdb he hpl) fun _ _ _ h=>Qfx hio hl hrk ok h
end
def slot0 (b:Bool)(d:D):Option Sl:=some (if b then .par d else .frz d)
def QlC (io:List Bool)(n:Nat)(ds:List D):Rho:=zd2 slot0 io ds++zd4 (n - io.length) none
noncomputable def outs:List Bool->Rho->Option (List D)
 |true::io,some (.par d)::ρ=>(outs io ρ).map (d::·)
 |false::io,some (.par _)::ρ=>none
 |false::io,_::ρ=>outs io ρ
 | [],some (.par _)::ρ=>none
 | [],_::ρ=>outs [] ρ
 | [],[]=>some []
 |_,_=>none
def YX (io:List Bool)(n:Nat)(mb:MS)(ds:List D):Fr:=match mb (QlC io n ds) with
 |.ok (.rt d,ρ)=>match outs io ρ with
  |some os=>.ok d os
  |none=>.no
 |.ok (.nx,ρ)=>match outs io ρ with
  |some os=>.ok .non os
  |none=>.no
 |_=>.no
def QC:Nat->List Bool->List L2.V->List (Nat×L2.V)
 |j,true::io,v::vs=>(j,v)::QC (j+1) io vs
 |j,false::io,_::vs=>QC (j+1) io vs
 |_,_,_=>[]
section
variable {H:Hp}
theorem QhC {N:List Str}{r:Nat}(al:AL K F H io vs ds fp):SL K F H (vs.map some++zd4 r none) (zd2 slot0 io ds++zd4 r none) [] fp:=by
 induction al with
 |nil=>
  induction r with
  |zero=>exact .nil
  |succ r ih=>exact .cons (f0:=[]) (g0:=[]) .non ih
 |val h al ih=>exact .cons (f0:=[]) (g0:=[]) (.frz h) ih
 |io h al ih=>exact .cons (f0:=[]) (.par h) ih
theorem QhD{j0:Nat}{r:Nat}(al:AL K F H io vs ds fp):(j,v)∈QC j0 io vs->∃i,j=j0+i/\(vs.map some++zd4 r (none:Option L2.V))[i]? = some @26/\∃d,(zd2 slot0 io ds++zd4 r none)[i]? = some (some (.par d)):=by
 induction al generalizing j0 with
 |nil=>intro hm;unfold QC at hm;exact nomatch hm
 |val h al ih=>
  intro hm;unfold QC at hm;obtain⟨i,e,h1,d,h2⟩:=ih hm;exact⟨i+1,by lia,h1,d,h2⟩
 | @io _ _ _ d0 _ _ _ h al ih=>
  intro hm;unfold QC at hm;rcases z21.mp hm with e|hm
  ·cases e
   exact⟨0,rfl,rfl,_,rfl⟩
  ·obtain⟨i,e,h1,d,h2⟩:=ih hm;exact⟨i+1,by lia,h1,d,h2⟩
theorem Qfy:∀{vs:List L2.V} {j0 j:Nat} {u:L2.V},(j,u)∈QC j0 io vs->j0<=j:=by
 induction io with
 |nil=>intro vs j0 j u z;unfold QC at z;exact nomatch z
 |cons b io ih=>
  intro vs j0 j u z
  cases vs with
  |nil=>cases b<;>(unfold QC at z;exact nomatch z)
  |cons w vs=>
   cases b with
   |false=>unfold QC at z;exact Nat.le_of_succ_le (ih z)
   |true=>
    unfold QC at z;rcases z21.mp z with e|z
    ·cases e;exact z15 _
    ·exact Nat.le_of_succ_le (ih z)
theorem Qfz{j0:Nat}{x:Option L2.V}(hp:∀j u,(j,u)∈QC j0 (b::io) (v::vs)->∃i,j=j0+i/\(x::σ)[i]? = some (some u))(j:Nat)(u:L2.V)(z:(j,u)∈QC (j0+1) io vs):∃i,j=j0+1+i/\σ[i]? = some (some u):=by
 obtain⟨i,e,q⟩:=hp j u (by cases b<;>(unfold QC;first|exact z|exact z07 _ z));have lb:=Qfy z
 cases i with
 |zero=>lia
 |succ i=>exact⟨i,by lia,q⟩
theorem QfA{g:List Addr}(sl:SL K F H σ ρ f g):∀{io:List Bool} {vs:List L2.V} {os:List D} {j0:Nat},outs io ρ=some os->vs.length=io.length->(∀j v,(j,v)∈QC j0 io vs->∃i,j=j0+i/\σ[i]? = some @26)->OL K F H (ioV io vs) os g:=by
 induction sl with
 |nil=>
  intro io vs os j0 h l hp
  cases io with
  |nil=>
   cases vs with
   |nil=>unfold outs at h;cases h;unfold ioV;exact .nil
   |cons=>cases l
  |cons b io=>cases b<;>(unfold outs at h;cases h)
 |cons s r ih=>
  intro io vs os j0 h l hp
  cases io with
  |nil=>
   cases vs with
   |cons=>cases l
   |nil=>
    have hn:∀{σ:L2.St} (j:Nat) (v:L2.V),(j,v)∈QC j0 [] []->∃i,j=j0+i/\σ[i]? = some @26:=fun j v z=>by unfold QC at z;exact nomatch z
    cases s with
    |par _=>unfold outs at h;cases h
    |non=>unfold outs at h;exact ih (vs:=[]) h rfl hn
    |frz _=>unfold outs at h;exact ih (vs:=[]) h rfl hn
    |own _=>unfold outs at h;exact ih (vs:=[]) h rfl hn
  |cons b io=>
   cases vs with
   |nil=>cases l
   |cons v vs=>
    have l':vs.length=io.length:=Nat.succ.inj l;have tl:=Qfz hp
    cases b with
    |false=>
     unfold ioV
     cases s with
     |par _=>unfold outs at h;cases h
     |non=>unfold outs at h;exact ih h l' tl
     |frz _=>unfold outs at h;exact ih h l' tl
     |own _=>unfold outs at h;exact ih h l' tl
    |true=>
     obtain⟨i0,e0,q0⟩:=hp j0 v (by unfold QC;exact z09);have:i0=0:=by lia
     subst this;unfold ioV
     cases s with
     |non=>unfold outs at h;cases h
     |frz _=>unfold outs at h;cases h
     |own _=>unfold outs at h;cases h
     |par o=>
      unfold outs at h;obtain⟨r',hr',rfl⟩:=z03.mp h;have ev:v=_:=(z26 (z26 q0)).symm;subst ev;exact .cons o (ih hr' l' tl)
end
theorem QjC{mb:MS}(hrk:rk=.V\/rk=.O){H:Hp}{E:XK}(h:spF K io rk (YX io N.length mb) vs H Q E) :
  ∃C:Cn,C.K=K/\tS rk C (fun _ _ _ _=>False) mb { nx:=fun _ H'=>Q .non H',rt:=Q } (L2.start N vs) H:=by
 obtain⟨F,ds,fp,al,nd,ap,fh,h⟩:=h;have hl:=al.len
 let C:Cn:=⟨K,H,F,fp,QC 0 io vs⟩
 refine⟨C,rfl,?_⟩;have est:L2.start N vs=vs.map some++zd4 (N.length - io.length) none:=by unfold L2.start;rw[hl]
 have I:SI C F H (L2.start N vs) (QlC io N.length ds) [] fp:=by
  rw[est];refine⟨⟨[],fp,[],QhC (N:=N) al,.nil,by simp,@5,@5,fun a ha=>.inl ha⟩,nd,ap,fh,Same.refl F,fun b o e=>.inl e,fun b o e _=>e,fun b e=>e,fun j v hj=>?_⟩;obtain⟨i,e,h1,d,h2⟩:=QhD (r:=N.length - io.length) al hj;have e':j=i:=by lia
  subst e';exact⟨h1,d,h2⟩
 refine⟨F,_,fp,I,?_⟩;unfold YX at h
 -- what is handed back
 have fin:∀{os:List D} {ρ:Rho} {d:D} {F' H':Hp} {σ':L2.St} {fp':List Addr} {v:L2.V},outs io ρ=some os->SI C F' H' σ' ρ (rk.tk v d []) fp'->rk.fc C F' H' fp' σ' v d->(∀F' H' v fr fo,Same F F'->Same F' H'->(∀b o,F' b=some o->F b=some o\/Nw H b o)->(∀b o,H b=some o->b∉fp->H' b=some o)->(∀b,H' b=none->H b=none)->RkF rk K F' H' v d fr->OL K F' H' (ioV io vs) os fo->
   (fr++fo).Nodup->(∀a∈fr++fo,F' a=none)->(∀a∈fr,H a=none)->(∀a∈fo,a∈fp\/H a=none)->Q v H')->Q v H':=fun{os ρ d F' H' σ' fp' v} eo J fc q=>by
  obtain⟨f1,g1,t1,sl,ol,pm,w1,w2,w3⟩:=J.sl;have og:=QfA (j0:=0) (vs:=vs) sl eo hl (fun j u hj=>⟨j,by lia,(J.pr j u hj).1⟩);have ndp:=pm.nodup_iff.mp J.nd;have inn:∀a,a∈f1\/a∈g1\/a∈t1->a∈fp':=fun a z=>pm.mem_iff.mpr (by simpa using z);rcases hrk with rfl|rfl
  ·exact q F' H' v [] g1 J.f0 J.fh J.fn J.kp J.dm ⟨fc,rfl⟩ og (z12.mp (z12.mp ndp).2.1).1 (fun a ha=>J.ap a (inn a (.inr (.inl ha)))) @5 w3
  ·cases ol with
   | @cons _ _ _ _ ta tb oa ob=>
    cases ob
    have e1:ta++[]=ta:=z50 ta;refine q F' H' v ta g1 J.f0 J.fh J.fn J.kp J.dm oa og ?_ (fun a ha=>J.ap a (inn a (by rw[e1];exact(z08.mp ha).elim (fun z=>.inr (.inr z)) fun z=>.inr (.inl z)))) (fun a ha=>w2 a (by rw[e1];exact ha)) w3;have n2:=(z12.mp ndp).2.1;rw[e1] at n2;exact(zf8).nodup_iff.mp n2
 cases eb:mb (QlC io N.length ds) with
 |no=>rw[eb] at h;exact h.elim
 |ex c ρ=>
  rw[eb] at h;exact h.elim
 |ok q=>
  obtain⟨fl,ρ⟩:=q;rw[eb] at h
  cases fl with
  |bk=>exact h.elim
  |ct=>exact h.elim
  |nx=>
   dsimp only at h
   cases eo:outs io ρ with
   |none=>rw[eo] at h;exact h.elim
   |some os=>
    rw[eo] at h;refine fun F' H' σ' fp' s' J=>?_;rcases hrk with rfl|rfl
    ·exact fin (d:=.non) (v:=.non) eo J (.sc rfl) h
    ·exact fin (d:=.non) (v:=.non) eo (J.push (f:=[]) (.sc rfl) @5 @5 (by simpa using J.nd)) z64 h
  |rt d=>
   dsimp only at h
   cases eo:outs io ρ with
   |none=>rw[eo] at h;exact h.elim
   |some os=>
    rw[eo] at h;exact fun F' H' σ' fp' v s' J fc=>fin eo J fc h
theorem fnT {P:Program}{w:World}{mg:Str->Option Value}{base:Heap}{qual:Str}{st:Stmt}{f:Addr}{k:Nat}{mb:MS}(Fn:Fun K x qual st f fd)(S:FnScope N ps (defScope st))(hio:io.length=ps.length)(hrk:rk=.V\/rk=.O)
  (hbody:∀(cdv:Value) (A:Around) (outer:List Env) (s:Shared) (H:Hp) (E:XK) (C:Cn),C.K=K->Room k (A.deeper (zj4 qual (defScope st) s.heap.objs.size f cdv))->A.handled=none->
   PSs (cxOf (CXe P w) P w K mg base N qual (defScope st) f cdv A outer s H E) (defBody st) (tS rk C (fun _ _ _ _=>False) mb)):FnOk P w K mg base (CXe P w) (k+1) f fd ps (spF K io rk (YX io N.length mb)):=by
 refine Fn.okE S (fun vs H Q E h=>?_) (fun cdv A outer s H vs Q E hr hd h=>?_)
 ·obtain⟨F,ds,fp,al,_⟩:=h;rw[al.len,hio]
 ·obtain⟨C,hC,q⟩:=QjC hrk h;exact⟨_,hbody cdv A outer s H E C hC hr hd,q⟩
inductive Cp where
 |me|fz (i:Nat)|io (i:Nat)
def Cp.ix:Cp->Option Nat
 |.me=>none
 |.fz i=>some i
 |.io i=>some i
def Cp.is:Cp->Option Nat
 |.io i=>some i
 |_=>none
noncomputable def Qat (ρ:Rho):List Cp->List D->Option Rho
 | [],_=>some []
 |.me::cs,di=>(Qat ρ cs di).map (none::·)
 |.fz i::cs,di=>match ρ[i]? with
  |some (some (.frz d))=>(Qat ρ cs di).map (some (.frz d)::·)
  |some none=>(Qat ρ cs di).map (none::·)
  |_=>none
 |.io _::cs,d::di=>(Qat ρ cs di).map (some (.par d)::·)
 |.io _::_,[]=>none
def ioB:List Cp->List Bool:=List.map fun c=>match c with
 |.io _=>true
 |_=>false
def Qab (j:Nat)(tc:MT)(te:ME):List D->Rho->List D->Rs (List D×Rho)
 | [],ρ,acc=>.ok (acc,ρ)
 |d::ds,ρ,acc=>(Rs.of (YF ρ j d)).bind fun ρ0=>(tc ρ0).bind fun c=>if c.1=true then(te c.2).bind fun r=>if acc.length<z24 then Qab j tc te ds (r.2.set j none) (acc++[r.1]) else .no
  else Qab j tc te ds (c.2.set j none) acc
def JN (par:Bool)(cs:List Cp)(j:Nat)(mi:MA)(tc:MT)(te:ME):ME:=fun ρ=>(mi ρ).bind fun r=>(Rs.of (YH par r.2 (cs.filterMap Cp.is))).bind fun di=>(Rs.of (Qat r.2 cs di)).bind fun ρb=>
 match Qab j tc te r.1 ρb [] with
 |.ok q=>(Rs.of (outs (ioB cs) q.2)).bind fun os=>.ok (.lst q.1,YW par r.2 (cs.filterMap Cp.is) os)
 |_=>.no
abbrev EF:XE:=fun _ _ _ _=>False
theorem Qs:Qft X EF:=fun pins σ H s e s' I h=>by
 obtain⟨_,_,_,_,_,_,_,_,_,_,k⟩:=h;exact k.elim
theorem Run.ef{r:Rs α}{a:α}{k:α->Prop}(e:r=.ok a)(h:k a):Run C EF σ r k:=by rw[e];exact h
section
variable {H:Hp}
theorem QlD(r:OL K F H vs ds f):∃f',OL K F H vs.reverse ds.reverse f'/\f.Perm f':=
 ((O.ind (P:=fun v d f=>O K F H v d f) (Q:=fun vs ds f=>OL K F H vs ds f/\∃f',OL K F H vs.reverse ds.reverse f'/\f.Perm f') .sc (fun m h q=>.im m h q.1) (fun h q=>.mt h q.1) ⟨.nil,[],.nil,.refl _⟩ (fun{_ _ _ _ f g} h q=>⟨.cons h q.1,by
  obtain⟨f',o,p⟩:=q.2;refine⟨f'++(f++[]),by rw[y54,y54];exact o.app (.cons h .nil),?_⟩;rw[z50]
  exact(zf8).trans (p.append_right f)⟩)).2 _ _ _ r).2
theorem QfB {α β:Type}:∀{l:List α} {m:List β},l.length=m.length->(l.zip m).map (·.1)=l
 | [],[],_=>rfl
 | [],_::_,h=>by cases h
 |_::_,[],h=>by cases h
 |a::l,b::m,h=>by rw[z88,z28,QfB (by simpa using h)]
theorem QfC {α β:Type}:∀{l:List α} {m:List β},l.length=m.length->(l.zip m).map (·.2)=m
 | [],[],_=>rfl
 | [],_::_,h=>by cases h
 |_::_,[],h=>by cases h
 |a::l,b::m,h=>by rw[z88,z28,QfC (by simpa using h)]
theorem Qch {C:Cn}{σ:L2.St}{ρ:Rho}{τ:List @22}{fp:List Addr}(I:SI C F H σ ρ τ fp)(hK:C.K=K):∀{cs:List Cp} {vi:List L2.V} {di:List D} {f:List Addr} {ρb:Rho},Sig σ (cs.filterMap Cp.is) vi->OL K F H vi di f->Qat ρ cs di=some ρb->SL K F H (QM (cs.map Cp.ix) σ) ρb [] f
 | [],_,_,_,_,.nil,.nil,h=>by unfold Qat at h;cases h;exact .nil
 |.me::cs,vi,di,f,ρb,sg,ol,h=>by
  unfold Qat at h;obtain⟨r,hr,rfl⟩:=z03.mp h;exact .cons (f0:=[]) (g0:=[]) .non (Qch I hK sg ol hr)
 |.fz i::cs,vi,di,f,ρb,sg,ol,h=>by
  unfold Qat at h
  split at h
  ·next d e=>
   obtain⟨r,hr,rfl⟩:=z03.mp h;obtain⟨x,f0,g0,rest,ex,s1,_⟩:=I.cut e
   cases s1 with
   | @frz v _ hd=>
    have e2:QM ((Cp.fz i::cs).map Cp.ix) σ=some v::QM (cs.map Cp.ix) σ:=by
     unfold QM;rw[z28,z28];show((some i).bind fun i=>(σ[i]?).join)::_=_;rw[z72,ex];rfl
    rw[e2];exact .cons (f0:=[]) (g0:=[]) (.frz (hK▸hd)) (Qch I hK sg ol hr)
  ·obtain⟨r,hr,rfl⟩:=z03.mp h;exact .cons (f0:=[]) (g0:=[]) .non (Qch I hK sg ol hr)
  ·cases h
 |.io i::cs,_,_,_,ρb,.cons (v:=v) e sg,.cons o ol,h=>by
  unfold Qat at h;obtain⟨r,hr,rfl⟩:=z03.mp h
  have e2:QM ((Cp.io i::cs).map Cp.ix) σ=some v::QM (cs.map Cp.ix) σ:=by
   unfold QM;rw[z28,z28];show((some i).bind fun i=>(σ[i]?).join)::_=_;rw[z72,e];rfl
  rw[e2];exact .cons (f0:=[]) (.par o) (Qch I hK sg ol hr)
def vsB:List Cp->List L2.V->List L2.V
 |.io _::cs,v::vi=>v::vsB cs vi
 |.io _::cs,[]=>.non::vsB cs []
 |_::cs,vi=>.non::vsB cs vi
 | [],_=>[]
theorem Qau:∀{cs:List Cp} {vi:List L2.V},(vsB cs vi).length=(ioB cs).length
 | [],_=>by unfold vsB;rfl
 |.me::cs,vi=>by unfold vsB;rw[z31,Qau];rfl
 |.fz i::cs,vi=>by unfold vsB;rw[z31,Qau];rfl
 |.io i::cs,[]=>by unfold vsB;rw[z31,Qau];rfl
 |.io i::cs,v::vi=>by unfold vsB;rw[z31,Qau];rfl
theorem Qbn {σ:L2.St}:∀{cs:List Cp} {vi:List L2.V},Sig σ (cs.filterMap Cp.is) vi->ioV (ioB cs) (vsB cs vi)=vi
 | [],_,.nil=>rfl
 |.me::cs,vi,sg=>Qbn (cs:=cs) sg
 |.fz i::cs,vi,sg=>Qbn (cs:=cs) sg
 |.io i::cs,_,.cons e sg=>congrArg _ (Qbn (cs:=cs) sg)
theorem QfD {σ:L2.St}:∀{cs:List Cp} {vi:List L2.V} {j0 j:Nat} {v:L2.V},Sig σ (cs.filterMap Cp.is) vi->(j,v)∈QC j0 (ioB cs) (vsB cs vi)->∃i,j=j0+i/\(QM (cs.map Cp.ix) σ)[i]? = some @26
 | [],_,j0,j,v,.nil,h=>by
  have:(j,v)∈([]:List (Nat×L2.V)):=h;exact nomatch this
 |.me::cs,vi,j0,j,v,sg,h=>by
  obtain⟨i,e,q⟩:=QfD (cs:=cs) (j0:=j0+1) sg h;exact⟨i+1,by lia,by unfold QM at q ⊢;simpa using q⟩
 |.fz _::cs,vi,j0,j,v,sg,h=>by
  obtain⟨i,e,q⟩:=QfD (cs:=cs) (j0:=j0+1) sg h;exact⟨i+1,by lia,by unfold QM at q ⊢;simpa using q⟩
 |.io i0::cs,_,j0,j,v,.cons (v:=v0) e0 sg,h=>by
  rcases z21.mp (show(j,v)∈(j0,v0)::QC (j0+1) (ioB cs) (vsB cs _) from h) with e|h
  ·cases e
   refine⟨0,rfl,?_⟩;unfold QM;rw[z28,z28];show some ((some i0).bind fun i=>(σ[i]?).join)=_;rw[z72,e0];rfl
  ·obtain⟨i,e,q⟩:=QfD (cs:=cs) (j0:=j0+1) sg h;exact⟨i+1,by lia,by unfold QM at q ⊢;simpa using q⟩
theorem Qa1 {σ:L2.St}{ρ:Rho}:∀{cs:List Cp} {vi:List L2.V} {di:List D} {ρb:Rho} {j0 j:Nat} {v:L2.V},Qat ρ cs di=some ρb->(j,v)∈QC j0 (ioB cs) (vsB cs vi)->∃i,j=j0+i/\∃d,ρb[i]? = some (some (.par d))
 | [],_,_,_,j0,j,v,_,h=>by
  have:(j,v)∈([]:List (Nat×L2.V)):=h;exact nomatch this
 |.me::cs,vi,di,ρb,j0,j,v,hc,h=>by
  unfold Qat at hc;obtain⟨r,hr,rfl⟩:=z03.mp hc;obtain⟨i,e,d,q⟩:=Qa1 (σ:=σ) (cs:=cs) (vi:=vi) (j0:=j0+1) hr h;exact⟨i+1,by lia,d,by simpa using q⟩
 |.fz i0::cs,vi,di,ρb,j0,j,v,hc,h=>by
  unfold Qat at hc
  split at hc
  ·obtain⟨r,hr,rfl⟩:=z03.mp hc;obtain⟨i,e,d,q⟩:=Qa1 (σ:=σ) (cs:=cs) (vi:=vi) (j0:=j0+1) hr h;exact⟨i+1,by lia,d,by simpa using q⟩
  ·obtain⟨r,hr,rfl⟩:=z03.mp hc;obtain⟨i,e,d,q⟩:=Qa1 (σ:=σ) (cs:=cs) (vi:=vi) (j0:=j0+1) hr h;exact⟨i+1,by lia,d,by simpa using q⟩
  ·cases hc
 |.io i0::cs,vi,[],ρb,j0,j,v,hc,h=>by unfold Qat at hc;cases hc
 |.io i0::cs,vi,d0::di,ρb,j0,j,v,hc,h=>by
  unfold Qat at hc;obtain⟨r,hr,rfl⟩:=z03.mp hc
  cases vi with
  |nil=>
   rcases z21.mp (show(j,v)∈(j0,V.non)::QC (j0+1) (ioB cs) (vsB cs []) from h) with e|h
   ·cases e;exact⟨0,rfl,d0,rfl⟩
   ·obtain⟨i,e,d,q⟩:=Qa1 (σ:=σ) (cs:=cs) (vi:=[]) (j0:=j0+1) hr h;exact⟨i+1,by lia,d,by simpa using q⟩
  |cons v0 vi=>
   rcases z21.mp (show(j,v)∈(j0,v0)::QC (j0+1) (ioB cs) (vsB cs vi) from h) with e|h
   ·cases e;exact⟨0,rfl,d0,rfl⟩
   ·obtain⟨i,e,d,q⟩:=Qa1 (σ:=σ) (cs:=cs) (vi:=vi) (j0:=j0+1) hr h;exact⟨i+1,by lia,d,by simpa using q⟩
end
section
variable {pc pe:Bool}{me:ME}{mi:MA}{elt:Expr}{ifs:List Expr}{scope:Scope}{cs:List Cp}{par:Bool}
theorem SI.clr {H:Hp}{y:Option L2.V}{x:L2.V}(I:SI C F H (σ.set j y) ρ τ fp)(hj:σ[j]? = some none)(np:∀v,(j,v)∉C.Qez):∃fp',SI C F H σ (ρ.set j none) τ fp':=by
 have lj:j<σ.length:=(z11.mp hj).1;have lr:j<ρ.length:=by rw[← I.len,zp4];exact lj
 obtain⟨z,f0,g0,rest,ez,s1,pm,w0,w1,cl⟩:=I.cut (i:=j) (s:=ρ[j]) (z06 lr);have nd:=pm.nodup_iff.mp I.nd;have q:=cl (x':=none) (s':=none) (f0':=[]) (g0':=[]) (Same.refl F) I.fh (fun _ _=>rfl) (fun _ z=>z) (fun _ _ _ _ z=>z) (fun _ _ z=>.inl z) .non (z12.mp (z12.mp nd).2.1).2.1 (fun a ha=>I.ap a (pm.mem_iff.mpr (by simp at ha;simp[ha]))) @5 @5 (fun v hv=>(np v hv).elim);rw[y15,QX hj] at q;exact⟨_,q⟩
def exT (K:z02)(p:Bool)(m:MT):TT:=fun σ H Q=>∃Cb:Cn,Cb.K=K/\tT Cb p EF m σ H Q
def exX (k:Kd)(K:z02)(p:Bool)(m:ME):TE:=fun σ H Q=>∃Cb:Cn,Cb.K=K/\tX k Cb p EF m σ H Q
def QfE:MT:=fun ρ=>.ok (true,ρ)
theorem Qav {X:Cx}:PIf X [] (exT K true QfE):=fun pins s σ H Q I ⟨Cb,_,F,ρ,τ,fp,J,h⟩=>Qi2 pins s σ H Q I (h F H fp J .refl)
theorem QfF {X:Cx}(h:∀Cb:Cn,Cb.K=K->PT X c (tT Cb p EF mt)):PIf X [c] (exT K p mt):=fun pins s σ H Q I ⟨Cb,hk,q⟩=>Qi3 (h Cb hk) pins s σ H Q I q
theorem QaP {X:Cx}(h:∀Cb:Cn,Cb.K=K->PE X e (tX k Cb p EF m)):PE X e (exX k K p m):=fun pins s σ H Q I ⟨Cb,hk,q⟩=>h Cb hk pins s σ H Q I q
structure ItC (C:Cn)(F:Hp)(ds:List D)(J:It):Prop where
 go:∀{F' H:Hp} {σ:L2.St} {ρ:Rho} {τ:List @22} {fp:List Addr} {i:Nat} {d:D},SI C F' H σ ρ τ fp->Same F F'->ds[i]? = some d->J.go i H/\∀x H',J.yld i H x H'->∃F'',SI C F'' H' σ ρ τ fp/\Nx true F' H fp F'' H' fp/\R C.K F'' x d
 stop:∀{F' H:Hp} {σ:L2.St} {ρ:Rho} {τ:List @22} {fp:List Addr},SI C F' H σ ρ τ fp->Same F F'->J.stop ds.length H
def YZ (tg:D->Rho->Option Rho)(cl:Rho->Rho)(tc:MT)(te:ME):List D->Rho->List D->Rs (List D×Rho)
 | [],ρ,acc=>.ok (acc,ρ)
 |d::ds,ρ,acc=>(Rs.of (tg d ρ)).bind fun ρ0=>(tc ρ0).bind fun c=>if c.1=true then(te c.2).bind fun r=>if acc.length<z24 then YZ tg cl tc te ds (cl r.2) (acc++[r.1]) else .no
  else YZ tg cl tc te ds (cl c.2) acc
def Qot (K:z02)(cs:List Cp)(blk:L2.St)(tg:D->Rho->Option Rho)(cl:Rho->Rho)(g:TG):Prop:=
 ∀{Cb:Cn} {F H:Hp} {ρ ρ':Rho} {τ:List @22} {fp:List Addr} {x:L2.V} {d:D},Cb.K=K->(∀k:Nat,cs[k]? = some Cp.me->∀v,(k,v)∉Cb.Qez)->SI Cb F H blk ρ τ fp->R Cb.K F x d->tg d ρ=some ρ'->
  ∃σ' fp',SI Cb F H σ' ρ' τ fp'/\Ext blk σ'/\(∀Q:L2.St->Hp->Prop,Q σ' H->g x blk H Q)/\∀{F'' H'':Hp} {ρ'':Rho} {τ'':List @22} {QoW:List Addr},SI Cb F'' H'' σ' ρ'' τ'' QoW->∃fp7,SI Cb F'' H'' blk (cl ρ'') τ'' fp7
def QhE (par:Bool)(cs:List Cp)(tg:D->Rho->Option Rho)(cl:Rho->Rho)(mt:MT)(me:ME)(r:List D×Rho):Rs (D×Rho):=(Rs.of (YH par r.2 (cs.filterMap Cp.is))).bind fun di=>(Rs.of (Qat r.2 cs di)).bind fun ρb=>
 match YZ tg cl mt me r.1 ρb [] with
 |.ok q=>(Rs.of (outs (ioB cs) q.2)).bind fun os=>.ok (.lst q.1,YW par r.2 (cs.filterMap Cp.is) os)
 |_=>.no
theorem QhF {tg:D->Rho->Option Rho}{cz:Rho->Rho}{g:TG}(hK:C.K=X.K)(nd:(cs.filterMap Cp.is).Nodup)(hp:p=true->cs.filterMap Cp.is=[]){H:Hp}{ρ1:Rho}{ds0:List D}{J:It}
  (tgk:Qot X.K cs (QM (cs.map Cp.ix) σ) tg cz g) (I1:SI C F1 H1 σ ρ1 τ fp1) (n1:Nx pa F H fp F1 H1 fp1) (its:∀Cb:Cn,Cb.K=C.K->Cb.H₀=H1->Cb.F₀=F1->(cs.filterMap Cp.is=[]->Cb.A=[])->ItC Cb F1 ds0 J)
  (hr:Run C E σ (QhE par cs tg cz mt me (ds0,ρ1)) fun r=>∀F' H' fp' v,SI C F' H' σ r.2 (Kd.O.tk v r.1 τ) fp'->Nx (pa && p) F H fp F' H' fp'->Kd.O.fc C F' H' fp' σ v r.1->Q v H') :
  ∃W:Nat->Nat->List V->Hp->Prop,(∃m,W 0 m [] H1)/\∀i m ys H,W i m ys H->
   (J.stop i H/\∀D,H D=none->Q (.ref D) (upd H D (.lst ys)))\/
   (J.go i H/\∃N:List V->Hp->Prop,(∀ys' H',N ys' H'->∃m',m' < m/\W (i+1) m' ys' H')/\∀x H',J.yld i H x H'->
    g x (QM (cs.map Cp.ix) σ) H' fun τ' H1'=>Ext (QM (cs.map Cp.ix) σ) τ'/\exT X.K pc mt τ' H1' fun c H2=>if c=true then exX .O X.K pe me τ' H2 fun y H3=>ys.length<z24/\N (ys++[y]) H3 else N ys H2):=by
 unfold QhE at hr;dsimp only at hr;obtain⟨di,eg,h2⟩:=hr.split.of;obtain⟨ρb,eb,h3⟩:=h2.split.of;obtain⟨vi,f,rest,sg,ol,pm,w,cl⟩:=I1.lend nd eg;have ndp:=pm.nodup_iff.mp I1.nd;have inl:∀a∈f,a∈fp1:=fun a ha=>pm.mem_iff.mpr (z13 _ ha);have inr:∀a∈rest,a∈fp1:=fun a ha=>pm.mem_iff.mpr (z05 _ ha);have dis:∀a∈rest,a∉f:=fun a ha hf=>(z12.mp ndp).2.2 a hf a ha rfl
 cases ec:YZ tg cz mt me ds0 ρb [] with
 |no=>rw[ec] at h3;exact h3.elim
 |ex c q=>rw[ec] at h3;exact h3.elim
 |ok q=>
  obtain⟨QjD,ρF⟩:=q;rw[ec] at h3;obtain⟨os,eo,h4⟩:=h3.split.of
  let Cb:Cn:=⟨X.K,H1,F1,f,QC 0 (ioB cs) (vsB cs vi)⟩
  have it:ItC Cb F1 ds0 J:=its Cb hK.symm rfl rfl fun q=>by
   rw[q] at sg;cases sg
   cases ol
   rfl
  have IB:SI Cb F1 H1 (QM (cs.map Cp.ix) σ) ρb [] f:=by
   refine⟨⟨[],f,[],Qch I1 hK sg (hK▸ol) eb,.nil,by simp,@5,@5,fun a ha=>.inl ha⟩,(z12.mp ndp).1,fun a ha=>I1.ap a (inl a ha),I1.fh,Same.refl _,fun b o e=>.inl e,fun b o e _=>e,fun b e=>e,fun i v hi=>?_⟩;obtain⟨i1,e1,q1⟩:=QfD sg hi;obtain⟨i2,e2,d2,q2⟩:=Qa1 (σ:=σ) eb hi;have:i1=i:=by lia
   subst this;have:i2=i1:=by lia
   subst this;exact⟨q1,d2,q2⟩
  have hbk:∀k:Nat,cs[k]? = some Cp.me->(QM (cs.map Cp.ix) σ)[k]? = some none:=fun k hk=>by
   unfold QM;rw[z17,z17,hk];rfl
  have npk:∀k:Nat,cs[k]? = some Cp.me->∀v,(k,v)∉Cb.Qez:=fun k hk v hv=>by
   obtain⟨i1,e1,q1⟩:=QfD sg hv;have:i1=k:=by lia
   subst this;rw[hbk i1 hk] at q1;cases q1
  refine⟨fun i mm ys H'=>mm=ds0.length - i/\i<=ds0.length/\∃F' ρ' acc fp',SI Cb F' H' (QM (cs.map Cp.ix) σ) ρ' ((ys.zip acc).reverse) fp'/\ys.length=acc.length/\Same F1 F'/\YZ tg cz mt me (ds0.drop i) ρ' acc=.ok (QjD,ρF),⟨ds0.length,by simp,z58 _,F1,ρb,[],f,IB,rfl,Same.refl _,by rw[zm8];exact ec⟩,?_⟩;rintro i mm ys H2 ⟨rfl,hi2,F2,ρ2,acc,fp2,I2,lya,s2,k2⟩
  by_cases hlt:i<ds0.length
  ·obtain⟨d,ed⟩:∃d,ds0[i]? = some d:=⟨ds0[i],z06 hlt⟩;obtain⟨g1,g2⟩:=it.go I2 s2 ed
   have edr:ds0.drop i=d::ds0.drop (i+1):=by
    rw[zb2 hlt];have:ds0[i]=d:=by rw[z06 hlt] at ed;exact z26 ed
    rw[this]
   rw[edr] at k2;unfold YZ at k2
   cases es:tg d ρ2 with
   |none=>rw[es] at k2;cases k2
   |some ρ3=>
    rw[es] at k2
    change (mt ρ3).bind _=_ at k2
    refine .inr ⟨g1,fun ys' H'=>∃F' ρ' acc fp',SI Cb F' H' (QM (cs.map Cp.ix) σ) ρ' ((ys'.zip acc).reverse) fp'/\ys'.length=acc.length/\Same F1 F'/\YZ tg cz mt me (ds0.drop (i+1)) ρ' acc=.ok (QjD,ρF),fun ys' H' z=>⟨_,by lia,rfl,hlt,z⟩,fun x0 H' y=>?_⟩;obtain⟨F3,I3,n3,r3⟩:=g2 x0 H' y;have s3:Same F1 F3:=s2.trans n3.f;obtain⟨σ',fp4,I4,ex,gq,clr⟩:=tgk (Cb:=Cb) rfl npk I3 r3 es;refine gq _ ⟨ex,?_⟩
    cases et:mt ρ3 with
    |no=>rw[et] at k2;cases k2
    |ex c q=>rw[et] at k2;cases k2
    |ok q=>
     obtain⟨c,ρ5⟩:=q;rw[et] at k2
     change (if c=true then _ else _)=_ at k2
     refine⟨Cb,rfl,F3,ρ3,_,fp4,I4,Run.ef et fun F5 H5 fp5 I5 n5=>?_⟩;have s5:Same F1 F5:=s3.trans n5.f
     change (if c=true then _ else _)
     by_cases hc:c=true
     ·rw[if_pos hc] at k2 ⊢
      cases ee:me ρ5 with
      |no=>rw[ee] at k2;cases k2
      |ex c q=>rw[ee] at k2;cases k2
      |ok q=>
       obtain⟨d6,ρ6⟩:=q;rw[ee] at k2
       change (if acc.length<z24 then _ else _)=_ at k2
       refine⟨Cb,rfl,F5,ρ5,_,fp5,I5,Run.ef ee fun F6 H6 fp6 v6 I6 n6 _=>?_⟩
       by_cases hz:acc.length<z24
       ·rw[if_pos hz] at k2;refine⟨by rw[lya];exact hz,?_⟩;obtain⟨fp7,I7⟩:=clr I6;refine⟨F6,_,acc++[d6],fp7,?_,by simp[lya],s5.trans n6.f,k2⟩
        have ez:((ys++[v6]).zip (acc++[d6])).reverse=(v6,d6)::(ys.zip acc).reverse:=by
         rw[zp1 lya,zq9];rfl
        rw[ez];exact I7
       ·rw[if_neg hz] at k2;cases k2
     ·rw[if_neg hc] at k2 ⊢;obtain⟨fp7,I7⟩:=clr I5;exact⟨F5,_,acc,fp7,I7,lya,s5,k2⟩
  ·have e:i=ds0.length:=by lia
   subst e;rw[zv3] at k2;unfold YZ at k2;cases k2
   refine .inl ⟨it.stop I2 s2,fun Dd hD=>?_⟩;obtain⟨f1,g1,t1,sl,ot,pm2,w1,w2,w3⟩:=I2.sl;have og:=QfA (j0:=0) (vs:=vsB cs vi) sl eo Qau (fun i u hi=>⟨i,by lia,(I2.pr i u hi).1⟩);rw[Qbn sg] at og
   have ot':OL Cb.K F2 H2 ys.reverse QjD.reverse t1:=by
    have e1:((ys.zip QjD).reverse).map (·.1)=ys.reverse:=by rw[zu9,QfB lya]
    have e2:((ys.zip QjD).reverse).map (·.2)=QjD.reverse:=by rw[zu9,QfC lya]
    rw[e1,e2] at ot;exact ot
   obtain⟨t2,oy,pt⟩:=QlD ot';rw[y26,y26] at oy;have Qnw:=pm2.nodup_iff.mp I2.nd;have inn:∀a,a∈f1\/a∈g1\/a∈t1->a∈fp2:=fun a z=>pm2.mem_iff.mpr (by simpa using z)
   have QhG:∀a∈fp2,H2 a≠none:=fun a ha z=>by
    obtain⟨o,e,_⟩:=I2.mem a ha;rw[z] at e;cases e
   have QaO:∀a∈fp1,H1 a≠none:=fun a ha z=>by
    obtain⟨o,e,_⟩:=I1.mem a ha;rw[z] at e;cases e
   have nD:∀a,H2 a≠none->a≠Dd:=fun a h z=>h (z▸hD);have hkeep:∀b o,H1 b=some o->b∉f->H2 b=some o:=fun b o e n=>I2.kp b o e n;have H1D:H1 Dd=none:=I2.dm Dd hD;have fD:F2 Dd=none:=I2.fh.free hD;have sH:Same H2 (upd H2 Dd (.lst ys)):=Same.upd hD
   have og':OL C.K F2 (upd H2 Dd (.lst ys)) vi os g1:=by
    rw[hK];exact og.keep (Same.refl _) fun a ha=>upd_ne (nD a (QhG a (inn a (.inr (.inl ha)))))
   have oy':OL C.K F2 (upd H2 Dd (.lst ys)) ys QjD t2:=by
    rw[hK];exact oy.keep (Same.refl _) fun a ha=>upd_ne (nD a (QhG a (inn a (.inr (.inr (pt.mem_iff.mpr ha))))))
   have Qou:∀a,(a∈g1\/a∈t1)->a∉rest:=fun a z hr=>by
    rcases z with z|z
    ·rcases w3 a z with y|y
     ·exact dis a hr y
     ·exact QaO a (inr a hr) y
    ·exact QaO a (inr a hr) (w2 a z)
   have ndg:g1.Nodup:=(z12.mp (z12.mp Qnw).2.1).1;have ndt:t2.Nodup:=pt.nodup_iff.mp (z12.mp (z12.mp Qnw).2.1).2.1;have Qnx:∀a∈g1,a∉t2:=fun a ha hb=>(z12.mp (z12.mp Qnw).2.1).2.2 a ha a (pt.mem_iff.mpr hb) rfl
   have apr:∀a∈rest,F2 a=none:=fun a ha=>by
    cases e:F2 a with
    |none=>rfl
    |some o=>
     rcases I2.fn a o e with z|z
     ·exact absurd (show F1 a=some o from z) (by rw[I1.ap a (inr a ha)];simp)
     ·obtain⟨o2,e2,m2⟩:=I1.mem a (inr a ha);exact(z.not (show Cb.H₀ a≠none from QaO a (inr a ha)) (I2.fh a o e) (hkeep a o2 e2 (dis a ha)) m2).elim
   have JJ:=cl (F':=F2) (H':=upd H2 Dd (.lst ys)) s2 (I2.fh.trans sH) (fun a ha=>by
    obtain⟨o,e,_⟩:=I1.mem a (inr a ha);rw[e]
    exact sH a o (hkeep a o e (dis a ha))) (fun b e=>I2.dm b (sH.free e)) (fun b o e n z=>sH b o (hkeep b o z fun hb=>by
     rcases w b hb with y|y
     ·rw[y] at e;cases e
     ·exact n y.2)) (fun b o e=>(I2.fn b o e).imp id fun z=>z.up fun y=>I1.dm b y) og' (z12.mpr ⟨ndg,(z12.mp ndp).2.1,fun a ha b hb z=>Qou a (.inl ha) (z▸hb)⟩) (fun a ha=>(z08.mp ha).elim (fun z=>I2.ap a (inn a (.inr (.inl z)))) (apr a)) (fun a ha=>(w3 a ha).elim (w a) fun z=>.inl (I1.dm a z))
   have Qfw:((Dd::t2)++(g1++rest)).Nodup:=by
    refine z12.mpr ⟨z39.mpr ⟨fun z=>QhG Dd (inn Dd (.inr (.inr (pt.mem_iff.mpr z)))) hD,ndt⟩,JJ.nd,fun a ha b hb z=>?_⟩;subst z;rcases z21.mp ha with rfl|ha
    ·rcases z08.mp hb with y|y
     ·exact QhG _ (inn _ (.inr (.inl y))) hD
     ·exact QaO _ (inr _ y) H1D
    ·rcases z08.mp hb with y|y
     ·exact Qnx a y ha
     ·exact Qou a (.inr (pt.mem_iff.mpr ha)) y
   refine h4 F2 _ _ (.ref Dd) (JJ.push (.mt (t:=.lst) (show upd H2 Dd (.lst ys) Dd=some (.lst ys) from upd_same) oy') (fun a ha=>?_) (fun a ha=>?_) Qfw) (n1.trans (q:=p) ⟨s2,fun hpp b o e=>?_⟩) z64
   ·rcases z21.mp ha with rfl|ha
    ·exact I1.dm _ H1D
    ·exact I1.dm a (w2 a (pt.mem_iff.mpr ha))
   ·rcases z21.mp ha with rfl|ha
    ·exact fD
    ·exact I2.ap a (inn a (.inr (.inr (pt.mem_iff.mpr ha))))
   ·have ef0:f=[]:=by
     rw[hp hpp] at sg;cases sg
     cases ol
     rfl
    subst ef0
    by_cases hb:b∈fp1
    ·have hb':b∈rest:=by simpa using pm.mem_iff.mp hb
     rw[JF hb] at e;rw[JF (z05 _ (z05 _ hb'))];exact sH b o (hkeep b o e @6)
    ·rw[QF hb] at e;have e2:=s2 b o e;rw[QF]
     ·exact e2
     ·intro hm;rcases z08.mp hm with y|y
      ·rcases z21.mp y with rfl|y
       ·rw[fD] at e2;cases e2
       ·rw[I2.ap b (inn b (.inr (.inr (pt.mem_iff.mpr y))))] at e2;cases e2
      ·rcases z08.mp y with y|y
       ·rw[I2.ap b (inn b (.inr (.inl y)))] at e2;cases e2
       ·rw[I1.ap b (inr b y)] at e;cases e
theorem Qbo {j:Nat}{tc:MT}{te:ME}:∀{ds:List D} {ρ:Rho} {acc:List D},Qab j tc te ds ρ acc=YZ (fun d ρ=>YF ρ j d) (fun ρ=>ρ.set j none) tc te ds ρ acc
 | [],ρ,acc=>rfl
 |d::ds,ρ,acc=>by
  unfold Qab YZ
  congr 1;funext ρ0;congr 1;funext c
  split
  ·congr 1;funext r;split
   ·exact Qbo
   ·rfl
  ·exact Qbo
theorem QjE:JN par cs j mi mt me ρ=(mi ρ).bind (QhE par cs (fun d ρ=>YF ρ j d) (fun ρ=>ρ.set j none) mt me):=by
 unfold JN QhE;simp only[Qbo]
theorem QjF(hj:cs[j]? = some .me):Qot X.K cs (QM (cs.map Cp.ix) σ) (fun d ρ=>YF ρ j d) (fun ρ=>ρ.set j none) (gName j):=fun{Cb F H ρ ρ' τ fp x d} hK np I r e=>by
 have hb:(QM (cs.map Cp.ix) σ)[j]? = some none:=by
  unfold QM;rw[z17,z17,hj];rfl
 obtain⟨fp',I2,_⟩:=SI.YF I r e;refine⟨_,fp',I2,⟨zp4 ..,fun i u e=>?_⟩,fun Q q=>q,fun I3=>SI.clr (x:=x) I3 hb (np j hj)⟩
 by_cases q:j=i
 ·subst q;rw[hb] at e;cases e
 ·rw[z95 q];exact e
theorem Qci (hK:C.K=X.K)(hj:cs[j]? = some .me)(nd:(cs.filterMap Cp.is).Nodup)(hp:p=true->cs.filterMap Cp.is=[]){H:Hp}(h:tX .O C (pa && p) E (JN par cs j mi mt me) σ H Q):Qdk (tI C pa E mi) (cs.map Cp.ix) (gName j) (exT X.K pc mt) (exX .O X.K pe me) σ H Q:=by
 obtain⟨F,ρ,τ,fp,I,h⟩:=h;rw[QjE] at h;exact⟨F,ρ,τ,fp,I,h.split.mono fun r hr F1 H1 fp1 J I1 n1 it=>QhF hK nd hp (QjF hj) I1 n1 (fun Cb h1 _ _ _=>⟨fun I s e=>h1▸it.go h1 I s e,fun I s=>it.stop h1 I s⟩) hr⟩
theorem JP (hK:C.K=X.K)(hc:X.calm=true)(B:Blk X scope N (cs.map Cp.ix))(hjN:N[j]? = some x)(hj:cs[j]? = some .me)(hx:scope.names.lookup x=some .local)(hi:PI X (.Name x px) iter (tI C pa E mi))
  (ht:∀pins c s H ex,PIf (X.blk scope N pins c s H ex) ifs (exT X.K pc mt)) (he:∀pins c s H ex,PE (X.blk scope N pins c s H ex) elt (exX .O X.K pe me)) (nd:(cs.filterMap Cp.is).Nodup:=by decide) (hp:p=true->cs.filterMap Cp.is=[]:=by decide)
  (hs:∀x,foldedSetIterable iter X.env x=pure x:=by intro _;rfl):PE X (.ListComp elt [⟨.Name x px,iter,ifs,0⟩] scope pos) (tX .O C (pa && p) E (JN par cs j mi mt me)):=
 Qm (Qhi hc B hi (fun _ _ _ _ _=>pg_name (i:=j) B.nd hjN (.inl (lookup_relabel_local hx)) (.inr (lookup_relabel_local hx))) ht he hs) fun _ _ _ h=>Qci hK hj nd hp h
end
instance {i j:Int}:Decidable (CMul i j):=by unfold CMul;infer_instance
instance {i j:Int}:Decidable (CPow i j):=by unfold CPow;infer_instance
instance {i j:Int}:Decidable (QcH i j):=by unfold QcH;infer_instance
noncomputable def gI0 (f:Int->Int->D):D->D->Option D
 |.int i,.int j=>some (f i j)
 |_,_=>none
noncomputable def gIc (c:Int->Int->Prop)[∀i j,Decidable (c i j)](f:Int->Int->D):D->D->Option D
 |.int i,.int j=>if c i j then some (f i j) else none
 |_,_=>none
section
theorem Qcj {f:Int->Int->D}{g:Int->Int->V}(h:∀i j,(f i j).sc=some (g i j)):OpD K (rI0 g) (gI0 f):=fun H v u d e res r q eg=>by
 unfold gI0 at eg
 split at eg
 ·next i j=>
  cases eg
  obtain rfl:=r.Qu (w:=.int i) rfl;obtain rfl:=q.Qu (w:=.int j) rfl;exact⟨_,h i j,fun Q hq=>⟨i,j,rfl,rfl,hq⟩⟩
 ·cases eg
theorem QhH {c:Int->Int->Prop}[∀i j,Decidable (c i j)]{f:Int->Int->D}{g:Int->Int->V}(h:∀i j,(f i j).sc=some (g i j)):OpD K (rI c g) (gIc c f):=fun H v u d e res r q eg=>by
 unfold gIc at eg
 split at eg
 ·next i j=>
  by_cases cc:c i j
  ·rw[if_pos cc] at eg;cases eg;obtain rfl:=r.Qu (w:=.int i) rfl;obtain rfl:=q.Qu (w:=.int j) rfl;exact⟨_,h i j,fun Q hq=>⟨i,j,rfl,rfl,cc,hq⟩⟩
  ·rw[if_neg cc] at eg;cases eg
 ·cases eg
def QdI:=gI0 fun i j=>.int (i+j)
def gSub:=gI0 fun i j=>.int (i - j)
def Qov:=gIc CMul fun i j=>.int (i * j)
def Qow:=gIc QcH fun i j=>.int (i / j)
def QhI:=gIc (fun _ j=>0<j) fun i j=>.int (i % j)
def Qox:=gIc CPow fun i j=>.int (i ^ j.toNat)
def gLt:=gI0 fun i j=>.bl (decide (i<j))
def gLe:=gI0 fun i j=>.bl (decide (i<=j))
def gGe:=gI0 fun i j=>.bl (decide (j<=i))
theorem YJ:OpD K (rI0 fun i j=>.int (i+j)) QdI:=Qcj fun _ _=>rfl
theorem QfG:OpD K (rI0 fun i j=>.int (i - j)) gSub:=Qcj fun _ _=>rfl
theorem QiD:OpD K (rI CMul fun i j=>.int (i * j)) Qov:=QhH fun _ _=>rfl
theorem QoX:OpD K (rI QcH fun i j=>.int (i / j)) Qow:=QhH fun _ _=>rfl
theorem QiE:OpD K (rI (fun _ j=>0<j) fun i j=>.int (i % j)) QhI:=QhH fun _ _=>rfl
theorem QoY:OpD K (rI CPow fun i j=>.int (i ^ j.toNat)) Qox:=QhH fun _ _=>rfl
theorem dLt:OpD K (rI0 fun i j=>.bl (decide (i<j))) gLt:=Qcj fun _ _=>rfl
theorem dLe:OpD K (rI0 fun i j=>.bl (decide (i<=j))) gLe:=Qcj fun _ _=>rfl
theorem dGe:OpD K (rI0 fun i j=>.bl (decide (j<=i))) gGe:=Qcj fun _ _=>rfl
end
def V2 (f:D->D->Option Bool):List D->List D->Option Bool
 |x::xs,y::ys=>(f x y).bind fun a=>(V2 f xs ys).map fun b=>a && b
 |_,_=>some true
def eqS (x y:V):Option Bool:=if(scal x y && flatV x && flatV y)=true then some (decide (x=y)) else none
def Qny (f:D->D->Option Bool):D->D->Option Bool
 |.nd .lst xs,.nd .lst ys=>if xs.length=ys.length then V2 f xs ys else some false
 |.nd .tup xs,.nd .tup ys=>if xs.length=ys.length then V2 f xs ys else(V2 f xs ys).map fun _=>false
 |d,e=>d.sc.bind fun x=>e.sc.bind fun y=>eqS x y
noncomputable def eqb:Nat->D->D->Option Bool
 |0=>fun _ _=>none
 |n+1=>Qny (eqb n)
theorem J9{e:D}(h:eqb (n+1) d e=some b) :
  (∃xs ys,d=.nd .lst xs/\e=.nd .lst ys/\((xs.length=ys.length/\V2 (eqb n) xs ys=some b)\/(xs.length≠ys.length/\b=false)))\/
  (∃xs ys c,d=.nd .tup xs/\e=.nd .tup ys/\V2 (eqb n) xs ys=some c/\b=(c && xs.length == ys.length))\/
  (∃x y,d.sc=some x/\e.sc=some y/\eqS x y=some b):=by
 replace h:Qny (eqb n) d e=some b:=h
 unfold Qny at h
 split at h
 ·next xs ys=>
  left
  refine⟨xs,ys,rfl,rfl,?_⟩
  by_cases c:xs.length=ys.length
  ·rw[if_pos c] at h;exact .inl ⟨c,h⟩
  ·rw[if_neg c] at h;cases h;exact .inr ⟨c,rfl⟩
 ·next xs ys=>
  right;left
  by_cases c:xs.length=ys.length
  ·rw[if_pos c] at h;exact⟨xs,ys,b,rfl,rfl,h,by simp[c]⟩
  ·rw[if_neg c] at h;obtain⟨c',h1,h2⟩:=z03.mp h;exact⟨xs,ys,c',rfl,rfl,h1,by simp[c,h2.symm]⟩
 ·right;right
  obtain⟨x,h1,h2⟩:=z27.mp h;obtain⟨y,h3,h4⟩:=z27.mp h2;exact⟨x,y,h1,h3,h4⟩
theorem QdJ {f:D->D->Option Bool}:∀{xs ys:List D} {b:Bool},V2 f xs ys=some b->∃e:Nat->Bool,(∀j x y,xs[j]? = some x->ys[j]? = some y->f x y=some (e j))/\(z41 (min xs.length ys.length)).all e=b
 | [],ys,b,h=>by
  unfold V2 at h;cases h;exact⟨fun _=>true,fun j x y h=>by simp at h,by simp⟩
 |x::xs,[],b,h=>by
  unfold V2 at h;cases h;exact⟨fun _=>true,fun j x y _ h=>by simp at h,by simp⟩
 |x::xs,y::ys,b,h=>by
  unfold V2 at h;obtain⟨a,h1,h2⟩:=z27.mp h;obtain⟨c,h3,rfl⟩:=z03.mp h2;obtain⟨e,k1,k2⟩:=QdJ h3;refine⟨fun j=>match j with|0=>a|j+1=>e j,fun j x' y' hx hy=>?_,?_⟩
  ·cases j with
   |zero=>simp at hx hy;subst hx hy;exact h1
   |succ j=>exact k1 j x' y' (by simpa using hx) (by simpa using hy)
  ·have em:min (x::xs).length (y::ys).length=min xs.length ys.length+1:=by simp
   rw[em,zi8,List.all_cons,List.all_map,← k2];rfl
theorem RL.Qnz(r:RL K F vs ds)(e:vs[i]? = some v):∃d,ds[i]? = some d/\R K F v d:=by
 induction i generalizing vs ds with
 |zero=>cases r with
  |nil=>simp at e
  |cons h r=>simp at e;subst e;exact⟨_,rfl,h⟩
 |succ i ih=>cases r with
  |nil=>simp at e
  |cons h r=>
   obtain⟨v,h1,h2⟩:=ih r (by simpa using e);exact⟨v,by simpa using h1,h2⟩
theorem QhJ {x y:V}(h:eqS x y=some b):scal x y=true/\flatV x=true/\flatV y=true/\b=decide (x=y)/\eqV x y=decide (x=y):=by
 unfold eqS at h
 by_cases c:(scal x y && flatV x && flatV y)=true
 ·rw[if_pos c] at h;cases h;have c0:=c;rw[z76,z76] at c;refine⟨c.1.1,c.1.2,c.2,rfl,?_⟩
  cases x<;>cases y<;>first
   |rfl
   |(rw[dec_int];rfl)
   |(rw[dec_bl];rfl)
   |(rw[dec_str];rfl)
   |exact absurd (show false=true from c.1.1) @2
   |exact absurd (show false=true from c.1.2) @2
   |exact absurd (show false=true from c.2) @2
   |(simp[eqV];done)
 ·rw[if_neg c] at h;cases h
section
variable {H:Hp}
theorem Qbp (I:Inv X pins σ H s):∀{n:Nat} {v:L2.V} {d e:D} {b:Bool},R X.K H v d->R X.K H v e->eqb n d e=some b->b=true
 |0,_,_,_,_,_,_,h=>by cases h
 |n+1,v,d,e,b,r,q,h=>by
  have key:∀{vs:List L2.V} {xs ys:List D} {c:Bool},RL X.K H vs xs->RL X.K H vs ys->V2 (eqb n) xs ys=some c->c=true:=by
   intro vs
   induction vs with
   |nil=>intro xs ys c h1 h2 h3;cases h1;cases h2;unfold V2 at h3;cases h3;rfl
   |cons v vs ih=>
    intro xs ys c h1 h2 h3
    cases h1 with
    |cons a1 b1=>
     cases h2 with
     |cons a2 b2=>
      unfold V2 at h3;obtain⟨a,e1,e2⟩:=z27.mp h3;obtain⟨c',e3,rfl⟩:=z03.mp e2;rw[Qbp I a1 a2 e1,ih b1 b2 e3];rfl
  rcases J9 h with⟨xs,ys,rfl,rfl,hh⟩|⟨xs,ys,c,rfl,rfl,hh,rfl⟩|⟨x,y,hx,hy,hh⟩
  ·obtain⟨a,vs,rfl,a1,l1⟩:=r.inv;obtain⟨a',vs',e',a2,l2⟩:=q.inv;cases e'
   have ev:=I.list_inj a1.sql a2.sql;subst ev;rcases hh with⟨_,hh⟩|⟨hh,_⟩
   ·exact key l1 l2 hh
   ·exact absurd (by rw[← l1.length,← l2.length]) hh
  ·obtain⟨a,vs,rfl,a1,l1⟩:=r.inv;obtain⟨a',vs',e',a2,l2⟩:=q.inv;cases e'
   have ev:=I.tuple_inj a1.sqt a2.sqt;subst ev;rw[key l1 l2 hh];simp[← l1.length,← l2.length]
  ·obtain⟨_,_,_,rfl,_⟩:=QhJ hh;have e1:=r.Qu hx;have e2:=q.Qu hy;exact decide_eq_true (e1.symm.trans e2)
theorem QfH (I:Inv X pins σ H s):∀{n:Nat} {v:L2.V} {d d' x:D} {c c':Bool},R X.K H v d->R X.K H v d'->eqb n d x=some c->eqb n d' x=some c'->c=c'
 |0,_,_,_,_,_,_,_,_,h,_=>by cases h
 |n+1,v,d,d',x,c,c',r,q,h,h'=>by
  have key:∀{vs:List L2.V} {xs xs' ys:List D} {c c':Bool},RL X.K H vs xs->RL X.K H vs xs'->V2 (eqb n) xs ys=some c->V2 (eqb n) xs' ys=some c'->c=c':=by
   intro vs
   induction vs with
   |nil=>intro xs xs' ys c c' h1 h2 h3 h4;cases h1;cases h2;rw[h3] at h4;exact z26 h4
   |cons v vs ih=>
    intro xs xs' ys c c' h1 h2 h3 h4
    cases h1 with
    |cons a1 b1=>
     cases h2 with
     |cons a2 b2=>
      cases ys with
      |nil=>unfold V2 at h3 h4;rw[h3] at h4;exact z26 h4
      |cons y ys=>
       unfold V2 at h3 h4;obtain⟨a,e1,e2⟩:=z27.mp h3;obtain⟨c1,e3,rfl⟩:=z03.mp e2;obtain⟨a',e1',e2'⟩:=z27.mp h4;obtain⟨c1',e3',rfl⟩:=z03.mp e2';rw[QfH I a1 a2 e1 e1',ih b1 b2 e3 e3']
  rcases J9 h with⟨xs,ys,rfl,rfl,hh⟩|⟨xs,ys,c0,rfl,rfl,hh,rfl⟩|⟨x0,y0,hx,hy,hh⟩
  ·rcases J9 h' with⟨xs',ys',rfl,e2,hh'⟩|⟨_,_,_,_,e2,_⟩|⟨_,_,_,e2,_⟩
   ·cases e2
    obtain⟨a,vs,rfl,a1,l1⟩:=r.inv;obtain⟨a',vs',e',a2,l2⟩:=q.inv;cases e'
    have ev:=I.list_inj a1.sql a2.sql;subst ev;have el:xs.length=xs'.length:=by rw[← l1.length,← l2.length]
    rcases hh with⟨g1,hh⟩|⟨g1,rfl⟩<;>rcases hh' with⟨g2,hh'⟩|⟨g2,rfl⟩
    ·exact key l1 l2 hh hh'
    ·exact absurd (el▸g1) g2
    ·exact absurd (el▸g2) g1
    ·rfl
   ·cases e2
   ·cases e2
  ·rcases J9 h' with⟨_,_,_,e2,_⟩|⟨xs',ys',c1,rfl,e2,hh',rfl⟩|⟨_,_,_,e2,_⟩
   ·cases e2
   ·cases e2
    obtain⟨a,vs,rfl,a1,l1⟩:=r.inv;obtain⟨a',vs',e',a2,l2⟩:=q.inv;cases e'
    have ev:=I.tuple_inj a1.sqt a2.sqt;subst ev;rw[key l1 l2 hh hh',← l1.length,← l2.length]
   ·cases e2
  ·rcases J9 h' with⟨_,_,_,rfl,_⟩|⟨_,_,_,_,rfl,_⟩|⟨x1,y1,hx',hy',hh'⟩
   ·cases hy
   ·cases hy
   ·rw[hy] at hy';cases hy';obtain rfl:=r.Qu hx;obtain rfl:=q.Qu hx';rw[hh] at hh';exact z26 hh'
theorem Qa2 (I:Inv X pins σ H s){A:Around}(hu:A.units<cLine)(cmp:∀{v u:L2.V} {d e:D} {b:Bool} {p q:Value},R X.K H v d->R X.K H u e->RelV v p->RelV u q->eqb n d e=some b->zi7 A.in1 s p q b){a a':Addr}{xs:List D}(l1:RL X.K H vs xs)(l2:RL X.K H us ys){c:Bool}(h:V2 (eqb n) xs ys=some c) :
  (SqL X.K H a vs->SqL X.K H a' us->xs.length=ys.length->y38 A s @28 (.ref a') c/\y06 A s @28 (.ref a') (!c))/\(SqT X.K H a vs->SqT X.K H a' us->y38 A s @28 (.ref a') (c && xs.length == ys.length)/\y06 A s @28 (.ref a') (!(c && xs.length == ys.length))):=by
 obtain⟨e,k1,k2⟩:=QdJ h
 have key:∀{its its2:List Value},Vals vs its->Vals us its2->∀j (h1:j<its.toArray.size) (h2:j<its2.toArray.size),zi7 A.in1 s its.toArray[j] its2.toArray[j] (e j):=fun{its its2} rv rv2 j h1 h2=>by
  rw[z22] at h1 h2;have z1:=rv.length;have z2:=rv2.length;obtain⟨v,hv⟩:∃v,vs[j]? = some v:=⟨vs[j]' @0,z06 _⟩;obtain⟨w,hw⟩:∃v,us[j]? = some v:=⟨us[j]' @0,z06 _⟩;obtain⟨p,hp,rp⟩:=rv.get hv;obtain⟨q,hq,rq⟩:=rv2.get hw;obtain⟨x,hx,rx⟩:=l1.Qnz hv;obtain⟨y,hy,ry⟩:=l2.Qnz hw
  have q1:its.toArray[j]=p:=by
   rw[z06 h1] at hp;simpa using z26 hp
  have q2:its2.toArray[j]=q:=by
   rw[z06 h2] at hq;simpa using z26 hq
  rw[q1,q2];exact cmp rx ry rp rq (k1 j x y hx hy)
 have e1:=l1.length;have e2:=l2.length;refine⟨fun a1 a2 hl=>?_,fun a1 a2=>?_⟩
 ·obtain⟨its,rv,p,_⟩:=I.list a1;obtain⟨its2,rv2,p2,_⟩:=I.list a2;have z1:=rv.length;have z2:=rv2.length;have es:its.toArray.size=its2.toArray.size:=by rw[z22,z22];lia
  have ec:(z41 its.toArray.size).all e=c:=by
   rw[← k2,z22,← z1,e1]
   congr 2
   lia
  rw[← ec];exact⟨SeqAt.RcAt.lists p.isList p2.isList es hu (key rv rv2),SeqAt.RcNeAt.lists p.isList p2.isList es hu (key rv rv2)⟩
 ·obtain⟨its,rv,p,_⟩:=I.tuple a1;obtain⟨its2,rv2,p2,_⟩:=I.tuple a2;have z1:=rv.length;have z2:=rv2.length
  have ec:((z41 (min its.toArray.size its2.toArray.size)).all e && its.toArray.size == its2.toArray.size)=(c && xs.length == ys.length):=by
   rw[← k2,z22,z22,← z1,← z2,e1,e2]
  rw[← ec];exact⟨zz9 p p2 hu (key rv rv2),SeqAt.RcNeAt.tuples p p2 hu (key rv rv2)⟩
theorem QfI (I:Inv X pins σ H s){A:Around}(hu:A.units<cLine){a a':Addr}(a1:SqL X.K H a vs)(a2:SqL X.K H a' us)(hl:vs.length≠us.length):y38 A s @28 (.ref a') false/\y06 A s @28 (.ref a') true:=by
 obtain⟨its,rv,p,_⟩:=I.list a1;obtain⟨its2,rv2,p2,_⟩:=I.list a2;have z1:=rv.length;have z2:=rv2.length;have es:(its.toArray.size != its2.toArray.size)=true:=by rw[z22,z22];simp;lia
 exact⟨SeqAt.RcAt.lists_lengths p.isList p2.isList es hu,SeqAt.RcNeAt.lists_lengths p.isList p2.isList es hu⟩
theorem QcW (I:Inv X pins σ H s):∀{n:Nat} {A:Around},A.units+n<cLine->∀{v u:L2.V} {d e:D} {b:Bool} {p q:Value},R X.K H v d->R X.K H u e->RelV v p->RelV u q->eqb n d e=some b->zi7 A s p q b
 |0,_,_,_,_,_,_,_,_,_,_,_,_,_,h=>by cases h
 |n+1,A,hu,v,u,d,e,b,p,q,r,r',rp,rq,h=>by
  have hA:A.in1.units+n<cLine:=by show A.units+1+n<cLine;lia
  have hu':A.units<cLine:=by lia
  rcases J9 h with⟨xs,ys,rfl,rfl,hh⟩|⟨xs,ys,c,rfl,rfl,hh,rfl⟩|⟨x,y,hx,hy,hh⟩
  ·obtain⟨a,vs,rfl,a1,l1⟩:=r.inv;obtain⟨a',us,rfl,a2,l2⟩:=r'.inv;cases rp;cases rq
   by_cases ea:a=a'
   ·subst ea;rw[Qbp I r r' h];exact zn2 _
   ·refine zo9 ea ?_;rcases hh with⟨hl,hh⟩|⟨hl,rfl⟩
    ·exact((Qa2 I hu' (fun r1 r2 p1 p2 e1=>QcW I hA r1 r2 p1 p2 e1) l1 l2 hh).1 a1.sql a2.sql hl).1
    ·exact(QfI I hu' a1.sql a2.sql (by rw[l1.length,l2.length];exact hl)).1
  ·obtain⟨a,vs,rfl,a1,l1⟩:=r.inv;obtain⟨a',us,rfl,a2,l2⟩:=r'.inv;cases rp;cases rq
   by_cases ea:a=a'
   ·subst ea;rw[Qbp I r r' h];exact zn2 _
   ·exact zo9 ea ((Qa2 I hu' (fun r1 r2 p1 p2 e1=>QcW I hA r1 r2 p1 p2 e1) l1 l2 hh).2 a1.sqt a2.sqt).1
  ·obtain⟨_,f1,f2,rfl,ev⟩:=QhJ hh;obtain rfl:=r.Qu hx;obtain rfl:=r'.Qu hy;rw[← ev];exact eqAt_V rp rq f1 f2
end
def QkS (K:z02)(n:Nat)(f:Bool->Bool):R2:=fun x y H Q=>∃d e b,R K H x d/\R K H y e/\eqb n d e=some b/\Q (.bl (f b)) H
section
theorem V3(hu:X.A.units+n<cLine):OpR X (compareOp .Eq) (QkS X.K n id):=by
 intro pins s σ H x y v u Q I rx ry h;obtain⟨d,e,b,r,r',he,q⟩:=h
 cases n with
 |zero=>cases he
 |succ n=>
  have hA:X.A.in1.units+n<cLine:=by show X.A.units+1+n<cLine;lia
  have hu':X.A.units<cLine:=by lia
  rcases J9 he with⟨xs,ys,rfl,rfl,hh⟩|⟨xs,ys,c,rfl,rfl,hh,rfl⟩|⟨x',y',hx,hy,hh⟩
  ·obtain⟨a,vs,rfl,a1,l1⟩:=r.inv;obtain⟨a',us,rfl,a2,l2⟩:=r'.inv;cases rx;cases ry
   rcases hh with⟨hl,hh⟩|⟨hl,rfl⟩
   ·exact((Qa2 I hu' (fun r1 r2 p1 p2 e1=>QcW I hA r1 r2 p1 p2 e1) l1 l2 hh).1 a1.sql a2.sql hl).1 _ _ _ _ ⟨.bl _,H,I,rfl,q⟩
   ·exact(QfI I hu' a1.sql a2.sql (by rw[l1.length,l2.length];exact hl)).1 _ _ _ _ ⟨.bl _,H,I,rfl,q⟩
  ·obtain⟨a,vs,rfl,a1,l1⟩:=r.inv;obtain⟨a',us,rfl,a2,l2⟩:=r'.inv;cases rx;cases ry
   exact((Qa2 I hu' (fun r1 r2 p1 p2 e1=>QcW I hA r1 r2 p1 p2 e1) l1 l2 hh).2 a1.sqt a2.sqt).1 _ _ _ _ ⟨.bl _,H,I,rfl,q⟩
  ·obtain⟨sc,f1,f2,rfl,ev⟩:=QhJ hh;obtain rfl:=r.Qu hx;obtain rfl:=r'.Qu hy;exact op_eq pins s σ H x y v u Q I rx ry ⟨sc,q⟩
theorem QdK(hu:X.A.units+n<cLine):OpR X (compareOp .NotEq) (QkS X.K n not):=by
 intro pins s σ H x y v u Q I rx ry h;obtain⟨d,e,b,r,r',he,q⟩:=h
 cases n with
 |zero=>cases he
 |succ n=>
  have hA:X.A.in1.units+n<cLine:=by show X.A.units+1+n<cLine;lia
  have hu':X.A.units<cLine:=by lia
  rcases J9 he with⟨xs,ys,rfl,rfl,hh⟩|⟨xs,ys,c,rfl,rfl,hh,rfl⟩|⟨x',y',hx,hy,hh⟩
  ·obtain⟨a,vs,rfl,a1,l1⟩:=r.inv;obtain⟨a',us,rfl,a2,l2⟩:=r'.inv;cases rx;cases ry
   rcases hh with⟨hl,hh⟩|⟨hl,rfl⟩
   ·exact((Qa2 I hu' (fun r1 r2 p1 p2 e1=>QcW I hA r1 r2 p1 p2 e1) l1 l2 hh).1 a1.sql a2.sql hl).2 _ _ _ _ ⟨.bl _,H,I,rfl,q⟩
   ·exact(QfI I hu' a1.sql a2.sql (by rw[l1.length,l2.length];exact hl)).2 _ _ _ _ ⟨.bl _,H,I,rfl,q⟩
  ·obtain⟨a,vs,rfl,a1,l1⟩:=r.inv;obtain⟨a',us,rfl,a2,l2⟩:=r'.inv;cases rx;cases ry
   exact((Qa2 I hu' (fun r1 r2 p1 p2 e1=>QcW I hA r1 r2 p1 p2 e1) l1 l2 hh).2 a1.sqt a2.sqt).2 _ _ _ _ ⟨.bl _,H,I,rfl,q⟩
  ·obtain⟨sc,f1,f2,rfl,ev⟩:=QhJ hh;obtain rfl:=r.Qu hx;obtain rfl:=r'.Qu hy;exact op_ne pins s σ H x y v u Q I rx ry ⟨sc,q⟩
def inL (f:D->D->Option Bool)(x:D):List D->Option Bool
 | []=>some false
 |y::ys=>(f y x).bind fun a=>(inL f x ys).map fun b=>a || b
noncomputable def inb (n:Nat):D->D->Option Bool
 |x,.nd .lst ys=>inL (eqb n) x ys
 |x,.nd .tup ys=>inL (eqb n) x ys
 |_,_=>none
theorem QfJ {f:D->D->Option Bool}{x:D}:∀{ys:List D} {b:Bool},inL f x ys=some b->(∀y∈ys,∃c,f y x=some c)/\(ys.any fun y=>(f y x).getD false)=b
 | [],b,h=>by unfold inL at h;cases h;exact⟨@5,rfl⟩
 |y::ys,b,h=>by
  unfold inL at h;obtain⟨a,h1,h2⟩:=z27.mp h;obtain⟨c,h3,rfl⟩:=z03.mp h2;obtain⟨k1,k2⟩:=QfJ h3;refine⟨fun z hz=>?_,by rw[za6,h1,k2];rfl⟩;rcases z21.mp hz with rfl|hz
  ·exact⟨a,h1⟩
  ·exact k1 z hz
open Classical in
noncomputable def QeG (K:z02)(H:Hp)(n:Nat)(x:D)(u:Value):Bool:=if h:∃v d c,RelV v u/\R K H v d/\eqb n d x=some c then(y19 (z89 (z89 h))) else false
theorem QfK{H:Hp}(I:Inv X pins σ H s)(hu:X.A.units+n+1<cLine){vv:Value}{x:D}(rx:R X.K H v x)(rv:RelV v vv){its:List Value}(l:RL X.K H us ys)(r:Vals us its)(h:inL (eqb n) x ys=some b) :
  (∀w∈its,zi7 X.A.in1 s w vv (QeG X.K H n x w))/\its.any (QeG X.K H n x)=b:=by
 have hA:X.A.in1.units+n<cLine:=by show X.A.units+1+n<cLine;lia
 -- one answer of a value
 have one:∀{u:L2.V} {d:D} {c:Bool} {w:Value},RelV u w->R X.K H u d->eqb n d x=some c->zi7 X.A.in1 s w vv (QeG X.K H n x w):=fun{u d c w} r1 r2 r3=>by
  have ex:∃v d c,RelV v w/\R X.K H v d/\eqb n d x=some c:=⟨u,d,c,r1,r2,r3⟩;unfold QeG;rw[dif_pos ex];have sp:=z89 (z89 (z89 ex));exact QcW I hA sp.2.1 rx sp.1 rv sp.2.2
 have val:∀{u:L2.V} {d:D} {c:Bool} {w:Value},RelV u w->R X.K H u d->eqb n d x=some c->QeG X.K H n x w=c:=fun{u d c w} r1 r2 r3=>by
  have ex:∃v d c,RelV v w/\R X.K H v d/\eqb n d x=some c:=⟨u,d,c,r1,r2,r3⟩;unfold QeG;rw[dif_pos ex];have sp:=z89 (z89 (z89 ex));have ev:=r1.inj sp.1;exact QfH I (ev▸sp.2.1) r2 sp.2.2 r3
 obtain⟨k1,k2⟩:=QfJ h
 constructor
 ·intro w hw;obtain⟨j,hj⟩:=z74 hw;have lj:j<us.length:=by rw[r.length];exact(z11.mp hj).1
  obtain⟨u,hu'⟩:∃u,us[j]? = some u:=⟨us[j],z06 lj⟩;obtain⟨w',hw',rw'⟩:=r.get hu';rw[hj] at hw';cases hw';obtain⟨y,hy,ry⟩:=l.Qnz hu';obtain⟨c,hc⟩:=k1 y (z38 hy);exact one rw' ry hc
 ·rw[← k2]
  have go:∀{us:List L2.V} {its:List Value} {ys:List D},RL X.K H us ys->Vals us its->(∀y∈ys,∃c,eqb n y x=some c)->its.any (QeG X.K H n x)=ys.any fun y=>(eqb n y x).getD false:=by
   intro us
   induction us with
   |nil=>intro its ys h1 h2 _;cases h1;cases h2;rfl
   |cons u us ih=>
    intro its ys h1 h2 h3
    cases h1 with
    |cons a1 b1=>
     cases h2 with
     |cons a2 b2=>
      obtain⟨c,hc⟩:=h3 _ z09;rw[za6,za6,ih b1 b2 fun y hy=>h3 y (z07 _ hy),val a2 a1 hc,hc];rfl
  exact go l r k1
def QnA (K:z02)(n:Nat)(f:Bool->Bool):R2:=fun x y H Q=>∃d e b,R K H x d/\R K H y e/\inb n d e=some b/\Q (.bl (f b)) H
theorem QjG{e:D}(h:inb n d e=some b):∃ys,(e=.nd .lst ys\/e=.nd .tup ys)/\inL (eqb n) d ys=some b:=by
 unfold inb at h
 split at h
 ·exact⟨_,.inl rfl,h⟩
 ·exact⟨_,.inr rfl,h⟩
 ·cases h
theorem QlE(hu:X.A.units+n+1<cLine):OpR X (compareOp .In) (QnA X.K n id):=by
 intro pins s σ H x y v u Q I rx ry h;obtain⟨d,e,b,r,r',he,q⟩:=h;obtain⟨ys,hy,hl⟩:=QjG he;rcases hy with rfl|rfl
 ·obtain⟨a,us,rfl,a1,l1⟩:=r'.inv;cases ry
  obtain⟨its,rv,pl,_⟩:=I.list a1.sql;obtain⟨k1,k2⟩:=QfK I hu r rx l1 rv hl;refine SeqAt.in_listAt (QeG X.K H n d) pl.isList (fun w hw=>k1 w (by simpa using hw)) ⟨.bl b,H,I,?_,q⟩;rw[show its.toArray.any (QeG X.K H n d)=its.any (QeG X.K H n d) by simp,k2];rfl
 ·obtain⟨a,us,rfl,a1,l1⟩:=r'.inv;cases ry
  obtain⟨its,rv,pl,_⟩:=I.tuple a1.sqt;obtain⟨k1,k2⟩:=QfK I hu r rx l1 rv hl;refine SeqAt.in_tupleAt (QeG X.K H n d) pl (fun w hw=>k1 w (by simpa using hw)) ⟨.bl b,H,I,?_,q⟩;rw[show its.toArray.any (QeG X.K H n d)=its.any (QeG X.K H n d) by simp,k2];rfl
end
def gEq (d e:D):Option D:=(eqb 30 d e).map .bl
def gNe (d e:D):Option D:=(eqb 30 d e).map fun b=>.bl (!b)
def gIn (d e:D):Option D:=(inb 30 d e).map .bl
section
theorem dEq:OpD K (QkS K 30 id) gEq:=fun H v u d e res r q eg=>by
 obtain⟨b,hb,rfl⟩:=z03.mp eg;exact⟨_,rfl,fun Q hq=>⟨d,e,b,r,q,hb,hq⟩⟩
theorem dNe:OpD K (QkS K 30 not) gNe:=fun H v u d e res r q eg=>by
 obtain⟨b,hb,rfl⟩:=z03.mp eg;exact⟨_,rfl,fun Q hq=>⟨d,e,b,r,q,hb,hq⟩⟩
theorem dIn:OpD K (QnA K 30 id) gIn:=fun H v u d e res r q eg=>by
 obtain⟨b,hb,rfl⟩:=z03.mp eg;exact⟨_,rfl,fun Q hq=>⟨d,e,b,r,q,hb,hq⟩⟩
end
end TL
namespace TL
open PySem PySem.Spec L2
variable {X:Cx}{C:Cn}{E:XE}{p pa c pb:Bool}{e a b:Expr}{es:List Expr}{m ma te:ME}{mr mi:MA}{pos px spos:Pos}{ka:List D×Rho->Prop}{ks:List Kd}{K:z02}{f:List D->Fr}{F:Hp}{vs:List L2.V}{ds args dis di os:List D}{ρ ρ1 ρb ρ2:Rho}{i n j:Nat}{q:Bool×List (List Key)×List D}{g:D->D->Option D}{v:L2.V}{d y:D}{kb rk:Kd}{σ:L2.St}{τ:List @22}{fp:List Addr}{x:Str}{mb:MS}{k:D×Rho->Prop}{tg:D->Rho->Option Rho}{P:D->List D->Prop}{io:List Bool}{cs:List Cp}{mt:MT}{α:Type}{as:List @17}{s:Option Sl}{kf:Fl×Rho->Prop}
section
variable {c:Expr}{ka:Kd}
def QjH:D->Option D
 |.int i=>some (.int (-i))
 |_=>none
def mUn (g:D->Option D)(m:ME):ME:=fun ρ=>(m ρ).bind fun r=>Rs.of ((g r.1).map fun d=>(d,r.2))
theorem QlF (ha:PE X a (tX ka C pa E ma))(ok:ka.on true=true:=by rfl):PE X (.UnaryOp .USub a pos) (tX .V C pa E (mUn QjH ma)):=Qm (pe_un un_neg ha) fun σ H Q ⟨F,ρ,τ,fp,I,h⟩=>by
 refine⟨F,ρ,τ,fp,I,h.split.mono fun r1 h1 F1 H1 fp1 v1 I1 n1 f1=>?_⟩;rw[Kd.J4 ok] at I1;obtain⟨z,ez,h3⟩:=h1.of;obtain⟨res,eg,rfl⟩:=z03.mp ez;have rr:=Kd.stay ok f1 .refl I1;unfold QjH at eg
 split at eg
 ·next i ei=>
  cases eg
  rw[ei] at rr;exact⟨i,rr.Qu rfl,h3 F1 H1 fp1 _ I1 n1 (.sc rfl)⟩
 ·cases eg
def QiF:List D->Option D
 | [.nd .lst ds]=>some (.int ds.length)
 | [.nd .tup ds]=>some (.int ds.length)
 | [.str s]=>if s.length<=z24 then some (.int s.length) else none
 |_=>none
theorem QkT (hK:C.K=X.K):CallD C.K (fun xs H Q=>∃x n,xs=[x]/\LenV X.K x H n/\Q (.int (n:Nat)) H) QiF:=fun H vs ds res r eg=>by
 unfold QiF at eg
 split at eg
 ·obtain⟨v,rfl,h⟩:=r.one;obtain⟨a,us,rfl,h1,h2⟩:=h.inv;cases eg
  exact⟨_,rfl,fun Q hq=>⟨.ref a,_,rfl,.inl ⟨us,hK▸h1.sql,h2.length.symm⟩,hq⟩⟩
 ·obtain⟨v,rfl,h⟩:=r.one;obtain⟨a,us,rfl,h1,h2⟩:=h.inv;cases eg
  exact⟨_,rfl,fun Q hq=>⟨.ref a,_,rfl,.inr ⟨us,hK▸h1.sqt,h2.length.symm⟩,hq⟩⟩
 ·next s=>
  obtain⟨v,rfl,h⟩:=r.one;obtain rfl:=h.Qu (w:=.str s) rfl
  by_cases c:s.length<=z24
  ·rw[if_pos c] at eg;cases eg;exact⟨_,rfl,fun Q hq=>⟨.str s,_,rfl,⟨c,rfl⟩,hq⟩⟩
  ·rw[if_neg c] at eg;cases eg
 ·cases eg
noncomputable def gI2 (f:Int->Int->Int):List D->Option D
 | [.int i,.int j]=>some (.int (f i j))
 |_=>none
theorem dI2{f:Int->Int->Int}:CallD K (fun xs H Q=>∃i j,xs=[.int i,.int j]/\Q (.int (f i j)) H) (gI2 f):=fun H vs ds res r eg=>by
 unfold gI2 at eg
 split at eg
 ·next i j=>
  cases eg
  obtain⟨v,u,rfl,h1,h2⟩:=r.two;obtain rfl:=h1.Qu (w:=.int i) rfl;obtain rfl:=h2.Qu (w:=.int j) rfl;exact⟨_,rfl,fun Q hq=>⟨i,j,rfl,hq⟩⟩
 ·cases eg
theorem Qck:z90 "min" = some (.builtin "min"):=by decide +kernel
noncomputable def QaQ (ds:List D):List D:=ds.zipIdx.map fun x=>.tup [.int (x.2:Nat),x.1]
theorem QhK{a:Addr}(h:At K F a .lst vs)(r:RL K F vs ds):ItD K F (QaQ ds) (Ite K a):=by
 have get:∀{i:Nat} {d:D},(QaQ ds)[i]? = some d->∃x,ds[i]? = some x/\d=.tup [.int (i:Nat),x]:=fun{i d} e=>by
  unfold QaQ at e;rw[z17] at e;obtain⟨q,hq,rfl⟩:=z03.mp e;rw[y28] at hq;obtain⟨x,hx,rfl⟩:=z03.mp hq;exact⟨x,hx,by simp⟩
 refine⟨fun{C F' H σ ρ τ fp i d} hk I s e=>?_,fun{C F' H σ ρ τ fp} hk I s=>?_⟩
 ·obtain⟨x,hx,rfl⟩:=get e;obtain⟨v,ev,rv⟩:=r.get hx;have q:=(At.same (t:=.lst) h (s.trans I.fh)).sql;refine⟨⟨vs,v,q,ev⟩,fun x0 H' hz=>?_⟩;obtain⟨T,y,hT,e1,e2,e3⟩:=hz;subst e1 e2;have z:=e3 vs q;rw[ev] at z;have ey:=(z26 z).symm;subst ey;have s2:=Same.upd (o:=HO.tup [.int (i:Nat),y]) (I.fh.free hT);exact⟨_,I.lay hT,⟨s2,fun _=>YQ I hT⟩,.nd (t:=.tup) upd_same (.cons (.sc rfl) (.cons (rv.same (s.trans s2)) .nil))⟩
 ·have l:=r.length;have l2:(QaQ ds).length=ds.length:=by unfold QaQ;rw[z01,y43]
  exact⟨vs,(At.same (t:=.lst) h (s.trans I.fh)).sql,by lia⟩
def gL1:List D->Option (List D)
 | [.nd .lst ds]=>some ds
 |_=>none
theorem QlG {r:List D}(h:gL1 r=some ds):r=[.nd .lst ds]:=by
 unfold gL1 at h
 split at h
 ·cases h;rfl
 ·cases h
def QnB (mr:MA):MA:=fun ρ=>(mr ρ).bind fun r=>(Rs.of (gL1 r.1)).bind fun ds=>.ok (QaQ ds,r.2)
theorem QjI {es:List Expr}{k0:Nat}{tp:Pos}(hm:X.mg "enumerate" = none)(hK:C.K=X.K)(ha:PA X [e] (tA ks C p E mr))(ok:knL ks=true:=by rfl)(hg:Gl X "enumerate" := by rfl)(hs:starEach [e] X.env=@16::starEach [] X.env:=by rfl)(hpl:(backTo pos (starEach [] X.env)).any (·.1)=false:=by rfl) :
  PI X (.Tuple es k0 tp) (.Call (.Name "enumerate" px) [e] [] pos) (tI C p E (QnB mr)):=Y6 (Qi4 hg hm ha hs hpl) fun σ H RR hz=>by
 obtain⟨F,ρ,τ,fp,I,h⟩:=hz;refine⟨F,ρ,τ,fp,I,h.split.mono fun r hr F1 H1 fp1 vs I1 n1 f1=>?_⟩;rw[Je (Yx ok)] at I1;obtain⟨ds,eg,h2⟩:=hr.split.of;have rl:=f1.kn ok;rw[QlG eg] at rl;obtain⟨v,rfl,r1⟩:=rl.one;obtain⟨a,us,rfl,hs,rl1⟩:=r1.inv;refine⟨a,rfl,⟨us,by rw[← hK];exact(At.same hs I1.fh).sql⟩,h2 F1 H1 fp1 _ I1 n1 ?_⟩;rw[← hK];exact QhK hs rl1
end
noncomputable def Qbq (ρ:Rho)(i:Nat):Option (Bool×List D):=match ρ[i]? with
 |some (some (.own (.nd .lst ds)))=>some (false,ds)
 |some (some (.par (.nd .lst ds)))=>some (true,ds)
 |_=>none
theorem VG{q:Bool×List D}(h:Qbq ρ i=some q):ρ[i]? = some (some (mkS q.1 (.lst q.2))):=by
 unfold Qbq at h
 split at h
 ·next e=>cases h;exact e
 ·next e=>cases h;exact e
 ·cases h
section
variable {H:Hp}
theorem OL.snoc{f g:List Addr}(o:OL K F H vs ds f)(h:O K F H v d g):OL K F H (vs++[v]) (ds++[d]) (f++g):=by
 have q:=o.app (.cons h .nil);rw[z50] at q;exact q
theorem OL.setAt:∀{vs:List L2.V} {ds:List D} {f:List Addr} {j:Nat},OL K F H vs ds f->j<ds.length->∃f1 fj f2 v d,f=f1++(fj++f2)/\vs[j]? = some v/\ds[j]? = some d/\O K F H v d fj/\∀{F' H':Hp} {v':L2.V} {d':D} {g:List Addr},Same F F'->(∀a∈f1++f2,H' a=H a)->O K F' H' v' d' g->OL K F' H' (vs.set j v') (ds.set j d') (f1++(g++f2))
 |_,_,_,j,.nil,h=>by simp at h
 |_,_,_,0,.cons (f:=f) (g:=g) a r,_=>⟨[],f,g,_,_,rfl,rfl,rfl,a,fun{F' H' v' d' g'} sf k o=>by
  show OL K F' H' (_::_) (_::_) (g'++g)
  exact .cons o (r.keep sf k)⟩
 |_,_,_,j+1,.cons (f:=f) (g:=g) a r,h=>by
  obtain⟨f1,fj,f2,v,d,rfl,e1,e2,o,k⟩:=OL.setAt r (j:=j) (by simpa using h);refine⟨f++f1,fj,f2,v,d,by simp[z23],by simpa using e1,by simpa using e2,o,fun{F' H' v' d' g'} sf kk o'=>?_⟩;have q:=OL.cons (a.keep sf fun b hb=>kk b (by simp[hb])) (k sf (fun b hb=>kk b (by simp at hb ⊢;rcases hb with z|z<;>simp[z])) o');simpa[z23] using q
theorem O.QlH{f:List Addr}(o:O K F H v (.nd .lst ds) f):∃a vs g,v=.ref a/\f=a::g/\H a=some (.lst vs)/\OL K F H vs ds g:=by
 cases o with
 |sc e=>cases e
 |im m h r=>cases m
 |mt h r=>exact⟨_,_,_,rfl,rfl,h,r⟩
end
section
variable {mi:ME}
theorem SI.QdL {H:Hp}{par:Bool}{t:Tag}(I:SI C F H σ ρ τ fp)(mt:t.mut=true)(es:ρ[i]? = some (some (mkS par (.nd t ds)))):∃l vs f rest,σ[i]? = some (some (.ref l))/\Mt H l t vs/\OL C.K F H vs ds f/\fp.Perm ((l::f)++rest)/\(∀b∈l::f,JM C par b)/\
  ∀{H':Hp} {t':Tag} {vs':List L2.V} {ds':List D} {f':List Addr},Mt H' l t' vs'->OL C.K F H' vs' ds' f'->(∀b,b∈rest->H' b=H b)->(∀b o,H b=some o->b∉l::f->H' b=some o)->(∀b,H' b=none->H b=none)->((l::f')++rest).Nodup->(∀b∈f',F b=none/\JM C par b)->SI C F H' σ (ρ.set i (some (mkS par (.nd t' ds')))) τ ((l::f')++rest):=by
 obtain⟨x,f0,g0,rest,ex,s1,pm,w0,w1,cl⟩:=I.cut es
 obtain⟨v,fi,ev,ho,efi,wfi⟩:∃v fi,x=some v/\O C.K F H v (.nd t ds) fi/\f0++g0=fi/\∀a∈fi,JM C par a:=by
  cases par with
  |false=>cases s1 with|own h=>exact⟨_,_,rfl,h,by simp,fun a ha=>.inl (w0 a ha)⟩
  |true=>cases s1 with|par h=>exact⟨_,_,rfl,h,rfl,fun a ha=>(w1 a ha).elim (fun z=>.inr ⟨rfl,z⟩) fun z=>.inl z⟩
 subst ev
 obtain⟨l,vs,g,rfl,rfl,hl,ol⟩:∃l vs g,v=.ref l/\fi=l::g/\Mt H l t vs/\OL C.K F H vs ds g:=by
  cases ho with
  |sc e=>cases e
  |im m h r=>rw[mt] at m;cases m
  |mt hl ol=>exact⟨_,_,_,rfl,rfl,hl,ol⟩
 have pm':fp.Perm ((l::g)++rest):=by
  rw[← efi,z23];exact pm
 have ndp:=pm'.nodup_iff.mp I.nd;refine⟨l,vs,g,rest,ex,hl,ol,pm',wfi,fun{H' t' vs' ds' f'} hl' ol' hk kp dm nd fr=>?_⟩
 have hF:Same F H':=fun b o e=>by
  refine kp b o (I.fh b o e) fun z=>?_;have:=I.ap b (pm'.mem_iff.mpr (z13 _ z));rw[e] at this;cases this
 have nop:∀b,C.H₀ b≠none->b∉C.A->b∉l::g:=fun b h1 h2 z=>by
  rcases wfi b z with y|y
  ·exact h1 y
  ·exact h2 y.2
 have apn:∀b∈(l::f')++rest,F b=none:=fun b hb=>by
  rcases z08.mp hb with z|z
  ·rcases z21.mp z with rfl|z
   ·exact I.ap _ (pm'.mem_iff.mpr @6)
   ·exact(fr b z).1
  ·exact I.ap b (pm'.mem_iff.mpr (z05 _ z))
 have frn:∀b∈l::f',JM C par b:=fun b hb=>by
  rcases z21.mp hb with rfl|z
  ·exact wfi _ z09
  ·exact(fr b z).2
 have es':=es
 cases par with
 |false=>
  have J:=cl (F':=F) (H':=H') (x':=some (.ref l)) (s':=some (.own (.nd t' ds'))) (f0':=l::f') (g0':=[]) (Same.refl F) hF hk dm (fun b o e n z=>kp b o z (nop b (by rw[e];simp) n)) (fun _ _ z=>.inl z) (.own (.mt hl' ol')) nd apn (fun b hb=>(frn b hb).resolve_right fun z=>nomatch z.1) @5 (fun v hv=>by
   obtain⟨_,d',z⟩:=I.pr _ _ hv
   rw[es] at z;cases z)
  rw[QX ex] at J;exact J
 |true=>
  have J:=cl (F':=F) (H':=H') (x':=some (.ref l)) (s':=some (.par (.nd t' ds'))) (f0':=[]) (g0':=l::f') (Same.refl F) hF hk dm (fun b o e n z=>kp b o z (nop b (by rw[e];simp) n)) (fun _ _ z=>.inl z) (.par (.mt hl' ol')) nd apn @5 (fun b hb=>(frn b hb).elim (fun z=>.inr z) fun z=>.inl z.2) (fun v hv=>⟨by
   obtain⟨z,_⟩:=I.pr _ _ hv
   rw[ex] at z;exact z26 z,_,rfl⟩)
  rw[QX ex] at J;exact J
theorem SI.QhL {H:Hp}{par:Bool}{t:Tag}(I:SI C F H σ ρ τ fp)(mt:t.mut=true)(es:ρ[i]? = some (some (mkS par (.nd t ds)))):∃l vs f rest,σ[i]? = some (some (.ref l))/\Mt H l t vs/\OL C.K F H vs ds f/\fp.Perm ((l::f)++rest)/\(∀b∈l::f,JM C par b)/\
  ∀{o:HO} {t':Tag} {vs':List L2.V} {ds':List D} {f':List Addr},Mt (upd H l o) l t' vs'->OL C.K F H vs' ds' f'->((l::f')++rest).Nodup->(∀b∈f',F b=none/\JM C par b)->SI C F (upd H l o) σ (ρ.set i (some (mkS par (.nd t' ds')))) τ ((l::f')++rest):=by
 obtain⟨l,vs,f,rest,ex,hl,ol,pm,w,cl⟩:=I.QdL mt es;refine⟨l,vs,f,rest,ex,hl,ol,pm,w,fun{o t' vs' ds' f'} hl' ol' nd fr=>?_⟩
 have nl:∀{b:Addr},b∈f'\/b∈rest->b≠l:=fun{b} hb z=>by
  subst z;exact(z39.mp (show(b::(f'++rest)).Nodup from nd)).1 (z08.mpr hb)
 refine cl hl' (ol'.keep (Same.refl _) (H':=upd H l o) fun b hb=>upd_ne (nl (.inl hb))) (fun b hb=>upd_ne (nl (.inr hb))) (fun b o' e n=>(upd_ne (by intro z;subst z;exact n z09)).trans e) (fun b e=>?_) nd fr
 by_cases hb:b=l
 ·subst hb;rw[upd_same] at e;cases e
 ·rw[upd_ne hb] at e;exact e
theorem SI.QfL {H:Hp}{par:Bool}(I:SI C F H σ ρ τ fp)(es:ρ[i]? = some (some (mkS par (.lst ds)))):∃l vs f rest,σ[i]? = some (some (.ref l))/\H l=some (.lst vs)/\OL C.K F H vs ds f/\fp.Perm ((l::f)++rest)/\(∀b∈l::f,JM C par b)/\
  ∀{H':Hp} {vs':List L2.V} {ds':List D} {f':List Addr},H' l=some (.lst vs')->OL C.K F H' vs' ds' f'->(∀b,b∈rest->H' b=H b)->(∀b o,H b=some o->b∉l::f->H' b=some o)->(∀b,H' b=none->H b=none)->((l::f')++rest).Nodup->(∀b∈f',F b=none/\JM C par b)->SI C F H' σ (ρ.set i (some (mkS par (.lst ds')))) τ ((l::f')++rest):=by
 obtain⟨l,vs,f,rest,ex,hl,ol,pm,w,cl⟩:=I.QdL (t:=.lst) rfl es;exact⟨l,vs,f,rest,ex,hl,ol,pm,w,fun{H' vs' ds' f'} h=>cl (t':=.lst) h⟩
theorem SI.QfM {H:Hp}{par:Bool}(I:SI C F H σ ρ τ fp)(es:ρ[i]? = some (some (mkS par (.lst ds)))):∃l vs f rest,σ[i]? = some (some (.ref l))/\H l=some (.lst vs)/\OL C.K F H vs ds f/\fp.Perm ((l::f)++rest)/\(∀b∈l::f,JM C par b)/\
  ∀{vs':List L2.V} {ds':List D} {f':List Addr},OL C.K F H vs' ds' f'->((l::f')++rest).Nodup->(∀b∈f',F b=none/\JM C par b)->SI C F (upd H l (.lst vs')) σ (ρ.set i (some (mkS par (.lst ds')))) τ ((l::f')++rest):=by
 obtain⟨l,vs,f,rest,ex,hl,ol,pm,w,cl⟩:=I.QhL (t:=.lst) rfl es;exact⟨l,vs,f,rest,ex,hl,ol,pm,w,fun{vs' ds' f'} ol' nd fr=>cl (o:=.lst vs') (t':=.lst) upd_same ol' nd fr⟩
def QlI (i:Nat)(m:ME):MS:=fun ρ=>(Rs.of (Qbq ρ i)).bind fun _=>(m ρ).bind fun r=>(Rs.of (Qbq r.2 i)).bind fun q=>if q.2.length<z24 then .ok (.nx,r.2.set i (some (mkS q.1 (.lst (q.2++[r.1]))))) else .no
theorem QfN{np apos cpos:Pos}(hK:C.K=X.K)(hN:X.N[i]? = some x)(hv:Vis X.env.scope x)(he:PE X e (tX .O C p E m))(hs:swapsWith (.Call (.Attribute @20 "append" apos) [e] [] cpos) none pos.line X.env=pure false:=by rfl)
  (hbase:attributeBase @20 "append" X.env (eval @20 X.env)=eval @20 X.env:=by rfl) (hfew:((backTo cpos (starEach [e] X.env)).all (fun x=>!x.1) && (backToKw cpos (keywordEach [] X.env)).all (fun x=>x.1.isSome) && decide ([e].length+([]:List Keyword).length+(if([]:List Keyword).isEmpty then 0 else 1)<30))=true:=by rfl)
  (hline:(apos.endLine == cpos.line)=true:=by rfl) (hst:starEach [e] X.env=@16::starEach [] X.env:=by rfl) (hplain:(backTo cpos (starEach [] X.env)).any (·.1)=false:=by rfl) (hd:@10=false:=by decide) (hcd:@23=false:=by decide) :
  PS X (.Expr (.Call (.Attribute @20 "append" apos) [e] [] cpos) pos) (tS rk C E (QlI i m)):=
 Q8 (ps_expr (pe_bm zn0 zw6 zw5 mt_append (pe_var hN hv hd hcd) (pa_cons he pa_nil hst) hbase hfew hline hst hplain) hs) fun D σ H ⟨F,ρ,fp,I,h⟩=>by
 obtain⟨q0,e0,h⟩:=h.split.of;obtain⟨l0,vs0,f0,QeD,ex0,hl0,_⟩:=I.QfL (VG e0);refine⟨_,ex0,.inl ⟨rfl,vs0,SqL.of hl0⟩,F,ρ,[],fp,I,h.split.run.mono fun r hr F1 H1 fp1 v I1 n1 _=>?_⟩;obtain⟨q,eq,h2⟩:=hr.split.of;obtain⟨ft,QnC,ot,pmt,J,t0,tap,tnd⟩:=SI.pop (τ:=[]) I1;obtain⟨l,vs,f,rest,ex,hl,ol,pm,w,cl⟩:=J.QfM (VG eq);have el:l=l0:=by rw[ex0] at ex;cases ex;rfl
 subst el
 by_cases hz:q.2.length<z24
 ·rw[if_pos hz] at h2;have ndJ:=pm.nodup_iff.mp J.nd;refine⟨l,vs,v,rfl,rfl,hl,by rw[ol.length];exact hz,?_⟩;refine h2 F1 _ σ _ n1.f (cl (ol.snoc ot) ?_ fun b hb=>?_)
  ·have pp:(ft++((l::f)++rest)).Perm ((l::(f++ft))++rest):=by
    rw[z91];intro a;simp only[ze1,zp7];lia
   exact pp.nodup_iff.mp ((pm.append_left ft).nodup_iff.mp tnd)
  ·rcases z08.mp hb with z|z
   ·exact⟨J.ap b (pm.mem_iff.mpr (by simp[z])),w b (z07 _ z)⟩
   ·exact⟨tap b z,.inl (t0 b z)⟩
 ·rw[if_neg hz] at h2;exact h2.elim
noncomputable def asL:D->Option (List D)
 |.nd .lst ds=>some ds
 |_=>none
theorem QdM(h:asL d=some ds):d=.nd .lst ds:=by
 unfold asL at h
 split at h
 ·cases h;rfl
 ·cases h
noncomputable def asI:D->Option Int
 |.int i=>some i
 |_=>none
theorem QfO{i:Int}(h:asI d=some i):d=.int i:=by
 cases d<;>cases h
 rfl
def QiG (i:Nat)(m mi:ME):MS:=fun ρ=>(m ρ).bind fun r=>(Rs.of (Qbq r.2 i)).bind fun _=>(mi r.2).bind fun s=>(Rs.of (Qbq s.2 i)).bind fun q=>(Rs.of ((asI s.1).bind fun n=>ixN q.2.length n)).bind fun j=>
 .ok (.nx,s.2.set i (some (mkS q.1 (.lst (q.2.set j r.1)))))
theorem QlJ{i:Int}(h:ixN n i=some j):j<n:=by
 unfold ixN at h
 split at h
 ·split at h
  ·cases h;lia
  ·cases h
 ·split at h
  ·cases h;lia
  ·cases h
theorem QcX{np:Pos}{ix:Expr}(hK:C.K=X.K)(hN:X.N[i]? = some x)(hv:Vis X.env.scope x)(he:PE X e (tX .O C pa E m))(hi:PE X ix (tX kb C pb E mi))(ok:kb.on true=true:=by rfl)
  (hs:swapsWithSole [.Subscript @20 ix spos] e pos.line X.env=pure false:=by rfl) (hw:swappedStores [.Subscript @20 ix spos] e X.env=pure none:=by rfl)
  (h1:(assignEach [.Subscript @20 ix spos] X.env).map (·.2)=[assign (.Subscript @20 ix spos) X.env]:=by rfl)
  (hg:PG X (.Subscript @20 ix spos) (L2.gSub (tVar i) (tX kb C pb E mi) rSetL)) :
  PS X (.Assign [.Subscript @20 ix spos] e pos) (tS rk C E (QiG i m mi)):=
 Q8 (ps_asg he hg hs hw h1) fun D σ H ⟨F,ρ,fp,I,h⟩=>by
 refine⟨F,ρ,[],fp,I,h.split.run.mono fun r hr F1 H1 fp1 v I1 n1 _=>?_⟩;obtain⟨q0,e0,hr⟩:=hr.split.of;obtain⟨l0,vs0,f0,QeD,ex0,hl0,_⟩:=SI.QfL I1 (VG e0);refine⟨_,ex0,F1,r.2,[(v,r.1)],fp1,I1,hr.split.run.mono fun s hs F2 H2 fp2 iv I2 n2 f2=>?_⟩;rw[Kd.J4 ok] at I2;obtain⟨q,eq,h2⟩:=hs.split.of;obtain⟨j,ej,h3⟩:=h2.split.of;obtain⟨n,en,ejn⟩:=z27.mp ej;have riv:=Kd.stay ok f2 .refl I2;rw[QfO en] at riv;obtain rfl:=riv.Qu (w:=.int n) rfl;obtain⟨ft,QnC,ot,pmt,J,t0,tap,tnd⟩:=SI.pop (τ:=[]) I2;obtain⟨l,vs,f,rest,ex,hl,ol,pm,w,cl⟩:=J.QfM (VG eq);have el:l=l0:=by rw[ex0] at ex;cases ex;rfl
 subst el;have lj:j<q.2.length:=QlJ ejn;obtain⟨f1,fj,f2',v0,d0,rfl,_,_,_,ks⟩:=ol.setAt lj;refine⟨l,vs,n,j,rfl,rfl,hl,by rw[ol.length];exact ejn,?_⟩;refine h3 F2 _ σ _ (n1.f.trans n2.f) (cl (ks (Same.refl _) (fun _ _=>rfl) ot) ?_ fun b hb=>?_)
 ·have big:=(pm.append_left ft).nodup_iff.mp tnd
  have pp:(ft++((l::(f1++(fj++f2')))++rest)).Perm (fj++((l::(f1++(ft++f2')))++rest)):=by
   rw[z91];intro a;simp only[ze1,zp7];lia
  exact(z12.mp (pp.nodup_iff.mp big)).2.1
 ·simp only[z08] at hb;rcases hb with z|z|z
  ·exact⟨J.ap b (pm.mem_iff.mpr (by simp[z])),w b (by simp[z])⟩
  ·exact⟨tap b z,.inl (t0 b z)⟩
  ·exact⟨J.ap b (pm.mem_iff.mpr (by simp[z])),w b (by simp[z])⟩
end
section
variable {c:Expr}{mb mi:ME}{k ka:Kd}
def QnD (K:z02):R2:=fun x y H Q=>∃l b xs zs,x=.ref l/\y=.ref b/\SqL K H l xs/\SqL K H b zs/\xs.length+zs.length<=z24/\∀p,H p=none->Q (.ref p) (upd H p (.lst (xs++zs)))
theorem QjJ:OpR X (binaryOp .Add) (QnD X.K):=by
 intro pins s σ H x y v u Q I rx ry h;obtain⟨l,b,xs,zs,rfl,rfl,hH,hB,hz,q⟩:=h;cases rx
 cases ry
 obtain⟨its,r,pl,z⟩:=I.list hH;obtain⟨its2,r2,pl2,z2⟩:=I.list hB;obtain⟨⟨cls,dd,data,sl⟩,n,ho,hc,hdd,hd⟩:=pl;obtain⟨⟨cls2,dd2,data2,sl2⟩,n2,ho2,hc2,Qpi,hd2⟩:=pl2;cases hc;cases hd;cases hc2;cases hd2
 have hl:=r.length;have hl2:=r2.length;refine PySem.concat_meets ⟨_,ho,rfl⟩ ⟨_,ho2,rfl⟩ PySem.noFill_list_add PySem.seq_list_add PySem.F.slot_list_add PySem.F.entry_list_add (PySem.F.args_list_add_2 _ _) (PyProof.Rows.list_addW l b its.toArray its2.toArray n n2 dd dd2 sl sl2 (by rw[z22,z22];lia)) ⟨ho,ho2,?_⟩;have ea:its.toArray++its2.toArray=(its++its2).toArray:=by simp
 rw[ea];exact⟨.ref _,_,I.lnew (t':=s.toks) (r.append r2) (by rw[z10];lia),rfl,q _ I.fresh⟩
abbrev MO:=Rho->Rs (Option Int×Rho)
def tO (C:Cn)(p:Bool)(E:XE)(m:MO):TO:=fun σ H Q=>∃F ρ τ fp,SI C F H σ ρ τ fp/\Run C E σ (m ρ) fun r=>∀F' H' fp',SI C F' H' σ r.2 τ fp'->Nx p F H fp F' H' fp'->Q r.1 H'
def QeH:MO:=fun ρ=>.ok (none,ρ)
def QbV (m:ME):MO:=fun ρ=>(m ρ).bind fun r=>(Rs.of (asI r.1)).bind fun i=>.ok (some i,r.2)
theorem QfP {e:Option Expr}{t t':TO}(h:PO X e t)(k:∀σ H Q,t' σ H Q->t σ H Q):PO X e t':=fun pins s σ H Q I q=>h pins s σ H Q I (k _ _ _ q)
theorem QfQ:PO X none (tO C true E QeH):=QfP po_none fun σ H Q ⟨F,ρ,τ,fp,I,h⟩=>h F H fp I .refl
theorem Y8 (h:PE X e (tX k C p E m))(ok:k.on true=true:=by rfl):PO X (some e) (tO C p E (QbV m)):=QfP (po_some h) fun σ H Q ⟨F,ρ,τ,fp,I,h⟩=>by
 refine⟨F,ρ,τ,fp,I,h.split.mono fun r1 h1 F1 H1 fp1 v1 I1 n1 f1=>?_⟩;rw[Kd.J4 ok] at I1;obtain⟨i,ei,h2⟩:=h1.split.of;have rr:=Kd.stay ok f1 .refl I1;rw[QfO ei] at rr;exact⟨i,rr.Qu rfl,h2 F1 H1 fp1 I1 n1⟩
noncomputable def cutD {α:Type}(xs:List α)(lo hi:Option Int):List α:=(xs.drop (HT.sIx xs.length 0 lo)).take (HT.sIx xs.length xs.length hi - HT.sIx xs.length 0 lo)
theorem RL.drop {K:z02}{F:Hp}{vs:List L2.V}{ds:List D}(n:Nat)(r:RL K F vs ds):RL K F (vs.drop n) (ds.drop n):=by
 induction n generalizing vs ds with
 |zero=>exact r
 |succ n ih=>cases r with
  |nil=>exact .nil
  |cons _ r=>exact ih r
theorem RL.take {K:z02}{F:Hp}{vs:List L2.V}{ds:List D}(n:Nat)(r:RL K F vs ds):RL K F (vs.take n) (ds.take n):=by
 induction n generalizing vs ds with
 |zero=>exact .nil
 |succ n ih=>cases r with
  |nil=>exact .nil
  |cons h r=>exact .cons h (ih r)
theorem RL.cut{lo hi:Option Int}(r:RL K F vs ds):RL K F (cutV vs lo hi) (cutD ds lo hi):=by
 unfold cutV cutD;rw[r.length];exact(r.drop _).take _
variable {hi:Option Expr}
def Qm0:D->Option Key
 |.int i=>some (.inl i)
 |.str s=>some (.inr s)
 |_=>none
def QjK:List D->Option (List Key)
 | []=>some []
 |d::ds=>(Qm0 d).bind fun k=>(QjK ds).map (k::·)
def Qm1:D->Option (List Key)
 |.nd .tup ds=>(QjK ds).bind fun k=>if k.length=2 then some k else none
 |_=>none
def QnE:List D->Option (List Key)
 | [a,b]=>(Qm1 a).bind fun k=>(Qm1 b).map (k++·)
 |_=>none
def QnF (ds:List D):Option (List Key)->Option (List Key)
 |some k=>if k.length=4 then none else some k
 |none=>QnE ds
def Qcl:D->Option (List Key)
 |.nd .tup ds=>QnF ds (QjK ds)
 |_=>none
theorem QcY {K:z02}{F:Hp}:∀{vs:List L2.V} {ds:List D} {ks:List Key},RL K F vs ds->QjK ds=some ks->vs=ks.map kV
 |_,_,_,.nil,e=>by unfold QjK at e;cases e;rfl
 |_,_,_,.cons (d:=d) h r,e=>by
  unfold QjK at e;obtain⟨k,h1,h2⟩:=z27.mp e;obtain⟨ks,h3,rfl⟩:=z03.mp h2;rw[z28,← QcY r h3]
  cases d with
  |int i=>cases h1;rw[h.Qu (w:=.int i) rfl];rfl
  |str z=>cases h1;rw[h.Qu (w:=.str z) rfl];rfl
  |_=>cases h1
theorem QiH{ks:List Key}(r:R K F v d)(e:Qm1 d=some ks):∃b,v=.ref b/\ks.length=2/\F b=some (.tup (ks.map kV)):=by
 unfold Qm1 at e
 split at e
 ·obtain⟨a,vs,rfl,h1,h2⟩:=r.inv;obtain⟨k,e1,e2⟩:=z27.mp e
  by_cases c:k.length=2
  ·rw[if_pos c] at e2;cases e2
   cases QcY h2 e1
   exact⟨a,rfl,c,h1⟩
  ·rw[if_neg c] at e2;cases e2
 ·cases e
theorem QdN{ks:List Key}(r:R K F v d)(e:Qcl d=some ks):∃b,v=.ref b/\YB F b ks:=by
 unfold Qcl at e
 split at e
 ·obtain⟨a,vs,rfl,h1,h2⟩:=r.inv
  cases ek:QjK _ with
  |some k=>
   rw[ek] at e
   by_cases c:k.length=4
   ·rw[show QnF _ (some k)=none from if_pos c] at e;cases e
   ·rw[show QnF _ (some k)=some k from if_neg c] at e;cases e
    cases QcY h2 ek
    exact⟨a,rfl,.inl ⟨c,h1⟩⟩
  |none=>
   rw[ek] at e;have e:QnE _=some ks:=e;unfold QnE at e
   split at e
   ·obtain⟨k1,e1,e2⟩:=z27.mp e;obtain⟨k2,e2,e3⟩:=z03.mp e2
    cases h2 with
    |cons r1 h2=>
     cases h2 with
     |cons r2 h2=>
      cases h2
      obtain⟨p,rfl,l1,f1⟩:=QiH r1 e1;obtain⟨q,rfl,l2,f2⟩:=QiH r2 e2;exact⟨a,rfl,.inr ⟨k1,k2,p,q,e3.symm,l1,l2,h1,f1,f2⟩⟩
   ·cases e
 ·cases e
def QlK:ME:=fun ρ=>.ok (.nd (.dT []) [],ρ)
theorem Qbr:PE X (.Dict [] [] pos) (tX .O C true E QlK):=Qm pe_dnewT fun σ H Q ⟨F,ρ,τ,fp,I,h⟩=>fun q hq=>by
 have J:=I.lay0 (o:=.dT []) hq
 have nq:q∉fp:=fun z=>by
  obtain⟨o,e,_⟩:=I.mem q z;rw[hq] at e;cases e
 refine h F _ _ (.ref q) (J.push (f:=[q]) (.mt (t:=.dT []) (vs:=[]) ⟨rfl,upd_same⟩ .nil) (fun a ha=>?_) (fun a ha=>?_) (z12.mpr ⟨by simp,I.nd,fun x hx y hy z=>?_⟩)) ⟨Same.refl _,fun _=>V1 I hq⟩ z64
 ·rw[z16.mp ha];exact I.dm q hq
 ·rw[z16.mp ha];exact I.fh.free hq
 ·subst z;rw[z16.mp hx] at hy;exact nq hy
def QeM:D->D->Option Bool
 |y,.nd (.dT ks) _=>(Qcl y).map fun k=>ks.any fun x=>decide (x=k)
 |_,_=>none
theorem QdO {κ:Type}[DecidableEq κ]:∀{ks:List κ} {vs:List V} {k:κ},ks.length=vs.length->(valV (ks.zip vs) k).isSome=ks.any fun x=>decide (x=k)
 | [],[],k,_=>rfl
 | [],_::_,_,h=>by cases h
 |_::_,[],_,h=>by cases h
 |x::ks,v::vs,k,h=>by
  rw[z88]
  by_cases e:x=k
  ·rw[valV_pos e,za6,decide_eq_true e];rfl
  ·rw[valV_neg e,QdO (by simpa using h),za6,decide_eq_false e];rfl
def QjL (f:Bool->Bool)(my md:ME):ME:=fun ρ=>(my ρ).bind fun r1=>(md r1.2).bind fun r2=>Rs.of ((QeM r1.1 r2.1).map fun b=>(.bl (f b),r2.2))
theorem QfR {H:Hp}{u:L2.V}{q:Bool}(hs:Same F H)(r1:R C.K F v y)(r2:R C.K F u d)(eg:QeM y d=some q):∃l o,u=.ref l/\DGet H l v o/\o.isSome=q:=by
 unfold QeM at eg
 split at eg
 ·obtain⟨l,us,rfl,h1,h2⟩:=r2.inv;obtain⟨k,ek,rfl⟩:=z03.mp eg;obtain⟨bb,rfl,hb⟩:=QdN r1 ek;exact⟨l,_,rfl,(.inr ⟨_,_,_,h1.2.same hs,rfl,(hb.mono fun _ _=>hs _ _),rfl⟩),QdO h1.1⟩
 ·cases eg
theorem QiI (hu:X.A.units+2<cLine)(hy:PE X a (tX ka C pa E ma))(hd:PE X b (tX kb C pb E mb))(ok:ka.on pb=true:=by rfl)(ok2:kb.on true=true:=by rfl)(hm:behindInMarks .In b=false:=by rfl):PT X (.Compare a [.In] [b] pos) (tT C (pa && pb) E (Jj (QjL id ma mb))):=Qbm (pt_cmp (pc_din hu hy hd) hm) fun σ H Q h=>by
 obtain⟨F,ρ,τ,fp,I,h⟩:=Qag (k:=.V) rfl h;refine⟨F,ρ,τ,fp,I,h.split.mono fun r1 h1 F1 H1 fp1 v1 I1 n1 f1=>?_⟩;rw[Kd.J4 ok] at I1;refine⟨F1,r1.2,τ,fp1,I1,h1.split.mono fun r2 h2 F2 H2 fp2 v2 I2 n2 f2=>?_⟩;rw[Kd.J4 ok2] at I2;obtain⟨z,ez,h3⟩:=h2.of;obtain⟨q,eg,rfl⟩:=z03.mp ez;obtain⟨l,o,rfl,hg,rfl⟩:=QfR (JD I2.fh) (Kd.stay ok f1 n2 I2) (Kd.stay ok2 f2 .refl I2) eg;exact⟨l,o,rfl,hg,h3 F2 H2 fp2 _ I2 (n1.trans n2) (.sc rfl)⟩
theorem QfS (hu:X.A.units+2<cLine)(hy:PE X a (tX ka C pa E ma))(hd:PE X b (tX kb C pb E mb))(ok:ka.on pb=true:=by rfl)(ok2:kb.on true=true:=by rfl)(hm:behindInMarks .NotIn b=false:=by rfl):PT X (.Compare a [.NotIn] [b] pos) (tT C (pa && pb) E (Jj (QjL not ma mb))):=Qbm (pt_cmp (pc_dnotin hu hy hd) hm) fun σ H Q h=>by
 obtain⟨F,ρ,τ,fp,I,h⟩:=Qag (k:=.V) rfl h;refine⟨F,ρ,τ,fp,I,h.split.mono fun r1 h1 F1 H1 fp1 v1 I1 n1 f1=>?_⟩;rw[Kd.J4 ok] at I1;refine⟨F1,r1.2,τ,fp1,I1,h1.split.mono fun r2 h2 F2 H2 fp2 v2 I2 n2 f2=>?_⟩;rw[Kd.J4 ok2] at I2;obtain⟨z,ez,h3⟩:=h2.of;obtain⟨q,eg,rfl⟩:=z03.mp ez;obtain⟨l,o,rfl,hg,rfl⟩:=QfR (JD I2.fh) (Kd.stay ok f1 n2 I2) (Kd.stay ok2 f2 .refl I2) eg;exact⟨l,o,rfl,hg,h3 F2 H2 fp2 _ I2 (n1.trans n2) (.sc rfl)⟩
noncomputable def Qcm (ρ:Rho)(i:Nat):Option (Bool×List (List Key)×List D):=match ρ[i]? with
 |some (some (.own (.nd (.dT ks) ds)))=>some (false,ks,ds)
 |some (some (.par (.nd (.dT ks) ds)))=>some (true,ks,ds)
 |_=>none
theorem QcZ(h:Qcm ρ i=some q):ρ[i]? = some (some (mkS q.1 (.nd (.dT q.2.1) q.2.2))):=by
 unfold Qcm at h
 split at h
 ·next e=>cases h;exact e
 ·next e=>cases h;exact e
 ·cases h
noncomputable def putD {κ:Type}[DecidableEq κ](ks:List κ)(ds:List D)(k:κ)(d:D):List κ×List D:=if(ks.any fun x=>decide (x=k))=true then(ks,zd2 (fun x y=>if x=k then d else y) ks ds) else(ks++[k],ds++[d])
theorem Qc0 {κ:Type}[DecidableEq κ]{k:κ}:∀{ks:List κ} {vs:List V},ks.length=vs.length->((ks.zip vs).any fun kv=>decide (kv.1=k))=ks.any fun x=>decide (x=k)
 | [],[],_=>rfl
 | [],_::_,h=>by cases h
 |_::_,[],h=>by cases h
 |x::ks,v::vs,h=>by rw[z88,za6,za6,Qc0 (by simpa using h)]
theorem QdP {κ:Type}[DecidableEq κ]{k:κ}{v:V}:∀{ks:List κ} {vs:List V},ks.length=vs.length->(ks.zip vs).map (fun kv=>if kv.1=k then(kv.1,v) else kv)=ks.zip (zd2 (fun x y=>if x=k then v else y) ks vs)
 | [],[],_=>rfl
 | [],_::_,h=>by cases h
 |_::_,[],h=>by cases h
 |x::ks,y::vs,h=>by
  rw[z88,z28,zb1,z88,QdP (by simpa using h)]
  by_cases e:x=k
  ·simp[e]
  ·simp[e]
theorem Qc1 {κ:Type}[DecidableEq κ]{K:z02}{F:Hp}{k:κ}{v:L2.V}{d:D}(hv:R K F v d):∀{ks:List κ} {vs:List L2.V} {ds:List D},RL K F vs ds->RL K F (zd2 (fun x y=>if x=k then v else y) ks vs) (zd2 (fun x y=>if x=k then d else y) ks ds)
 | [],_,_,.nil=>.nil
 | [],_,_,.cons _ _=>.nil
 |_::_,_,_,.nil=>.nil
 |x::ks,_,_,.cons h r=>by
  rw[zb1,zb1]
  by_cases e:x=k
  ·rw[if_pos e,if_pos e];exact .cons hv (Qc1 hv r)
  ·rw[if_neg e,if_neg e];exact .cons h (Qc1 hv r)
theorem Qcn {κ:Type}[DecidableEq κ]{k:κ}{d:D}(hd:d.imm=true):∀{ks:List κ} {ds:List D},D.Jb ds=true->D.Jb (zd2 (fun x y=>if x=k then d else y) ks ds)=true
 | [],_,_=>rfl
 |_::_,[],_=>rfl
 |x::ks,y::ds,h=>by
  obtain⟨h1,h2⟩:=Jd h;rw[zb1,D.Jb,z76];refine⟨?_,Qcn hd h2⟩
  by_cases e:x=k
  ·rw[if_pos e];exact hd
  ·rw[if_neg e];exact h1
theorem OL.rl{H:Hp}{f:List Addr}(o:OL K F H vs ds f)(hi:D.Jb ds=true):RL K F vs ds:=by
 have e:=o.Qoq hi;subst e;exact o.r (Same.refl F) @5
def Qbs (i:Nat)(mv mk:ME):MS:=fun ρ=>(mv ρ).bind fun r=>(Rs.of (Qcm r.2 i)).bind fun _=>(mk r.2).bind fun s=>(Rs.of (Qcm s.2 i)).bind fun q=>(Rs.of (Qcl s.1)).bind fun k=>
 if q.2.1.length<z24 then(if(r.1.imm && D.Jb q.2.2)=true then .ok (.nx,s.2.set i (some (mkS q.1 (.nd (.dT (putD q.2.1 q.2.2 k r.1).1) (putD q.2.1 q.2.2 k r.1).2)))) else .no) else .no
theorem Qaw{np:Pos}{ix:Expr}(hu:X.A.units+2<cLine)(hN:X.N[i]? = some x)(hv:Vis X.env.scope x)(he:PE X e (tX .V C pa E m))(hi:PE X ix (tX .V C pb E mi))(hs:swapsWith e (some (.Subscript @20 ix spos)) pos.line X.env=pure false:=by rfl)(hd:@10=false:=by decide)(hcd:@23=false:=by decide) :
  PS X (.Assign [.Subscript @20 ix spos] e pos) (tS rk C E (Qbs i m mi)):=Q8 (ps_dput hu (pe_var hN hv hd hcd) hi he hs) fun DD σ H ⟨F,ρ,fp,I,h⟩=>by
 refine⟨F,ρ,[],fp,I,h.split.run.mono fun r hr F1 H1 fp1 v I1 n1 f1=>?_⟩;obtain⟨q0,e0,hr⟩:=hr.split.of;obtain⟨l0,vs0,g0,QeD,ex0,hl0,_⟩:=SI.QhL I1 rfl (QcZ e0);refine⟨_,ex0,F1,r.2,[],fp1,I1,hr.split.run.mono fun s hs F2 H2 fp2 kv I2 n2 f2=>?_⟩;obtain⟨q,eq,h2⟩:=hs.split.of;obtain⟨key,ek,h3⟩:=h2.split.of;obtain⟨l,vs,f,rest,ex,hl,ol,pm,w,cl⟩:=SI.QhL I2 rfl (QcZ eq);have el:l=l0:=by rw[ex0] at ex;cases ex;rfl
 subst el
 by_cases hz:q.2.1.length<z24
 ·rw[if_pos hz] at h3
  by_cases hi:(r.1.imm && D.Jb q.2.2)=true
  ·rw[if_pos hi] at h3;obtain⟨i1,i2⟩:=z75.mp hi;obtain⟨bb,rfl,hb⟩:=QdN f2 ek;have rl:=ol.rl i2;have rv:R C.K F2 v r.1:=R.same n2.f f1;have ef:f=[]:=ol.Qoq i2;subst ef;have lv:q.2.1.length=vs.length:=hl.1;have hkv:(q.2.1.zip vs).length<z24:=by rw[zi1,← lv,zm4];exact hz
   refine⟨l,_,rfl,DPut.t hl.2 (hb.mono fun _ _=>I2.fh _ _) hkv,?_⟩
   have fin:∀{vs':List L2.V},putK (q.2.1.zip vs) key v=(putD q.2.1 q.2.2 key r.1).1.zip vs'->(putD q.2.1 q.2.2 key r.1).1.length=vs'.length->RL C.K F2 vs' (putD q.2.1 q.2.2 key r.1).2->D.Jb (putD q.2.1 q.2.2 key r.1).2=true->DD.nx σ (upd H2 l (.dT (putK (q.2.1.zip vs) key v))):=fun{vs'} e1 e2 r' hi'=>by
    rw[e1];exact h3 F2 _ σ _ (n1.f.trans n2.f) (cl (t':=.dT _) (vs':=vs') ⟨e2,upd_same⟩ (r'.o hi') (pm.nodup_iff.mp I2.nd) @5)
   unfold putD at fin
   by_cases c:(q.2.1.any fun x=>decide (x=key))=true
   ·rw[if_pos c] at fin;refine fin (vs':=zd2 (fun x y=>if x=key then v else y) q.2.1 vs) ?_ (by rw[List.length_zipWith,← lv,zm4]) (Qc1 rv rl) (Qcn i1 i2);unfold putK;rw[Qc0 lv,if_pos c,QdP lv]
   ·rw[if_neg c] at fin;refine fin (vs':=vs++[v]) ?_ (by simp[lv]) (rl.app (.cons rv .nil)) (Qhy i2 (J7 fun d hd=>by rw[z16.mp hd];exact i1));unfold putK;rw[Qc0 lv,if_neg c,zp1 lv];rfl
  ·rw[if_neg hi] at h3;exact h3.elim
 ·rw[if_neg hz] at h3;exact h3.elim
end
section
variable {pc:Bool}{c:Expr}{mi:ME}{k:Kd}
theorem Qc2 {xs:List D}(h:(ds[n]?).bind asL=some xs):ds[n]? = some (.nd .lst xs):=by
 obtain⟨d,e1,e2⟩:=z27.mp h;rw[e1,QdM e2]
def QhM:List D->Option @13
 | [.int i,.int j]=>if -(2 ^ 62)<=i/\i<2 ^ 62/\-(2 ^ 62)<=j/\j<2 ^ 62 then some (i,j) else none
 |_=>none
def QjM (mr:MA):MA:=fun ρ=>(mr ρ).bind fun r=>(Rs.of (QhM r.1)).bind fun n=>.ok ((z41 (n.2 - n.1).toNat).map fun j=>.int (n.1+(j:Nat)),r.2)
theorem QjN {tg:Expr}(hm:X.mg "range" = none)(ha:PA X [a,b] (tA ks C p E mr))(ok:rdL ks=true:=by rfl)(hg:Gl X "range" := by rfl)(hs:starEach [a,b] X.env=[(false,eval a X.env),(false,eval b X.env)]:=by rfl)(hs2:starEach [b] X.env=[(false,eval b X.env)]:=by rfl):PI X tg (.Call (.Name "range" px) [a,b] [] pos) (tI C p E (QjM mr)):=Y6 (pi_range2 hg hm ha hs hs2) fun σ H RR ⟨F,ρ,τ,fp,I,h⟩=>by
 refine⟨F,ρ,τ,fp,I,h.split.mono fun r hr F1 H1 fp1 vs I1 n1 f1=>?_⟩;rw[Je ok] at I1;obtain⟨n,eg,h2⟩:=hr.split.of;have rl:=f1.rd I1 ok;unfold QhM at eg
 split at eg
 ·next i j ed=>
  rw[ed] at rl;obtain⟨v,u,rfl,rv,ru⟩:=rl.two;obtain rfl:=rv.Qu (w:=.int i) rfl;obtain rfl:=ru.Qu (w:=.int j) rfl
  by_cases c : -(2 ^ 62)<=i/\i<2 ^ 62/\-(2 ^ 62)<=j/\j<2 ^ 62
  ·rw[if_pos c] at eg;cases eg;exact⟨i,j,rfl,c,h2 F1 H1 fp1 _ I1 n1 Qfr⟩
  ·rw[if_neg c] at eg;cases eg
 ·cases eg
theorem QeN {A:Around}{k:Nat}(hr:Room k A):A.units+30<cLine:=by have:=hr.units;lia
theorem QoZ {A:Around}{k:Nat}(hr:Room k A):A.units+30+1<cLine:=by have:=hr.units;lia
theorem QiJ (hK:C.K=X.K):OpD C.K (QkS X.K 30 id) gEq:=by rw[hK];exact dEq
theorem Qm2 (hK:C.K=X.K):OpD C.K (QkS X.K 30 not) gNe:=by rw[hK];exact dNe
theorem Qo0 (hK:C.K=X.K):OpD C.K (QnA X.K 30 id) gIn:=by rw[hK];exact dIn
theorem xb (i:Nat){pos:Pos}(hN:X.N[i]? = some x:=by rfl)(hv:Vis X.env.scope x:=by first|exact z36 rfl|exact z57 @9|exact z57 (z57 rfl))(hd:@10=false:=by decide)(hcd:@23=false:=by decide):PE X (.Name x pos) (tX .B C true E (mB i)):=Qll hN hv hd hcd
theorem xv (i:Nat){pos:Pos}(hN:X.N[i]? = some x:=by rfl)(hv:Vis X.env.scope x:=by first|exact z36 rfl|exact z57 @9|exact z57 (z57 rfl))(hd:@10=false:=by decide)(hcd:@23=false:=by decide):PE X (.Name x pos) (tX .V C true E (mV i)):=Qlm hN hv hd hcd
theorem xo (i:Nat){pos:Pos}(hN:X.N[i]? = some x:=by rfl)(hv:Vis X.env.scope x:=by first|exact z36 rfl|exact z57 @9|exact z57 (z57 rfl))(hd:@10=false:=by decide)(hcd:@23=false:=by decide):PE X (.Name x pos) (tX .O C true E (mO i)):=Qln hN hv hd hcd
theorem xs (i:Nat){pos:Pos}(hN:X.N[i]? = some x:=by rfl)(hv:Vis X.env.scope x:=by first|exact z36 rfl|exact z57 @9|exact z57 (z57 rfl))(hd:@10=false:=by decide)(hcd:@23=false:=by decide):PE X (.Name x pos) (tX (.S i) C true E (mS i)):=Qls hN hv hd hcd
theorem spk {P:Program}{w:World}{mg:Str->Option Value}{base:Heap}{ps:List Str}{f:List D->Fr}(D:VB P w K mg base n x ps (spF K io rk f))(hC:C.K=K):VB P w K mg base n x ps (spF C.K io rk f):=by rw[hC];exact D
def QlL (i:Nat)(m:ME):MS:=YG i m
theorem QjO {elt iter:Expr}{y:Str}{py pos:Pos}{ifs:List Expr}{scope:Scope}{N:List Str}{i0:Nat}{par:Bool}{mi:MA}{me:ME}{pc pe:Bool}(hK:C.K=X.K)(hc:X.calm=true)(hXN:X.N.Nodup)(hi0:X.N[i0]? = some y)(hy:Loc X.env.scope y)(B:Blk X scope N (cs.map Cp.ix))(hjN:N[j]? = some x)(hj:cs[j]? = some .me)(hx:scope.names.lookup x=some .local)(hi:PI X (.Name x px) iter (tI C pa E mi))
  (ht:∀pins c s H ex,PIf (X.blk scope N pins c s H ex) ifs (exT X.K pc mt)) (he:∀pins c s H ex,PE (X.blk scope N pins c s H ex) elt (exX .O X.K pe me)) (nd:(cs.filterMap Cp.is).Nodup:=by decide)
  (hsw:swapsWith (.ListComp elt [⟨.Name x px,iter,ifs,0⟩] scope pos) (some (.Name y py)) spos.line X.env=pure true:=by rfl)
  (hf:X.fn y=true\/X.env.scope.names.lookup y=some .local:=by first|exact .inl rfl|exact .inr rfl|assumption)
  (hs:∀x,foldedSetIterable iter X.env x=pure x:=by intro _;rfl):PS X (.Assign [.Name y py] (.ListComp elt [⟨.Name x px,iter,ifs,0⟩] scope pos) spos) (tS rk C E (QlL i0 (JN par cs j mi mt me))):=
 Q8 (Qhh hc hXN hi0 hy B hi (fun _ _ _ _ _=>pg_name (i:=j) B.nd hjN (.inl (lookup_relabel_local hx)) (.inr (lookup_relabel_local hx))) ht he hsw hf hs) fun D σ H h=>by
  have q:=Qfo (p:=pa && false) h;refine Qci (p:=false) (par:=par) hK hj nd (fun z=>nomatch z) ?_;obtain⟨F,ρ,τ,fp,I,r⟩:=q
  exact⟨F,ρ,τ,fp,I,r.mono fun a z F' H' fp' v I' n f=>by
   obtain⟨F2,rest,J,sf,rr,je⟩:=SI.freeze (show SI C F' H' σ a.2 ((v,a.1)::τ) fp' from I')
   exact z F2 H' rest v J ⟨n.f.trans sf,fun hp=>by rw[je];exact n.g hp⟩ rr⟩
end
def W(r:Rs α)(k:α->Prop):Prop:=∃a,r=.ok a/\k a
section
variable {β:Type}{k:α->Prop}
theorem Qhb {a:α}:W (.ok a) k↔k a:=⟨fun⟨b,e,h⟩=>by cases e;exact h,fun h=>⟨a,rfl,h⟩⟩
theorem QB {x:Rs β}{f:β->Rs α}:W (x.bind f) k↔W x fun a=>W (f a) k:=by
 cases x with
 |ok a=>exact⟨fun h=>⟨a,rfl,h⟩,fun⟨b,e,h⟩=>by cases e;exact h⟩
 |ex c ρ=>exact⟨fun⟨_,e,_⟩=>(nomatch e),fun⟨_,e,_⟩=>(nomatch e)⟩
 |no=>exact⟨fun⟨_,e,_⟩=>(nomatch e),fun⟨_,e,_⟩=>(nomatch e)⟩
theorem QnG {a:α}:W (Rs.of (some a)) k↔k a:=Qhb
theorem QlM {c:Prop}[Decidable c]{x y:Rs α}(h1:c->W x k)(h2:¬c->W y k):W (if c then x else y) k:=by
 by_cases h:c
 ·rw[if_pos h];exact h1 h
 ·rw[if_neg h];exact h2 h
theorem W.mono {r:Rs α}{k':α->Prop}(h:W r k)(m:∀a,k a->k' a):W r k':=by obtain⟨a,e,h⟩:=h;exact⟨a,e,m a h⟩
theorem W.eq {r:Rs α}{a:α}(h:W r fun b=>b=a):r=.ok a:=by obtain⟨b,e,rfl⟩:=h;exact e
end
theorem Jz{r r':Rs α}{k:α->Prop}(h:r=r'):W r k=W r' k:=by rw[h]
def FW (r:Fr)(P:D->List D->Prop):Prop:=∃d os,r=.ok d os/\P d os
theorem Jk(h:W (mb (QlC io n ds)) fun q=>∃d os,q.1=.rt d/\outs io q.2=some os/\P d os):FW (YX io n mb ds) P:=by
 obtain⟨⟨f,ρ⟩,e,d,os,rfl,ho,p⟩:=h;refine⟨d,os,?_,p⟩;unfold YX;rw[e];dsimp only at ho ⊢;rw[ho]
theorem QiK {par:Bool}(h1:mr ρ=.ok (args,ρ1))(h2:YH par ρ1 (as.filterMap id)=some dis)(h3:FW (f (QeL as args dis)) P)
  (h4:∀d os,P d os->k (d,YW par ρ1 (as.filterMap id) os)):W (Jf par as f mr ρ) k:=by
 obtain⟨d,os,e,p⟩:=h3;refine⟨_,?_,h4 d os p⟩;unfold Jf;rw[h1];show((Rs.of (YH par ρ1 (as.filterMap id))).bind _)=_;rw[h2];show(match f (QeL as args dis) with|.ok d outs=>_|.ex c=>_|.no=>_)=_;rw[e]
theorem QjP(h1:mr ρ=.ok (args,ρ1))(h3:FW (f args) P)(h4:∀d os,P d os->(rk=.V->d.imm=true)/\k (d,ρ1)):W (JG rk f mr ρ) k:=by
 obtain⟨d,os,e,p⟩:=h3;refine⟨_,?_,(h4 d os p).2⟩;unfold JG;rw[h1];show(match f args with|.ok d _=>_|.ex c=>_|.no=>_)=_;rw[e]
 cases rk with
 |V=>show(if d.imm=true then _ else _)=_;rw[if_pos ((h4 d os p).1 rfl)]
 |O=>rfl
 |B=>rfl
 |S i=>rfl
theorem JK {m u:MS}{k:Fl×Rho->Prop}(J:Rho->Prop)(h1:W (m ρ) fun r=>r.1=.nx/\J r.2)(h2:∀ρ,J ρ->W (u ρ) k):W (Qcf m u ρ) k:=by
 obtain⟨⟨f,ρ1⟩,e,e2,hj⟩:=h1;obtain⟨a,e3,h3⟩:=h2 ρ1 hj;refine⟨a,?_,h3⟩;have e2':f=.nx:=e2;subst e2';unfold Qcf;rw[e];exact e3
theorem VH{n:Int}(h:mr ρ=.ok ([.int n],ρ1))(b1 : -(2 ^ 62)<=n)(b2:n<2 ^ 62):QeE mr ρ=.ok ((z41 n.toNat).map fun j=>.int ((0:Int)+(j:Nat)),ρ1):=by
 unfold QeE;rw[h];have e:Qfq [.int n]=some n:=if_pos ⟨b1,b2⟩;show((Rs.of (Qfq [.int n])).bind _)=_;rw[e];rfl
theorem QH{t:Tag}(ht:t=.lst\/t=.tup)(h:m ρ=.ok (.nd t ds,ρ1)):Jr m ρ=.ok (ds,ρ1):=by
 unfold Jr;rw[h];rcases ht with rfl|rfl<;>rfl
inductive Fa2 (P:D->D->Prop):List D->List D->Prop
 |nil:Fa2 P [] []
 |cons {x y:D} {xs ys:List D} (h:P x y) (r:Fa2 P xs ys):Fa2 P (x::xs) (y::ys)
theorem Fa2.length {P:D->D->Prop}:∀{xs ys:List D},Fa2 P xs ys->ys.length=xs.length
 |_,_,.nil=>rfl
 |_,_,.cons _ r=>by simp[r.length]
theorem QfT {j:Nat}{tc:MT}{te:ME}{Inv:Rho->Prop}{Pd:D->D->Prop}:∀{ds:List D} {ρ:Rho} {acc:List D},(∀d∈ds,∀ρ,Inv ρ->∃ρ0,YF ρ j d=some ρ0/\W (tc ρ0) fun c=>c.1=true/\W (te c.2) fun r=>Inv (r.2.set j none)/\Pd d r.1)->Inv ρ->acc.length+ds.length<=z24->
  W (Qab j tc te ds ρ acc) fun q=>Inv q.2/\∃ys,q.1=acc++ys/\Fa2 Pd ds ys
 | [],ρ,acc,h,i,l=>Qhb.mpr ⟨i,[],by simp,.nil⟩
 |d::ds,ρ,acc,h,i,l=>by
  obtain⟨ρ0,e0,h1⟩:=h d z09 ρ i;unfold Qab;rw[e0];refine QB.mpr (QnG.mpr (QB.mpr (h1.mono fun c hz=>?_)));obtain⟨hc,h2⟩:=hz;rw[if_pos hc];refine QB.mpr (h2.mono fun r hz=>?_);obtain⟨h3,h4⟩:=hz;rw[if_pos (by simp at l;lia)];refine(QfT (acc:=acc++[r.1]) (fun d' hd'=>h d' (z07 _ hd')) h3 (by simp at l ⊢;lia)).mono fun q ⟨h5,ys,e,f⟩=>⟨h5,r.1::ys,by rw[e];simp,.cons h4 f⟩
theorem QlN {par:Bool}{tc:MT}{Inv:Rho->Prop}{Pd:D->D->Prop}(h1:mi ρ=.ok (ds,ρ1))(h2:YH par ρ1 (cs.filterMap Cp.is)=some di)(h3:Qat ρ1 cs di=some ρb)
  (hs:∀d∈ds,∀ρ,Inv ρ->∃ρ0,YF ρ j d=some ρ0/\W (tc ρ0) fun c=>c.1=true/\W (te c.2) fun r=>Inv (r.2.set j none)/\Pd d r.1) (i:Inv ρb) (l:ds.length<=z24)
  (hk:∀ys ρ2,Inv ρ2->Fa2 Pd ds ys->∃os,outs (ioB cs) ρ2=some os/\k (.lst ys,YW par ρ1 (cs.filterMap Cp.is) os)):W (JN par cs j mi tc te ρ) k:=by
 obtain⟨⟨q1,q2⟩,e,h4,ys,eq,h5⟩:=QfT (acc:=[]) hs i (by simpa using l);have eq':ys=q1:=eq.symm;subst eq';obtain⟨os,ho,h6⟩:=hk ys q2 h4 h5;refine⟨_,?_,h6⟩;unfold JN;rw[h1];show((Rs.of (YH par ρ1 (cs.filterMap Cp.is))).bind _)=_;rw[h2];show((Rs.of (Qat ρ1 cs di)).bind _)=_;rw[h3];show(match Qab j tc te ds ρb [] with|.ok q=>_|_=>_)=_;rw[e];show((Rs.of (outs (ioB cs) q2)).bind _)=_;rw[ho];rfl
theorem VJ {j:Nat}{tc:MT}{te:ME}{f:D->Bool}{g:D->D}{ρ:Rho}:∀{ds:List D} {acc:List D},(∀d∈ds,∃ρ0,YF ρ j d=some ρ0/\tc ρ0=.ok (f d,ρ0)/\(f d=true->te ρ0=.ok (g d,ρ0))/\ρ0.set j none=ρ)->acc.length+ds.length<=z24->
  Qab j tc te ds ρ acc=.ok (acc++(ds.filter f).map g,ρ)
 | [],acc,h,l=>by simp[Qab]
 |d::ds,acc,h,l=>by
  obtain⟨ρ0,e0,e1,e2,e3⟩:=h d z09;unfold Qab;rw[e0];show((tc ρ0).bind _)=_;rw[e1]
  by_cases hf:f d=true
  ·show(if f d=true then _ else _)=_;rw[if_pos hf,e2 hf];show(if acc.length<z24 then _ else _)=_;rw[if_pos (by simp at l;lia),e3,VJ (fun d' hd'=>h d' (z07 _ hd')) (by simp at l ⊢;lia),ze9,if_pos hf];simp
  ·show(if f d=true then _ else _)=_;rw[if_neg hf,e3,VJ (fun d' hd'=>h d' (z07 _ hd')) (by simp at l ⊢;lia),ze9,if_neg hf]
theorem Vu {par:Bool}{tc:MT}{f:D->Bool}{g:D->D}(h1:mi ρ=.ok (ds,ρ1))(h2:YH par ρ1 (cs.filterMap Cp.is)=some di)(h3:Qat ρ1 cs di=some ρb)
  (hs:∀d∈ds,∃ρ0,YF ρb j d=some ρ0/\tc ρ0=.ok (f d,ρ0)/\(f d=true->te ρ0=.ok (g d,ρ0))/\ρ0.set j none=ρb) (l:ds.length<=z24) (ho:outs (ioB cs) ρb=some os) (hp:YW par ρ1 (cs.filterMap Cp.is) os=ρ1):JN par cs j mi tc te ρ=.ok (.lst ((ds.filter f).map g),ρ1):=by
 unfold JN;rw[h1];show((Rs.of (YH par ρ1 (cs.filterMap Cp.is))).bind _)=_;rw[h2];show((Rs.of (Qat ρ1 cs di)).bind _)=_;rw[h3];show(match Qab j tc te ds ρb [] with|.ok q=>_|_=>_)=_;rw[VJ hs (by simpa using l)];show((Rs.of (outs (ioB cs) ρb)).bind _)=_;rw[ho];show Rs.ok _=_;rw[hp];simp
theorem comp_map {par:Bool}{g:D->D}(h1:mi ρ=.ok (ds,ρ1))(h2:YH par ρ1 (cs.filterMap Cp.is)=some di)(h3:Qat ρ1 cs di=some ρb)
  (hs:∀d∈ds,∃ρ0,YF ρb j d=some ρ0/\te ρ0=.ok (g d,ρ0)/\ρ0.set j none=ρb) (l:ds.length<=z24) (ho:outs (ioB cs) ρb=some os) (hp:YW par ρ1 (cs.filterMap Cp.is) os=ρ1):JN par cs j mi QfE te ρ=.ok (.lst (ds.map g),ρ1):=by
 rw[Vu (f:=fun _=>true) (g:=g) h1 h2 h3 (fun d hd=>by obtain⟨ρ0,e1,e2,e3⟩:=hs d hd;exact⟨ρ0,e1,rfl,fun _=>e2,e3⟩) l ho hp,List.filter_eq_self.mpr fun _ _=>rfl]
theorem QfU {tg:D->Rho->Option Rho}{mb:MS}{k:Fl×Rho->Prop}(Inv:Nat->Rho->Prop){ds:List D}(step:∀i d ρ,ds[i]? = some d->Inv i ρ->∃ρ1,tg d ρ=some ρ1/\W (mb ρ1) fun r=>r.1=.nx/\Inv (i+1) r.2) :
  ∀(n i:Nat) (ρ:Rho),ds.length - i=n->i<=ds.length->Inv i ρ->(∀ρ',Inv ds.length ρ'->k (.nx,ρ'))->W (forL tg mb (ds.drop i) ρ) k
 |0,i,ρ,hn,hi,h,hk=>by
  have:i=ds.length:=by lia
  subst this;rw[zv3];exact Qhb.mpr (hk _ h)
 |n+1,i,ρ,hn,hi,h,hk=>by
  have hlt:i<ds.length:=by lia
  rw[zb2 hlt];obtain⟨ρ1,e1,h1⟩:=step i ds[i] ρ (z06 hlt) h;unfold forL;rw[e1];refine QB.mpr (QnG.mpr (QB.mpr (h1.mono fun r hz=>?_)));obtain⟨e2,h2⟩:=hz;rw[e2];exact QfU Inv step n (i+1) r.2 @0 @0 h2 hk
theorem JB{k:Fl×Rho->Prop}(Inv:Nat->Rho->Prop)(h1:mi ρ=.ok (ds,ρ1))(i:Inv 0 ρ1)(step:∀i d ρ,ds[i]? = some d->Inv i ρ->∃ρ1,tg d ρ=some ρ1/\W (mb ρ1) fun r=>r.1=.nx/\Inv (i+1) r.2)
  (hk:∀ρ',Inv ds.length ρ'->k (.nx,ρ')):W (QkR mi tg mb ρ) k:=by
 unfold QkR;rw[h1];have:=QfU Inv step ds.length 0 ρ1 @6 (z58 _) i hk;rw[zm8] at this;exact this
theorem VL {a b:Int}:gEq (.int a) (.int b)=some (.bl (decide (a=b))):=by
 show(eqS (.int a) (.int b)).map D.bl=_;unfold eqS;rw[if_pos (by rfl)];show some _=some _
 congr 2
 by_cases h:a=b<;>simp[h]
section
variable {kt:Bool×Rho->Prop}{a b u:ME}{ms mv:MS}{x:D}{xs:List D}
def vK (o:Option (Option Sl))(i:Nat)(ρ:Rho):Rs (D×Rho):=match o with
 |some (some (.frz d))=>.ok (d,ρ)
 |some (some (.own d))=>.ok (d,ρ.set i (some (.frz d)))
 |_=>.no
theorem QlO:vK (some (some (.frz d))) i ρ=.ok (d,ρ):=rfl
theorem w_V:W (mV i (s::ρ)) k↔W (vK ((s::ρ)[i]?) i (s::ρ)) k:=Iff.rfl
def bK (o:Option (Option Sl))(ρ:Rho):Rs (D×Rho):=match o with
 |some (some (.frz d))=>.ok (d,ρ)
 |some (some (.own d))=>.ok (d,ρ)
 |some (some (.par d))=>.ok (d,ρ)
 |_=>.no
theorem QlP:bK (some (some (.par d))) ρ=.ok (d,ρ):=rfl
theorem w_B:W (mB i (s::ρ)) k↔W (bK ((s::ρ)[i]?) (s::ρ)) k:=Iff.rfl
def sK (o:Option (Option Sl))(ρ:Rho):Rs (D×Rho):=match o with
 |some (some (.own d))=>.ok (d,ρ)
 |some (some (.par d))=>.ok (d,ρ)
 |_=>.no
theorem QlQ:sK (some (some (.par d))) ρ=.ok (d,ρ):=rfl
theorem w_S:W (mS i (s::ρ)) k↔W (sK ((s::ρ)[i]?) (s::ρ)) k:=Iff.rfl
theorem w_C:W (mC d (s::ρ)) k↔k (d,s::ρ):=Qhb
def iK (r:D×Rho):Rs (D×Rho):=if r.1.imm=true then .ok r else .no
theorem QnH:iK (d,ρ)=if d.imm=true then .ok (d,ρ) else .no:=rfl
theorem w_I:W (mI m (s::ρ)) k↔W (m (s::ρ)) fun r=>W (iK r) k:=QB
def opK (g:D->D->Option D)(r1 r2:D×Rho):Rs (D×Rho):=Rs.of ((g r1.1 r2.1).map fun d=>(d,r2.2))
theorem QlR:opK g (x,ρ1) (y,ρ2)=Rs.of ((g x y).map fun d=>(d,ρ2)):=rfl
theorem Qo1:W (mOp g a b (s::ρ)) k↔W (a (s::ρ)) fun r1=>W (b r1.2) fun r2=>W (opK g r1 r2) k:=by simp only[mOp,QB,opK]
def tK (r:D×Rho):Rs (Bool×Rho):=Rs.of ((asB r.1).map fun b=>(b,r.2))
theorem QnI:tK (.bl c,ρ)=.ok (c,ρ):=rfl
theorem QlS:W (Jj m (s::ρ)) kt↔W (m (s::ρ)) fun r=>W (tK r) kt:=QB
def feK (a b:ME)(r:Bool×Rho):Rs (D×Rho):=if r.1=true then a r.2 else b r.2
theorem QlT:feK a b (c,ρ)=if c=true then a ρ else b ρ:=rfl
theorem QnJ:W (Qor mt a b (s::ρ)) k↔W (mt (s::ρ)) fun r=>W (feK a b r) k:=QB
theorem QnK:W (Qz (s::ρ)) ka↔ka ([],s::ρ):=Qhb
def coK (r:D×Rho)(q:List D×Rho):Rs (List D×Rho):=.ok (r.1::q.1,q.2)
theorem QlU:coK (d,ρ1) (xs,ρ2)=.ok (d::xs,ρ2):=rfl
theorem QlV:W (Qg m mr (s::ρ)) ka↔W (m (s::ρ)) fun r=>W (mr r.2) fun q=>W (coK r q) ka:=by simp only[Qg,QB,coK]
def cbK (g:List D->Option D)(r:List D×Rho):Rs (D×Rho):=Rs.of ((g r.1).map fun d=>(d,r.2))
theorem QlW {g:List D->Option D}:cbK g (xs,ρ)=Rs.of ((g xs).map fun d=>(d,ρ)):=rfl
theorem QjQ {g:List D->Option D}:W (Vt g mr (s::ρ)) k↔W (mr (s::ρ)) fun r=>W (cbK g r) k:=QB
def lsK (r:List D×Rho):Rs (D×Rho):=if r.1.length<=z24 then .ok (.lst r.1,r.2) else .no
theorem QlX:lsK (xs,ρ)=if xs.length<=z24 then .ok (.lst xs,ρ) else .no:=rfl
theorem QnL:W (Qg9 mr (s::ρ)) k↔W (mr (s::ρ)) fun r=>W (lsK r) k:=QB
def tuK (r:List D×Rho):Rs (D×Rho):=if r.1.length<=z24 then .ok (.tup r.1,r.2) else .no
theorem QlY:tuK (xs,ρ)=if xs.length<=z24 then .ok (.tup xs,ρ) else .no:=rfl
theorem QnM:W (QcU mr (s::ρ)) k↔W (mr (s::ρ)) fun r=>W (tuK r) k:=QB
def loK (r:List D×Rho):Rs (D×Rho):=if r.1.length<=z24 then(if D.Jb r.1=true then .ok (.lst r.1,r.2) else .no) else .no
theorem QlZ:loK (xs,ρ)=if xs.length<=z24 then(if D.Jb xs=true then .ok (.lst xs,ρ) else .no) else .no:=rfl
theorem Ql0:W (Qlu mr (s::ρ)) k↔W (mr (s::ρ)) fun r=>W (loK r) k:=QB
theorem Ql1:W (QcV (s::ρ)) kf↔kf (.nx,s::ρ):=Qhb
def sqK (u:MS)(r:Fl×Rho):Rs (Fl×Rho):=match r.1 with
 |.nx=>u r.2
 |f=>.ok (f,r.2)
theorem Ql2:sqK mv (.nx,ρ)=mv ρ:=rfl
theorem Ql3:sqK mv (.rt d,ρ)=.ok (.rt d,ρ):=rfl
theorem QnN:W (Qcf ms mv (s::ρ)) kf↔W (ms (s::ρ)) fun r=>W (sqK mv r) kf:=QB
def rtK (r:D×Rho):Rs (Fl×Rho):=.ok (.rt r.1,r.2)
theorem Ql4:rtK (d,ρ)=.ok (.rt d,ρ):=rfl
theorem QnO:W (QeB m (s::ρ)) kf↔W (m (s::ρ)) fun r=>W (rtK r) kf:=QB
def ifK (a b:MS)(r:Bool×Rho):Rs (Fl×Rho):=if r.1=true then a r.2 else b r.2
theorem Ql5:ifK ms mv (c,ρ)=if c=true then ms ρ else mv ρ:=rfl
theorem Qo2:W (mIf mt ms mv (s::ρ)) kf↔W (mt (s::ρ)) fun r=>W (ifK ms mv r) kf:=QB
def svK (i:Nat)(r:D×Rho):Rs (Fl×Rho):=(Rs.of (YF r.2 i r.1)).bind fun ρ'=>.ok (.nx,ρ')
theorem Ql6:svK i (d,ρ)=(Rs.of (YF ρ i d)).bind fun ρ'=>.ok (.nx,ρ'):=rfl
theorem Ql7:W (YG i m (s::ρ)) kf↔W (m (s::ρ)) fun r=>W (svK i r) kf:=QB
def ixK (i:Nat)(m:ME)(r:D×Rho):Rs (Fl×Rho):=(Rs.of (Qbq r.2 i)).bind fun _=>(m r.2).bind fun s=>(Rs.of (Qbq s.2 i)).bind fun q=>(Rs.of ((asI s.1).bind fun n=>ixN q.2.length n)).bind fun j=>
 .ok (.nx,s.2.set i (some (mkS q.1 (.lst (q.2.set j r.1)))))
def QnP (i:Nat)(d:D)(t:D×Rho):Rs (Fl×Rho):=(Rs.of (Qbq t.2 i)).bind fun q=>(Rs.of ((asI t.1).bind fun n=>ixN q.2.length n)).bind fun j=>
 .ok (.nx,t.2.set i (some (mkS q.1 (.lst (q.2.set j d)))))
theorem QjR:QnP i d (x,ρ)=(Rs.of (Qbq ρ i)).bind fun q=>(Rs.of ((asI x).bind fun n=>ixN q.2.length n)).bind fun j=>.ok (.nx,ρ.set i (some (mkS q.1 (.lst (q.2.set j d))))):=rfl
theorem Ql8:W (ixK i m (d,s::ρ)) kf↔W (Rs.of (Qbq (s::ρ) i)) fun _=>W (m (s::ρ)) fun t=>W (QnP i d t) kf:=by simp only[ixK,QB,QnP]
theorem QjS:W (QiG i a m (s::ρ)) kf↔W (a (s::ρ)) fun r=>W (ixK i m r) kf:=QB
end
section
theorem Qy(h1:mr ρ=.ok (args,ρ1))(h2:f args=.ok d os)(h3:rk=.V->d.imm=true):JG rk f mr ρ=.ok (d,ρ1):=by
 have:=QjP (rk:=rk) (k:=fun r=>r=(d,ρ1)) (P:=fun d' _=>d'=d) h1 ⟨d,os,h2,rfl⟩ fun d' os' e=>⟨fun z=>e▸h3 z,by rw[e]⟩;exact this.eq
end
def Qoy (t:Tag):Prop:=t=.lst\/t=.tup
theorem Qax {t:Tag}(h:Qoy t)(e:ds[i]? = some d):gIx (.nd t ds) (.int i)=some d:=by
 have:atI ds (i:Int)=some d:=by
  unfold atI ixN;have:=(z11.mp e).1;rw[if_pos (Int.natCast_nonneg i),if_pos @0];exact e
 rcases h with rfl|rfl<;>exact this
theorem QaR{m u:MS}{b:Bool}(h:mt ρ=.ok (b,ρ1)):mIf mt m u ρ=if b=true then m ρ1 else u ρ1:=by unfold mIf;rw[h];rfl
theorem JQ {g:List D->Option D}(h:mr ρ=.ok (args,ρ1))(hg:g args=some d):Vt g mr ρ=.ok (d,ρ1):=by
 unfold Vt;rw[h];show Rs.of ((g args).map _)=_;rw[hg];rfl
theorem op_eq{a b:ME}{x:D}(h1:a ρ=.ok (x,ρ1))(h2:b ρ1=.ok (y,ρ2))(hg:g x y=some d):mOp g a b ρ=.ok (d,ρ2):=by
 unfold mOp;rw[h1];show((b ρ1).bind _)=_;rw[h2];show Rs.of ((g x y).map _)=_;rw[hg];rfl
theorem Qk(h1:m ρ=.ok (d,ρ1))(h2:mr ρ1=.ok (ds,ρ2)):Qg m mr ρ=.ok (d::ds,ρ2):=by
 unfold Qg;rw[h1];show((mr ρ1).bind _)=_;rw[h2];rfl
theorem QL{b:Bool}(h:m ρ=.ok (.bl b,ρ1)):Jj m ρ=.ok (b,ρ1):=by unfold Jj;rw[h];rfl
theorem or_eq {m u:MT}{b:Bool}(h:m ρ=.ok (b,ρ1))(h2:b=false->u ρ1=.ok (c,ρ2))(h3:b=true->ρ2=ρ1):mOr m u ρ=.ok (b || c,ρ2):=by
 unfold mOr;rw[h]
 cases b with
 |true=>rw[h3 rfl];rfl
 |false=>show u ρ1=_;rw[h2 rfl];rfl
theorem and_eq {m u:MT}{b:Bool}(h:m ρ=.ok (b,ρ1))(h2:b=true->u ρ1=.ok (c,ρ2))(h3:b=false->ρ2=ρ1):Qlo m u ρ=.ok (b && c,ρ2):=by
 unfold Qlo;rw[h]
 cases b with
 |false=>rw[h3 rfl];rfl
 |true=>show u ρ1=_;rw[h2 rfl];rfl
def pl (q:Int×Int):D:=.tup [.int q.1,.int q.2]
theorem eq_int (n:Nat){a b:Int}:eqb (n+1) (.int a) (.int b)=some (decide (a=b)):=by
 show eqS (.int a) (.int b)=_;unfold eqS;rw[if_pos (by rfl)];show some _=some _
 congr 1
 by_cases h:a=b<;>simp[h]
theorem QnQ (n:Nat){p q:Int×Int}:eqb (n+2) (pl p) (pl q)=some (decide (p=q)):=by
 have e:eqb (n+2) (pl p) (pl q)=V2 (eqb (n+1)) [.int p.1,.int p.2] [.int q.1,.int q.2]:=rfl;rw[e];unfold V2 V2 V2;rw[eq_int,eq_int];obtain⟨a,b⟩:=p;obtain⟨c,d⟩:=q;show some _=some _
 congr 1
 by_cases h1:a=c<;>by_cases h2:b=d<;>simp[h1,h2]
theorem Ql9 {q:Int×Int}:∀{U:List @13},inL (eqb 30) (pl q) (U.map pl)=some (decide (q∈U))
 | []=>by simp[inL]
 |u::U=>by
  rw[z28,inL,QnQ 28,Ql9];show some _=some _
  congr 1
  by_cases h1:u=q
  ·subst h1;simp
  ·by_cases h2:q∈U
   ·simp[h1,h2]
   ·have h3:¬ q=u:=fun h=>h1 h.symm;simp[h1,h2,h3]
theorem Qma {q:Int×Int}{U:List @13}:gIn (pl q) (.lst (U.map pl))=some (.bl (decide (q∈U))):=by
 show(inL (eqb 30) (pl q) (U.map pl)).map _=_;rw[Ql9];rfl
section
theorem R.int {K:z02}{F:Hp}{v:L2.V}{z:Int}(r:R K F v (.int z)):v=.int z:=by
 cases r with|sc e=>cases e;rfl
end
section
variable {mb:ME}{k ka:Kd}
def Y9 {κ:Type}[DecidableEq κ]:List κ->List D->κ->Option D
 |x::ks,d::ds,k=>if x=k then some d else Y9 ks ds k
 |_,_,_=>none
theorem Qbt {κ:Type}[DecidableEq κ]{K:z02}{F:Hp}:∀{ks:List κ} {vs:List L2.V} {ds:List D} {k:κ} {d:D},RL K F vs ds->Y9 ks ds k=some d->∃v,valV (ks.zip vs) k=some v/\R K F v d
 | [],_,_,_,_,_,h=>by cases h
 |_::_,_,_,_,_,.nil,h=>by cases h
 |x::ks,v::vs,d::ds,k,y,.cons r q,h=>by
  rw[z88]
  by_cases e:x=k
  ·rw[Y9,if_pos e] at h;cases h;exact⟨v,valV_pos e,r⟩
  ·rw[Y9,if_neg e] at h;obtain⟨w,h1,h2⟩:=Qbt q h;exact⟨w,by rw[valV_neg e];exact h1,h2⟩
theorem QiL{k:Key}(r:R K F v d)(e:Qm0 d=some k):v=kV k:=by
 cases d with
 |int i=>cases e;rw[r.Qu (w:=.int i) rfl];rfl
 |str z=>cases e;rw[r.Qu (w:=.str z) rfl];rfl
 |_=>cases e
def QiM:D->D->Option D
 |.nd (.dT ks) ds,y=>(Qcl y).bind fun k=>Y9 ks ds k
 |.nd (.dK ks) ds,y=>(Qm0 y).bind fun k=>Y9 ks ds k
 |_,_=>none
theorem QjT {H:Hp}{u:L2.V}{x:D}(hs:Same F H)(r2:R C.K F u d)(r1:R C.K F v y)(eg:QiM d y=some x):∃l w,u=.ref l/\DGet H l v (some w)/\R C.K F w x:=by
 unfold QiM at eg
 split at eg
 ·obtain⟨l,us,rfl,h1,h2⟩:=r2.inv;obtain⟨k,ek,e2⟩:=z27.mp eg;obtain⟨bb,rfl,hb⟩:=QdN r1 ek;obtain⟨w,hw,rw'⟩:=Qbt h2 e2;exact⟨l,w,rfl,.inr ⟨_,k,bb,(h1.2.same hs),rfl,(hb.mono fun _ _=>hs _ _),hw.symm⟩,rw'⟩
 ·obtain⟨l,us,rfl,h1,h2⟩:=r2.inv;obtain⟨k,ek,e2⟩:=z27.mp eg;obtain⟨w,hw,rw'⟩:=Qbt h2 e2;exact⟨l,w,rfl,.inl ⟨_,k,(h1.2.same hs),QiL r1 ek,hw.symm⟩,rw'⟩
 ·cases eg
theorem QhN (hu:X.A.units+2<cLine)(ha:PE X a (tX ka C pa E ma))(hb:PE X b (tX kb C pb E mb))(ok:ka.on pb=true:=by rfl)(ok2:kb.on true=true:=by rfl)(hs:NoSl b:=by intro _ _;rfl):PE X (.Subscript a b pos) (tX .B C (pa && pb) E (mOp QiM ma mb)):=Qm (pe_dget hu ha hb hs) fun σ H Q ⟨F,ρ,τ,fp,I,h⟩=>by
 refine⟨F,ρ,τ,fp,I,h.split.mono fun r1 h1 F1 H1 fp1 v1 I1 n1 f1=>?_⟩;rw[Kd.J4 ok] at I1;refine⟨F1,r1.2,τ,fp1,I1,h1.split.mono fun r2 h2 F2 H2 fp2 v2 I2 n2 f2=>?_⟩;rw[Kd.J4 ok2] at I2;obtain⟨z,ez,h3⟩:=h2.of;obtain⟨res,eg,rfl⟩:=z03.mp ez;obtain⟨l,w,rfl,hg,rw'⟩:=QjT (JD I2.fh) (Kd.stay ok f1 n2 I2) (Kd.stay ok2 f2 .refl I2) eg;exact⟨l,w,rfl,hg,h3 F2 H2 fp2 w I2 (n1.trans n2) rw'⟩
def Qhc (ρ:Rho)(i:Nat):Option (Bool×List Key×List D):=match ρ[i]? with
 |some (some (.own (.nd (.dK ks) ds)))=>some (false,ks,ds)
 |some (some (.par (.nd (.dK ks) ds)))=>some (true,ks,ds)
 |_=>none
theorem Qay{q:Bool×List Key×List D}(h:Qhc ρ i=some q):ρ[i]? = some (some (mkS q.1 (.nd (.dK q.2.1) q.2.2))):=by
 unfold Qhc at h
 split at h
 ·next e=>cases h;exact e
 ·next e=>cases h;exact e
 ·cases h
end
section
def prs (C:Cn)(E:XE)(kms:List (Str×ME)):List (TE×TE):=kms.map fun km=>(tC (.str km.1),tX .V C false E km.2)
end
inductive QfV (w:World):List DictEntry->List (Key×L2.V)->List (Key×Value)->Prop
 |nil:QfV w [] [] []
 |cons {e:DictEntry} {k:Key} {v:L2.V} {es:List DictEntry} {kvs:List (Key×L2.V)} {vs:List (Key×Value)} (h1:keyIs k e.key=true) (h2:e.hash=keyH w k) (h3:RelV v e.val) (r:QfV w es kvs vs):QfV w (e::es) ((k,v)::kvs) ((k,e.val)::vs)
theorem QfV.prs {P:Program}{w:World}{es:List DictEntry}{kvs:List (Key×L2.V)}{vs:List (Key×Value)}(h:QfV w es kvs vs):Pairs (mixKind P w) es vs:=by
 induction h with
 |nil=>exact .nil
 |cons h1 h2 h3 r ih=>exact .cons h1 rfl ih
section
variable {x:D}{xs:List D}
def clK (rk:Kd)(f:List D->Fr)(r:List D×Rho):Rs (D×Rho):=match f r.1 with
 |.ok d _=>match rk with
  |.V=>if d.imm=true then .ok (d,r.2) else .no
  |_=>.ok (d,r.2)
 |.ex c=>.ex c r.2
 |.no=>.no
theorem QjU:W (JG rk f mr (s::ρ)) k↔W (mr (s::ρ)) fun r=>W (clK rk f r) k:=QB
theorem QjV(h:f xs=.ok d os):W (clK .V f (xs,ρ)) k↔d.imm=true/\k (d,ρ):=by
 show W (match f xs with|.ok d _=>_|.ex c=>_|.no=>_) k↔_;rw[h];show W (if d.imm=true then _ else _) k↔_
 by_cases hd:d.imm=true
 ·rw[if_pos hd];exact⟨fun z=>⟨hd,Qhb.mp z⟩,fun z=>Qhb.mpr z.2⟩
 ·rw[if_neg hd];exact⟨fun⟨_,e,_⟩=>(nomatch e),fun z=>absurd z.1 hd⟩
def cK (par:Bool)(as:List @17)(f:List D->Fr)(r:List D×Rho):Rs (D×Rho):=(Rs.of (YH par r.2 (as.filterMap id))).bind fun dis=>match f (QeL as r.1 dis) with
 |.ok d outs=>.ok (d,YW par r.2 (as.filterMap id) outs)
 |.ex c=>if(as.filterMap id).isEmpty=true then .ex c r.2 else .no
 |.no=>.no
theorem Qmb {par:Bool}:W (Jf par as f mr (s::ρ)) k↔W (mr (s::ρ)) fun r=>W (cK par as f r) k:=QB
theorem Qo3 {par:Bool}(h2:YH par ρ (as.filterMap id)=some dis)(h3:FW (f (QeL as args dis)) P)(h4:∀d os,P d os->k (d,YW par ρ (as.filterMap id) os)):W (cK par as f (args,ρ)) k:=by
 obtain⟨d,os,e,p⟩:=h3;refine⟨_,?_,h4 d os p⟩;unfold cK;rw[h2];show(match f (QeL as args dis) with|.ok d outs=>_|.ex c=>_|.no=>_)=_;rw[e]
theorem QjW {par:Bool}{i:Nat}{p0 p x:D}(hi:ρ[i]? = some (some (mkS par p)))(h3:FW (f [p,x]) P)(h4:∀d os,P d os->∃q,os=[q]/\k (d,ρ.set i (some (mkS par q)))):W (cK par [some i,none] f ([p0,x],ρ)) k:=by
 refine Qo3 (dis:=[p]) ?_ h3 fun d os h=>?_
 ·show YH par ρ [i]=_;unfold YH YH;rw[hi];cases par<;>rfl
 ·obtain⟨q,rfl,h5⟩:=h4 d os h;exact h5
def flK (tg:D->Rho->Option Rho)(mb:MS)(r:List D×Rho):Rs (Fl×Rho):=forL tg mb r.1 r.2
theorem QnR:W (QkR mi tg mb (s::ρ)) kf↔W (mi (s::ρ)) fun r=>W (flK tg mb r) kf:=QB
theorem QnS(Inv:Nat->Rho->Prop)(i:Inv 0 ρ)(step:∀i d ρ,ds[i]? = some d->Inv i ρ->∃ρ1,tg d ρ=some ρ1/\W (mb ρ1) fun r=>r.1=.nx/\Inv (i+1) r.2)
  (hk:∀ρ',Inv ds.length ρ'->kf (.nx,ρ')):W (flK tg mb (ds,ρ)) kf:=by
 have:=QfU Inv step ds.length 0 ρ @6 (z58 _) i hk;rw[zm8] at this;exact this
def rgK (r:List D×Rho):Rs (List D×Rho):=(Rs.of (Qfq r.1)).bind fun n=>.ok ((z41 n.toNat).map fun j=>.int ((0:Int)+(j:Nat)),r.2)
theorem Qmc {n:Int}:rgK ([.int n],ρ)=if -4611686018427387904<=n/\n<4611686018427387904 then .ok ((z41 n.toNat).map fun j=>.int ((0:Int)+(j:Nat)),ρ) else .no:=by
 have e:(2:Int) ^ 62=4611686018427387904:=by decide
 show(Rs.of (if -(2 ^ 62)<=n/\n<2 ^ 62 then some n else none)).bind _=_;rw[e]
 split<;>rfl
theorem Qmd:W (QeE mr (s::ρ)) ka↔W (mr (s::ρ)) fun r=>W (rgK r) ka:=QB
theorem Qaz {f:D->D->Option Bool}:∀{ds:List D},(∀d∈ds,f d d=some true)->V2 f ds ds=some true
 | [],_=>rfl
 |d::ds,h=>by
  rw[V2,h d z09,Qaz fun x hx=>h x (z07 _ hx)];rfl
def D.pln:Nat->D->Bool
 |0,_=>false
 |n+1,.nd .lst ds=>ds.all (D.pln n)
 |n+1,.nd .tup ds=>ds.all (D.pln n)
 |_+1,.int _=>true
 |_+1,.str _=>true
 |_+1,.bl _=>true
 |_+1,.non=>true
 |_,_=>false
theorem Qah:∀(n:Nat) (d:D),d.pln n=true->eqb n d d=some true
 |0,_,h=>absurd (show false=true from h) @2
 |n+1,.nd .lst ds,h=>by
  show(if ds.length=ds.length then V2 (eqb n) ds ds else _)=_;rw[if_pos rfl];exact Qaz fun d hd=>Qah n d (za7.mp h d hd)
 |n+1,.nd .tup ds,h=>by
  show(if ds.length=ds.length then V2 (eqb n) ds ds else _)=_;rw[if_pos rfl];exact Qaz fun d hd=>Qah n d (za7.mp h d hd)
 |n+1,.int i,_=>by show eqS (V.int i) (V.int i)=_;unfold eqS;rw[if_pos (by rfl)];simp
 |n+1,.str i,_=>by show eqS (V.str i) (V.str i)=_;unfold eqS;rw[if_pos (by rfl)];simp
 |n+1,.bl i,_=>by show eqS (V.bl i) (V.bl i)=_;unfold eqS;rw[if_pos (by cases i<;>rfl)];simp
 |n+1,.non,_=>by show eqS (V.non) (V.non)=_;unfold eqS;rw[if_pos (by rfl)];simp
 |n+1,.nd (.ins _ _) _,h=>absurd (show false=true from h) @2
 |n+1,.nd (.dT _) _,h=>absurd (show false=true from h) @2
 |n+1,.nd (.dK _) _,h=>absurd (show false=true from h) @2
 |n+1,.nd (.exc _) _,h=>absurd (show false=true from h) @2
 |n+1,.ty _,h=>absurd (show false=true from h) @2
 |n+1,.cls _,h=>absurd (show false=true from h) @2
theorem QhO {d:D}(h:d.pln 30=true):gEq d d=some (.bl true):=by
 show(eqb 30 d d).map _=_;rw[Qah 30 d h];rfl
theorem Qbu {d:D}(h:d.pln 30=true):gNe d d=some (.bl false):=by
 show(eqb 30 d d).map _=_;rw[Qah 30 d h];rfl
end
end TL
namespace TL
open PySem PySem.Spec L2 L2.Srt
section
variable {α:Type}{lt:α->α->Bool}
def QkU (lt:α->α->Bool)(x:α):List α->List α
 | []=>[x]
 |y::ys=>if lt x y=true then x::y::ys else y::QkU lt x ys
noncomputable def Jh (lt:α->α->Bool):List α->List α
 | []=>[]
 |x::xs=>QkU lt x (Jh lt xs)
theorem QaA (x:α):∀ys:List α,(QkU lt x ys).Perm (x::ys)
 | []=>.refl _
 |y::ys=>by
  unfold QkU
  split
  ·exact .refl _
  ·exact((QaA x ys).cons y).trans (.swap x y ys)
theorem Ql:∀xs:List α,(Jh lt xs).Perm xs
 | []=>.refl _
 |x::xs=>(QaA x _).trans ((Ql xs).cons x)
theorem QfW (L:Lin lt){x:α}:∀{ys:List α},ys.Pairwise (fun a b=>lt a b=true)->x∉ys->(QkU lt x ys).Pairwise (fun a b=>lt a b=true)
 | [],_,_=>y00 _ _
 |y::ys,h,hn=>by
  unfold QkU;obtain⟨h1,h2⟩:=z59.mp h
  split
  ·rename_i hl
   exact z59.mpr ⟨fun a ha=>by
    rcases z21.mp ha with rfl|ha
    ·exact hl
    ·exact L.tr _ _ _ hl (h1 a ha),h⟩
  ·rename_i hl
   have hyx:lt y x=true:=L.tot _ _ (fun e=>hn (e▸z09)) (by simpa using hl);refine z59.mpr ⟨fun a ha=>?_,QfW L h2 fun hm=>hn (z07 _ hm)⟩;rcases z21.mp ((QaA x ys).mem_iff.mp ha) with rfl|ha
   ·exact hyx
   ·exact h1 a ha
theorem Q9 (L:Lin lt):∀{xs:List α},xs.Nodup->(Jh lt xs).Pairwise (fun a b=>lt a b=true)
 | [],_=>.nil
 |x::xs,h=>by
  obtain⟨h1,h2⟩:=z39.mp h;exact QfW L (Q9 L h2) fun hm=>h1 ((Ql xs).mem_iff.mp hm)
theorem JR (L:Lin lt):∀{xs ys:List α},xs.Pairwise (fun a b=>lt a b=true)->ys.Pairwise (fun a b=>lt a b=true)->xs.Perm ys->xs=ys
 | [],ys,_,_,p=>(List.nil_perm.mp p).symm
 |x::xs,[],_,_,p=>absurd p.length_eq @6
 |x::xs,y::ys,h,h',p=>by
  obtain⟨a1,a2⟩:=z59.mp h;obtain⟨b1,b2⟩:=z59.mp h'
  have e:x=y:=by
   rcases z21.mp (p.mem_iff.mp (z09 (a:=x) (l:=xs))) with e|hx
   ·exact e
   ·rcases z21.mp (p.mem_iff.mpr (z09 (a:=y) (l:=ys))) with e|hy
    ·exact e.symm
    ·have z1:=b1 x hx;have z2:=a1 y hy;have:=L.tr _ _ _ z1 z2;rw[L.irr] at this;cases this
  subst e;rw[JR L a2 b2 (p.cons_inv)]
end
theorem Qme {K:z02}{F:Hp}{v:L2.V}{q:Int×Int}(r:R K F v (pl q)):∃a,v=.ref a/\F a=some (.tup [.int q.1,.int q.2]):=by
 obtain⟨a,vs,rfl,h1,h2⟩:=r.inv;obtain⟨v1,v2,rfl,r1,r2⟩:=h2.two;rw[R.int r1,R.int r2] at h1;exact⟨a,rfl,h1⟩
end TL
namespace TL
open PySem PySem.Spec L2
variable {k n:Nat}{q:List (List Key)×List D}{P:List Value->Prop}{K:z02}{mg:Str->Option Value}{st:Stmt}{ps:List Str}{io:List Bool}{XP:(Str->Option Value)->Heap->Prop}
section
theorem hu3 {A:Around}(hr:Room k A):A.units+3<cLine:=by have:=hr.units;lia
theorem QT:z90 "sorted" = some (.builtin "sorted"):=by decide +kernel
end
noncomputable def QfX:List (List Key)->List D->List Key->Option D
 |k::ks,d::ds,q=>if k=q then some d else QfX ks ds q
 |_,_,_=>none
theorem QfY {K:z02}{F:Hp}:∀{ks:List (List Key)} {vs:List L2.V} {ds:List D} {q:List Key},RL K F vs ds->(∀d,QfX ks ds q=some d->∃v,valV (ks.zip vs) q=some v/\R K F v d)/\(QfX ks ds q=none->ks.length=vs.length->valV (ks.zip vs) q=none)
 | [],_,_,q,h=>⟨(fun d e=>by cases h<;>cases e),fun _ _=>rfl⟩
 |k::ks,_,_,q,.nil=>⟨(fun d e=>by cases e),fun _ l=>by cases l⟩
 |k::ks,v::vs,d::ds,q,.cons r h=>by
  obtain⟨i1,i2⟩:=QfY (ks:=ks) (q:=q) h;rw[z88]
  by_cases e:k=q
  ·subst e;refine⟨fun d' e'=>?_,fun e'=>?_⟩
   ·rw[QfX,if_pos rfl] at e';cases e';exact⟨v,valV_pos rfl,r⟩
   ·rw[QfX,if_pos rfl] at e';cases e'
  ·refine⟨fun d' e'=>?_,fun e' l=>?_⟩
   ·rw[QfX,if_neg e] at e';rw[valV_neg e];exact i1 d' e'
   ·rw[QfX,if_neg e] at e';rw[valV_neg e];exact i2 e' (by simpa using l)
noncomputable def Qm3:D->Option (List (List Key)×List D)
 |.nd (.dT ks) ds=>some (ks,ds)
 |_=>none
theorem QfZ {d:D}(h:Qm3 d=some q):d=.nd (.dT q.1) q.2:=by
 unfold Qm3 at h
 split at h
 ·cases h;rfl
 ·cases h
def Qm4 (q:List (List Key)×List D)(y x:D):Option D:=(Qcl y).bind fun k=>match QfX q.1 q.2 k with
 |some d=>if d.imm=true then some d else none
 |none=>some x
def QhP (md my mx:ME):ME:=fun ρ=>(md ρ).bind fun r1=>(Rs.of (Qm3 r1.1)).bind fun q=>(my r1.2).bind fun r2=>(mx r2.2).bind fun r3=>Rs.of ((Qm4 q r2.1 r3.1).map fun d=>(d,r3.2))
section
variable {X:Cx}{C:Cn}{E:XE}{pa:Bool}{o e f:Expr}{ma mb mc:ME}{apos cpos:Pos}{ka kb:Kd}
theorem QjX (hu:X.A.units+2<cLine)(ho:PE X o (tX ka C pa E ma))(he:PE X e (tX kb C true E mb))(hf:PE X f (tX .V C true E mc))(ok:ka.on true=true:=by rfl)(ok2:kb.on true=true:=by rfl)(m:M2 X o "get" apos e f cpos:=by exact⟨rfl,rfl,rfl,rfl⟩) :
  PE X (.Call (.Attribute o "get" apos) [e,f] [] cpos) (tX .V C pa E (QhP ma mb mc)):=Qm (pe_dget2 hu ho he hf m) fun σ H Q ⟨F,ρ,τ,fp,I,h⟩=>by
 refine⟨F,ρ,τ,fp,I,h.split.mono fun r1 h1 F1 H1 fp1 v1 I1 n1 f1=>?_⟩;rw[Kd.J4 ok] at I1;obtain⟨q,eq,h1⟩:=h1.split.of;have g1:=Kd.stay ok f1 .refl I1;rw[QfZ eq] at g1;obtain⟨a,us,rfl,at1,rl1⟩:=g1.inv;refine⟨a,rfl,.inr ⟨q.1.zip us,(at1.2.same (JD I1.fh))⟩,F1,r1.2,τ,fp1,I1,h1.split.mono fun r2 h2 F2 H2 fp2 v2 I2 n2 f2=>?_⟩;rw[Kd.J4 ok2] at I2;refine⟨F2,r2.2,τ,fp2,I2,h2.split.mono fun r3 h3 F3 H3 fp3 v3 I3 n3 f3=>?_⟩;obtain⟨z,ez,h4⟩:=h3.of;obtain⟨res,eg,rfl⟩:=z03.mp ez;have n23:Nx true F1 H1 fp1 F3 H3 fp3:=n2.trans n3;have gd:=Kd.stay ok f1 n23 I3;rw[QfZ eq] at gd;have gy:=Kd.stay ok2 f2 n3 I3;obtain⟨a',us',ea,at3,rl3⟩:=gd.inv;cases ea
 obtain⟨k,ek,e2⟩:=z27.mp (show(Qcl r2.1).bind _=some res from eg);obtain⟨bb,rfl,hb⟩:=QdN gy ek;have dg:=(.inr ⟨_,_,_,at3.2.same (JD I3.fh),rfl,(hb.mono fun _ _=>JD I3.fh _ _),rfl⟩:DGet _ _ _ _);obtain⟨w1,w2⟩:=QfY (ks:=q.1) (q:=k) rl3;refine⟨_,dg,?_⟩
 cases ev:QfX q.1 q.2 k with
 |some d=>
  rw[ev] at e2;obtain⟨v,ev1,rv⟩:=w1 d ev;rw[ev1]
  by_cases hi:d.imm=true
  ·have e2:(if d.imm=true then some d else none)=some res:=e2;rw[if_pos hi] at e2;cases e2
   have:=I3.loL (.cons rv .nil) (by show(D.imm _ && true)=true;rw[hi];rfl)
   cases this with
   |cons r _=>exact h4 F3 H3 fp3 v I3 ((n1.trans n23).weak fun z=>by simp[z]) r
  ·have e2:(if d.imm=true then some d else none)=some res:=e2;rw[if_neg hi] at e2;cases e2
 |none=>
  rw[ev] at e2;have e2:some r3.1=some res:=e2;cases e2
  rw[w2 ev at3.1];exact h4 F3 H3 fp3 v3 I3 ((n1.trans n23).weak fun z=>by simp[z]) f3
end
section
variable {P:Program}{w:World}{base:Heap}{x qual:Str}{f:Addr}{fd:FuncData}{N:List Str}
theorem fnU{rk:Kd}{mb:MS}(Fn:Fun K x qual st f fd)(S:FnScope N ps (defScope st))(hio:io.length=ps.length)(hrk:rk=.V\/rk=.O)
  (hbody:∀{cdv:Value} {A:Around} {outer:List Env} {s:Shared} {H:Hp} {E:XK} {C:Cn},C.K=K->Room k (A.deeper (zj4 qual (defScope st) s.heap.objs.size f cdv))->A.handled=none->N.Nodup->PassesOwn (model P w) (A.deeper (zj4 qual (defScope st) s.heap.objs.size f cdv)) (zj4 qual (defScope st) s.heap.objs.size f cdv) (cxOf (CXe P w) P w K mg base N qual (defScope st) f cdv A outer s H E).xe->
   PSs (cxOf (CXe P w) P w K mg base N qual (defScope st) f cdv A outer s H E) (defBody st) (tS rk C (fun _ _ _ _=>False) mb)):FnOk P w K mg base (CXe P w) (k+1) f fd ps (spF K io rk (YX io N.length mb)):=
 fnT Fn S hio hrk fun _ _ _ _ _ _ _ hC hr hd=>hbody hC hr hd S.nd QoH
end
section
variable {X:Cx}{C:Cn}{E:XE}{k:Kd}{ks:List Kd}{pa pb:Bool}{m:ME}{mr:MA}{es:List Expr}{p:Pos}
theorem Qmf {c:Const}{j:Nat}(ha:PE X (.Constant c j p) (tX k C pa E m))(hr:PA X es (tA ks C pb E mr))(ok:k.ona pb=true:=by rfl):PA X (.Constant c j p::es) (tA (k::ks) C (pa && pb) E (Qg m mr)):=Qd ha hr ok rfl
theorem Vx {l:List Expr}{j:Nat}(ha:PE X (.Tuple l j p) (tX k C pa E m))(hr:PA X es (tA ks C pb E mr))(ok:k.ona pb=true:=by rfl):PA X (.Tuple l j p::es) (tA (k::ks) C (pa && pb) E (Qg m mr)):=Qd ha hr ok rfl
theorem V4 {a b:Expr}{o:Operator}(ha:PE X (.BinOp a o b p) (tX k C pa E m))(hr:PA X es (tA ks C pb E mr))(ok:k.ona pb=true:=by rfl):PA X (.BinOp a o b p::es) (tA (k::ks) C (pa && pb) E (Qg m mr)):=Qd ha hr ok rfl
theorem Qo4 {a:Expr}{o:UnaryOp}(ha:PE X (.UnaryOp o a p) (tX k C pa E m))(hr:PA X es (tA ks C pb E mr))(ok:k.ona pb=true:=by rfl):PA X (.UnaryOp o a p::es) (tA (k::ks) C (pa && pb) E (Qg m mr)):=Qd ha hr ok rfl
end
structure Y where
 P:Program
 w:World
 mg:Str->Option Value
 base:Heap
variable {Cy:Y->Prop}{Hy:Y->Prop->Prop}
abbrev Df (K:z02)(Cy:Y->Prop)(nm q:Str)(st:Stmt)(lv:Nat)(ps:List Str)(io:List Bool)(rk:Kd)(n:Nat)(Hy:Y->Prop->Prop):Type:=
 {m:MS // ∀{y:Y} {f:Addr} {fd:FuncData},Cy y->Fun K nm q st f fd->Hy y (FnOk y.P y.w K y.mg y.base (CXe y.P y.w) lv f fd ps (spF K io rk (YX io n m)))}
abbrev Dg (K:z02)(Cy:Y->Prop)(nm:Str)(st:Stmt)(lv:Nat)(ps:List Str)(io:List Bool)(rk:Kd)(n:Nat)(Hy:Y->Prop->Prop):Type:=Df K Cy nm nm st lv ps io rk n Hy
section
variable {nm q:Str}{lv:Nat}{rk:Kd}{c:Addr}
def dfn (d:Df K Cy nm q st lv ps io rk n Hy):List D->Fr:=YX io n d.1
abbrev Tf (K:z02)(y:Y)(lv:Nat)(nm:Str)(ps:List Str)(io:List Bool)(rk:Kd)(f:List D->Fr):Prop:=VB y.P y.w K y.mg y.base lv nm ps (spF K io rk f)
def Nf (K:z02)(nm q:Str)(st:Stmt):Prop:=∃f fd,zd7 K z68 nm=some (some (.ref f))/\Fun K nm q st f fd
abbrev Bn (K:z02)(nm q:Str)(st:Stmt)(ps:List Str):Prop:=∀(kV doc pm:Value) (an:Option Addr) (cdv ct:Value) (us:List Value),us.length=ps.length->bindArgs (zh0 nm q (defArgs st) (defBody st) (defScope st) .none kV doc pm an cdv ct) ⟨us,[]⟩=pure (ps.zip us)
variable {y:Y}{h:Heap}
theorem QaB (X:K.In h)(G:h.Ns z68 y.mg)(c:Cy y)(a:Nf K nm q st)(d:Df K Cy nm q st lv ps io rk n Hy)(b:Bn K nm q st ps)(g:∀R,Hy y R->R):Tf K y lv nm ps io rk (dfn d):=
 let ⟨f,fd,e,F⟩:=a;⟨f,fd,g _ (d.2 c F),PySem.W.mg_of X G e,F.kp,F.binds b⟩
end
theorem ar0(h:P []):∀us,us.length=0->P us:=fun us e=>by rw[ze3.mp e];exact h
theorem arS(h:∀a us,us.length=n->P (a::us)):∀us,us.length=n+1->P us:=fun us e=>by cases us with
 |nil=>cases e
 |cons a us=>exact h a us (Nat.succ.inj e)
theorem ar1(h:∀a0,P [a0]):∀us,us.length=1->P us:=arS fun a=>ar0 (h a)
theorem ar2(h:∀a0 a1,P [a0,a1]):∀us,us.length=2->P us:=arS fun a=>ar1 (h a)
theorem ar3(h:∀a0 a1 a2,P [a0,a1,a2]):∀us,us.length=3->P us:=arS fun a=>ar2 (h a)
def spLaw (K:z02):Sp:=fun vs H Q _=>∃(a:Addr) (ns:List Int),vs=[.ref a]/\SqL K H a (ns.map V.int)/\∀H',Q (.bl true) H'
theorem Qf0 {K:z02}{F:Hp}:∀(ns:List Int),RL K F (ns.map V.int) (ns.map D.int)
 | []=>.nil
 |a::l=>.cons (.sc rfl) (Qf0 l)
theorem Qmg{f:List D->Fr}(e:∀ns:List Int,f [.lst (ns.map .int)]=.ok (.bl true) [])(vs:List L2.V)(H:Hp)(Q:VK)(E:XK)(h:spLaw K vs H Q E):spF K [false] .V f vs H Q E:=by
 obtain⟨a,ns,rfl,hs,hq⟩:=h;refine⟨H,[.lst (ns.map .int)],[],.val (.nd (t:=.lst) hs (Qf0 ns)) .nil,zm6,@5,Same.refl H,?_⟩;rw[e ns];intro F' H' v fr fo _ _ _ _ _ r _ _ _ _ _;obtain rfl:=r.1.Qu (w:=.bl true) rfl;exact hq H'
theorem Qmh {l:zo1}{w:World}{h:Heap}{fa:Addr}{lv:Nat}(X:K.In h)(G:h.Ns z68 mg)(hfa:mg "law" = some (.ref fa))(a:Nf K "law" "law" st)(d:Df K Cy "law" "law" st lv ["_law_script"] [false] .V n Hy)
  (c:∀base,Cy ⟨l.prog,w,mg,base⟩) (g:∀base R,Hy ⟨l.prog,w,mg,base⟩ R->R) (e:∀ns:List Int,dfn d [.lst (ns.map .int)]=.ok (.bl true) []) (b:∀(kV dc pm:Value) (an:Option Addr) (cd ct:Value) (s:Shared) (v:Value),BindsTo s (zh0 "law" "law" (defArgs st) (defBody st) (defScope st) .none kV dc pm an cd ct) ⟨[v],[]⟩ [("_law_script",v)]) :
  ∃fd:FuncData,(∀(s:Shared) (v:Value),BindsTo s fd ⟨[v],[]⟩ [("_law_script",v)])/\∀base:Heap,K.In base->base.Ns z68 mg->FnOk l.prog w K mg base (CXe l.prog w) lv fa fd ["_law_script"] (spLaw K):=by
 obtain⟨f,fd,e1,F⟩:=a;cases hfa.symm.trans (PySem.W.mg_of X G e1)
 obtain⟨_,_,kV,dc,pm,an,cd,ct,_,rfl,_⟩:=F.ex;exact⟨_,b kV dc pm an cd ct,fun base _ _=>(g base _ (d.2 (c base) F)).imp fun vs H Q E hh=>Qmg e vs H Q E hh⟩
theorem walk {l:zo1}{q:Program}{loose:List Str}{YP:World->Heap->Prop}{d:DefRec}{K:Params->z02}(hr:Room k callerA)(hn:l.most=some 63)(hdf:d.params.defaults=[])
  (hY:∀(w:World) (h:Heap),YP w h->(K w.params).In h)
  (F:∀(w:World) (mg:Str->Option Value) (fa:Addr) (h:Heap),(K w.params).In h->h.Ns z68 mg->mg d.name=some (.ref fa)->
   ∃fd:FuncData,(∀(s:Shared) (u:Value),BindsTo s fd ⟨[u],[]⟩ [("_law_script",u)])/\∀base:Heap,(K w.params).In base->base.Ns z68 mg->FnOk l.prog w (K w.params) mg base (CXe l.prog w) k fa fd ["_law_script"] (spLaw (K w.params))) :
  PySem.W.WalkO q loose XP YP l.row.toRowW d [] (fun f vs=>y39 f vs):=
 L2.walk_of (n:=63) (k:=k) (x := "_law_script") (CX:=fun w=>CXe l.prog w) (sp:=fun w=>spLaw (K w.params)) hn @2 hdf hr hY F (fun _ _ a ns hl _ hS=>⟨a,ns,rfl,hS,fun _=>rfl⟩) fun _ _ _ _ _ ⟨_,_,_,_,_,_,_,_,_,_,z⟩=>z
end TL
namespace L2
open PySem PySem.Spec PyProof.Rows
theorem boot_zip:z90 "zip" = some (.type "zip"):=by decide +kernel
end L2
namespace TL
open PySem PySem.Spec L2
section
def Qhd (ds es:List D):List D:=(ds.zip es).map fun x=>.tup [x.1,x.2]
end
end TL
namespace L2.Srt
open PySem PySem.Spec PyProof.Rows L2
section
variable {X:Cx}
def Qmi (K:z02):List V->Hp->VK->Prop:=fun xs H Q=>∃p qs ps M,xs=[.ref p]/\SqL K H p (qs.map V.ref)/\Paired (PT K H) qs ps/\Paired M qs ps/\ps.Nodup/\ps.length<=4000/\
 ∀(l:Addr) (qs':List Addr) (ps':List @13),H l=none->Paired M qs' ps'->ps'.Perm ps->ps'.Pairwise (fun a b=>ltP a b=true)->Q (.ref l) (upd H l (.lst (qs'.map V.ref)))
theorem Qco (hu:X.A.units+3<cLine):CallR X (.builtin "sorted") (Qmi X.K):=by
 intro pins s σ H xs us Q I r h;obtain⟨p,qs,ps,M,rfl,hq,pr,pM,nd,l64,k⟩:=h;obtain⟨u,rfl,ru⟩:=vals1 r;cases ru
 obtain⟨its,rv,pl,hz⟩:=I.list hq;have ei:=Qao rv;subst ei;have pso:Paired (PO s.heap) qs ps:=Paired.imp' (fun _ _ z=>Qe0 I z) pr;have lq:=z97 pso;refine Qdy (M:=M) hu l64 nd (fun R kR=>collect_list pl.isList ?_ (by rw[z01,z67];lia)) fun h' tk c L qs' ps' kp gs pM' pm pw hD=>?_
 ·have hsz:((s.heap.push @18).update s.heap.objs.size (z54 (·++(qs.map z30).toArray))).objs.size=s.heap.objs.size+1:=by
   rw[zv4,size_push']
  have keep:Kp s.heap ((s.heap.push @18).update s.heap.objs.size (z54 (·++(qs.map z30).toArray))):=fun b o q=>by
   have hlt:b<s.heap.objs.size:=z34 q;rw[zr2 _ _ _ _ (z45 hlt),zj7 _ _ _ (z45 hlt)];exact q
  exact kR _ s.toks qs ps keep (by rw[hsz];exact zd1 _) (Paired.imp' (fun _ _ z=>z.kp keep) pso) pM (.refl _)
 ·refine⟨.ref _,_,I.laid (t':=tk) (o:=.lst (qs'.map V.ref)) kp gs ⟨?_,_,c,Vo _,hD⟩,rfl,k _ qs' ps' (I.hok.fresh gs) pM' pm pw⟩;have:=z97 pM';rw[z01,this,pm.length_eq,z67];lia
def Qmj (prog:Program)(w:World)(M:Addr->Int×Int->Prop)(a:Addr)(ps:List @13)(h:Heap):Prop:=
 ∃ps' o es ep t,ps'.Perm (upTo ps)/\h.get? a=some o/\o.ExactSet/\o.data=.set es ep t/\L2.St.Tp t es/\es.size * 5<t.mask * 3/\t.plain=true/\t.led=(!w.params.followText "set-order")/\Paired (fun(e:Int×Value) p=>∃q,e=(hP prog w p,.ref q)/\M q p) es.toList ps'
def QnT (prog:Program)(w:World)(K:z02):List V->Hp->VK->Prop:=fun xs H Q=>∃p qs ps M,xs=[.ref p]/\SqL K H p (qs.map V.ref)/\Paired (PT K H) qs ps/\Paired M qs ps/\ps.length<1900/\∀l,H l=none->Q (.ref l) (upd H l (.ext (Qmj prog w M l ps)))
theorem Qbv (hc:X.calm=true)(hu:X.A.units+8<cLine):CallR X (.type "set") (QnT X.prog X.w X.K):=by
 intro pins s σ H xs us Q I r h;obtain⟨p,qs,ps,M,rfl,hq,pr,pM,hn,k⟩:=h;obtain⟨u,rfl,ru⟩:=vals1 r;cases ru
 obtain⟨its,rv,pl,hz⟩:=I.list hq;have ei:=Qao rv;subst ei;refine Qe9 (M:=M) (I.ok.hd hc) hu pl.isList (Paired.imp' (fun _ _ z=>Qe0 I z) pr) pM hn fun h' tk ps' hS pm kp=>?_;obtain⟨o,es,ep,t,ho,hex,hd,T,hlo,hpl,Qcc,hes,nd⟩:=hS;refine⟨.ref _,_,I.laid (t':=tk) (o:=.ext (Qmj X.prog X.w M s.heap.objs.size ps)) kp (z15 _) ⟨⟨ps',o,es,ep,t,pm,ho,hex,hd,T,hlo,hpl,Qcc,Paired.imp' (fun _ _ ⟨q,e,_,m⟩=>⟨q,e,m⟩) hes⟩,⟨o,ho⟩,?_⟩,rfl,k _ (I.hok.fresh (z15 _))⟩;rintro h1 h2 ⟨ps',o,es,ep,t,a1,a2,a3⟩ z;exact⟨ps',o,es,ep,t,a1,z _ a2,a3⟩
def Qmk (prog:Program)(w:World)(K:z02):List V->Hp->VK->Prop:=fun xs H Q=>∃l ps M,xs=[.ref l]/\H l=some (.ext (Qmj prog w M l ps))/\(∀q p,M q p->PT K H q p)/\ps.length<1900/\
 ∀(L:Addr) (qs':List Addr) (ps':List @13),H L=none->Paired M qs' ps'->ps'.Perm (upTo ps)->ps'.Pairwise (fun a b=>ltP a b=true)->Q (.ref L) (upd H L (.lst (qs'.map V.ref)))
theorem Qcp (hc:X.calm=true)(hu:X.A.units+3<cLine):CallR X (.builtin "sorted") (Qmk X.prog X.w X.K):=by
 intro pins s σ H xs us Q I r h;obtain⟨l,ps,M,rfl,hl,hM,hn,k⟩:=h;obtain⟨u,rfl,ru⟩:=vals1 r;cases ru
 obtain⟨⟨ps0,o,es,ep,t,pm0,ho,hex,hd,T,hlo,hpl,Qcc,hes⟩,_,_⟩:=(show ObjOk X.prog X.w H s.heap l (.ext (Qmj X.prog X.w M l ps)) from I.hok l _ hl);have l1:(upTo ps).length<=ps.length:=Qbi ps;have nd0:ps0.Nodup:=pm0.nodup_iff.mpr (Qbj ps);refine Qdy (M:=M) (ps:=upTo ps) hu @0 (Qbj ps) (fun R kR=>Qjq (M:=M) (ps:=ps0) (I.ok.hd hc) ⟨o,es,ep,t,ho,hex,hd,T,hlo,hpl,Qcc,Paired.imp' (fun _ _ ⟨q,e,m⟩=>⟨q,e,Qe0 I (hM q _ m),m⟩) hes,nd0⟩ fun h1 tk qs ps' kp gs p1 p2 pm=>kR h1 tk qs ps' kp gs p1 p2 (pm.trans pm0)) fun h' tk c L qs' ps' kp gs pM' pm pw hD=>?_;refine⟨.ref _,_,I.laid (t':=tk) (o:=.lst (qs'.map V.ref)) kp gs ⟨?_,_,c,Vo _,hD⟩,rfl,k _ qs' ps' (I.hok.fresh gs) pM' pm pw⟩;have:=z97 pM';rw[z01,this,pm.length_eq,z67];lia
end
end L2.Srt
namespace TL
open PySem PySem.Spec L2 L2.Srt
variable {fp:List Addr}
def Qm5:D->Option @13
 |.nd .tup [.int a,.int b]=>some (a,b)
 |_=>none
theorem QjY {d:D}{x:Int×Int}(h:Qm5 d=some x):d=pl x:=by
 unfold Qm5 at h
 split at h
 ·cases h;rfl
 ·cases h
def plL:List D->Option (List @13)
 | []=>some []
 |d::ds=>(Qm5 d).bind fun x=>(plL ds).map (x::·)
theorem Qf1:∀{ds:List D} {xs:List @13},plL ds=some xs->ds=xs.map pl
 | [],_,h=>by cases h;rfl
 |d::ds,xs,h=>by
  obtain⟨x,e1,e2⟩:=z27.mp (show(Qm5 d).bind _=some xs from h);obtain⟨ys,e3,rfl⟩:=z03.mp e2;rw[QjY e1,Qf1 e3];rfl
theorem Qbw:∀{xs:List @13},plL (xs.map pl)=some xs
 | []=>rfl
 |x::xs=>by rw[z28,plL,Qbw];rfl
theorem Jc:∀xs:List @13,D.Jb (xs.map pl)=true
 | []=>rfl
 |x::xs=>by rw[z28];show(true && D.Jb (xs.map pl))=true;rw[Jc xs];rfl
theorem Qf2 {K:z02}{F:Hp}:∀{vs:List L2.V} {xs:List @13},RL K F vs (xs.map pl)->∃qs:List Addr,vs=qs.map L2.V.ref/\Paired (fun q p=>R K F (.ref q) (pl p)) qs xs
 |_,[],.nil=>⟨[],rfl,.nil⟩
 |_,x::xs,.cons r t=>by
  obtain⟨a,rfl,h⟩:=Qme r;obtain⟨qs,rfl,p⟩:=Qf2 t;exact⟨a::qs,rfl,.cons r p⟩
theorem Qf3 {K:z02}{F:Hp}:∀{qs:List Addr} {xs:List @13},Paired (fun q p=>R K F (.ref q) (pl p)) qs xs->RL K F (qs.map L2.V.ref) (xs.map pl)
 |_,_,.nil=>.nil
 |_,_,.cons r t=>.cons r (Qf3 t)
theorem Qf4 {F G H:Hp}(s:Same F G):Same (jn F H fp) (jn G H fp):=fun b o e=>by
 by_cases z:b∈fp
 ·rw[JF z] at e ⊢;exact e
 ·rw[QF z] at e ⊢;exact s b o e
theorem Qml {C:Cn}{F H:Hp}{q:Addr}{o:HO}{σ:L2.St}{ρ:Rho}{τ:List @22}(I:SI C F H σ ρ τ fp)(hq:H q=none):Same (jn F H fp) (jn F (upd H q o) fp):=fun b ob e=>by
 by_cases z:b∈fp
 ·rw[JF z] at e ⊢;rw[upd_ne (ne_of_none e hq)];exact e
 ·rw[QF z] at e ⊢;exact e
section
variable {X:Cx}{C:Cn}{E:XE}{p:Bool}{e o:Expr}{mr:MA}{pos px px2 cpos:Pos}{ks:List Kd}{x y:Str}
theorem QjZ {F H:Hp}(s:Same F H){q:Addr}{v:Int×Int}(hK:C.K=X.K)(r:R C.K F (.ref q) (pl v)):PT X.K H q v:=by
 obtain⟨a,e,h⟩:=Qme r;cases e
 exact SqT.of (s _ _ h)
def Qf5:List D->Option (List @13)
 | [.nd .lst ds]=>(plL ds).bind fun ps=>if ps.Nodup/\ps.length<=4000 then some (Jh ltP ps) else none
 |_=>none
def QdQ (mr:MA):ME:=fun ρ=>(mr ρ).bind fun r=>(Rs.of (Qf5 r.1)).bind fun ps=>.ok (.lst @29,r.2)
theorem Qbx (hu:X.A.units+3<cLine)(hK:C.K=X.K)(hm:X.mg x=none)(hv:z90 x=some (.builtin "sorted"))(ha:PA X [e] (tA ks C p E mr))(ok:rdL ks=true:=by rfl)(hgl:Gl X x:=by rfl)(hn:x ≠ "__name__" := by decide)(hdb:@10=false:=by decide)
  (he:starEach [e] X.env=@16::starEach [] X.env:=by rfl) (hpl:(backTo pos (starEach [] X.env)).any (·.1)=false:=by rfl):PE X (.Call (.Name x px) [e] [] pos) (tX .O C p E (QdQ mr)):=
 Qm (pe_callB (Qco hu) hgl hm hv ha hn hdb he hpl) fun σ H Q ⟨F,ρ,τ,fp,I,h⟩=>by
  refine⟨F,ρ,τ,fp,I,h.split.mono fun r1 h1 F1 H1 fp1 vs I1 n1 f1=>?_⟩;rw[Je ok] at I1;have rl:=f1.rd I1 ok;obtain⟨ps',e1,h2⟩:=h1.split.of;obtain⟨dr,ρ1⟩:=r1;dsimp only at e1 rl h2;unfold Qf5 at e1
  split at e1
  ·rename_i ds
   obtain⟨ps,e2,e3⟩:=z27.mp e1
   split at e3
   ·rename_i cnd
    cases e3
    rw[Qf1 e2] at rl;obtain⟨v,rfl,r1⟩:=rl.one;obtain⟨a,us,rfl,h3,h4⟩:=r1.inv;have rlF:=I1.loL h4 (Jc ps);obtain⟨qs,rfl,pM⟩:=Qf2 rlF;refine⟨a,qs,ps,_,rfl,?_,Paired.imp' (fun _ _ z=>QjZ I1.fh hK z) pM,pM,cnd.1,cnd.2,fun l qs' ps' hl pM' pm pw=>?_⟩
    ·rw[← hK];exact(At.same h3 (JD I1.fh)).sql
    ·have eq:ps'=Jh ltP ps:=JR YC pw (Q9 YC cnd.1) (pm.trans (Ql ps).symm);subst eq;exact h2 _ _ _ _ (I1.newList hl (Qf3 pM') (Jc _)) ((n1.trans (q:=true) ⟨Same.refl _,fun _=>V1 I1 hl⟩).weak fun z=>by simp[z]) z64
   ·cases e3
  ·cases e1
def Qf6:List D->Option (List @13)
 | [.nd .lst ds]=>(plL ds).bind fun ps=>if ps.length<1900 then some (Jh ltP (upTo ps)) else none
 |_=>none
def Qf7 (mr:MA):ME:=fun ρ=>(mr ρ).bind fun r=>(Rs.of (Qf6 r.1)).bind fun ps=>.ok (.lst @29,r.2)
theorem QhQ (hc:X.calm=true)(hu:X.A.units+8<cLine)(hK:C.K=X.K)(hm:X.mg x=none)(hv:z90 x=some (.builtin "sorted"))(hm2:X.mg y=none)(hv2:z90 y=some (.type "set"))(ha:PA X [e] (tA ks C p E mr))(ok:rdL ks=true:=by rfl)(hgl:Gl X x:=by rfl)(hn:x ≠ "__name__" := by decide)(hdb:@10=false:=by decide)(Qo5:Gl X y:=by rfl)(hn2:y ≠ "__name__" := by decide)(Qo6:(y == ("__debug__" : Str))=false:=by decide)
  (he:starEach [e] X.env=@16::starEach [] X.env:=by rfl) (hpl:(backTo cpos (starEach [] X.env)).any (·.1)=false:=by rfl)
  (he2:starEach [.Call (.Name y px2) [e] [] cpos] X.env=(false,eval (.Call (.Name y px2) [e] [] cpos) X.env)::starEach [] X.env:=by rfl) (Qo7:(backTo pos (starEach [] X.env)).any (·.1)=false:=by rfl):PE X (.Call (.Name x px) [.Call (.Name y px2) [e] [] cpos] [] pos) (tX .O C p E (Qf7 mr)):=
 Qm (pe_callB (Qcp hc @0) hgl hm hv (pa_cons (pe_callTy (Qbv hc hu) Qo5 hm2 hv2 ha hn2 Qo6 he hpl) pa_nil he2) hn hdb he2 Qo7) fun σ H Q ⟨F,ρ,τ,fp,I,h⟩=>by
  refine⟨F,ρ,τ,fp,I,h.split.mono fun r1 h1 F1 H1 fp1 vs I1 n1 f1=>?_⟩;rw[Je ok] at I1;have rl:=f1.rd I1 ok;obtain⟨ps',e1,h2⟩:=h1.split.of;obtain⟨dr,ρ1⟩:=r1;dsimp only at e1 rl h2;unfold Qf6 at e1
  split at e1
  ·rename_i ds
   obtain⟨ps,e2,e3⟩:=z27.mp e1
   split at e3
   ·rename_i cnd
    cases e3
    rw[Qf1 e2] at rl;obtain⟨v,rfl,r1⟩:=rl.one;obtain⟨a,us,rfl,h3,h4⟩:=r1.inv;have rlF:=I1.loL h4 (Jc ps);obtain⟨qs,rfl,pM⟩:=Qf2 rlF;refine⟨a,qs,ps,_,rfl,?_,Paired.imp' (fun _ _ z=>QjZ I1.fh hK z) pM,pM,cnd,fun l hl=>?_⟩
    ·rw[← hK];exact(At.same h3 (JD I1.fh)).sql
    ·have J:=I1.lay0 (o:=.ext (Qmj X.prog X.w (fun q p=>R C.K F1 (.ref q) (pl p)) l ps)) hl;refine⟨l,ps,_,rfl,upd_same,fun q v z=>QjZ J.fh hK z,cnd,fun L qs' ps' hL pM' pm pw=>?_⟩;have eq:ps'=Jh ltP (upTo ps):=JR YC pw (Q9 YC (Qbj ps)) (pm.trans (Ql _).symm);subst eq;refine h2 _ _ _ _ (J.newList hL (Qf3 pM') (Jc _)) ((n1.trans (q:=true) ⟨Same.refl _,fun _=>?_⟩).weak fun z=>by simp[z]) z64;exact(Qml I1 hl).trans (V1 J hL)
   ·cases e3
  ·cases e1
end
section
variable {X:Cx}{C:Cn}{E:XE}{e:Expr}{pos cpos:Pos}{rk:Kd}{x:Str}
def Qoz (i:Nat)(n:Int):MS:=fun ρ=>match ρ[i]? with
 |some (some (.frz (.int z)))=>(Rs.of (YF ρ i (.int (z+n)))).bind fun ρ'=>.ok (.nx,ρ')
 |_=>.no
theorem QnU {i:Nat}{n:Int}{j:Nat}{pos':Pos}(hN:X.N.Nodup)(hi:X.N[i]? = some x)(hx:Loc X.env.scope x)(hf:X.fn x=true\/X.env.scope.names.lookup x=some .local:=by first|exact .inl rfl|exact .inr rfl|assumption) :
  PS X (.AugAssign (.Name x pos') .Add (.Constant (.int n) j cpos) pos) (tS rk C E (Qoz i n)):=Q8 (ps_aug hN hi hx pe_int ip_add hf) fun D σ H ⟨F,ρ,fp,I,h⟩=>by
 unfold Qoz at h
 split at h
 ·rename_i z es
  obtain⟨ρ',e,h2⟩:=h.split.of;obtain⟨y,f0,g0,rest,ey,s1,_⟩:=I.cut es
  cases s1 with
  |frz r=>
   obtain rfl:=r.Qu (w:=.int z) rfl;obtain⟨fp',J,_⟩:=SI.YF I (R.sc (d:=.int (z+n)) rfl) e;exact⟨_,ey,z,n,rfl,rfl,h2 F H _ fp' (Same.refl _) J⟩
 ·exact h.elim
end
end TL
namespace L2.Srt
open PySem PySem.Spec PyProof.Rows L2
section
variable {K:Type}[DecidableEq K]
end
end L2.Srt
namespace TL
open PySem PySem.Spec L2
theorem hu8 {A:Around}{k:Nat}(hr:Room k A):A.units+8<cLine:=by have:=hr.units;lia
end TL
namespace L2.Srt
open PySem PySem.Spec L2
def Qby (x:P4):List Key:=YD x.1++YD x.2
def N4 (H:Hp)(q:Addr)(x:P4):Prop:=∃a b,H q=some (.tup [.ref a,.ref b])/\H a=some (.tup [.int x.1.1,.int x.1.2])/\H b=some (.tup [.int x.2.1,.int x.2.2])
theorem Qmm {H:Hp}{q:Addr}{x:P4}(h:YB H q (Qby x)):N4 H q x:=by
 rcases h with⟨n,_⟩|⟨k1,k2,p,r,e,l1,l2,h0,h1,h2⟩
 ·exact absurd rfl n
 ·obtain⟨e1,e2⟩:=(QcE (show(YD x.1).length=2 from rfl) l1).mp e;rw[← e1] at h1;rw[← e2] at h2;exact⟨p,r,h0,h1,h2⟩
section
variable {X:Cx}{pins:List @8}{σ:St}{H:Hp}{s:Shared}
theorem Qmn (I:Inv X pins σ H s){q:Addr}{x:P4}(h:N4 H q x):PO4 s.heap q x:=by
 obtain⟨a,b,h0,h1,h2⟩:=h;obtain⟨_,its,r,o,g1,g2,n,g3⟩:=(show ObjOk X.prog X.w H s.heap q (.tup [.ref a,.ref b]) from I.hok q _ h0);obtain⟨u,v,rfl,ru,rv⟩:=Vals.two r;cases(show u=z30 a from ru)
 cases(show v=z30 b from rv)
 exact⟨o,a,b,n,g1,g2,g3,Qe0 I (show PT X.K H a x.1 from SqT.of h1),Qe0 I (show PT X.K H b x.2 from SqT.of h2)⟩
def Qmo:List V->Hp->VK->Prop:=fun xs H Q=>∃d kvs ps,xs=[.ref d]/\Rd H d (.dT kvs)/\kvs.map (·.1)=ps.map Qby/\ps.length<=4000/\
 ∀(L:Addr) (qs':List Addr) (ps':List P4),H L=none->Paired (N4 H) qs' ps'->ps'.Perm ps->ps'.Pairwise (fun a b=>Qey a b=true)->Q (.ref L) (upd H L (.lst (qs'.map V.ref)))
theorem Qcq (hc:X.calm=true)(hu:X.A.units+3<cLine):CallR X (.builtin "sorted") Qmo:=by
 intro pins s σ H xs us Q I r h;obtain⟨d,kvs,ps,rfl,hd,ek,l64,k⟩:=h;obtain⟨u,rfl,ru⟩:=vals1 r;cases ru
 obtain⟨z1,z2,ys,pr,od,es,ep,e1,e2,e3,e4,nd⟩:=(show ObjOk X.prog X.w H s.heap d (.dT kvs) from rd_of I.hok hd)
 have ly:ys.length=ps.length:=by
  have h1:=pr.length;have h2:=congrArg zd5 ek;rw[z01,z01] at h2;lia
 have at_:∀(kvs:List (List Key×V)) (ys:List (List Key×Addr×Value)) (ps:List P4),Paired (fun(p:List Key×V) (q:List Key×Addr×Value)=>p.1=q.1/\YB H q.2.1 p.1/\RelV p.2 q.2.2) kvs ys->kvs.map (·.1)=ps.map Qby->Paired (N4 H) (ys.map (·.2.1)) ps/\ys.map (·.1)=ps.map Qby:=by
  intro kvs ys ps h
  induction h generalizing ps with
  |nil=>intro e;cases ps with
   |nil=>exact⟨.nil,rfl⟩
   |cons _ _=>cases e
  |cons r _ ih=>intro e;cases ps with
   |nil=>cases e
   |cons p ps=>
    simp only[z28,List.cons.injEq] at e;obtain⟨i1,i2⟩:=ih ps e.2;obtain⟨r1,r2,_⟩:=r;rw[e.1] at r2;exact⟨.cons (Qmm r2) i1,by rw[z28,z28,i2,← r1,e.1]⟩
 obtain⟨pM,ey⟩:=at_ kvs ys ps pr ek
 have ndp:ps.Nodup:=by
  rw[ey] at nd;exact(zd9.mp nd).imp fun h e=>h (by rw[e])
 have eq:es.toList.map zw3=(ys.map (·.2.1)).map z30:=by
  rw[e4,z60,z60];rfl
 have sz:es.size=ps.length:=by rw[← z43,e4,z01,ly]
 refine Qce (M:=N4 H) (((0,0),(0,0)):P4) (Qlf (A:=X.A.in1.in1) (by show X.A.units+1+1+1<cLine;lia)) Qfh l64 ndp (fun R kR=>Qhv (I.ok.hd hc) z2 e1 e2 e3 (by rw[sz,z67];lia) fun h1 tk kp gs=>?_) fun h' tk c L qs' ps' kp gs pM' pm pw hD=>?_
 ·rw[eq];exact kR h1 tk _ ps kp gs (Paired.imp' (fun _ _ z=>(Qmn I z).kp kp) pM) pM (.refl _)
 ·refine⟨.ref _,_,I.laid (t':=tk) (o:=.lst (qs'.map V.ref)) kp gs ⟨?_,_,c,Vo _,hD⟩,rfl,k _ qs' ps' (I.hok.fresh gs) pM' pm pw⟩;have:=z97 pM';rw[z01,this,pm.length_eq,z67];lia
end
end L2.Srt
namespace TL
open PySem PySem.Spec L2 L2.Srt
section
variable {X:Cx}{C:Cn}{E:XE}{F H:Hp}{σ:L2.St}{ρ:Rho}{τ:List @22}{fp:List Addr}
def QhR (F H:Hp):Hp:=fun b=>match H b with|some (.tup xs)=>some (.tup xs)|_=>F b
theorem Qbz {b:Addr}{xs:List L2.V}(h:H b=some (.tup xs)):QhR F H b=some (.tup xs):=by unfold QhR;rw[h]
theorem Qc3 {b:Addr}{o:HO}(h:QhR F H b=some o):F b=some o\/(IsT o/\H b=some o):=by
 unfold QhR at h
 split at h
 ·rename_i xs e;cases h;exact .inr ⟨z64,e⟩
 ·exact .inl h
theorem Qcr (fh:Same F H):Same F (QhR F H):=fun b o e=>by
 have z:=fh b o e;unfold QhR;rw[z];cases o<;>first|rfl|exact e
theorem SI.QnV (I:SI C F H σ ρ τ fp):SI C (QhR F H) H σ ρ τ fp:=by
 refine I.step (Qcr I.fh) (fun b o e=>(Qc3 e).elim (I.fh b o) (·.2)) (fun _ _=>rfl) (fun a ha=>?_) (fun b o e=>(Qc3 e).imp id fun z=>.inr z.1) (fun b o _ _ e=>e) (fun b e=>e)
 cases e:QhR F H a with
 |none=>rfl
 |some o=>
  obtain⟨o',e',m⟩:=I.mem a ha;rcases Qc3 e with z|⟨z,z'⟩
  ·rw[I.ap a ha] at z;cases z
  ·rw[e'] at z';cases z';cases o<;>first|exact z.elim|exact m.elim
def Qm6:List Key->Option P4
 | [.inl a,.inl b,.inl c,.inl d]=>some ((a,b),(c,d))
 |_=>none
theorem Qj0 {k:List Key}{x:P4}(h:Qm6 k=some x):k=Qby x:=by
 unfold Qm6 at h
 split at h
 ·cases h;rfl
 ·cases h
def Qc4:List (List Key)->Option (List P4)
 | []=>some []
 |k::ks=>(Qm6 k).bind fun x=>(Qc4 ks).map (x::·)
theorem QdR:∀{ks:List (List Key)} {xs:List P4},Qc4 ks=some xs->ks=xs.map Qby
 | [],_,h=>by cases h;rfl
 |k::ks,xs,h=>by
  obtain⟨q,e1,e2⟩:=z27.mp (show(Qm6 k).bind _=some xs from h);obtain⟨qs,e3,rfl⟩:=z03.mp e2;rw[Qj0 e1,QdR e3];rfl
theorem Qcs:∀{xs:List P4},Qc4 (xs.map Qby)=some xs
 | []=>rfl
 |x::xs=>by rw[z28,Qc4,Qcs];rfl
def pp (x:P4):D:=.nd .tup [pl x.1,pl x.2]
def Qf8:List D->Option (List P4)
 | [.nd (.dT ks) ds]=>(Qc4 ks).bind fun ps=>if ps.Nodup/\ps.length<=4000 then some (Jh Qey ps) else none
 |_=>none
def Qf9 (mr:MA):ME:=fun ρ=>(mr ρ).bind fun r=>(Rs.of (Qf8 r.1)).bind fun ps=>.ok (.lst (ps.map pp),r.2)
theorem QhS (xs:List P4):D.Jb (xs.map pp)=true:=J7 fun d hd=>by
 obtain⟨x,_,rfl⟩:=z37.mp hd;rfl
variable {x:Str}{e:Expr}{px pos:Pos}{ks:List Kd}{p:Bool}{mr:MA}
theorem QhT (hc:X.calm=true)(hu:X.A.units+3<cLine)(hm:X.mg x=none)(hv:z90 x=some (.builtin "sorted"))(ha:PA X [e] (tA ks C p E mr))(ok:rdL ks=true:=by rfl)(hgl:Gl X x:=by rfl)(hn:x ≠ "__name__" := by decide)(hdb:@10=false:=by decide)
  (he:starEach [e] X.env=@16::starEach [] X.env:=by rfl) (hpl:(backTo pos (starEach [] X.env)).any (·.1)=false:=by rfl):PE X (.Call (.Name x px) [e] [] pos) (tX .O C p E (Qf9 mr)):=
 Qm (pe_callB (Qcq hc hu) hgl hm hv ha hn hdb he hpl) fun σ H Q ⟨F,ρ,τ,fp,I,h⟩=>by
  refine⟨F,ρ,τ,fp,I,h.split.mono fun r1 h1 F1 H1 fp1 vs I1 n1 f1=>?_⟩;rw[Je ok] at I1;have rl:=f1.rd I1 ok;obtain⟨ps',e1,h2⟩:=h1.split.of;obtain⟨dr,ρ1⟩:=r1;dsimp only at e1 rl h2;unfold Qf8 at e1
  split at e1
  ·rename_i kk ds
   obtain⟨ps,e2,e3⟩:=z27.mp e1
   split at e3
   ·rename_i cnd
    cases e3
    obtain⟨v,rfl,r1⟩:=rl.one;obtain⟨d,vs,rfl,⟨hl,hd⟩,_⟩:=r1.inv;have hd1:Rd H1 d (.dT (kk.zip vs)):=hd.same (JD I1.fh);refine⟨d,_,ps,rfl,hd1,by rw[zv0 @0];exact QdR e2,cnd.2,fun L qs' ps' hL pM pm pw=>?_⟩;have eq:ps'=Jh Qey ps:=JR Qfh pw (Q9 Qfh cnd.1) (pm.trans (Ql ps).symm);subst eq;have J:=I1.QnV;have sG:=Qcr (F:=F1) (H:=H1) I1.fh
    have rr:∀(bs:List Addr) (ys:List P4),Paired (N4 H1) bs ys->RL C.K (QhR F1 H1) (bs.map L2.V.ref) (ys.map pp):=by
     intro bs ys h
     induction h with
     |nil=>exact .nil
     |cons r _ ih=>
      obtain⟨a,b,h0,h1,h2⟩:=r;exact .cons (.nd (t:=.tup) (Qbz h0) (.cons (.nd (t:=.tup) (Qbz h1) (.cons (.sc rfl) (.cons (.sc rfl) .nil))) (.cons (.nd (t:=.tup) (Qbz h2) (.cons (.sc rfl) (.cons (.sc rfl) .nil))) .nil))) ih
    refine h2 _ _ _ _ (J.newList hL (rr qs' _ pM) (QhS _)) ((n1.trans (q:=true) ⟨sG,fun _=>(Qf4 sG).trans (V1 J hL)⟩).weak fun z=>by simp[z]) z64
   ·cases e3
  ·cases e1
end
end TL
namespace TL
open PySem PySem.Spec L2
section
variable {X:Cx}{C:Cn}{E:XE}
def dOb:Tag->List L2.V->Option HO
 |.dT ks,vs=>some (.dT (ks.zip vs))
 |.dK ks,vs=>some (.dK (ks.zip vs))
 |_,_=>none
theorem SI.QiN {F H:Hp}{σ:L2.St}{ρ:Rho}{τ:List @22}{fp:List Addr}{i:Nat}{t:Tag}{ds:List D}(I:SI C F H σ ρ τ fp)(es:ρ[i]? = some (some (.own (.nd t ds))))(hd:∀vs,(dOb t vs).isSome=true) :
  ∃l vs rest u,σ[i]? = some (some (.ref l))/\Mt H l t vs/\dOb t vs=some u/\H l=some u/\
   ∀o,∃F',SI C F' (upd H l (.frz o u)) σ (ρ.set i (some (.frz (.nd t ds)))) τ rest/\Same F F'/\F' l=some (.frz o u):=by
 obtain⟨y,f0,g0,rest,ey,s1,pm,w0,w1,cl⟩:=I.cut es
 cases s1 with
 | @own v _ _ h=>
  cases h with
  |sc e=>cases e
  |im m h r=>cases t<;>first|exact nomatch (show false=true from hd [])|cases m
  | @mt l _ vs _ g hl ol=>
   obtain⟨u,eu⟩:=zx8.mp (hd vs)
   have hu:H l=some u:=by
    cases t<;>first|(cases eu;exact hl.2)|cases eu
   have nd:=pm.nodup_iff.mp I.nd;have nd2:(l::(g++rest)).Nodup:=nd
   have nl:∀b,b∈g\/b∈rest->b≠l:=fun b hb z=>by
    subst z;exact(z39.mp nd2).1 (z08.mpr hb)
   have dis:∀b∈rest,b∉g:=fun b hb hg=>(z12.mp (z39.mp nd2).2).2.2 b hg b hb rfl
   have fl:∀b,b=l\/b∈g->F b=none:=fun b hb=>I.ap b (pm.mem_iff.mpr (by
    rcases hb with rfl|hb
    ·exact z13 _ z09
    ·exact z13 _ (z07 _ hb)))
   have hl0:∀b,b=l\/b∈g->C.H₀ b=none:=fun b hb=>w0 b (by
    rcases hb with rfl|hb
    ·exact z09
    ·exact z07 _ hb)
   refine⟨l,vs,rest,u,ey,hl,eu,hu,fun o=>⟨upd (jn F H g) l (.frz o u),?_,?_,upd_same⟩⟩
   all_goals
    have sf:Same F (upd (jn F H g) l (.frz o u)):=fun b ob e=>by
     rw[upd_ne (fun z=>by rw[fl b (.inl z)] at e;cases e),QF (fun z=>by rw[fl b (.inr z)] at e;cases e)];exact e
   ·have at_:At C.K (upd (jn F H g) l (.frz o u)) l t vs:=by
     cases t<;>first|(cases eu;exact⟨hl.1,.inr ⟨o,upd_same⟩⟩)|cases eu
    have J:=cl (F':=upd (jn F H g) l (.frz o u)) (H':=upd H l (.frz o u)) (x':=some (.ref l)) (s':=some (.frz (.nd t ds))) (f0':=[]) (g0':=[]) sf
     (fun b ob e=>by
      by_cases z:b=l
      ·subst z;rw[upd_same] at e ⊢;exact e
      ·rw[upd_ne z] at e ⊢
       by_cases y:b∈g
       ·rw[JF y] at e;exact e
       ·rw[QF y] at e;exact I.fh b ob e)
     (fun b hb=>upd_ne (nl b (.inr hb)))
     (fun b e=>by
      by_cases z:b=l
      ·subst z;rw[upd_same] at e;cases e
      ·rw[upd_ne z] at e;exact e)
     (fun b ob e _ z=>by rw[upd_ne fun y=>by rw[hl0 b (.inl y)] at e;cases e];exact z)
     (fun b ob e=>by
      by_cases z:b=l
      ·exact .inr (.inl (hl0 b (.inl z)))
      ·rw[upd_ne z] at e
       by_cases y:b∈g
       ·exact .inr (.inl (hl0 b (.inr y)))
       ·rw[QF y] at e;exact .inl e)
     (.frz (.nd (t:=t) at_ (ol.r sf fun b hb=>(upd_ne (nl b (.inl hb))).trans (JF hb)))) (z12.mp (z39.mp nd2).2).2.1
     (fun b hb=>by rw[upd_ne (nl b (.inr hb)),QF (dis b hb)];exact I.ap b (pm.mem_iff.mpr (z05 _ hb)))
     @5 @5 (fun v hv=>by
      obtain⟨_,d',z⟩:=I.pr _ _ hv
      rw[es] at z;cases z)
    rw[QX ey] at J;exact J
   ·exact sf
def sKy:Key->D
 |.inl i=>.int i
 |.inr s=>.str s
def QnW (k:List Key):D:=.nd .tup (k.map sKy)
theorem Qga {K:z02}{F:Hp}:∀(k:List Key),RL K F (k.map kV) (k.map sKy)
 | []=>.nil
 |.inl _::k=>.cons (.sc rfl) (Qga k)
 |.inr _::k=>.cons (.sc rfl) (Qga k)
def Qj1 (i:Nat):MA:=fun ρ=>(Rs.of (Qcm ρ i)).bind fun q=>if q.1=false/\(q.2.1.all fun k=>decide (k.length≠4))=true then .ok (q.2.1.map QnW,ρ.set i (some (.frz (.nd (.dT q.2.1) q.2.2)))) else .no
theorem Qj2 {i:Nat}{x:Str}{np:Pos}{tg:Expr}(hN:X.N[i]? = some x)(hv:Vis X.env.scope x)(hd:@10=false:=by decide)(hcd:@23=false:=by decide) :
  PI X tg @20 (tI C false E (Qj1 i)):=Y6 (Qjr (pe_var hN hv hd hcd)) fun σ H RR ⟨F,ρ,τ,fp,I,h⟩=>by
 obtain⟨q,eq,h2⟩:=h.split.of
 by_cases c:q.1=false/\(q.2.1.all fun k=>decide (k.length≠4))=true
 ·rw[if_pos c] at h2;obtain⟨c1,c3⟩:=c;have es:=QcZ eq;rw[c1] at es;obtain⟨l,vs,rest,u,ex,mt,eu,hl,k⟩:=I.QiN es (fun _=>rfl);cases eu
  have ln:q.2.1.length=vs.length:=mt.1;refine⟨_,ex,l,_,rfl,hl,fun o=>?_⟩;obtain⟨F1,J,sf,fl⟩:=k o;have lz:(q.2.1.zip vs).length=q.2.1.length:=by rw[zi1,← ln,zm4]
  refine h2 _ _ rest _ J ⟨sf,fun z=>nomatch z⟩ ⟨fun{C' F' H' σ' ρ' τ' fp' j d} hk I' s e=>?_,fun{C' F' H' σ' ρ' τ' fp'} hk I' s=>?_⟩
  ·have at_:H' l=some (.frz o (.dT (q.2.1.zip vs))):=I'.fh _ _ (s _ _ fl);rw[z17] at e;obtain⟨ky,ek,rfl⟩:=z03.mp e;have hj:=(z11.mp ek).1;refine⟨⟨by rw[lz];exact hj,at_⟩,fun x H2 ⟨e2,p,b,ep,ex,kb⟩=>?_⟩;subst e2 ex
   have e1:p.1=ky:=by
    have z:=congrArg (zs4 zg5) ep;rw[← z17,zv0 @0,ek] at z;exact(z26 z).symm
   have k4:p.1.length≠4:=by
    rw[e1];exact of_decide_eq_true (za7.mp c3 ky (z38 ek))
   have hb:=kb.flat k4
   have sb:Same F' (upd F' b (.tup (p.1.map kV))):=fun a ob e=>by
    by_cases z:a=b
    ·subst z;have:=I'.fh _ _ e;rw[hb] at this;cases this;exact upd_same
    ·rw[upd_ne z];exact e
   refine⟨upd F' b (.tup (p.1.map kV)),I'.know hb z64,⟨sb,fun _=>Qf4 sb⟩,?_⟩;rw[← e1];exact .nd (t:=.tup) (show upd F' b _ b=_ from upd_same) (Qga _)
  ·exact⟨by rw[lz,z01];exact z15 _,I'.fh _ _ (s _ _ fl)⟩
 ·rw[if_neg c] at h2;exact h2.elim
end
end TL
namespace L2
open PySem PySem.Spec PyProof.Rows
def JC {α:Type}(xs:List α)(lo st:Option Int):List α:=(sliceRange (sliceBounds lo none st xs.length).1 (sliceBounds lo none st xs.length).2.1 (sliceBounds lo none st xs.length).2.2).filterMap (xs[·]?)
theorem Qc5 {xs:List V}{us:List Value}(r:Vals xs us):∀is:List Nat,Vals (is.filterMap (xs[·]?)) (is.filterMap (us[·]?))
 | []=>.nil
 |i::is=>by
  rw[z81,z81]
  cases e:xs[i]? with
  |none=>
   have:us[i]? = none:=zp5 (by rw[← r.length];exact zm7.mp e);rw[this];exact Qc5 r is
  |some x=>
   obtain⟨u,e2,ru⟩:=r.get e;rw[e2];exact .cons ru (Qc5 r is)
theorem Qgb {xs:List V}{us:List Value}(r:Vals xs us)(lo st:Option Int):Vals (JC xs lo st) (slicePick us.toArray lo none st).toList:=by
 unfold JC slicePick;rw[z22,← r.length];simpa using Qc5 r _
section
variable {X:Cx}{e st:Expr}{lo:Option Expr}{te:TE}{tl ts:TO}{pos p2:Pos}
def QnX (K:z02)(te:TE)(tl ts:TO):TE:=fun σ H Q=>te σ H fun x H1=>tl σ H1 fun l H2=>ts σ H2 fun k H3=>k≠some 0/\∃a xs,x=.ref a/\SqL K H3 a xs/\∀p,H3 p=none->Q (.ref p) (upd H3 p (.lst (JC xs l k)))
theorem Qj3 (he:PE X e te)(hl:PO X lo tl)(hs:PO X (some st) ts):PE X (.Subscript e (.Slice lo none (some st) p2) pos) (QnX X.K te tl ts):=by
 intro pins s σ H Q I h;refine Subscript_ (thn (he pins s σ H _ I h) fun v s1 hz=>?_);obtain⟨x,H1,I1,r1,q1⟩:=hz;refine wpAny_Slice (thn (hl pins s1 σ H1 _ I1 q1) fun vl s2 hz=>?_);obtain⟨l,H2,I2,pl,q2⟩:=hz;refine thn (po_none pins s2 σ H2 (fun o H'=>o=none/\H'=H2) I2 ⟨rfl,rfl⟩) fun vu s3 hz=>?_;obtain⟨u,H3,I3,pu,e3,e3'⟩:=hz;subst e3 e3';refine thn (hs pins s3 σ H3 _ I3 q2) fun vk s4 hz=>?_;obtain⟨k,H4,I4,pk,k0,a,xs,ex,hq,q⟩:=hz;subst ex;cases r1
 have I5:Inv X pins σ H4 { s4 with heap:=s4.heap.push { cls:=.type "slice",data:=.fields #[vl,vu,vk]}}:=I4.kept (t':=s4.toks) fun b ob z=>z14 _ z
 obtain⟨its,r,ht,hz⟩:=I5.list hq;have hlen:=r.length;refine tail_any (ops:=[.ref a,.ref s4.heap.objs.size]) (T := "list") ht.isList.typeIs slot_list_getitem.lookup ?_ (by with_unfolding_all rfl)
 refine y31 ht.isList (zw2 ..) pl pu pk k0 ?_ (by rw[z22]<;>lia);have vp:=Qgb r l k;have le:=slicePick_size_le its.toArray l none k;refine⟨.ref _,_,I5.laid (t':=s4.toks) (o:=.lst (JC xs l k)) (fun b ob z=>z14 _ z) (z15 _) ?_,rfl,q _ (I5.hok.fresh (z15 _))⟩;refine⟨?_,_,0,vp,z29 _ rfl⟩;rw[vp.length,z43];refine z73 le ?_;rw[z22,← hlen];exact hz
end
end L2
namespace TL
open PySem PySem.Spec L2
variable {ds:List D}{τ:List @22}{fp:List Addr}{i:Nat}
section
variable {e:Expr}{k:Kd}
theorem Qj4 {K:z02}{F:Hp}{vs:List L2.V}{ds:List D}(r:RL K F vs ds):∀is:List Nat,RL K F (is.filterMap (vs[·]?)) (is.filterMap (ds[·]?))
 | []=>.nil
 |i::is=>by
  rw[z81,z81]
  cases e:ds[i]? with
  |none=>
   have:vs[i]? = none:=zp5 (by rw[r.length];exact zm7.mp e);rw[this];exact Qj4 r is
  |some d=>
   obtain⟨v,e2,rv⟩:=r.get e;rw[e2];exact .cons rv (Qj4 r is)
theorem Qj5 {K:z02}{F:Hp}{vs:List L2.V}(r:RL K F vs ds)(l k:Option Int):RL K F (JC vs l k) (JC ds l k):=by
 unfold JC;rw[r.length];exact Qj4 r _
end
section
variable {X:Cx}{C:Cn}{E:XE}
theorem SI.inT {F H:Hp}{σ:L2.St}{ρ:Rho}{n:Nat}{par:Bool}{t:Tag}{xs:List D}(I:SI C F H σ ρ τ fp)(mt:t.mut=true)(es:ρ[i]? = some (some (mkS par (.nd t ds))))(hx:ds[n]? = some (.nd .lst xs)):∃l vs l2 us f1 g f2 rest,σ[i]? = some (some (.ref l))/\Mt H l t vs/\vs.length=ds.length/\vs[n]? = some (.ref l2)/\H l2=some (.lst us)/\OL C.K F H us xs g/\fp.Perm ((l::(f1++((l2::g)++f2)))++rest)/\(∀b∈g,JM C par b)/\
  ∀{us':List L2.V} {xs':List D} {g':List Addr},OL C.K F H us' xs' g'->((l::(f1++((l2::g')++f2)))++rest).Nodup->(∀b∈g',F b=none/\JM C par b)->SI C F (upd H l2 (.lst us')) σ (ρ.set i (some (mkS par (.nd t (ds.set n (.lst xs')))))) τ ((l::(f1++((l2::g')++f2)))++rest):=by
 obtain⟨l,vs,f,rest,ex,hl,ol,pm,w,cl⟩:=I.QdL mt es;have ln:n<ds.length:=(z11.mp hx).1;obtain⟨f1,fj,f2,v0,d0,rfl,e1,e2,oj,ks⟩:=ol.setAt ln;rw[hx] at e2;cases e2
 obtain⟨l2,us,g,rfl,rfl,hl2,og⟩:=oj.QlH;refine⟨l,vs,l2,us,f1,g,f2,rest,ex,hl,ol.length,e1,hl2,og,pm,fun b hb=>w b (by simp[hb]),fun{us' xs' g'} og' nd fr=>?_⟩
 have nd1:(l2::(l::(f1++(g'++f2))++rest)).Nodup:=by
  have pp:((l::(f1++((l2::g')++f2)))++rest).Perm (l2::(l::(f1++(g'++f2))++rest)):=by
   rw[z91];intro a;simp only[ze1,zp7];lia
  exact pp.nodup_iff.mp nd
 have nl:∀{b:Addr},b=l\/b∈f1\/b∈g'\/b∈f2\/b∈rest->b≠l2:=fun{b} hb z=>by
  subst z;exact(z39.mp nd1).1 (by simp only[z08,z21];rcases hb with z|z|z|z|z<;>simp[z])
 have Qo8:O C.K F (upd H l2 (.lst us')) (.ref l2) (.lst xs') (l2::g'):=.mt (t:=.lst) (show upd H l2 (.lst us') l2=some (.lst us') from upd_same) (og'.keep (Same.refl _) fun b hb=>upd_ne (nl (.inr (.inr (.inl hb)))));have oln:=ks (Same.refl F) (H':=upd H l2 (.lst us')) (fun b hb=>upd_ne (nl (by rcases z08.mp hb with z|z;exact .inr (.inl z);exact .inr (.inr (.inr (.inl z)))))) Qo8;rw[QX e1] at oln;refine cl (t':=t) (vs':=vs) (hl.eq (upd_ne (nl @14))) oln (fun b hb=>upd_ne (nl (.inr (.inr (.inr (.inr hb)))))) (fun b o e n'=>(upd_ne (by intro z;subst z;exact n' @6)).trans e) (fun b e=>?_) nd fun b hb=>?_
 ·by_cases hb:b=l2
  ·subst hb;rw[upd_same] at e;cases e
  ·rw[upd_ne hb] at e;exact e
 ·simp only[z08,z21] at hb;have inn:∀{b:Addr},b∈l::(f1++((l2::g)++f2))->F b=none/\JM C par b:=fun{b} z=>⟨I.ap b (pm.mem_iff.mpr (z13 _ z)),w b z⟩;rcases hb with z|(z|z)|z
  ·exact inn (by simp[z])
  ·exact inn (by simp[z])
  ·exact fr b z
  ·exact inn (by simp[z])
theorem QdS {κ:Type}[DecidableEq κ]:∀{ks:List κ} {vs:List V} {k:κ},ks.length=vs.length->(ks.any fun x=>decide (x=k))=true->valV (ks.zip vs) k=vs[ks.findIdx fun x=>decide (x=k)]?
 | [],_,k,_,h=>nomatch h
 |x::ks,[],k,h,_=>by cases h
 |x::ks,v::vs,k,h,hk=>by
  rw[z88]
  by_cases e:x=k
  ·rw[valV_pos (p:=(x,v)) e,zt6,decide_eq_true e];rfl
  ·rw[za6,decide_eq_false e,y02] at hk;rw[valV_neg (p:=(x,v)) e,zt6,decide_eq_false e,QdS (by simpa using h) hk];rfl
theorem QdT {κ:Type}[DecidableEq κ]:∀{ks:List κ} {vs:List V} {k:κ},ks.length=vs.length->¬ (ks.any fun x=>decide (x=k))=true->valV (ks.zip vs) k=none
 | [],_,k,_,_=>rfl
 |x::ks,[],k,h,_=>by cases h
 |x::ks,v::vs,k,h,hk=>by
  by_cases e:x=k
  ·exact absurd (by rw[za6,decide_eq_true e];rfl) hk
  ·rw[za6,decide_eq_false e,y02] at hk;rw[z88,valV_neg (p:=(x,v)) e];exact QdT (by simpa using h) hk
def sdR (ks:List Key)(ds:List D)(k:Key):List Key×List D×Nat:=if(ks.any fun x=>decide (x=k))=true then(ks,ds,ks.findIdx fun x=>decide (x=k)) else(ks++[k],ds++[.lst []],ks.length)
theorem SI.Qo9 {F H:Hp}{σ:L2.St}{ρ:Rho}{par:Bool}{ks:List Key}{xs:List D}{k:Key}{p:Addr}(I:SI C F H σ ρ τ fp)(es:ρ[i]? = some (some (mkS par (.nd (.dK ks) ds))))(hp:H p=none)
  (hx:(sdR ks ds k).2.1[(sdR ks ds k).2.2]? = some (.nd .lst xs)) :
  ∃l kvs l2 H2 fp2,σ[i]? = some (some (.ref l))/\upd H p (.lst []) l=some (.dK kvs)/\kvs.length=ks.length/\(∀v,valV kvs k=some v->v=.ref l2/\H2=upd H p (.lst []))/\
   (valV kvs k=none->l2=p/\H2=upd (upd H p (.lst [])) l (.dK (putK kvs k (.ref p))))/\SI C F H2 σ (ρ.set i (some (mkS par (.nd (.dK (sdR ks ds k).1) (sdR ks ds k).2.1)))) τ fp2/\
   ∃vs2,Mt H2 l (.dK (sdR ks ds k).1) vs2/\vs2[(sdR ks ds k).2.2]? = some (.ref l2)/\l∈fp2:=by
 have J:=I.lay0 (o:=.lst []) hp;unfold sdR at hx ⊢
 by_cases c:(ks.any fun x=>decide (x=k))=true
 ·rw[if_pos c] at hx ⊢;obtain⟨l,vs,l2,us,f1,g,f2,rest,ex,hl,lv,hv2,hl2,_,pm,_⟩:=J.inT rfl es hx;have vi:=QdS (k:=k) hl.1 c;refine⟨l,ks.zip vs,l2,_,fp,ex,hl.2,by rw[zi1,← hl.1,zm4],fun v hv=>⟨?_,rfl⟩,fun z=>?_,?_,vs,hl,hv2,pm.mem_iff.mpr @6⟩
  ·rw[vi,hv2] at hv;exact(z26 hv).symm
  ·rw[vi,hv2] at z;cases z
  ·rw[QX es];exact J
 ·rw[if_neg c] at hx ⊢;obtain⟨l,vs,f,rest,ex,hl,ol,pm,w,cl⟩:=J.QdL rfl es;have vo:=QdT (k:=k) hl.1 c
  have lp:l≠p:=fun z=>by
   have:=hl.2;rw[z,upd_same] at this;cases this
  have pf:p∉fp:=fun z=>by
   obtain⟨o,e,_⟩:=I.mem p z;rw[hp] at e;cases e
  have nd:=pm.nodup_iff.mp J.nd
  have ne:∀b,b∈f\/b∈rest->b≠l:=fun b hb z=>by
   subst z;exact(z39.mp (show(b::(f++rest)).Nodup from nd)).1 (z08.mpr hb)
  refine⟨l,ks.zip vs,p,_,(l::(f++[p]))++rest,ex,hl.2,by rw[zi1,← hl.1,zm4],(fun v hv=>by rw[vo] at hv;cases hv),fun _=>⟨rfl,rfl⟩,?_,vs++[.ref p],?_,?_,by simp⟩
  ·refine cl (t':=.dK (ks++[k])) (vs':=vs++[.ref p]) (ds':=ds++[.lst []]) (f':=f++[p]) ⟨by simp[hl.1],?_⟩ ?_ (fun b hb=>upd_ne (ne b (.inr hb))) (fun b o e n=>by rw[upd_ne fun z=>n (by rw[z];exact z09)];exact e) (fun b e=>by
    by_cases z:b=l
    ·subst z;rw[upd_same] at e;cases e
    ·rw[upd_ne z] at e;exact e) ?_ fun b hb=>?_
   ·rw[upd_same,putK_new _ vo,zp1 hl.1];rfl
   ·refine(ol.keep (Same.refl F) fun b hb=>upd_ne (ne b (.inl hb))).snoc (.mt (t:=.lst) (vs:=[]) ?_ .nil);show upd (upd H p (.lst [])) l _ p=_;rw[upd_ne lp.symm,upd_same]
   ·have big:(p::((l::f)++rest)).Nodup:=z39.mpr ⟨fun z=>pf (pm.mem_iff.mpr z),nd⟩
    have pp:(p::((l::f)++rest)).Perm ((l::(f++[p]))++rest):=by
     rw[z91];intro a;simp only[ze1,zp7,List.count_nil];lia
    exact pp.nodup_iff.mp big
   ·rcases z08.mp hb with z|z
    ·exact⟨J.ap b (pm.mem_iff.mpr (by simp[z])),w b (z07 _ z)⟩
    ·rw[z16.mp z];exact⟨I.fh.free hp,.inl (I.dm p hp)⟩
  ·refine⟨by simp[hl.1],?_⟩;rw[upd_same,putK_new _ vo,zp1 hl.1];rfl
  ·rw[hl.1];simp
variable {rk:Kd}{pk:Bool}{ke e:Expr}{mk m:ME}{pos:Pos}
def QdU (i:Nat)(mk m:ME):MS:=fun ρ=>(Rs.of (Qhc ρ i)).bind fun _=>(mk ρ).bind fun r=>(Rs.of (Qhc r.2 i)).bind fun q=>(Rs.of (Qm0 r.1)).bind fun k=>if q.2.1.length<z24 then
  (Rs.of (((sdR q.2.1 q.2.2 k).2.1[(sdR q.2.1 q.2.2 k).2.2]?).bind asL)).bind fun _=>(m (r.2.set i (some (mkS q.1 (.nd (.dK (sdR q.2.1 q.2.2 k).1) (sdR q.2.1 q.2.2 k).2.1))))).bind fun t=>
   (Rs.of (Qhc t.2 i)).bind fun q'=>(Rs.of ((q'.2.2[(sdR q.2.1 q.2.2 k).2.2]?).bind asL)).bind fun xs=>
    if xs.length<z24/\t.1.imm=true then .ok (.nx,t.2.set i (some (mkS q'.1 (.nd (.dK q'.2.1) (q'.2.2.set (sdR q.2.1 q.2.2 k).2.2 (.lst (xs++[t.1]))))))) else .no
 else .no
theorem Qj6{x:Str}{np lp a1 c1 a2 c2:Pos}(hN:X.N[i]? = some x)(hv:Vis X.env.scope x)(hk:PE X ke (tX .V C pk E mk))(he:PE X e (tX .V C true E m))
  (hs:swapsWith (.Call (.Attribute (.Call (.Attribute @20 "setdefault" a1) [ke,.List [] lp] [] c1) "append" a2) [e] [] c2) none pos.line X.env=pure false:=by rfl)
  (b1:attributeBase @20 "setdefault" X.env (eval @20 X.env)=eval @20 X.env:=by rfl)
  (w1:((backTo c1 (starEach [ke,.List [] lp] X.env)).all (fun x=>!x.1) && (backToKw c1 (keywordEach [] X.env)).all (fun x=>x.1.isSome) && decide ([ke,(.List [] lp:Expr)].length+([]:List Keyword).length+(if([]:List Keyword).isEmpty then 0 else 1)<30))=true:=by rfl)
  (l1:(a1.endLine == c1.line)=true:=by rfl) (s1:starEach [ke,.List [] lp] X.env=(false,eval ke X.env)::starEach [.List [] lp] X.env:=by rfl) (s2:starEach [(.List [] lp:Expr)] X.env=(false,eval (.List [] lp) X.env)::starEach [] X.env:=by rfl) (p1:(backTo c1 (starEach [.List [] lp] X.env)).any (·.1)=false:=by rfl)
  (b2:attributeBase (.Call (.Attribute @20 "setdefault" a1) [ke,.List [] lp] [] c1) "append" X.env (eval (.Call (.Attribute @20 "setdefault" a1) [ke,.List [] lp] [] c1) X.env)=eval (.Call (.Attribute @20 "setdefault" a1) [ke,.List [] lp] [] c1) X.env:=by rfl)
  (w2:((backTo c2 (starEach [e] X.env)).all (fun x=>!x.1) && (backToKw c2 (keywordEach [] X.env)).all (fun x=>x.1.isSome) && decide ([e].length+([]:List Keyword).length+(if([]:List Keyword).isEmpty then 0 else 1)<30))=true:=by rfl)
  (l2:(a2.endLine == c2.line)=true:=by rfl) (s3:starEach [e] X.env=@16::starEach [] X.env:=by rfl) (p2:(backTo c2 (starEach [] X.env)).any (·.1)=false:=by rfl) (hd:@10=false:=by decide) (hcd:@23=false:=by decide) :
  PS X (.Expr (.Call (.Attribute (.Call (.Attribute @20 "setdefault" a1) [ke,.List [] lp] [] c1) "append" a2) [e] [] c2) pos) (tS rk C E (QdU i mk m)):=
 Q8 (ps_expr (pe_bm zn0 zw6 zw5 mt_append
  (pe_bm zx5 zt5 PySem.F.type_dict_setdefault Qjs (pe_var hN hv hd hcd) (pa_cons hk (pa_cons (pe_lst pa_nil) pa_nil s2) s1) b1 w1 l1 s1 p1)
  (pa_cons he pa_nil s3) b2 w2 l2 s3 p2) hs) fun DD σ H ⟨F,ρ,fp,I,h⟩=>by
 obtain⟨q0,e0,h⟩:=h.split.of;obtain⟨l0,vs0,f0,QeD,ex0,hl0,_⟩:=SI.QhL I rfl (Qay e0);refine⟨_,ex0,.inr (.inr (.inl ⟨rfl,.inl ⟨_,hl0.2⟩⟩)),F,ρ,[],fp,I,h.split.run.mono fun r hr F1 H1 fp1 kv I1 n1 f1=>?_⟩;obtain⟨q,eq,h2⟩:=hr.split.of;obtain⟨k,ek,h3⟩:=h2.split.of;obtain rfl:=QiL f1 ek
 by_cases hz:q.2.1.length<z24
 ·rw[if_pos hz] at h3;obtain⟨xs0,exs,h4⟩:=h3.split.of;refine⟨z58 _,fun p hp=>?_⟩;obtain⟨l,kvs,ll,H2,fp2,ex,hl,lk,v1,v2,I2,vs2,mt2,hv2,lm⟩:=I1.Qo9 (k:=k) (Qay eq) hp (Qc2 exs);have el:l=l0:=by rw[ex0] at ex;cases ex;rfl
  subst el;have li:i<r.2.length:=(z11.mp (Qay eq)).1;obtain⟨lA,vsA,llA,usA,_,_,_,_,exA,mtA,_,hvA,hlA,_⟩:=I2.inT rfl (z87 li) (Qc2 exs);have eA:lA=l:=by rw[ex0] at exA;cases exA;rfl
  subst eA
  have QoA:∀{ka kb:List Key} {va vb:List L2.V},ka.length=va.length->kb.length=vb.length->ka.zip va=kb.zip vb->va=vb:=fun{ka kb va vb} h1 h2 e=>by
   have:=congrArg (List.map y40) e;rw[zu8 @0,zu8 @0] at this;exact this
  have evA:vsA=vs2:=QoA mtA.1 mt2.1 (by have z:=z26 (mtA.2.symm.trans mt2.2);injection z);subst evA;have elA:llA=ll:=by rw[hv2] at hvA;cases hvA;rfl
  subst elA
  have fin:tyV X.K "list" (.ref llA) H2/\tX .V C true E m σ H2 fun v H3=>rAppend (.ref llA) [v] H3 fun _ H4=>DD.nx σ H4:=by
   refine⟨.inl ⟨rfl,usA,SqL.of hlA⟩,F1,_,[],fp2,I2,h4.split.run.mono fun t ht F3 H3 fp3 v I3 n3 f3=>?_⟩;obtain⟨q',eq',h5⟩:=ht.split.of;obtain⟨xs,Qpa,h6⟩:=h5.split.of;obtain⟨l',vs',l2',us',f1,g,f2,rest,ex',hl',lv',QoB,hl2',og,pm,wg,cl⟩:=I3.inT rfl (Qay eq') (Qc2 Qpa);have el:l'=lA:=by rw[ex0] at ex';cases ex';rfl
   subst el;have same:H3 l'=some (.dK _):=JD I3.fh l' _ (n3.g rfl l' _ (by rw[JF lm];exact mt2.2));have evs:vs'=vsA:=QoA hl'.1 mt2.1 (by have z:=z26 (hl'.2.symm.trans same);injection z);subst evs;have el2:l2'=llA:=by rw[hv2] at QoB;cases QoB;rfl
   subst el2
   by_cases c:xs.length<z24/\t.1.imm=true
   ·rw[if_pos c] at h6;refine⟨l2',us',v,rfl,rfl,hl2',by rw[og.length];exact c.1,?_⟩;have on:=og.app (show OL C.K F3 H3 [v] [t.1] [] from RL.o (.cons f3 .nil) (by show(t.1.imm && true)=true;rw[c.2];rfl));rw[z50] at on;exact h6 F3 _ σ _ (n1.f.trans n3.f) (cl on (pm.nodup_iff.mp I3.nd) fun b hb=>⟨I3.ap b (pm.mem_iff.mpr (by simp[hb])),wg b hb⟩)
   ·rw[if_neg c] at h6;exact h6.elim
  refine⟨lA,kvs,k,.ref p,rfl,rfl,hl,by rw[lk];exact hz,fun v hv=>?_,fun hn=>?_⟩
  ·obtain⟨e1,e2⟩:=v1 v hv;rw[e1,← e2];exact fin
  ·obtain⟨e1,e2⟩:=v2 hn;rw[← e2,← e1];exact fin
 ·rw[if_neg hz] at h3;exact h3.elim
end
end TL
namespace L2
open PySem PySem.Spec PyProof.Rows L2.Srt
theorem pairs_at {prog:Program}{w:World}{K:Type}[DecidableEq K]{knd:KeyKind prog w K}{es:List DictEntry}{kvs:List (K×Value)}(h:PySem.Pairs knd es kvs):∀{i:Nat} {e:DictEntry},es[i]? = some e->∃kv,kvs[i]? = some kv/\knd.is kv.1 e.key=true:=by
 induction h with
 |nil=>intro i e z;simp at z
 |cons h1 _ _ ih=>
  intro i e z
  cases i with
  |zero=>cases z;exact⟨_,rfl,h1⟩
  |succ i=>exact ih z
section
variable {X:Cx}{e tg:Expr}{te:TE}
def YK (kvs:List (Key×V)):Nat->V->Hp->Prop:=fun i x _=>∃p,kvs[i]? = some p/\x=kV p.1
def QnY (te:TE):TI:=fun σ H R=>te σ H fun v H1=>∃a kvs,v=.ref a/\H1 a=some (.dK kvs)/\∀o,R (ItK a o (.dK kvs) kvs.length (YK kvs)) (upd H1 a (.frz o (.dK kvs)))
theorem Qj7 (he:PE X e te):PI X tg e (QnY te):=by
 intro pins s σ H R I h;refine thn (he pins s σ H _ I h) fun u s1 hz=>?_;obtain⟨x,H1,I1,r1,a,kvs,e1,ha,q⟩:=hz;subst e1;cases r1
 obtain⟨z,hs,ws,rel,dd⟩:=dk_of I1.hok ha;obtain⟨o,es,ep,h1,h2,h3,h4,h5,h6⟩:=id dd;have sz:es.size=kvs.length:=by rw[← z43,h5.length,rel.length]
 have I2:Inv X pins σ (upd H1 a (.frz o (.dK kvs))) s1:=I1.freeze ha z64 h1 ⟨z,hs,ws,rel,dd⟩;refine Qbk hs h1 h2 h3 ?_
 have T:=Qdz (P:=X.prog) (w:=X.w) (K:=X.K) (tg:=tg) a s1.heap.objs.size (o:=o) (u:=.dK kvs) (Y:=YK kvs) h3 fun H h hok ou ho i e ee=>by
  obtain⟨_,_,ws',Qlg,o',es',ep',g1,_,g3,_,g5,_⟩:=ou;cases ho.symm.trans g1
  rw[h3] at g3;injection g3 with g6 g7;subst g6;rw[← z18] at ee;obtain⟨kv,e1,e2⟩:=pairs_at g5 ee;have hl:i<kvs.length:=by rw[Qlg.length];exact(z11.mp e1).1
  obtain⟨kv',e3,r1,_⟩:=Paired.get Qlg (z06 hl);rw[e1] at e3;cases e3;refine⟨kV kv.1,?_,kvs[i],z06 hl,by rw[r1]⟩;rcases keyIs_shape (show keyIs kv.1 e.key=true from e2) with⟨j,t,h7,h8⟩|⟨x,t,h7,h8⟩
  ·rw[h7,h8];exact⟨t,rfl⟩
  ·rw[h7,h8];exact⟨t,rfl⟩
 rw[sz] at T;refine⟨s1.heap.objs.size,[s1.heap.objs.size],_,_,_,rfl,I2.kept (t':=s1.toks) fun b o e=>z14 _ e,T,⟨z58 _,?_⟩,fun b hb=>?_,q o⟩
 ·rw[← sz];exact z29 _ rfl
 ·have e:b=s1.heap.objs.size:=by simpa using hb
  subst e;exact I2.fpOk (z15 _) (I2.hok.fresh (z15 _))
end
end L2
namespace TL
open PySem PySem.Spec L2
section
variable {X:Cx}{C:Cn}{E:XE}
def QiO (i:Nat):MA:=fun ρ=>(Rs.of (Qhc ρ i)).bind fun q=>if q.1=false then .ok (q.2.1.map sKy,ρ.set i (some (.frz (.nd (.dK q.2.1) q.2.2)))) else .no
theorem QnZ {K:z02}{F:Hp}:∀(k:Key),R K F (kV k) (sKy k)
 |.inl _=>.sc rfl
 |.inr _=>.sc rfl
theorem QhU {i:Nat}{x:Str}{np:Pos}{tg:Expr}(hN:X.N[i]? = some x)(hv:Vis X.env.scope x)(hd:@10=false:=by decide)(hcd:@23=false:=by decide) :
  PI X tg @20 (tI C false E (QiO i)):=Y6 (Qj7 (pe_var hN hv hd hcd)) fun σ H RR ⟨F,ρ,τ,fp,I,h⟩=>by
 obtain⟨q,eq,h2⟩:=h.split.of
 by_cases c1:q.1=false
 ·rw[if_pos c1] at h2;have es:=Qay eq;rw[c1] at es;obtain⟨l,vs,rest,u,ex,mt,eu,hl,k⟩:=I.QiN es (fun _=>rfl);cases eu
  have ln:q.2.1.length=vs.length:=mt.1;refine⟨_,ex,l,_,rfl,hl,fun o=>?_⟩;obtain⟨F1,J,sf,fl⟩:=k o;have lz:(q.2.1.zip vs).length=q.2.1.length:=by rw[zi1,← ln,zm4]
  refine h2 _ _ rest _ J ⟨sf,fun z=>nomatch z⟩ ⟨fun{C' F' H' σ' ρ' τ' fp' j d} hk I' s e=>?_,fun{C' F' H' σ' ρ' τ' fp'} hk I' s=>?_⟩
  ·rw[z17] at e;obtain⟨ky,ek,rfl⟩:=z03.mp e;have hj:=(z11.mp ek).1;refine⟨⟨by rw[lz];exact hj,I'.fh _ _ (s _ _ fl)⟩,fun x H2 ⟨e2,p,ep,ex⟩=>?_⟩;subst e2 ex
   have e1:p.1=ky:=by
    have z:=congrArg (zs4 zg5) ep;rw[← z17,zv0 @0,ek] at z;exact(z26 z).symm
   rw[← e1];exact⟨F',I',.refl,QnZ _⟩
  ·exact⟨by rw[lz,z01];exact z15 _,I'.fh _ _ (s _ _ fl)⟩
 ·rw[if_neg c1] at h2;exact h2.elim
variable {pos:Pos}
def Qmp:ME:=fun ρ=>.ok (.nd (.dK []) [],ρ)
theorem QhV:PE X (.Dict [] [] pos) (tX .O C true E Qmp):=Qm pe_dnewK fun σ H Q ⟨F,ρ,τ,fp,I,h⟩=>fun q hq=>by
 have J:=I.lay0 (o:=.dK []) hq
 have nq:q∉fp:=fun z=>by
  obtain⟨o,e,_⟩:=I.mem q z;rw[hq] at e;cases e
 refine h F _ _ (.ref q) (J.push (f:=[q]) (.mt (t:=.dK []) (vs:=[]) ⟨rfl,upd_same⟩ .nil) (fun a ha=>?_) (fun a ha=>?_) (z12.mpr ⟨by simp,I.nd,fun x hx y hy z=>?_⟩)) ⟨Same.refl _,fun _=>V1 I hq⟩ z64
 ·rw[z16.mp ha];exact I.dm q hq
 ·rw[z16.mp ha];exact I.fh.free hq
 ·subst z;rw[z16.mp hx] at hy;exact nq hy
end
end TL
namespace L2.Srt
open PySem PySem.Spec PySem.W PySem.Calls PyProof.Rows L2
def ltZ (a b:Int):Bool:=decide (a<b)
theorem QhW:Lin ltZ:=⟨fun a=>decide_eq_false @0,fun a b c h h'=>decide_eq_true (by have:=of_decide_eq_true h;have:=of_decide_eq_true h';lia),fun a b n h=>decide_eq_true (by have:=of_decide_eq_false h;lia)⟩
theorem ints_of:∀{ns:List Int} {us:List Value},Vals (ns.map V.int) us->IntsAre us ns
 | [],_,r=>by rw[zp3] at r;cases r;exact .nil
 |n::ns,_,r=>by
  rw[z28] at r
  cases r with
  |cons h t=>obtain⟨tk,rfl⟩:=h;exact .cons _ _ (ints_of t)
theorem Qgc:∀{ns:List Int} {us:List Value},Vals (ns.map V.int) us->ns.Nodup->us.Nodup
 | [],_,r,_=>by rw[zp3] at r;cases r;exact .nil
 |n::ns,_,r,nd=>by
  rw[z28] at r;obtain⟨h1,h2⟩:=z39.mp nd
  cases r with
  |cons h t=>
   refine z39.mpr ⟨fun z=>?_,Qgc t h2⟩;obtain⟨tk,rfl⟩:=h;obtain⟨j,hj⟩:=z74 z;have lt:j<(ns.map V.int).length:=by rw[(show Vals (ns.map V.int) _ from t).length];exact(z11.mp hj).1
   obtain⟨u,e1,e2⟩:=(show Vals (ns.map V.int) _ from t).get (z06 lt);rw[hj] at e1;cases e1;rw[zo3] at e2;obtain⟨tk',e3⟩:=e2;injection e3 with e4 _;exact h1 (by rw[e4];exact List.getElem_mem _)
theorem Qj8 {l:List Value}{ns:List Int}(h2:2<=l.length)(ia:IntsAre l ns):keyKind' l.toArray=pure oneType':=by
 cases ia with
 |nil=>cases h2
 |cons n t ia=>
  cases ia with
  |nil=>exact absurd h2 @6
  |cons m u ia=>exact keyKind_ints (.cons n t (.cons m u ia))
section
variable {X:Cx}{pins:List @8}{σ:St}{H:Hp}{s:Shared}
def Qmq (K:z02):List V->Hp->VK->Prop:=fun xs H Q=>∃p ns,xs=[.ref p]/\SqL K H p (ns.map V.int)/\ns.Nodup/\ns.length<=4000/\
 ∀(l:Addr) (ns':List Int),H l=none->ns'.Perm ns->ns'.Pairwise (fun a b=>ltZ a b=true)->Q (.ref l) (upd H l (.lst (ns'.map V.int)))
theorem Qct:CallR X (.builtin "sorted") (Qmq X.K):=by
 intro pins s σ H xs us Q I r h;obtain⟨p,ns,rfl,hq,nd,l64,k⟩:=h;obtain⟨u,rfl,ru⟩:=vals1 r;cases ru
 obtain⟨its,rv,pl,hz⟩:=I.list hq;have len:its.length=ns.length:=by rw[← rv.length,z01]
 have at_:∀{i:Nat},i<its.length->∃t,its.getD i z40=z82 (ns.getD i 0) t:=fun{i} hi=>by
  have lt:i<(ns.map V.int).length:=by rw[rv.length];exact hi
  obtain⟨u,e1,e2⟩:=rv.get (z06 lt);rw[zo3] at e2;obtain⟨t,e3⟩:=e2;refine⟨t,?_⟩;rw[z25,e1,zc8,e3,z25,z06 (by rw[← len];exact hi),zc8]
 refine Qeu (κ:=oneType') (lt:=fun i j=>ltZ (ns.getD i 0) (ns.getD j 0)) pl.isList (by rw[len];exact l64) (Qgc rv nd) (by rw[len];exact QhW.ord 0 nd) (fun h2 h' tk Q' kp q=>?_) (fun h' tk i j Q' kp hi hj q=>?_) fun h' tk is c pm pw kp hD=>?_
 ·rw[Qj8 h2 (ints_of rv)];exact z04 q
 ·obtain⟨t1,e1⟩:=at_ hi;obtain⟨t2,e2⟩:=at_ hj;rw[e1,e2,keyLt'_oneType];exact oneLt_int (q tk)
 ·rw[len] at pm;have hb:∀i∈is,i<ns.length:=fun i hi=>z70.mp (pm.mem_iff.mp hi);have z:=pm.map fun i=>ns.getD i 0;rw[range_getD] at z;refine⟨.ref _,_,I.laid (t':=tk) (o:=.lst ((is.map fun i=>ns.getD i 0).map V.int)) kp (zm0 _) ⟨?_,_,c,?_,hD⟩,rfl,k _ _ (I.hok.fresh (zm0 _)) z (zd9.mpr pw)⟩
  ·rw[z01,z.length_eq,z67];lia
  ·clear hD pw z pm
   induction is with
   |nil=>exact .nil
   |cons i is ih=>
    obtain⟨t,e⟩:=at_ (i:=i) (by rw[len];exact hb i z09);rw[z28,z28,z28];exact .cons ⟨t,e⟩ (ih fun j hj=>hb j (z07 _ hj))
end
end L2.Srt
namespace TL
open PySem PySem.Spec L2 L2.Srt
section
variable {X:Cx}{C:Cn}{E:XE}
def Qmr:List D->Option (List Int)
 | []=>some []
 |d::ds=>(asI d).bind fun n=>(Qmr ds).map (n::·)
theorem Qgd:∀{ds:List D} {ns:List Int},Qmr ds=some ns->ds=ns.map D.int
 | [],_,h=>by cases h;rfl
 |d::ds,ns,h=>by
  obtain⟨n,e1,e2⟩:=z27.mp (show(asI d).bind _=some ns from h);obtain⟨ms,e3,rfl⟩:=z03.mp e2;rw[QfO e1,Qgd e3];rfl
theorem QdV:∀{ns:List Int},Qmr (ns.map D.int)=some ns
 | []=>rfl
 |n::ns=>by
  show(some n).bind _=_;rw[z72,QdV];rfl
theorem Qms {K:z02}{F:Hp}:∀(ns:List Int),RL K F (ns.map L2.V.int) (ns.map D.int)
 | []=>.nil
 |_::ns=>.cons (.sc rfl) (Qms ns)
theorem Qmt {K:z02}{F:Hp}:∀{ns:List Int} {vs:List L2.V},RL K F vs (ns.map D.int)->vs=ns.map L2.V.int
 | [],_,h=>by cases h;rfl
 |n::ns,_,h=>by
  cases h with
  |cons r h=>rw[r.Qu (w:=.int n) rfl,Qmt h];rfl
theorem Qj9 (ns:List Int):D.Jb (ns.map D.int)=true:=J7 fun d hd=>by
 obtain⟨n,_,rfl⟩:=z37.mp hd;rfl
def Qge:List D->Option (List Int)
 | [.nd .lst ds]=>(Qmr ds).bind fun ns=>if ns.Nodup/\ns.length<=4000 then some (Jh ltZ ns) else none
 |_=>none
def Qgf (mr:MA):ME:=fun ρ=>(mr ρ).bind fun r=>(Rs.of (Qge r.1)).bind fun ns=>.ok (.lst (ns.map D.int),r.2)
variable {x:Str}{e:Expr}{px pos:Pos}{ks:List Kd}{p:Bool}{mr:MA}
theorem QhX (hK:C.K=X.K)(hm:X.mg x=none)(hv:z90 x=some (.builtin "sorted"))(ha:PA X [e] (tA ks C p E mr))(ok:rdL ks=true:=by rfl)(hgl:Gl X x:=by rfl)(hn:x ≠ "__name__" := by decide)(hdb:@10=false:=by decide)
  (he:starEach [e] X.env=@16::starEach [] X.env:=by rfl) (hpl:(backTo pos (starEach [] X.env)).any (·.1)=false:=by rfl):PE X (.Call (.Name x px) [e] [] pos) (tX .O C p E (Qgf mr)):=
 Qm (pe_callB Qct hgl hm hv ha hn hdb he hpl) fun σ H Q ⟨F,ρ,τ,fp,I,h⟩=>by
  refine⟨F,ρ,τ,fp,I,h.split.mono fun r1 h1 F1 H1 fp1 vs I1 n1 f1=>?_⟩;rw[Je ok] at I1;have rl:=f1.rd I1 ok;obtain⟨ns',e1,h2⟩:=h1.split.of;obtain⟨dr,ρ1⟩:=r1;dsimp only at e1 rl h2;unfold Qge at e1
  split at e1
  ·rename_i ds
   obtain⟨ns,e2,e3⟩:=z27.mp e1
   split at e3
   ·rename_i cnd
    cases e3
    obtain⟨v,rfl,r1⟩:=rl.one;obtain⟨a,us,rfl,h3,h4⟩:=r1.inv;rw[Qgd e2] at h4;cases Qmt h4
    refine⟨a,ns,rfl,by rw[← hK];exact(At.same h3 (JD I1.fh)).sql,cnd.1,cnd.2,fun L ns' hL pm pw=>?_⟩;have eq:ns'=Jh ltZ ns:=JR QhW pw (Q9 QhW cnd.1) (pm.trans (Ql ns).symm);subst eq;exact h2 _ _ _ _ (I1.newList hL (Qms _) (Qj9 _)) ((n1.trans (q:=true) ⟨Same.refl _,fun _=>V1 I1 hL⟩).weak fun z=>by simp[z]) z64
   ·cases e3
  ·cases e1
end
end TL
namespace L2
open PySem PySem.Spec PyProof.Rows
variable {b bb:Bool}{h:Heap}{l:Addr}{k:Nat}{prog:Program}{w:World}{A:Around}{E Q:Value->Shared->Prop}{s:Shared}{ys:Array Value}{es:List Expr}
def Qit (b:Bool)(h:Heap)(i l:Addr)(k:Nat):Prop:=match b with
 |true=>h.IsTupleIter i l k
 |false=>h.IsListIter i l k
def Qis (b:Bool)(h:Heap)(l:Addr)(xs:Array Value):Prop:=match b with
 |true=>h.IsTuple l xs
 |false=>h.IsList l xs
theorem Qit.kp{h':Heap}{i:Addr}(x:Qit b h i l k)(e:∀o,h.get? i=some o->h'.get? i=some o):Qit b h' i l k:=by
 cases b
 ·exact Heap.IsListIter.at x e
 ·exact Heap.IsTupleIter.at x e
theorem Qit.ob{i:Addr}(x:Qit b h i l k):∃o,h.get? i=some o/\∀v,o.data≠.cell v:=by
 cases b
 ·obtain⟨o,e,_,d⟩:=x;exact⟨o,e,fun v z=>by rw[d] at z;cases z⟩
 ·obtain⟨o,e,_,d⟩:=x;exact⟨o,e,fun v z=>by rw[d] at z;cases z⟩
theorem Qis.kp{h':Heap}{xs:Array Value}(x:Qis b h l xs)(e:∀o,h.get? l=some o->h'.get? l=some o):Qis b h' l xs:=by
 cases b
 ·obtain⟨o,ho,r⟩:=x;exact⟨o,e o ho,r⟩
 ·obtain⟨o,ho,r⟩:=x;exact⟨o,e o ho,r⟩
section
variable {it:Addr}{xs:Array Value}
theorem Qka {x:Value}(h:Qit b s.heap it l k)(hl:Qis b s.heap l xs)(hx:xs[k]? = some x)(K:∀h2,Qit b h2 it l (k+1)->zd3 it s.heap h2->Q x { s with heap:=h2 }):wpAny @1 A (za4 (.ref it)) Q E s:=by
 cases b
 ·exact wpAny_nextOf_list_item h hl hx K
 ·exact Qep h hl hx K
theorem QoC (hh:A.handled=none)(h:Qit b s.heap it l k)(hl:Qis b s.heap l xs)(hx:xs[k]? = none)(K:∀h2 x,Heap.ExtBut it s.heap h2->(∃o,h2.get? x=some o/\o.cls=.type "StopIteration")->E (.ref x) { s with heap:=h2 }):wpAny @1 A (za4 (.ref it)) Q E s:=by
 cases b
 ·exact wpAny_nextOf_list_end hh h hl hx K
 ·exact QeU hh h hl hx K
end
section
variable {z TI TO i1 i2 l1 l2:Addr}{k1 k2:Nat}{xs:Array Value}{a b:Value}
open Builtin.SmallTypes in
theorem Qn0 {x y:Value}(D:ZipApart z TI TO i1 i2 l1 l2)(gz:IsZip s.heap z TI TO .none)(gi:IsPair s.heap TI (.ref i1) (.ref i2))(go:IsPair s.heap TO a b)
  (q1:Qit bb s.heap i1 l1 k1) (q2:Qit bb s.heap i2 l2 k2) (m1:Qis bb s.heap l1 xs) (m2:Qis bb s.heap l2 ys) (ex:xs[k1]? = some x) (ey:ys[k2]? = some y)
  (K:∀g,IsZip g z TI TO (rawInt s.heap.objs.size)->IsPair g TO x y->Qit bb g i1 l1 (k1+1)->Qit bb g i2 l2 (k2+1)->IsPair g s.heap.objs.size x y->
   (∀c o,c≠z->c≠TO->c≠i1->c≠i2->s.heap.get? c=some o->g.get? c=some o)->Q (.ref s.heap.objs.size) { s with heap:=g }) :
  wpAny @1 A (Builtin.«zip.__next__» ⟨[.ref z],[]⟩) (fun f t=>∃v,f=.done (.ret v)/\Q v t) E s:=by
 show wpAny _ _ (field (.ref z) 2 >>= _) _ _ _;refine z00 (zb5 gz rfl (x:=.bool false) rfl ?_);show wpAny _ _ (field (.ref z) 3 >>= _) _ _ _;refine z00 (zb5 gz rfl (x:=.ref TI) rfl (z00 (za8 gi rfl ?_)));show wpAny _ _ (ownedTupleIsFree (.ref z) >>= _) _ _ _;refine z00 ?_;unfold ownedTupleIsFree;refine z00 (zb5 gz rfl (x:=.none) rfl (z04 ?_));simp only[if_true];refine z00 (zk7 (z00 (zb5 gz rfl (x:=.ref TO) rfl (z00 (za9 gz @6 fun g1 y1 e1=>?_)))))
 replace y1:IsZip g1 z TI TO .ellipsis:=y1
 refine z00 ?_;simp only[zu5,List.zipIdx_nil,zp6,zy7];refine z00 (z00 (zv7 ?_));show wpAny _ _ (nextOf (.ref i1) >>= _) _ _ _;refine z00 (Qka (q1.kp fun o=>e1.extBut i1 o D.i1z) (m1.kp fun o=>e1.extBut l1 o D.l1z) ex fun g2 y2 e2=>z04 ?_);have o2:IsPair g2 TO a b:=e2.extBut _ _ D.TOi1 (e1.extBut _ _ D.TOz go);refine z00 (za8 o2 rfl (z00 (zt0 o2 fun g3 o3 e3=>?_)))
 replace o3:IsPair g3 TO x b:=o3
 refine z00 (wpAny_letGo (z04 (z00 (z00 (zv7 ?_)))));show wpAny _ _ (nextOf (.ref i2) >>= _) _ _ _;have up3:∀c,c≠z->c≠i1->c≠TO->∀o,s.heap.get? c=some o->g3.get? c=some o:=fun c n1 n2 n3 o e=>e3.extBut c o n3 (e2.extBut c o n2 (e1.extBut c o n1 e));refine z00 (Qka (q2.kp (up3 i2 D.i2z D.i12.symm D.TOi2.symm)) (m2.kp (up3 l2 D.l2z D.l2i1 D.l2TO)) ey fun g4 y4 e4=>z04 ?_);have o4:IsPair g4 TO x b:=e4.extBut _ _ D.TOi2 o3;refine z00 (za8 o4 rfl (z00 (zt0 o4 fun g5 o5 e5=>?_)))
 replace o5:IsPair g5 TO x y:=o5
 refine z00 (wpAny_letGo (z04 (z04 (z00 (za8 o5 rfl (z00 (y21 ?_)))))));have sz:g5.objs.size=s.heap.objs.size:=by rw[e5.1,e4.1,e3.1,e2.1,e1.1]
 have y5:IsZip g5 z TI TO .ellipsis:=e5.extBut _ _ D.TOz.symm (e4.extBut _ _ D.i2z.symm (e3.extBut _ _ D.TOz.symm (e2.extBut _ _ D.i1z.symm y1)));have zl:z<g5.objs.size:=z34 y5;show wpAny _ _ (ownedTupleHandOut (.ref z) (.ref g5.objs.size) >>= _) _ _ _;refine z00 ?_;unfold ownedTupleHandOut;have y6:IsZip (g5.push { cls:=.type "tuple",data:=.seq #[x,y]}) z TI TO .ellipsis:=z14 _ y5
 refine z00 (za9 y6 @6 fun g7 y7 e7=>?_)
 replace y7:IsZip g7 z TI TO (rawInt g5.objs.size):=y7
 refine za9 y7 @6 fun g8 y8 e8=>?_
 replace y8:IsZip g8 z TI TO (rawInt g5.objs.size):=y8
 have up8:∀c o,c≠z->g5.get? c=some o->g8.get? c=some o:=fun c o n e=>e8.extBut _ _ n (e7.extBut _ _ n (z14 _ e));have t8:IsPair g8 g5.objs.size x y:=e8.extBut _ _ (zg4 zl) (e7.extBut _ _ (zg4 zl) (z29 _ rfl));rw[sz] at y8 t8;refine z04 ⟨_,rfl,?_⟩;show Q (.ref g5.objs.size) _;rw[sz]
 exact K g8 y8 (up8 _ _ D.TOz o5) (y2.kp fun o e=>up8 i1 o D.i1z (e5.extBut _ _ D.TOi1.symm (e4.extBut _ _ D.i12 (e3.extBut _ _ D.TOi1.symm e)))) (y4.kp fun o e=>up8 i2 o D.i2z (e5.extBut _ _ D.TOi2.symm e)) t8
  fun c o n1 n2 n3 n4 e=>up8 c o n1 (e5.extBut _ _ n2 (e4.extBut _ _ n4 (up3 c n1 n3 n2 o e)))
open Builtin.SmallTypes in
theorem Qpb {Q:Fin->Shared->Prop}(hh:A.handled=none)(D:ZipApart z TI TO i1 i2 l1 l2)(gz:IsZip s.heap z TI TO .none)(gi:IsPair s.heap TI (.ref i1) (.ref i2))(go:IsPair s.heap TO a b)
  (q1:Qit bb s.heap i1 l1 k1) (q2:Qit bb s.heap i2 l2 k2) (m1:Qis bb s.heap l1 xs) (m2:Qis bb s.heap l2 ys) (ex:xs[k1]? = none\/ys[k2]? = none)
  (K:∀g e,(∀c o,c≠z->c≠TO->c≠i1->c≠i2->s.heap.get? c=some o->g.get? c=some o)->(∃o,g.get? e=some o/\o.cls=.type "StopIteration")->E (.ref e) { s with heap:=g }) :
  wpAny @1 A (Builtin.«zip.__next__» ⟨[.ref z],[]⟩) Q E s:=by
 show wpAny _ _ (field (.ref z) 2 >>= _) _ _ _;refine z00 (zb5 gz rfl (x:=.bool false) rfl ?_);show wpAny _ _ (field (.ref z) 3 >>= _) _ _ _;refine z00 (zb5 gz rfl (x:=.ref TI) rfl (z00 (za8 gi rfl ?_)));show wpAny _ _ (ownedTupleIsFree (.ref z) >>= _) _ _ _;refine z00 ?_;unfold ownedTupleIsFree;refine z00 (zb5 gz rfl (x:=.none) rfl (z04 ?_));simp only[if_true];refine z00 (zk7 (z00 (zb5 gz rfl (x:=.ref TO) rfl (z00 (za9 gz @6 fun g1 y1 e1=>?_)))))
 replace y1:IsZip g1 z TI TO .ellipsis:=y1
 refine z00 ?_;simp only[zu5,List.zipIdx_nil,zp6,zy7];refine z00 (z00 (zv7 ?_));show wpAny _ _ (nextOf (.ref i1) >>= _) _ _ _
 have ne:∀{g:Heap} {e:Addr} {o:Obj},IsZip g z TI TO .ellipsis->g.get? e=some o->o.cls=.type "StopIteration" -> e≠z:=fun{g e o} h1 h2 h3 h=>by
  subst h;rw[h1] at h2;cases h2;simp at h3
 cases hx:xs[k1]? with
 |none=>
  refine z00 (QoC hh (q1.kp fun o=>e1.extBut i1 o D.i1z) (m1.kp fun o=>e1.extBut l1 o D.l1z) hx fun g2 e e2 he=>?_);obtain⟨oe,h1,h2⟩:=he;have y2:IsZip g2 z TI TO .ellipsis:=e2 _ _ D.i1z.symm y1;exact za9 y2 @6 fun g3 _ e3=>K g3 e (fun c o n1 _ n3 _ x=>e3.extBut _ _ n1 (e2 _ _ n3 (e1.extBut _ _ n1 x))) ⟨oe,e3.extBut _ _ (ne y2 h1 h2) h1,h2⟩
 |some x=>
  have hy:ys[k2]? = none:=ex.resolve_left fun h=>by rw[hx] at h;cases h
  refine z00 (Qka (q1.kp fun o=>e1.extBut i1 o D.i1z) (m1.kp fun o=>e1.extBut l1 o D.l1z) hx fun g2 y2 e2=>z04 ?_);have o2:IsPair g2 TO a b:=e2.extBut _ _ D.TOi1 (e1.extBut _ _ D.TOz go);refine z00 (za8 o2 rfl (z00 (zt0 o2 fun g3 o3 e3=>?_)));refine z00 (wpAny_letGo (z04 (z00 (z00 (zv7 ?_)))));show wpAny _ _ (nextOf (.ref i2) >>= _) _ _ _;have up3:∀c,c≠z->c≠i1->c≠TO->∀o,s.heap.get? c=some o->g3.get? c=some o:=fun c n1 n2 n3 o e=>e3.extBut c o n3 (e2.extBut c o n2 (e1.extBut c o n1 e));refine z00 (QoC hh (q2.kp (up3 i2 D.i2z D.i12.symm D.TOi2.symm)) (m2.kp (up3 l2 D.l2z D.l2i1 D.l2TO)) hy fun g4 e e4 he=>?_);obtain⟨oe,h1,h2⟩:=he;have y4:IsZip g4 z TI TO .ellipsis:=e4 _ _ D.i2z.symm (e3.extBut _ _ D.TOz.symm (e2.extBut _ _ D.i1z.symm y1));exact za9 y4 @6 fun g5 _ e5=>K g5 e (fun c o n1 n2 n3 n4 x=>e5.extBut _ _ n1 (e4 _ _ n4 (up3 c n1 n3 n2 o x))) ⟨oe,e5.extBut _ _ (ne y4 h1 h2) h1,h2⟩
end
abbrev zA (h:Heap)(l:Addr):Heap:=h.push { cls:=.type "tuple_iterator",data:=.fields #[.ref l,.int 0 0]}
abbrev zB (h:Heap)(l m:Addr):Heap:=zA (zA h l) m
abbrev zC (h:Heap)(l m:Addr):Heap:=(zB h l m).push { cls:=.type "tuple",data:=.seq #[.ref h.objs.size,.ref (zA h l).objs.size]}
abbrev zD (h:Heap)(l m:Addr):Heap:=(zC h l m).push { cls:=.type "tuple",data:=.seq #[.none,.none]}
abbrev zE (h:Heap)(l m:Addr):Heap:=(zD h l m).push { cls:=.type "zip",data:=.fields #[.none,.bool false,.bool false,.ref (zB h l m).objs.size,.ref (zC h l m).objs.size]}
theorem Qpc (l m:Addr)(xs ys:Array Value):Meets (Builtin.«zip.__new__» ⟨[.type "zip",.ref l,.ref m],[]⟩) (fun _ R s=>s.heap.IsTuple l xs/\s.heap.IsTuple m ys/\R (.ok (.ret (.ref (zD s.heap l m).objs.size))) { s with heap:=zE s.heap l m }):=
 .of_wp fun prog w A R s h=>by
  obtain⟨hp,g,d,tk,os⟩:=s;obtain⟨m1,m2,h⟩:=h;have hs:=sub_zip;have M1:Heap.IsTuple (Shared.heap ⟨hp,g,d,tk,os⟩) l xs:=m1;have M2:Heap.IsTuple (Shared.heap ⟨hp.push { cls:=.type "tuple_iterator",data:=.fields #[.ref l,.int 0 0]},g,d,tk,os⟩) m ys:=Heap.IsTuple.push m2 _
  wp_walk using zv6 M1,zv6 M2
  exact⟨_,rfl,h⟩
section
variable {m:Addr}{xs:Array Value}
theorem Qn1(m1:Qis bb s.heap l xs)(m2:Qis bb s.heap m ys)
  (K:∀g,IsZip g (s.heap.objs.size+4) (s.heap.objs.size+2) (s.heap.objs.size+3) .none->IsPair g (s.heap.objs.size+2) (.ref s.heap.objs.size) (.ref (s.heap.objs.size+1))->IsPair g (s.heap.objs.size+3) .none .none->
   Qit bb g s.heap.objs.size l 0->Qit bb g (s.heap.objs.size+1) m 0->(∀c o,s.heap.get? c=some o->g.get? c=some o)->Q (.ref (s.heap.objs.size+4)) { s with heap:=g }):wpAny @1 A (call (.type "zip") [.ref l,.ref m]) Q E s:=by
 cases bb with
 |false=>exact call_zip_2 m1 m2 fun g g1 g2 g3 g4 g5 _ kp=>K g g1 g2 g3 g4 g5 kp
 |true=>
  refine callType_new F.called_zip @2 (F.typeCall_zip_2 _ _) (F.newCall_zip_2 _ _) (fun ob=>F.args_object_init_3 ob _ _) F.entry_zip_new (Qpc l m xs ys) ⟨m1,m2,?_⟩;have z1:(zA s.heap l).objs.size=s.heap.objs.size+1:=zh2 ..;have z2:(zB s.heap l m).objs.size=s.heap.objs.size+2:=by rw[zh2,z1]
  have z3:(zC s.heap l m).objs.size=s.heap.objs.size+3:=by rw[zh2,z2]
  have z4:(zD s.heap l m).objs.size=s.heap.objs.size+4:=by rw[zh2,z3]
  have p:∀{h:Heap} {c:Addr} {o:Obj} (n:Obj),h.get? c=some o->(h.push n).get? c=some o:=fun n e=>z14 _ e;have a5:(zE s.heap l m).get? (zD s.heap l m).objs.size=some _:=z29 _ rfl;have a4:(zE s.heap l m).get? (zC s.heap l m).objs.size=some _:=p _ (z29 _ rfl);have a3:(zE s.heap l m).get? (zB s.heap l m).objs.size=some _:=p _ (p _ (z29 _ rfl));have a2:(zE s.heap l m).get? (zA s.heap l).objs.size=some _:=p _ (p _ (p _ (z29 _ rfl)));have a1:(zE s.heap l m).get? s.heap.objs.size=some _:=p _ (p _ (p _ (p _ (z29 _ rfl))));show _/\_;rw[z2,z3,z4] at a5;rw[z1,z2] at a3;rw[z3] at a4;rw[z1] at a2;rw[z4];exact⟨⟨_,a5,rfl⟩,K _ a5 a3 a4 ⟨_,a1,rfl,rfl⟩ ⟨_,a2,rfl,rfl⟩ fun c o e=>p _ (p _ (p _ (p _ (p _ e))))⟩
end
def SqQ (b:Bool)(K:z02)(H:Hp)(a:Addr)(xs:List V):Prop:=match b with
 |true=>SqT K H a xs
 |false=>SqL K H a xs
section
variable {X:Cx}{pins:List @8}{σ:St}{H:Hp}{s:Shared}{b:Bool}{a:Addr}{xs ys:List V}
theorem Inv.sqQ (I:Inv X pins σ H s)(h:SqQ b X.K H a xs):∃its:List Value,Vals xs its/\Qis b s.heap a its.toArray/\xs.length<=z24:=by
 cases b
 ·obtain⟨its,r,p,z⟩:=I.list h;exact⟨its,r,p.isList,z⟩
 ·obtain⟨its,r,p,z⟩:=I.tuple h;exact⟨its,r,p,z⟩
theorem Inv.Qgg (I:Inv X pins σ H s)(h:SqQ b X.K H a xs)(h':SqQ b X.K H a ys):xs=ys:=by
 cases b
 ·exact I.list_inj h h'
 ·exact I.tuple_inj h h'
theorem Qis.lt {h:Heap}{l:Addr}{vs:Array Value}(x:Qis b h l vs) : @LT.lt Nat _ l h.objs.size:=by
 cases b
 ·obtain⟨o,e,_⟩:=x;exact z34 e
 ·obtain⟨o,e,_⟩:=x;exact z34 e
end
def Qm7 (b:Bool)(K:z02)(l m:Addr):It:=⟨fun i H=>∃xs ys x y,SqQ b K H l xs/\SqQ b K H m ys/\xs[i]? = some x/\ys[i]? = some y,fun i H v H'=>∃T x y,H T=none/\v=.ref T/\H'=upd H T (.tup [x,y])/\∀xs ys,SqQ b K H l xs->SqQ b K H m ys->xs[i]? = some x/\ys[i]? = some y,fun i H=>∃xs ys,SqQ b K H l xs/\SqQ b K H m ys/\(xs.length<=i\/ys.length<=i)⟩
theorem Qn2 {P:Program}{K:z02}{tp:Pos}{m z TI TO i1 i2:Addr}(D:ZipApart z TI TO i1 i2 l m):Turn P w K (.Tuple es k tp) (Qm7 bb K l m) [z,TI,TO,i1,i2] z (fun i h=>IsZip h z TI TO .none/\IsPair h TI (.ref i1) (.ref i2)/\(∃u v,IsPair h TO u v)/\Qit bb h i1 l i/\Qit bb h i2 m i) where
 mem:=by simp
 obj:=fun i h st c hc=>by
  obtain⟨s1,s2,⟨u,v,s3⟩,s4,s5⟩:=st;simp only[z21,zh5,or_false] at hc;rcases hc with rfl|rfl|rfl|rfl|rfl
  ·exact⟨_,s1,fun v z=>by cases z⟩
  ·exact⟨_,s2,fun v z=>by cases z⟩
  ·exact⟨_,s3,fun v z=>by cases z⟩
  ·exact s4.ob
  ·exact s5.ob
 keep:=fun i h h' st k=>by
  obtain⟨s1,s2,⟨u,v,s3⟩,s4,s5⟩:=st;exact⟨k z @6 _ s1,k TI @6 _ s2,⟨u,v,k TO @6 _ s3⟩,s4.kp fun o q=>k i1 @6 o q,s5.kp fun o q=>k i2 @6 o q⟩
 item:=by
  intro X hP hw hK hc i pins s σ H E I hf st hg;subst hP hw hK;obtain⟨s1,s2,⟨u,v,s3⟩,s4,s5⟩:=st;obtain⟨xs,ys,x,y,hq,hr,hx,hy⟩:=hg;obtain⟨its,rv,p,hz⟩:=I.sqQ hq;obtain⟨jts,rw',p',hz'⟩:=I.sqQ hr;obtain⟨ux,hu,ru⟩:=rv.get hx;obtain⟨uy,hv,rv'⟩:=rw'.get hy;have hT:s.TypeIs (.ref z) "zip" := ⟨_,s1,rfl⟩
  unfold pyNext;refine z00 (zj9 (z83 (name:=zg2 "__next__") hT zq6 (z61 zq6 hT F.entry_zip_next (Qn0 D s1 s2 s3 s4 s5 p p' (x:=ux) (y:=uy) (by simpa using hu) (by simpa using hv) fun h1 a1 a2 a3 a4 a5 a7=>z04 ?_) (F.args_zip_next_1 _))))
  refine⟨_,rfl,wpAny_letOwnedTupleGo_zip a1 fun h2 b1 b2=>?_⟩;have zl:z<s.heap.objs.size:=z34 s1;have hT:H s.heap.objs.size=none:=I.hok.fresh (z15 _)
  have kk:∀c o,c∉[z,TI,TO,i1,i2]->s.heap.get? c=some o->h2.get? c=some o:=fun c o hc q=>by
   simp only[z21,zh5,or_false,not_or] at hc;exact(b2.2 c hc.1).trans (a7 c o hc.1 hc.2.2.1 hc.2.2.2.1 hc.2.2.2.2 q)
  have gT:h2.get? s.heap.objs.size=some { cls:=.type "tuple",data:=.seq #[ux,uy]}:=(b2.2 _ (zg4 zl)).trans a5
  have I1:Inv X pins σ (upd H s.heap.objs.size (.tup [x,y])) { s with heap:=h2 }:=I.QkZ (t':=s.toks) kk hf (z15 _) ⟨by show 2<=z24;decide,[ux,uy],.cons ru (.cons rv' .nil),⟨_,gT,rfl,_,rfl⟩⟩;refine⟨.ref s.heap.objs.size,_,I1,rfl,⟨s.heap.objs.size,x,y,hT,rfl,rfl,fun xs' ys' hy1 hy2=>?_⟩,⟨b1,?_,⟨ux,uy,?_⟩,?_,?_⟩,fun c hc=>?_⟩
  ·rw[I.Qgg hy1 hq,I.Qgg hy2 hr];exact⟨hx,hy⟩
  ·exact(b2.2 _ D.TIz).trans (a7 TI _ D.TIz D.TITO D.TIi1 D.TIi2 s2)
  ·exact(b2.2 _ D.TOz).trans a2
  ·exact a3.kp fun o=>b2.extBut i1 o D.i1z
  ·exact a4.kp fun o=>b2.extBut i2 o D.i2z
  ·have nb:c≠s.heap.objs.size:=by
    have ll:∃o,s.heap.get? c=some o:=by
     simp only[z21,zh5,or_false] at hc;rcases hc with e|e|e|e|e<;>rw[e]
     ·exact⟨_,s1⟩
     ·exact⟨_,s2⟩
     ·exact⟨_,s3⟩
     ·obtain⟨o,ho,_⟩:=s4.ob;exact⟨o,ho⟩
     ·obtain⟨o,ho,_⟩:=s5.ob;exact⟨o,ho⟩
    obtain⟨o,ho⟩:=ll;exact z45 (z34 ho)
   rw[upd_ne nb];exact(hf c hc).1
 done:=by
  intro X hP hw hK hc i pins s σ H E I hf st hg;subst hP hw hK;obtain⟨s1,s2,⟨u,v,s3⟩,s4,s5⟩:=st;obtain⟨xs,ys,hq,hr,hx⟩:=hg;obtain⟨its,rv,p,hz⟩:=I.sqQ hq;obtain⟨jts,rw',p',hz'⟩:=I.sqQ hr;have hl:=rv.length;have hl':=rw'.length;have hT:s.TypeIs (.ref z) "zip" := ⟨_,s1,rfl⟩
  unfold pyNext;refine z00 (zj9 (z83 (name:=zg2 "__next__") hT zq6 (z61 zq6 hT F.entry_zip_next (Qpb (I.ok.hd hc) D s1 s2 s3 s4 s5 p p' ?_ fun h' e hk he=>?_) (F.args_zip_next_1 _))))
  ·rcases hx with h|h
   ·left;simp;lia
   ·right;simp;lia
  ·obtain⟨o,ho,hc'⟩:=he;refine z00 (zc1 (T := "StopIteration") (b:=true) ⟨o,ho,hc'⟩ y23 (z04 ⟨rfl,I.QeR (ch:=[z,TI,TO,i1,i2]) (t':=s.toks) (fun c o hc q=>?_) hf⟩))
   simp only[z21,zh5,or_false,not_or] at hc;exact hk c o hc.1 hc.2.2.1 hc.2.2.2.1 hc.2.2.2.2 q
 self:=fun _ _ _ _ _ st h=>wpAny_pyIter_zip st.1 h
section
variable {X:Cx}
def Qn3 (K:z02)(ta:TA):TI:=fun σ H R=>ta σ H fun vs H1=>∃bb a b,vs=[.ref a,.ref b]/\(∃xs,SqQ bb K H1 a xs)/\(∃ys,SqQ bb K H1 b ys)/\R (Qm7 bb K a b) H1
theorem Qkb{tp:Pos}{e f:Expr}{ta:TA}{p pos:Pos}(hg:Gl X "zip")(hm:X.mg "zip" = none)(ha:PA X [e,f] ta)(hs:starEach [e,f] X.env=[@16,(false,eval f X.env)]:=by rfl)(hs2:starEach [f] X.env=[(false,eval f X.env)]:=by rfl) :
  PI X (.Tuple es k tp) (.Call (.Name "zip" p) [e,f] [] pos) (Qn3 X.K ta):=by
 intro pins s σ H R I h;refine Call_ (ld_blt I hg hm boot_zip (zb7 (thn (ha pos pins s σ H _ I h) fun us s1 hz=>?_) (by rw[hs,hs2]) (by rw[hs2];rfl)));obtain⟨vs,H1,I1,r1,bb,a,b,e1,⟨xs,hq⟩,⟨ys,hr⟩,q⟩:=hz;subst e1;obtain⟨u,v,rfl,ru,rv⟩:=vals2 r1;cases ru
 cases rv
 obtain⟨its,rv,pl,hz⟩:=I1.sqQ hq;obtain⟨jts,rw',pl',hz'⟩:=I1.sqQ hr;have al:=pl.lt;have bl:=pl'.lt;refine Qn1 pl pl' fun h' g1 g2 g3 g4 g5 kp=>wpAny_pyIter_zip g1 ?_;have I2:Inv X pins σ H1 { s1 with heap:=h' }:=I1.kept (t':=s1.toks) kp;refine⟨s1.heap.objs.size+4,[s1.heap.objs.size+4,s1.heap.objs.size+2,s1.heap.objs.size+3,s1.heap.objs.size,s1.heap.objs.size+1],_,Qm7 bb X.K a b,H1,rfl,I2,Qn2 (l:=a) (m:=b) (z:=s1.heap.objs.size+4) (TI:=s1.heap.objs.size+2) (TO:=s1.heap.objs.size+3) (i1:=s1.heap.objs.size) (i2:=s1.heap.objs.size+1) ?_,⟨g1,g2,⟨_,_,g3⟩,g4,g5⟩,fun c hc=>?_,q⟩
 ·constructor<;>(change @Ne Nat _ _;lia)
 ·have hb':s1.heap.objs.size<=c:=by
   simp only[z21,zh5,or_false] at hc;rcases hc with e|e|e|e|e<;>rw[e]
   ·exact zf0 _ _
   ·exact zf0 _ _
   ·exact zf0 _ _
   ·exact z15 _
   ·exact zf0 _ _
  exact I1.fpOk (H':=H1) hb' (I1.hok.fresh hb')
end
end L2
namespace TL
open PySem PySem.Spec L2
variable {q:Bool×List D×List D}{vs:List L2.V}{ds:List D}
section
variable {X:Cx}{C:Cn}{E:XE}{p pa pb:Bool}{a b e f:Expr}{ks:List Kd}{m ma mb:ME}{mr:MA}{pos p2:Pos}
def tgQ (b:Bool):Tag:=if b then .tup else .lst
def gQ:D->Option (Bool×List D)
 |.nd .lst ds=>some (false,ds)
 |.nd .tup ds=>some (true,ds)
 |_=>none
theorem Qkc {d:D}{q:Bool×List D}(h:gQ d=some q):d=.nd (tgQ q.1) q.2:=by
 unfold gQ at h
 split at h
 ·cases h;rfl
 ·cases h;rfl
 ·cases h
theorem At.sqQ {K:z02}{H:Hp}{q:Addr}{bb:Bool}(h:At K H q @31 vs):SqQ bb K H q vs:=by
 cases bb
 ·exact At.sql h
 ·exact At.sqt h
def gQ2:List D->Option (Bool×List D×List D)
 | [x,y]=>(gQ x).bind fun q=>(gQ y).bind fun r=>if q.1=r.1 then some (q.1,q.2,r.2) else none
 |_=>none
theorem QiP(h:gQ2 ds=some q):ds=[.nd (tgQ q.1) q.2.1,.nd (tgQ q.1) q.2.2]:=by
 unfold gQ2 at h
 split at h
 ·obtain⟨q1,e1,h⟩:=z27.mp h;obtain⟨q2,e2,h⟩:=z27.mp h
  by_cases c:q1.1=q2.1
  ·rw[if_pos c] at h;cases h
   rw[Qkc e1,Qkc e2,← c]
  ·rw[if_neg c] at h;cases h
 ·cases h
def Qgh (mr:MA):MA:=fun ρ=>(mr ρ).bind fun r=>(Rs.of (gQ2 r.1)).bind fun q=>.ok (Qhd q.2.1 q.2.2,r.2)
theorem QhY {K:z02}{F:Hp}{a b:Addr}{bb:Bool}{us:List L2.V}{es:List D}(h:At K F a @31 vs)(r:RL K F vs ds)(h':At K F b @31 us)(r':RL K F us es):ItD K F (Qhd ds es) (Qm7 bb K a b):=by
 have get:∀{i:Nat} {d:D},(Qhd ds es)[i]? = some d->∃x y,ds[i]? = some x/\es[i]? = some y/\d=.tup [x,y]:=fun{i d} e=>by
  unfold Qhd at e;rw[z17] at e;obtain⟨q,hq,rfl⟩:=z03.mp e;obtain⟨q1,q2⟩:=q;obtain⟨h1,h2⟩:=zy6.mp hq;exact⟨q1,q2,h1,h2,rfl⟩
 refine⟨fun{C F' H σ ρ τ fp i d} hk I s e=>?_,fun{C F' H σ ρ τ fp} hk I s=>?_⟩
 ·obtain⟨x,y,hx,hy,rfl⟩:=get e;obtain⟨v,ev,rv⟩:=r.get hx;obtain⟨u,eu,ru⟩:=r'.get hy;have q:=(At.same h (s.trans I.fh)).sqQ;have q':=(At.same h' (s.trans I.fh)).sqQ;refine⟨⟨vs,us,v,u,q,q',ev,eu⟩,fun x0 H' hz=>?_⟩;obtain⟨T,x1,y1,hT,e1,e2,e3⟩:=hz;subst e1 e2;have z:=e3 vs us q q';rw[ev,eu] at z;have z1:=z26 z.1;have z2:=z26 z.2;subst z1 z2;have s2:=Same.upd (o:=HO.tup [v,u]) (I.fh.free hT);exact⟨_,I.lay hT,⟨s2,fun _=>YQ I hT⟩,.nd (t:=.tup) upd_same (.cons (rv.same (s.trans s2)) (.cons (ru.same (s.trans s2)) .nil))⟩
 ·have l:=r.length;have l':=r'.length;refine⟨vs,us,(At.same h (s.trans I.fh)).sqQ,(At.same h' (s.trans I.fh)).sqQ,?_⟩;have l2:(Qhd ds es).length=min ds.length es.length:=by unfold Qhd;rw[z01,zi1]
  rw[l2];lia
theorem Qgi {es:List Expr}{k0:Nat}{tp px:Pos}(hm:X.mg "zip" = none)(hK:C.K=X.K)(ha:PA X [e,f] (tA ks C p E mr))(ok:knL ks=true:=by rfl)(hg:Gl X "zip" := by rfl)(hs:starEach [e,f] X.env=[@16,(false,eval f X.env)]:=by rfl)(hs2:starEach [f] X.env=[(false,eval f X.env)]:=by rfl) :
  PI X (.Tuple es k0 tp) (.Call (.Name "zip" px) [e,f] [] pos) (tI C p E (Qgh mr)):=Y6 (Qkb hg hm ha hs hs2) fun σ H RR hz=>by
 obtain⟨F,ρ,τ,fp,I,h⟩:=hz;refine⟨F,ρ,τ,fp,I,h.split.mono fun r hr F1 H1 fp1 vs I1 n1 f1=>?_⟩;rw[Je (Yx ok)] at I1;obtain⟨q,eg,h2⟩:=hr.split.of;have rl:=f1.kn ok;rw[QiP eg] at rl;obtain⟨v1,v2,rfl,r1,r2⟩:=rl.two;obtain⟨a,us,rfl,hs,rl1⟩:=r1.inv;obtain⟨b,us',rfl,hs',rl2⟩:=r2.inv;refine⟨q.1,a,b,rfl,⟨us,by rw[← hK];exact(At.same hs I1.fh).sqQ⟩,⟨us',by rw[← hK];exact(At.same hs' I1.fh).sqQ⟩,h2 F1 H1 fp1 _ I1 n1 ?_⟩;rw[← hK];exact QhY hs rl1 hs' rl2
variable {lo hi:Option Expr}{st:Expr}{ml mh ms:MO}
def QeO (m:ME)(lo hi:MO):ME:=fun ρ=>(m ρ).bind fun r=>(lo r.2).bind fun l=>(hi l.2).bind fun h=>(Rs.of (gQ r.1)).bind fun q=>if q.1=true->¬(HT.sIx q.2.length 0 l.1=0/\HT.sIx q.2.length q.2.length h.1=q.2.length) then .ok (.nd (tgQ q.1) (cutD q.2 l.1 h.1),h.2) else .no
theorem Qgj (hK:C.K=X.K)(he:PE X e (tX .V C p E m))(hl:PO X lo (tO C pa E ml))(hu:PO X hi (tO C pb E mh)):PE X (.Subscript e (.Slice lo hi none p2) pos) (tX .V C (p && (pa && pb)) E (QeO m ml mh)):=Qm (pe_slice (sl_list.or sl_tup) he hl hu) fun σ H Q ⟨F,ρ,τ,fp,I,h⟩=>by
 refine⟨F,ρ,τ,fp,I,h.split.mono fun r1 h1 F1 H1 fp1 v1 I1 n1 f1=>?_⟩;refine⟨F1,r1.2,τ,fp1,I1,h1.split.mono fun r2 h2 F2 H2 fp2 I2 n2=>?_⟩;refine⟨F2,r2.2,τ,fp2,I2,h2.split.mono fun r3 h3 F3 H3 fp3 I3 n3=>?_⟩;obtain⟨⟨bb,xs⟩,e1,h4⟩:=h3.split.of;have g1:R C.K F3 v1 (.nd @31 xs):=by rw[← Qkc e1];exact R.same (n2.f.trans n3.f) f1
 obtain⟨l1,us,rfl,a1,rl1⟩:=g1.inv;dsimp only at h4
 by_cases c:bb=true->¬(HT.sIx xs.length 0 r2.1=0/\HT.sIx xs.length xs.length r3.1=xs.length)
 ·rw[if_pos c] at h4;have nn:=(n1.trans (n2.trans n3))
  cases bb with
  |false=>
   refine .inl ⟨l1,us,rfl,by rw[← hK];exact(At.same a1 I3.fh).sql,fun q hq=>?_⟩;have s:=Same.upd (o:=HO.lst (cutV us r2.1 r3.1)) (I3.fh.free hq);exact h4 _ _ fp3 _ (I3.lay hq) ((nn.trans (q:=true) ⟨s,fun _=>YQ I3 hq⟩).weak fun z=>by simpa using z) (.nd (t:=.lst) (.inl (.inl upd_same)) (rl1.cut.same s))
  |true=>
   refine .inr ⟨l1,us,rfl,by rw[← hK];exact(At.same a1 I3.fh).sqt,by rw[rl1.length];exact c rfl,fun q hq=>?_⟩;have s:=Same.upd (o:=HO.tup (cutV us r2.1 r3.1)) (I3.fh.free hq);exact h4 _ _ fp3 _ (I3.lay hq) ((nn.trans (q:=true) ⟨s,fun _=>YQ I3 hq⟩).weak fun z=>by simpa using z) (.nd (t:=.tup) upd_same (rl1.cut.same s))
 ·rw[if_neg c] at h4;exact h4.elim
def QhZ (ma mb:ME):ME:=fun ρ=>(ma ρ).bind fun r1=>(mb r1.2).bind fun r2=>(Rs.of (gQ2 [r1.1,r2.1])).bind fun q=>if q.2.1.length+q.2.2.length<=z24/\(q.1=true->q.2.1≠[]/\q.2.2≠[]) then .ok (.nd (tgQ q.1) (q.2.1++q.2.2),r2.2) else .no
theorem Qkd (hK:C.K=X.K)(ha:PE X a (tX .V C pa E ma))(hb:PE X b (tX .V C pb E mb)):PE X (.BinOp a .Add b pos) (tX .V C (pa && pb) E (QhZ ma mb)):=Qm (pe_op (QjJ.or op_catT) ha hb) fun σ H Q ⟨F,ρ,τ,fp,I,h⟩=>by
 refine⟨F,ρ,τ,fp,I,h.split.mono fun r1 h1 F1 H1 fp1 v1 I1 n1 f1=>?_⟩;refine⟨F1,r1.2,τ,fp1,I1,h1.split.mono fun r2 h2 F2 H2 fp2 v2 I2 n2 f2=>?_⟩;obtain⟨⟨bb,xs,ys⟩,e1,h4⟩:=h2.split.of;have ee:=QiP e1;dsimp only at ee h4
 obtain⟨x1,x2⟩:r1.1=.nd @31 xs/\r2.1=.nd @31 ys:=by
  injection ee with u1 u2;injection u2 with u2 u3;exact⟨u1,u2⟩
 have g1:R C.K F2 v1 (.nd @31 xs):=by rw[← x1];exact R.same n2.f f1
 have g2:R C.K F2 v2 (.nd @31 ys):=by rw[← x2];exact f2
 obtain⟨l1,us,rfl,a1,rl1⟩:=g1.inv;obtain⟨l2,ws,rfl,a2,rl2⟩:=g2.inv
 by_cases c:xs.length+ys.length<=z24/\(bb=true->xs≠[]/\ys≠[])
 ·rw[if_pos c] at h4;have lz:us.length+ws.length<=z24:=by rw[rl1.length,rl2.length];exact c.1
  cases bb with
  |false=>
   refine .inl ⟨l1,l2,us,ws,rfl,rfl,hK▸At.same a1 I2.fh,hK▸At.same a2 I2.fh,lz,fun q hq=>?_⟩;have s:=Same.upd (o:=HO.lst (us++ws)) (I2.fh.free hq);exact h4 _ _ fp2 _ (I2.lay hq) (((n1.trans n2).trans (q:=true) ⟨s,fun _=>YQ I2 hq⟩).weak fun z=>by simpa using z) (.nd (t:=.lst) (.inl (.inl upd_same)) ((rl1.app rl2).same s))
  |true=>
   obtain⟨c1,c2⟩:=c.2 rfl
   have nn:∀{vs:List L2.V} {ds:List D},RL C.K F2 vs ds->ds≠[]->vs≠[]:=fun{vs ds} r n z=>n (by
    have:=r.length;rw[z] at this
    exact ze3.mp this.symm)
   refine .inr ⟨l1,l2,us,ws,rfl,rfl,hK▸(At.same a1 I2.fh).sqt,hK▸(At.same a2 I2.fh).sqt,nn rl1 c1,lz,fun z=>absurd z (nn rl2 c2),fun _ q hq=>?_⟩;have s:=Same.upd (o:=HO.tup (us++ws)) (I2.fh.free hq);exact h4 _ _ fp2 _ (I2.lay hq) (((n1.trans n2).trans (q:=true) ⟨s,fun _=>YQ I2 hq⟩).weak fun z=>by simpa using z) (.nd (t:=.tup) upd_same ((rl1.app rl2).same s))
 ·rw[if_neg c] at h4;exact h4.elim
def Yb (m:ME)(lo st:MO):ME:=fun ρ=>(m ρ).bind fun r=>(lo r.2).bind fun l=>(st l.2).bind fun h=>(Rs.of (asL r.1)).bind fun xs=>if h.1≠some 0 then .ok (.lst (JC xs l.1 h.1),h.2) else .no
theorem Qc6 (hK:C.K=X.K)(he:PE X e (tX .V C p E m))(hl:PO X lo (tO C pa E ml))(hu:PO X (some st) (tO C pb E ms)):PE X (.Subscript e (.Slice lo none (some st) p2) pos) (tX .V C (p && (pa && pb)) E (Yb m ml ms)):=Qm (Qj3 he hl hu) fun σ H Q ⟨F,ρ,τ,fp,I,h⟩=>by
 refine⟨F,ρ,τ,fp,I,h.split.mono fun r1 h1 F1 H1 fp1 v1 I1 n1 f1=>?_⟩;refine⟨F1,r1.2,τ,fp1,I1,h1.split.mono fun r2 h2 F2 H2 fp2 I2 n2=>?_⟩;refine⟨F2,r2.2,τ,fp2,I2,h2.split.mono fun r3 h3 F3 H3 fp3 I3 n3=>?_⟩;obtain⟨xs,e1,h4⟩:=h3.split.of;have g1:R C.K F3 v1 (.nd .lst xs):=by rw[← QdM e1];exact R.same (n2.f.trans n3.f) f1
 obtain⟨l1,us,rfl,a1,rl1⟩:=g1.inv
 by_cases hi:r3.1≠some 0
 ·rw[if_pos hi] at h4;refine⟨hi,l1,us,rfl,by rw[← hK];exact(At.same a1 I3.fh).sql,fun q hq=>?_⟩;have s:=Same.upd (o:=HO.lst (JC us r2.1 r3.1)) (I3.fh.free hq);exact h4 _ _ fp3 _ (I3.lay hq) (((n1.trans (n2.trans n3)).trans (q:=true) ⟨s,fun _=>YQ I3 hq⟩).weak fun z=>by simpa using z) (.nd (t:=.lst) (.inl (.inl upd_same)) ((Qj5 rl1 _ _).same s))
 ·rw[if_neg hi] at h4;exact h4.elim
def Qcu (m:ME):ME:=fun ρ=>(m ρ).bind fun r=>(Rs.of (asL r.1)).bind fun ds=>.ok (.tup ds,r.2)
theorem Qgk {px:Pos}(hm:X.mg "tuple" = none)(hK:C.K=X.K)(he:PE X e (tX .O C p E m))(hgl:Gl X "tuple" := by rfl)(hs:starEach [e] X.env=@16::starEach [] X.env:=by rfl)(hpl:(backTo pos (starEach [] X.env)).any (·.1)=false:=by rfl) :
  PE X (.Call (.Name "tuple" px) [e] [] pos) (tX .O C false E (Qcu m)):=
 Qm (pe_callTy call_tuple_of hgl hm TL.boot_tuple (pa_cons he pa_nil hs) @2 @2 hs hpl) fun σ H Q ⟨F,ρ,τ,fp,I,h⟩=>by
  refine⟨F,ρ,τ,fp,I,h.split.mono fun r1 h1 F1 H1 fp1 v1 I1 n1 f1=>?_⟩;obtain⟨ds,e1,h2⟩:=h1.split.of;obtain⟨f,rest,oo,pm,J,z1,z2,nd⟩:=SI.pop (show SI C F1 H1 σ r1.2 ((v1,r1.1)::τ) fp1 from I1);rw[QdM e1] at oo
  cases oo with
  |sc e=>cases e
  |im m _ _=>cases m
  | @mt a _ vs _ f' hm ol=>
   refine⟨a,vs,rfl,.inl ⟨SqL.of hm,fun l hl=>?_⟩⟩
   have nl:∀b∈a::f'++rest,b≠l:=fun b hb=>by
    obtain⟨_,e,_⟩:=I1.mem b (pm.mem_iff.mpr hb);exact ne_of_none e hl
   have J1:=J.lay (o:=.tup vs) hl;have ol':OL C.K (upd F1 l (.tup vs)) (upd H1 l (.tup vs)) vs ds f':=ol.keep (Same.upd (I1.fh.free hl)) fun b hb=>upd_ne (nl b (by simp[hb]))
   have J2:=J1.push (v:=.ref l) (d:=.tup ds) (f:=f') (.im (t:=.tup) rfl upd_same ol') (fun b hb=>z1 b (z07 _ hb)) (fun b hb=>by
    rw[upd_ne (nl b (by simp[hb]))];exact z2 b (z07 _ hb)) ((z39.mp nd).2)
   exact h2 _ _ _ _ J2 ⟨n1.f.trans (Same.upd (I1.fh.free hl)),fun z=>by cases z⟩ z64
end
end TL
namespace L2
open PySem PySem.Spec PyProof.Rows
open AutoSeq1 (idx_int wpAny_loadPart')
theorem Qpd (l b:Addr)(xs ys:Array Value)(n m:Nat)(dd:Option Addr)(sl:Array (Option Value))(c0:¬(!xs.isEmpty && zl2 (xs.size+ys.size))=true)(c1:xs.size<=z24)(c2:xs.size+ys.size<=z24+1) :
  Meets (Builtin.«list.extend» ⟨[.ref l,.ref b],[]⟩) fun _ R s=>s.heap.get? l=some { cls:=.type "list",dict:=none,data:=.seq xs n,slots:=#[]}/\s.heap.get? b=some { cls:=.type "list",dict:=dd,data:=.seq ys m,slots:=sl }/\R (.ok (.ret z40)) { s with heap:=s.heap.update l (z54 (·++ys)),toks:=s.toks }:=
 .of_wp fun prog w A R s h=>by
  obtain⟨hp,g,d,tk,os⟩:=s;obtain⟨gl,gb,h⟩:=h;have f1:=idx_int;have f2:=sub_tuple_tuple;have f3:=sub_list_list;have f4:=sub_tuple_list;have f5:=sub_list_tuple;have zz:(xs++ys).size<=z24+1:=by rw[zd6];exact c2
  wp_walk using(zr6 gl rfl (hz:=c1) (_hz':=zz)),zr7 gl,zr7 gb
  exact⟨_,rfl,h⟩
def Qn4 (K:z02):V->List V->Hp->VK->Prop:=fun x vs H Q=>∃l b xs zs,x=.ref l/\vs=[.ref b]/\H l=some (.lst xs)/\SqL K H b zs/\xs.length+zs.length<=z24/\Q .non (upd H l (.lst (xs++zs)))
theorem Qke {X:Cx}:MtM X "list.extend" (Qn4 X.K):=by
 intro pins s σ H x vs v us Q I rx rv h;obtain⟨l,b,xs,zs,rfl,rfl,hH,hB,hz,q⟩:=h;cases rx
 obtain⟨u,rfl,ru⟩:=rv.one;cases ru
 obtain⟨z,its,n,r,hl,e⟩:=I.lstM hH;obtain⟨its2,r2,⟨⟨cls,dd,data,sl⟩,n2,e2,hc,hdd,hd⟩,z2⟩:=I.list hB;cases hc;cases hd
 have l2:=r2.length;have hsz:its.toArray.size+its2.toArray.size<=z24:=by rw[z22,z22];lia
 refine call_meets F.slot_list_extend ⟨_,e,rfl⟩ F.entry_list_extend (F.args_list_extend_2 _ _) (Qpd l b its.toArray its2.toArray n n2 dd sl (by rw[notLongL hsz,zz2];exact z19) (by rw[z22];lia) @0) ⟨e,e2,?_⟩;refine⟨.non,_,I.lset (its':=its++its2) hH e @6 (r.append r2) ?_,rfl,q⟩;rw[z10];lia
end L2
namespace TL
open PySem PySem.Spec L2
section
variable {X:Cx}{C:Cn}{E:XE}{p:Bool}{e:Expr}{m:ME}{pos:Pos}{rk:Kd}
def Qh0 (i:Nat)(m:ME):MS:=fun ρ=>(Rs.of (Qbq ρ i)).bind fun _=>(m ρ).bind fun r=>(Rs.of (Qbq r.2 i)).bind fun q=>(Rs.of (asL r.1)).bind fun ds=>if q.2.length+ds.length<=z24/\D.Jb ds=true then .ok (.nx,r.2.set i (some (mkS q.1 (.lst (q.2++ds))))) else .no
theorem QdW {i:Nat}{x:Str}{np apos cpos:Pos}(hK:C.K=X.K)(hN:X.N[i]? = some x)(hv:Vis X.env.scope x)(he:PE X e (tX .V C p E m))(hs:swapsWith (.Call (.Attribute @20 "extend" apos) [e] [] cpos) none pos.line X.env=pure false:=by rfl)
  (hbase:attributeBase @20 "extend" X.env (eval @20 X.env)=eval @20 X.env:=by rfl) (hfew:((backTo cpos (starEach [e] X.env)).all (fun x=>!x.1) && (backToKw cpos (keywordEach [] X.env)).all (fun x=>x.1.isSome) && decide ([e].length+([]:List Keyword).length+(if([]:List Keyword).isEmpty then 0 else 1)<30))=true:=by rfl)
  (hline:(apos.endLine == cpos.line)=true:=by rfl) (hst:starEach [e] X.env=@16::starEach [] X.env:=by rfl) (hplain:(backTo cpos (starEach [] X.env)).any (·.1)=false:=by rfl) (hd:@10=false:=by decide) (hcd:@23=false:=by decide) :
  PS X (.Expr (.Call (.Attribute @20 "extend" apos) [e] [] cpos) pos) (tS rk C E (Qh0 i m)):=
 Q8 (ps_expr (pe_bm zn0 PySem.F.slot_list_extend PySem.F.type_list_extend Qke (pe_var hN hv hd hcd) (pa_cons he pa_nil hst) hbase hfew hline hst hplain) hs) fun _ σ H ⟨F,ρ,fp,I,h⟩=>by
 obtain⟨q0,e0,h⟩:=h.split.of;obtain⟨l0,vs0,f0,QeD,ex0,hl0,_⟩:=I.QfL (VG e0);refine⟨_,ex0,.inl ⟨rfl,vs0,SqL.of hl0⟩,F,ρ,[],fp,I,h.split.run.mono fun r hr F1 H1 fp1 v I1 n1 g1=>?_⟩;obtain⟨q,eq,h2⟩:=hr.split.of;obtain⟨l,vs,f,rest,ex,hl,ol,pm,w,cl⟩:=(show SI C F1 H1 σ r.2 [] fp1 from I1).QfM (VG eq);have el:l=l0:=by rw[ex0] at ex;cases ex;rfl
 subst el;obtain⟨ds,ed,h3⟩:=h2.split.of;have g2:R C.K F1 v (.nd .lst ds):=by rw[← QdM ed];exact g1
 obtain⟨b,us,rfl,a1,rl⟩:=g2.inv
 by_cases hz:q.2.length+ds.length<=z24/\D.Jb ds=true
 ·rw[if_pos hz] at h3;refine⟨l,b,vs,us,rfl,rfl,hl,hK▸(At.same a1 I1.fh).sql,by rw[ol.length,rl.length];exact hz.1,?_⟩;have ob:OL C.K F1 H1 us ds []:=rl.o hz.2;refine h3 F1 _ σ _ n1.f (cl (f':=f) (by simpa using ol.app ob) ?_ fun b hb=>?_)
  ·exact pm.nodup_iff.mp I1.nd
  ·exact⟨I1.ap b (pm.mem_iff.mpr (by simp[hb])),w b (z07 _ hb)⟩
 ·rw[if_neg hz] at h3;exact h3.elim
end
end TL
namespace TL
open PySem L2 L2.Srt
variable {i k:Nat}{c:Int}{hs:List Int}
abbrev P2:=Int×Int
variable {p q:P2}{cs l ps:List P2}{x:P2->Bool}
def nb (p:P2):List P2:=[(p.1 - 1,p.2),(p.1,p.2 - 1),(p.1,p.2+1),(p.1+1,p.2)]
theorem Qgl(h:q∈nb p):p∈nb q:=by
 obtain⟨a,b⟩:=p;have e1:∀c:Int,c - 1+1=c:=fun c=>Int.sub_add_cancel c 1;have e2:∀c:Int,c+1 - 1=c:=fun c=>Int.add_sub_cancel c 1;unfold nb at h;rcases z21.mp h with h|h
 ·rw[h];exact .tail _ (.tail _ (.tail _ (by show(a,b)∈[(a - 1+1,b)];rw[e1];exact .head _)))
 rcases z21.mp h with h|h
 ·rw[h];exact .tail _ (.tail _ (by show(a,b)∈(a,b - 1+1)::_;rw[e1];exact .head _))
 rcases z21.mp h with h|h
 ·rw[h];exact .tail _ (by show(a,b)∈(a,b+1 - 1)::_;rw[e2];exact .head _)
 ·rw[z16.mp h];show(a,b)∈(a+1 - 1,b)::_;rw[e2];exact .head _
inductive Rch (cs:List P2) (p:P2):P2->Prop
 |base:Rch cs p p
 |step {q r:P2} (h:Rch cs p q) (n:r∈nb q) (m:r∈cs):Rch cs p r
theorem Rch.trans{r:P2}(h:Rch cs p q)(h':Rch cs q r):Rch cs p r:=by
 induction h' with
 |base=>exact h
 |step _ n m ih=>exact .step ih n m
theorem Rch.mem(h:Rch cs p q)(hp:p∈cs):q∈cs:=by
 cases h with
 |base=>exact hp
 |step _ _ m=>exact m
theorem Rch.sym(h:Rch cs p q)(hp:p∈cs):Rch cs q p:=by
 induction h with
 |base=>exact .base
 |step h n m ih=>exact(Rch.step .base (Qgl n) (h.mem hp)).trans ih
theorem QbA {r:List P2}(hl:l.Nodup)(hr:r.Nodup)(h:∀x,x∈l↔x∈r):l.Perm r:=by
 rw[z91];intro a
 by_cases c:a∈l
 ·rw[hl.count,hr.count,if_pos c,if_pos ((h a).mp c)]
 ·rw[z99 c,z99 (fun z=>c ((h a).mpr z))]
theorem Qkf {r:List P2}(hl:l.Nodup)(hr:r.Nodup)(h:∀x,x∈l↔x∈r):Jh ltP l=Jh ltP r:=
 JR YC (Q9 YC hl) (Q9 YC hr) ((Ql l).trans ((QbA hl hr h).trans (Ql r).symm))
def QK (ps:List P2):List P2:=Jh ltP (upTo ps)
theorem QdX:q∈QK ps↔q∈ps:=((Ql _).mem_iff).trans (Qhr ps q)
theorem QbB (ps:List P2):(QK ps).Nodup:=(Ql _).nodup_iff.mpr (Qbj ps)
theorem QdY (ps:List P2):(QK ps).length<=ps.length:=by rw[QK,(Ql _).length_eq];exact Qbi ps
open Classical in
noncomputable def cmp (cs:List P2)(p:P2):List P2:=Jh ltP (cs.filter fun q=>decide (Rch cs p q))
theorem Yc(hp:p∈cs):q∈cmp cs p↔Rch cs p q:=by
 unfold cmp;rw[(Ql _).mem_iff,z77];exact⟨fun h=>@of_decide_eq_true _ (zm2 _) h.2,fun h=>⟨h.mem hp,@decide_eq_true _ (zm2 _) h⟩⟩
theorem Qgm(h:cs.Nodup)(p:P2):(cmp cs p).Nodup:=(Ql _).nodup_iff.mpr (h.filter _)
theorem Qmu {fs:List P2}(h:cs.Nodup)(hp:p∈cs)(hf:fs.Nodup)(hm:∀q,q∈fs↔Rch cs p q):Jh ltP fs=cmp cs p:=
 JR YC (Q9 YC hf) (Q9 YC (h.filter _)) ((Ql fs).trans ((QbA hf ((Ql _).nodup_iff.mp (Qgm h p)) fun x=>(hm x).trans ((Yc hp).symm.trans (Ql _).mem_iff)).trans (Ql _).symm))
theorem Qkg(p:P2):(cmp cs p).length<=cs.length:=by
 unfold cmp;rw[(Ql _).length_eq];exact zf9 _ _
noncomputable def Jt (cs:List P2)(a:List (List P2)×List P2)(p:P2):List (List P2)×List P2:=if p∈a.2 then a else(a.1++[cmp cs p],a.2++cmp cs p)
noncomputable def Qgn (cs:List P2)(l:List P2):List (List P2)×List P2:=l.foldl (Jt cs) ([],[])
noncomputable def shp (ps:List P2):List (List P2):=(Qgn (QK ps) (QK ps)).1
theorem Qgo(h:l[i]? = some p):Qgn cs (l.take (i+1))=Jt cs (Qgn cs (l.take i)) p:=by
 unfold Qgn;rw[z92,h,zq8,y55];rfl
structure Cl (cs S:List P2):Prop where
 sub:∀q∈S,q∈cs
 cl:∀q∈S,∀r,Rch cs q r->r∈S
 nd:S.Nodup
theorem Cl.step {cs S:List P2}{acc:List (List P2)}{p:P2}(c:Cl cs S)(hn:cs.Nodup)(hp:p∈cs):Cl cs (Jt cs (acc,S) p).2:=by
 unfold Jt
 split
 ·exact c
 ·rename_i np
  refine⟨fun q hq=>?_,fun q hq r h=>?_,z12.mpr ⟨c.nd,Qgm hn p,fun a ha b hb e=>?_⟩⟩
  ·rcases z08.mp hq with hq|hq
   ·exact c.sub q hq
   ·exact((Yc hp).mp hq).mem hp
  ·rcases z08.mp hq with hq|hq
   ·exact z13 _ (c.cl q hq r h)
   ·exact z05 _ ((Yc hp).mpr (((Yc hp).mp hq).trans h))
  ·subst e;exact np (c.cl a ha p (((Yc hp).mp hb).sym hp))
theorem Cl.run(hn:cs.Nodup):∀(l:List P2),(∀p∈l,p∈cs)->Cl cs (Qgn cs l).2:=by
 intro l hl
 have:∀(l:List P2) (a:List (List P2)×List P2),(∀p∈l,p∈cs)->Cl cs a.2->Cl cs (l.foldl (Jt cs) a).2:=by
  intro l
  induction l with
  |nil=>intro a _ c;exact c
  |cons p l ih=>intro a hl c;exact ih _ (fun q hq=>hl q (z07 _ hq)) (c.step hn (hl p z09))
 exact this l _ hl ⟨fun _ z=>(nomatch z),fun _ z=>(nomatch z),.nil⟩
theorem Qa3:∀(l:List P2),(Qgn cs l).1.length<=l.length/\∀s∈(Qgn cs l).1,s.length<=cs.length:=by
 have:∀(l:List P2) (a:List (List P2)×List P2),(∀s∈a.1,s.length<=cs.length)->(l.foldl (Jt cs) a).1.length<=a.1.length+l.length/\∀s∈(l.foldl (Jt cs) a).1,s.length<=cs.length:=by
  intro l
  induction l with
  |nil=>intro a h;exact⟨z15 _,h⟩
  |cons p l ih=>
   intro a h
   have z:=ih (Jt cs a p) (by
    unfold Jt
    split
    ·exact h
    ·intro s hs;rcases z08.mp hs with hs|hs
     ·exact h s hs
     ·rw[z16.mp hs];exact Qkg p)
   refine⟨?_,z.2⟩
   have:(Jt cs a p).1.length<=a.1.length+1:=by
    unfold Jt
    split
    ·lia
    ·rw[z10];exact z15 _
   have z1:=z.1;rw[zg0,z31];lia
 intro l;have:=this l ([],[]) @5;simpa[Qgn] using this
theorem sub_len {r:List P2}(hl:l.Nodup)(h:∀x∈l,x∈r):l.length<=r.length:=by
 induction l generalizing r with
 |nil=>exact z58 _
 |cons a l ih=>
  obtain⟨n,nd⟩:=z39.mp hl;have:=ih (r:=r.erase a) nd fun x hx=>(zk9 (fun e=>n (by rw[← e];exact hx))).mpr (h x (z07 _ hx));have ha:=h a z09;rw[zh8 ha] at this;have:=zi9 ha;rw[z31];lia
def dct (ks:List P2)(f:P2->Bool):D:=.nd (.dT (ks.map YD)) (ks.map fun q=>.bl (f q))
theorem Yy(h:YD p=YD q):p=q:=by
 unfold YD at h;simp at h;exact zo0 h.1 h.2
theorem QaC:Qcl (pl p)=some (YD p):=rfl
theorem Qc7 {ks:List P2}:((ks.map YD).any fun x=>decide (x=YD p))=decide (p∈ks):=by
 by_cases h:p∈ks
 ·rw[decide_eq_true h,zo4];exact⟨YD p,zr0 h,by simp⟩
 ·rw[decide_eq_false h,zt7];intro x hx e;obtain⟨q,hq,rfl⟩:=z37.mp hx;exact h (Yy (of_decide_eq_true e)▸hq)
theorem QdZ {ks:List P2}{f:P2->Bool}:QeM (pl p) (dct ks f)=some (decide (p∈ks)):=by
 show(Qcl (pl p)).map (fun k=>(ks.map YD).any fun x=>decide (x=k))=_;rw[QaC,zf6,Qc7]
theorem Qgp (ks:List P2)(f:P2->Bool):D.Jb (ks.map fun q=>D.bl (f q))=true:=by
 induction ks with
 |nil=>rfl
 |cons k ks ih=>rw[z28];show(true && D.Jb _)=true;rw[ih];rfl
theorem Qd0 {f:P2->Bool}{p:P2}:∀{ks:List P2},QfX (ks.map YD) (ks.map fun q=>D.bl (f q)) (YD p)=if p∈ks then some (.bl (f p)) else none
 | []=>rfl
 |k::ks=>by
  rw[z28,z28,QfX]
  by_cases e:k=p
  ·subst e;rw[if_pos rfl,if_pos z09]
  ·rw[if_neg fun z=>e (Yy z),Qd0];have:p∈k::ks↔p∈ks:=by rw[z21];exact⟨fun h=>h.resolve_left (fun z=>e z.symm),.inr⟩
   by_cases c:p∈ks
   ·rw[if_pos c,if_pos (this.mpr c)]
   ·rw[if_neg c,if_neg fun z=>c (this.mp z)]
def Qkh (f:P2->Bool)(p:P2)(b:Bool):P2->Bool:=fun q=>if q=p then b else f q
theorem Qd1 {ks:List P2}{f:P2->Bool}{b:Bool}(h:p∈ks):putD (ks.map YD) (ks.map fun q=>D.bl (f q)) (YD p) (.bl b)=(ks.map YD,ks.map fun q=>D.bl (Qkh f p b q)):=by
 unfold putD;rw[if_pos (by rw[Qc7];exact decide_eq_true h)];refine zo0 rfl ?_;show zd2 _ _ _=_;clear h
 induction ks with
 |nil=>rfl
 |cons k ks ih=>
  rw[z28,z28,zb1,z28,ih]
  congr 1
  unfold Qkh
  by_cases e:k=p
  ·rw[if_pos (by rw[e]),if_pos e]
  ·rw[if_neg fun z=>e (Yy z),if_neg e]
theorem Qh1 {ks:List P2}(h:p∉ks):putD (ks.map YD) (ks.map fun _=>D.bl true) (YD p) (.bl true)=((ks++[p]).map YD,(ks++[p]).map fun _=>D.bl true):=by
 unfold putD;rw[if_neg (by rw[Qc7,decide_eq_false h];exact z19),z47,z47];rfl
theorem Qki {ks:List P2}:(D.nd (.dT (putD (ks.map YD) (ks.map fun _=>D.bl true) (YD p) (.bl true)).1) (putD (ks.map YD) (ks.map fun _=>D.bl true) (YD p) (.bl true)).2)=dct (Ji ks p) fun _=>true:=by
 unfold Ji
 by_cases h:p∈ks
 ·rw[if_pos h,Qd1 (f:=fun _=>true) h];unfold dct Qkh
  congr 1
  exact z80 fun q _=>by split<;>rfl
 ·rw[if_neg h,Qh1 h];rfl
inductive Dr|e|s|w|n
deriving DecidableEq
def Dr.rt:Dr->Dr|.e=>.s|.s=>.w|.w=>.n|.n=>.e
def Dr.lf:Dr->Dr|.e=>.n|.s=>.e|.w=>.s|.n=>.w
def Dr.op:Dr->Dr|.e=>.w|.s=>.n|.w=>.e|.n=>.s
def mv (a:P2):Dr->P2|.e=>(a.1,a.2+1)|.s=>(a.1+1,a.2)|.w=>(a.1,a.2 - 1)|.n=>(a.1 - 1,a.2)
def qd (a:P2):Dr->P2|.e=>(a.1,a.2)|.s=>(a.1,a.2 - 1)|.w=>(a.1 - 1,a.2 - 1)|.n=>(a.1 - 1,a.2)
abbrev Sdx:=P2×Dr
variable {ks:List Sdx}{f:Sdx->Bool}{s:Sdx}
def isS (x:P2->Bool)(s:Sdx):Prop:=x (qd s.1 s.2)=true/\x (qd s.1 s.2.lf)=false
def fin (s:Sdx):P2:=mv s.1 s.2
theorem Qn5 (a:P2)(d:Dr):qd (mv a d) d.rt=qd a d:=by cases d<;>simp[qd,mv,Dr.rt]<;>lia
theorem Qn6 (a:P2)(d:Dr):qd (mv a d) d.op=qd a d.lf:=by cases d<;>simp[qd,mv,Dr.op,Dr.lf]<;>lia
theorem Qmv {a b:P2}{d:Dr}(h:mv a d=mv b d):a=b:=by
 obtain⟨a1,a2⟩:=a;obtain⟨b1,b2⟩:=b;cases d<;>simp only[mv,zn1] at h ⊢<;>lia
theorem Qmw {a:P2}{d e:Dr}(h:mv a d=mv a e):d=e:=by
 cases d<;>cases e<;>simp only[mv,zn1] at h<;>first|rfl|lia
def trn:Bool->Bool->Dr->Dr|false,_,d=>d.rt|true,false,d=>d|true,true,d=>d.lf
def nxt (x:P2->Bool)(s:Sdx):Sdx:=(fin s,trn (x (qd (fin s) s.2)) (x (qd (fin s) s.2.lf)) s.2)
theorem Qd2(h:isS x s):x (qd (fin s) s.2.rt)=true/\x (qd (fin s) s.2.op)=false:=by
 unfold fin;rw[Qn5,Qn6];exact h
theorem Qmx (d:Dr):d.rt.lf=d:=by cases d<;>rfl
theorem Qmy (d:Dr):d.lf.lf=d.op:=by cases d<;>rfl
theorem Qmz(h:isS x s):isS x (nxt x s):=by
 have k:=Qd2 h;unfold nxt isS
 cases e1:x (qd (fin s) s.2) with
 |false=>exact⟨k.1,by show x (qd (fin s) s.2.rt.lf)=false;rw[Qmx];exact e1⟩
 |true=>
  cases e2:x (qd (fin s) s.2.lf) with
  |false=>exact⟨e1,e2⟩
  |true=>exact⟨e2,by show x (qd (fin s) s.2.lf.lf)=false;rw[Qmy];exact k.2⟩
theorem Qkj (y:Dr->Bool)(d d':Dr):y d.rt=true->y d.op=false->y d'.rt=true->y d'.op=false->trn (y d) (y d.lf) d=trn (y d') (y d'.lf) d'->d=d':=by
 cases d<;>cases d'<;>dsimp only[Dr.rt,Dr.lf,Dr.op]<;>first|(intros;rfl)|(generalize y .e=E;generalize y .s=S;generalize y .w=W;generalize y .n=N;revert E S W N;decide)
theorem Qc8{t:Sdx}(hs:isS x s)(ht:isS x t)(h:nxt x s=nxt x t):s=t:=by
 have e:fin s=fin t:=congrArg zg5 h;have a:=Qd2 hs;have b:=Qd2 ht;have h2:trn _ _ s.2=trn _ _ t.2:=congrArg y40 h;rw[← e] at b h2;have g':=Qkj (fun d=>x (qd (fin s) d)) s.2 t.2 a.1 a.2 b.1 b.2 h2;obtain⟨a1,d1⟩:=s;obtain⟨a2,d2⟩:=t;cases g'
 exact congrArg (·,_) (Qmv e)
def it (x:P2->Bool)(s:Sdx):Nat->Sdx|0=>s|k+1=>nxt x (it x s k)
theorem QaS {x:P2->Bool}{s:Sdx}(h:isS x s):∀k,isS x (it x s k)|0=>h|k+1=>Qmz (QaS h k)
def orb (x:P2->Bool)(s:Sdx)(k:Nat):List Sdx:=(z41 k).map (it x s)
theorem Jm{t:Sdx}:t∈orb x s k↔∃i,i<k/\it x s i=t:=by
 unfold orb;rw[z37];exact⟨fun⟨i,hi,e⟩=>⟨i,z70.mp hi,e⟩,fun⟨i,hi,e⟩=>⟨i,z70.mpr hi,e⟩⟩
theorem QbC:orb x s (k+1)=orb x s k++[it x s k]:=by
 unfold orb;rw[zp2,z47];rfl
theorem QmA(h:(orb x s k).Nodup)(hk:it x s k∉orb x s k):(orb x s (k+1)).Nodup:=by
 rw[QbC];exact z12.mpr ⟨h,@6,fun a ha b hb e=>hk (by rw[z16] at hb;rw[← hb,← e];exact ha)⟩
theorem QmB{j:Nat}(h:(orb x s k).Nodup)(hi:i<k)(hj:j<k)(e:it x s i=it x s j):i=j:=by
 have g:∀i,i<k->(orb x s k)[i]? = some (it x s i):=fun i hi=>by unfold orb;rw[z17,zl7 hi];rfl
 have l:(orb x s k).length=k:=by unfold orb;simp
 have q:∀{l:List Sdx},l.Nodup->∀{i j:Nat} {a},l[i]? = some a->l[j]? = some a->i=j:=by
  intro l hl
  induction l with
  |nil=>intro i j a e;simp at e
  |cons y l ih=>
   obtain⟨h1,h2⟩:=z39.mp hl;intro i j a e1 e2
   cases i with
   |zero=>cases j with
    |zero=>rfl
    |succ j=>cases e1;exact absurd (z38 (show l[j]? = _ from e2)) h1
   |succ i=>cases j with
    |zero=>cases e2;exact absurd (z38 (show l[i]? = _ from e1)) h1
    |succ j=>exact congrArg _ (ih h2 e1 e2)
 exact q h (g i hi) (e▸g j hj)
theorem Qgq(hs:isS x s)(h:(orb x s k).Nodup)(m:it x s k∈orb x s k):it x s k=s:=by
 obtain⟨i,hi,e⟩:=Jm.mp m
 cases i with
 |zero=>exact e.symm
 |succ i=>
  cases k with
  |zero=>lia
  |succ k=>
   have:=QmB h @0 @0 (Qc8 (QaS hs i) (QaS hs k) e);lia
structure Rnd (x:P2->Bool)(s:Sdx)(k:Nat):Prop where
 is:isS x s
 nd:(orb x s k).Nodup
 po:0<k
 rd:it x s k=s
theorem Rnd.nx{t:Sdx}(r:Rnd x s k)(h:t∈orb x s k):nxt x t∈orb x s k:=by
 obtain⟨i,hi,e⟩:=Jm.mp h
 by_cases hk:i+1=k
 ·exact Jm.mpr ⟨0,r.po,by rw[← e];show s=it x s (i+1);rw[hk,r.rd]⟩
 ·exact Jm.mpr ⟨i+1,by lia,by rw[← e];rfl⟩
theorem Rnd.pv{t:Sdx}(r:Rnd x s k)(ht:isS x t)(h:nxt x t∈orb x s k):t∈orb x s k:=by
 obtain⟨i,hi,e⟩:=Jm.mp h
 cases i with
 |zero=>
  obtain⟨j,rfl⟩:∃j,k=j+1:=⟨k - 1,by have:=r.po;lia⟩;exact Jm.mpr ⟨j,by lia,Qc8 (QaS r.is j) ht ((r.rd.trans e:it x s (j+1)=nxt x t))⟩
 |succ i=>exact Jm.mpr ⟨i,by lia,Qc8 (QaS r.is i) ht e⟩
def four (p:P2):List Sdx:=[(p,.e),((p.1,p.2+1),.s),((p.1+1,p.2+1),.w),((p.1+1,p.2),.n)]
def sds (x:P2->Bool)(ps:List P2):List Sdx:=ps.flatMap fun p=>(four p).filter fun s=>!x (qd s.1 s.2.lf)
theorem Qai:s∈four p↔qd s.1 s.2=p:=by
 obtain⟨⟨a,b⟩,d⟩:=s;obtain⟨r,c⟩:=p;cases d<;>simp only[four,qd,z21,zh5,zn1,reduceCtorEq,and_false,or_false,false_or,and_true]<;>lia
theorem Yd(hx:∀p,x p=true↔p∈ps):s∈sds x ps↔isS x s:=by
 unfold sds isS;rw[zk5]
 constructor
 ·rintro⟨p,hp,h⟩;rw[z77,Qai] at h;exact⟨by rw[h.1];exact(hx p).mpr hp,by simpa using h.2⟩
 ·rintro⟨h1,h2⟩;exact⟨_,(hx _).mp h1,z77.mpr ⟨Qai.mpr rfl,by rw[h2];rfl⟩⟩
theorem Qkk (p:P2):(four p).Nodup:=by
 unfold four;simp[zn1]
theorem Qcv {x:P2->Bool}:∀{ps:List P2},ps.Nodup->(sds x ps).Nodup
 | [],_=>.nil
 |p::ps,h=>by
  obtain⟨h1,h2⟩:=z39.mp h;unfold sds;rw[zj5];refine z12.mpr ⟨(Qkk p).filter _,Qcv h2,fun a ha b hb e=>?_⟩;subst e;obtain⟨q,hq,hb⟩:=zk5.mp hb;have e1:=Qai.mp (z77.mp ha).1;have e2:=Qai.mp (z77.mp hb).1;exact h1 (by rw[← e1,e2];exact hq)
theorem Qgr {α:Type}[DecidableEq α]{l r:List α}(hl:l.Nodup)(hr:r.Nodup)(h:∀x,x∈l↔x∈r):l.Perm r:=by
 rw[z91];intro a
 by_cases c:a∈l
 ·rw[hl.count,hr.count,if_pos c,if_pos ((h a).mp c)]
 ·rw[z99 c,z99 (fun z=>c ((h a).mpr z))]
structure Fre (x:P2->Bool)(f:Sdx->Bool)(os:List (List Sdx)):Prop where
 inv:∀s,isS x s->f (nxt x s)=f s
 nd:os.flatten.Nodup
 mem:∀s,isS x s->(s∈os.flatten↔f s=false)
 sub:∀s∈os.flatten,isS x s
 rnd:∀o∈os,∃s k,Rnd x s k/\o=orb x s k
theorem Fre.nil {x:P2->Bool}:Fre x (fun _=>true) []:=⟨fun _ _=>rfl,.nil,fun _ _=>by simp,(fun _ h=>nomatch h),(fun _ h=>nomatch h)⟩
theorem Fre.it {x:P2->Bool}{f:Sdx->Bool}{os:List (List Sdx)}(F:Fre x f os){s:Sdx}(hs:isS x s):∀k,f (it x s k)=f s
 |0=>rfl
 |k+1=>(F.inv _ (QaS hs k)).trans (Fre.it F hs k)
theorem Fre.step {x:P2->Bool}{f g:Sdx->Bool}{os:List (List Sdx)}(F:Fre x f os){s:Sdx}{k:Nat}(r:Rnd x s k)(h:f s=true)
  (hg:∀t,g t=(f t && !decide (t∈orb x s k))):Fre x g (os++[orb x s k]):=by
 have ft:∀t∈orb x s k,f t=true:=fun t ht=>by obtain⟨i,_,e⟩:=Jm.mp ht;rw[← e,F.it r.is];exact h
 have fi:∀t∈orb x s k,isS x t:=fun t ht=>by obtain⟨i,_,e⟩:=Jm.mp ht;rw[← e];exact QaS r.is i
 have fl:(os++[orb x s k]).flatten=os.flatten++orb x s k:=by rw[z55];simp
 refine⟨fun t ht=>?_,?_,fun t ht=>?_,fun t ht=>?_,fun o ho=>?_⟩
 ·rw[hg,hg,F.inv t ht]
  have:decide (nxt x t∈orb x s k)=decide (t∈orb x s k):=by
   by_cases c:t∈orb x s k
   ·rw[decide_eq_true c,decide_eq_true (r.nx c)]
   ·rw[decide_eq_false c,decide_eq_false fun z=>c (r.pv ht z)]
  rw[this]
 ·rw[fl];refine z12.mpr ⟨F.nd,r.nd,fun a ha b hb e=>?_⟩;subst e;have:=(F.mem a (F.sub a ha)).mp ha;rw[ft a hb] at this;cases this
 ·rw[fl,z08,F.mem t ht,hg]
  by_cases c:t∈orb x s k
  ·simp[c]
  ·simp[c]
 ·rw[fl] at ht;rcases z08.mp ht with ht|ht
  ·exact F.sub t ht
  ·exact fi t ht
 ·rcases z08.mp ho with ho|ho
  ·exact F.rnd o ho
  ·rw[z16.mp ho];exact⟨s,k,r,rfl⟩
theorem Fre.all{os:List (List Sdx)}(F:Fre x f os)(hx:∀p,x p=true↔p∈ps)(hn:ps.Nodup)(h:∀s∈sds x ps,f s=false):os.flatten.Perm (sds x ps):=
 Qgr F.nd (Qcv hn) fun s=>⟨fun hs=>(Yd hx).mpr (F.sub s hs),fun hs=>(F.mem s ((Yd hx).mp hs)).mpr (h s hs)⟩
def edg (s:Sdx):P2×P2:=(s.1,fin s)
theorem Qc9 {t:Sdx}(h:edg s=edg t):s=t:=by
 obtain⟨a,d⟩:=s;obtain⟨b,e⟩:=t;have h1:a=b:=congrArg zg5 h;subst h1;have h2:mv a d=mv a e:=congrArg y40 h;rw[Qmw h2]
theorem Qkl(r:Rnd x s k):((orb x s k).map zg5).zip (((orb x s k).map zg5).drop 1++((orb x s k).map zg5).take 1)=(orb x s k).map edg:=by
 obtain⟨j,rfl⟩:∃j,k=j+1:=⟨k - 1,by have:=r.po;lia⟩
 have e:((orb x s (j+1)).map zg5).drop 1++((orb x s (j+1)).map zg5).take 1=(orb x s (j+1)).map fin:=by
  have h1:(orb x s (j+1)).map zg5=s.1::(z41 j).map fun i=>(it x s (i+1)).1:=by
   unfold orb;rw[zi8];simp[it,Function.comp_def]
  have h2:(orb x s (j+1)).map fin=((z41 j).map fun i=>(it x s (i+1)).1)++[s.1]:=by
   unfold orb;rw[zp2];simp only[z47,z28,zp3,z60];refine congr (congrArg _ (z80 fun i _=>?_)) ?_
   ·rfl
   ·have:fin (it x s j)=s.1:=by
     have:=congrArg zg5 r.rd;exact this
    rw[this]
  rw[h1,h2];rfl
 rw[e,List.zip_map'];rfl
theorem Qh2(r:Rnd x s k)(hi:i<k):(it x s ((i+1) % k)).1=fin (it x s i):=by
 by_cases h:i+1=k
 ·rw[h,Nat.mod_self];have:=congrArg zg5 r.rd;rw[← h] at this;exact this.symm
 ·rw[Nat.mod_eq_of_lt @0];rfl
abbrev Ed:=P2×P2
variable {es:List Ed}
def isH (c:Int)(e:Ed):Bool:=decide (e.1.1=e.2.1/\min e.1.2 e.2.2=c)
def hts (c:Int)(es:List Ed):List Int:=(es.filter (isH c)).map fun e=>e.1.1
theorem QbD{fs:List Ed}(h:es.Perm fs):(hts c es).Perm (hts c fs):=(h.filter _).map _
theorem Qgs(hx:∀p,x p=true↔p∈ps){r:Int}:r∈hts c ((sds x ps).map edg)↔x (r,c)≠x (r - 1,c):=by
 unfold hts;rw[z37]
 constructor
 ·rintro⟨e,he,rfl⟩;rw[z77,z37] at he;obtain⟨⟨s,hs,rfl⟩,hh⟩:=he;have⟨i1,i2⟩:=(Yd hx).mp hs;have⟨h1,h2⟩:=of_decide_eq_true hh;obtain⟨⟨a,b⟩,d⟩:=s;cases d
  ·have z:b=c:=by have h2:min b (b+1)=c:=h2;lia
   subst z;have i1:x (a,b)=true:=i1;have i2:x (a - 1,b)=false:=i2;show x (a,b)≠x (a - 1,b);rw[i1,i2];decide
  ·have h1:a=a+1:=h1;lia
  ·have z:b - 1=c:=by have h2:min b (b - 1)=c:=h2;lia
   subst z;have i1:x (a - 1,b - 1)=true:=i1;have i2:x (a,b - 1)=false:=i2;show x (a,b - 1)≠x (a - 1,b - 1);rw[i1,i2];decide
  ·have h1:a=a - 1:=h1;lia
 ·intro h
  cases h1:x (r,c) with
  |true=>
   cases h2:x (r - 1,c) with
   |true=>rw[h1,h2] at h;exact absurd rfl h
   |false=>
    exact⟨edg ((r,c),.e),z77.mpr ⟨z37.mpr ⟨((r,c),.e),(Yd hx).mpr ⟨h1,h2⟩,rfl⟩,decide_eq_true ⟨rfl,by show min c (c+1)=c;lia⟩⟩,rfl⟩
  |false=>
   cases h2:x (r - 1,c) with
   |false=>rw[h1,h2] at h;exact absurd rfl h
   |true=>
    refine⟨edg ((r,c+1),.w),z77.mpr ⟨z37.mpr ⟨((r,c+1),.w),(Yd hx).mpr ⟨?_,?_⟩,rfl⟩,decide_eq_true ⟨rfl,?_⟩⟩,rfl⟩
    ·show x (r - 1,c+1 - 1)=true;rw[show c+1 - 1=c by lia];exact h2
    ·show x (r,c+1 - 1)=false;rw[show c+1 - 1=c by lia];exact h1
    ·show min (c+1) (c+1 - 1)=c;lia
theorem Qa4 {α β:Type}{f:α->β}:∀{l:List α},l.Nodup->(∀a∈l,∀b∈l,f a=f b->a=b)->(l.map f).Nodup
 | [],_,_=>.nil
 |a::l,h,g=>by
  obtain⟨h1,h2⟩:=z39.mp h;rw[z28];refine z39.mpr ⟨fun z=>?_,Qa4 h2 fun a ha b hb=>g a (z07 _ ha) b (z07 _ hb)⟩;obtain⟨b,hb,e⟩:=z37.mp z;exact h1 (by rw[g a z09 b (z07 _ hb) e.symm];exact hb)
theorem QiQ(hx:∀p,x p=true↔p∈ps)(hn:ps.Nodup):(hts c ((sds x ps).map edg)).Nodup:=by
 unfold hts;refine Qa4 ((Qa4 (Qcv hn) fun a _ b _ e=>Qc9 e).filter _) fun e he e' he' h=>?_;rw[z77,z37] at he he';obtain⟨⟨s,hs,rfl⟩,hh⟩:=he;obtain⟨⟨t,ht,rfl⟩,hh'⟩:=he';have⟨i1,i2⟩:=(Yd hx).mp hs;have⟨j1,j2⟩:=(Yd hx).mp ht;have⟨h1,h2⟩:=of_decide_eq_true hh;have⟨g1,g2⟩:=of_decide_eq_true hh';obtain⟨⟨a,b⟩,d⟩:=s;obtain⟨⟨a',b'⟩,d'⟩:=t;have h:a=a':=h;subst h
 cases d<;>cases d'<;>simp only[edg,fin,mv] at h1 h2 g1 g2<;>first
  |lia
  |(have z:b=b':=by lia
    subst z;rfl)
  |(have z:b'=b+1:=by lia
    subst z;have i1:x (a,b)=true:=i1;have j2:x (a,b+1 - 1)=false:=j2
    rw[show b+1 - 1=b by lia,i1] at j2;cases j2)
  |(have z:b=b' + 1:=by lia
    subst z;have i1:x (a,b')=true:=j1;have j2:x (a,b' + 1 - 1)=false:=i2
    rw[show b' + 1 - 1=b' by lia,i1] at j2;cases j2)
def abv (hs:List Int)(r:Int):Nat:=hs.countP fun h=>decide (h<=r)
theorem Qd3 {ks:List Int}(h:hs.Perm ks)(r:Int):abv hs r=abv ks r:=h.countP_eq _
theorem Qh3(hn:hs.Nodup)(r:Int):abv hs r=abv hs (r - 1)+if r∈hs then 1 else 0:=by
 induction hs with
 |nil=>rfl
 |cons h hs ih=>
  obtain⟨h1,h2⟩:=z39.mp hn;have:=ih h2;unfold abv at *;rw[zk6,zk6,this]
  by_cases e:r=h
  ·subst e;rw[if_neg h1,if_pos z09,if_pos (decide_eq_true (Int.le_refl _)),if_neg (by simp;lia)]
  ·have m:(r∈h::hs)↔r∈hs:=by rw[z21];exact⟨fun z=>z.resolve_left e,.inr⟩
   have k:(decide (h<=r)=true)↔(decide (h<=r - 1)=true):=by rw[decide_eq_true_iff,decide_eq_true_iff];lia
   simp only[m,k];lia
theorem par {y:Int->Bool}(hn:hs.Nodup)(hm:∀r,r∈hs↔y r≠y (r - 1)){lo:Int}(hl:∀r,r<lo->y r=false):∀r,y r=decide (abv hs r % 2=1):=by
 have z:∀r,r<lo->abv hs r=0:=fun r hr=>y34.mpr fun h hh=>by
  rw[decide_eq_true_iff];intro hle;exact(hm h).mp hh (by rw[hl h @0,hl (h - 1) @0])
 have w:∀n:Nat,y (lo+n - 1)=decide (abv hs (lo+n - 1) % 2=1):=by
  intro n
  induction n with
  |zero=>rw[hl _ @0,z _ @0];rfl
  |succ n ih=>
   have e:lo+((n+1:Nat):Int) - 1 - 1=lo+n - 1:=by lia
   rw[Qh3 hn,e]
   by_cases c:lo+((n+1:Nat):Int) - 1∈hs
   ·have:=(hm _).mp c;rw[e,ih] at this;rw[if_pos c]
    by_cases d:abv hs (lo+n - 1) % 2=1
    ·rw[decide_eq_true d] at this;rw[decide_eq_false @0];simpa using this
    ·rw[decide_eq_false d] at this;rw[decide_eq_true @0];simpa using this
   ·have:y (lo+((n+1:Nat):Int) - 1)=y (lo+((n+1:Nat):Int) - 1 - 1):=zz1 fun q=>c ((hm _).mpr q);rw[if_neg c,this,e,ih];rfl
 intro r
 by_cases h:r<lo
 ·rw[hl r h,z r h];rfl
 ·have:=w (r - lo+1).toNat;rw[show lo+((r - lo+1).toNat:Int) - 1=r by lia] at this;exact this
def rgs:List Int->List Int
 |a::b::t=>((z41 (b - a).toNat).map fun i:Nat=>a+i)++rgs t
 |_=>[]
theorem Qgt {a b r:Int}:r∈((z41 (b - a).toNat).map fun i:Nat=>a+i)↔a<=r/\r<b:=by
 rw[z37]
 constructor
 ·rintro⟨i,hi,rfl⟩;have:=z70.mp hi;lia
 ·rintro⟨h1,h2⟩;exact⟨(r - a).toNat,z70.mpr @0,by lia⟩
theorem Qgu:∀(n:Nat) (hs:List Int),hs.length=2 * n->hs.Pairwise (· < ·)->∀r,r∈rgs hs↔abv hs r % 2=1
 |0,[],_,_,r=>⟨(fun h=>nomatch h),(fun h=>nomatch h)⟩
 |0,_::_,h,_,_=>by simp at h
 |n+1,[],h,_,_=>by simp at h
 |n+1,[_],h,_,_=>by simp at h;lia
 |n+1,a::b::t,h,p,r=>by
  obtain⟨p1,p2⟩:=z59.mp p;obtain⟨p3,p4⟩:=z59.mp p2;have ih:=Qgu n t (by simp at h;lia) p4 r;have ab:=p1 b z09;unfold rgs;rw[z08,Qgt,ih]
  have e:abv (a::b::t) r=abv t r+(if b<=r then 1 else 0)+(if a<=r then 1 else 0):=by
   unfold abv;rw[zk6,zk6];simp only[decide_eq_true_iff]
  rw[e]
  by_cases hb:b<=r
  ·rw[if_pos hb,if_pos @0];lia
  ·have z:abv t r=0:=y34.mpr fun q hq=>by
    have:=p3 q hq;rw[decide_eq_true_iff];lia
   rw[z,if_neg hb]
   by_cases ha:a<=r
   ·rw[if_pos ha];lia
   ·rw[if_neg ha];lia
theorem Qgv:∀(hs:List Int),hs.Pairwise (· < ·)->∀r∈rgs hs,∃h∈hs,h<=r
 | [],_,r,h=>nomatch h
 | [_],_,r,h=>nomatch h
 |a::b::t,p,r,h=>by
  unfold rgs at h;rcases z08.mp h with h|h
  ·exact⟨a,z09,(Qgt.mp h).1⟩
  ·obtain⟨q,hq,le⟩:=Qgv t (z59.mp (z59.mp p).2).2 r h;exact⟨q,z07 _ (z07 _ hq),le⟩
theorem QiR:∀(hs:List Int),hs.Pairwise (· < ·)->(rgs hs).Nodup
 | [],_=>.nil
 | [_],_=>.nil
 |a::b::t,p=>by
  obtain⟨p1,p2⟩:=z59.mp p;obtain⟨p3,p4⟩:=z59.mp p2;unfold rgs;refine z12.mpr ⟨Qa4 List.nodup_range fun i _ j _ e=>by lia,QiR t p4,fun u hu v hv e=>?_⟩;subst e;have:=Qgt.mp hu;obtain⟨q,hq,le⟩:=Qgv t p4 u hv;have:=p3 q hq;lia
theorem QmC (ps:List P2):∃lo:Int,∀p∈ps,lo<=p.1:=by
 induction ps with
 |nil=>exact⟨0,fun _ h=>nomatch h⟩
 |cons p ps ih=>
  obtain⟨lo,h⟩:=ih;refine⟨min lo p.1,fun q hq=>?_⟩;rcases z21.mp hq with rfl|hq
  ·lia
  ·have:=h q hq;lia
theorem Qkm (hs:List Int)(ps:List P2):∃hi:Int,(∀p∈ps,p.1<hi)/\∀h∈hs,h<=hi:=by
 induction ps with
 |nil=>
  induction hs with
  |nil=>exact⟨0,(fun _ h=>nomatch h),(fun _ h=>nomatch h)⟩
  |cons a hs ih=>
   obtain⟨hi,_,h⟩:=ih;refine⟨max hi a,(fun _ h=>nomatch h),fun q hq=>?_⟩;rcases z21.mp hq with rfl|hq
   ·lia
   ·have:=h q hq;lia
 |cons p ps ih=>
  obtain⟨hi,h1,h2⟩:=ih;refine⟨max hi (p.1+1),fun q hq=>?_,fun q hq=>by have:=h2 q hq;lia⟩;rcases z21.mp hq with rfl|hq
  ·lia
  ·have:=h1 q hq;lia
theorem Yw(hx:∀p,x p=true↔p∈ps)(hn:ps.Nodup)(he:es.Perm ((sds x ps).map edg))(r c:Int):x (r,c)=decide (abv @30 r % 2=1):=by
 rw[Qd3 (QbD he)];obtain⟨lo,hl⟩:=QmC ps
 exact par (y:=fun r=>x (r,c)) (QiQ hx hn) (fun r=>Qgs hx) (lo:=lo) (fun r hr=>by
  cases e:x (r,c) with
  |false=>rfl
  |true=>have:=hl _ ((hx _).mp e);exact absurd this (by show ¬ lo<=r;lia)) r
theorem Qd4(hx:∀p,x p=true↔p∈ps)(hn:ps.Nodup)(he:es.Perm ((sds x ps).map edg))(c:Int):∃n,(hts c es).length=2 * n:=by
 obtain⟨hi,h1,h2⟩:=Qkm @30 ps;have a:=Yw hx hn he hi c
 have z:x (hi,c)=false:=by
  cases e:x (hi,c) with
  |false=>rfl
  |true=>have:hi<hi:=h1 _ ((hx _).mp e);lia
 have l:abv @30 hi=(hts c es).length:=List.countP_eq_length.mpr fun q hq=>decide_eq_true (h2 q hq);rw[z,l] at a;have:=of_decide_eq_false a.symm;exact⟨(hts c es).length / 2,by lia⟩
def QbE (cs:List Int)(H:Int->List Int):List P2:=cs.flatMap fun c=>(rgs (H c)).map fun r=>(r,c)
theorem Qda {H:Int->List Int}(hH:∀c,(H c).Pairwise (· < ·)):∀{cs:List Int},cs.Nodup->(QbE cs H).Nodup
 | [],_=>.nil
 |c::cs,h=>by
  obtain⟨h1,h2⟩:=z39.mp h;unfold QbE;rw[zj5];refine z12.mpr ⟨Qa4 (QiR _ (hH c)) fun a _ b _ e=>congrArg zg5 e,Qda hH h2,fun a ha b hb e=>?_⟩;subst e;obtain⟨r,_,rfl⟩:=z37.mp ha;obtain⟨d,hd,hb⟩:=zk5.mp hb;obtain⟨r',_,e⟩:=z37.mp hb;have:d=c:=congrArg y40 e;exact h1 (this▸hd)
theorem Qkn(hx:∀p,x p=true↔p∈ps)(hn:ps.Nodup)(he:es.Perm ((sds x ps).map edg))
  {cs:List Int} {H:Int->List Int} (hc:cs.Nodup) (hm:∀c,c∈cs↔hts c es≠[]) (hH:∀c,(H c).Pairwise (· < ·)) (hp:∀c,(H c).Perm @30) :
  Jh ltP (QbE cs H)=Jh ltP ps:=by
 refine Qkf (Qda hH hc) hn fun p=>?_;obtain⟨r,c⟩:=p
 have g:r∈rgs (H c)↔(r,c)∈ps:=by
  obtain⟨n,e⟩:=Qd4 hx hn he c;rw[Qgu n _ (by rw[(hp c).length_eq];exact e) (hH c),Qd3 (hp c),← hx,Yw hx hn he r c,decide_eq_true_iff]
 rw[← g];unfold QbE;rw[zk5]
 constructor
 ·rintro⟨d,_,h⟩;obtain⟨r',h',e⟩:=z37.mp h;cases e
  exact h'
 ·intro h;refine⟨c,(hm c).mpr fun e=>?_,z37.mpr ⟨r,h,rfl⟩⟩;have:H c=[]:=List.Perm.eq_nil (e▸hp c);rw[this] at h;cases h
def Jo (s:Sdx):List Key:=Qby (edg s)
def psd (s:Sdx):D:=pp (edg s)
theorem Qaj:Qcl (psd s)=some (Jo s):=rfl
theorem QaD {t:Sdx}(h:Jo s=Jo t):s=t:=by
 obtain⟨e1,e2⟩:=(QcE (show(YD (edg s).1).length=2 from rfl) (show(YD (edg t).1).length=2 from rfl)).mp h;exact Qc9 (zo0 (Yy e1) (Yy e2))
def QmD (f:Sdx->Bool)(p:Sdx)(b:Bool):Sdx->Bool:=fun q=>if q=p then b else f q
def dcs (ks:List Sdx)(f:Sdx->Bool):D:=.nd (.dT (ks.map Jo)) (ks.map fun q=>.bl (f q))
theorem QbF{p:Sdx}:((ks.map Jo).any fun x=>decide (x=Jo p))=decide (p∈ks):=by
 by_cases h:p∈ks
 ·rw[decide_eq_true h,zo4];exact⟨Jo p,zr0 h,by simp⟩
 ·rw[decide_eq_false h,zt7];intro x hx e;obtain⟨q,hq,rfl⟩:=z37.mp hx;exact h (QaD (of_decide_eq_true e)▸hq)
theorem Qgw{p:Sdx}{b:Bool}(h:p∈ks):putD (ks.map Jo) (ks.map fun q=>D.bl (f q)) (Jo p) (.bl b)=(ks.map Jo,ks.map fun q=>D.bl (QmD f p b q)):=by
 unfold putD;rw[if_pos (by rw[QbF];exact decide_eq_true h)];refine zo0 rfl ?_;show zd2 _ _ _=_;clear h
 induction ks with
 |nil=>rfl
 |cons k ks ih=>
  rw[z28,z28,zb1,z28,ih]
  congr 1
  unfold QmD
  by_cases e:k=p
  ·rw[if_pos (by rw[e]),if_pos e]
  ·rw[if_neg fun z=>e (QaD z),if_neg e]
theorem Qgx{p:Sdx}(h:p∉ks):putD (ks.map Jo) (ks.map fun _=>D.bl true) (Jo p) (.bl true)=((ks++[p]).map Jo,(ks++[p]).map fun _=>D.bl true):=by
 unfold putD;rw[if_neg (by rw[QbF,decide_eq_false h];exact z19),z47,z47];rfl
theorem Qh4{p:Sdx}:QeM (psd p) (dcs ks f)=some (decide (p∈ks)):=by
 show(Qcl (psd p)).map (fun k=>(ks.map Jo).any fun x=>decide (x=k))=_;rw[Qaj,zf6,QbF]
theorem Qgy (ks:List Sdx)(f:Sdx->Bool):D.Jb (ks.map fun q=>D.bl (f q))=true:=J7 fun d hd=>by
 obtain⟨q,_,rfl⟩:=z37.mp hd;rfl
theorem Qgz:Qc4 (ks.map Jo)=some (ks.map edg):=by
 rw[show ks.map Jo=(ks.map edg).map Qby by rw[z60];rfl,Qcs]
end TL
namespace TL
variable {x:P2->Bool}
def isB (x:P2->Bool)(s:Sdx):Bool:=x (qd s.1 s.2) && !x (qd s.1 s.2.lf)
theorem QgA{s:Sdx}:isB x s=true↔isS x s:=by unfold isB isS;simp
def Qm8 (s:Sdx):List Sdx:=[(fin s,s.2.rt),(fin s,s.2),(fin s,s.2.lf)]
theorem QgB{s:Sdx}(h:isS x s):∃r,(Qm8 s).filter (isB x)=nxt x s::r:=by
 have k:=Qd2 h;unfold Qm8 nxt;cases e1:x (qd (fin s) s.2)<;>cases e2:x (qd (fin s) s.2.lf)<;>simp[ze9,isB,Qmx,Qmy,k.1,k.2,e1,e2,trn]
end TL
namespace TL
open PySem PySem.Spec L2 L2.Srt
variable {i:Int}
section
variable {ρ ρ1 ρ2:Rho}{kf:Fl×Rho->Prop}{a b:ME}{mt:MT}{mb:MS}{d:D}{c:Bool}
theorem Ye {r:Fr}{d:D}{os:List D}(h:FW r fun a b=>a=d/\b=os):r=.ok d os:=by obtain⟨a,b,e,rfl,rfl⟩:=h;exact e
theorem QgC {N n:Nat}(Inv:Nat->Rho->Prop)(step:∀n ρ,Inv n ρ->W (mt ρ) fun c=>(c.1=true->W (mb c.2) fun r=>r.1=.nx/\∃n',n' < n/\Inv n' r.2)/\(c.1=false->kf (.nx,c.2)))(h:Inv n ρ)(hn:n<N):W (QiB N mt mb ρ) kf:=by
 show W (whl mt mb N ρ) kf
 induction N generalizing n ρ with
 |zero=>lia
 |succ N ih=>
  obtain⟨⟨c,ρ1⟩,e,h1,h2⟩:=step n ρ h;unfold whl;rw[e];show W (if c=true then _ else _) kf
  cases c with
  |false=>rw[if_neg @2];exact Qhb.mpr (h2 rfl)
  |true=>
   rw[if_pos rfl];obtain⟨⟨f,ρ2⟩,e2,e3,n',hn',hi⟩:=h1 rfl;have e3:f=.nx:=e3;subst e3;rw[e2];exact ih hi @0
end
theorem Qpe {xs:List D}:gIx (.nd .lst xs) (.int i)=atI xs i:=rfl
theorem Qpf {xs:List D}:gIx (.nd .tup xs) (.int i)=atI xs i:=rfl
def atL (L:List (List Int))(p:Int×Int):Int:=(L.getD p.1.toNat []).getD p.2.toNat 0
structure Rc (h w:Nat)(L:List (List Int)):Prop where
 hi:L.length=h
 wi:∀r∈L,r.length=w
def inR (h w:Nat)(p:Int×Int):Prop:=0<=p.1/\p.1<h/\0<=p.2/\p.2<w
instance {h w:Nat} {p:Int×Int}:Decidable (inR h w p):=inferInstanceAs (Decidable (_/\_/\_/\_))
def rwI (r:List Int):D:=.lst (r.map .int)
def rD (L:List (List Int)):D:=.lst (L.map rwI)
theorem QmE {n:Nat}(h0:0<=i)(h1:i<n):ixN n i=some i.toNat:=by
 unfold ixN;simp only[h0,h1];simp
theorem QgD {α:Type}(f:α->D)(d:α){xs:List α}(h0:0<=i)(h1:i<xs.length):atI (xs.map f) i=some (f (xs.getD i.toNat d)):=by
 unfold atI;rw[z01,QmE h0 h1];show(xs.map f)[i.toNat]? = _;have:i.toNat<xs.length:=by lia
 rw[z17,z06 this,z25,z06 this];rfl
def arL (p:Int×Int):List @13:=[(p.1 - 1,p.2),(p.1,p.2 - 1),(p.1,p.2+1),(p.1+1,p.2)]
def okN (h w:Nat)(F:List (List Int))(p:Int×Int):Bool:=decide (inR h w p) && !decide (atL F p=0)
def nbL (h w:Nat)(F:List (List Int))(p:Int×Int):List @13:=(arL p).filter (okN h w F)
section
variable {h w:Nat}{F R R0:List (List Int)}{wt:List NP}{u v p:Int×Int}{least:Int}{dn:Int×Int->Bool}
theorem QmF (k:okN h w F p=true):inR h w p/\atL F p≠0:=by
 unfold okN at k;simpa using k
theorem Qn7 (k:v∈nbL h w F p):okN h w F v=true:=(z77.mp k).2
def Nn (h w:Nat)(F:List (List Int)):Prop:=∀p,inR h w p->0<=atL F p
structure Jv (h w:Nat)(F R0:List (List Int))(least:Int)(dn:Int×Int->Bool)(R:List (List Int))(wt:List NP):Prop where
 rc:Rc h w R
 pw:wt.Pairwise (fun a b=>QoN a b=true)
 i1:∀x∈wt,okN h w F x.2=true/\x.1<=atL R x.2
 up:∀p,inR h w p->atL R0 p<=atL R p
 i2:∀u,okN h w F u=true->least<atL R u->(atL R u,u)∈wt\/dn u=true
 d1:∀u,dn u=true->okN h w F u=true/\(∀v∈nbL h w F u,atL R u - atL F v<=atL R v)/\(∀x∈wt,x.1<=atL R u)/\(atL R u,u)∉wt
 so:∀p,inR h w p->atL R p=atL R0 p\/∃u,dn u=true/\p∈nbL h w F u/\atL R p=atL R u - atL F p
theorem Jv.fin (hF:Nn h w F)(hl:∀p,inR h w p->least<=atL R0 p)(j:Jv h w F R0 least dn R []):∀u,okN h w F u=true->∀v∈nbL h w F u,atL R u - atL F v<=atL R v:=fun u hu v hv=>by
 by_cases q:least<atL R u
 ·rcases j.i2 u hu q with hm|hd
  ·cases hm
  ·exact(j.d1 u hd).2.1 v hv
 ·have iv:=(QmF (Qn7 hv)).1;have:=j.up v iv;have:=hl v iv;have:=hF v iv;lia
end
end TL
namespace TL
open PySem PySem.Spec L2
section
variable {ρ:Rho}
theorem Qko {md my mx:ME}{ks:List (List Key)}{ds:List D}{y x d:D}{ρ:Rho}(h1:md ρ=.ok (.nd (.dT ks) ds,ρ))(h2:my ρ=.ok (y,ρ))(h3:mx ρ=.ok (x,ρ))(h4:Qm4 (ks,ds) y x=some d):QhP md my mx ρ=.ok (d,ρ):=by
 unfold QhP;have e1:Qm3 (.nd (.dT ks) ds)=some (ks,ds):=rfl;simp only[h1,h2,h3,h4,e1,Rs.bind,Rs.of,zf6]
end
end TL
namespace G74
open PySem PySem.Spec L2 TL
structure Z where
 K:z02
def top (i:Nat):Stmt:=PySem.Challenge.pw_glowcells_k74_whole_shapes_of_rims.main.body.getD i (.Pass ⟨0,0,0,0⟩)
structure Con (z:Z)(y:Y):Prop where
 enumerate:y.mg "enumerate" = none
 len:y.mg "len" = none
 QmG:y.mg "list" = none
 QoD:y.mg "min" = none
 range:y.mg "range" = none
 Qpg:y.mg "set" = none
 sorted:y.mg "sorted" = none
 tuple:y.mg "tuple" = none
 zip:y.mg "zip" = none
 dummy:True
noncomputable section
set_option hygiene false in
local macro_rules
 | `($x^^^$y)=>`(Room.mono $x @2)
 | `($x <<< $y)=>`(fnU (N:=$x) F ⟨rfl,rfl,rfl,by decide +kernel,rfl,by decide +kernel,by decide +kernel⟩ rfl @14 fun hC hr hd S hown=>$y)
 | `($x ||| $y)=>`(Qpj (N:=$x) F ⟨rfl,rfl,rfl,by decide +kernel,rfl,by decide +kernel,by decide +kernel⟩ rfl @14 fun hC hr S=>$y)
 | `($x >>> $y)=>`(fnU (N:=$x) F ⟨rfl,rfl,rfl,by decide +kernel,rfl,by decide +kernel,by decide +kernel⟩ rfl (.inr rfl) fun hC hr hd S hown=>$y)
def JS (z:Z):Dg z.K (Con z) "sides_round" (top 3)  1 ["place"] [false] .O 4 fun _ R=>R:=
 ⟨_,fun con F  => ["place","row","column","corners"] >>> (Qi (Qt (i:=1) S rfl @9 (Qx hC (xv 0) Qe))
  (Qi (Qt (i:=2) S rfl @9 (Qx hC (xv 0) Qe))
  (Qi (Qt (i:=3) S rfl @9 (QdC (Vx (Qv (Qd (xv 1) (Qd (xv 2) Qf))) (Vx (Qv (Qd (xv 1) (V4 (QS op_add YJ (xv 2) Qe) Qf))) (Vx (Qv (V4 (QS op_add YJ (xv 1) Qe) (V4 (QS op_add YJ (xv 2) Qe) Qf))) (Vx (Qv (V4 (QS op_add YJ (xv 1) Qe) (Qd (xv 2) Qf))) Qf))))))
  (Qo (QZ (Ju (Vx (Qv (Vx (Qv (V4 (QS op_sub QfG (xv 1) Qe) (Qd (xv 2) Qf))) (Vx (Qv (Qd (Qx hC (xv 3) Qe) (Qd (Qx hC (xv 3) Qe) Qf))) Qf))) (Vx (Qv (Vx (Qv (Qd (xv 1) (V4 (QS op_add YJ (xv 2) Qe) Qf))) (Vx (Qv (Qd (Qx hC (xv 3) Qe) (Qd (Qx hC (xv 3) Qe) Qf))) Qf))) (Vx (Qv (Vx (Qv (V4 (QS op_add YJ (xv 1) Qe) (Qd (xv 2) Qf))) (Vx (Qv (Qd (Qx hC (xv 3) Qe) (Qd (Qx hC (xv 3) Qe) Qf))) Qf))) (Vx (Qv (Vx (Qv (Qd (xv 1) (V4 (QS op_sub QfG (xv 2) Qe) Qf))) (Vx (Qv (Qd (Qx hC (xv 3) Qe) (Qd (Qx hC (xv 3) Qe) Qf))) Qf))) Qf))))))))))⟩
def Vv (z:Z):List D->Fr:=YX [false] 4 (JS z).1
abbrev Vw (z:Z)(y:Y):Prop:=Tf z.K y 1 "sides_round" ["place"] [false] .O (Vv z)
def Qdb (z:Z):Dg z.K (Con z) "turns" (top 6)  1 ["begin","end"] [false,false] .O 6 fun _ R=>R:=
 ⟨_,fun con F  => ["begin","end","down","along","row","column"] >>> (Qi (Qt (i:=2) S rfl @9 (QS op_sub QfG (Qx hC (xv 1) Qe) (Qx hC (xv 0) Qe)))
  (Qi (Qt (i:=3) S rfl @9 (QS op_sub QfG (Qx hC (xv 1) Qe) (Qx hC (xv 0) Qe)))
  (Qi (Qt (i:=4) S rfl @9 (Qx hC (xv 1) Qe))
  (Qi (Qt (i:=5) S rfl @9 (Qx hC (xv 1) Qe))
  (Qo (QZ (Ju (Vx (Qv (V4 (QS op_add YJ (xv 4) (xv 3)) (V4 (QS op_sub QfG (xv 5) (xv 2)) Qf))) (Vx (Qv (V4 (QS op_add YJ (xv 4) (xv 2)) (V4 (QS op_add YJ (xv 5) (xv 3)) Qf))) (Vx (Qv (V4 (QS op_sub QfG (xv 4) (xv 3)) (V4 (QS op_add YJ (xv 5) (xv 2)) Qf))) Qf))))))))))⟩
def Qdc (z:Z):List D->Fr:=YX [false,false] 6 (Qdb z).1
abbrev QgE (z:Z)(y:Y):Prop:=Tf z.K y 1 "turns" ["begin","end"] [false,false] .O (Qdc z)
def Yg (z:Z):Dg z.K (Con z) "heights_of" (top 8)  1 ["every_rim"] [false] .O 5 fun _ R=>R:=
 ⟨_,fun con F  => ["every_rim","heights","rim","begin","end"] >>> (Qi (Q0 (i:=1) S rfl @9 QhV)
  (Qi (Js hown rfl (Q3 hC (xv 0)) (pg_name (i:=2) S rfl @9) QG (Qo (Js hown rfl (Qgi con.zip hC (Qd (xv 2) (V4 (Qkd hC (Qgj hC (xv 2) (Y8 Qe) QfQ) (Qgj hC (xv 2) QfQ (Y8 Qe))) Qf))) (pg_tup rfl (pgs_cons (pg_name (i:=3) S rfl @9) (pgs_cons (pg_name (i:=4) S rfl @9) pgs_nil))) (Qas hC) (Qo (QeC (Jl (V3 (QeN hr)) (QiJ hC) (Qx hC (xv 3) Qe) (Qx hC (xv 4) Qe) (nomark _)) (Qo (Qj6 (i:=1) rfl @4 (J8 (call_min2 rfl) dI2 con.QoD Qck (Qd (Qx hC (xv 3) Qe) (Qd (Qx hC (xv 4) Qe) Qf))) (Qx hC (xv 3) Qe))) VF)))))
  (Qo (QZ (xo 1)))))⟩
def Yh (z:Z):List D->Fr:=YX [false] 5 (Yg z).1
abbrev V5 (z:Z)(y:Y):Prop:=Tf z.K y 1 "heights_of" ["every_rim"] [false] .O (Yh z)
def Q4 (z:Z):Dg z.K (Con z) "places_in_column" (top 9)  1 ["column","heights"] [false,false] .O 5 fun _ R=>R:=
 ⟨_,fun con F  => ["column","heights","places","upper","lower"] >>> (Qi (Q0 (i:=2) S rfl @9 (Ju Qf))
  (Qi (Js hown rfl (Qgi con.zip hC (Qd (Qc6 hC (xv 1) QfQ (Y8 Qe)) (Qd (Qc6 hC (xv 1) (Y8 Qe) (Y8 Qe)) Qf))) (pg_tup rfl (pgs_cons (pg_name (i:=3) S rfl @9) (pgs_cons (pg_name (i:=4) S rfl @9) pgs_nil))) (Qas hC) (Qo (QdW (i:=2) hC rfl @4 (Qa0 (JP (p:=true) (par:=false) (cs:=[.me,.fz 0]) (N:=["row","column"]) (j:=0) hC rfl Blk.of rfl rfl rfl (QjN con.range (Qd (xv 3) (Qd (xv 4) Qf))) (fun _ _ _ _ _=>Qav) (fun _ _ _ _ _=>QaP fun Cb hb=>(Qaa (Qv (Qd (xv 0) (Qd (xv 1) Qf))))))))))
  (Qo (QZ (xo 2)))))⟩
def Jw (z:Z):List D->Fr:=YX [false,false] 5 (Q4 z).1
abbrev Jx (z:Z)(y:Y):Prop:=Tf z.K y 1 "places_in_column" ["column","heights"] [false,false] .O (Jw z)
def QbG (z:Z):Dg z.K (Con z) "around" (top 11)  1 ["place"] [false] .O 3 fun _ R=>R:=
 ⟨_,fun con F  => ["place","row","column"] >>> (Qi (Qt (i:=1) S rfl @9 (Qx hC (xv 0) Qe))
  (Qi (Qt (i:=2) S rfl @9 (Qx hC (xv 0) Qe))
  (Qo (QZ (Ju (Vx (Qv (V4 (QS op_sub QfG (xv 1) Qe) (Qd (xv 2) Qf))) (Vx (Qv (Qd (xv 1) (V4 (QS op_sub QfG (xv 2) Qe) Qf))) (Vx (Qv (Qd (xv 1) (V4 (QS op_add YJ (xv 2) Qe) Qf))) (Vx (Qv (V4 (QS op_add YJ (xv 1) Qe) (Qd (xv 2) Qf))) Qf)))))))))⟩
def Qd5 (z:Z):List D->Fr:=YX [false] 3 (QbG z).1
abbrev Qd6 (z:Z)(y:Y):Prop:=Tf z.K y 1 "around" ["place"] [false] .O (Qd5 z)
def Va (z:Z):Dg z.K (Con z) "places_of" (top 12)  1 ["rows"] [false] .O 4 fun _ R=>R:=
 ⟨_,fun con F  => ["rows","places","number","row"] >>> (Qi (Q0 (i:=1) S rfl @9 (Ju Qf))
  (Qi (Js hown rfl (QjI con.enumerate hC (Qd (xv 0) Qf)) (pg_tup rfl (pgs_cons (pg_name (i:=2) S rfl (z57 rfl)) (pgs_cons (pg_name (i:=3) S rfl @9) pgs_nil))) (Qas hC) (Qo (QdW (i:=1) hC rfl @4 (Qa0 (JP (p:=true) (par:=false) (cs:=[.me,.fz 2]) (N:=["column","number"]) (j:=0) hC rfl Blk.of rfl rfl rfl (Y7 con.range (Qd (J8 call_len (QkT hC) con.len zj3 (Qd (xv 3) Qf)) Qf)) (fun _ _ _ _ _=>Qav) (fun _ _ _ _ _=>QaP fun Cb hb=>(Qaa (Qv (Qd (xv 1) (Qd (xv 0) Qf))))))))))
  (Qo (QZ (xo 1)))))⟩
def Vb (z:Z):List D->Fr:=YX [false] 4 (Va z).1
abbrev QaE (z:Z)(y:Y):Prop:=Tf z.K y 1 "places_of" ["rows"] [false] .O (Vb z)
def Vc (z:Z):Dg z.K (Con z) "number_at" (top 14)  1 ["rows","place"] [false,false] .V 2 fun _ R=>R:=
 ⟨_,fun con F  => ["rows","place"] <<< (Qo (QZ (Qx hC (Qx hC (xv 0) (Qx hC (xv 1) Qe)) (Qx hC (xv 1) Qe))))⟩
def Jp (z:Z):List D->Fr:=YX [false,false] 2 (Vc z).1
abbrev QaF (z:Z)(y:Y):Prop:=Tf z.K y 1 "number_at" ["rows","place"] [false,false] .V (Jp z)
def JT (z:Z):Dg z.K (Con z) "_law_cell" (top 20)  1 ["_law_script","_law_k"] [false,false] .V 2 fun _ R=>R:=
 ⟨_,fun con F  => ["_law_script","_law_k"] <<< (Qo (QZ (Qno (Jl op_lt dLt (xv 1) (J8 call_len (QkT hC) con.len zj3 (Qd (xv 0) Qf)) (nomark _)) (Qx hC (xv 0) (xv 1)) Qe)))⟩
def QaG (z:Z):List D->Fr:=YX [false,false] 2 (JT z).1
abbrev QaH (z:Z)(y:Y):Prop:=Tf z.K y 1 "_law_cell" ["_law_script","_law_k"] [false,false] .V (QaG z)
def Vd (z:Z):Dg z.K (Con z) "_law_rich" (top 21)  1 ["_law_cell_here"] [false] .V 4 fun _ R=>R:=
 ⟨_,fun con F  => ["_law_cell_here","_law_number","_law_k","_law_mixed"] <<< (Qi (Qt (i:=1) S rfl @9 Qe)
  (Qi (Js hown rfl (Y7 con.range (Qmf Qe Qf)) (pg_name (i:=2) S rfl @9) QG (Qi (Qt (i:=3) S rfl @9 (QS op_mod QiE (QS op_add YJ (QS op_add YJ (QS op_add YJ (QS op_mul QiD (QS op_mod QiE (xv 0) Qe) Qe) (QS op_mul QiD (QS op_mul QiD (xv 2) (xv 2)) Qe)) (QS op_mul QiD Qe (xv 2))) Qe) Qe))
  (Qo (Qt (i:=1) S rfl @9 (QS op_add YJ (QS op_mul QiD (xv 1) Qe) (QS op_mod QiE (QS op_add YJ (QS op_add YJ (QS op_mul QiD (xv 3) (xv 3)) (QS op_mul QiD Qe (xv 3))) (xv 2)) Qe))))))
  (Qo (QZ (xv 1)))))⟩
def JV (z:Z):List D->Fr:=YX [false] 4 (Vd z).1
abbrev Ve (z:Z)(y:Y):Prop:=Tf z.K y 1 "_law_rich" ["_law_cell_here"] [false] .V (JV z)
def Yi (z:Z):Dg z.K (Con z) "_law_above" (top 25)  1 ["_law_rims_told","_law_r","_law_c"] [false,false,false] .V 8 fun _ R=>R:=
 ⟨_,fun con F  => ["_law_rims_told","_law_r","_law_c","_law_many","_law_rim","_law_k","_law_one","_law_other"] <<< (Qi (Qt (i:=3) S rfl @9 Qe)
  (Qi (Js hown rfl (Q3 hC (xv 0)) (pg_name (i:=4) S rfl @9) QG (Qo (Js hown rfl (Y7 con.range (Qd (J8 call_len (QkT hC) con.len zj3 (Qd (xv 4) Qf)) Qf)) (pg_name (i:=5) S rfl @9) QG (Qi (Qt (i:=6) S rfl @9 (Qx hC (xv 4) (xv 5)))
  (Qi (Qt (i:=7) S rfl @9 (Qx hC (xv 4) (QS op_mod QiE (QS op_add YJ (xv 5) Qe) (J8 call_len (QkT hC) con.len zj3 (Qd (xv 4) Qf)))))
  (Qo (QeC (PW.pt (Qfl (Jl (V3 (QeN hr)) (QiJ hC) (Qx hC (xv 6) Qe) (Qx hC (xv 7) Qe) (nomark _)) (Qfl (Jl op_le dLe (Qx hC (xv 6) Qe) (xv 1) (nomark _)) (Qlq (Jl (V3 (QeN hr)) (QiJ hC) (J8 (call_min2 rfl) dI2 con.QoD Qck (Qd (Qx hC (xv 6) Qe) (Qd (Qx hC (xv 7) Qe) Qf))) (xv 2) (nomark _)))))) (Qo (Qt (i:=3) S rfl @9 (QS op_add YJ (xv 3) Qe))) VF)))))))
  (Qo (QZ (xv 3)))))⟩
def Jg (z:Z):List D->Fr:=YX [false,false,false] 8 (Yi z).1
abbrev V6 (z:Z)(y:Y):Prop:=Tf z.K y 1 "_law_above" ["_law_rims_told","_law_r","_law_c"] [false,false,false] .V (Jg z)
def Yj (z:Z):Dg z.K (Con z) "_law_apart" (top 27)  1 ["_law_told"] [false] .V 7 fun _ R=>R:=
 ⟨_,fun con F  => ["_law_told","_law_k","_law_others","_law_other","_law_place","_law_r","_law_c"] <<< (Qi (Js hown rfl (Y7 con.range (Qd (J8 call_len (QkT hC) con.len zj3 (Qd (xv 0) Qf)) Qf)) (pg_name (i:=1) S rfl @9) QG (Qi (Q0 (i:=2) S rfl (z57 rfl) Qbr)
  (Qi (Js hown rfl (Q3 hC (Qgj hC (xv 0) QfQ (Y8 (xv 1)))) (pg_name (i:=3) S rfl @9) QG (Qo (Js hown rfl (Q3 hC (xv 3)) (pg_name (i:=4) S rfl @9) QG (Qo (Qaw (i:=2) (hu_of hr) rfl @4 V9 (xv 4))))))
  (Qo (Js hown rfl (Q3 hC (Qx hC (xv 0) (xv 1))) (pg_tup rfl (pgs_cons (pg_name (i:=5) S rfl @9) (pgs_cons (pg_name (i:=6) S rfl @9) pgs_nil))) (Qas hC) (Qo (QeC (Jl (QdK (QeN hr)) (Qm2 hC) (Qa0 (JP (p:=false) (par:=false) (cs:=[.me,.io 2]) (N:=["_law_one","_law_others"]) (j:=0) hC rfl Blk.of rfl rfl rfl (Q3 hC (QdC (Vx (Qv (V4 (QS op_sub QfG (xv 5) Qe) (Qd (xv 6) Qf))) (Vx (Qv (Qd (xv 5) (V4 (QS op_sub QfG (xv 6) Qe) Qf))) (Vx (Qv (Qd (xv 5) (V4 (QS op_add YJ (xv 6) Qe) Qf))) (Vx (Qv (V4 (QS op_add YJ (xv 5) Qe) (Qd (xv 6) Qf))) (Vx (Qv (Qd (xv 5) (Qd (xv 6) Qf))) Qf))))))) (fun _ _ _ _ _=>QfF fun Cb hb=>(QiI (hu_of hr) (xv 0) (xb 1))) (fun _ _ _ _ _=>QaP fun Cb hb=>(Qaa (xv 0))))) (QdC Qf) (nomark _)) (Qo (QZ V9)) VF)))))))
  (Qo (QZ V9)))⟩
def Yk (z:Z):List D->Fr:=YX [false] 7 (Yj z).1
abbrev V7 (z:Z)(y:Y):Prop:=Tf z.K y 1 "_law_apart" ["_law_told"] [false] .V (Yk z)
def VM (z:Z):Dg z.K (Con z) "sides_of" (top 2)  2 ["shape"] [false] .O 6 fun y R=>Vw z y->R:=
 ⟨_,fun con F JW=>["shape","cells","place","free","near","side"] >>> (Qi (Q0 (i:=1) S rfl @9 Qbr)
  (Qi (Js hown rfl (Q3 hC (xv 0)) (pg_name (i:=2) S rfl @9) QG (Qo (Qaw (i:=1) (hu_of hr) rfl @4 V9 (QdD con.tuple hC (Qd (xv 2) Qf)))))
  (Qi (Q0 (i:=3) S rfl @9 Qbr)
  (Qi (Js hown rfl (Qj2 (i:=1) rfl @4) (pg_name (i:=2) S rfl @9) QG (Qo (Js hown rfl (Q3 hC (Qa0 (QcC (par:=false) (as:=[none]) (p:=true) (spk JW hC) Qs @27 (Qd (xv 2) Qf)))) (pg_tup rfl (pgs_cons (pg_name (i:=4) S rfl @9) (pgs_cons (pg_name (i:=5) S rfl @9) pgs_nil))) (Qas hC) (Qo (QeC (QfS (hu_of hr) (xv 4) (xb 1)) (Qo (Qaw (i:=3) (hu_of hr) rfl @4 V9 (xv 5))) VF)))))
  (Qo (QZ (xo 3)))))))⟩
def Qa5 (z:Z):List D->Fr:=YX [false] 6 (VM z).1
abbrev Qa6 (z:Z)(y:Y):Prop:=Tf z.K y 2 "sides_of" ["shape"] [false] .O (Qa5 z)
def Vf (z:Z):Dg z.K (Con z) "next_side" (top 5)  2 ["sides","side"] [false,false] .V 3 fun y R=>QgE z y->R:=
 ⟨_,fun con F Qdd=>["sides","side","corner"] <<< (Qi (Qt (i:=2) S rfl (z57 rfl) (Qx hC (xv 1) Qe))
  (Qo (QZ (Qx hC (Qa0 (JP (p:=true) (par:=false) (cs:=[.me,.fz 2,.fz 0]) (N:=["end","corner","sides"]) (j:=0) hC rfl Blk.of rfl rfl rfl (Q3 hC (Qa0 (QcC (par:=false) (as:=[none,none]) (p:=true) (spk Qdd hC) Qs @27 (Qd (Qx hC (xv 1) Qe) (Qd (xv 2) Qf))))) (fun _ _ _ _ _=>QfF fun Cb hb=>(QiI (hu_of hr) (Qv (Qd (xv 1) (Qd (xv 0) Qf))) (xv 2))) (fun _ _ _ _ _=>QaP fun Cb hb=>(Qaa (Qv (Qd (xv 1) (Qd (xv 0) Qf))))))) Qe))))⟩
def QaI (z:Z):List D->Fr:=YX [false,false] 3 (Vf z).1
abbrev QaJ (z:Z)(y:Y):Prop:=Tf z.K y 2 "next_side" ["sides","side"] [false,false] .V (QaI z)
def QbH (z:Z):Dg z.K (Con z) "inside" (top 7)  2 ["rims"] [false] .O 4 fun y R=>V5 z y->Jx z y->R:=
 ⟨_,fun con F Yl Q5=>["rims","heights","places","column"] >>> (Qi (Q0 (i:=1) S rfl @9 (JH (spk Yl hC) Qs @27 (Qd (xv 0) Qf)))
  (Qi (Q0 (i:=2) S rfl @9 (Ju Qf))
  (Qi (Js hown rfl (QhU (i:=1) rfl @4) (pg_name (i:=3) S rfl @9) QG (Qo (QdW (i:=2) hC rfl @4 (Qa0 (JH (spk Q5 hC) Qs @27 (Qd (xv 3) (Qd (Qa0 (QhX hC con.sorted QT (Qd (QhN (hu_of hr) (xb 1) (xv 3)) Qf))) Qf)))))))
  (Qo (QZ (Qbx (hu3 hr) hC con.sorted QT (Qd (xb 2) Qf)))))))⟩
def QbI (z:Z):List D->Fr:=YX [false] 4 (QbH z).1
abbrev Qd7 (z:Z)(y:Y):Prop:=Tf z.K y 2 "inside" ["rims"] [false] .O (QbI z)
def QbJ (z:Z):Dg z.K (Con z) "bright" (top 16)  2 ["rows","least"] [false,false] .O 2 fun y R=>QaE z y->QaF z y->R:=
 ⟨_,fun con F Vg Vh=>["rows","least"] >>> (Qo (QZ (JP (p:=true) (par:=false) (cs:=[.me,.fz 0,.fz 1]) (N:=["place","rows","least"]) (j:=0) hC rfl Blk.of rfl rfl rfl (Q3 hC (Qa0 (JH (spk Vg hC) Qs @27 (Qd (xv 0) Qf)))) (fun _ _ _ _ _=>QfF fun Cb hb=>(Jl op_ge dGe (JH (spk Vh hb) Qs @27 (Qd (xv 1) (Qd (xv 0) Qf))) (xv 2) (nomark _))) (fun _ _ _ _ _=>QaP fun Cb hb=>(Qaa (xv 0))))))⟩
def Qd8 (z:Z):List D->Fr:=YX [false,false] 2 (QbJ z).1
abbrev Qd9 (z:Z)(y:Y):Prop:=Tf z.K y 2 "bright" ["rows","least"] [false,false] .O (Qd8 z)
def Ym (z:Z):Dg z.K (Con z) "take_shape" (top 18)  2 ["free","first"] [true,false] .O 5 fun y R=>Qd6 z y->R:=
 ⟨_,fun con F QbK=>["free","first","found","done","near"] >>> (Qi (Qaw (i:=0) (hu_of hr) rfl @4 V9 (xv 1))
  (Qi (Q0 (i:=2) S rfl @9 (Ju (Qd (xv 1) Qf)))
  (Qi (Qt (i:=3) S rfl @9 Qe)
  (Qi (Qfs (n:=1000000) hown (Jl op_lt dLt (xv 3) (J8 call_len (QkT hC) con.len zj3 (Qd (xb 2) Qf)) (nomark _)) (Qi (Js hown rfl (Q3 hC (Qa0 (JH (spk QbK hC) Qs @27 (Qd (QeA hC (xb 2) (xv 3)) Qf)))) (pg_name (i:=4) S rfl @9) QG (Qo (QeC (QdB (QjX (hu_of hr) (xb 0) (xv 4) V9)) (Qi (Qaw (i:=0) (hu_of hr) rfl @4 V9 (xv 4))
  (Qo (QfN (i:=2) hC rfl @4 (Qaa (xv 4))))) VF)))
  (Qo (QnU (i:=3) S rfl @9))))
  (Qo (QZ (Qbx (hu3 hr) hC con.sorted QT (Qd (xb 2) Qf))))))))⟩
def Jy (z:Z):List D->Fr:=YX [true,false] 5 (Ym z).1
abbrev V8 (z:Z)(y:Y):Prop:=Tf z.K y 2 "take_shape" ["free","first"] [true,false] .O (Jy z)
def Yn (z:Z):Dg z.K (Con z) "_law_purse" (top 22)  2 ["_law_script","_law_k"] [false,false] .O 3 fun y R=>QaH z y->Ve z y->R:=
 ⟨_,fun con F Vi Ja=>["_law_script","_law_k","_law_cell_here"] >>> (Qi (Qt (i:=2) S rfl @9 (JH (spk Vi hC) Qs @27 (Qd (xv 0) (Qd (xv 1) Qf))))
  (Qi (QeC (Jl op_lt dLt (xv 2) (QS op_pow QoY Qe Qe) (nomark _)) (Qo (QZ (Ju (Qd (JH (spk Ja hC) Qs @27 (V4 (QS op_add YJ (xv 2) (QS op_mul QiD Qe (xv 1))) Qf)) (Qd (xv 1) Qf))))) VF)
  (Qo (QZ (Ju (Qd (xv 2) (Qd (xv 1) Qf)))))))⟩
def Yo (z:Z):List D->Fr:=YX [false,false] 3 (Yn z).1
abbrev Yp (z:Z)(y:Y):Prop:=Tf z.K y 2 "_law_purse" ["_law_script","_law_k"] [false,false] .O (Yo z)
def Vj (z:Z):Dg z.K (Con z) "_law_take" (top 23)  2 ["_law_purse_here","_law_many"] [true,false] .V 3 fun y R=>Ve z y->R:=
 ⟨_,fun con F Ja=>["_law_purse_here","_law_many","_law_found"] <<< (Qi (QeC (Jl (V3 (QeN hr)) (QiJ hC) (QeA hC (xb 0) Qe) Qe (nomark _)) (Qi (QcX (i:=0) hC rfl @4 (Qaa (QS op_add YJ (QeA hC (xb 0) Qe) Qe)) Qe (hg:=pg_sub (pv 0) Qe set_list))
  (Qo (QcX (i:=0) hC rfl @4 (Qaa (JH (spk Ja hC) Qs @27 (Qd (QeA hC (xb 0) Qe) Qf))) Qe (hg:=pg_sub (pv 0) Qe set_list)))) VF)
  (Qi (Qt (i:=2) S rfl @9 (QS op_mod QiE (QeA hC (xb 0) Qe) (xv 1)))
  (Qi (QcX (i:=0) hC rfl @4 (Qaa (QS Qhg QoX (QeA hC (xb 0) Qe) (xv 1))) Qe (hg:=pg_sub (pv 0) Qe set_list))
  (Qo (QZ (xv 2))))))⟩
def Qp (z:Z):List D->Fr:=YX [true,false] 3 (Vj z).1
abbrev JX (z:Z)(y:Y):Prop:=Tf z.K y 2 "_law_take" ["_law_purse_here","_law_many"] [true,false] .V (Qp z)
def VN (z:Z):Dg z.K (Con z) "take_rim" (top 4)  3 ["free","first"] [true,false] .O 4 fun y R=>QaJ z y->R:=
 ⟨_,fun con F Vk=>["free","first","rim","side"] >>> (Qi (Q0 (i:=2) S rfl @9 (Ju Qf))
  (Qi (Qt (i:=3) S rfl @9 (xv 1))
  (Qi (Qfs (n:=1000000) hown (QdB (QhN (hu_of hr) (xb 0) (xv 3))) (Qi (Qaw (i:=0) (hu_of hr) rfl @4 V9 (xv 3))
  (Qi (QfN (i:=2) hC rfl @4 (Qaa (Qx hC (xv 3) Qe)))
  (Qo (Qt (i:=3) S rfl @9 (JH (spk Vk hC) Qs @27 (Qd (xb 0) (Qd (xv 3) Qf))))))))
  (Qo (QZ (xo 2))))))⟩
def JL (z:Z):List D->Fr:=YX [true,false] 4 (VN z).1
abbrev Qa7 (z:Z)(y:Y):Prop:=Tf z.K y 3 "take_rim" ["free","first"] [true,false] .O (JL z)
def QbL (z:Z):Dg z.K (Con z) "shapes" (top 17)  3 ["places"] [false] .O 5 fun y R=>V8 z y->R:=
 ⟨_,fun con F Yq=>["places","ordered","free","place","told"] >>> (Qi (Qt (i:=1) S rfl @9 (Qa0 (QhQ rfl (hu8 hr) hC con.sorted QT con.Qpg L2.boot_set (Qd (Qa0 (JP (p:=true) (par:=false) (cs:=[.me]) (N:=["place"]) (j:=0) hC rfl Blk.of rfl rfl rfl (Q3 hC (xv 0)) (fun _ _ _ _ _=>Qav) (fun _ _ _ _ _=>QaP fun Cb hb=>(Qaa (QdD con.tuple hb (Qd (xv 0) Qf)))))) Qf))))
  (Qi (Q0 (i:=2) S rfl @9 Qbr)
  (Qi (Js hown rfl (Q3 hC (xv 1)) (pg_name (i:=3) S rfl @9) QG (Qo (Qaw (i:=2) (hu_of hr) rfl @4 V9 (xv 3))))
  (Qi (Q0 (i:=4) S rfl @9 (Ju Qf))
  (Qi (Js hown rfl (Q3 hC (xv 1)) (pg_name (i:=3) S rfl @9) QG (Qo (QeC (QdB (QhN (hu_of hr) (xb 2) (xv 3))) (Qo (QfN (i:=4) hC rfl @4 (QcC (par:=false) (as:=[some 2,none]) (p:=false) (spk Yq hC) Qs @27 (Qd (xs 2) (Qd (xv 3) Qf))))) VF)))
  (Qo (QZ (xo 4))))))))⟩
def Qea (z:Z):List D->Fr:=YX [false] 5 (QbL z).1
abbrev Qeb (z:Z)(y:Y):Prop:=Tf z.K y 3 "shapes" ["places"] [false] .O (Qea z)
def Vl (z:Z):Dg z.K (Con z) "_law_size" (top 24)  3 ["_law_purse_here"] [true] .V 1 fun y R=>JX z y->R:=
 ⟨_,fun con F Qn=>["_law_purse_here"] <<< (Qi (QeC (Jl (V3 (QeN hr)) (QiJ hC) (QcC (par:=true) (as:=[some 0,none]) (p:=false) (spk Qn hC) Qs @27 (Qd (xs 0) (Qd Qe Qf))) Qe (nomark _)) (Qo (QZ (QS op_add YJ Qe (QcC (par:=true) (as:=[some 0,none]) (p:=false) (spk Qn hC) Qs @27 (Qd (xs 0) (Qd Qe Qf)))))) VF)
  (Qo (QZ (QS op_add YJ Qe (QcC (par:=true) (as:=[some 0,none]) (p:=false) (spk Qn hC) Qs @27 (Qd (xs 0) (Qd Qe Qf)))))))⟩
def Jq (z:Z):List D->Fr:=YX [true] 1 (Vl z).1
abbrev QaK (z:Z)(y:Y):Prop:=Tf z.K y 3 "_law_size" ["_law_purse_here"] [true] .V (Jq z)
def QgF (z:Z):Dg z.K (Con z) "rims" (top 1)  4 ["shape"] [false] .O 4 fun y R=>Qa6 z y->Qa7 z y->R:=
 ⟨_,fun con F VP VR=>["shape","free","told","side"] >>> (Qi (Q0 (i:=1) S rfl @9 (JH (spk VP hC) Qs @27 (Qd (xv 0) Qf)))
  (Qi (Q0 (i:=2) S rfl @9 (Ju Qf))
  (Qi (Js hown rfl (Q3 hC (Qa0 (QhT rfl (hu3 hr) con.sorted QT (Qd (xb 1) Qf)))) (pg_name (i:=3) S rfl @9) QG (Qo (QeC (QdB (QhN (hu_of hr) (xb 1) (xv 3))) (Qo (QfN (i:=2) hC rfl @4 (QcC (par:=false) (as:=[some 1,none]) (p:=false) (spk VR hC) Qs @27 (Qd (xs 1) (Qd (xv 3) Qf))))) VF)))
  (Qo (QZ (xo 2))))))⟩
def Qcw (z:Z):List D->Fr:=YX [false] 4 (QgF z).1
abbrev QiS (z:Z)(y:Y):Prop:=Tf z.K y 4 "rims" ["shape"] [false] .O (Qcw z)
def Vm (z:Z):Dg z.K (Con z) "_law_rows" (top 26)  4 ["_law_script","_law_way"] [false,false] .O 8 fun y R=>Yp z y->JX z y->QaK z y->R:=
 ⟨_,fun con F QJ Qn JZ=>["_law_script","_law_way","_law_head","_law_high","_law_wide","_law_rows_here","_law_r","_law_purse_here"] >>> (Qi (Q0 (i:=2) S rfl @9 (JH (spk QJ hC) Qs @27 (Qd (xv 0) (Qmf Qe Qf))))
  (Qi (Qt (i:=3) S rfl @9 (QS op_add YJ Qe (QS op_mod QiE (QcC (par:=false) (as:=[some 2]) (p:=false) (spk JZ hC) Qs @27 (Qd (xs 2) Qf)) Qe)))
  (Qi (Qt (i:=4) S rfl @9 (QS op_add YJ Qe (QS op_mod QiE (QcC (par:=false) (as:=[some 2]) (p:=false) (spk JZ hC) Qs @27 (Qd (xs 2) Qf)) Qe)))
  (Qi (Q0 (i:=5) S rfl @9 (Ju Qf))
  (Qi (Js hown rfl (Y7 con.range (Qd (xv 3) Qf)) (pg_name (i:=6) S rfl @9) QG (Qi (Q0 (i:=7) S rfl (z57 rfl) (JH (spk QJ hC) Qs @27 (Qd (xv 0) (V4 (QS op_add YJ Qe (xv 6)) Qf))))
  (Qo (QfN (i:=5) hC rfl @4 (JP (p:=false) (par:=false) (cs:=[.me,.io 7,.fz 1]) (N:=["_law_c","_law_purse_here","_law_way"]) (j:=0) hC rfl Blk.of rfl rfl rfl (Y7 con.range (Qd (xv 4) Qf)) (fun _ _ _ _ _=>Qav) (fun _ _ _ _ _=>QaP fun Cb hb=>(Qaa (QcC (par:=true) (as:=[some 1,none]) (p:=false) (spk Qn hb) Qs @27 (Qd (xs 1) (Qd (QS op_add YJ Qe (xv 2)) Qf))))))))))
  (Qo (QZ (xo 5))))))))⟩
def QaL (z:Z):List D->Fr:=YX [false,false] 8 (Vm z).1
abbrev QaM (z:Z)(y:Y):Prop:=Tf z.K y 4 "_law_rows" ["_law_script","_law_way"] [false,false] .O (QaL z)
def Qkp (z:Z):Dg z.K (Con z) "law" (top 28)  5 ["_law_script"] [false] .V 14 fun y R=>V6 z y->V7 z y->Qd7 z y->Qd9 z y->Yp z y->JX z y->Qeb z y->QiS z y->QaM z y->R:=
 ⟨_,fun con F Yr Ys QbM QbN QJ Qn QbO QgG Vn=>["_law_script","_law_purse_here","_law_rows_here","_law_places","_law_told","_law_all_places","_law_shape","_law_rims_told","_law_copy","_law_handed","_law_corner","_law_k","_law_r","_law_c"] <<< (Qi (Q0 (i:=1) S rfl @9 (JH (spk QJ hC) Qs @27 (Qd (xv 0) (Qmf Qe Qf))))
  (Qi (Qt (i:=2) S rfl @9 (Qa0 (JH (spk Vn hC) Qs @27 (Qd (xv 0) (Qd (QcC (par:=false) (as:=[some 1,none]) (p:=false) (spk Qn hC) Qs @27 (Qd (xs 1) (Qd Qe Qf))) Qf)))))
  (Qi (Qt (i:=3) S rfl @9 (Qa0 (JH (spk QbN hC) Qs @27 (Qd (xv 2) (V4 (QS op_add YJ Qe (QcC (par:=false) (as:=[some 1,none]) (p:=false) (spk Qn hC) Qs @27 (Qd (xs 1) (Qd Qe Qf)))) Qf)))))
  (Qi (Qt (i:=4) S rfl @9 (Qa0 (JH (spk QbO hC) Qs @27 (Qd (xv 3) Qf))))
  (Qi (Q0 (i:=5) S rfl @9 (Ju Qf))
  (Qi (Js hown rfl (Q3 hC (xv 4)) (pg_name (i:=6) S rfl @9) QG (Qi (QdW (i:=5) hC rfl @4 (xv 6))
  (Qi (Qt (i:=7) S rfl @9 (Qa0 (JH (spk QgG hC) Qs @27 (Qd (xv 6) Qf))))
  (Qi (QjO (i0:=8) (par:=false) (cs:=[.me]) (N:=["_law_rim"]) (j:=0) hC rfl S rfl @9 Blk.of rfl rfl rfl (Q3 hC (xv 7)) (fun _ _ _ _ _=>Qav) (fun _ _ _ _ _=>QaP fun Cb hb=>(Qfn (x := "") con.QmG hb (Qd (xv 0) Qf))))
  (Qi (Qt (i:=9) S rfl @9 (Qc6 hC (xv 7) QfQ (Y8 (Qx hC (QdC (Qmf Qe (Qo4 (QlF Qe) Qf))) (QcC (par:=false) (as:=[some 1,none]) (p:=false) (spk Qn hC) Qs @27 (Qd (xs 1) (Qd Qe Qf)))))))
  (Qi (QeC (Jl (V3 (QeN hr)) (QiJ hC) (QcC (par:=false) (as:=[some 1,none]) (p:=false) (spk Qn hC) Qs @27 (Qd (xs 1) (Qd Qe Qf))) Qe (nomark _)) (Qo (Qt (i:=9) S rfl @9 (Qa0 (Qgk con.tuple hC (JP (p:=true) (par:=false) (cs:=[.me]) (N:=["_law_rim"]) (j:=0) hC rfl Blk.of rfl rfl rfl (Q3 hC (xv 9)) (fun _ _ _ _ _=>Qav) (fun _ _ _ _ _=>QaP fun Cb hb=>(Qgk con.tuple hb (JP (p:=true) (par:=false) (cs:=[.me]) (N:=["_law_corner"]) (j:=0) hb rfl Blk.of rfl rfl rfl (Q3 hb (xv 0)) (fun _ _ _ _ _=>Qav) (fun _ _ _ _ _=>QaP fun Cb hb=>(Qfn (x := "") con.QmG hb (Qd (xv 0) Qf))))))))))) VF)
  (Qi (QeC (PW.pt (Qlp (Jl (QdK (QeN hr)) (Qm2 hC) (Qa0 (JH (spk QbM hC) Qs @27 (Qd (xv 9) Qf))) (xv 6) (nomark _)) (Qlq (Jl (QdK (QeN hr)) (Qm2 hC) (xv 7) (xv 8) (nomark _))))) (Qo (QZ V9)) VF)
  (Qi (Qt (i:=10) S rfl @9 (Qx hC (Qx hC (xv 7) Qe) Qe))
  (Qo (Js hown rfl (Y7 con.range (Qmf Qe Qf)) (pg_name (i:=11) S rfl @9) QG (Qi (Qt (i:=12) S rfl @9 (QS op_add YJ (Qx hC (xv 10) Qe) (QcC (par:=false) (as:=[some 1,none]) (p:=false) (spk Qn hC) Qs @27 (Qd (xs 1) (Qd Qe Qf)))))
  (Qi (Qt (i:=13) S rfl @9 (QS op_sub QfG (QS op_add YJ (Qx hC (xv 10) Qe) (QcC (par:=false) (as:=[some 1,none]) (p:=false) (spk Qn hC) Qs @27 (Qd (xs 1) (Qd Qe Qf)))) Qe))
  (Qo (QeC (Jl (QdK (QeN hr)) (Qm2 hC) (Qjv (QlE (QoZ hr)) (Qo0 hC) (Qv (Qd (xv 12) (Qd (xv 13) Qf))) (xv 6) rfl) (Qjv (V3 (QeN hr)) (QiJ hC) (QS op_mod QiE (JH (spk Yr hC) Qs @27 (Qd (xv 7) (Qd (xv 12) (Qd (xv 13) Qf)))) Qe) Qe (nomark _)) (nomark _)) (Qo (QZ V9)) VF))))))))))))))
  (Qo (QZ (Qnn (Qjv (V3 (QeN hr)) (QiJ hC) (Qa0 (Qbx (hu3 hr) hC con.sorted QT (Qd (xb 5) Qf))) (xv 3) (nomark _)) (Qnm (JH (spk Ys hC) Qs @27 (Qd (xv 4) Qf))))))))))))⟩
def QmH (z:Z):List D->Fr:=YX [false] 14 (Qkp z).1
end
end G74
open PySem PySem.Spec L2 L2.Srt TL
local macro_rules
 | `(~~~$x)=>`(some (TL.Sl.frz $x))
local macro_rules
 | `(tactic| simp? only[$xs,*])=>`(tactic| simp only[w_S,QlQ,QlO,w_V,QlP,w_B,w_C,QnH,w_I,QlR,Qo1,QnI,QlS,QnK,QlU,QlV,QlW,QjQ,QlX,QnL,QlY,QnM,QlZ,Ql0,Ql1,Ql2,Ql3,QnN,Ql4,QnO,Ql5,Qo2,Ql6,Ql7,QjR,Ql8,QjS,Qhb,QB,QnG,YF,Qbq,mkS,asI,Qpe,Qpf,atI,ixN,QdI,TL.gSub,Qov,Qow,QhI,Qox,gLt,gI0,gIc,VL,QlC,slot0,zb1,List.zipWith_nil_right,zd4,List.cons_append,zx0,z50,z31,zi2,List.getElem?_cons_zero,zi3,List.set_cons_zero,List.set_cons_succ,zf6,z72,Nat.reduceAdd,Nat.reduceSub,z35,if_true,if_false,Nat.reduceLT,Nat.reduceLeDiff,Int.reduceLT,Int.reduceLE,Int.toNat_zero,Int.reduceToNat,Int.toNat_one,Int.cast_ofNat_Int,outs,D.imm,D.Jb,Bool.and_true,Tag.mut,zq7,decide_eq_true_eq,Int.reduceNeg,z67,z96,decide_true,decide_false,QjU,QnR,Qmc,Qmd,Qmb,QnJ,QlT,$xs,*])
namespace G74
open PySem PySem.Spec L2 L2.Srt TL
variable {m mk:ME}{ρ ρ1 ρ2:Rho}{k:Fl×Rho->Prop}{n i:Nat}{d:D}{p q:P2}{s:Sdx}{x f0:P2->Bool}{b bb:Bool}{cs ns:List Int}{ks S ps l:List P2}{f:Sdx->Bool}{ds:List D}{a:List (List P2)×List P2}{os:List (List Sdx)}{es:List Ed}{c:Int}{e:Ed}{α:Type}{s8 s9 s11 s12 s13:Option Sl}
variable {z:Z}
theorem Ws {m u:MS}(ρ0:Rho)(h1:W (m ρ) fun r=>r.1=.nx/\r.2=ρ0)(h2:W (u ρ0) k):W (Qcf m u ρ) k:=JK (fun ρ=>ρ=ρ0) h1 (by rintro _ rfl;exact h2)
def Pot (d:D):Prop:=∃v k:Int,d=.lst [.int v,.int k]
def isInt (d:D):Prop:=∃r:Int,d=.int r
theorem Qec(h:((z41 n).map fun j=>D.int ((0:Int)+(j:Nat)))[i]? = some d):d=.int i/\i<n:=by
 rw[z17] at h;obtain⟨a,e,rfl⟩:=z03.mp h;obtain⟨h1,h2⟩:=z11.mp e;rw[y44] at h2;rw[z52] at h1;subst h2;exact⟨by rw[Int.zero_add],h1⟩
theorem Qkq (c:Int):FW (JV z [.int c]) (fun d os=>os=[]/\isInt d):=by
 unfold JV;refine Jk ?_;dsimp only[Vd];simp? only[and_self];refine QnS (fun i ρ=>∃r s t,ρ=[~~~(.int c),~~~(.int r),s,t]/\(s=none\/∃d,s = ~~~d)/\(t=none\/∃d,t = ~~~d)) ⟨0,_,_,rfl,.inl rfl,.inl rfl⟩ ?_ ?_
 ·rintro i d ρ hd ⟨r,s,t,rfl,hs,ht⟩;obtain⟨rfl,hi⟩:=Qec hd;have hi':(i:Int)<12:=by have:(y29 12)=12:=rfl;lia
  refine⟨[~~~(.int c),~~~(.int r),~~~(.int i),t],?_,?_⟩
  ·rcases hs with rfl|⟨_,rfl⟩<;>rfl
  ·have g1:(0:Int)<2147483629:=by decide
   have g2:(0:Int)<2147483647:=by decide
   have g3:(0:Int)<2147483587:=by decide
   have c1:∀a:Int,CMul a 48271:=fun a=>.inr @2;have c2:CMul (i:Int) (i:Int):=.inl ⟨by lia,by lia⟩;have c3:∀a:Int,CMul a 7919:=fun a=>.inr @2;have c4:∀a:Int,CMul 31 a:=fun a=>.inl @2;have c5:∀a:Int,CMul a 2147483587:=fun a=>.inr @2;have c6:∀a:Int,CMul 40693 a:=fun a=>.inl @2;have c7:∀a:Int,CMul (a % 2147483647) (a % 2147483647):=fun a=>.inl ⟨by have:=zq4 a (show(2147483647:Int)≠0 by decide);lia,by have:=zm9 a g2;lia⟩
   rcases ht with rfl|⟨_,rfl⟩ <;>
   ·simp? only[g1,g2,g3,c1,c2,c3,c4,c5,c6,c7];exact⟨trivial,_,_,_,rfl,.inr ⟨_,rfl⟩,.inr ⟨_,rfl⟩⟩
 ·rintro ρ ⟨r,s,t,rfl,hs,ht⟩;simp? only[];refine⟨_,[],rfl,?_,rfl,_,rfl⟩;rcases hs with rfl|⟨_,rfl⟩<;>rcases ht with rfl|⟨_,rfl⟩<;>rfl
theorem QgH (c:Int):∃r:Int,JV z [.int c]=.ok (.int r) []:=by
 obtain⟨d,os,e,rfl,r,rfl⟩:=Qkq (z:=z) c;exact⟨r,e⟩
def spT (n:Int)(d:D)(os:List D):Prop:=∃r p,d=.int r/\os=[p]/\Pot p/\0<=r/\r<n
abbrev QiT:Int:=115792089237316195423570985008687907853269984665640564039457584007913129639936
theorem QbP {p:D}{n:Int}(hp:Pot p)(h0:0<n)(h1:n<QiT):FW (Qp z [p,.int n]) (spT n):=by
 obtain⟨v,k,rfl⟩:=hp;unfold Qp;refine Jk ?_;dsimp only[Vj];have cn:∀a,QcH a n:=fun a=>⟨h0,h1⟩
 by_cases hv:v=0
 ·subst hv;obtain⟨r,er⟩:=QgH (z:=z) (k+64);simp? only[QjV er,cn,h0];exact⟨trivial,_,_,rfl,rfl,_,_,rfl,rfl,⟨_,_,rfl⟩,zq4 _ @0,zm9 _ h0⟩
 ·simp? only[hv,cn,h0];exact⟨_,_,rfl,rfl,_,_,rfl,rfl,⟨_,_,rfl⟩,zq4 _ @0,zm9 _ h0⟩
def script (xs:List Int):D:=.lst (xs.map .int)
def frO (s:Option Sl):Prop:=s=none\/∃d,s = ~~~d
theorem Yt{s:Option Sl}(h:ρ[i]? = some s)(hs:frO s):YF ρ i d=some (ρ.set i (~~~d)):=by unfold YF;rw[h];rcases hs with rfl|⟨_,rfl⟩<;>rfl
theorem QgI{j:Nat}{s t:Option Sl}{x y:D}(h:ρ[i]? = some s)(hs:frO s)(h2:(ρ.set i (~~~x))[j]? = some t)(ht:frO t):Qnq i j (.tup [x,y]) ρ=some ((ρ.set i (~~~x)).set j (~~~y)):=by
 show(YF ρ i x).bind _=_;rw[Yt h hs];exact Yt h2 ht
theorem Qkr (xs:List Int)(k:Int)(hk:0<=k):∃c:Int,QaG z [script xs,.int k]=.ok (.int c) []:=by
 by_cases h:k<xs.length
 ·refine⟨xs.getD k.toNat 0,Ye (Jk ?_)⟩;dsimp only[JT];have g1:QiF [script xs]=some (.int xs.length):=by show some (D.int ((xs.map D.int).length:Nat))=_;rw[z01]
  have g2:atI (xs.map D.int) k=some (.int (xs.getD k.toNat 0)):=QgD D.int 0 hk @0;have g3:gIx (script xs) (.int k)=some (.int (xs.getD k.toNat 0)):=g2;simp? only[g1,h,g3];exact⟨_,_,rfl,rfl,rfl,rfl⟩
 ·refine⟨0,Ye (Jk ?_)⟩;dsimp only[JT];have g1:QiF [script xs]=some (.int xs.length):=by show some (D.int ((xs.map D.int).length:Nat))=_;rw[z01]
  simp? only[g1,h];exact⟨_,_,rfl,rfl,rfl,rfl⟩
theorem Qh5 (xs:List Int)(k:Int)(hk:0<=k):FW (Yo z [script xs,.int k]) (fun d os=>os=[]/\Pot d):=Jk (by
 dsimp only[Yn];obtain⟨c,ec⟩:=Qkr (z:=z) xs k hk;have c1:CPow 10 18:=⟨by decide,by decide,by decide⟩;have c2:CMul 101 k:=.inl @2;simp? only[QjV ec,c1];refine⟨trivial,?_⟩;refine QlM (fun h=>?_) (fun h=>?_)
 ·obtain⟨r,er⟩:=QgH (z:=z) (c+101 * k);simp? only[c2,QjV er];exact⟨trivial,_,_,rfl,rfl,rfl,_,_,rfl⟩
 ·simp? only[]
  exact⟨_,_,rfl,rfl,rfl,_,_,rfl⟩)
section
variable {q:D}
def QoE (d:D)(os:List D):Prop:=∃n:Nat,∃q,d=.int n/\os=[q]/\Pot q/\1<=n/\n<=30
theorem Qks (hq:Pot q):FW (Jq z [q]) QoE:=Jk (by
 dsimp only[Vl];simp? only[];refine QjW (p:=q) (P:=spT 8) rfl (QbP hq @2 @2) fun _ _ ⟨r1,q1,e1,e2,hq1,_,_⟩=>⟨q1,e2,?_⟩;subst e1;simp? only[];refine QlM (fun h=>?_) (fun h=>?_)
 ·simp? only[];refine QjW (p:=q1) (P:=spT 30) rfl (QbP hq1 @2 @2) fun _ _ ⟨r2,q2,e1,e2,hq2,g0,g1⟩=>⟨q2,e2,?_⟩;subst e1;simp? only[];exact⟨_,_,rfl,rfl,(1+r2).toNat,q2,by rw[y46 @0],rfl,hq2,by lia,by lia⟩
 ·simp? only[];refine QjW (p:=q1) (P:=spT 6) rfl (QbP hq1 @2 @2) fun _ _ ⟨r2,q2,e1,e2,hq2,g0,g1⟩=>⟨q2,e2,?_⟩;subst e1;simp? only[]
  exact⟨_,_,rfl,rfl,(1+r2).toNat,q2,by rw[y46 @0],rfl,hq2,by lia,by lia⟩)
end
variable {z:Z}
theorem QgJ:Qd5 z [pl p]=.ok (.lst ((nb p).map pl)) []:=Ye (Jk (by
 dsimp only[QbG];simp? only[pl]
 exact⟨_,_,rfl,rfl,rfl,rfl⟩))
section
variable {par:Bool}{cs fs:List P2}{f:P2->Bool}{mv:ME}
theorem J0(h:n<8000):n<z24:=by rw[z67];lia
theorem Qcx (hi:ρ[i]? = some (some (mkS par (dct ks f)))):Qcm ρ i=some (par,ks.map YD,ks.map fun q=>.bl (f q)):=by
 unfold Qcm;rw[hi];cases par<;>rfl
theorem QgK (hi:ρ[i]? = some (some (mkS par (dct ks f))))(hv:mv ρ=.ok (.bl b,ρ))(hk:mk ρ=.ok (pl p,ρ))(hp:p∈ks)(hl:ks.length<8000):Qbs i mv mk ρ=.ok (.nx,ρ.set i (some (mkS par (dct ks (Qkh f p b))))):=by
 unfold Qbs;rw[hv];show((Rs.of (Qcm ρ i)).bind fun _=>_)=_;rw[Qcx hi];show((mk ρ).bind fun s=>_)=_;rw[hk];show((Rs.of (Qcm ρ i)).bind fun q=>_)=_;rw[Qcx hi];show((Rs.of (Qcl (pl p))).bind fun k=>_)=_;rw[QaC];show(if(ks.map YD).length<z24 then _ else _)=_;rw[if_pos (by rw[z01];exact J0 hl),if_pos (by show(true && D.Jb (ks.map fun q=>D.bl (f q)))=true;rw[Qgp];rfl)];dsimp only;rw[Qd1 hp];rfl
theorem QbQ (hi:ρ[i]? = some (some (mkS par (dct ks fun _=>true))))(hv:mv ρ=.ok (.bl true,ρ))(hk:mk ρ=.ok (pl p,ρ))(hl:ks.length<8000):Qbs i mv mk ρ=.ok (.nx,ρ.set i (some (mkS par (dct (Ji ks p) fun _=>true)))):=by
 unfold Qbs;rw[hv];show((Rs.of (Qcm ρ i)).bind fun _=>_)=_;rw[Qcx hi];show((mk ρ).bind fun s=>_)=_;rw[hk];show((Rs.of (Qcm ρ i)).bind fun q=>_)=_;rw[Qcx hi];show((Rs.of (Qcl (pl p))).bind fun k=>_)=_;rw[QaC];show(if(ks.map YD).length<z24 then _ else _)=_;rw[if_pos (by rw[z01];exact J0 hl),if_pos (by show(true && D.Jb (ks.map fun q=>D.bl true))=true;rw[Qgp ks fun _=>true];rfl)];dsimp only;rw[← Qki]
theorem Qkt:Qm4 (ks.map YD,ks.map fun q=>D.bl (f q)) (pl p) (.bl false)=some (.bl (decide (p∈ks) && f p)):=by
 unfold Qm4;rw[QaC];dsimp only[z72];rw[Qd0]
 by_cases h:p∈ks
 ·rw[if_pos h,decide_eq_true h];rfl
 ·rw[if_neg h,decide_eq_false h];rfl
def fr (f0:P2->Bool)(fs:List P2):P2->Bool:=fun q=>f0 q && !decide (q∈fs)
theorem QiU:fr f0 (fs++[q])=Qkh (fr f0 fs) q false:=by
 funext r
 unfold fr Qkh
 by_cases e:r=q
 ·subst e;rw[if_pos rfl,decide_eq_true (z05 _ (z16.mpr rfl))];simp
 ·rw[if_neg e];dsimp only;have:r∈fs++[q]↔r∈fs:=by rw[z08,z16];exact⟨fun h=>h.resolve_right e,.inl⟩
  by_cases c:r∈fs
  ·rw[decide_eq_true c,decide_eq_true (this.mpr c)]
  ·rw[decide_eq_false c,decide_eq_false fun z=>c (this.mp z)]
structure Bf (cs:List P2)(f0:P2->Bool)(p:P2)(fs:List P2)(done:Nat):Prop where
 nd:fs.Nodup
 st:p∈fs
 rc:∀q∈fs,q∈cs/\Rch cs p q/\f0 q=true
 dn:∀(j:Nat) (q:P2),j<done->fs[j]? = some q->∀r∈nb q,r∈cs->f0 r=true->r∈fs
theorem Bf.app {done:Nat}{r:P2}(B:Bf cs f0 p fs done)(hd:done<=fs.length)(hq:q∈fs)(hr:r∈nb q)(h1:r∈cs)(h2:f0 r=true)(h3:r∉fs):Bf cs f0 p (fs++[r]) done where
 nd:=z12.mpr ⟨B.nd,z39.mpr ⟨by simp,.nil⟩,fun a ha b hb e=>by rw[z16] at hb;subst hb;subst e;exact h3 ha⟩
 st:=z13 _ B.st
 rc:=fun x hx=>by
  rcases z08.mp hx with hx|hx
  ·exact B.rc x hx
  ·rw[z16.mp hx];exact⟨h1,(B.rc q hq).2.1.step hr h1,h2⟩
 dn:=fun j x hj hx y hy c1 c2=>by
  rw[z53 @0] at hx;exact z13 _ (B.dn j x hj hx y hy c1 c2)
theorem Bf.fin(B:Bf cs f0 p fs fs.length)(c:Cl cs S)(hf:∀q∈cs,(f0 q=true↔q∉S))(hp:p∈cs):∀q,q∈fs↔Rch cs p q:=fun q=>by
 refine⟨fun h=>(B.rc q h).2.1,fun h=>?_⟩
 induction h with
 |base=>exact B.st
 | @step x y h n m ih=>
  obtain⟨j,hj⟩:=z74 ih;refine B.dn j x (z11.mp hj).1 hj y n m ((hf y m).mpr fun hs=>?_);have hx:=h.mem hp;exact(hf x hx).mp (B.rc x ih).2.2 (c.cl y hs x (.step .base (Qgl n) hx))
def tsS (cs:List P2)(f:P2->Bool)(p:P2)(fs:List P2)(done:Nat)(s:Option Sl):Rho:=[some (.par (dct cs f)),~~~(pl p),some (.own (.lst (fs.map pl))),~~~(.int done),s]
theorem Qn8(h:fs[n]? = some q):gIx (.lst (fs.map pl)) (.int n)=some (pl q):=by
 have e:=QgD (xs:=fs) pl (0,0) (i:=(n:Int)) @0 (by have:=(z11.mp h).1;lia);rw[z66,z25,h] at e;exact e
theorem QmI:QiF [.lst (fs.map pl)]=some (.int fs.length):=by show some (D.int ((fs.map pl).length:Nat))=_;rw[z01]
theorem QbR(hn:cs.Nodup)(hl:cs.length<4000)(hp:p∈cs)(c:Cl cs S)(hf:∀q∈cs,(f0 q=true↔q∉S))(h0:f0 p=true):Jy z [dct cs f0,pl p]=.ok (.lst ((cmp cs p).map pl)) [dct cs (fr f0 (cmp cs p))]:=Ye (Jk (by
 dsimp only[Ym]
 have e1:Qkh f0 p false=fr f0 [p]:=by
  have:=QiU (f0:=f0) (fs:=[]) (q:=p);rw[zx0] at this;rw[this]
  congr 1
  funext r;unfold fr;simp
 refine Ws [some (.par (dct cs (fr f0 [p]))),~~~(pl p),none,none,none] ⟨_,QgK (i:=0) (par:=true) (f:=f0) rfl rfl rfl hp @0,rfl,by rw[e1];rfl⟩ ?_;refine Ws [some (.par (dct cs (fr f0 [p]))),~~~(pl p),some (.own (.lst ([p].map pl))),none,none] ⟨_,rfl,rfl,rfl⟩ ?_;refine Ws (tsS cs (fr f0 [p]) p [p] 0 none) ⟨_,rfl,rfl,rfl⟩ ?_;refine JK (fun ρ=>∃fs s,ρ=tsS cs (fr f0 fs) p fs fs.length s/\frO s/\Bf cs f0 p fs fs.length) ?_ ?_
 ·refine QgC (fun n ρ=>∃fs done s,ρ=tsS cs (fr f0 fs) p fs done s/\frO s/\done<=fs.length/\n=cs.length - done/\Bf cs f0 p fs done) (n:=cs.length) ?_ ⟨[p],0,none,rfl,.inl rfl,z58 _,by lia,⟨by simp,by simp,fun q hq=>by rw[z16.mp hq];exact⟨hp,.base,h0⟩,fun j q hj=>absurd hj (zg3 _)⟩⟩ @0;rintro n ρ ⟨fs,done,s,rfl,hs,hd,rfl,B⟩;have lf:fs.length<=cs.length:=sub_len B.nd fun x hx=>(B.rc x hx).1;refine⟨(decide ((done:Int)<(fs.length:Int)),tsS cs (fr f0 fs) p fs done s),QL (op_eq rfl (JQ (Qk rfl rfl) QmI) rfl),fun h=>?_,fun h=>?_⟩
  ·have hlt:done<fs.length:=by have:=of_decide_eq_true h;lia
   have hq:fs[done]? = some fs[done]:=z06 hlt;generalize fs[done]=q at hq;have qm:=z38 hq;refine JK (fun ρ=>∃fs' s,ρ=tsS cs (fr f0 fs') p fs' done s/\frO s/\done<fs'.length/\Bf cs f0 p fs' (done+1)) ?_ ?_
   ·refine JB (ds:=(nb q).map pl) (ρ1:=tsS cs (fr f0 fs) p fs done s) (fun i ρ=>∃fs' s,ρ=tsS cs (fr f0 fs') p fs' done s/\frO s/\(∃t,fs'=fs++t)/\Bf cs f0 p fs' done/\∀r∈(nb q).take i,r∈cs->f0 r=true->r∈fs') ?_ ⟨fs,s,rfl,hs,⟨[],by simp⟩,B,fun r hr=>by simp at hr⟩ ?_ ?_
    ·exact QH @14 (Qy (rk:=.O) (Qk (op_eq rfl rfl (Qn8 hq)) rfl) QgJ fun z=>nomatch z)
    ·rintro i d ρ hd' ⟨fs',s',rfl,hs',⟨t,rfl⟩,B',k'⟩;rw[z17] at hd';obtain⟨r,hr,rfl⟩:=z03.mp hd';have rn:r∈nb q:=z38 hr;have tk:(nb q).take (i+1)=(nb q).take i++[r]:=by rw[y53,hr];rfl
     refine⟨tsS cs (fr f0 (fs++t)) p (fs++t) done (~~~(pl r)),by rcases hs' with rfl|⟨_,rfl⟩<;>rfl,?_⟩;have tst:Jj (QhP (mB 0) (mV 4) (mC (.bl false))) (tsS cs (fr f0 (fs++t)) p (fs++t) done (~~~(pl r)))=.ok (decide (r∈cs) && fr f0 (fs++t) r,tsS cs (fr f0 (fs++t)) p (fs++t) done (~~~(pl r))):=QL (Qko rfl rfl rfl Qkt);refine Jz (QaR tst)▸?_
     cases e:decide (r∈cs) && fr f0 (fs++t) r with
     |true=>
      obtain⟨c1,c2⟩:=z75.mp e;obtain⟨c2,c3⟩:=z75.mp (show(f0 r && !decide (r∈fs++t))=true from c2);have c1:=of_decide_eq_true c1;have c3:r∉fs++t:=by simpa using c3
      have B2:=B'.app (by rw[z10];lia) (z13 _ qm) rn c1 c2 c3;have lf2:(fs++t).length<=cs.length:=sub_len B'.nd fun x hx=>(B'.rc x hx).1;rw[if_pos rfl];refine Ws (tsS cs (fr f0 (fs++t++[r])) p (fs++t) done (~~~(pl r))) ⟨_,QgK (i:=0) (par:=true) rfl rfl rfl c1 @0,rfl,by rw[QiU];rfl⟩ ?_;refine⟨(.nx,tsS cs (fr f0 (fs++t++[r])) p (fs++t++[r]) done (~~~(pl r))),?_,rfl,fs++t++[r],_,rfl,.inr ⟨_,rfl⟩,⟨t++[r],by rw[z23]⟩,B2,fun x hx h1 h2=>?_⟩
      ·unfold QlI;show(if((fs++t).map pl).length<z24 then _ else _)=_;rw[if_pos (by rw[z01];exact J0 @0)];unfold tsS;rw[z47 (l₁:=fs++t)];rfl
      ·rw[tk] at hx;rcases z08.mp hx with hx|hx
       ·exact z13 _ (k' x hx h1 h2)
       ·exact z05 _ hx
     |false=>
      rw[if_neg z19];refine⟨_,rfl,rfl,fs++t,_,rfl,.inr ⟨_,rfl⟩,⟨t,rfl⟩,B',fun x hx h1 h2=>?_⟩;rw[tk] at hx;rcases z08.mp hx with hx|hx
      ·exact k' x hx h1 h2
      ·rw[z16] at hx;subst hx;rw[decide_eq_true h1,zs9] at e;unfold fr at e;rw[h2,zs9] at e;exact of_decide_eq_true (by simpa only[Bool.not_eq_false'] using e)
    ·rintro ρ ⟨fs',s',rfl,hs',⟨t,rfl⟩,B',k'⟩;have lt':done<(fs++t).length:=by rw[z10];lia
     refine⟨rfl,fs++t,s',rfl,hs',lt',B'.nd,B'.st,B'.rc,fun j x hj hx y hy c1 c2=>?_⟩;rcases z85 j done with w|w
     ·exact B'.dn j x w hx y hy c1 c2
     ·have:j=done:=by lia
      subst this;rw[z53 hlt,hq] at hx;cases hx
      exact k' y (by rw[z86 @6];exact hy) c1 c2
   ·rintro ρ ⟨fs',s',rfl,hs',lt',B'⟩;refine⟨(.nx,tsS cs (fr f0 fs') p fs' (done+1) s'),rfl,rfl,cs.length - (done+1),?_,fs',done+1,s',rfl,hs',lt',rfl,B'⟩;have:done<cs.length:=by lia
    lia
  ·have hge:done=fs.length:=by have:=of_decide_eq_false h;lia
   subst hge;exact⟨rfl,fs,s,rfl,hs,B⟩
 ·rintro ρ ⟨fs,s,rfl,hs,B⟩;have ec:=Qmu hn hp B.nd (B.fin c hf hp);have lf:fs.length<=cs.length:=sub_len B.nd fun x hx=>(B.rc x hx).1
  have ef:fr f0 fs=fr f0 (cmp cs p):=by
   funext r
   unfold fr
   congr 2
   rw[← ec];exact decide_eq_decide.mpr ((Ql fs).mem_iff).symm
  refine⟨(.rt (.lst ((cmp cs p).map pl)),tsS cs (fr f0 fs) p fs fs.length s),?_,_,[dct cs (fr f0 fs)],rfl,by rcases hs with rfl|⟨_,rfl⟩<;>rfl,rfl,by rw[ef]⟩;unfold QeB QdQ;rw[Qk (show mB 2 (tsS cs (fr f0 fs) p fs fs.length s)=.ok (.lst (fs.map pl),_) from rfl) (show Qz _=.ok ([],_) from rfl)];show(((Rs.of ((plL (fs.map pl)).bind fun ps=>if ps.Nodup/\ps.length<=4000 then some (Jh ltP ps) else none)).bind fun ps=>_).bind _)=_
  rw[Qbw,z72,if_pos ⟨B.nd,by lia⟩,ec];rfl))
end
variable {z:Z}
section
variable {par:Bool}{cs fs:List P2}{f:P2->Bool}
def plB (b:Bool)(p:P2):D:=if b then .lst [.int p.1,.int p.2] else pl p
def sqT (b:Bool)(ds:List D):D:=.nd (if b then .tup else .lst) ds
noncomputable def shD (s:List (List P2)):D:=.lst (s.map fun l=>.lst (l.map pl))
def toT:D->D
 |.nd _ ds=>.tup ds
 |d=>d
theorem Qku:(ps.map (plB b)).map toT=ps.map pl:=by
 rw[z60];exact z80 fun p _=>by cases b<;>rfl
theorem YL {i:Nat}{x:D}{ρ:Rho}(e:m ρ=.ok (x,ρ1))(e1:YF ρ1 i x=some ρ2):YG i m ρ=.ok (.nx,ρ2):=by
 unfold YG;rw[e];show((Rs.of (YF ρ1 i x)).bind _)=_;rw[e1];rfl
theorem QeI {i:Nat}{x:D}{ρ:Rho}(e:m ρ=.ok (x,ρ1))(e1:Qjy ρ1 i x=some ρ2):QhA i m ρ=.ok (.nx,ρ2):=by
 unfold QhA;rw[e];show((Rs.of (Qjy ρ1 i x)).bind _)=_;rw[e1];rfl
theorem QgL {i:Nat}{x:D}{ρ:Rho}{par:Bool}(h0:Qbq ρ i=some (par,ds))(e:m ρ=.ok (x,ρ1))(h1:Qbq ρ1 i=some (par,ds))(hl:ds.length<8000):QlI i m ρ=.ok (.nx,ρ1.set i (some (mkS par (.lst (ds++[x]))))):=by
 unfold QlI;rw[h0];show((m ρ).bind _)=_;rw[e];show((Rs.of (Qbq ρ1 i)).bind _)=_;rw[h1];show(if ds.length<z24 then _ else _)=_;rw[if_pos (J0 hl)]
theorem Qh6 {a b:Bool}{r:Rho}(hl:ps.length<1900):JN false [.me] 0 (Jr (mV 0)) QfE (mI (Qhz (Qg (mV 0) Qz))) (~~~(sqT a (ps.map (plB b)))::r)=.ok (.lst @29,~~~(sqT a (ps.map (plB b)))::r):=by
 have c:=comp_map (par:=false) (cs:=[.me]) (j:=0) (mi:=Jr (mV 0)) (te:=mI (Qhz (Qg (mV 0) Qz))) (g:=toT) (ρ:= ~~~(sqT a (ps.map (plB b)))::r) (ρ1:= ~~~(sqT a (ps.map (plB b)))::r) (ρb:=[none]) (ds:=ps.map (plB b)) (di:=[]) (os:=[]) (QH (t:=if a then .tup else .lst) (by cases a<;>simp) rfl) rfl rfl (fun d hd=>by
  obtain⟨p,_,rfl⟩:=z37.mp hd
  exact⟨[~~~(plB b p)],rfl,by cases b<;>rfl,rfl⟩) (by rw[z01];exact za3 (J0 @0)) rfl rfl
 rw[c,Qku]
theorem QmJ {a b:Bool}{r:Rho}(hl:ps.length<1900):Qf7 (Qg (JN false [.me] 0 (Jr (mV 0)) QfE (mI (Qhz (Qg (mV 0) Qz)))) Qz) (~~~(sqT a (ps.map (plB b)))::r)=.ok (.lst ((QK ps).map pl),~~~(sqT a (ps.map (plB b)))::r):=by
 unfold Qf7;rw[Qk (Qh6 hl) (show Qz _=.ok ([],_) from rfl)];show((Rs.of ((plL @29).bind fun ps=>if ps.length<1900 then some (Jh ltP (upTo ps)) else none)).bind fun ps=>_)=_;rw[Qbw,z72,if_pos hl];rfl
def shS (h:D)(os:List P2)(s1 s2 s3:Option Sl):Rho:=[~~~h,~~~(.lst (os.map pl)),s1,s2,s3]
theorem Qed {f:P2->Bool}{p:P2}:∀{ks:List P2},p∈ks->Y9 (ks.map YD) (ks.map fun q=>D.bl (f q)) (YD p)=some (.bl (f p))
 | [],h=>nomatch h
 |k::ks,h=>by
  rw[z28,z28,Y9]
  by_cases e:k=p
  ·subst e;rw[if_pos rfl]
  ·rw[if_neg fun z=>e (Yy z)];exact Qed ((z21.mp h).resolve_left fun z=>e z.symm)
theorem QmK (hp:p∈ks):QiM (dct ks f) (pl p)=some (.bl (f p)):=by
 show(Qcl (pl p)).bind (fun k=>Y9 (ks.map YD) (ks.map fun q=>D.bl (f q)) k)=_;rw[QaC,z72,Qed hp]
theorem Qa8(hl:l.Nodup)(i:Nat)(h:l[i]? = some p):Ji (l.take i) p=l.take (i+1):=by
 have:p∉l.take i:=fun z=>by
  obtain⟨j,hj⟩:=z74 z;rw[y45] at hj
  split at hj
  ·rename_i ji
   obtain⟨a1,a2⟩:=z11.mp hj;obtain⟨b1,b2⟩:=z11.mp h;have:=(zh6 hl).mp (a2.trans b2.symm);lia
  ·cases hj
 unfold Ji;rw[if_neg this,y53,h];rfl
theorem Qkv(hf:f=fun q=>!decide (q∈S)):fr f fs=fun q=>!decide (q∈S++fs):=by
 funext q
 unfold fr;rw[hf];dsimp only
 by_cases c1:q∈S<;>by_cases c2:q∈fs<;>simp[c1,c2]
theorem QgM {a b:Bool}(hl:ps.length<1900):Qea z [sqT a (ps.map (plB b))]=.ok (shD (shp ps)) []:=Ye (Jk (by
 dsimp only[QbL];generalize hH:sqT a (ps.map (plB b))=hd;have nd:=QbB ps;have lo:(QK ps).length<1900:=zm5 (QdY ps) hl;refine Ws (shS hd (QK ps) none none none) (by subst hH;exact⟨_,YL (QmJ hl) rfl,rfl,rfl⟩) ?_;refine Ws (shS hd (QK ps) (some (.own (dct [] fun _=>true))) none none) ⟨_,rfl,rfl,rfl⟩ ?_;refine JK (fun ρ=>∃s,ρ=shS hd (QK ps) (some (.own (dct (QK ps) fun _=>true))) s none/\frO s) ?_ ?_
 ·refine JB (ds:=(QK ps).map pl) (ρ1:=shS hd (QK ps) (some (.own (dct [] fun _=>true))) none none) (fun i ρ=>∃s,ρ=shS hd (QK ps) (some (.own (dct ((QK ps).take i) fun _=>true))) s none/\frO s) (QH @14 rfl) ⟨none,rfl,.inl rfl⟩ ?_ ?_
  ·rintro i d ρ hd' ⟨s,rfl,hs⟩;rw[z17] at hd';obtain⟨p,hp,rfl⟩:=z03.mp hd';refine⟨shS hd (QK ps) (some (.own (dct ((QK ps).take i) fun _=>true))) (~~~(pl p)) none,by rcases hs with rfl|⟨_,rfl⟩<;>rfl,?_⟩;exact⟨_,QbQ (i:=2) (par:=false) rfl rfl rfl (by rw[z48];lia),rfl,_,by rw[Qa8 nd i hp];rfl,.inr ⟨_,rfl⟩⟩
  ·rintro ρ ⟨s,rfl,hs⟩;refine⟨rfl,s,?_,hs⟩;rw[z01,z63]
 rintro ρ ⟨s,rfl,hs⟩;refine Ws (shS hd (QK ps) (some (.own (dct (QK ps) fun _=>true))) s (some (.own (.lst [])))) ⟨_,rfl,rfl,rfl⟩ ?_;refine JK (fun ρ=>∃f s,ρ=shS hd (QK ps) (some (.own (dct (QK ps) f))) s (some (.own (shD (shp ps))))/\frO s) ?_ ?_
 ·refine JB (ds:=(QK ps).map pl) (ρ1:=shS hd (QK ps) (some (.own (dct (QK ps) fun _=>true))) s (some (.own (.lst [])))) (fun i ρ=>∃s,ρ=shS hd (QK ps) (some (.own (dct (QK ps) fun q=>!decide (q∈(Qgn (QK ps) ((QK ps).take i)).2)))) s (some (.own (shD (Qgn (QK ps) ((QK ps).take i)).1)))/\frO s) (QH @14 rfl) ⟨s,rfl,hs⟩ ?_ ?_
  ·rintro i d ρ hd' ⟨s,rfl,hs⟩;rw[z17] at hd';obtain⟨p,hp,rfl⟩:=z03.mp hd';have pm:p∈QK ps:=z38 hp;have cl:=Cl.run nd ((QK ps).take i) fun x hx=>zk8 hx;have sm:=Qa3 (cs:=QK ps) ((QK ps).take i);rw[Qgo hp];generalize Qgn (QK ps) ((QK ps).take i)=A at cl sm;refine⟨shS hd (QK ps) (some (.own (dct (QK ps) fun q=>!decide (q∈A.2)))) (~~~(pl p)) (some (.own (shD A.1))),by rcases hs with rfl|⟨_,rfl⟩<;>rfl,?_⟩;have tst:Jj (mOp QiM (mB 2) (mV 3)) (shS hd (QK ps) (some (.own (dct (QK ps) fun q=>!decide (q∈A.2)))) (~~~(pl p)) (some (.own (shD A.1))))=.ok (!decide (p∈A.2),shS hd (QK ps) (some (.own (dct (QK ps) fun q=>!decide (q∈A.2)))) (~~~(pl p)) (some (.own (shD A.1)))):=QL (op_eq (x:=dct (QK ps) fun q=>!decide (q∈A.2)) (y:=pl p) (ρ1:=shS hd (QK ps) (some (.own (dct (QK ps) fun q=>!decide (q∈A.2)))) (~~~(pl p)) (some (.own (shD A.1)))) rfl rfl (QmK (f:=fun q=>!decide (q∈A.2)) pm));refine Jz (QaR tst)▸?_;unfold Jt
   by_cases c:p∈A.2
   ·rw[decide_eq_true c,if_neg @2,if_pos c];exact⟨_,rfl,rfl,_,rfl,.inr ⟨_,rfl⟩⟩
   ·rw[decide_eq_false c,if_pos @2,if_neg c];have ts:=QbR (z:=z) (cs:=QK ps) (f0:=fun q=>!decide (q∈A.2)) (S:=A.2) nd @0 pm cl (fun q _=>by simp) (by simp[c]);have l1:=sm.1;rw[z48] at l1;refine⟨(.nx,shS hd (QK ps) (some (.own (dct (QK ps) fun q=>!decide (q∈A.2++cmp (QK ps) p)))) (~~~(pl p)) (some (.own (shD (A.1++[cmp (QK ps) p]))))),?_,rfl,_,rfl,.inr ⟨_,rfl⟩⟩
    have ec:Jf false [some 2,none] (Jy z) (Qg (mS 2) (Qg (mV 3) Qz)) (shS hd (QK ps) (some (.own (dct (QK ps) fun q=>!decide (q∈A.2)))) (~~~(pl p)) (some (.own (shD A.1))))=.ok (.lst ((cmp (QK ps) p).map pl),shS hd (QK ps) (some (.own (dct (QK ps) fun q=>!decide (q∈A.2++cmp (QK ps) p)))) (~~~(pl p)) (some (.own (shD A.1)))):=by
     unfold Jf;rw[Qk (show mS 2 (shS hd (QK ps) (some (.own (dct (QK ps) fun q=>!decide (q∈A.2)))) (~~~(pl p)) (some (.own (shD A.1))))=.ok (dct (QK ps) fun q=>!decide (q∈A.2),_) from rfl) (Qk (show mV 3 _=.ok (pl p,_) from rfl) (show Qz _=.ok ([],_) from rfl))]
     show(match Jy z [dct (QK ps) fun q=>!decide (q∈A.2),pl p] with
      |.ok d outs=>_
      |.ex c=>_
      |.no=>_)=_
     rw[ts,Qkv rfl];rfl
    rw[QgL (i:=4) (par:=false) (ds:=A.1.map fun l=>.lst (l.map pl)) rfl ec rfl (by rw[z01];lia)];unfold shD;rw[z47];rfl
  ·rintro ρ ⟨s,rfl,hs⟩;rw[z01,z63];exact⟨rfl,_,s,rfl,hs⟩
 rintro ρ ⟨f,s,rfl,hs⟩;refine⟨_,rfl,_,[],rfl,?_,rfl,rfl⟩
 rcases hs with rfl|⟨_,rfl⟩<;>rfl))
end
variable {z:Z}
def tns (s:Sdx):List P2:=[mv (fin s) s.2.rt,mv (fin s) s.2,mv (fin s) s.2.lf]
theorem Qh7:Qdc z [pl s.1,pl (fin s)]=.ok (.lst ((tns s).map pl)) []:=Ye (Jk (by
 dsimp only[Qdb];simp? only[pl];obtain⟨⟨a,b⟩,d⟩:=s;refine⟨_,_,rfl,rfl,?_,rfl⟩
 cases d<;>simp[tns,fin,mv,Dr.rt,Dr.lf,pl]<;>lia))
theorem Qh8:Vv z [pl p]=.ok (.lst ((four p).map fun s=>.nd .tup [pl (qd s.1 s.2.lf),psd s])) []:=Ye (Jk (by
 dsimp only[JS];simp? only[pl];refine⟨_,_,rfl,rfl,?_,rfl⟩;obtain⟨r,c⟩:=p;simp[four,psd,pp,edg,fin,mv,qd,Dr.lf,pl]
 try lia))
variable {z:Z}
section
variable {ks:List Sdx}{f0:Sdx->Bool}{t:Sdx}{par:Bool}{mv md:ME}
theorem QgN {g:Bool->Bool}{my md:ME}{ρ:Rho}{y:D}{b:Bool}(h1:my ρ=.ok (y,ρ1))(h2:md ρ1=.ok (d,ρ2))(h:QeM y d=some b):Jj (QjL g my md) ρ=.ok (g b,ρ2):=by
 refine QL ?_;unfold QjL;rw[h1];show((md ρ1).bind fun r2=>_)=_;rw[h2];show Rs.of ((QeM y d).map _)=_;rw[h];rfl
theorem Qee {as:List @17}{f:List D->Fr}{mr:MA}{ρ:Rho}{args:List D}(ha:as.filterMap id=[])(h1:mr ρ=.ok (args,ρ1))(hm:QeL as args []=args)(h:f args=.ok d []):Jf false as f mr ρ=.ok (d,ρ1):=by
 unfold Jf;rw[h1];show((Rs.of (YH false ρ1 (as.filterMap id))).bind fun dis=>_)=_;rw[ha]
 show(match f (QeL as args []) with
  |.ok d outs=>_
  |.ex c=>_
  |.no=>_)=_
 rw[hm,h];rfl
theorem QgO:tns s=(Qm8 s).map fin:=rfl
theorem Qkw (hk:∀t,t∈ks↔isS x t)(hs:isS x s):QaI z [dcs ks f,psd s]=.ok (psd (nxt x s)) []:=Ye (Jk (by
 dsimp only[Vf];refine Ws [~~~(dcs ks f),~~~(psd s),~~~(pl (fin s))] ⟨_,rfl,rfl,rfl⟩ ?_;obtain⟨r,er⟩:=QgB hs
 have fd:∀t∈Qm8 s,QeM (.tup [pl (fin s),pl (fin t)]) (dcs ks f)=some (isB x t):=fun t ht=>by
  have e1:t.1=fin s:=by
   rcases z21.mp ht with rfl|ht
   ·rfl
   rcases z21.mp ht with rfl|ht
   ·rfl
   rw[z16.mp ht]
  have e2:=Qh4 (ks:=ks) (f:=f) (p:=t)
  have e3:decide (t∈ks)=isB x t:=by
   by_cases c:t∈ks
   ·rw[decide_eq_true c,QgA.mpr ((hk t).mp c)]
   ·rw[decide_eq_false c]
    cases e:isB x t with
    |false=>rfl
    |true=>exact absurd ((hk t).mpr (QgA.mp e)) c
  rw[e3] at e2;unfold psd pp edg at e2;rw[e1] at e2;exact e2
 have c:=Vu (par:=false) (cs:=[.me,.fz 2,.fz 0]) (j:=0) (mi:=Jr (Jf false [none,none] (Qdc z) (Qg (mOp gIx (mV 1) (mC (.int 0))) (Qg (mV 2) Qz)))) (tc:=Jj (QjL id (QcU (Qg (mV 1) (Qg (mV 0) Qz))) (mV 2))) (te:=mI (QcU (Qg (mV 1) (Qg (mV 0) Qz))))
  (f:=fun d=>(QeM (.tup [pl (fin s),d]) (dcs ks f)).getD false) (g:=fun d=>.tup [pl (fin s),d]) (ρ:=[~~~(dcs ks f),~~~(psd s),~~~(pl (fin s))]) (ρ1:=[~~~(dcs ks f),~~~(psd s),~~~(pl (fin s))]) (ρb:=[none,~~~(pl (fin s)),~~~(dcs ks f)]) (ds:=(tns s).map pl) (di:=[]) (os:=[]) (QH (t:=.lst) @14 (Qee rfl (args:=[pl s.1,pl (fin s)]) rfl rfl Qh7)) rfl rfl (fun d hd=>by
   rw[QgO,z60] at hd;obtain⟨t,ht,rfl⟩:=z37.mp hd;refine⟨[~~~(pl (fin t)),~~~(pl (fin s)),~~~(dcs ks f)],rfl,?_,fun _=>rfl,rfl⟩;show _=Rs.ok ((QeM (.tup [pl (fin s),pl (fin t)]) (dcs ks f)).getD false,_);rw[fd t ht]
   exact QgN (g:=id) (y:=.tup [pl (fin s),pl (fin t)]) (d:=dcs ks f) rfl rfl (fd t ht)) (by show 3<=z24;decide) rfl rfl
 have em:(((tns s).map pl).filter fun d=>(QeM (.tup [pl (fin s),d]) (dcs ks f)).getD false).map (fun d=>D.tup [pl (fin s),d])=psd (nxt x s)::r.map fun t=>D.tup [pl (fin s),pl (fin t)]:=by
  rw[QgO,z60,List.filter_map,List.filter_congr (q:=isB x) fun t ht=>by show(QeM (.tup [pl (fin s),pl (fin t)]) (dcs ks f)).getD false=_;rw[fd t ht];rfl,er,z60];rfl
 rw[em] at c;refine⟨(.rt (psd (nxt x s)),[~~~(dcs ks f),~~~(psd s),~~~(pl (fin s))]),?_,_,[],rfl,rfl,rfl,rfl⟩;unfold QeB;rw[op_eq c (show mC (.int 0) _=.ok (.int 0,_) from rfl) (d:=psd (nxt x s)) (Qax (t:=.lst) (i:=0) @14 rfl)]
 rfl))
theorem Qak (hi:ρ[i]? = some (some (mkS par (dcs ks f)))):Qcm ρ i=some (par,ks.map Jo,ks.map fun q=>.bl (f q)):=by
 unfold Qcm;rw[hi];cases par<;>rfl
theorem Qh9 (hi:ρ[i]? = some (some (mkS par (dcs ks f))))(hv:mv ρ=.ok (.bl b,ρ))(hk:mk ρ=.ok (psd s,ρ))(hp:s∈ks)(hl:ks.length<8000):Qbs i mv mk ρ=.ok (.nx,ρ.set i (some (mkS par (dcs ks (QmD f s b))))):=by
 unfold Qbs;rw[hv];show((Rs.of (Qcm ρ i)).bind fun _=>_)=_;rw[Qak hi];show((mk ρ).bind fun s=>_)=_;rw[hk];show((Rs.of (Qcm ρ i)).bind fun q=>_)=_;rw[Qak hi];show((Rs.of (Qcl (psd s))).bind fun k=>_)=_;rw[Qaj];show(if(ks.map Jo).length<z24 then _ else _)=_;rw[if_pos (by rw[z01];exact J0 hl),if_pos (by show(true && D.Jb (ks.map fun q=>D.bl (f q)))=true;rw[Qgy];rfl)];dsimp only;rw[Qgw hp];rfl
theorem QmL:∀{ks:List Sdx},s∈ks->Y9 (ks.map Jo) (ks.map fun q=>D.bl (f q)) (Jo s)=some (.bl (f s))
 | [],h=>nomatch h
 |k::ks,h=>by
  rw[z28,z28,Y9]
  by_cases e:k=s
  ·subst e;rw[if_pos rfl]
  ·rw[if_neg fun z=>e (QaD z)];exact QmL ((z21.mp h).resolve_left fun z=>e z.symm)
theorem ix4 (hp:s∈ks):QiM (dcs ks f) (psd s)=some (.bl (f s)):=by
 show(Qcl (psd s)).bind (fun k=>Y9 (ks.map Jo) (ks.map fun q=>D.bl (f q)) k)=_;rw[Qaj,z72,QmL hp]
def fre (f0:Sdx->Bool)(o:List Sdx):Sdx->Bool:=fun q=>f0 q && !decide (q∈o)
theorem Qkx {o:List Sdx}:fre f0 (o++[t])=QmD (fre f0 o) t false:=by
 funext r
 unfold fre QmD
 by_cases e:r=t
 ·subst e;rw[if_pos rfl,decide_eq_true (z05 _ (z16.mpr rfl))];simp
 ·rw[if_neg e];dsimp only;have:r∈o++[t]↔r∈o:=by rw[z08,z16];exact⟨fun h=>h.resolve_right e,.inl⟩
  by_cases c:r∈o
  ·rw[decide_eq_true c,decide_eq_true (this.mpr c)]
  ·rw[decide_eq_false c,decide_eq_false fun z=>c (this.mp z)]
theorem Qky:fre f0 []=f0:=by funext r;unfold fre;simp
def Qw (o:List Sdx):D:=.lst (o.map fun t=>pl t.1)
def trS (ks:List Sdx)(f:Sdx->Bool)(s:Sdx)(o:List Sdx)(t:Sdx):Rho:=[some (.par (dcs ks f)),~~~(psd s),some (.own (Qw o)),~~~(psd t)]
theorem Qia {l r:List Sdx}(hl:l.Nodup)(h:∀x∈l,x∈r):l.length<=r.length:=by
 induction l generalizing r with
 |nil=>exact z58 _
 |cons a l ih=>
  obtain⟨n,nd⟩:=z39.mp hl;have:=ih (r:=r.erase a) nd fun x hx=>(zk9 (fun e=>n (by rw[← e];exact hx))).mpr (h x (z07 _ hx));have ha:=h a z09;rw[zh8 ha] at this;have:=zi9 ha;rw[z31];lia
theorem Qde(hk:∀t,t∈ks↔isS x t)(hl:ks.length<4000)(F:Fre x f0 os)(hs:isS x s)(h0:f0 s=true):∃n,Rnd x s n/\JL z [dcs ks f0,psd s]=.ok (Qw (orb x s n)) [dcs ks (fre f0 (orb x s n))]:=by
 have hh:FW (JL z [dcs ks f0,psd s]) fun d ot=>∃n,Rnd x s n/\d=Qw (orb x s n)/\ot=[dcs ks (fre f0 (orb x s n))]:=Jk (by
  dsimp only[VN];refine Ws [some (.par (dcs ks f0)),~~~(psd s),some (.own (.lst [])),none] ⟨_,rfl,rfl,rfl⟩ ?_;refine Ws (trS ks (fre f0 (orb x s 0)) s (orb x s 0) (it x s 0)) ⟨_,rfl,rfl,by rw[show orb x s 0=[] from rfl,Qky];rfl⟩ ?_;refine JK (fun ρ=>∃n,Rnd x s n/\ρ=trS ks (fre f0 (orb x s n)) s (orb x s n) (it x s n)) ?_ ?_
  ·refine QgC (fun m ρ=>∃n,m=ks.length - n/\n<=ks.length/\(orb x s n).Nodup/\ρ=trS ks (fre f0 (orb x s n)) s (orb x s n) (it x s n)) (n:=ks.length) ?_ ⟨0,rfl,z58 _,.nil,rfl⟩ @0;rintro m ρ ⟨n,rfl,hn,nd,rfl⟩;have im:it x s n∈ks:=(hk _).mpr (QaS hs n);refine⟨_,QL (op_eq (x:=dcs ks (fre f0 (orb x s n))) (y:=psd (it x s n)) rfl rfl (ix4 im)),fun h=>?_,fun h=>?_⟩
   ·have nm:it x s n∉orb x s n:=by
     have h:(f0 (it x s n) && !decide (it x s n∈orb x s n))=true:=h;obtain⟨_,h2⟩:=z75.mp h;simpa using h2
    have nd2:=QmA nd nm
    have le:n+1<=ks.length:=by
     have:=Qia nd2 (r:=ks) fun t ht=>by
      obtain⟨i,_,e⟩:=Jm.mp ht;rw[← e];exact(hk _).mpr (QaS hs i)
     unfold orb at this;rw[z01,z52] at this;exact this
    have lo:(orb x s n).length=n:=by unfold orb;rw[z01,z52]
    refine Ws (trS ks (fre f0 (orb x s (n+1))) s (orb x s n) (it x s n)) ⟨_,Qh9 (i:=0) (par:=true) rfl rfl rfl im @0,rfl,by rw[QbC,Qkx];rfl⟩ ?_;refine Ws (trS ks (fre f0 (orb x s (n+1))) s (orb x s (n+1)) (it x s n)) ⟨_,QgL (i:=2) (par:=false) (ds:=(orb x s n).map fun t=>pl t.1) (x:=pl (it x s n).1) (ρ1:=trS ks (fre f0 (orb x s (n+1))) s (orb x s n) (it x s n)) rfl rfl rfl (by rw[z01];lia),rfl,?_⟩ ?_
    ·show(trS ks (fre f0 (orb x s (n+1))) s (orb x s n) (it x s n)).set 2 (some (.own (.lst ((orb x s n).map (fun t=>pl t.1)++[pl (it x s n).1]))))=_;have:(orb x s n).map (fun t=>pl t.1)++[pl (it x s n).1]=(orb x s (n+1)).map fun t=>pl t.1:=by rw[QbC,z47];rfl
     rw[this];rfl
    exact⟨_,YL (Qy (args:=[dcs ks (fre f0 (orb x s (n+1))),psd (it x s n)]) rfl (Qkw hk (QaS hs n)) fun _=>rfl) rfl,rfl,ks.length - (n+1),by lia,n+1,rfl,le,nd2,rfl⟩
   ·have fi:=F.it hs n;have h:(f0 (it x s n) && !decide (it x s n∈orb x s n))=false:=h;rw[fi,h0,zs9] at h;have m:it x s n∈orb x s n:=by simpa using h
    refine⟨rfl,n,⟨hs,nd,?_,Qgq hs nd m⟩,rfl⟩
    cases n with
    |zero=>cases m
    |succ n=>lia
  ·rintro ρ ⟨n,R,rfl⟩
   exact⟨_,rfl,_,_,rfl,rfl,n,R,rfl,rfl⟩)
 obtain⟨d,ot,e,n,R,rfl,rfl⟩:=hh;exact⟨n,R,e⟩
end
variable {z:Z}
section
variable {ks:List Sdx}{t:Sdx}{par:Bool}{mv:ME}
theorem QgP (hi:ρ[i]? = some (some (mkS par (dcs ks fun _=>true))))(hv:mv ρ=.ok (.bl true,ρ))(hk:mk ρ=.ok (psd s,ρ))(hp:s∉ks)(hl:ks.length<8000):Qbs i mv mk ρ=.ok (.nx,ρ.set i (some (mkS par (dcs (ks++[s]) fun _=>true)))):=by
 unfold Qbs;rw[hv];show((Rs.of (Qcm ρ i)).bind fun _=>_)=_;rw[Qak hi];show((mk ρ).bind fun s=>_)=_;rw[hk];show((Rs.of (Qcm ρ i)).bind fun q=>_)=_;rw[Qak hi];show((Rs.of (Qcl (psd s))).bind fun k=>_)=_;rw[Qaj];show(if(ks.map Jo).length<z24 then _ else _)=_;rw[if_pos (by rw[z01];exact J0 hl),if_pos (by show(true && D.Jb (ks.map fun q=>D.bl true))=true;rw[Qgy ks fun _=>true];rfl)];dsimp only;rw[Qgx hp];rfl
def inS (ps:List P2):P2->Bool:=fun p=>decide (p∈ps)
theorem J3:∀p,inS ps p=true↔p∈ps:=fun p=>by unfold inS;exact decide_eq_true_iff
def soS (h:D)(c:Sl)(s2 s3 s4 s5:Option Sl):Rho:=[~~~h,some c,s2,s3,s4,s5]
abbrev aT (ks:List Sdx):D:=dcs ks fun _=>true
abbrev Qhe (x:P2->Bool)(s:Sdx):Bool:=!x (qd s.1 s.2.lf)
theorem Qef(h:l[i]? = some p):sds x (l.take (i+1))=sds x (l.take i)++(four p).filter (Qhe x):=by
 unfold sds;rw[z92,h,zq8,ze4];simp
theorem QbS:(sds x ps).length<=4 * ps.length:=by
 induction ps with
 |nil=>exact z15 _
 |cons p ps ih=>
  unfold sds at ih ⊢;rw[zj5,z10,z31];have:((four p).filter fun s=>!x (qd s.1 s.2.lf)).length<=(four p).length:=zf9 _ _;have l4:(four p).length=4:=rfl;lia
theorem QV {s:Option Sl}{ρ:Rho}(h:frO s):outs [] (s::ρ)=outs [] ρ:=by rcases h with rfl|⟨_,rfl⟩<;>rfl
theorem QmM(h:l.Nodup)(i:Nat):(l.take i).Nodup:=List.Sublist.nodup (zn3 i l) h
theorem Qib {ρ:Rho}(hi:ρ[1]? = some (some (.own (dct ps fun _=>true)))):Qj1 1 ρ=.ok (ps.map pl,ρ.set 1 (~~~(dct ps fun _=>true))):=by
 unfold Qj1;rw[Qcx (par:=false) hi];show(if _ then _ else _)=_;rw[if_pos ⟨rfl,by rw[za7];intro k hk;obtain⟨q,_,rfl⟩:=z37.mp hk;rfl⟩,z60];rfl
theorem Qdf (hn:ps.Nodup)(hl:ps.length<1000):Qa5 z [.lst (ps.map (plB b))]=.ok (aT (sds @33 ps)) []:=Ye (Jk (by
 dsimp only[VM];generalize hS:D.lst (ps.map (plB b))=sh;refine Ws (soS sh (.own (dct [] fun _=>true)) none none none none) ⟨_,rfl,rfl,rfl⟩ ?_;refine JK (fun ρ=>∃s2,ρ=soS sh (.own (dct ps fun _=>true)) s2 none none none/\frO s2) ?_ ?_
 ·refine JB (ds:=ps.map (plB b)) (ρ1:=soS sh (.own (dct [] fun _=>true)) none none none none) (fun i ρ=>∃s2,ρ=soS sh (.own (dct (ps.take i) fun _=>true)) s2 none none none/\frO s2) (QH (t:=.lst) @14 (by rw[← hS];rfl)) ⟨none,rfl,.inl rfl⟩ ?_ ?_
  ·rintro i d ρ hd ⟨s2,rfl,h2⟩;rw[z17] at hd;obtain⟨p,hp,rfl⟩:=z03.mp hd;refine⟨soS sh (.own (dct (ps.take i) fun _=>true)) (~~~(plB b p)) none none none,by rcases h2 with rfl|⟨_,rfl⟩<;>rfl,?_⟩;refine⟨_,QbQ (i:=1) (par:=false) rfl rfl (p:=p) ?_ (by rw[z48];lia),rfl,_,by rw[Qa8 hn i hp];rfl,.inr ⟨_,rfl⟩⟩;cases b<;>rfl
  ·rintro ρ ⟨s2,rfl,h2⟩;refine⟨rfl,s2,?_,h2⟩;rw[z01,z63]
 rintro ρ ⟨s2,rfl,h2⟩;refine Ws (soS sh (.own (dct ps fun _=>true)) s2 (some (.own (aT []))) none none) ⟨_,rfl,rfl,rfl⟩ ?_;refine JK (fun ρ=>∃s2 s4 s5,ρ=soS sh (.frz (dct ps fun _=>true)) s2 (some (.own (aT (sds @33 ps)))) s4 s5/\frO s2/\frO s4/\frO s5) ?_ ?_
 ·refine JB (ds:=ps.map pl) (ρ1:=soS sh (.frz (dct ps fun _=>true)) s2 (some (.own (aT []))) none none) (fun i ρ=>∃s2 s4 s5,ρ=soS sh (.frz (dct ps fun _=>true)) s2 (some (.own (aT (sds @33 (ps.take i))))) s4 s5/\frO s2/\frO s4/\frO s5) (Qib rfl) ⟨s2,none,none,rfl,h2,.inl rfl,.inl rfl⟩ ?_ ?_
  ·rintro i d ρ hd ⟨s2,s4,s5,rfl,h2,h4,h5⟩;rw[z17] at hd;obtain⟨p,hp,rfl⟩:=z03.mp hd;refine⟨soS sh (.frz (dct ps fun _=>true)) (~~~(pl p)) (some (.own (aT (sds @33 (ps.take i))))) s4 s5,by rcases h2 with rfl|⟨_,rfl⟩<;>rfl,?_⟩;have nd:(sds @33 (ps.take i)++(four p).filter (Qhe @33)).Nodup:=by rw[← Qef hp];exact Qcv (QmM hn _)
   have len:(sds @33 (ps.take i)).length<4000:=by
    have:=QbS (x:=inS ps) (ps:=ps.take i);rw[z48] at this;lia
   rw[Qef hp];generalize sds @33 (ps.take i)=K at nd len;refine JB (ds:=(four p).map fun s=>.nd .tup [pl (qd s.1 s.2.lf),psd s]) (ρ1:=soS sh (.frz (dct ps fun _=>true)) (~~~(pl p)) (some (.own (aT K))) s4 s5) (fun j ρ=>∃s4 s5,ρ=soS sh (.frz (dct ps fun _=>true)) (~~~(pl p)) (some (.own (aT (K++((four p).take j).filter (Qhe @33))))) s4 s5/\frO s4/\frO s5) (QH (t:=.lst) @14 (Qee rfl (args:=[pl p]) rfl rfl Qh8)) ⟨s4,s5,by simp,h4,h5⟩ ?_ ?_
   ·rintro j d ρ hd ⟨s4,s5,rfl,h4,h5⟩;rw[z17] at hd;obtain⟨s,hs,rfl⟩:=z03.mp hd;have tk:(four p).take (j+1)=(four p).take j++[s]:=by rw[z92,hs];rfl
    refine⟨soS sh (.frz (dct ps fun _=>true)) (~~~(pl p)) (some (.own (aT (K++((four p).take j).filter (Qhe @33))))) (~~~(pl (qd s.1 s.2.lf))) (~~~(psd s)),QgI rfl h4 rfl h5,?_⟩;generalize hr:soS sh (.frz (dct ps fun _=>true)) (~~~(pl p)) (some (.own (aT (K++((four p).take j).filter (Qhe @33))))) (~~~(pl (qd s.1 s.2.lf))) (~~~(psd s))=ρ';have tst:Jj (QjL not (mV 4) (mB 1)) ρ'=.ok (!decide (qd s.1 s.2.lf∈ps),ρ'):=QgN (y:=pl (qd s.1 s.2.lf)) (d:=dct ps fun _=>true) (ρ1:=ρ') (by rw[← hr];rfl) (by rw[← hr];rfl) QdZ;refine Jz (QaR tst)▸?_;subst hr;rw[tk,zs8,← z23];have eo:List.filter (Qhe @33) [s]=if(!decide (qd s.1 s.2.lf∈ps))=true then[s] else[]:=by rw[ze9];rfl
    rw[eo]
    cases c : !decide (qd s.1 s.2.lf∈ps) with
    |false=>
     rw[if_neg z19,if_neg z19,z50];exact⟨_,rfl,rfl,_,_,rfl,.inr ⟨_,rfl⟩,.inr ⟨_,rfl⟩⟩
    |true=>
     rw[if_pos rfl,if_pos rfl]
     have ni:s∉K++((four p).take j).filter (Qhe @33):=fun h=>by
      have e:four p=(four p).take j++s::(four p).drop (j+1):=by
       have:=z11.mp hs;rw[← this.2,y11,z33]
      rw[e,zs8,ze9,if_pos (show Qhe @33 s=true from c),← z23] at nd;exact(z12.mp nd).2.2 s h s z09 rfl
     refine⟨_,QgP (i:=3) (par:=false) (ks:=K++((four p).take j).filter (Qhe @33)) rfl rfl rfl ni ?_,rfl,_,_,rfl,.inr ⟨_,rfl⟩,.inr ⟨_,rfl⟩⟩;rw[z10];have h1:(((four p).take j).filter (Qhe @33)).length<=((four p).take j).length:=zf9 _ _;have h2:((four p).take j).length<=(four p).length:=List.length_take_le' _ _;have h3:(four p).length=4:=rfl;lia
   ·rintro ρ ⟨s4,s5,rfl,h4,h5⟩;refine⟨rfl,~~~(pl p),s4,s5,?_,.inr ⟨pl p,rfl⟩,h4,h5⟩;rw[z01,z63]
  ·rintro ρ ⟨s2,s4,s5,rfl,hh⟩;refine⟨rfl,s2,s4,s5,?_,hh⟩;rw[z01,z63]
 rintro ρ ⟨s2,s4,s5,rfl,h2,h4,h5⟩;refine⟨_,rfl,_,[],rfl,?_,rfl,rfl⟩;show outs [] [~~~(dct ps fun _=>true),s2,none,s4,s5]=_;show outs [] [s2,none,s4,s5]=_;rw[QV h2];show outs [] [s4,s5]=_
 rw[QV h4,QV h5];rfl))
end
variable {z:Z}
section
variable {ks:List Sdx}{t:Sdx}
def QmN (e:Ed):Sdx:=(e.1,if e.2.1=e.1.1 then(if e.1.2<e.2.2 then .e else .w) else if e.1.1<e.2.1 then .s else .n)
theorem Qeg:QmN (edg s)=s:=by
 obtain⟨⟨a,c⟩,d⟩:=s;cases d
 ·show((a,c),if a=a then(if c<c+1 then Dr.e else .w) else if a<a then .s else .n)=_;rw[if_pos rfl,if_pos @0]
 ·show((a,c),if a+1=a then(if c<c then Dr.e else .w) else if a<a+1 then .s else .n)=_;rw[if_neg @0,if_pos @0]
 ·show((a,c),if a=a then(if c<c - 1 then Dr.e else .w) else if a<a then .s else .n)=_;rw[if_pos rfl,if_neg @0]
 ·show((a,c),if a - 1=a then(if c<c then Dr.e else .w) else if a<a - 1 then .s else .n)=_;rw[if_neg @0,if_neg @0]
theorem Qic(h:es.Perm (ks.map edg)):∃ss:List Sdx,ss.Perm ks/\es=ss.map edg:=by
 refine⟨es.map QmN,?_,?_⟩
 ·have:=h.map QmN;rw[z60] at this;refine this.trans ?_;have:ks.map (QmN∘edg)=ks:=(z80 fun s _=>Qeg).trans (zr1 _);rw[this]
 ·rw[z60];refine(zr1 _).symm.trans (z80 fun e he=>?_);obtain⟨s,_,rfl⟩:=z37.mp (h.mem_iff.mp he);show _=edg (QmN (edg s));rw[Qeg];rfl
theorem Qid {f:Sdx->Bool}(hm:m ρ=.ok (dcs ks f,ρ))(hn:ks.Nodup)(hl:ks.length<=4000):∃ss:List Sdx,ss.Perm ks/\Jr (Qf9 (Qg m Qz)) ρ=.ok (ss.map psd,ρ):=by
 obtain⟨ss,h1,h2⟩:=Qic (ks:=ks) (Ql (lt:=Qey) (ks.map edg));refine⟨ss,h1,QH (t:=.lst) @14 ?_⟩;unfold Qf9;rw[Qk hm (show Qz ρ=.ok ([],ρ) from rfl)];show((Rs.of ((Qc4 (ks.map Jo)).bind fun ps=>if ps.Nodup/\ps.length<=4000 then some (Jh Qey ps) else none)).bind fun ps=>_)=_;rw[Qgz,z72,if_pos ⟨Qa4 hn fun a _ b _ e=>Qc9 e,by rw[z01];exact hl⟩,h2];show Rs.ok (D.lst ((ss.map edg).map pp),ρ)=_;rw[z60];rfl
def rmS (h:D)(ks:List Sdx)(f:Sdx->Bool)(os:List (List Sdx))(s:Option Sl):Rho:=[~~~h,some (.own (dcs ks f)),some (.own (.lst (os.map Qw))),s]
theorem Qkz (hn:ps.Nodup)(hl:ps.length<900):∃os f,Fre @33 f os/\(∀s∈sds @33 ps,f s=false)/\Qcw z [.lst (ps.map (plB b))]=.ok (.lst (os.map Qw)) []:=by
 have hh:FW (Qcw z [.lst (ps.map (plB b))]) fun d ot=>∃os f,Fre @33 f os/\(∀s∈sds @33 ps,f s=false)/\d=.lst (os.map Qw)/\ot=[]:=Jk (by
  dsimp only[QgF];have so:=Qdf (z:=z) (b:=b) hn @0;have knd:(sds @33 ps).Nodup:=Qcv hn;have hk:∀t,t∈sds @33 ps↔isS @33 t:=fun t=>Yd J3;have kl:(sds @33 ps).length<4000:=by have:=QbS (x:=inS ps) (ps:=ps);lia
  generalize inS ps=x at *;generalize sds x ps=ks at *;generalize D.lst (ps.map (plB b))=sh at *;refine Ws [~~~sh,some (.own (aT ks)),none,none] ⟨_,QeI (Qy (args:=[sh]) rfl so fun q=>by cases q) rfl,rfl,rfl⟩ ?_;refine Ws (rmS sh ks (fun _=>true) [] none) ⟨_,rfl,rfl,rfl⟩ ?_;obtain⟨ss,hp,hs⟩:=Qid (ρ:=rmS sh ks (fun _=>true) [] none) (ks:=ks) (f:=fun _=>true) (m:=mB 1) rfl knd @0;refine JK (fun ρ=>∃f os s,Fre x f os/\(∀s∈ks,f s=false)/\ρ=rmS sh ks f os s/\frO s) ?_ ?_
  ·refine JB (ds:=ss.map psd) (ρ1:=rmS sh ks (fun _=>true) [] none) (fun i ρ=>∃f os s,Fre x f os/\os.length<=i/\(∀s∈ss.take i,f s=false)/\ρ=rmS sh ks f os s/\frO s) hs ⟨_,[],none,.nil,z15 _,(fun _ h=>by simp at h),rfl,.inl rfl⟩ ?_ ?_
   ·rintro i d ρ hd ⟨f,os,s',F,lo,hf,rfl,hs'⟩;rw[z17] at hd;obtain⟨s,hi,rfl⟩:=z03.mp hd;have sk:s∈ks:=hp.mem_iff.mp (z38 hi)
    have li:i<4000:=by
     have:=(z11.mp hi).1;have:=hp.length_eq;lia
    have tk:ss.take (i+1)=ss.take i++[s]:=by rw[z92,hi];rfl
    refine⟨rmS sh ks f os (~~~(psd s)),by rcases hs' with rfl|⟨_,rfl⟩<;>rfl,?_⟩;have tst:Jj (mOp QiM (mB 1) (mV 3)) (rmS sh ks f os (~~~(psd s)))=.ok (f s,rmS sh ks f os (~~~(psd s))):=QL (op_eq (x:=dcs ks f) (y:=psd s) (ρ1:=rmS sh ks f os (~~~(psd s))) rfl rfl (ix4 sk));refine Jz (QaR tst)▸?_
    cases c:f s with
    |false=>
     rw[if_neg z19];refine⟨_,rfl,rfl,f,os,_,F,by lia,fun t ht=>?_,rfl,.inr ⟨_,rfl⟩⟩;rw[tk] at ht;rcases z08.mp ht with h|h
     ·exact hf t h
     ·rw[z16.mp h];exact c
    |true=>
     rw[if_pos rfl];obtain⟨n,R,tr⟩:=Qde (z:=z) hk kl F ((hk s).mp sk) c
     have ec:Jf false [some 1,none] (JL z) (Qg (mS 1) (Qg (mV 3) Qz)) (rmS sh ks f os (~~~(psd s)))=.ok (Qw (orb x s n),rmS sh ks (fre f (orb x s n)) os (~~~(psd s))):=by
      unfold Jf;rw[Qk (show mS 1 (rmS sh ks f os (~~~(psd s)))=.ok (dcs ks f,_) from rfl) (Qk (show mV 3 _=.ok (psd s,_) from rfl) (show Qz _=.ok ([],_) from rfl))]
      show(match JL z [dcs ks f,psd s] with
       |.ok d outs=>_
       |.ex c=>_
       |.no=>_)=_
      rw[tr];rfl
     refine⟨(.nx,rmS sh ks (fre f (orb x s n)) (os++[orb x s n]) (~~~(psd s))),?_,rfl,fre f (orb x s n),os++[orb x s n],_,F.step R c (fun t=>rfl),by rw[z10];show os.length+1<=_;lia,fun t ht=>?_,rfl,.inr ⟨_,rfl⟩⟩
     ·rw[QgL (i:=2) (par:=false) (ds:=os.map Qw) rfl ec rfl (by rw[z01];lia)];unfold rmS;rw[z47];rfl
     ·show(f t && !decide (t∈orb x s n))=false;rw[tk] at ht;rcases z08.mp ht with h|h
      ·rw[hf t h];rfl
      ·rw[z16.mp h,decide_eq_true (show s∈orb x s n from Jm.mpr ⟨0,R.po,rfl⟩)];simp
   ·rintro ρ ⟨f,os,s',F,lo,hf,rfl,hs'⟩;rw[z01,z63] at hf;exact⟨rfl,f,os,s',F,fun s h=>hf s (hp.mem_iff.mpr h),rfl,hs'⟩
  rintro ρ ⟨f,os,s',F,hf,rfl,hs'⟩;refine⟨_,rfl,_,[],rfl,?_,os,f,F,hf,rfl,rfl⟩;show outs [] [s']=_
  rw[QV hs'];rfl)
 obtain⟨d,ot,e,os,f,F,hf,rfl,rfl⟩:=hh;exact⟨os,f,F,hf,e⟩
end
variable {z:Z}
section
variable {H:Int->List Int}{r:Int}
def QgQ (cs:List Int)(H:Int->List Int):D:=.nd (.dK (cs.map .inl)) (cs.map fun c=>.lst ((H c).map .int))
theorem Qeh {F F':Int->D}{y:D}(h1:F' c=y)(h2:∀d,d≠c->F' d=F d):∀{cs:List Int},cs.Nodup->c∈cs->(cs.map F).set (cs.findIdx fun d=>decide (d=c)) y=cs.map F'/\(cs.map F)[cs.findIdx fun d=>decide (d=c)]? = some (F c)
 | [],_,h=>nomatch h
 |a::cs,hn,h=>by
  obtain⟨n1,n2⟩:=z39.mp hn;rw[zt6,z28,z28]
  by_cases e:a=c
  ·subst e;rw[decide_eq_true rfl];refine⟨?_,rfl⟩;show y::cs.map F=_;rw[← h1];exact congrArg _ (z80 fun d hd=>(h2 d fun q=>n1 (q▸hd)).symm)
  ·rw[decide_eq_false e];obtain⟨g1,g2⟩:=Qeh h1 h2 n2 ((z21.mp h).resolve_left fun q=>e q.symm);refine⟨?_,g2⟩;show F a::(cs.map F).set _ y=_;rw[g1,h2 a e]
theorem QgR:((cs.map zi5).any fun k=>decide (k=(zi5 c:Key)))=decide (c∈cs):=by
 by_cases h:c∈cs
 ·rw[decide_eq_true h,zo4];exact⟨.inl c,zr0 h,by simp⟩
 ·rw[decide_eq_false h,zt7];intro k hk e;obtain⟨q,hq,rfl⟩:=z37.mp hk;have e:=of_decide_eq_true e;injection e with e;exact h (e▸hq)
def Qei (H:Int->List Int)(c r:Int):Int->List Int:=fun d=>if d=c then H c++[r] else H d
def QiV (cs:List Int)(c:Int):List Int:=if c∈cs then cs else cs++[c]
theorem Qie (hi:ρ[i]? = some (some (.own (QgQ cs H))))(hn:cs.Nodup)(hk:mk ρ=.ok (.int c,ρ))(hm:∀d,m (ρ.set i d)=.ok (.int r,ρ.set i d))(hl:cs.length<8000)(hx:(H c).length<8000)(hc:c∉cs->H c=[]) :
  QdU i mk m ρ=.ok (.nx,ρ.set i (some (.own (QgQ (QiV cs c) (Qei H c r))))):=by
 have li:i<ρ.length:=(z11.mp hi).1;have dk:∀{ρ:Rho} {ks:List Key} {ds:List D},ρ[i]? = some (some (.own (.nd (.dK ks) ds)))->Qhc ρ i=some (false,ks,ds):=fun h=>by unfold Qhc;rw[h]
 have core:∀{ks':List Key} {ds':List D} {j:Nat} {xs:List D},sdR (cs.map .inl) (cs.map fun c=>.lst ((H c).map .int)) (.inl c)=(ks',ds',j)->ds'[j]? = some (.lst xs)->xs.length<8000->QdU i mk m ρ=.ok (.nx,ρ.set i (some (.own (.nd (.dK ks') (ds'.set j (.lst (xs++[.int r]))))))):=fun{ks' ds' j xs} e1 e2 e3=>by
  unfold QdU;rw[dk hi];show((mk ρ).bind fun r=>_)=_;rw[hk];show((Rs.of (Qhc ρ i)).bind fun q=>_)=_;rw[dk hi];show(if(cs.map zi5).length<z24 then _ else _)=_;rw[if_pos (by rw[z01];exact J0 hl)];dsimp only;rw[e1];show((Rs.of ((ds'[j]?).bind asL)).bind fun _=>_)=_;rw[e2];show((m (ρ.set i (some (mkS false (.nd (.dK ks') ds'))))).bind fun t=>_)=_;rw[hm];show((Rs.of (Qhc (ρ.set i (some (mkS false (.nd (.dK ks') ds')))) i)).bind fun q'=>_)=_;rw[dk (ks:=ks') (ds:=ds') (by rw[z87 li];rfl)];show((Rs.of ((ds'[j]?).bind asL)).bind fun xs=>_)=_;rw[e2];show(if xs.length<z24/\D.imm (.int r)=true then _ else _)=_;rw[if_pos ⟨J0 e3,rfl⟩];show Rs.ok (Fl.nx,(ρ.set i _).set i _)=_;rw[y15];rfl
 by_cases h:c∈cs
 ·have e:sdR (cs.map .inl) (cs.map fun c=>.lst ((H c).map .int)) (.inl c)=(cs.map .inl,cs.map fun c=>.lst ((H c).map .int),cs.findIdx fun d=>decide (d=c)):=by
   unfold sdR;rw[if_pos (by rw[QgR];exact decide_eq_true h),List.findIdx_map]
   have e0:(cs.findIdx ((fun x=>decide (x=(zi5 c:Key)))∘zi5))=cs.findIdx fun d=>decide (d=c):=by
    congr 1
    funext d
    exact decide_eq_decide.mpr ⟨fun q=>by injection q,fun q=>by rw[q]⟩
   rw[e0]
  obtain⟨g1,g2⟩:=Qeh (F:=fun c=>D.lst ((H c).map .int)) (F':=fun d=>D.lst ((Qei H c r d).map .int)) (y:=.lst ((H c).map .int++[.int r])) (c:=c) (by unfold Qei;rw[if_pos rfl,z47];rfl) (fun d hd=>by unfold Qei;rw[if_neg hd]) hn h;rw[core e g2 (by rw[z01];exact hx),g1];unfold QiV;rw[if_pos h];rfl
 ·have e:sdR (cs.map .inl) (cs.map fun c=>.lst ((H c).map .int)) (.inl c)=((cs++[c]).map .inl,(cs.map fun c=>.lst ((H c).map .int))++[.lst []],cs.length):=by
   unfold sdR;rw[if_neg (by rw[QgR,decide_eq_false h];exact z19),z47,z01];rfl
  rw[core e (xs:=[]) (by rw[z44 (by rw[z01];exact z15 _),z01,zk1];rfl) (by show 0<8000;lia)];unfold QiV QgQ
  have e3:∀y:D,((cs.map fun c=>D.lst ((H c).map .int))++[D.lst []]).set cs.length y=(cs.map fun c=>D.lst ((H c).map .int))++[y]:=fun y=>by
   rw[show cs.length=(cs.map fun c=>D.lst ((H c).map .int)).length from(z01 _).symm];simp
  rw[if_neg h,e3,z47 (l₁:=cs) (l₂:=[c]) (f:=fun d=>D.lst ((Qei H c r d).map .int))]
  have e1:(cs.map fun d=>D.lst ((Qei H c r d).map .int))=cs.map fun d=>D.lst ((H d).map .int):=z80 fun d hd=>by
   unfold Qei;rw[if_neg (show ¬ d=c from fun q=>h (by rw[← q];exact hd))]
  have e2:Qei H c r c=[r]:=by unfold Qei;rw[if_pos rfl,hc h];rfl
  rw[e1];show Rs.ok (Fl.nx,ρ.set i (some (.own (.nd _ (_++[D.lst [.int r]])))))=Rs.ok (Fl.nx,ρ.set i (some (.own (.nd _ (_++[D.lst ((Qei H c r c).map .int)])))));rw[e2];rfl
theorem QkA (h:cs.Nodup):(QiV cs c).Nodup:=by
 unfold QiV
 by_cases e:c∈cs
 ·rw[if_pos e];exact h
 ·rw[if_neg e];exact z12.mpr ⟨h,by simp,fun a ha b hb q=>e (by rw[z16] at hb;rw[← hb,← q];exact ha)⟩
theorem Qif {d:Int}:d∈QiV cs c↔d=c\/d∈cs:=by
 unfold QiV
 by_cases e:c∈cs
 ·rw[if_pos e];exact⟨.inr,fun h=>h.elim (fun q=>by rw[q];exact e) id⟩
 ·rw[if_neg e,z08,z16];exact Or.comm
theorem QgS{d:Int}:hts d (es++[e])=hts d es++if isH d e=true then[e.1.1] else[]:=by
 unfold hts;rw[zs8,z47,ze9]
 by_cases h:isH d e=true
 ·rw[if_pos h,if_pos h];rfl
 ·rw[if_neg h,if_neg h];rfl
structure Hok (cs:List Int)(es:List Ed):Prop where
 nd:cs.Nodup
 mem:∀c,c∈cs↔hts c es≠[]
theorem QgT{d:Int}:(hts d es).length<=es.length:=by
 unfold hts;rw[z01];exact zf9 _ _
theorem Hok.off(h:Hok cs es)(he:e.1.1≠e.2.1):Hok cs (es++[e])/\(fun d=>hts d (es++[e]))=fun d=>hts d es:=by
 have q:∀d,hts d (es++[e])=hts d es:=fun d=>by
  rw[QgS,if_neg (by unfold isH;rw[decide_eq_false fun z=>he z.1];exact z19),z50]
 exact⟨⟨h.nd,fun c=>by rw[q];exact h.mem c⟩,funext q⟩
theorem Hok.on(h:Hok cs es)(he:e.1.1=e.2.1):Hok (QiV cs (min e.1.2 e.2.2)) (es++[e])/\(fun d=>hts d (es++[e]))=Qei (fun d=>hts d es) (min e.1.2 e.2.2) e.1.1:=by
 have q:∀d,hts d (es++[e])=Qei (fun d=>hts d es) (min e.1.2 e.2.2) e.1.1 d:=fun d=>by
  rw[QgS];unfold Qei isH
  by_cases z:d=min e.1.2 e.2.2
  ·rw[if_pos (decide_eq_true ⟨he,z.symm⟩),if_pos z,← z]
  ·rw[if_neg (by rw[decide_eq_false fun w=>z w.2.symm];exact z19),if_neg z,z50]
 refine⟨⟨QkA h.nd,fun c=>?_⟩,funext q⟩;rw[Qif,q,h.mem];unfold Qei
 by_cases z:c=min e.1.2 e.2.2
 ·rw[if_pos z];exact⟨fun _=>by simp,fun _=>.inl z⟩
 ·rw[if_neg z];exact⟨fun w=>w.resolve_left z,.inr⟩
end
variable {z:Z}
section
variable {o:List Sdx}
def QeP (bb:Bool)(o:List Sdx):D:=.nd @31 (o.map fun t=>plB bb t.1)
def Qac (bb:Bool)(os:List (List Sdx)):D:=.nd @31 (os.map (QeP bb))
def edQ (bb:Bool)(e:Ed):D:=.tup [plB bb e.1,plB bb e.2]
theorem Qig:gQ (.nd @31 ds)=some (bb,ds):=by cases bb<;>rfl
theorem QiW {es:List D}:gQ2 [.nd @31 ds,.nd @31 es]=some (bb,ds,es):=by
 show(gQ (.nd @31 ds)).bind (fun q=>(gQ (.nd @31 es)).bind fun r=>if q.1=r.1 then some (q.1,q.2,r.2) else none)=_;rw[Qig,Qig];exact if_pos rfl
theorem QkB:Qha [.nd @31 ds]=some ds:=by cases bb<;>rfl
theorem Qph(h:m ρ=.ok (.nd @31 ds,ρ)):Jr m ρ=.ok (ds,ρ):=by
 unfold Jr;rw[h];show((Rs.of (Qha [.nd @31 ds])).bind _)=_;rw[QkB];rfl
theorem Qn9(h:m ρ=.ok (.nd @31 ds,ρ))(hl:2<=ds.length):QeO m (QbV @15) QeH ρ=.ok (.nd @31 (ds.drop 1),ρ):=by
 unfold QeO;rw[h];show((Rs.of (gQ (.nd @31 ds))).bind _)=_;rw[Qig]
 have e:HT.sIx ds.length 0 (some 1)=1:=by
  show min 1 ds.length=1;lia
 have e2:cutD ds (some 1) none=ds.drop 1:=by
  unfold cutD;rw[e];exact z86 (by rw[z93];exact z15 _)
 show(if bb=true->¬(HT.sIx ds.length 0 (some 1)=0/\_) then Rs.ok (D.nd @31 (cutD ds (some 1) none),ρ) else _)=_;rw[if_pos (fun _ q=>by rw[e] at q;lia),e2]
theorem Qoa(h:m ρ=.ok (.nd @31 ds,ρ))(hl:2<=ds.length):QeO m QeH (QbV @15) ρ=.ok (.nd @31 (ds.take 1),ρ):=by
 unfold QeO;rw[h];show((Rs.of (gQ (.nd @31 ds))).bind _)=_;rw[Qig]
 have e:HT.sIx ds.length ds.length (some 1)=1:=by
  show min 1 ds.length=1;lia
 have e2:cutD ds none (some 1)=ds.take 1:=by
  unfold cutD;rw[e];rfl
 show(if bb=true->¬(_/\HT.sIx ds.length ds.length (some 1)=ds.length) then Rs.ok (D.nd @31 (cutD ds none (some 1)),ρ) else _)=_;rw[if_pos (fun _ q=>by rw[e] at q;lia),e2]
theorem QkC(R:Rnd x s n)(hn:2<=n)(hb:n<4000)(h:m ρ=.ok (QeP bb (orb x s n),ρ)) :
  Qgh (Qg m (Qg (QhZ (QeO m (QbV @15) QeH) (QeO m QeH (QbV @15))) Qz)) ρ=.ok (((orb x s n).map edg).map (edQ bb),ρ):=by
 have lo:((orb x s n).map fun t=>plB bb t.1).length=n:=by unfold orb;simp
 have ha:=Qn9 h (by rw[lo];exact hn);have hb':=Qoa h (by rw[lo];exact hn)
 have hc:QhZ (QeO m (QbV @15) QeH) (QeO m QeH (QbV @15)) ρ=.ok (.nd @31 (((orb x s n).map fun t=>plB bb t.1).drop 1++((orb x s n).map fun t=>plB bb t.1).take 1),ρ):=by
  unfold QhZ;rw[ha];show((QeO m QeH (QbV @15) ρ).bind fun r2=>_)=_;rw[hb'];show((Rs.of (gQ2 [.nd @31 (((orb x s n).map fun t=>plB bb t.1).drop 1),.nd @31 (((orb x s n).map fun t=>plB bb t.1).take 1)])).bind _)=_;rw[QiW];show(if _/\_ then _ else _)=_;refine if_pos ⟨by show(((orb x s n).map fun t=>plB bb t.1).drop 1).length+(((orb x s n).map fun t=>plB bb t.1).take 1).length<=_;rw[z93,z48,lo];exact za3 (J0 @0),fun _=>⟨fun q=>?_,fun q=>?_⟩⟩
  ·have:=congrArg zd5 (show((orb x s n).map fun t=>plB bb t.1).drop 1=[] from q);rw[z93,lo,zi2] at this;lia
  ·have:=congrArg zd5 (show((orb x s n).map fun t=>plB bb t.1).take 1=[] from q);rw[z48,lo,zi2] at this;lia
 unfold Qgh;rw[Qk h (Qk hc (show Qz ρ=.ok ([],ρ) from rfl))];show((Rs.of (gQ2 [.nd @31 ((orb x s n).map fun t=>plB bb t.1),.nd @31 (((orb x s n).map fun t=>plB bb t.1).drop 1++((orb x s n).map fun t=>plB bb t.1).take 1)])).bind _)=_;rw[QiW];show Rs.ok (Qhd _ _,ρ)=_;refine congrArg (fun q=>Rs.ok (q,ρ)) ?_;unfold Qhd;have oz:=Qkl R;have mm:((orb x s n).map fun t=>plB bb t.1)=((orb x s n).map zg5).map (plB bb):=by rw[z60];rfl
 dsimp only;rw[mm,← List.map_drop,← List.map_take,← z47,List.zip_map,oz,z60];rfl
theorem Qih {l r:List Int}(hl:l.Nodup)(h:∀x∈l,x∈r):l.length<=r.length:=by
 induction l generalizing r with
 |nil=>exact z58 _
 |cons a l ih=>
  obtain⟨n,nd⟩:=z39.mp hl;have:=ih (r:=r.erase a) nd fun x hx=>(zk9 (fun e=>n (by rw[← e];exact hx))).mpr (h x (z07 _ hx));have ha:=h a z09;rw[zh8 ha] at this;have:=zi9 ha;rw[z31];lia
theorem QkD(R:Rnd x s n):2<=n:=by
 have:=R.po;rcases z85 n 2 with h|h
 ·have e:n=1:=by lia
  subst e;have:=congrArg zg5 R.rd;have h1:mv s.1 s.2=s.1:=this;obtain⟨⟨a,b⟩,d⟩:=s;cases d<;>simp only[mv,zn1] at h1<;>lia
 ·exact h
def hoS (h:D)(cs:List Int)(es:List Ed)(s2 s3 s4:Option Sl):Rho:=[~~~h,some (.own (QgQ cs fun d=>hts d es)),s2,s3,s4]
theorem Qdg:gIx (plB bb p) (.int 0)=some (.int p.1):=by cases bb<;>rfl
theorem QgU:gIx (plB bb p) (.int 1)=some (.int p.2):=by cases bb<;>rfl
theorem QeJ (hr:∀o∈os,∃s k,Rnd x s k/\o=orb x s k)(hl:os.flatten.length<4000):∃cs,Hok cs (os.flatten.map edg)/\Yh z [Qac bb os]=.ok (QgQ cs fun d=>hts d (os.flatten.map edg)) []:=by
 have hh:FW (Yh z [Qac bb os]) fun d ot=>∃cs,Hok cs (os.flatten.map edg)/\d=QgQ cs (fun d=>hts d (os.flatten.map edg))/\ot=[]:=Jk (by
  dsimp only[Yg];generalize hS:Qac bb os=sh;refine Ws (hoS sh [] [] none none none) ⟨_,rfl,rfl,rfl⟩ ?_;refine JK (fun ρ=>∃cs s2 s3 s4,Hok cs (os.flatten.map edg)/\ρ=hoS sh cs (os.flatten.map edg) s2 s3 s4/\frO s2/\frO s3/\frO s4) ?_ ?_
  ·refine JB (ds:=os.map (QeP bb)) (ρ1:=hoS sh [] [] none none none) (fun i ρ=>∃cs s2 s3 s4,Hok cs ((os.take i).flatten.map edg)/\ρ=hoS sh cs ((os.take i).flatten.map edg) s2 s3 s4/\frO s2/\frO s3/\frO s4) (Qph (bb:=bb) (by rw[← hS];rfl)) ⟨[],none,none,none,⟨.nil,fun c=>⟨(fun h=>nomatch h),fun h=>absurd rfl h⟩⟩,rfl,.inl rfl,.inl rfl,.inl rfl⟩ ?_ ?_
   ·rintro i d ρ hd ⟨cs,s2,s3,s4,K,rfl,h2,h3,h4⟩;rw[z17] at hd;obtain⟨o,ho,rfl⟩:=z03.mp hd;obtain⟨s,k,R,eo⟩:=hr o (z38 ho);have tk:((os.take (i+1)).flatten).map edg=(os.take i).flatten.map edg++o.map edg:=by rw[z92,ho,z55,z47];simp
    have ll:((os.take i).flatten.map edg).length+(o.map edg).length<4000:=by
     rw[← z10,← tk,z01];have:(os.take (i+1)).flatten.length+(os.drop (i+1)).flatten.length=os.flatten.length:=by rw[← z10,← z55,z33]
     lia
    rw[tk];generalize (os.take i).flatten.map edg=es at K ll;refine⟨hoS sh cs es (~~~(QeP bb o)) s3 s4,by rcases h2 with rfl|⟨_,rfl⟩<;>rfl,?_⟩
    have ok:k<4000:=by
     rw[eo,z01] at ll;unfold orb at ll;rw[z01,z52] at ll;lia
    refine JB (ds:=(o.map edg).map (edQ bb)) (ρ1:=hoS sh cs es (~~~(QeP bb o)) s3 s4) (fun j ρ=>∃cs s3 s4,Hok cs (es++(o.map edg).take j)/\ρ=hoS sh cs (es++(o.map edg).take j) (~~~(QeP bb o)) s3 s4/\frO s3/\frO s4) (by subst eo;exact QkC R (QkD R) ok rfl) ⟨cs,s3,s4,by rw[zh1,z50];exact K,by rw[zh1,z50],h3,h4⟩ ?_ ?_
    ·rintro j d ρ hd ⟨cs,s3,s4,K,rfl,h3,h4⟩;rw[z17] at hd;obtain⟨e,he,rfl⟩:=z03.mp hd;have tj:es++(o.map edg).take (j+1)=(es++(o.map edg).take j)++[e]:=by rw[z92,he,z23];rfl
     have lj:(es++(o.map edg).take j).length<4000:=by rw[z10,z48];lia
     rw[tj];generalize es++(o.map edg).take j=fs at K lj;refine⟨hoS sh cs fs (~~~(QeP bb o)) (~~~(plB bb e.1)) (~~~(plB bb e.2)),QgI rfl h3 rfl h4,?_⟩;generalize hr:hoS sh cs fs (~~~(QeP bb o)) (~~~(plB bb e.1)) (~~~(plB bb e.2))=ρ';have v3:mV 3 ρ'=.ok (plB bb e.1,ρ'):=by rw[← hr];rfl
     have v4:mV 4 ρ'=.ok (plB bb e.2,ρ'):=by rw[← hr];rfl
     have tst:Jj (mOp gEq (mOp gIx (mV 3) (mC (.int 0))) (mOp gIx (mV 4) (mC (.int 0)))) ρ'=.ok (decide (e.1.1=e.2.1),ρ'):=QL (op_eq (op_eq v3 (show mC (.int 0) ρ'=.ok (.int 0,ρ') from rfl) Qdg) (op_eq v4 (show mC (.int 0) ρ'=.ok (.int 0,ρ') from rfl) Qdg) VL);refine Jz (QaR tst)▸?_
     by_cases c:e.1.1=e.2.1
     ·obtain⟨K2,e2⟩:=K.on c;rw[decide_eq_true c,if_pos rfl]
      have mn:Vt (gI2 fun i j=>if j<i then j else i) (Qg (mOp gIx (mV 3) @15) (Qg (mOp gIx (mV 4) @15) Qz)) ρ'=.ok (.int (min e.1.2 e.2.2),ρ'):=JQ (Qk (op_eq v3 (show mC (.int 1) ρ'=.ok (.int 1,ρ') from rfl) QgU) (Qk (op_eq v4 (show mC (.int 1) ρ'=.ok (.int 1,ρ') from rfl) QgU) (show Qz ρ'=.ok ([],ρ') from rfl))) (by
       show some (D.int (if e.2.2<e.1.2 then e.2.2 else e.1.2))=_
       congr 2
       by_cases q:e.2.2<e.1.2
       ·rw[if_pos q];lia
       ·rw[if_neg q];lia)
      have cl:cs.length<=fs.length:=by
       have h1:∀c∈cs,c∈fs.map fun e=>min e.1.2 e.2.2:=fun c hc=>by
        obtain⟨r,hr'⟩:=zy8 _ ((K.mem c).mp hc);unfold hts at hr';obtain⟨e',he',_⟩:=z37.mp hr';obtain⟨m1,m2⟩:=z77.mp he';exact z37.mpr ⟨e',m1,(of_decide_eq_true m2).2⟩
       have:=Qih K.nd h1;rw[z01] at this;exact this
      have sa:=Qie (i:=1) (ρ:=ρ') (cs:=cs) (H:=fun d=>hts d fs) (c:=min e.1.2 e.2.2) (r:=e.1.1) (m:=mOp gIx (mV 3) (mC (.int 0))) (by rw[← hr];rfl) K.nd mn (fun d=>by
       rw[← hr]
       exact op_eq (show mV 3 _=.ok (plB bb e.1,_) from rfl) (show mC (.int 0) _=.ok (.int 0,_) from rfl) Qdg) @0 (zm5 QgT @0) (fun q=>zz1 fun w=>q ((K.mem _).mpr w))
      refine⟨_,sa,rfl,_,_,_,K2,?_,.inr ⟨plB bb e.1,rfl⟩,.inr ⟨plB bb e.2,rfl⟩⟩;rw[← hr];unfold hoS;rw[e2];rfl
     ·obtain⟨K2,e2⟩:=K.off c;rw[decide_eq_false c,if_neg z19];refine⟨(.nx,ρ'),rfl,rfl,cs,_,_,K2,?_,.inr ⟨plB bb e.1,rfl⟩,.inr ⟨plB bb e.2,rfl⟩⟩;rw[← hr];unfold hoS;rw[e2]
    ·rintro ρ ⟨cs,s3,s4,K,rfl,h3,h4⟩;rw[z01,z63] at K;refine⟨rfl,cs,~~~(QeP bb o),s3,s4,K,?_,.inr ⟨QeP bb o,rfl⟩,h3,h4⟩;rw[z01,z63]
   ·rintro ρ ⟨cs,s2,s3,s4,K,rfl,hh⟩;rw[z01,z63] at K;refine⟨rfl,cs,s2,s3,s4,K,?_,hh⟩;rw[z01,z63]
  rintro ρ ⟨cs,s2,s3,s4,K,rfl,h2,h3,h4⟩;refine⟨_,rfl,_,[],rfl,?_,cs,K,rfl,rfl⟩;show outs [] [s2,s3,s4]=_
  rw[QV h2,QV h3,QV h4];rfl)
 obtain⟨d,ot,e,cs,K,rfl,rfl⟩:=hh;exact⟨cs,K,e⟩
end
variable {z:Z}
section
variable {hs:List Int}
def pk(a:Nat)(xs:List α)(m:Nat):List α:=(z41 m).filterMap fun k=>xs[a+2 * k]?
def prs {α:Type}:List α->List (α×α)
 |a::b::t=>(a,b)::prs t
 |_=>[]
theorem QgV{a m:Nat}{p q:α}{t:List α}:pk a (p::q::t) (m+1)=((p::q::t)[a]?).toList++pk a t m:=by
 unfold pk;rw[zi8,z81,zf4]
 have e:(fun k=>(p::q::t)[a+2 * k]?)∘Nat.succ=fun k=>t[a+2 * k]?:=by
  funext k
  show(p::q::t)[a+2 * (k+1)]? = _;rw[show a+2 * (k+1)=(a+2 * k)+1+1 by lia];rfl
 rw[e];show(match (p::q::t)[a]? with|none=>_|some b=>_)=_;cases(p::q::t)[a]?<;>rfl
theorem QgW {α:Type}{a b:α}:∀{hs:List α},(a,b)∈prs hs->a∈hs/\b∈hs
 | [],h=>nomatch h
 | [_],h=>nomatch h
 |p::q::t,h=>by
  rcases z21.mp h with h|h
  ·cases h;exact⟨z09,z07 _ z09⟩
  ·obtain⟨h1,h2⟩:=QgW h;exact⟨z07 _ (z07 _ h1),z07 _ (z07 _ h2)⟩
theorem QgX {α:Type}:∀(m:Nat) (xs:List α),xs.length=2 * m->(pk 0 xs m).zip (pk 1 xs m)=prs xs
 |0,[],_=>rfl
 |0,_::_,h=>by simp at h
 |m+1,[],h=>by simp at h
 |m+1,[_],h=>by simp at h;lia
 |m+1,p::q::t,h=>by
  rw[QgV,QgV];show(p,q)::(pk 0 t m).zip (pk 1 t m)=_;rw[QgX m t (by simp at h;lia)];rfl
theorem QmO{xs:List α}{m:Nat}(h:xs.length=2 * m):JC xs none (some 2)=pk 0 xs m:=by
 unfold JC pk;show(sliceRange 0 (xs.length:Int) 2).filterMap _=_;unfold sliceRange
 have e:(if(2:Int) > 0 then(if(0:Int)<(xs.length:Int) then((xs.length:Int) - 0+2 - 1) / 2 else 0) else(if(0:Int) > xs.length then(0 - (xs.length:Int) - 2 - 1) / (-2) else 0)).toNat=m:=by
  rw[if_pos @2]
  by_cases q:(0:Int)<(xs.length:Int)
  ·rw[if_pos q];lia
  ·rw[if_neg q];lia
 dsimp only;rw[e,zf4]
 have e2:((xs[·]?)∘fun(k:Nat)=>((0:Int)+2 * (k:Int)).toNat)=fun k=>xs[0+2 * k]?:=by
  funext k
  show xs[((0:Int)+2 * (k:Int)).toNat]? = _;rw[show((0:Int)+2 * (k:Int)).toNat=0+2 * k by lia]
 rw[e2]
theorem QmP{xs:List α}{m:Nat}(h:xs.length=2 * m):JC xs (some 1) (some 2)=pk 1 xs m:=by
 unfold JC pk;show(sliceRange (max 0 (min 1 (xs.length:Int))) (xs.length:Int) 2).filterMap _=_;unfold sliceRange
 by_cases q:m=0
 ·subst q;have e:xs=[]:=ze3.mp h;subst e;rfl
 have e0:max 0 (min 1 (xs.length:Int))=1:=by lia
 rw[e0]
 have e:(if(2:Int) > 0 then(if(1:Int)<(xs.length:Int) then((xs.length:Int) - 1+2 - 1) / 2 else 0) else(if(1:Int) > xs.length then(1 - (xs.length:Int) - 2 - 1) / (-2) else 0)).toNat=m:=by
  rw[if_pos @2,if_pos @0];lia
 dsimp only;rw[e,zf4]
 have e2:((xs[·]?)∘fun(k:Nat)=>((1:Int)+2 * (k:Int)).toNat)=fun k=>xs[1+2 * k]?:=by
  funext k
  show xs[((1:Int)+2 * (k:Int)).toNat]? = _;rw[show((1:Int)+2 * (k:Int)).toNat=1+2 * k by lia]
 rw[e2]
theorem QiX {β:Type}{f:α->β}{a m:Nat}{xs:List α}:pk a (xs.map f) m=(pk a xs m).map f:=by
 unfold pk;rw[y42]
 congr 1
 funext k
 rw[z17]
theorem QbT{xs:List D}{par:Bool}(h0:Qbq ρ i=some (par,xs))(e:m ρ=.ok (.lst ds,ρ))(hl:xs.length+ds.length<8000)(hi:D.Jb ds=true):Qh0 i m ρ=.ok (.nx,ρ.set i (some (mkS par (.lst (xs++ds))))):=by
 unfold Qh0;rw[h0];show((m ρ).bind _)=_;rw[e];show((Rs.of (Qbq ρ i)).bind _)=_;rw[h0];show(if xs.length+ds.length<=z24/\D.Jb ds=true then _ else _)=_;rw[if_pos ⟨za3 (J0 hl),hi⟩]
theorem Jc {ps:List P2}:D.Jb @29=true:=J7 fun d hd=>by
 obtain⟨_,_,rfl⟩:=z37.mp hd;rfl
def QcD (c:Int)(ab:Int×Int):List P2:=(z41 (ab.2 - ab.1).toNat).map fun i:Nat=>(ab.1+i,c)
theorem QgY:∀(hs:List Int),(rgs hs).map (fun r=>(r,c))=(prs hs).flatMap (QcD c)
 | []=>rfl
 | [_]=>rfl
 |a::b::t=>by
  unfold rgs prs;rw[z47,QgY t,zj5,z60];rfl
def pcS (c:Int)(hs:List Int)(ps:List P2)(s3 s4:Option Sl):Rho:=[~~~(.int c),~~~(.lst (hs.map .int)),some (.own (.lst @29)),s3,s4]
theorem QgZ {m:Nat}(hm:hs.length=2 * m)(hb:∀h∈hs,-(2 ^ 62)<=h/\h<2 ^ 62)(hl:(rgs hs).length<8000):Jw z [.int c,.lst (hs.map .int)]=.ok (.lst (((rgs hs).map fun r=>(r,c)).map pl)) []:=Ye (Jk (by
 dsimp only[Q4];refine Ws (pcS c hs [] none none) ⟨_,rfl,rfl,rfl⟩ ?_;refine JK (fun ρ=>∃s3 s4,ρ=pcS c hs ((rgs hs).map fun r=>(r,c)) s3 s4/\frO s3/\frO s4) ?_ ?_
 ·have lh:(hs.map D.int).length=2 * m:=by rw[z01];exact hm
  have z0:∀{ρ:Rho},mV 1 ρ=.ok (.lst (hs.map .int),ρ)->Qgh (Qg (Yb (mV 1) QeH (QbV (mC (.int 2)))) (Qg (Yb (mV 1) (QbV @15) (QbV (mC (.int 2)))) Qz)) ρ=.ok ((prs hs).map fun ab=>.tup [.int ab.1,.int ab.2],ρ):=fun{ρ} h=>by
   have a1:Yb (mV 1) QeH (QbV (mC (.int 2))) ρ=.ok (.lst ((pk 0 hs m).map .int),ρ):=by
    unfold Yb;rw[h];show(if some (2:Int)≠some 0 then Rs.ok (D.lst (JC (hs.map D.int) none (some 2)),ρ) else Rs.no)=_;rw[QmO lh,QiX,if_pos @2]
   have a2:Yb (mV 1) (QbV @15) (QbV (mC (.int 2))) ρ=.ok (.lst ((pk 1 hs m).map .int),ρ):=by
    unfold Yb;rw[h];show(if some (2:Int)≠some 0 then Rs.ok (D.lst (JC (hs.map D.int) (some 1) (some 2)),ρ) else Rs.no)=_;rw[QmP lh,QiX,if_pos @2]
   unfold Qgh;rw[Qk a1 (Qk a2 (show Qz ρ=.ok ([],ρ) from rfl))];show Rs.ok (Qhd ((pk 0 hs m).map .int) ((pk 1 hs m).map .int),ρ)=_;unfold Qhd;rw[List.zip_map,QgX m hs hm,z60];rfl
  have tot:=QgY (c:=c) hs;refine JB (ds:=(prs hs).map fun ab=>.tup [.int ab.1,.int ab.2]) (ρ1:=pcS c hs [] none none) (fun i ρ=>∃s3 s4,ρ=pcS c hs (((prs hs).take i).flatMap (QcD c)) s3 s4/\frO s3/\frO s4) (z0 rfl) ⟨none,none,rfl,.inl rfl,.inl rfl⟩ ?_ ?_
  ·rintro i d ρ hd ⟨s3,s4,rfl,h3,h4⟩;rw[z17] at hd;obtain⟨⟨a,b⟩,hp,rfl⟩:=z03.mp hd;have tk:((prs hs).take (i+1)).flatMap (QcD c)=((prs hs).take i).flatMap (QcD c)++QcD c (a,b):=by rw[z92,hp,ze4];simp
   have ll:(((prs hs).take i).flatMap (QcD c)).length+(QcD c (a,b)).length<8000:=by
    rw[← z10,← tk];have:(((prs hs).take (i+1)).flatMap (QcD c)).length+(((prs hs).drop (i+1)).flatMap (QcD c)).length=((prs hs).flatMap (QcD c)).length:=by rw[← z10,← ze4,z33]
    rw[← tot,z01] at this;lia
   obtain⟨ma,mb⟩:=QgW (z38 hp);have ba:=hb a ma;have bbb:=hb b mb;rw[tk];generalize ((prs hs).take i).flatMap (QcD c)=ps at ll;refine⟨pcS c hs ps (~~~(.int a)) (~~~(.int b)),QgI rfl h3 rfl h4,?_⟩;generalize hr:pcS c hs ps (~~~(.int a)) (~~~(.int b))=ρ';have lr:(QcD c (a,b)).length=(b - a).toNat:=by unfold QcD;rw[z01,z52]
   have cm:=comp_map (par:=false) (cs:=[.me,.fz 0]) (j:=0) (mi:=QjM (Qg (mV 3) (Qg (mV 4) Qz))) (te:=mI (QcU (Qg (mV 0) (Qg (mV 1) Qz)))) (g:=fun d=>.tup [d,.int c]) (ρ:=ρ') (ρ1:=ρ') (ρb:=[none,~~~(.int c)]) (ds:=(z41 (b - a).toNat).map fun j=>.int (a+(j:Nat))) (di:=[]) (os:=[]) (by
    rw[← hr];unfold QjM;show((Rs.of (QhM [.int a,.int b])).bind _)=_
    rw[show QhM [.int a,.int b]=some (a,b) from if_pos ⟨ba.1,ba.2,bbb.1,bbb.2⟩];rfl) rfl (by rw[← hr];rfl) (fun d hd=>by
    obtain⟨j,_,rfl⟩:=z37.mp hd
    exact⟨[~~~(.int (a+(j:Nat))),~~~(.int c)],rfl,rfl,rfl⟩) (by rw[z01,z52,← lr];exact za3 (J0 @0)) rfl (by rw[← hr];rfl)
   have em:((z41 (b - a).toNat).map fun j=>D.int (a+(j:Nat))).map (fun d=>D.tup [d,.int c])=(QcD c (a,b)).map pl:=by
    unfold QcD;rw[z60,z60];rfl
   rw[em] at cm;refine⟨(.nx,pcS c hs (ps++QcD c (a,b)) (~~~(.int a)) (~~~(.int b))),?_,rfl,_,_,rfl,.inr ⟨.int a,rfl⟩,.inr ⟨.int b,rfl⟩⟩;rw[QbT (i:=2) (par:=false) (xs:=ps.map pl) (by rw[← hr];rfl) cm (by rw[z01,z01];exact ll) Jc,← hr,← z47];rfl
  ·rintro ρ ⟨s3,s4,rfl,hh⟩;refine⟨rfl,s3,s4,?_,hh⟩;rw[z01,z63,tot]
 rintro ρ ⟨s3,s4,rfl,h3,h4⟩;refine⟨_,rfl,_,[],rfl,?_,rfl,rfl⟩;show outs [] [s3,s4]=_
 rw[QV h3,QV h4];rfl))
end
variable {z:Z}
section
variable {H:Int->List Int}
theorem QmQ:∀{cs:List Int},c∈cs->Y9 (cs.map (zi5:Int->Key)) (cs.map fun c=>D.lst ((H c).map .int)) (.inl c)=some (.lst ((H c).map .int))
 | [],h=>nomatch h
 |k::cs,h=>by
  rw[z28,z28,Y9]
  by_cases e:k=c
  ·subst e;rw[if_pos rfl]
  ·rw[if_neg fun z=>e (by injection z)];exact QmQ ((z21.mp h).resolve_left fun z=>e z.symm)
theorem ixK (h:c∈cs):QiM (QgQ cs H) (.int c)=some (.lst ((H c).map .int)):=by
 show Y9 (cs.map zi5) (cs.map fun c=>D.lst ((H c).map .int)) (.inl c)=_;exact QmQ h
theorem Qii(h:m ρ=.ok (.lst (ns.map .int),ρ))(hn:ns.Nodup)(hl:ns.length<=4000):Qgf (Qg m Qz) ρ=.ok (.lst ((Jh ltZ ns).map .int),ρ):=by
 unfold Qgf;rw[Qk h (show Qz ρ=.ok ([],ρ) from rfl)];show((Rs.of ((Qmr (ns.map D.int)).bind fun ns=>if ns.Nodup/\ns.length<=4000 then some (Jh ltZ ns) else none)).bind _)=_;rw[QdV,z72,if_pos ⟨hn,hl⟩];rfl
theorem Qej{ps:List P2}(h:m ρ=.ok (.lst @29,ρ))(hn:ps.Nodup)(hl:ps.length<=4000):QdQ (Qg m Qz) ρ=.ok (.lst ((Jh ltP ps).map pl),ρ):=by
 unfold QdQ;rw[Qk h (show Qz ρ=.ok ([],ρ) from rfl)];show((Rs.of ((plL @29).bind fun ps=>if ps.Nodup/\ps.length<=4000 then some (Jh ltP ps) else none)).bind fun ps=>_)=_;rw[Qbw,z72,if_pos ⟨hn,hl⟩];rfl
theorem QmR {l:List Int}(h:l.Pairwise fun a b=>ltZ a b=true):l.Pairwise (· < ·):=h.imp fun h=>of_decide_eq_true h
def QkE (h:D)(cs:List Int)(H:Int->List Int)(qs:List P2)(s:Option Sl):Rho:=[~~~h,~~~(QgQ cs H),some (.own (.lst (qs.map pl))),s]
theorem Qg0 (hn:ps.Nodup)(hl:ps.length<900)(hb:∀p∈ps,-1000000<=p.1/\p.1<=1000000)(hr:∀o∈os,∃s k,Rnd @33 s k/\o=orb @33 s k)(hp:os.flatten.Perm (sds @33 ps)) :
  QbI z [Qac bb os]=.ok (.lst ((Jh ltP ps).map pl)) []:=Ye (Jk (by
 dsimp only[QbH];have he:(os.flatten.map edg).Perm ((sds @33 ps).map edg):=hp.map _;have fl:os.flatten.length<4000:=by have:=QbS (x:=inS ps) (ps:=ps);rw[hp.length_eq];lia
 obtain⟨cs,K,eh⟩:=QeJ (z:=z) (bb:=bb) hr fl;generalize Qac bb os=sh at eh ⊢;have el:(os.flatten.map edg).length<4000:=by rw[z01];exact fl
 generalize os.flatten.map edg=es at he K eh el;have nd:∀c,(hts c es).Nodup:=fun c=>(QbD he).nodup_iff.mpr (QiQ J3 hn);have pw:∀c,(Jh ltZ @30).Pairwise (· < ·):=fun c=>QmR (Q9 QhW (nd c));have pm:∀c,(Jh ltZ @30).Perm @30:=fun c=>Ql _;have io:=Qkn (H:=fun c=>Jh ltZ @30) J3 hn he K.nd K.mem pw pm;have ind:=Qda (H:=fun c=>Jh ltZ @30) pw K.nd
 have il:(QbE cs fun c=>Jh ltZ @30).length=ps.length:=by
  have h1:=(Ql (lt:=ltP) (QbE cs fun c=>Jh ltZ @30)).length_eq;rw[io] at h1;exact h1.symm.trans (Ql ps).length_eq
 have ev:∀c,∃n,(Jh ltZ @30).length=2 * n:=fun c=>by
  obtain⟨n,e⟩:=Qd4 J3 hn he c;exact⟨n,(pm c).length_eq.trans e⟩
 have bd:∀c,∀h∈Jh ltZ @30,-(2 ^ 62)<=h/\h<2 ^ 62:=fun c h hh=>by
  have h1:=(QbD he).mem_iff.mp ((pm c).mem_iff.mp hh);have h2:=(Qgs J3).mp h1
  cases e1:inS ps (h,c) with
  |true=>
   have h3 : -1000000<=h/\h<=1000000:=hb _ ((J3 _).mp e1);lia
  |false=>
   cases e2:inS ps (h - 1,c) with
   |true=>
    have h3 : -1000000<=h - 1/\h - 1<=1000000:=hb _ ((J3 _).mp e2);lia
   |false=>rw[e1,e2] at h2;exact absurd rfl h2
 refine Ws [~~~sh,some (.own (QgQ cs fun d=>hts d es)),none,none] ⟨_,QeI (Qy (args:=[sh]) rfl eh fun q=>by cases q) rfl,rfl,rfl⟩ ?_;refine Ws [~~~sh,some (.own (QgQ cs fun d=>hts d es)),some (.own (.lst [])),none] ⟨_,rfl,rfl,rfl⟩ ?_
 have ik:∀(l:List Int) (d:Int),d∈l->(rgs (Jh ltZ (hts d es))).length<=(QbE l fun c=>Jh ltZ @30).length:=fun l d=>by
  induction l with
  |nil=>intro h;cases h
  |cons a l ih=>
   intro h;unfold QbE at ih ⊢;rw[zj5,z10,z01];rcases z21.mp h with rfl|h
   ·exact zf0 _ _
   ·exact z73 (ih h) (Nat.le_add_left _ _)
 refine JK (fun ρ=>∃s,ρ=QkE sh cs (fun d=>hts d es) (QbE cs fun c=>Jh ltZ @30) s/\frO s) ?_ ?_
 ·refine JB (ds:=cs.map .int) (ρ1:=QkE sh cs (fun d=>hts d es) [] none) (fun i ρ=>∃s,ρ=QkE sh cs (fun d=>hts d es) (QbE (cs.take i) fun c=>Jh ltZ @30) s/\frO s) ?_ ⟨none,rfl,.inl rfl⟩ ?_ ?_
  ·unfold QiO;show((Rs.of (some (false,cs.map zi5,cs.map fun c=>D.lst ((hts c es).map .int)))).bind _)=_;show Rs.ok ((cs.map (zi5:Int->Key)).map sKy,QkE sh cs (fun d=>hts d es) [] none)=_;rw[z60];rfl
  ·rintro i d ρ hd ⟨s,rfl,hs⟩;rw[z17] at hd;obtain⟨c,hc,rfl⟩:=z03.mp hd;have cm:=z38 hc
   have tk:(QbE (cs.take (i+1)) fun c=>Jh ltZ @30)=(QbE (cs.take i) fun c=>Jh ltZ @30)++(rgs (Jh ltZ @30)).map fun r=>(r,c):=by
    unfold QbE;rw[z92,hc,ze4];simp
   have l1:(QbE (cs.take (i+1)) fun c=>Jh ltZ @30).length+(QbE (cs.drop (i+1)) fun c=>Jh ltZ @30).length=ps.length:=by
    rw[← il,← z10];unfold QbE;rw[← ze4,z33]
   have l2:=ik cs c cm;rw[il] at l2;rw[tk,z10,z01] at l1;rw[tk];generalize (QbE (cs.take i) fun c=>Jh ltZ @30)=qs at l1;refine⟨QkE sh cs (fun d=>hts d es) qs (~~~(.int c)),by rcases hs with rfl|⟨_,rfl⟩<;>rfl,?_⟩;obtain⟨n,hn2⟩:=ev c;have ce:=QgZ (z:=z) (c:=c) hn2 (bd c) @0;have le:(hts c es).length<=4000:=z73 QgT @0;refine⟨_,QbT (i:=2) (par:=false) (xs:=qs.map pl) (ds:=((rgs (Jh ltZ @30)).map fun r=>(r,c)).map pl) rfl (Qy (args:=[.int c,.lst ((Jh ltZ @30).map .int)]) (Qk (show mV 3 _=.ok (.int c,_) from rfl) (Qk (Qii (op_eq (show mB 1 _=.ok (QgQ cs fun d=>hts d es,_) from rfl) (show mV 3 _=.ok (.int c,_) from rfl) (ixK cm)) (nd c) le) rfl)) ce fun q=>by cases q) ?_ Jc,rfl,~~~(.int c),?_,.inr ⟨.int c,rfl⟩⟩
   ·rw[z01,z01,z01];lia
   ·unfold QkE;rw[z47];rfl
  ·rintro ρ ⟨s,rfl,hs⟩;refine⟨rfl,s,?_,hs⟩;rw[z01,z63]
 rintro ρ ⟨s,rfl,hs⟩;refine⟨(.rt (.lst ((Jh ltP ps).map pl)),QkE sh cs (fun d=>hts d es) (QbE cs fun c=>Jh ltZ @30) s),?_,_,[],rfl,?_,rfl,rfl⟩
 ·unfold QeB;rw[Qej (show mB 2 _=.ok (.lst ((QbE cs fun c=>Jh ltZ @30).map pl),_) from rfl) ind @0,io];rfl
 ·show outs [] [s]=_
  rw[QV hs];rfl))
end
variable {z:Z}
section
variable {r:Int}
def Qdh (c r:Int)(es:List Ed):Nat:=es.countP fun e=>isH c e && decide (e.1.1<=r)
theorem QkF:abv @30 r=Qdh c r es:=by
 unfold abv hts Qdh;rw[List.countP_map,List.countP_filter];refine List.countP_congr fun e _=>?_;rw[z76,z76];exact And.comm
theorem Qij:Qdh c r (es++[e])=Qdh c r es+if(isH c e && decide (e.1.1<=r))=true then 1 else 0:=by
 unfold Qdh;rw[List.countP_append,zk6,List.countP_nil,z96]
def abS (h:D)(r c:Int)(n:Nat)(s4 s5 s6 s7:Option Sl):Rho:=[~~~h,~~~(.int r),~~~(.int c),~~~(.int n),s4,s5,s6,s7]
theorem Qik (hr:∀o∈os,∃s k,Rnd x s k/\o=orb x s k)(hl:os.flatten.length<4000):Jg z [Qac false os,.int r,.int c]=.ok (.int (Qdh c r (os.flatten.map edg))) []:=Ye (Jk (by
 dsimp only[Yi];generalize hS:Qac false os=sh;refine Ws (abS sh r c 0 none none none none) ⟨_,rfl,rfl,rfl⟩ ?_;refine JK (fun ρ=>∃s4 s5 s6 s7,ρ=abS sh r c (Qdh c r (os.flatten.map edg)) s4 s5 s6 s7/\frO s4/\frO s5/\frO s6/\frO s7) ?_ ?_
 ·refine JB (ds:=os.map Qw) (ρ1:=abS sh r c 0 none none none none) (fun i ρ=>∃s4 s5 s6 s7,ρ=abS sh r c (Qdh c r ((os.take i).flatten.map edg)) s4 s5 s6 s7/\frO s4/\frO s5/\frO s6/\frO s7) (QH (t:=.lst) @14 (by rw[← hS];rfl)) ⟨none,none,none,none,rfl,.inl rfl,.inl rfl,.inl rfl,.inl rfl⟩ ?_ ?_
  ·rintro i d ρ hd ⟨s4,s5,s6,s7,rfl,h4,h5,h6,h7⟩;rw[z17] at hd;obtain⟨o,ho,rfl⟩:=z03.mp hd;obtain⟨s,k,R,rfl⟩:=hr o (z38 ho);have tk:((os.take (i+1)).flatten).map edg=(os.take i).flatten.map edg++(orb x s k).map edg:=by rw[z92,ho,z55,z47];simp
   have lk:k<4000:=by
    have:(os.take (i+1)).flatten.length+(os.drop (i+1)).flatten.length=os.flatten.length:=by rw[← z10,← z55,z33]
    have h2:=congrArg zd5 tk;rw[z10,z01,z01,z01] at h2;have h3:(orb x s k).length=k:=by unfold orb;simp
    lia
   rw[tk];generalize (os.take i).flatten.map edg=es;refine⟨abS sh r c (Qdh c r es) (~~~(Qw (orb x s k))) s5 s6 s7,by rcases h4 with rfl|⟨_,rfl⟩<;>rfl,?_⟩;have lo:((orb x s k).map fun t=>pl t.1).length=k:=by unfold orb;simp
   have ln:QiF [Qw (orb x s k)]=some (.int k):=by
    show some (D.int (((orb x s k).map fun t=>pl t.1).length:Nat))=_;rw[lo]
   have at_:∀j,j<k->gIx (Qw (orb x s k)) (.int (j:Nat))=some (pl (it x s j).1):=fun j hj=>Qax (t:=.lst) @14 (by
    rw[z17];unfold orb
    rw[z17,zl7 hj];rfl)
   refine JB (ds:=(z41 (y29 k)).map fun j=>D.int ((0:Int)+(j:Nat))) (ρ1:=abS sh r c (Qdh c r es) (~~~(Qw (orb x s k))) s5 s6 s7) (fun j ρ=>∃s5 s6 s7,ρ=abS sh r c (Qdh c r (es++((orb x s k).map edg).take j)) (~~~(Qw (orb x s k))) s5 s6 s7/\frO s5/\frO s6/\frO s7) (VH (Qk (JQ (Qk (show mV 4 _=.ok (Qw (orb x s k),_) from rfl) rfl) ln) rfl) @0 @0) ⟨s5,s6,s7,by rw[zh1,z50],h5,h6,h7⟩ ?_ ?_
   ·rintro j d ρ hd ⟨s5,s6,s7,rfl,h5,h6,h7⟩;obtain⟨rfl,hj⟩:=Qec hd;rw[z66] at hj
    have ej:((orb x s k).map edg)[j]? = some (edg (it x s j)):=by
     rw[z17];unfold orb;rw[z17,zl7 hj];rfl
    have tj:es++((orb x s k).map edg).take (j+1)=(es++((orb x s k).map edg).take j)++[edg (it x s j)]:=by rw[z92,ej,z23];rfl
    rw[tj,Qij];generalize Qdh c r (es++((orb x s k).map edg).take j)=n;refine⟨abS sh r c n (~~~(Qw (orb x s k))) (~~~(.int j)) s6 s7,by rcases h5 with rfl|⟨_,rfl⟩<;>rfl,?_⟩;refine Ws (abS sh r c n (~~~(Qw (orb x s k))) (~~~(.int j)) (~~~(pl (it x s j).1)) s7) ⟨_,YL (op_eq (show mV 4 _=.ok (Qw (orb x s k),_) from rfl) (show mV 5 _=.ok (.int j,_) from rfl) (at_ j hj)) (Yt (i:=6) rfl h6),rfl,rfl⟩ ?_
    have md:QhI (.int ((j:Int)+1)) (.int k)=some (.int (((j+1) % k:Nat):Int)):=by
     have:=R.po;show(if(0:Int)<k then some (D.int (((j:Int)+1) % k)) else none)=_;rw[if_pos @0]
     congr 2
    have e7:=at_ ((j+1) % k) (zt9 _ R.po);rw[Qh2 R hj] at e7;refine Ws (abS sh r c n (~~~(Qw (orb x s k))) (~~~(.int j)) (~~~(pl (it x s j).1)) (~~~(pl (fin (it x s j))))) ⟨_,YL (op_eq (show mV 4 _=.ok (Qw (orb x s k),_) from rfl) (op_eq (op_eq (show mV 5 _=.ok (.int j,_) from rfl) (show mC (.int 1) _=.ok (.int 1,_) from rfl) (show QdI (.int j) (.int 1)=some (.int ((j:Int)+1)) from rfl)) (JQ (Qk (show mV 4 _=.ok (Qw (orb x s k),_) from rfl) rfl) ln) md) e7) (Yt (i:=7) rfl h7),rfl,rfl⟩ ?_;generalize hq:abS sh r c n (~~~(Qw (orb x s k))) (~~~(.int j)) (~~~(pl (it x s j).1)) (~~~(pl (fin (it x s j))))=ρ';generalize it x s j=t at hq;have v6:mV 6 ρ'=.ok (pl t.1,ρ'):=by rw[← hq];rfl
    have v7:mV 7 ρ'=.ok (pl (fin t),ρ'):=by rw[← hq];rfl
    have v1:mV 1 ρ'=.ok (.int r,ρ'):=by rw[← hq];rfl
    have v2:mV 2 ρ'=.ok (.int c,ρ'):=by rw[← hq];rfl
    have k0:mC (.int 0) ρ'=.ok (.int 0,ρ'):=rfl;have k1:mC (.int 1) ρ'=.ok (.int 1,ρ'):=rfl;have ix0:∀p:P2,gIx (pl p) (.int 0)=some (.int p.1):=fun p=>rfl;have ix1:∀p:P2,gIx (pl p) (.int 1)=some (.int p.2):=fun p=>rfl
    have mn:Vt (gI2 fun i j=>if j<i then j else i) (Qg (mOp gIx (mV 6) @15) (Qg (mOp gIx (mV 7) @15) Qz)) ρ'=.ok (.int (min t.1.2 (fin t).2),ρ'):=JQ (Qk (op_eq v6 k1 (ix1 _)) (Qk (op_eq v7 k1 (ix1 _)) (show Qz ρ'=.ok ([],ρ') from rfl))) (by
     show some (D.int (if(fin t).2<t.1.2 then(fin t).2 else t.1.2))=_
     congr 2
     by_cases q:(fin t).2<t.1.2
     ·rw[if_pos q];lia
     ·rw[if_neg q];lia)
    have tst:Qlo (Jj (mOp gEq (mOp gIx (mV 6) (mC (.int 0))) (mOp gIx (mV 7) (mC (.int 0))))) (Qlo (Jj (mOp gLe (mOp gIx (mV 6) (mC (.int 0))) (mV 1))) (Jj (mOp gEq (Vt (gI2 fun i j=>if j<i then j else i) (Qg (mOp gIx (mV 6) @15) (Qg (mOp gIx (mV 7) @15) Qz))) (mV 2)))) ρ'=.ok (decide (t.1.1=(fin t).1) && (decide (t.1.1<=r) && decide (min t.1.2 (fin t).2=c)),ρ'):=
     and_eq (QL (op_eq (op_eq v6 k0 (ix0 _)) (op_eq v7 k0 (ix0 _)) VL)) (fun _=>and_eq (QL (op_eq (op_eq v6 k0 (ix0 _)) v1 (show gLe (.int t.1.1) (.int r)=some (.bl (decide (t.1.1<=r))) from rfl))) (fun _=>QL (op_eq mn v2 VL)) fun _=>rfl) fun _=>rfl
    refine Jz (QaR tst)▸?_
    have eb:(isH c (edg t) && decide ((edg t).1.1<=r))=(decide (t.1.1=(fin t).1) && (decide (t.1.1<=r) && decide (min t.1.2 (fin t).2=c))):=by
     show(decide (t.1.1=(fin t).1/\min t.1.2 (fin t).2=c) && decide (t.1.1<=r))=_;rw[Bool.decide_and];cases decide (t.1.1=(fin t).1)<;>cases decide (t.1.1<=r)<;>cases decide (min t.1.2 (fin t).2=c)<;>rfl
    rw[eb]
    cases decide (t.1.1=(fin t).1) && (decide (t.1.1<=r) && decide (min t.1.2 (fin t).2=c)) with
    |true=>
     rw[if_pos rfl,if_pos rfl,← hq];exact⟨_,rfl,rfl,_,_,_,rfl,.inr ⟨.int j,rfl⟩,.inr ⟨pl t.1,rfl⟩,.inr ⟨pl (fin t),rfl⟩⟩
    |false=>
     rw[if_neg z19,if_neg z19,← hq];exact⟨_,rfl,rfl,_,_,_,rfl,.inr ⟨.int j,rfl⟩,.inr ⟨pl t.1,rfl⟩,.inr ⟨pl (fin t),rfl⟩⟩
   ·rintro ρ ⟨s5,s6,s7,rfl,hh⟩;refine⟨rfl,~~~(Qw (orb x s k)),s5,s6,s7,?_,.inr ⟨Qw (orb x s k),rfl⟩,hh⟩;have:((orb x s k).map edg).length=k:=by unfold orb;simp
    rw[z01,z52,z66,z86 (by rw[this];exact z15 _)]
  ·rintro ρ ⟨s4,s5,s6,s7,rfl,hh⟩;refine⟨rfl,s4,s5,s6,s7,?_,hh⟩;rw[z01,z63]
 rintro ρ ⟨s4,s5,s6,s7,rfl,h4,h5,h6,h7⟩;refine⟨_,rfl,_,[],rfl,?_,rfl,rfl⟩;show outs [] [s4,s5,s6,s7]=_
 rw[QV h4,QV h5,QV h6,QV h7];rfl))
end
variable {z:Z}
section
variable {ρ:Rho}{L:List (List P2)}{cs:List P2}
def Apt (L:List (List P2)):Prop:=L.Pairwise fun A B=>∀p∈B,∀q,(q∈nb p\/q=p)->q∉A
structure Rok (cs:List P2)(a:List (List P2)×List P2):Prop where
 cl:Cl cs a.2
 fl:a.1.flatten=a.2
 ap:Apt a.1
theorem Rok.step {a:List (List P2)×List P2}{p:P2}(h:Rok cs a)(hn:cs.Nodup)(hp:p∈cs):Rok cs (Jt cs a p):=by
 refine⟨h.cl.step hn hp,?_,?_⟩
 ·unfold Jt
  split
  ·exact h.fl
  ·show(a.1++[cmp cs p]).flatten=a.2++cmp cs p;rw[z55,h.fl];simp
 ·unfold Jt
  split
  ·exact h.ap
  ·rename_i np
   refine z42.mpr ⟨h.ap,y00 _ _,fun A hA B hB b hb q hq m=>?_⟩;rw[z16] at hB;subst hB;have qs:q∈a.2:=by rw[← h.fl];exact zu7.mpr ⟨A,hA,m⟩
   have rb:=(Yc hp).mp hb
   have bs:b∈a.2:=by
    rcases hq with hq|hq
    ·exact h.cl.cl q qs b (.step .base (Qgl hq) (rb.mem hp))
    ·rw[← hq];exact qs
   exact np (h.cl.cl b bs p (rb.sym hp))
theorem Rok.run (hn:cs.Nodup):∀(l:List P2) (a:List (List P2)×List P2),(∀p∈l,p∈cs)->Rok cs a->Rok cs (l.foldl (Jt cs) a)
 | [],_,_,h=>h
 |p::l,a,hl,h=>Rok.run hn l _ (fun q hq=>hl q (z07 _ hq)) (h.step hn (hl p z09))
theorem Qcy(hp:p∈cs)(h:q∈a.2\/q=p):q∈(Jt cs a p).2:=by
 unfold Jt
 split
 ·rename_i c
  rcases h with h|h
  ·exact h
  ·rw[h];exact c
 ·rcases h with h|h
  ·exact z13 _ h
  ·rw[h];exact z05 _ ((Yc hp).mpr .base)
theorem Qg1:∀(l:List P2) (a:List (List P2)×List P2),(∀p∈l,p∈cs)->∀q,(q∈a.2\/q∈l)->q∈(l.foldl (Jt cs) a).2
 | [],_,_,q,h=>h.elim id fun z=>nomatch z
 |p::l,a,hl,q,h=>Qg1 l _ (fun q hq=>hl q (z07 _ hq)) q (by
  rcases h with h|h
  ·exact .inl (Qcy (hl p z09) (.inl h))
  ·rcases z21.mp h with h|h
   ·exact .inl (Qcy (hl p z09) (.inr h))
   ·exact .inr h)
theorem Qcz (ps:List P2):Apt (shp ps)/\(shp ps).flatten.Nodup/\(∀q,q∈(shp ps).flatten↔q∈ps):=by
 have r:=Rok.run (QbB ps) (QK ps) ([],[]) (fun _ h=>h) ⟨⟨@5,@5,.nil⟩,rfl,.nil⟩;have e:shp ps=((QK ps).foldl (Jt (QK ps)) ([],[])).1:=rfl;rw[e];refine⟨r.ap,by rw[r.fl];exact r.cl.nd,fun q=>?_⟩;rw[r.fl];exact⟨fun h=>QdX.mp (r.cl.sub q h),fun h=>Qg1 _ _ (fun _ h=>h) q (.inr (QdX.mpr h))⟩
theorem QmS {s:List P2}(h:s∈shp ps):s.Nodup:=by
 have:=(Qcz ps).2.1;exact(List.pairwise_flatten.mp this).1 s h
def apS (h:D)(s1 s2 s3 s4 s5 s6:Option Sl):Rho:=[~~~h,s1,s2,s3,s4,s5,s6]
theorem QkG:gNe (.lst []) (.lst [])=some (.bl false):=rfl
theorem Qaq:q∈Ji ks p↔q∈ks\/q=p:=by
 unfold Ji
 by_cases h:p∈ks
 ·rw[if_pos h];exact⟨.inl,fun w=>w.elim id fun e=>by rw[e];exact h⟩
 ·rw[if_neg h,z08,z16]
theorem Qar:(Ji ks p).length<=ks.length+1:=by
 unfold Ji
 by_cases h:p∈ks
 ·rw[if_pos h];lia
 ·rw[if_neg h,z10];exact z15 _
theorem Qob{ml mh:MO}{l h:Option Int}(hm:m ρ=.ok (.lst ds,ρ))(h1:ml ρ=.ok (l,ρ))(h2:mh ρ=.ok (h,ρ)):QeO m ml mh ρ=.ok (.lst (cutD ds l h),ρ):=by
 unfold QeO;rw[hm];show((ml ρ).bind _)=_;rw[h1];show((mh ρ).bind _)=_;rw[h2];show(if false=true->¬(HT.sIx ds.length 0 l=0/\HT.sIx ds.length ds.length h=ds.length) then Rs.ok (D.lst (cutD ds l h),ρ) else Rs.no)=_;exact if_pos fun q=>by cases q
def owD (s:Option Sl):Prop:=s=none\/∃d,s=some (.own d)
theorem Qil (ha:Apt L)(hl:L.flatten.length<4000)(hk:L.length<4000):Yk z [shD L]=.ok (.bl true) []:=Ye (Jk (by
 dsimp only[Yj];have eS:shD L=.lst (L.map fun l=>.lst (l.map pl)):=rfl;generalize hS:shD L=sh at eS ⊢;refine JK (fun ρ=>∃s1 s2 s3 s4 s5 s6,ρ=apS sh s1 s2 s3 s4 s5 s6/\frO s1/\owD s2/\frO s3/\frO s4/\frO s5/\frO s6) ?_ ?_
 ·refine JB (ds:=(z41 (y29 L.length)).map fun j=>D.int ((0:Int)+(j:Nat))) (ρ1:=apS sh none none none none none none) (fun i ρ=>∃s1 s2 s3 s4 s5 s6,ρ=apS sh s1 s2 s3 s4 s5 s6/\frO s1/\owD s2/\frO s3/\frO s4/\frO s5/\frO s6) (VH (Qk (JQ (Qk (show mV 0 _=.ok (sh,_) from rfl) rfl) (by rw[eS];show some (D.int ((L.map _).length:Nat))=_;rw[z01])) rfl) @0 @0) ⟨none,none,none,none,none,none,rfl,.inl rfl,.inl rfl,.inl rfl,.inl rfl,.inl rfl,.inl rfl⟩ ?_ ?_
  ·rintro k d ρ hd ⟨s1,s2,s3,s4,s5,s6,rfl,h1,h2,h3,h4,h5,h6⟩;obtain⟨rfl,hj⟩:=Qec hd;rw[z66] at hj;have eB:L[k]? = some L[k]:=z06 hj;generalize L[k]=B at eB;refine⟨apS sh (~~~(.int k)) s2 s3 s4 s5 s6,by rcases h1 with rfl|⟨_,rfl⟩<;>rfl,?_⟩;refine Ws (apS sh (~~~(.int k)) (some (.own (dct [] fun _=>true))) s3 s4 s5 s6) ⟨_,QeI (show QlK _=.ok (dct [] fun _=>true,_) from rfl) (by rcases h2 with rfl|⟨_,rfl⟩<;>rfl),rfl,rfl⟩ ?_;refine JK (fun ρ=>∃ks s3 s4,ρ=apS sh (~~~(.int k)) (some (.own (dct ks fun _=>true))) s3 s4 s5 s6/\(∀q,q∈ks↔q∈(L.take k).flatten)/\frO s3/\frO s4) ?_ ?_
   ·have ct:cutD (L.map fun l=>D.lst (l.map pl)) none (some (k:Int))=(L.take k).map fun l=>.lst (l.map pl):=by
     unfold cutD;rw[HT.sIx_nat,HT.sIx_none,z01,zm8,Nat.sub_zero,zq2 @0,List.map_take]
    refine JB (ds:=(L.take k).map fun l=>.lst (l.map pl)) (ρ1:=apS sh (~~~(.int k)) (some (.own (dct [] fun _=>true))) s3 s4 s5 s6) (fun i ρ=>∃ks s3 s4,ρ=apS sh (~~~(.int k)) (some (.own (dct ks fun _=>true))) s3 s4 s5 s6/\(∀q,q∈ks↔q∈((L.take k).take i).flatten)/\ks.length<=((L.take k).take i).flatten.length/\frO s3/\frO s4) (QH (t:=.lst) @14 ?_) ⟨[],s3,s4,rfl,(fun q=>by simp),z58 _,h3,h4⟩ ?_ ?_
    ·rw[← ct];exact Qob (by rw[← eS];rfl) rfl rfl
    ·rintro i d ρ hd ⟨ks,s3,s4,rfl,km,kl,h3,h4⟩;rw[z17] at hd;obtain⟨A,hA,rfl⟩:=z03.mp hd;have tk:((L.take k).take (i+1)).flatten=((L.take k).take i).flatten++A:=by rw[z92,hA,z55];simp
     have tl:(((L.take k).take i).flatten).length+A.length<4000:=by
      rw[← z10,← tk];have h1:((L.take k).take (i+1)).flatten.length+((L.take k).drop (i+1)).flatten.length=(L.take k).flatten.length:=by rw[← z10,← z55,z33]
      have h2:(L.take k).flatten.length+(L.drop k).flatten.length=L.flatten.length:=by rw[← z10,← z55,z33]
      lia
     rw[tk];generalize ((L.take k).take i).flatten=F at km kl tl;refine⟨apS sh (~~~(.int k)) (some (.own (dct ks fun _=>true))) (~~~(.lst (A.map pl))) s4 s5 s6,by rcases h3 with rfl|⟨_,rfl⟩<;>rfl,?_⟩;refine JB (ds:=A.map pl) (ρ1:=apS sh (~~~(.int k)) (some (.own (dct ks fun _=>true))) (~~~(.lst (A.map pl))) s4 s5 s6) (fun j ρ=>∃ks s4,ρ=apS sh (~~~(.int k)) (some (.own (dct ks fun _=>true))) (~~~(.lst (A.map pl))) s4 s5 s6/\(∀q,q∈ks↔q∈F++A.take j)/\ks.length<=F.length+j/\frO s4) (QH (t:=.lst) @14 rfl) ⟨ks,s4,rfl,(fun q=>by rw[zh1,z50];exact km q),kl,h4⟩ ?_ ?_
     ·rintro j d ρ hd ⟨ks,s4,rfl,km,kl,h4⟩;rw[z17] at hd;obtain⟨p,hp,rfl⟩:=z03.mp hd;have jl:=(z11.mp hp).1;have tj:F++A.take (j+1)=(F++A.take j)++[p]:=by rw[z92,hp,z23];rfl
      refine⟨apS sh (~~~(.int k)) (some (.own (dct ks fun _=>true))) (~~~(.lst (A.map pl))) (~~~(pl p)) s5 s6,by rcases h4 with rfl|⟨_,rfl⟩<;>rfl,?_⟩;refine⟨_,QbQ (i:=2) (par:=false) rfl rfl (p:=p) rfl @0,rfl,Ji ks p,~~~(pl p),rfl,fun q=>?_,z73 Qar @0,.inr ⟨pl p,rfl⟩⟩;rw[Qaq,tj,z08,z16,km q]
     ·rintro ρ ⟨ks,s4,rfl,km,kl,h4⟩;rw[z01,z63] at km;rw[z01] at kl;exact⟨rfl,ks,~~~(.lst (A.map pl)),s4,rfl,km,by rw[z10];exact kl,.inr ⟨.lst (A.map pl),rfl⟩,h4⟩
    ·rintro ρ ⟨ks,s3,s4,rfl,km,kl,h3,h4⟩;rw[z01,z63] at km;exact⟨rfl,ks,s3,s4,rfl,km,h3,h4⟩
   ·rintro ρ ⟨ks,s3,s4,rfl,km,h3,h4⟩
    have ixk:gIx sh (.int k)=some (.lst (B.map pl)):=by
     rw[eS];exact Qax (t:=.lst) @14 (by rw[z17,eB];rfl)
    refine JB (ds:=B.map pl) (ρ1:=apS sh (~~~(.int k)) (some (.own (dct ks fun _=>true))) s3 s4 s5 s6) (fun j ρ=>∃s5 s6,ρ=apS sh (~~~(.int k)) (some (.own (dct ks fun _=>true))) s3 s4 s5 s6/\frO s5/\frO s6) (QH (t:=.lst) @14 (op_eq (show mV 0 _=.ok (sh,_) from rfl) (show mV 1 _=.ok (.int k,_) from rfl) ixk)) ⟨s5,s6,rfl,h5,h6⟩ ?_ ?_
    ·rintro j d ρ hd ⟨s5,s6,rfl,h5,h6⟩;rw[z17] at hd;obtain⟨p,hp,rfl⟩:=z03.mp hd;have pB:=z38 hp
     have nk:∀q,(q∈nb p\/q=p)->q∉ks:=fun q hq m=>by
      obtain⟨A,hA,qA⟩:=zu7.mp ((km q).mp m)
      have e:L=L.take k++B::L.drop (k+1):=by
       have:=z11.mp eB;rw[← this.2,y11,z33]
      have ha':=ha;unfold Apt at ha';rw[e] at ha';exact(z42.mp ha').2.2 A hA B z09 p pB q hq qA
     refine⟨apS sh (~~~(.int k)) (some (.own (dct ks fun _=>true))) s3 s4 (~~~(.int p.1)) (~~~(.int p.2)),QgI rfl h5 rfl h6,?_⟩;generalize hq:apS sh (~~~(.int k)) (some (.own (dct ks fun _=>true))) s3 s4 (~~~(.int p.1)) (~~~(.int p.2))=ρ'
     have cm:=Vu (par:=false) (cs:=[.me,.io 2]) (j:=0) (mi:=Jr (Qg9 (Qg (QcU (Qg (mOp gSub (mV 5) @15) (Qg (mV 6) Qz))) (Qg (QcU (Qg (mV 5) (Qg (mOp gSub (mV 6) @15) Qz))) (Qg (QcU (Qg (mV 5) (Qg (mOp QdI (mV 6) @15) Qz))) (Qg (QcU (Qg (mOp QdI (mV 5) @15) (Qg (mV 6) Qz))) (Qg (QcU (Qg (mV 5) (Qg (mV 6) Qz))) Qz))))))) (tc:=Jj (QjL id (mV 0) (mB 1))) (te:=mI (mV 0)) (f:=fun _=>false) (g:=id) (ρ:=ρ') (ρ1:=ρ') (ρb:=[none,some (.par (dct ks fun _=>true))]) (ds:=(nb p++[p]).map pl) (di:=[dct ks fun _=>true]) (os:=[dct ks fun _=>true]) (by rw[← hq];rfl) (by rw[← hq];rfl) rfl (fun d hd=>by
      obtain⟨q,hq',rfl⟩:=z37.mp hd
      have nq:q∉ks:=nk q (by
       rcases z08.mp hq' with h|h
       ·exact .inl h
       ·exact .inr (z16.mp h))
      refine⟨[~~~(pl q),some (.par (dct ks fun _=>true))],rfl,?_,(fun h=>by cases h),rfl⟩;have:=QgN (g:=id) (my:=mV 0) (md:=mB 1) (ρ:=[~~~(pl q),some (.par (dct ks fun _=>true))]) (y:=pl q) (d:=dct ks fun _=>true) rfl rfl QdZ;rw[decide_eq_false nq] at this
      exact this) (by rw[z01];show 5<=z24;decide) rfl (by rw[← hq];rfl)
     have ef:(((nb p++[p]).map pl).filter fun _=>false).map id=[]:=by rw[List.filter_eq_nil_iff.mpr (fun _ _=>z19)];rfl
     rw[ef] at cm;have tst:=QL (op_eq (b:=Qg9 Qz) cm (show Qg9 Qz ρ'=.ok (.lst [],ρ') from rfl) QkG);refine Jz (QaR tst)▸?_;rw[if_neg z19,← hq];exact⟨_,rfl,rfl,_,_,rfl,.inr ⟨.int p.1,rfl⟩,.inr ⟨.int p.2,rfl⟩⟩
    ·rintro ρ ⟨s5,s6,rfl,h5,h6⟩;exact⟨rfl,~~~(.int k),some (.own (dct ks fun _=>true)),s3,s4,s5,s6,rfl,.inr ⟨.int k,rfl⟩,.inr ⟨_,rfl⟩,h3,h4,h5,h6⟩
  ·rintro ρ ⟨s1,s2,s3,s4,s5,s6,rfl,hh⟩;exact⟨rfl,s1,s2,s3,s4,s5,s6,rfl,hh⟩
 rintro ρ ⟨s1,s2,s3,s4,s5,s6,rfl,h1,h2,h3,h4,h5,h6⟩;refine⟨_,rfl,_,[],rfl,?_,rfl,rfl⟩;show outs [] [s1,s2,s3,s4,s5,s6]=_;rw[QV h1];have:outs [] [s2,s3,s4,s5,s6]=outs [] [s3,s4,s5,s6]:=by rcases h2 with rfl|⟨_,rfl⟩<;>rfl
 rw[this,QV h3,QV h4,QV h5,QV h6];rfl))
end
variable {z:Z}
section
variable {R:List (List Int)}{h w:Nat}{xs:List Int}
theorem tkE {par:Bool}{mN:ME}{ρ:Rho}{p:D}{n:Int}(hp:Pot p)(h0:0<n)(h1:n<QiT)(hi:ρ[i]? = some (some (mkS par p)))(hn:mN ρ=.ok (.int n,ρ)) :
  ∃r q,Pot q/\0<=r/\r<n/\Jf par [some i,none] (Qp z) (Qg (mS i) (Qg mN Qz)) ρ=.ok (.int r,ρ.set i (some (mkS par q))):=by
 have e1:mS i ρ=.ok (p,ρ):=by unfold mS;rw[hi];cases par<;>rfl
 have h:W (Jf par [some i,none] (Qp z) (Qg (mS i) (Qg mN Qz)) ρ) (fun a=>∃r q,Pot q/\0<=r/\r<n/\a=(.int r,ρ.set i (some (mkS par q)))):=by
  refine QiK (args:=[p,.int n]) (dis:=[p]) (P:=spT n) (ρ1:=ρ) (Qk e1 (Qk hn rfl)) ?_ (QbP hp h0 h1) ?_
  ·show YH par ρ [i]=_;unfold YH YH;rw[hi];cases par<;>rfl
  ·rintro d os ⟨r,q,rfl,rfl,hq,g0,g1⟩;exact⟨r,q,hq,g0,g1,rfl⟩
 obtain⟨_,e,r,q,a1,a2,a3,rfl⟩:=h;exact⟨r,q,a1,a2,a3,e⟩
theorem size_eq{ρ:Rho}{p:D}(hp:Pot p)(hi:ρ[i]? = some (some (.own p))):∃(n:Nat) (q:D),Pot q/\1<=n/\n<=30/\Jf false [some i] (Jq z) (Qg (mS i) Qz) ρ=.ok (.int n,ρ.set i (some (.own q))):=by
 have e1:mS i ρ=.ok (p,ρ):=by unfold mS;rw[hi]
 have h:W (Jf false [some i] (Jq z) (Qg (mS i) Qz) ρ) (fun a=>∃(n:Nat) (q:D),Pot q/\1<=n/\n<=30/\a=(.int n,ρ.set i (some (.own q)))):=by
  refine QiK (args:=[p]) (dis:=[p]) (P:=QoE) (ρ1:=ρ) (Qk e1 rfl) ?_ (Qks hp) ?_
  ·show YH false ρ [i]=_;unfold YH YH;rw[hi];rfl
  ·rintro d os ⟨n,q,rfl,rfl,hq,g0,g1⟩;exact⟨n,q,hq,g0,g1,rfl⟩
 obtain⟨_,e,n,q,a1,a2,a3,rfl⟩:=h;exact⟨n,q,a1,a2,a3,e⟩
theorem QbU (xs:List Int)(k:Int)(hk:0<=k):∃p,Pot p/\Yo z [script xs,.int k]=.ok p []:=by
 obtain⟨d,os,e,rfl,hp⟩:=Qh5 (z:=z) xs k hk;exact⟨d,hp,e⟩
def rwI (l:List Int):D:=.lst (l.map .int)
def rD (R:List (List Int)):D:=.lst (R.map rwI)
structure Rc (h w:Nat)(R:List (List Int)):Prop where
 hi:R.length=h
 wi:∀l∈R,l.length=w
theorem Qek:∀{ds ys:List D},Fa2 (fun _ y=>isInt y) ds ys->∃l:List Int,ys=l.map .int
 |_,_,.nil=>⟨[],rfl⟩
 |_,_,.cons ⟨r,e⟩ t=>by
  obtain⟨l,rfl⟩:=Qek t;exact⟨r::l,by rw[e];rfl⟩
def roS (xs:List Int)(way:Int)(s2 s3 s4 s5 s6 s7:Option Sl):Rho:=[~~~(script xs),~~~(.int way),s2,s3,s4,s5,s6,s7]
theorem QkH (xs:List Int){way:Int}(y0:0<=way)(y1:way<4):FW (QaL z [script xs,.int way]) (fun d os=>os=[]/\∃h w R,d=rD R/\Rc h w R/\h<=16/\w<=16):=Jk (by
 dsimp only[Vm];obtain⟨p0,hp0,e0⟩:=QbU (z:=z) xs 0 @0;refine Ws (roS xs way (some (.own p0)) none none none none none) ⟨_,QeI (Qy (rk:=.O) (args:=[script xs,.int 0]) rfl e0 fun z=>nomatch z) rfl,rfl,rfl⟩ ?_
 have sz:∀{ρ:Rho} {p:D},Pot p->ρ[2]? = some (some (.own p))->∃(n:Nat) (q:D),Pot q/\n<=16/\mOp QdI @15 (mOp QhI (Jf false [some 2] (Jq z) (Qg (mS 2) Qz)) (mC (.int 16))) ρ=.ok (.int n,ρ.set 2 (some (.own q))):=fun{ρ p} hp hi=>by
  obtain⟨n,q,hq,_,_,e⟩:=size_eq (z:=z) (i:=2) hp hi;refine⟨1+n % 16,q,hq,by lia,op_eq (show mC (.int 1) ρ=.ok (.int 1,ρ) from rfl) (op_eq e rfl (show QhI (.int n) (.int 16)=some (.int ((n:Int) % 16)) from rfl)) (show some (D.int (1+(n:Int) % 16))=_ from ?_)⟩
  congr 2
 obtain⟨h,p1,hp1,hh,e1⟩:=sz (ρ:=roS xs way (some (.own p0)) none none none none none) hp0 rfl;refine Ws (roS xs way (some (.own p1)) (~~~(.int h)) none none none none) ⟨_,YL e1 rfl,rfl,rfl⟩ ?_;obtain⟨w,p2,hp2,hw,e2⟩:=sz (ρ:=roS xs way (some (.own p1)) (~~~(.int h)) none none none none) hp1 rfl;refine Ws (roS xs way (some (.own p2)) (~~~(.int h)) (~~~(.int w)) none none none) ⟨_,YL e2 rfl,rfl,rfl⟩ ?_;refine Ws (roS xs way (some (.own p2)) (~~~(.int h)) (~~~(.int w)) (some (.own (rD []))) none none) ⟨_,rfl,rfl,rfl⟩ ?_;refine JK (fun ρ=>∃R s6 s7,ρ=roS xs way (some (.own p2)) (~~~(.int h)) (~~~(.int w)) (some (.own (rD R))) s6 s7/\Rc h w R/\frO s6/\owD s7) ?_ ?_
 ·refine JB (ds:=(z41 h).map fun j=>.int ((0:Int)+(j:Nat))) (ρ1:=roS xs way (some (.own p2)) (~~~(.int h)) (~~~(.int w)) (some (.own (rD []))) none none) (fun i ρ=>∃R s6 s7,ρ=roS xs way (some (.own p2)) (~~~(.int h)) (~~~(.int w)) (some (.own (rD R))) s6 s7/\Rc i w R/\frO s6/\owD s7) ?_ ⟨[],none,none,rfl,⟨rfl,fun _ z=>nomatch z⟩,.inl rfl,.inl rfl⟩ ?_ ?_
  ·have:=VH (mr:=Qg (mV 3) Qz) (ρ:=roS xs way (some (.own p2)) (~~~(.int h)) (~~~(.int w)) (some (.own (rD []))) none none) (n:=(h:Int)) rfl @0 @0;rw[z66] at this;exact this
  ·rintro i d ρ hd ⟨R,s6,s7,rfl,rc,h6,h7⟩;obtain⟨rfl,hi⟩:=Qec hd;refine⟨roS xs way (some (.own p2)) (~~~(.int h)) (~~~(.int w)) (some (.own (rD R))) (~~~(.int i)) s7,by rcases h6 with rfl|⟨_,rfl⟩<;>rfl,?_⟩;obtain⟨q0,hq0,eq0⟩:=QbU (z:=z) xs (1+i) @0;refine Ws (roS xs way (some (.own p2)) (~~~(.int h)) (~~~(.int w)) (some (.own (rD R))) (~~~(.int i)) (some (.own q0))) ⟨_,QeI (Qy (rk:=.O) (args:=[script xs,.int (1+i)]) rfl eq0 fun z=>nomatch z) (by rcases h7 with rfl|⟨_,rfl⟩<;>rfl),rfl,rfl⟩ ?_;unfold QlI;refine QB.mpr ⟨(false,R.map rwI),rfl,QB.mpr ?_⟩;refine QlN (Inv:=fun ρ=>∃q,Pot q/\ρ=[none,some (.par q),~~~(.int way)]) (Pd:=fun _ y=>isInt y) (di:=[q0]) (ρb:=[none,some (.par q0),~~~(.int way)]) (ds:=(z41 w).map fun j=>.int ((0:Int)+(j:Nat))) (ρ1:=roS xs way (some (.own p2)) (~~~(.int h)) (~~~(.int w)) (some (.own (rD R))) (~~~(.int i)) (some (.own q0))) ?_ rfl rfl ?_ ⟨q0,hq0,rfl⟩ (by rw[z01,z52];exact za3 (J0 @0)) ?_
   ·have:=VH (mr:=Qg (mV 4) Qz) (ρ:=roS xs way (some (.own p2)) (~~~(.int h)) (~~~(.int w)) (some (.own (rD R))) (~~~(.int i)) (some (.own q0))) (n:=(w:Int)) rfl @0 @0;rw[z66] at this;exact this
   ·rintro d hd ρ ⟨q,hq,rfl⟩;refine⟨[~~~d,some (.par q),~~~(.int way)],rfl,(true,_),rfl,rfl,?_⟩;obtain⟨v,q',hq',v1,v2,ev⟩:=tkE (z:=z) (par:=true) (i:=1) (mN:=mOp QdI (mC (.int 5)) (mV 2)) (n:=5+way) (ρ:=[~~~d,some (.par q),~~~(.int way)]) hq @0 (Int.lt_trans (show 5+way<9 by lia) @2) rfl rfl;refine⟨(.int v,[~~~d,some (.par q'),~~~(.int way)]),?_,⟨q',hq',rfl⟩,v,rfl⟩;unfold mI;rw[ev];rfl
   ·rintro ys ρ2 ⟨q,hq,rfl⟩ fa;have ly:=fa.length;obtain⟨l,rfl⟩:=Qek fa;rw[z01,z01,z52] at ly;have lr:(R.map rwI).length<8000:=by rw[z01,rc.hi];lia
    refine⟨[q],rfl,?_⟩;refine QB.mpr ⟨(false,R.map rwI),rfl,?_⟩;refine⟨(.nx,roS xs way (some (.own p2)) (~~~(.int h)) (~~~(.int w)) (some (.own (rD (R++[l])))) (~~~(.int i)) (some (.own q))),?_,rfl,R++[l],_,_,rfl,⟨by rw[z10,rc.hi];rfl,fun l' hl'=>?_⟩,.inr ⟨.int i,rfl⟩,.inr ⟨q,rfl⟩⟩
    ·show(if(R.map rwI).length<z24 then _ else _)=_;rw[if_pos (J0 lr)];unfold rD;rw[z47];rfl
    ·rcases z08.mp hl' with q|q
     ·exact rc.wi l' q
     ·rw[z16.mp q];exact ly
  ·rintro ρ ⟨R,s6,s7,rfl,rc,h6,h7⟩;rw[z01,z52] at rc;exact⟨rfl,R,s6,s7,rfl,rc,h6,h7⟩
 rintro ρ ⟨R,s6,s7,rfl,rc,h6,h7⟩;refine⟨_,rfl,_,[],rfl,?_,rfl,h,w,R,rfl,rc,hh,hw⟩;show outs [] [s6,s7]=_;rw[QV h6]
 rcases h7 with rfl|⟨_,rfl⟩<;>rfl)
def QiY (w r:Nat):List P2:=(z41 w).map fun c:Nat=>((r:Int),(c:Int))
def gr (w h:Nat):List P2:=(z41 h).flatMap (QiY w)
theorem Qdi {w:Nat}:gr w (i+1)=gr w i++QiY w i:=by unfold gr;rw[zp2,ze4];simp
theorem gr_mem {w h:Nat}(hp:p∈gr w h):∃r c:Nat,r<h/\c<w/\p=((r:Int),(c:Int)):=by
 obtain⟨r,hr,hq⟩:=zk5.mp hp;obtain⟨c,hc,e⟩:=z37.mp hq;exact⟨r,c,z70.mp hr,z70.mp hc,e.symm⟩
theorem Qg2 {w h:Nat}:(gr w h).length=h * w:=by
 induction h with
 |zero=>rw[Nat.zero_mul];rfl
 |succ h ih=>rw[Qdi,z10,ih,Nat.succ_mul];unfold QiY;rw[z01,z52]
theorem QmT {a b:P2}(h:a.1<b.1\/a.1=b.1/\a.2<b.2):ltP a b=true:=decide_eq_true h
theorem Qoc {w h:Nat}:(gr w h).Pairwise fun a b=>ltP a b=true:=by
 induction h with
 |zero=>exact .nil
 |succ h ih=>
  rw[Qdi];refine z42.mpr ⟨ih,?_,fun a ha b hb=>?_⟩
  ·unfold QiY;rw[zd9];exact zy0 (R:=fun(u v:Nat)=>u<v) (S:=fun(u v:Nat)=>ltP ((h:Int),(u:Int)) ((h:Int),(v:Int))=true) (fun{u v} q=>QmT (.inr ⟨rfl,Int.ofNat_lt.mpr q⟩)) y10
  ·obtain⟨r,c,hr,_,rfl⟩:=gr_mem ha;obtain⟨c',_,rfl⟩:=z37.mp hb;exact QmT (.inl (by show(r:Int)<(h:Int);lia))
theorem QcA (rc:Rc h w R)(hh:h<=30)(hw:w<=30):Vb z [rD R]=.ok (.lst ((gr w h).map pl)) []:=Ye (Jk (by
 dsimp only[Va];refine Ws [~~~(rD R),some (.own (.lst [])),none,none] ⟨_,rfl,rfl,rfl⟩ ?_;refine JK (fun ρ=>∃s t,ρ=[~~~(rD R),some (.own (.lst ((gr w h).map pl))),s,t]/\frO s/\frO t) ?_ ?_
 ·refine JB (ds:=QaQ (R.map rwI)) (ρ1:=[~~~(rD R),some (.own (.lst [])),none,none]) (fun i ρ=>∃s t,ρ=[~~~(rD R),some (.own (.lst ((gr w i).map pl))),s,t]/\frO s/\frO t/\i<=h) rfl ⟨none,none,rfl,.inl rfl,.inl rfl,z58 _⟩ ?_ ?_
  ·rintro i d ρ hd ⟨s,t,rfl,hs,ht,_⟩
   have hd':∃l,l∈R/\d=.tup [.int i,rwI l]/\i<h:=by
    unfold QaQ at hd;rw[z17,y28,z17] at hd
    cases q:R[i]? with
    |none=>rw[q] at hd;cases hd
    |some l=>
     rw[q] at hd;simp at hd;exact⟨l,z38 q,hd.symm,by rw[← rc.hi];exact(z11.mp q).1⟩
   obtain⟨l,hl,rfl,hi⟩:=hd';refine⟨[~~~(rD R),some (.own (.lst ((gr w i).map pl))),~~~(.int i),~~~(rwI l)],QgI rfl hs rfl ht,?_⟩;generalize hq:[some (Sl.frz (rD R)),some (.own (.lst ((gr w i).map pl))),~~~(.int i),~~~(rwI l)]=ρ'
   have ln:QiF [rwI l]=some (.int w):=by
    show some (D.int ((l.map D.int).length:Nat))=_;rw[z01,rc.wi l hl]
   have rg:=VH (mr:=Qg (Vt QiF (Qg (mV 3) Qz)) Qz) (ρ:=ρ') (ρ1:=ρ') (n:=(w:Int)) (Qk (JQ (Qk (by rw[← hq];rfl) rfl) ln) rfl) @0 @0;rw[z66] at rg
   have cm:=comp_map (par:=false) (cs:=[.me,.fz 2]) (j:=0) (te:=mI (QcU (Qg (mV 1) (Qg (mV 0) Qz)))) (g:=fun d=>.tup [.int i,d]) (ρb:=[none,~~~(.int i)]) (di:=[]) (os:=[]) rg rfl (by rw[← hq];rfl) (fun d hd=>by
    obtain⟨j,_,rfl⟩:=z37.mp hd
    exact⟨[~~~(.int (0+(j:Nat))),~~~(.int i)],rfl,rfl,rfl⟩) (by rw[z01,z52];exact za3 (J0 @0)) rfl (by rw[← hq];rfl)
   have em:((z41 w).map fun j=>D.int ((0:Int)+(j:Nat))).map (fun d=>D.tup [.int i,d])=(QiY w i).map pl:=by
    unfold QiY;rw[z60,z60];refine z80 fun j _=>?_;show D.tup [.int i,.int (0+(j:Int))]=D.tup [.int i,.int j];rw[Int.zero_add]
   rw[em] at cm;have gl:(gr w i).length<=900:=by rw[Qg2];exact z73 (zz7 @0 hw) (by decide:30 * 30<=900)
   have rl:(QiY w i).length=w:=by unfold QiY;rw[z01,z52]
   refine⟨_,QbT (i:=1) (par:=false) (xs:=(gr w i).map pl) (by rw[← hq];rfl) cm (by rw[z01,z01];lia) Jc,rfl,~~~(.int i),~~~(rwI l),?_,.inr ⟨.int i,rfl⟩,.inr ⟨rwI l,rfl⟩,hi⟩;rw[← hq,Qdi,z47];rfl
  ·rintro ρ ⟨s,t,rfl,hs,ht,_⟩;have:(QaQ (R.map rwI)).length=h:=by unfold QaQ;rw[z01,y43,z01,rc.hi]
   rw[this];exact⟨rfl,s,t,rfl,hs,ht⟩
 rintro ρ ⟨s,t,rfl,hs,ht⟩;refine⟨_,rfl,_,[],rfl,?_,rfl,rfl⟩;show outs [] [s,t]=_
 rw[QV hs,QV ht];rfl))
theorem Qg3 (rc:Rc h w R)(hp:p∈gr w h):∃v:Int,Jp z [rD R,pl p]=.ok (.int v) []:=by
 obtain⟨r,c,hr,hc,rfl⟩:=gr_mem hp;obtain⟨l,e1⟩:∃l,R[r]? = some l:=⟨_,z06 (by rw[rc.hi];exact hr)⟩;have lw:=rc.wi _ (z38 e1);obtain⟨v,e2⟩:∃v,l[c]? = some v:=⟨_,z06 (by rw[lw];exact hc)⟩;refine⟨v,Ye (Jk ?_)⟩;dsimp only[Vc];refine⟨(.rt (.int v),[~~~(rD R),~~~(pl ((r:Int),(c:Int)))]),?_,_,[],rfl,rfl,rfl,rfl⟩;unfold QeB;rw[op_eq (op_eq (show mV 0 _=.ok (rD R,_) from rfl) (op_eq (show mV 1 _=.ok (pl ((r:Int),(c:Int)),_) from rfl) rfl (show gIx (pl ((r:Int),(c:Int))) (.int 0)=some (.int r) from rfl)) (Qax (t:=.lst) @14 (d:=rwI l) (by rw[z17,e1];rfl))) (op_eq (show mV 1 _=.ok (pl ((r:Int),(c:Int)),_) from rfl) rfl (show gIx (pl ((r:Int),(c:Int))) (.int 1)=some (.int c) from rfl)) (Qax (t:=.lst) @14 (d:=.int v) (by rw[z17,e2];rfl))];rfl
def nmD:Fr->Int
 |.ok (.int v) _=>v
 |_=>0
theorem Qg4 {m:Int}(rc:Rc h w R)(hh:h<=30)(hw:w<=30):∃f:P2->Bool,Qd8 z [rD R,.int m]=.ok (.lst (((gr w h).filter f).map pl)) []:=by
 refine⟨(fun d=>decide (nmD (Jp z [rD R,d]) ≥ m))∘pl,Ye (Jk ?_)⟩;dsimp only[QbJ];have gl:(gr w h).length<=900:=by rw[Qg2];exact z73 (zz7 hh hw) (by decide:30 * 30<=900)
 have cm:=Vu (par:=false) (cs:=[.me,.fz 0,.fz 1]) (j:=0) (mi:=Jr (JG .O (Vb z) (Qg (mV 0) Qz))) (tc:=Jj (mOp gGe (JG .V (Jp z) (Qg (mV 1) (Qg (mV 0) Qz))) (mV 2))) (te:=mI (mV 0)) (f:=fun d=>decide (nmD (Jp z [rD R,d]) ≥ m)) (g:=id) (ρ:=[~~~(rD R),~~~(.int m)]) (ρ1:=[~~~(rD R),~~~(.int m)]) (ρb:=[none,~~~(rD R),~~~(.int m)]) (ds:=(gr w h).map pl) (di:=[]) (os:=[]) (QH (t:=.lst) @14 (Qy (args:=[rD R]) rfl (QcA rc hh hw) fun q=>by cases q)) rfl rfl (fun d hd=>by
  obtain⟨p,hp,rfl⟩:=z37.mp hd;obtain⟨v,ev⟩:=Qg3 (z:=z) rc hp;refine⟨[~~~(pl p),~~~(rD R),~~~(.int m)],rfl,?_,fun _=>rfl,rfl⟩;rw[ev]
  exact QL (op_eq (Qy (args:=[rD R,pl p]) rfl ev fun _=>rfl) (show mV 2 _=.ok (.int m,_) from rfl) rfl)) (by rw[z01];exact za3 (J0 @0)) rfl rfl
 rw[zr1,List.filter_map] at cm;show W (QeB _ [~~~(rD R),~~~(.int m)]) _;unfold QeB;rw[cm];exact⟨_,rfl,_,[],rfl,rfl,rfl,rfl⟩
end
variable {z:Z}
section
variable {s:List P2}
theorem Qg5 {cs:List P2}{P:List P2->Prop}(hc:∀p∈cs,P (cmp cs p)):∀(l:List P2) (a:List (List P2)×List P2),(∀p∈l,p∈cs)->(∀s∈a.1,P s)->∀s∈(l.foldl (Jt cs) a).1,P s
 | [],_,_,h=>h
 |p::l,a,hl,h=>Qg5 hc l _ (fun q hq=>hl q (z07 _ hq)) (by
  unfold Jt
  split
  ·exact h
  ·intro s hs;rcases z08.mp hs with q|q
   ·exact h s q
   ·rw[z16.mp q];exact hc p (hl p z09))
theorem QkI (h:s∈shp ps):Jh ltP s=s/\s≠[]:=Qg5 (cs:=QK ps) (P:=fun s=>Jh ltP s=s/\s≠[]) (fun p hp=>by
 have nd:=(QbB ps).filter (p:=fun q=>@decide (Rch (QK ps) p q) (zm2 _));refine⟨?_,fun e=>?_⟩
 ·exact JR YC (Q9 YC (Qgm (QbB ps) p)) (Q9 YC nd) (Ql _)
 ·have:=(Yc hp).mpr (Rch.base (cs:=QK ps) (p:=p))
  rw[e] at this;cases this) (QK ps) ([],[]) (fun _ h=>h) (fun _ h=>nomatch h) s h
theorem QkJ (h:s∈shp ps):∀q∈s,q∈ps:=fun q hq=>((Qcz ps).2.2 q).mp (zu7.mpr ⟨s,h,hq⟩)
theorem QkK:(shp ps).length<=ps.length:=z73 (Qa3 (cs:=QK ps) (QK ps)).1 (QdY ps)
theorem Qg6 {α:Type}:∀(xs:List α),(z41 xs.length).filterMap (fun k=>xs[k]?)=xs
 | []=>rfl
 |x::xs=>by
  rw[z31,zi8,z81,zf4];show x::(z41 xs.length).filterMap (fun k=>xs[k]?)=_;rw[Qg6 xs]
theorem QmU{xs:List α}:JC xs none (some 1)=xs:=by
 unfold JC;show(sliceRange 0 (xs.length:Int) 1).filterMap _=_;have e:sliceRange 0 (xs.length:Int) 1=(z41 (xs.length - 0)).map (0 + ·):=PySem.sliceRange_one 0 xs.length;rw[e,zf4]
 have e2:((xs[·]?)∘fun k:Nat=>0+k)=fun k=>xs[k]?:=by
  funext k
  show xs[0+k]? = _;rw[z96]
 rw[e2,Nat.sub_zero];exact Qg6 xs
theorem QmV{xs:List α}:JC xs none (some (-1))=xs.reverse:=by
 unfold JC;show(sliceRange ((xs.length:Int) - 1) (-1) (-1)).filterMap _=_;rw[PySem.W.krv_sliceRange,PySem.W.krv_range,List.filterMap_reverse,Qg6]
def toL:D->D
 |.nd _ ds=>.lst ds
 |d=>d
def toR:D->D
 |.nd _ ds=>.tup (ds.map toL)
 |d=>d
theorem QkL {o:List Sdx}:toR (Qw o)=QeP true o:=by
 show D.tup ((o.map fun t=>pl t.1).map toL)=D.tup (o.map fun t=>plB true t.1);rw[z60];rfl
theorem Qel{t:Tag}(ht:Qoy t)(h:m ρ=.ok (.nd t ds,ρ))(hi:D.Jb ds=true):YS (Qg m Qz) ρ=.ok (.lst ds,ρ):=by
 unfold YS;rw[Qk h (show Qz ρ=.ok ([],ρ) from rfl)];have:Qha [.nd t ds]=some ds:=by rcases ht with rfl|rfl<;>rfl
 show((Rs.of (Qha [.nd t ds])).bind _)=_;rw[this];show(if D.Jb ds=true then _ else _)=_;rw[if_pos hi]
theorem QkM {o:List Sdx}:D.Jb (o.map fun t=>pl t.1)=true:=J7 fun d hd=>by
 obtain⟨_,_,rfl⟩:=z37.mp hd;rfl
theorem copy_eq(h:m ρ=.ok (.lst (os.map Qw),ρ))(hc:Qat ρ [.me] []=some [none])(hl:os.length<8000):JN false [.me] 0 (Jr m) QfE (YS (Qg (mV 0) Qz)) ρ=.ok (.lst (os.map Qw),ρ):=by
 have c:=comp_map (par:=false) (cs:=[.me]) (j:=0) (mi:=Jr m) (te:=YS (Qg (mV 0) Qz)) (g:=id) (ρ:=ρ) (ρ1:=ρ) (ρb:=[none]) (ds:=os.map Qw) (di:=[]) (os:=[]) (QH (t:=.lst) @14 h) rfl hc (fun d hd=>by
  obtain⟨o,_,rfl⟩:=z37.mp hd
  exact⟨[~~~(Qw o)],rfl,Qel (t:=.lst) @14 (show mV 0 _=.ok (Qw o,_) from rfl) QkM,rfl⟩) (by rw[z01];exact za3 (J0 hl)) rfl rfl
 rw[zr1] at c;exact c
theorem QmW(h:m ρ=.ok (.lst (os.map Qw),ρ))(hc:Qat ρ [.me] []=some [none])(hl:os.length<8000)(ho:∀o∈os,o.length<8000) :
  Qcu (JN false [.me] 0 (Jr m) QfE (Qcu (JN false [.me] 0 (Jr (mV 0)) QfE (YS (Qg (mV 0) Qz))))) ρ=.ok (Qac true os,ρ):=by
 have c:=comp_map (par:=false) (cs:=[.me]) (j:=0) (mi:=Jr m) (te:=Qcu (JN false [.me] 0 (Jr (mV 0)) QfE (YS (Qg (mV 0) Qz)))) (g:=toR) (ρ:=ρ) (ρ1:=ρ) (ρb:=[none]) (ds:=os.map Qw) (di:=[]) (os:=[]) (QH (t:=.lst) @14 h) rfl hc (fun d hd=>by
  obtain⟨o,om,rfl⟩:=z37.mp hd
  have c2:=comp_map (par:=false) (cs:=[.me]) (j:=0) (mi:=Jr (mV 0)) (te:=YS (Qg (mV 0) Qz)) (g:=toL) (ρ:=[~~~(Qw o)]) (ρ1:=[~~~(Qw o)]) (ρb:=[none]) (ds:=o.map fun t=>pl t.1) (di:=[]) (os:=[]) (QH (t:=.lst) @14 rfl) rfl rfl (fun d hd=>by
   obtain⟨t,_,rfl⟩:=z37.mp hd
   exact⟨[~~~(pl t.1)],rfl,Qel (t:=.tup) (.inr rfl) (show mV 0 _=.ok (pl t.1,_) from rfl) rfl,rfl⟩) (by rw[z01];exact za3 (J0 (ho o om))) rfl rfl
  refine⟨[~~~(Qw o)],rfl,?_,rfl⟩;unfold Qcu
  rw[c2];rfl) (by rw[z01];exact za3 (J0 hl)) rfl rfl
 unfold Qcu at c ⊢;rw[c];show Rs.ok (D.tup ((os.map Qw).map toR),ρ)=_;rw[z60];unfold Qac;rw[show(toR∘Qw)=QeP true from funext fun o=>QkL];rfl
theorem QaN{t:Tag}(ht:t=.lst\/t=.tup)(h:∀d∈ds,d.pln n=true):(D.nd t ds).pln (n+1)=true:=by
 rcases ht with rfl|rfl
 ·exact za7.mpr h
 ·exact za7.mpr h
theorem Qim:(D.lst (os.map Qw)).pln 30=true:=QaN @14 fun d hd=>by
 obtain⟨l,_,rfl⟩:=z37.mp hd
 exact QaN @14 fun d hd=>by
  obtain⟨p,_,rfl⟩:=z37.mp hd
  exact QaN (.inr rfl) fun d hd=>by
   rcases z21.mp hd with rfl|hd
   ·rfl
   ·rw[z16.mp hd];rfl
theorem Qg7 {ps:List P2}:(D.lst @29).pln 30=true:=QaN @14 fun d hd=>by
 obtain⟨p,_,rfl⟩:=z37.mp hd
 exact QaN (.inr rfl) fun d hd=>by
  rcases z21.mp hd with rfl|hd
  ·rfl
  ·rw[z16.mp hd];rfl
structure Rim (s:List P2)(os:List (List Sdx)):Prop where
 rd:∀o∈os,∃t k,Rnd (inS s) t k/\o=orb (inS s) t k
 pm:os.flatten.Perm (sds (inS s) s)
theorem Rim.len {s:List P2}(r:Rim s os)(hl:s.length<900):os.flatten.length<4000/\os.length<4000/\∀o∈os,o.length<4000:=by
 have h1:os.flatten.length<4000:=by have:=QbS (x:=inS s) (ps:=s);rw[r.pm.length_eq];lia
 have h3:∀(l:List (List Sdx)),(∀o∈l,o≠[])->l.length<=l.flatten.length/\∀o∈l,o.length<=l.flatten.length:=fun l=>by
  induction l with
  |nil=>intro _;exact⟨z15 _,(fun _ h=>nomatch h)⟩
  |cons a l ih=>
   intro h;obtain⟨i1,i2⟩:=ih fun o ho=>h o (z07 _ ho);have:=List.length_pos_iff.mpr (h a z09);rw[ze0,z10,z31];refine⟨by lia,fun o ho=>?_⟩;rcases z21.mp ho with rfl|ho
   ·lia
   ·have:=i2 o ho;lia
 obtain⟨a1,a2⟩:=h3 os fun o ho=>by
  obtain⟨t,k,R,rfl⟩:=r.rd o ho;intro e;have:=congrArg zd5 e;unfold orb at this;rw[z01,z52] at this;have:=R.po;rw[zi2] at *;lia
 exact⟨h1,by lia,fun o ho=>by have:=a2 o ho;lia⟩
theorem Rim.rev {s:List P2}(r:Rim s os):Rim s os.reverse:=⟨fun o ho=>r.rd o (zd0.mp ho),(List.Perm.flatten (zd8 os)).trans r.pm⟩
theorem Rim.abv {s:List P2}(r:Rim s os)(hn:s.Nodup)(a c:Int):decide ((a,c)∈s)=decide (Qdh c a (os.flatten.map edg) % 2=1):=by
 have:=Yw J3 hn (r.pm.map edg) a c;rw[QkF] at this;exact this
theorem Rim.ne {s:List P2}(r:Rim s os)(hn:s.Nodup)(h:s≠[]):∃o rest t k,os=o::rest/\Rnd (inS s) t k/\o=orb (inS s) t k:=by
 cases os with
 |nil=>
  obtain⟨p,hp⟩:=zy8 _ h;have:=r.abv hn p.1 p.2;rw[decide_eq_true (show(p.1,p.2)∈s from hp)] at this;have:true=false:=this
  cases this
 |cons o rest=>
  obtain⟨t,k,R,e⟩:=r.rd o z09;exact⟨o,rest,t,k,rfl,R,e⟩
theorem Qin(hn:s.Nodup)(hl:s.length<900):∃os,Rim s os/\Qcw z [.lst (s.map (plB b))]=.ok (.lst (os.map Qw)) []:=by
 obtain⟨os,f,F,hf,e⟩:=Qkz (z:=z) (b:=b) hn hl;exact⟨os,⟨F.rnd,F.all J3 hn hf⟩,e⟩
end
variable {z:Z}
section
variable {s:List P2}
def laS (ns:List Int)(P:D)(s2 s3 s4 s5 s6 s7 s8 s9 s10 s11 s12 s13:Option Sl):Rho:=[~~~(script ns),some (.own P),s2,s3,s4,s5,s6,s7,s8,s9,s10,s11,s12,s13]
theorem ifF {mt:MT}{A u:MS}{ρ:Rho}(t:mt ρ=.ok (false,ρ))(h:W (u ρ) k):W (Qcf (mIf mt A QcV) u ρ) k:=by
 refine JK (fun r=>r=ρ) ?_ (by rintro _ rfl;exact h);refine Jz (QaR t)▸?_;rw[if_neg z19];exact⟨_,rfl,rfl,rfl⟩
theorem QkN{s2 s3 s4 s5:Option Sl}{P:D}{p0:P2}(hP:Pot P)(hn:s.Nodup)(hl:s.length<900)(r:Rim s os)(h11:frO s11)(h12:frO s12)(h13:frO s13) :
  W (QkR (QeE (Qg (mC (.int 9)) Qz)) (fun d ρ=>YF ρ 11 d) (Qcf (YG 12 (mOp QdI (mOp gIx (mV 10) (mC (.int 0))) (Jf false [some 1,none] (Qp z) (Qg (mS 1) (Qg (mC (.int 17)) Qz))))) (Qcf (YG 13 (mOp TL.gSub (mOp QdI (mOp gIx (mV 10) @15) (Jf false [some 1,none] (Qp z) (Qg (mS 1) (Qg (mC (.int 33)) Qz)))) (mC (.int 16))))
   (mIf (Jj (mOp gNe (mOp gIn (QcU (Qg (mV 12) (Qg (mV 13) Qz))) (mV 6)) (mOp gEq (mOp QhI (JG .V (Jg z) (Qg (mV 7) (Qg (mV 12) (Qg (mV 13) Qz)))) (mC (.int 2))) @15))) (QeB (mC (.bl false))) QcV)))
   (laS ns P s2 s3 s4 s5 @11 @7 s8 s9 (~~~(pl p0)) s11 s12 s13)) fun q=>q.1=.nx/\∃P s11 s12 s13,q.2=laS ns P s2 s3 s4 s5 @11 @7 s8 s9 (~~~(pl p0)) s11 s12 s13/\Pot P/\frO s11/\frO s12/\frO s13:=by
 have rl:=r.len hl;refine JB (ds:=(z41 (y29 9)).map fun j=>.int ((0:Int)+(j:Nat))) (ρ1:=laS ns P s2 s3 s4 s5 @11 @7 s8 s9 (~~~(pl p0)) s11 s12 s13) (fun i ρ=>∃P s11 s12 s13,ρ=laS ns P s2 s3 s4 s5 @11 @7 s8 s9 (~~~(pl p0)) s11 s12 s13/\Pot P/\frO s11/\frO s12/\frO s13) (VH rfl @2 @2) ⟨P,s11,s12,s13,rfl,hP,h11,h12,h13⟩ ?_ ?_
 ·rintro i d ρ hd ⟨P,s11,s12,s13,rfl,hP,h11,h12,h13⟩;refine⟨laS ns P s2 s3 s4 s5 @11 @7 s8 s9 (~~~(pl p0)) (~~~d) s12 s13,by rcases h11 with rfl|⟨_,rfl⟩<;>rfl,?_⟩;obtain⟨u,P1,hP1,_,_,e1⟩:=tkE (z:=z) (par:=false) (i:=1) (mN:=mC (.int 17)) (n:=17) (ρ:=laS ns P s2 s3 s4 s5 @11 @7 s8 s9 (~~~(pl p0)) (~~~d) s12 s13) hP @2 @2 rfl rfl;refine Ws (laS ns P1 s2 s3 s4 s5 @11 @7 s8 s9 (~~~(pl p0)) (~~~d) (~~~(.int (p0.1+u))) s13) ⟨_,YL (op_eq (op_eq (show mV 10 _=.ok (pl p0,_) from rfl) (show mC (.int 0) _=.ok (.int 0,_) from rfl) (show gIx (pl p0) (.int 0)=some (.int p0.1) from rfl)) e1 (show QdI (.int p0.1) (.int u)=some (.int (p0.1+u)) from rfl)) (Yt (i:=12) rfl h12),rfl,rfl⟩ ?_;obtain⟨v,P2,hP2,_,_,e2⟩:=tkE (z:=z) (par:=false) (i:=1) (mN:=mC (.int 33)) (n:=33) (ρ:=laS ns P1 s2 s3 s4 s5 @11 @7 s8 s9 (~~~(pl p0)) (~~~d) (~~~(.int (p0.1+u))) s13) hP1 @2 @2 rfl rfl;refine Ws (laS ns P2 s2 s3 s4 s5 @11 @7 s8 s9 (~~~(pl p0)) (~~~d) (~~~(.int (p0.1+u))) (~~~(.int (p0.2+v - 16)))) ⟨_,YL (op_eq (op_eq (op_eq (show mV 10 _=.ok (pl p0,_) from rfl) (show mC (.int 1) _=.ok (.int 1,_) from rfl) (show gIx (pl p0) (.int 1)=some (.int p0.2) from rfl)) e2 (show QdI (.int p0.2) (.int v)=some (.int (p0.2+v)) from rfl)) (show mC (.int 16) _=.ok (.int 16,_) from rfl) (show TL.gSub (.int (p0.2+v)) (.int 16)=some (.int (p0.2+v - 16)) from rfl)) (Yt (i:=13) rfl h13),rfl,rfl⟩ ?_;generalize p0.1+u=a;generalize p0.2+v - 16=c;generalize hq:laS ns P2 s2 s3 s4 s5 @11 @7 s8 s9 (~~~(pl p0)) (~~~d) (~~~(.int a)) (~~~(.int c))=ρ';have v12:mV 12 ρ'=.ok (.int a,ρ'):=by rw[← hq];rfl
  have v13:mV 13 ρ'=.ok (.int c,ρ'):=by rw[← hq];rfl
  have v6:mV 6 ρ'=.ok (.lst (s.map pl),ρ'):=by rw[← hq];rfl
  have v7:mV 7 ρ'=.ok (.lst (os.map Qw),ρ'):=by rw[← hq];rfl
  have tu:QcU (Qg (mV 12) (Qg (mV 13) Qz)) ρ'=.ok (pl (a,c),ρ'):=by
   unfold QcU;rw[Qk v12 (Qk v13 (show Qz ρ'=.ok ([],ρ') from rfl))];rfl
  have ab:=Qik (z:=z) (r:=a) (c:=c) r.rd rl.1
  have e3:mOp gEq (mOp QhI (JG .V (Jg z) (Qg (mV 7) (Qg (mV 12) (Qg (mV 13) Qz)))) (mC (.int 2))) @15 ρ'=.ok (.bl (decide ((a,c)∈s)),ρ'):=by
   have e4:=op_eq (op_eq (Qy (rk:=.V) (args:=[.lst (os.map Qw),.int a,.int c]) (Qk v7 (Qk v12 (Qk v13 (show Qz ρ'=.ok ([],ρ') from rfl)))) ab fun _=>rfl) (show mC (.int 2) ρ'=.ok (.int 2,ρ') from rfl) (show QhI (.int (Qdh c a (os.flatten.map edg))) (.int 2)=some (.int (((Qdh c a (os.flatten.map edg):Nat):Int) % 2)) from rfl)) (show mC (.int 1) ρ'=.ok (.int 1,ρ') from rfl) VL;rw[e4,r.abv hn a c]
   congr 3
   exact decide_eq_decide.mpr ⟨fun q=>by lia,fun q=>by lia⟩
  have tst:=QL (op_eq (op_eq tu v6 Qma) e3 (Qbu (d:=.bl (decide ((a,c)∈s))) rfl));refine Jz (QaR tst)▸?_;rw[if_neg z19,← hq];exact⟨_,rfl,rfl,P2,_,_,_,rfl,hP2,.inr ⟨d,rfl⟩,.inr ⟨.int a,rfl⟩,.inr ⟨.int c,rfl⟩⟩
 ·rintro ρ h;exact⟨rfl,h⟩
theorem QkO{rw:D}(hp:ps.Pairwise fun a b=>ltP a b=true)(hl:ps.length<900)(hg:∀p∈ps,0<=p.1/\p.1<=100){L:List (List P2)}(eL:L=shp ps){P:D}{s7 s10:Option Sl}(hs:L[i]? = some s)(hP:Pot P)(h7:frO s7)(h8:frO s8)(h9:frO s9)(h10:frO s10)(h11:frO s11)(h12:frO s12)(h13:frO s13){A:MS}
  (hA:A=Qcf (Qh0 5 (mV 6)) (Qcf (YG 7 (JG .O (Qcw z) (Qg (mV 6) Qz))) (Qcf (QlL 8 (JN false [.me] 0 (Jr (mV 7)) QfE (YS (Qg (mV 0) Qz)))) (Qcf (YG 9 (Yb (mV 7) QeH (QbV (mOp gIx (Qg9 (Qg @15 (Qg (mUn QjH @15) Qz))) (Jf false [some 1,none] (Qp z) (Qg (mS 1) (Qg (mC (.int 2)) Qz)))))))
   (Qcf (mIf (Jj (mOp gEq (Jf false [some 1,none] (Qp z) (Qg (mS 1) (Qg (mC (.int 2)) Qz))) @15)) (YG 9 (Qcu (JN false [.me] 0 (Jr (mV 9)) QfE (Qcu (JN false [.me] 0 (Jr (mV 0)) QfE (YS (Qg (mV 0) Qz))))))) QcV)
   (Qcf (mIf (mOr (Jj (mOp gNe (JG .O (QbI z) (Qg (mV 9) Qz)) (mV 6))) (Jj (mOp gNe (mV 7) (mV 8)))) (QeB (mC (.bl false))) QcV) (Qcf (YG 10 (mOp gIx (mOp gIx (mV 7) (mC (.int 0))) (mC (.int 0))))
   (QkR (QeE (Qg (mC (.int 9)) Qz)) (fun d ρ=>YF ρ 11 d) (Qcf (YG 12 (mOp QdI (mOp gIx (mV 10) (mC (.int 0))) (Jf false [some 1,none] (Qp z) (Qg (mS 1) (Qg (mC (.int 17)) Qz))))) (Qcf (YG 13 (mOp TL.gSub (mOp QdI (mOp gIx (mV 10) @15) (Jf false [some 1,none] (Qp z) (Qg (mS 1) (Qg (mC (.int 33)) Qz)))) (mC (.int 16))))
   (mIf (Jj (mOp gNe (mOp gIn (QcU (Qg (mV 12) (Qg (mV 13) Qz))) (mV 6)) (mOp gEq (mOp QhI (JG .V (Jg z) (Qg (mV 7) (Qg (mV 12) (Qg (mV 13) Qz)))) (mC (.int 2))) @15))) (QeB (mC (.bl false))) QcV))))))))))) :
  W (A (laS ns P (~~~rw) (~~~(.lst @29)) (~~~(shD L)) (some (.own (.lst ((L.take i).flatten.map pl)))) @11 s7 s8 s9 s10 s11 s12 s13)) fun q=>q.1=.nx/\∃P s7 s8 s9 s10 s11 s12 s13,q.2=laS ns P (~~~rw) (~~~(.lst @29)) (~~~(shD L)) (some (.own (.lst ((L.take (i+1)).flatten.map pl)))) @11 s7 s8 s9 s10 s11 s12 s13/\Pot P/\frO s7/\frO s8/\frO s9/\frO s10/\frO s11/\frO s12/\frO s13:=by
 subst hA;have sm:s∈shp ps:=by rw[← eL];exact z38 hs
 have nd:=QmS sm;obtain⟨srt,ne⟩:=QkI sm;have sb:=QkJ sm;have sl:s.length<900:=zm5 (sub_len nd sb) hl;have fl:L.flatten.length<=ps.length:=by rw[eL];exact sub_len (Qcz ps).2.1 fun q hq=>((Qcz ps).2.2 q).mp hq
 have tk:(L.take (i+1)).flatten=(L.take i).flatten++s:=by rw[z92,hs,z55];simp
 have tl:(L.take i).flatten.length+s.length<900:=by
  rw[← z10,← tk];have:(L.take (i+1)).flatten.length+(L.drop (i+1)).flatten.length=L.flatten.length:=by rw[← z10,← z55,z33]
  lia
 rw[tk];generalize (L.take i).flatten=qs at tl;generalize e2:(some (Sl.frz rw):Option Sl)=s2;generalize e3:(some (Sl.frz (.lst @29)):Option Sl)=s3;generalize e4:(some (Sl.frz (shD L)):Option Sl)=s4;refine Ws (laS ns P s2 s3 s4 (some (.own (.lst ((qs++s).map pl)))) @11 s7 s8 s9 s10 s11 s12 s13) ⟨_,QbT (i:=5) (par:=false) (xs:=qs.map pl) (ds:=s.map pl) rfl rfl (by rw[z01,z01];lia) Jc,rfl,by rw[← z47];rfl⟩ ?_;generalize e5:(some (Sl.own (.lst ((qs++s).map pl))):Option Sl)=s5;obtain⟨os,r,er⟩:=Qin (z:=z) (b:=false) nd sl;have pf:s.map (plB false)=s.map pl:=rfl;rw[pf] at er;obtain⟨l1,l2,l3⟩:=r.len sl;refine Ws (laS ns P s2 s3 s4 s5 @11 @7 s8 s9 s10 s11 s12 s13) ⟨_,YL (Qy (rk:=.O) (args:=[.lst (s.map pl)]) rfl er fun q=>by cases q) (Yt (i:=7) rfl h7),rfl,rfl⟩ ?_;refine Ws (laS ns P s2 s3 s4 s5 @11 @7 @7 s9 s10 s11 s12 s13) ⟨_,YL (copy_eq rfl rfl @0) (Yt (i:=8) rfl h8),rfl,rfl⟩ ?_;obtain⟨u,P1,hP1,u0,u1,eu⟩:=tkE (z:=z) (par:=false) (i:=1) (mN:=mC (.int 2)) (n:=2) (ρ:=laS ns P s2 s3 s4 s5 @11 @7 @7 s9 s10 s11 s12 s13) hP @2 @2 rfl rfl
 obtain⟨os',r',ho⟩:∃os',Rim s os'/\W (YG 9 (Yb (mV 7) QeH (QbV (mOp gIx (Qg9 (Qg @15 (Qg (mUn QjH @15) Qz))) (Jf false [some 1,none] (Qp z) (Qg (mS 1) (Qg (mC (.int 2)) Qz)))))) (laS ns P s2 s3 s4 s5 @11 @7 @7 s9 s10 s11 s12 s13)) fun q=>q.1=.nx/\q.2=laS ns P1 s2 s3 s4 s5 @11 @7 @7 (~~~(.lst (os'.map Qw))) s10 s11 s12 s13:=by
  have sc:∀{k:Int} {os':List (List Sdx)},gIx (.lst [.int 1,.int (-1)]) (.int u)=some (.int k)->k≠0->JC (os.map Qw) none (some k)=os'.map Qw->W (YG 9 (Yb (mV 7) QeH (QbV (mOp gIx (Qg9 (Qg @15 (Qg (mUn QjH @15) Qz))) (Jf false [some 1,none] (Qp z) (Qg (mS 1) (Qg (mC (.int 2)) Qz)))))) (laS ns P s2 s3 s4 s5 @11 @7 @7 s9 s10 s11 s12 s13)) fun q=>q.1=.nx/\q.2=laS ns P1 s2 s3 s4 s5 @11 @7 @7 (~~~(.lst (os'.map Qw))) s10 s11 s12 s13:=fun{k os'} ek nk ep=>by
   refine⟨_,YL (x:=.lst (os'.map Qw)) (ρ1:=laS ns P1 s2 s3 s4 s5 @11 @7 @7 s9 s10 s11 s12 s13) ?_ (Yt (i:=9) rfl h9),rfl,rfl⟩;unfold Yb QbV;have q:=op_eq (show Qg9 (Qg @15 (Qg (mUn QjH @15) Qz)) (laS ns P s2 s3 s4 s5 @11 @7 @7 s9 s10 s11 s12 s13)=.ok (.lst [.int 1,.int (-1)],_) from rfl) eu ek;show(((mOp gIx (Qg9 (Qg @15 (Qg (mUn QjH @15) Qz))) (Jf false [some 1,none] (Qp z) (Qg (mS 1) (Qg (mC (.int 2)) Qz))) (laS ns P s2 s3 s4 s5 @11 @7 @7 s9 s10 s11 s12 s13)).bind _).bind _)=_;rw[q];show(if some k≠some 0 then Rs.ok (D.lst (JC (os.map Qw) none (some k)),_) else _)=_;rw[if_pos (fun e=>nk (z26 e)),ep];rfl
  by_cases c:u=0
  ·exact⟨os,r,sc (k:=1) (by rw[c];rfl) @2 QmU⟩
  ·have:u=1:=by lia
   exact⟨os.reverse,r.rev,sc (k:=-1) (by rw[this];rfl) @2 (by rw[QmV,zu9])⟩
 obtain⟨l1',l2',l3'⟩:=r'.len sl;refine Ws (laS ns P1 s2 s3 s4 s5 @11 @7 @7 (~~~(.lst (os'.map Qw))) s10 s11 s12 s13) ho ?_;refine JK (fun ρ=>∃P2 bb,Pot P2/\ρ=laS ns P2 s2 s3 s4 s5 @11 @7 @7 (~~~(Qac bb os')) s10 s11 s12 s13) ?_ ?_
 ·obtain⟨v,P2,hP2,_,_,ev⟩:=tkE (z:=z) (par:=false) (i:=1) (mN:=mC (.int 2)) (n:=2) (ρ:=laS ns P1 s2 s3 s4 s5 @11 @7 @7 (~~~(.lst (os'.map Qw))) s10 s11 s12 s13) hP1 @2 @2 rfl rfl;have tst:=QL (op_eq ev (show mC (.int 1) _=.ok (.int 1,_) from rfl) VL);refine Jz (QaR tst)▸?_
  cases decide (v=1) with
  |true=>
   rw[if_pos rfl];exact⟨_,YL (QmW (os:=os') rfl rfl @0 fun o ho=>by have:=l3' o ho;lia) rfl,rfl,P2,true,hP2,rfl⟩
  |false=>
   rw[if_neg z19];exact⟨_,rfl,rfl,P2,false,hP2,rfl⟩
 rintro ρ ⟨P2,bb,hP2,rfl⟩;have hb:∀p∈s,-1000000<=p.1/\p.1<=1000000:=fun p hq=>by have:=hg p (sb p hq);lia
 have ie:=Qg0 (z:=z) (bb:=bb) nd sl hb r'.rd r'.pm;rw[srt] at ie;refine ifF (or_eq (b:=false) (c:=false) (QL (op_eq (Qy (rk:=.O) (args:=[Qac bb os']) rfl ie fun q=>by cases q) (show mV 6 _=.ok (.lst (s.map pl),_) from rfl) (Qbu Qg7))) (fun _=>QL (op_eq (show mV 7 _=.ok (.lst (os.map Qw),_) from rfl) (show mV 8 _=.ok (.lst (os.map Qw),_) from rfl) (Qbu Qim))) fun q=>by cases q) ?_;obtain⟨o,rest,t,k,eo,R,ek⟩:=r.ne nd ne;have i0:gIx (.lst (os.map Qw)) (.int 0)=some (Qw o):=Qax (t:=.lst) (i:=0) @14 (by rw[eo];rfl)
 have i1:gIx (Qw o) (.int 0)=some (pl t.1):=Qax (t:=.lst) (i:=0) @14 (by
  rw[z17,ek];unfold orb
  rw[z17,zl7 R.po];rfl)
 refine Ws (laS ns P2 s2 s3 s4 s5 @11 @7 @7 (~~~(Qac bb os')) (~~~(pl t.1)) s11 s12 s13) ⟨_,YL (op_eq (op_eq (show mV 7 _=.ok (.lst (os.map Qw),_) from rfl) (show mC (.int 0) _=.ok (.int 0,_) from rfl) i0) (show mC (.int 0) _=.ok (.int 0,_) from rfl) i1) (Yt (i:=10) rfl h10),rfl,rfl⟩ ?_;refine(QkN hP2 nd sl r h11 h12 h13).mono ?_;rintro q ⟨q1,P3,s11,s12,s13,q2,hP3,g1,g2,g3⟩;exact⟨q1,P3,_,_,_,_,_,_,_,q2,hP3,.inr ⟨_,rfl⟩,.inr ⟨_,rfl⟩,.inr ⟨_,rfl⟩,.inr ⟨_,rfl⟩,g1,g2,g3⟩
end
variable {z:Z}
theorem QkP {ma mb:ME}(h1:ma ρ=.ok (.bl true,ρ1))(h2:mb ρ1=.ok (d,ρ2)):Qjw ma mb ρ=.ok (d,ρ2):=by
 unfold Qjw;rw[h1];show(if true=true then mb ρ1 else Rs.ok (.bl false,ρ1))=_;rw[if_pos rfl,h2]
theorem QmX(h:m ρ=.ok (d,ρ1)):QeB m ρ=.ok (.rt d,ρ1):=by
 unfold QeB;rw[h];rfl
theorem QmY (ns:List Int):FW (QmH z [script ns]) (fun d os=>d=.bl true/\os=[]):=Jk (by
 dsimp only[Qkp];obtain⟨P0,hP0,e0⟩:=QbU (z:=z) ns 32 @0;refine Ws (laS ns P0 none none none none none none none none none none none none) ⟨_,QeI (Qy (rk:=.O) (args:=[script ns,.int 32]) rfl e0 fun z=>nomatch z) rfl,rfl,rfl⟩ ?_;obtain⟨u,P1,hP1,u0,u1,eu⟩:=tkE (z:=z) (par:=false) (i:=1) (mN:=mC (.int 4)) (n:=4) (ρ:=laS ns P0 none none none none none none none none none none none none) hP0 @2 @2 rfl rfl;obtain⟨_,_,eR,rfl,h,w,R,rfl,rc,hh,hw⟩:=QkH (z:=z) ns u0 u1;refine Ws (laS ns P1 (~~~(rD R)) none none none none none none none none none none none) ⟨_,YL (Qy (rk:=.O) (args:=[script ns,.int u]) (Qk (show mV 0 _=.ok (script ns,_) from rfl) (Qk eu rfl)) eR fun q=>by cases q) rfl,rfl,rfl⟩ ?_;obtain⟨v,P2,hP2,v0,v1,ev⟩:=tkE (z:=z) (par:=false) (i:=1) (mN:=mC (.int 3)) (n:=3) (ρ:=laS ns P1 (~~~(rD R)) none none none none none none none none none none none) hP1 @2 @2 rfl rfl;obtain⟨f,eB⟩:=Qg4 (z:=z) (m:=1+v) rc @0 @0;have pw:((gr w h).filter f).Pairwise fun a b=>ltP a b=true:=Qoc.filter _
 have gl:((gr w h).filter f).length<900:=by
  have h1:=zf9 f (gr w h);have h2:h * w<=16 * 16:=zz7 hh hw;rw[Qg2] at h1;lia
 have gb:∀p∈(gr w h).filter f,0<=p.1/\p.1<=100:=fun p hp=>by
  obtain⟨r,c,hr,_,rfl⟩:=gr_mem (z77.mp hp).1;show 0<=(r:Int)/\(r:Int)<=100;lia
 generalize (gr w h).filter f=ps at pw gl gb eB;refine Ws (laS ns P2 (~~~(rD R)) (~~~(.lst @29)) none none none none none none none none none none) ⟨_,YL (Qy (rk:=.O) (args:=[rD R,.int (1+v)]) (Qk (show mV 2 _=.ok (rD R,_) from rfl) (Qk (op_eq (show mC (.int 1) _=.ok (.int 1,_) from rfl) ev (show QdI (.int 1) (.int v)=some (.int (1+v)) from rfl)) rfl)) eB fun q=>by cases q) rfl,rfl,rfl⟩ ?_;have eS:=QgM (z:=z) (a:=false) (b:=false) (ps:=ps) @0;have eP:sqT false (ps.map (plB false))=.lst @29:=rfl;rw[eP] at eS;refine Ws (laS ns P2 (~~~(rD R)) (~~~(.lst @29)) (~~~(shD (shp ps))) none none none none none none none none none) ⟨_,YL (Qy (rk:=.O) (args:=[.lst @29]) rfl eS fun q=>by cases q) rfl,rfl,rfl⟩ ?_;refine Ws (laS ns P2 (~~~(rD R)) (~~~(.lst @29)) (~~~(shD (shp ps))) (some (.own (.lst []))) none none none none none none none none) ⟨_,rfl,rfl,rfl⟩ ?_;have so:=Qcz ps;have sl:=QkK (ps:=ps);have nd:ps.Nodup:=pw.imp fun{a b} q e=>by rw[e,Qap] at q;cases q
 have fp:(shp ps).flatten.Perm ps:=QbA so.2.1 nd so.2.2;refine JK (fun ρ=>∃P s6 s7 s8 s9 s10 s11 s12 s13,ρ=laS ns P (~~~(rD R)) (~~~(.lst @29)) (~~~(shD (shp ps))) (some (.own (.lst ((shp ps).flatten.map pl)))) s6 s7 s8 s9 s10 s11 s12 s13/\Pot P/\frO s6/\frO s7/\frO s8/\frO s9/\frO s10/\frO s11/\frO s12/\frO s13) ?_ ?_
 ·generalize eL:shp ps=L;refine JB (ds:=L.map fun l=>.lst (l.map pl)) (ρ1:=laS ns P2 (~~~(rD R)) (~~~(.lst @29)) (~~~(shD L)) (some (.own (.lst []))) none none none none none none none none) (fun i ρ=>∃P s6 s7 s8 s9 s10 s11 s12 s13,ρ=laS ns P (~~~(rD R)) (~~~(.lst @29)) (~~~(shD L)) (some (.own (.lst ((L.take i).flatten.map pl)))) s6 s7 s8 s9 s10 s11 s12 s13/\Pot P/\frO s6/\frO s7/\frO s8/\frO s9/\frO s10/\frO s11/\frO s12/\frO s13) (QH (t:=.lst) @14 rfl) ⟨P2,none,none,none,none,none,none,none,none,rfl,hP2,.inl rfl,.inl rfl,.inl rfl,.inl rfl,.inl rfl,.inl rfl,.inl rfl,.inl rfl⟩ ?_ ?_
  ·rintro i d ρ hd ⟨P,s6,s7,s8,s9,s10,s11,s12,s13,rfl,hP,h6,h7,h8,h9,h10,h11,h12,h13⟩;rw[z17] at hd;obtain⟨s,hs,rfl⟩:=z03.mp hd;refine⟨laS ns P (~~~(rD R)) (~~~(.lst @29)) (~~~(shD L)) (some (.own (.lst ((L.take i).flatten.map pl)))) @11 s7 s8 s9 s10 s11 s12 s13,Yt (i:=6) rfl h6,?_⟩;refine(QkO (z:=z) pw gl gb eL.symm hs hP h7 h8 h9 h10 h11 h12 h13 rfl).mono ?_;rintro q ⟨q1,P3,s7,s8,s9,s10,s11,s12,s13,q2,g⟩;exact⟨q1,P3,_,s7,s8,s9,s10,s11,s12,s13,q2,g.1,.inr ⟨_,rfl⟩,g.2⟩
  ·rintro ρ ⟨P,s6,s7,s8,s9,s10,s11,s12,s13,rfl,g⟩;rw[z01,z63];exact⟨rfl,P,s6,s7,s8,s9,s10,s11,s12,s13,rfl,g⟩
 rintro ρ ⟨P,s6,s7,s8,s9,s10,s11,s12,s13,rfl,hP,h6,h7,h8,h9,h10,h11,h12,h13⟩;have f5:(shp ps).flatten.length<900:=by rw[fp.length_eq];exact gl
 have es:=Qej (m:=mB 5) (ρ:=laS ns P (~~~(rD R)) (~~~(.lst @29)) (~~~(shD (shp ps))) (some (.own (.lst ((shp ps).flatten.map pl)))) s6 s7 s8 s9 s10 s11 s12 s13) rfl so.2.1 @0;have eq:Jh ltP (shp ps).flatten=ps:=JR YC (Q9 YC so.2.1) pw ((Ql _).trans fp);rw[eq] at es;have ea:=Qil (z:=z) so.1 @0 @0;have g1:=op_eq es (show mV 3 _=.ok (.lst @29,_) from rfl) (QhO Qg7);have g2:=Qy (rk:=.V) (f:=Yk z) (mr:=Qg (mV 4) Qz) (ρ:=laS ns P (~~~(rD R)) (~~~(.lst @29)) (~~~(shD (shp ps))) (some (.own (.lst ((shp ps).flatten.map pl)))) s6 s7 s8 s9 s10 s11 s12 s13) (args:=[shD (shp ps)]) rfl ea fun _=>rfl;refine⟨(.rt (.bl true),laS ns P (~~~(rD R)) (~~~(.lst @29)) (~~~(shD (shp ps))) (some (.own (.lst ((shp ps).flatten.map pl)))) s6 s7 s8 s9 s10 s11 s12 s13),?_,_,[],rfl,?_,rfl,rfl⟩
 ·exact QmX (QkP g1 g2)
 ·show outs [] [s6,s7,s8,s9,s10,s11,s12,s13]=_
  rw[QV h6,QV h7,QV h8,QV h9,QV h10,QV h11,QV h12,QV h13];rfl)
structure Zok (z:Z):Prop where
 t:True
theorem QmZ (hz:Zok z)(ns:List Int):QmH z [script ns]=.ok (.bl true) []:=Ye (QmY ns)
end G74
namespace G74
open PySem PySem.Spec L2 TL
theorem all_mk {l:zo1}{w:World}{K:z02}{h:Heap}{mg:Str->Option Value}{fa:Addr}(X:K.In h)(G:h.Ns z68 mg)(hfa:mg "law" = some (.ref fa))
  (a1:Nf K "sides_round" "sides_round" (top 3))
  (a2:Nf K "turns" "turns" (top 6))
  (a3:Nf K "heights_of" "heights_of" (top 8))
  (a4:Nf K "places_in_column" "places_in_column" (top 9))
  (a5:Nf K "around" "around" (top 11))
  (a6:Nf K "places_of" "places_of" (top 12))
  (a7:Nf K "number_at" "number_at" (top 14))
  (a8:Nf K "_law_cell" "_law_cell" (top 20))
  (a9:Nf K "_law_rich" "_law_rich" (top 21))
  (a10:Nf K "_law_above" "_law_above" (top 25))
  (a11:Nf K "_law_apart" "_law_apart" (top 27))
  (a12:Nf K "sides_of" "sides_of" (top 2))
  (a13:Nf K "next_side" "next_side" (top 5))
  (a14:Nf K "inside" "inside" (top 7))
  (a15:Nf K "bright" "bright" (top 16))
  (a16:Nf K "take_shape" "take_shape" (top 18))
  (a17:Nf K "_law_purse" "_law_purse" (top 22))
  (a18:Nf K "_law_take" "_law_take" (top 23))
  (a19:Nf K "take_rim" "take_rim" (top 4))
  (a20:Nf K "shapes" "shapes" (top 17))
  (a21:Nf K "_law_size" "_law_size" (top 24))
  (a22:Nf K "rims" "rims" (top 1))
  (a23:Nf K "_law_rows" "_law_rows" (top 26))
  (a24:Nf K "law" "law" (top 28))
  (z0:zd7 K z68 "enumerate" = some none)
  (z1:zd7 K z68 "len" = some none)
  (z2:zd7 K z68 "list" = some none)
  (z3:zd7 K z68 "min" = some none)
  (z4:zd7 K z68 "range" = some none)
  (z5:zd7 K z68 "set" = some none)
  (z6:zd7 K z68 "sorted" = some none)
  (z7:zd7 K z68 "tuple" = some none)
  (z8:zd7 K z68 "zip" = some none)
  :
  ∃fd:FuncData,(∀(s:Shared) (v:Value),BindsTo s fd ⟨[v],[]⟩ [("_law_script",v)])/\∀base:Heap,K.In base->base.Ns z68 mg->FnOk l.prog w K mg base (CXe l.prog w) 5 fa fd ["_law_script"] (spLaw K):=by
 let z:Z:=⟨K⟩
 have con:∀base,Con z ⟨l.prog,w,mg,base⟩:=fun _=>⟨za5 X G z0,za5 X G z1,za5 X G z2,za5 X G z3,za5 X G z4,za5 X G z5,za5 X G z6,za5 X G z7,za5 X G z8,z64⟩;have hz:Zok z:=⟨z64⟩;refine Qmh X G hfa a24 (Qkp z) con (fun base R g=>?_) (fun ns=>QmZ hz ns) (fun _ _ _ _ _ _ _ _=>.of_eq rfl)
 let y:Y:=⟨l.prog,w,mg,base⟩
 have c:Con z y:=con base;have JW:Vw z y:=QaB X G c a1 (JS z) (fun _ _ _ _ _ _=>ar1 fun _=>rfl) (fun _ g=>g);have Qdd:QgE z y:=QaB X G c a2 (Qdb z) (fun _ _ _ _ _ _=>ar2 fun _ _=>rfl) (fun _ g=>g);have Yl:V5 z y:=QaB X G c a3 (Yg z) (fun _ _ _ _ _ _=>ar1 fun _=>rfl) (fun _ g=>g);have Q5:Jx z y:=QaB X G c a4 (Q4 z) (fun _ _ _ _ _ _=>ar2 fun _ _=>rfl) (fun _ g=>g);have QbK:Qd6 z y:=QaB X G c a5 (QbG z) (fun _ _ _ _ _ _=>ar1 fun _=>rfl) (fun _ g=>g);have Vg:QaE z y:=QaB X G c a6 (Va z) (fun _ _ _ _ _ _=>ar1 fun _=>rfl) (fun _ g=>g);have Vh:QaF z y:=QaB X G c a7 (Vc z) (fun _ _ _ _ _ _=>ar2 fun _ _=>rfl) (fun _ g=>g);have Vi:QaH z y:=QaB X G c a8 (JT z) (fun _ _ _ _ _ _=>ar2 fun _ _=>rfl) (fun _ g=>g);have Ja:Ve z y:=QaB X G c a9 (Vd z) (fun _ _ _ _ _ _=>ar1 fun _=>rfl) (fun _ g=>g);have Yr:V6 z y:=QaB X G c a10 (Yi z) (fun _ _ _ _ _ _=>ar3 fun _ _ _=>rfl) (fun _ g=>g);have Ys:V7 z y:=QaB X G c a11 (Yj z) (fun _ _ _ _ _ _=>ar1 fun _=>rfl) (fun _ g=>g);have VP:Qa6 z y:=QaB X G c a12 (VM z) (fun _ _ _ _ _ _=>ar1 fun _=>rfl) (fun _ g=>g JW);have Vk:QaJ z y:=QaB X G c a13 (Vf z) (fun _ _ _ _ _ _=>ar2 fun _ _=>rfl) (fun _ g=>g Qdd);have QbM:Qd7 z y:=QaB X G c a14 (QbH z) (fun _ _ _ _ _ _=>ar1 fun _=>rfl) (fun _ g=>g Yl Q5);have QbN:Qd9 z y:=QaB X G c a15 (QbJ z) (fun _ _ _ _ _ _=>ar2 fun _ _=>rfl) (fun _ g=>g Vg Vh);have Yq:V8 z y:=QaB X G c a16 (Ym z) (fun _ _ _ _ _ _=>ar2 fun _ _=>rfl) (fun _ g=>g QbK);have QJ:Yp z y:=QaB X G c a17 (Yn z) (fun _ _ _ _ _ _=>ar2 fun _ _=>rfl) (fun _ g=>g Vi Ja);have Qn:JX z y:=QaB X G c a18 (Vj z) (fun _ _ _ _ _ _=>ar2 fun _ _=>rfl) (fun _ g=>g Ja);have VR:Qa7 z y:=QaB X G c a19 (VN z) (fun _ _ _ _ _ _=>ar2 fun _ _=>rfl) (fun _ g=>g Vk);have QbO:Qeb z y:=QaB X G c a20 (QbL z) (fun _ _ _ _ _ _=>ar1 fun _=>rfl) (fun _ g=>g Yq);have JZ:QaK z y:=QaB X G c a21 (Vl z) (fun _ _ _ _ _ _=>ar1 fun _=>rfl) (fun _ g=>g Qn);have QgG:QiS z y:=QaB X G c a22 (QgF z) (fun _ _ _ _ _ _=>ar1 fun _=>rfl) (fun _ g=>g VP VR);have Vn:QaM z y:=QaB X G c a23 (Vm z) (fun _ _ _ _ _ _=>ar2 fun _ _=>rfl) (fun _ g=>g QJ Qn JZ);exact g Yr Ys QbM QbN QJ Qn QbO QgG Vn
end G74
namespace PySem.W.Fast
def tw15671999130652470207:=Nat
def tw10747296252764442688:=Nat
def tw12147343981291976156:=Nat
def tw12748031354506971678:=Nat
def tw12182728160493302004:=Nat
def tw2506441024872988349:=Nat
def tw14134894575348511497:=Nat
def tw2235538127639252580:=Nat
def tw3712532112750521264:=Nat
def tw8035324512125786610:=Nat
def tw1727097406492042592:=Nat
def tw4903756285077100530:=Nat
def tw18164994286997598007:=Nat
def tw3363555333223406109:=Nat
def tw9390493995684176729:=Nat
def tw1364036966370301120:=Nat
def tw13217896204922437945:=Nat
def tw14111377437344323104:=Nat
def tw1512572846543198630:=Nat
def tw9683345177039487555:=Nat
def tw4212633418932354132:=Nat
def tw14984883661287066119:=Nat
def tw17781866663562911471:=Nat
def tw490049686200566434:=Nat
def tw18211392632724577507:=Nat
def tw10642622139774951721:=Nat
def tw10025005581115301502:=Nat
def tw9835961185798637584:=Nat
def tw15725672210117199740:=Nat
def tw595951043231349041:=Nat
def tw8042167595291915197:=Nat
def tw1271164047324061025:=Nat
def tw15879045181408061177:=Nat
def tw12598095133886583221:=Nat
def tw9737571104747458769:=Nat
def tw965568566244052213:=Nat
def tw17570003260108056852:=Nat
def tw10238714389065107415:=Nat
def tw15924101417320551624:=Nat
def tw10371295202883360976:=Nat
def tw6525452562632970601:=Nat
def tw3470646361394818506:=Nat
def tw14393513516075118103:=Nat
def tw2753675155012722855:=Nat
def tw17174705390149729247:=Nat
def tw12388079293787935116:=Nat
def tw3818041557190298333:=Nat
def tw5345371057896031758:=Nat
def tw9807131481648218251:=Nat
def tw12522977059631645188:=Nat
def tw6599593419922769261:=Nat
def tw8389751448410690091:=Nat
def tw14346483244375805841:=Nat
def tw6515864696529440035:=Nat
def tw5379334719652065157:=Nat
def tw14248457095532556182:=Nat
def tw10013086317767633184:=Nat
def tw15795620767030468233:=Nat
def tw14354342476197729050:=Nat
def tw4402208982295108696:=Nat
def tw7212054265398815675:=Nat
def tw7205449410530980425:=Nat
def tw12452762876476822620:=Nat
def tw13021231634400495905:=Nat
def tw13593081602788976409:=Nat
def tw3103790848086071374:=Nat
def tw15028286914017335283:=Nat
def tw14315786025498907242:=Nat
def tw7395909384155688924:=Nat
def tw7975458206376415498:=Nat
def tw13867230352445722915:=Nat
def tw11336192041136815486:=Nat
def tw994126495838178452:=Nat
def tw17125307557095716104:=Nat
def tw4725294745296818105:=Nat
def tw6765549614704486510:=Nat
def tw15998681561876329055:=Nat
def tw3293559965873770391:=Nat
def tw8249108750191978869:=Nat
def tw3279876387734518489:=Nat
def tw2257532289486023:=Nat
def tw16149677394190120078:=Nat
def tw1070982091577141799:=Nat
def tw1278564872293137732:=Nat
def tw10196457877042287884:=Nat
def tw12375962074654535887:=Nat
def tw7130007721577475490:=Nat
def tw16629417379882838367:=Nat
def tw9217665949221605103:=Nat
def tw7630909629522936738:=Nat
def tw5093908960044418316:=Nat
def tw8463750803048028273:=Nat
def tw4860818049826917317:=Nat
def tw31264970142215407:=Nat
def tw13371254086723533372:=Nat
def tw11359735485199176246:=Nat
def tw14593105635581675064:=Nat
def tw15937045118746273367:=Nat
def tw6351583726402849476:=Nat
def tw12532656894842691198:=Nat
def tw3648129652567676304:=Nat
def tw7208377326037517224:=Nat
def tw6991967596976143185:=Nat
def tw4409532511071008552:=Nat
end PySem.W.Fast
open PySem PySem.W PyProof.Rows
set_option maxRecDepth 100000 in
set_option maxHeartbeats 0 in
theorem PySem.Challenge.cw_glowcells_k74_whole_shapes_of_rims_holds : PySem.Challenge.rw_glowcells_k74_whole_shapes_of_rims.Holds := by
 w_on;o_law;k_head;(case hw=>w_witness2)
 k_fill
 refine TL.walk (l:=PySem.Challenge.rw_glowcells_k74_whole_shapes_of_rims) (k:=5) ⟨rfl,by decide,by decide,rfl⟩ rfl rfl (fun w h Y=>PySem.W.kIn_of Y) ?F
 case F=>
  intro w mg fa h KX GG hmg
  refine' _root_.G74.all_mk KX GG hmg ?a1 ?a2 ?a3 ?a4 ?a5 ?a6 ?a7 ?a8 ?a9 ?a10 ?a11 ?a12 ?a13 ?a14 ?a15 ?a16 ?a17 ?a18 ?a19 ?a20 ?a21 ?a22 ?a23 ?a24 ?z0 ?z1 ?z2 ?z3 ?z4 ?z5 ?z6 ?z7 ?z8
  all_goals try k_is
  all_goals try exact⟨_,_,by k_is,L2.fun_mk (by k_is) (by k_is) (by k_is)⟩
