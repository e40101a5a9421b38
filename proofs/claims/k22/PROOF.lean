import PyProof.Rows.All
import Wide.All
import OpenK.AllK
import Wide.FinOn
import Lean
import PyProof.EqAt
import PyProof.EqKinds
import PyProof.TupleCall
import PyProof.NeKinds
import KE.KTryMore
import PyProof.ExcBaseAll.ValueError
import OpenK.KOwn
import PyProof.ConsumeWalk
import KE.KIntText
import PyProof.EnumFor
import PyProof.EnumMake
import PyProof.StrWalks
import KE.KRevSl
import PyProof.ReprRoads
import PyProof.ReprBulk
import PyProof.Draws
import PyProof.TupleIter
import PyProof.WalksMore
import KE.KIsAll
import PyProof.RulesAs
import PyProof.NsDelKeeps
import PyProof.Rows.SetFrom
import PyProof.SetRoads
import PyProof.ListRange
import KE.KItemsList
import KE.KSortTup
import PyProof.Rows.MinMaxN
import PyProof.WalkInts
import PyProof.Rows.ListMulArg
import PyProof.Rows.SumAny
import PyProof.MaxThree
import PyProof.AttrMissHeap
import KE.KDictOf
import KE.KRevIter
import PyProof.CollectIter
import PySem.Challenge.RW_glowcells_k22_whole_lights
open List renaming length_map→z00,mem_append_right→z04,getElem?_eq_getElem→z05,mem_cons_self→z07,mem_cons_of_mem→z08,getD_eq_getElem?_getD→z09,mem_append→z14,mem_append_left→z15,size_toArray→z16,nodup_append→z17,mem_cons→z19,getElem?_eq_some_iff→z28,getElem?_map→z29,length_cons→z30,mem_map→z31,map_cons→z33,mem_singleton→z38,replicate→z40,mem_of_getElem?→z42,map_map→z43,length_append→z49,append_assoc→z53,filter_cons→z54,getElem?_set_ne→z57,nodup_cons→z60,range→z63,lookup_cons→z65,perm_iff_count→z68,mem_filter→z69,length_filter_le→z70,append_nil→z71,all_eq_true→z72,map_append→z73,count_append→z78,zip_cons_cons→z82,toArray→z84,getElem?_set_self→z88,replicate_succ→z91,length_range→z92,getElem_mem→z97,nodup_nil→za2,mem_range→za3,length_take→za7,any_cons→za8,range'→zb1,pairwise_iff_getElem→zb2,drop_eq_getElem_cons→zb3,getElem?_of_mem→zb6,length_set→zb8,map_congr_left→zb9,filterMap_cons→zc0,not_mem_nil→zc3,zipWith_cons_cons→zc6,pairwise_cons→zd0,zipWith→zd4,reverse_cons→zd9,flatten_cons→ze0,length_drop→ze6,lookup→ze8,length_reverse→ze9,find?_cons→zf5,take_add_one→zg2,getElem?_eq_none→zg6,map_reverse→zg9,pairwise_append→zh0,length_nil→zh4,getElem_of_mem→zh5,count_cons→zh6,length_zipIdx→zi2,mem_or_eq_of_mem_set→zi4,getElem?_eq_none_iff→zi5,getElem?_append_left→zi6,pairwise_map→zj1,ext_getElem?→zj2,getElem?_replicate→zj8,filter→zj9,take_length→zk0,map_nil→zk7,length_singleton→zk8,getElem?_toArray→zk9,foldl_cons→zl0,filter_map→zl1,mem_of_mem_drop→zl9,getElem?_zipIdx→zm0,take_zero→zm3,drop_zero→zm4,filter_eq_self→zm6,mem_filterMap→zo0,map_id''→zo1,map_set→zp2,all_map→zp3,range'_succ→zp6,getElem_inj→zp7,drop_length→zp8,map→zq5,of_mem_zip→zq9,length→zr0,map_drop→zt4,all_cons→zt5,take_of_length_le→zu0,set_getElem_self→zu5,perm_append_comm→zu6,getElem?_reverse→zu7,eq_replicate_iff→zu8,dropLast_eq_take→zu9,reverse_reverse→zw0,mem_of_mem_take→zw1,map_eq_nil_iff→zw5,map_replicate→zx5,getElem_range→zx6,take_sublist→zy3,reverse_perm→zy4,getElem_take→zy5,getElem_drop→zy6,getElem?_set→zy7,drop_sublist→zy8,any_eq_false→zy9
open PySem.W renaming Frag→z01,nsIn→z21,mg_of→z26,findIn→z48,mg_none_of→z55,isFn→z81,emptyDict→z86,instObj→zb5,keepIn→zf7,fnOf→zg0,plainGet→zg4,hasDictIn→zi1,lookIn→zk5,plainGet_of→zl3,hideAll_get→zl4,callWith_K→zm1,plainOver→zn6,methodObj→zn7,kitx_list→zn8,takerIn→zo8,makesIn→zo9,OpenLaw→zp0,codeIn→zq1,cellsFrom_some→zs1,methodCall_KW→zs7,hideAll_none→zt3,of_hideAll→zu3,kitx_tuple→zu4,parts_nil→zv6,kitx_dict→zv7,handedIn→zw3,hideAll→zx2,kitOne→zx9,kitAny→zy0
open PySem renaming wpAny_bind→z02,sizeLine→z18,mainGlobals→z20,wpAny_pure→z22,sizeLine_eq→z34,boot_len→z44,bootBuiltins→z52,wpAny_Call_Name_kw→z76,wpAny_newObj_type→z80,wpAny_call_entry→z90,wpAny_truthy_bool→z95,wpAny_holding→z96,mem_of_lookup→za4,wpAny_typeNameOfWhole_itemiter→zc5,wpAny_field→zc8,wpAny_callSpecial?_slot→zc9,wpAny_mono→zd2,wpAny_setField_rec→zd7,wpAny_passesOwn→ze2,codeAny_builtin→ze3,intText?→ze4,wpAny_typeNameOf_itemiter→zf4,wpAny_loadPart'→zg3,wpAny_isOneOf_itemiter→zg8,wpAny_pyIter_tuple→zj6,wpAny_pyIter_enum→zk2,wpAny_newList→zl2,wpAny_isInstance→zl8,wpAny_updateSeq→zm9,wpAny_typeOf→zn0,wpAny_specialOf→zn1,wpAny_execs_nil→zn2,codeAny_mono→zn3,wpAny_fieldsOf→zo4,wpAny_dictEntries→zr3,wpAny_dictEpoch→zt7,Within→zt9,wpAny_letOwnedTupleGo_enum→zu2,wpAny_setField→zv1,wpAny_seqItems→zv2,wpAny_newTuple→zv3,evalArgs_none→zv5,wpAny_load→zw2,wpAny_standAt→zw7,wpAny_attempt→zw8,wpAny_Call_method0_late→zw9,call→zx1
open Option renaming map_eq_some_iff→z03,bind_eq_some_iff→z25,bind_some→zg5,isSome_map→zw4,getD_some→zx3,getD_none→zx4,map_some→zy1
open PySem.Heap renaming get?_push_of_some→z06,lt_size→z23,get?_push_size→z27,get?_update_other→za5,get?_update_self→za9,SameBut→zb0,size_push→zb4,get?_none_of_le→zh1,get?_push_ne→zj3,get?_update_ne→zw6
open PySem.Value renaming ref→z24,none→z51,int→z62,bool→zf8,str→zq0,float→zv4
open Nat renaming le_refl→z32,ne_of_lt→z37,lt_of_lt_of_le→z41,le_trans→z66,zero_le→z67,ne_of_gt→z85,le_succ→z93,lt_irrefl→za1,lt_of_le_of_lt→zf6,le_of_lt→zg7,toDigits→zl6,lt_succ_of_lt→zp1,lt_succ_self→zq4,mul_le_mul→zt0,zero_add→zv8,le_of_eq→zv9
open Option.some renaming inj→z35
open Bool renaming false_ne_true→z36,and_eq_true_iff→z58,false_eq_true→z83,and_eq_true→z99,eq_iff_iff→zh7,eq_false_iff→zj4,or_eq_true_iff→zm8,and_true→zt6
open Or renaming inl→z39,inr→z56
open PySem.NameKind renaming free→z45,cell→z87
open PySem.Obj renaming mapSeq→z46,data_mapFields→zy2
open Array renaming length_toList→z47,getElem?_toList→zd1,getElem?_eq_some_iff→ze1,toList_append→zh3,getD→zi9,toList→zo6,getD_eq_getD_getElem?→zq7,getElem?_eq_none_iff→zr2,getElem?_eq_getElem→zs0,toList_inj→zz5
open True renaming intro→z50
open Int renaming toNat_natCast→z59,le_trans→z79,toNat_zero→z94,toNat_of_nonneg→zc2,le_refl→zf2,emod_lt_of_pos→zi7,emod_nonneg→zl7,le_antisymm→zr7,sub_add_cancel→zz0,add_sub_cancel→zz1
open PySem.Builtin.List renaming listExtendWith→z61,listSameRef→z89,listTooLong→zd6,listLengthHint→zm7,listFitsIndex→zn9,listItems→zp5
open PySem.SeqAt.EqAt renaming int_int→z64,same→zj0,of_refs→zk4,str_int→zs5,int_str→zs6
open PySem.F renaming slot_dict_itemiterator_next→z74,plain_extend_loop→za6,slot_tuple_iterator_next→ze5,plainAttrs_list→zf1,args_dict_itemiterator_next_1→zk3,entry_dict_itemiterator_next→zk6,slot_dict_items_iter→zo5,args_str_split_2→zp4,entry_extend_loop→zq2,entry_str_split→zq6,slot_dict_items→zr5,plain_list_iadd→zr6,slot_str_split→zr8,plainAttrs_str→zs2,args_tuple_iterator_next_1→zs4,type_str_join→zs8,slot_str_join→zs9,entry_tuple_iterator_next→zt1,called_tuple→zu1,slot_enumerate_next→zx8,args_object_init_2→zz2
open Classical renaming choose_spec→z75
open PySem.Builtin.Str renaming occurrences→z77,partsBetween→zh2,strKind→zr9
open PySem.Heap.SameBut renaming update→z98,refl→zs3
open PySem.Around renaming under_plainId→za0,under→zo3
open False renaming elim→zb7
open PySem.Builtin.SmallTypes renaming nextOf→zc1
open PySem.Txt renaming split→zc4
open PySem.Calls renaming spliced_cons→zc7,spliced_nil→zd5,call_function_entry→zi3,callWith_builtin→zk1,Name_function_global→zr1
open PyProof.Rows renaming envOfC→zd3,callWith_type1→zg1,callWith_builtin1→zl5,lt_int→zq8
open Ne renaming symm→zd8
open PySem.Str renaming join→ze7,ofString→zf3
open PySem.Builtin.Dict_items renaming ownsTuple→zf0,ownedTupleIsFree→zh8,ownedTupleFields→zh9,pairFromOwner→zi8,newIterator→zz3,dictOf→zz4
open PySem.SeqAt renaming EqAt→zf9,RcNeAt→zt8,RcAt→zx0
open PySem.StrLaws renaming partsFrom→zi0,subAt_one→zn5,occBody→zo7
open ForInStep renaming yield→zj5
open Nat.succ renaming inj→zj7
open Prod.mk renaming injEq→zm2
open PySem.Paired renaming length→zm5
open Sum renaming inr→zn4,inl→zr4
open PySem.Builtin.Tuple renaming tupleExact→zo2
open PySem.Builtin.Dict renaming showsAll→zp9
open Prod renaming ext→zq3
open PySem.SeqAt.RcAt renaming tuples→zt2
open PySem.Code renaming isFrame→zv0
open Iff renaming rfl→zx7
set_option compiler.extract_closed false
set_option hygiene false
set_option Elab.async false
set_option linter.all false
set_option maxRecDepth 100000
set_option hygiene false in
local macro_rules
|`(@0)=>`((Y8 (par:=true) (as:=[some 0,none]) (p:=false) (spk Qd hC) Qf (hr^^^0) (Qa (xs 0) (Qa Qc Qb))))
|`(@1)=>`((by lia))
|`(@2)=>`((stt ns q F ls (~~~(rD (Qz F p x))) (~~~(.int p.1)) (~~~(.int p.2)) (~~~(flD z F)) (~~~(flD z (Qz F p x))) (~~~(.lst (ls.map pnD))) (some (.own (rD (Qz R p (atL R p+1))))) (~~~(rD R)) (~~~(.lst (ms.map pnD)))))
|`(@3)=>`((by decide))
|`(@4)=>`((stt ns q F ls (~~~(rD (Qz F p x))) (~~~(.int p.1)) (~~~(.int p.2)) (~~~(flD z F)) (~~~(flD z (Qz F p x))) (~~~(.lst (ls.map pnD))) (some (.own (rD (Qz R p (atL R p+1))))) (~~~(rD R)) none))
|`(@5)=>`((fun _ z=>nomatch z))
|`(@6)=>`((x == ("__debug__" : Str)))
|`(@7)=>`((model X.prog X.w))
|`(@8)=>`((by first|exact z39 rfl|exact z56 (z39 rfl)|exact z56 (z56 rfl)))
|`(@9)=>`((by simp))
|`(@10)=>`((.lst (ls.map pnD)))
|`(@11)=>`((model prog w))
set_option hygiene false in
local macro_rules
|`(@12)=>`((Addr×Obj))
|`(@13)=>`((stt ns q F ls (some (.own (rD F))) (~~~(.int p.1)) (~~~(.int p.2)) none none none none none none))
|`(@14)=>`((s.heap.objs.size+1))
|`(@15)=>`((false,eval e X.env))
|`(@16)=>`((cs.filterMap Cp.is))
|`(@17)=>`((List Int))
|`(@18)=>`((stt ns q F ls (~~~(rD (Qz F p x))) (~~~(.int p.1)) (~~~(.int p.2)) (~~~(flD z F)) (~~~(flD z (Qz F p x))) (~~~@10) (some (.own (rD R))) none none))
|`(@19)=>`((hr^^^0))
noncomputable section
namespace L2
open PySem PySem.Spec PyProof.Rows
abbrev Key:=Sum Int Str
def keyIs:Key->Value->Bool
 |.inl k,v=>Value.isInt k v
 |.inr x,v=>Value.isStrOf x v
def keyH (w:World):Key->Int
 |.inl k=>hashInt k
 |.inr x=>hashStr w x
theorem keyIs_shape:∀{k:Key} {v:Value},keyIs k v=true->(∃i t,k=zr4 i/\v=z62 i t)\/(∃x t,k=zn4 x/\v=zq0 x t)
 |.inl i,v,h=>by
  obtain⟨t,e⟩:=Value.isInt_shape (k:=i) (v:=v) h
  exact .inl ⟨i,t,rfl,e⟩
 |.inr x,v,h=>by
  obtain⟨t,e⟩:=Value.isStrOf_shape (x:=x) (v:=v) h
  exact .inr ⟨x,t,rfl,e⟩
theorem keyIs_int (i:Int)(t:Tok):keyIs (.inl i) (.int i t)=true:=by simp[keyIs,Value.isInt]
theorem keyIs_str (x:Str)(t:Tok):keyIs (.inr x) (.str x t)=true:=by simp[keyIs,Value.isStrOf]
theorem key_ll (a b:Int):decide ((zr4 a:Key)=zr4 b)=(a == b):=by
 by_cases e:a=b
 ·subst e;simp
 ·have h:¬ (zr4 a:Key)=zr4 b:=fun q=>e (Sum.inl.inj q)
  rw[decide_eq_false h]
  exact(beq_eq_false_iff_ne.mpr e).symm
theorem key_rr (a b:Str):decide ((zn4 a:Key)=zn4 b)=decide (a=b):=by
 by_cases e:a=b
 ·subst e;simp
 ·have h:¬ (zn4 a:Key)=zn4 b:=fun q=>e (Sum.inr.inj q)
  rw[decide_eq_false h,decide_eq_false e]
theorem key_lr (a:Int)(b:Str):decide ((zr4 a:Key)=zn4 b)=false:=decide_eq_false (fun q=>nomatch q)
theorem key_rl (a:Str)(b:Int):decide ((zn4 a:Key)=zr4 b)=false:=decide_eq_false (fun q=>nomatch q)
def mixKind (prog:Program)(w:World):PySem.KeyKind prog w Key where
 is:=keyIs
 hash:=keyH w
 inj:=fun v a b ha hb=>by
  rcases keyIs_shape ha with⟨i,t,rfl,rfl⟩|⟨x,t,rfl,rfl⟩
  ·rcases keyIs_shape hb with⟨j,u,rfl,e⟩|⟨y,u,rfl,e⟩
   ·injection e with e1 _;rw[e1]
   ·exact nomatch e
  ·rcases keyIs_shape hb with⟨j,u,rfl,e⟩|⟨y,u,rfl,e⟩
   ·exact nomatch e
   ·injection e with e1 _;rw[e1]
 byValue:=fun k v h=>by
  rcases keyIs_shape h with⟨i,t,rfl,rfl⟩|⟨x,t,rfl,rfl⟩<;>rfl
 pyHash:=fun hv h=>by
  rcases keyIs_shape hv with⟨i,t,rfl,rfl⟩|⟨x,t,rfl,rfl⟩
  ·exact wpAny_pyHash_int h
  ·exact wpAny_pyHash_str h
 eqBool:=fun hu hv h=>by
  rcases keyIs_shape hu with⟨i,t,rfl,rfl⟩|⟨x,t,rfl,rfl⟩
  ·rcases keyIs_shape hv with⟨j,u,rfl,rfl⟩|⟨y,u,rfl,rfl⟩
   ·rw[key_ll] at h;exact wpAny_eqBool_int h
   ·rw[key_lr] at h;exact zs6 i t y u _ _ _ _ h
  ·rcases keyIs_shape hv with⟨j,u,rfl,rfl⟩|⟨y,u,rfl,rfl⟩
   ·rw[key_rl] at h;exact zs5 x t j u _ _ _ _ h
   ·rw[key_rr] at h;exact wpAny_eqBool_str h
 «strs» := fun k x t v h=>by
  rcases keyIs_shape h with⟨i,u,rfl,e⟩|⟨y,u,rfl,e⟩
  ·exact nomatch e
  ·injection e with e1 _
   subst e1
   cases v<;>rfl
theorem mixKind_int (prog:Program)(w:World)(i:Int)(t:Tok):(mixKind prog w).is (.inl i) (.int i t)=true:=keyIs_int i t
theorem mixKind_str (prog:Program)(w:World)(x:Str)(t:Tok):(mixKind prog w).is (.inr x) (.str x t)=true:=keyIs_str x t
inductive V where
 |non|bl (b:Bool)|int (i:Int)|str (x:Str)|byt (b:Array UInt8)|flt (b:UInt64)|ref (a:Addr)|ty (n:String)
 deriving DecidableEq
def RelV:V->Value->Prop
 |.non,u=>u=z51
 |.bl b,u=>u=zf8 b
 |.int i,u=>∃t,u=z62 i t
 |.str x,u=>∃t,u=zq0 x t
 |.byt b,u=>∃t,u=Value.bytes b t
 |.flt b,u=>∃t,u=zv4 b t
 |.ref a,u=>u=z24 a
 |.ty n,u=>u=Value.type n
abbrev Vals:List V->List Value->Prop:=Paired RelV
theorem Vals.length {xs:List V}{us:List Value}(r:Vals xs us):xs.length=us.length:=zm5 r
theorem Vals.get:∀{xs:List V} {us:List Value} {i:Nat} {x:V},Vals xs us->xs[i]? = some x->∃u,us[i]? = some u/\RelV x u
 |_,_,_,_,.nil,e=>by simp at e
 |_,_,0,_,.cons r _,e=>by simp at e;subst e;exact⟨_,rfl,r⟩
 |_,_,i+1,x,.cons _ t,e=>by
  obtain⟨u,h1,h2⟩:=Vals.get (i:=i) (x:=x) t (by simpa using e)
  exact⟨u,by simpa using h1,h2⟩
theorem Vals.set {x:V}{u:Value}(r:RelV x u):∀{xs:List V} {us:List Value} (i:Nat),Vals xs us->Vals (xs.set i x) (us.set i u)
 |_,_,_,.nil=>.nil
 |_,_,0,.cons _ t=>.cons r t
 |_,_,i+1,.cons q t=>.cons q (Vals.set r i t)
theorem Vals.append:∀{xs ys:List V} {us ws:List Value},Vals xs us->Vals ys ws->Vals (xs++ys) (us++ws)
 |_,_,_,_,.nil,s=>s
 |_,_,_,_,.cons r t,s=>.cons r (Vals.append t s)
theorem Vals.take:∀{xs:List V} {us:List Value} (n:Nat),Vals xs us->Vals (xs.take n) (us.take n)
 |_,_,0,_=>.nil
 |_,_,_+1,.nil=>.nil
 |_,_,n+1,.cons r t=>.cons r (Vals.take n t)
theorem Vals.drop:∀{xs:List V} {us:List Value} (n:Nat),Vals xs us->Vals (xs.drop n) (us.drop n)
 |_,_,0,r=>r
 |_,_,_+1,.nil=>.nil
 |_,_,n+1,.cons _ t=>Vals.drop n t
def RelO:Option V->Option Value->Prop
 |some v,some u=>RelV v u
 |none,none=>True
 |_,_=>False
def KV {κ:Type}:List (κ×V)->List (κ×Value)->Prop:=Paired fun(p:κ×V) (q:κ×Value)=>p.1=q.1/\RelV p.2 q.2
def kV:Key->V
 |.inl i=>.int i
 |.inr x=>.str x
inductive HO where
 |lst (xs:List V)
 |tup (xs:List V)
 |dK (kvs:List (Key×V))|dT (kvs:List (List Key×V))
 |set (S:Int->Bool) (n:Nat)
 |ins (C dx:Addr) (fs:List (Str×V))
 |own (x:Addr)
 |xd (fs:List (Str×V))
 |met (f x:Addr)
 |rng (lo hi:Int)
 |frz (o:Obj) (u:HO)
 |tbl (ps:Array Value)
 |ext (φ:Heap->Prop)
abbrev Hp:=Addr->Option HO
def upd (H:Hp)(a:Addr)(o:HO):Hp:=fun b=>if b=a then some o else H b
theorem upd_same {H:Hp}{a:Addr}{o:HO}:upd H a o a=some o:=by unfold upd;rw[if_pos rfl]
theorem upd_ne {H:Hp}{a b:Addr}{o:HO}(h:b≠a):upd H a o b=H b:=by unfold upd;rw[if_neg h]
theorem ne_of {H:Hp}{a b:Addr}{o u:HO}(h:H a=some o)(h':H b=some u)(d:o≠u):a≠b:=by
 intro e;subst e;rw[h] at h';exact d (z35 h')
theorem ne_of_none {H:Hp}{a b:Addr}{o:HO}(h:H a=some o)(h':H b=none):a≠b:=by
 intro e;subst e;rw[h] at h';cases h'
section
variable (P:Program)(w:World)
def ObjOk (H:Hp)(h:Heap)(a:Addr):HO->Prop
 |.lst xs=>xs.length<=z18/\∃(its:List Value) (n:Nat),Vals xs its/\h.get? a=some { cls:=.type "list",data:=.seq its.toArray n }
 |.tup xs=>xs.length<=z18/\∃its:List Value,Vals xs its/\IsTup h a its.toArray
 |.dK kvs=>kvs.length<=z18/\(a == sysModules)=false/\∃vs,KV kvs vs/\h.DictOf (mixKind P w) a vs
 |.dT kvs=>kvs.length<=z18/\(a == sysModules)=false/\∃xs:List (List Key×Addr×Value),
   Paired (fun(p:List Key×V) (q:List Key×Addr×Value)=>p.1=q.1/\H q.2.1=some (.tup (p.1.map kV))/\RelV p.2 q.2.2) kvs xs/\
   ∃o es ep,h.get? a=some o/\o.ExactDict/\o.data=.dict es ep/\es.toList=xs.map (entryOfKey (tupleKind (mixKind P w)))/\(xs.map (·.1)).Nodup
 |.set S n=>h.SetOf (intKind P w) a S n
 |.ins C dx fs=>H dx=some (.own a)/\fs.length<=1000/\dx≠a/\h.get? a=some (zb5 C dx)/\
   ∃mA,h.Ns1 dx mA/\(∀f,RelO (fs.lookup f) (mA f))/\zt9 mA (fs.map (·.1))
 |.own _=>∃o,h.get? a=some o
 |.xd fs=>∃mA,h.Ns1 a mA/\∀f,RelO (fs.lookup f) (mA f)
 |.rng lo hi=>∃t u v,h.get? a=some { cls:=.type "range",data:=.fields #[.int lo t,.int hi u,.int 1 v]}
 |.frz o u=>h.get? a=some o/\ObjOk H h a u
 |.tbl ps=>h.get? a=some { cls:=.none,data:=.fields ps }
 |.met f x=>h.get? a=some (zn7 (.ref f) (.ref x))
 |.ext φ=>φ h/\(∃o,h.get? a=some o)/\∀h1 h2:Heap,φ h1->(∀o,h1.get? a=some o->h2.get? a=some o)->φ h2
def HOk (H:Hp)(h:Heap):Prop:=∀a o,H a=some o->ObjOk P w H h a o
end
section
variable {P:Program}{w:World}{H H':Hp}{h h':Heap}{a:Addr}{o:HO}
theorem ObjOk.lt (x:ObjOk P w H h a o):a<h.objs.size:=by
 cases o with
 |lst xs=>obtain⟨_,_,_,_,e⟩:=x;exact z23 e
 |tup xs=>obtain⟨_,_,_,p⟩:=x;exact p.lt
 |dK kvs=>obtain⟨_,_,_,_,o,_,_,e,_⟩:=x;exact z23 e
 |dT kvs=>obtain⟨_,_,_,_,o,_,_,e,_⟩:=x;exact z23 e
 |set S n=>obtain⟨o,_,_,_,e,_⟩:=x;exact z23 e
 |ins C dx fs=>obtain⟨_,_,_,e,_⟩:=x;exact z23 e
 |own y=>obtain⟨_,e⟩:=x;exact z23 e
 |xd fs=>obtain⟨_,⟨_,_,_,e,_⟩,_⟩:=x;exact z23 e
 |rng lo hi=>obtain⟨_,_,_,e⟩:=x;exact z23 e
 |frz ob u=>obtain⟨e,_⟩:=x;exact z23 e
 |tbl ps=>exact z23 (show h.get? a=some _ from x)
 |met f y=>exact z23 (show h.get? a=some _ from x)
 |ext φ=>obtain⟨_,⟨_,e⟩,_⟩:=x;exact z23 e
theorem Paired.mapP {α β:Type}{F G:α->β->Prop}:∀{l₁:List α} {l₂:List β},Paired F l₁ l₂->(∀a b,F a b->G a b)->Paired G l₁ l₂
 |_,_,.nil,_=>.nil
 |_,_,.cons r t,f=>.cons (f _ _ r) (Paired.mapP t f)
theorem Paired.imp' {α β:Type}{F G:α->β->Prop}(f:∀a b,F a b->G a b){l₁:List α}{l₂:List β}(r:Paired F l₁ l₂):Paired G l₁ l₂:=Paired.mapP r f
theorem ObjOk.stay (x:ObjOk P w H h a o)(k:∀b u,(b=a\/H b=some (.own a))->h.get? b=some u->h'.get? b=some u)
  (ho:∀b,H b=some (.own a)->H' b=some (.own a)) (ht:∀b xs,H b=some (.tup xs)->H' b=some (.tup xs)):ObjOk P w H' h' a o:=by
 induction o with
 |lst xs=>obtain⟨z,its,n,r,e⟩:=x;exact⟨z,its,n,r,k _ _ (.inl rfl) e⟩
 |tup xs=>obtain⟨z,its,r,ob,e,c⟩:=x;exact⟨z,its,r,ob,k _ _ (.inl rfl) e,c⟩
 |dK kvs=>obtain⟨z,y,vs,r,ob,es,ep,e,c⟩:=x;exact⟨z,y,vs,r,ob,es,ep,k _ _ (.inl rfl) e,c⟩
 |dT kvs=>
  obtain⟨z,y,xs,r,ob,es,ep,e,c⟩:=x
  exact⟨z,y,xs,Paired.mapP r fun p q z=>⟨z.1,ht _ _ z.2.1,z.2.2⟩,ob,es,ep,k _ _ (.inl rfl) e,c⟩
 |set S n=>obtain⟨ob,es,ep,t,e,c⟩:=x;exact⟨ob,es,ep,t,k _ _ (.inl rfl) e,c⟩
 |ins C dx fs=>
  obtain⟨d,z,ne,e,mA,⟨od,es,ep,e2,c⟩,r⟩:=x
  exact⟨ho _ d,z,ne,k _ _ (.inl rfl) e,mA,⟨od,es,ep,k _ _ (.inr d) e2,c⟩,r⟩
 |own y=>obtain⟨ob,e⟩:=x;exact⟨ob,k _ _ (.inl rfl) e⟩
 |xd fs=>obtain⟨mA,⟨od,es,ep,e,c⟩,r⟩:=x;exact⟨mA,⟨od,es,ep,k _ _ (.inl rfl) e,c⟩,r⟩
 |rng lo hi=>obtain⟨t,u,v,e⟩:=x;exact⟨t,u,v,k _ _ (.inl rfl) e⟩
 |frz ob u ih=>obtain⟨e,q⟩:=x;exact⟨k _ _ (.inl rfl) e,ih q⟩
 |tbl ps=>
  have e:h.get? a=some { cls:=.none,data:=.fields ps }:=x
  show h'.get? a=some { cls:=.none,data:=.fields ps }
  exact k a _ (.inl rfl) e
 |met f y=>
  have e:h.get? a=some (zn7 (.ref f) (.ref y)):=x
  show h'.get? a=some (zn7 (.ref f) (.ref y))
  exact k a _ (.inl rfl) e
 |ext φ=>obtain⟨p,⟨o,e⟩,st⟩:=x;exact⟨st _ _ p fun o q=>k _ _ (.inl rfl) q,⟨o,k _ _ (.inl rfl) e⟩,st⟩
theorem HOk.lt (x:HOk P w H h)(e:H a=some o):a<h.objs.size:=(x a o e).lt
theorem HOk.fresh (x:HOk P w H h)(e:h.objs.size<=a):H a=none:=by
 cases q:H a with
 |none=>rfl
 |some u=>exact absurd (z41 (x.lt q) e) (za1 _)
theorem HOk.kept (x:HOk P w H h)(k:∀b u,h.get? b=some u->h'.get? b=some u):HOk P w H h':=fun a o e=>
 (x a o e).stay (fun b u _ q=>k b u q) (fun _ q=>q) fun _ _ q=>q
theorem HOk.laid (x:HOk P w H h)(k:∀b u,h.get? b=some u->h'.get? b=some u)(hp:h.objs.size<=a)(new:ObjOk P w (upd H a o) h' a o):HOk P w (upd H a o) h':=fun b u e=>by
 have hn:=x.fresh hp
 by_cases hb:b=a
 ·subst hb;rw[upd_same] at e;cases e;exact new
 ·rw[upd_ne hb] at e
  exact(x b u e).stay (fun c v _ q=>k c v q) (fun c q=>by rw[upd_ne (ne_of_none q hn)];exact q) fun c xs q=>by rw[upd_ne (ne_of_none q hn)];exact q
end
def Rd (H:Hp)(a:Addr)(u:HO):Prop:=H a=some u\/∃o,H a=some (.frz o u)
theorem Rd.ok {P:Program}{w:World}{H:Hp}{h:Heap}{a:Addr}{u:HO}(r:Rd H a u)(x:HOk P w H h):ObjOk P w H h a u:=by
 rcases r with r|⟨o,r⟩
 ·exact x a u r
 ·obtain⟨_,q⟩:=x a _ r
  exact q
def Mut:Option HO->Prop
 |some (.lst _)=>True
 |some (.dK _)=>True
 |some (.dT _)=>True
 |some (.set _ _)=>True
 |some (.ins _ _ _)=>True
 |some (.ext _)=>True
 |_=>False
section
variable {P:Program}{w:World}{H:Hp}{h h':Heap}{x e:Addr}{o':HO}
theorem HOk.write (ok:HOk P w H h)(mu:Mut (H x))(he:e=x\/H e=some (.own x))(k:∀b u,b≠e->h.get? b=some u->h'.get? b=some u)(heo:∃u,h'.get? e=some u)
  (new:ObjOk P w (upd H x o') h' x o'):HOk P w (upd H x o') h':=fun b u q=>by
 have nown:∀c y,H c=some (.own y)->c≠x:=fun c y r z=>by subst z;rw[r] at mu;exact mu
 have ntup:∀c xs,H c=some (.tup xs)->c≠x:=fun c xs r z=>by subst z;rw[r] at mu;exact mu
 by_cases hb:b=x
 ·subst hb;rw[upd_same] at q;cases q;exact new
 ·rw[upd_ne hb] at q
  by_cases hbe:b=e
  ·have q':H b=some (.own x):=by
    rcases he with z|z
    ·exact absurd (hbe.trans z) hb
    ·rw[hbe];exact z
   rw[q] at q';cases q'
   obtain⟨v,hv⟩:=heo
   exact⟨v,by rw[hbe];exact hv⟩
  ·refine(ok b u q).stay (fun c v hc r=>k c v ?_ r) (fun c r=>by rw[upd_ne (nown c b r)];exact r) fun c xs r=>by rw[upd_ne (ntup c xs r)];exact r
   rcases hc with rfl|hc
   ·exact hbe
   ·rintro rfl
    rcases he with z|z
    ·exact nown c b hc z
    ·rw[hc] at z;cases z;exact hb rfl
end
structure Un (fs ex:List Addr)(H H':Hp)(h h':Heap):Prop where
 keep:∀b o,h.get? b=some o->H b=none->b∉fs->b∉ex->h'.get? b=some o
 slot:∀b o,h.get? b=some o->H b=none->b∈fs->b∉ex->∃sl,h'.get? b=some { o with slots:=sl }
 free:∀b o,h.get? b=some o->H b=none->b∉ex->H' b=none
 there:∀b o,h.get? b=some o->b∉ex->∃o',h'.get? b=some o'
 tups:∀b xs,H b=some (.tup xs)->H' b=some (.tup xs)
 frzs:∀b o u,H b=some (.frz o u)->H' b=some (.frz o u)
 tbls:∀b ps,H b=some (.tbl ps)->∃more,H' b=some (.tbl (ps++more))
section
variable {fs ex:List Addr}{H H1:Hp}{h h1 h':Heap}{a x e:Addr}{o:HO}
theorem Un.any (u:Un fs ex H H1 h h1){b:Addr}{ob:Obj}(q:h.get? b=some ob)(n:H b=none)(hx:b∉ex):∃sl,h1.get? b=some { ob with slots:=sl }:=by
 by_cases hb:b∈fs
 ·exact u.slot b ob q n hb hx
 ·exact⟨ob.slots,u.keep b ob q n hb hx⟩
theorem Un.kept (k:∀b u,h.get? b=some u->h'.get? b=some u):Un fs ex H H h h':=
 ⟨fun b ob q _ _ _=>k b ob q,fun b ob q _ _ _=>⟨ob.slots,k b ob q⟩,fun _ _ _ n _=>n,fun b ob q _=>⟨ob,k b ob q⟩,fun _ _ q=>q,fun _ _ _ q=>q,fun _ ps q=>⟨#[],by rw[q];simp⟩⟩
theorem Un.refl:Un fs ex H H h h:=Un.kept fun _ _ q=>q
theorem Un.laid (k:∀b u,h.get? b=some u->h'.get? b=some u)(hp:h.objs.size<=a)(hn:H a=none):Un fs ex H (upd H a o) h h' where
 keep:=fun b u q _ _ _=>k b u q
 slot:=fun b u q _ _ _=>⟨u.slots,k b u q⟩
 free:=fun b u q n _=>by rw[upd_ne (z37 (z41 (z23 q) hp))];exact n
 there:=fun b u q _=>⟨u,k b u q⟩
 tups:=fun b xs q=>by rw[upd_ne (ne_of_none q hn)];exact q
 frzs:=fun b u xs q=>by rw[upd_ne (ne_of_none q hn)];exact q
 tbls:=fun b ps q=>⟨#[],by rw[upd_ne (ne_of_none q hn),q];simp⟩
theorem Un.write (mu:Mut (H x))(he:e=x\/H e=some (.own x))(k:∀b u,b≠e->h.get? b=some u->h'.get? b=some u)(heo:∃u,h'.get? e=some u):Un fs ex H (upd H x o) h h':=by
 have hx:∀b,H b=none->b≠x:=fun b n z=>by subst z;rw[n] at mu;exact mu
 have hb:∀b,H b=none->b≠e:=fun b n z=>by
  subst z
  rcases he with r|r
  ·exact hx b n r
  ·rw[n] at r;cases r
 have hm:∀b u,H b=some u->¬ Mut (some u)->b≠x:=fun b u q nm z=>by subst z;rw[q] at mu;exact nm mu
 refine⟨fun b u q n _ _=>k b u (hb b n) q,fun b u q n _ _=>⟨u.slots,k b u (hb b n) q⟩,fun b u q n _=>by rw[upd_ne (hx b n)];exact n,fun b u q _=>?_,
  fun b xs q=>by rw[upd_ne (hm b _ q fun z=>z)];exact q,fun b u xs q=>by rw[upd_ne (hm b _ q fun z=>z)];exact q,fun b ps q=>⟨#[],by rw[upd_ne (hm b _ q fun z=>z),q];simp⟩⟩
 by_cases hbe:b=e
 ·subst hbe;exact heo
 ·exact⟨u,k b u hbe q⟩
end
def trk (h:Heap)(H:Hp):List Addr:=(z63 h.objs.size).filter fun a=>(H a).isSome
def hidT (h:Heap)(H:Hp):Heap:=zx2 h (trk h H)
theorem hidT_size (h:Heap)(H:Hp):(hidT h H).objs.size=h.objs.size:=PySem.W.hideAll_size _ _
theorem hidT_get {h:Heap}{H:Hp}{b:Addr}{o:Obj}(e:h.get? b=some o)(n:H b=none):(hidT h H).get? b=some o:=
 zl4 _ e fun hm=>by
  have q:(H b).isSome=true:=(z69.mp hm).2
  rw[n] at q;simp at q
theorem of_hidT {h:Heap}{H:Hp}{b:Addr}{o:Obj}(e:(hidT h H).get? b=some o):h.get? b=some o/\H b=none:=by
 have e':h.get? b=some o:=zu3 (trk h H) e
 refine⟨e',?_⟩
 cases q:H b with
 |none=>rfl
 |some x=>
  have hm:b∈trk h H:=z69.mpr ⟨za3.mpr (z23 e'),by simp[q]⟩
  have z:(hidT h H).get? b=none:=zt3 (trk h H) hm
  rw[z] at e;cases e
structure Mod (K:z01)(mg:Str->Option Value)(base:Heap):Prop where
 kin:K.In base
 glob:base.Ns z20 mg
 blt:∃mb,base.Ns builtinsNs mb/\∀x:Str,x ≠ "__name__" -> mb x=z52 x
 nolimit:base.NoLimit
structure Cx where
 prog:Program
 w:World
 K:z01
 mg:Str->Option Value
 base:Heap
 A:Around
 N:List Str
 s₀:Shared
 H₀:Hp
 env:Env
 outer:List Env
 stack:List Env
 ex:List Addr
 fn:Str->Bool
 calm:Bool
 pn:List @12
 xe:Value->Shared->Prop
def frs (l:List Env):List Addr:=l.filterMap (·.frame)
abbrev Cx.fs (X:Cx):List Addr:=frs X.outer
def Vis (sc:Scope)(x:Str):Prop:=sc.names.lookup x=some .local\/sc.names.lookup x=some .cell\/sc.names.lookup x=some .free
def Loc (sc:Scope)(x:Str):Prop:=sc.names.lookup x=some .local\/sc.names.lookup x=some .cell
def Look (env:Env)(h:Heap)(m:Str->Option Value)(x:Str)(u:Value):Prop:=
 (env.kindOf x=some .local/\m x=some u)\/((env.kindOf x=some .cell\/env.kindOf x=some .free)/\∃c,env.cells.lookup x=some c/\h.IsCell c (some u))
structure Cx.Ok (X:Cx):Prop where
 mod:Mod X.K X.mg X.base
 kind:X.env.scope.kind=.function
 glob:X.env.globals=z20
 blt:X.env.builtins=builtinsNs
 above:X.s₀.heap.objs.size<=X.env.locals
 inj:∀x y c,X.env.cells.lookup x=some c->X.env.cells.lookup y=some c->x=y
 has:∀x,(X.env.kindOf x=some .cell\/X.env.kindOf x=some .free)->∃c,X.env.cells.lookup x=some c
 cab:∀x c,X.fn x=true->X.env.cells.lookup x=some c->X.s₀.heap.objs.size<=c
 hd:X.calm=true->X.A.handled=none
 frames:X.A.frames=some X.stack
 stk:X.stack=X.outer\/(X.stack=X.env::X.outer/\X.env.frame=some X.env.locals)
 exf:∀b∈X.ex,b≠X.env.locals/\∀x c,X.env.cells.lookup x=some c->c≠b
 bs:∀b o,X.base.get? b=some o->X.s₀.heap.get? b=some o/\X.H₀ b=none
 bsz:X.base.objs.size<=X.s₀.heap.objs.size
 noex:∀b o,X.base.get? b=some o->b∉X.ex
 exfs:∀b∈X.ex,b∉X.fs
 funs:X.s₀.heap.FunFrames X.base X.outer
 frf:∀b∈X.fs,X.H₀ b=none
structure Inv (X:Cx)(pins:List @12)(σ:List (Option V))(H:Hp)(s:Shared):Prop where
 ok:X.Ok
 os:s.os=X.s₀.os
 bare:AllBare s.gens
 base:Un X.fs X.ex X.H₀ H X.s₀.heap s.heap
 loc:∃m,s.heap.Ns X.env.locals m/\∀(i:Nat) (x:Str) (v:V),X.N[i]? = some x->σ[i]? = some (some v)->Vis X.env.scope x->∃u,RelV v u/\Look X.env s.heap m x u
 cell:∀x c,X.env.cells.lookup x=some c->∃v,s.heap.IsCell c v
 free:H X.env.locals=none
 freeC:∀x c,X.env.cells.lookup x=some c->H c=none
 pin:∀p∈X.pn++pins,s.heap.get? p.1=some p.2/\H p.1=none/\p.1≠X.env.locals/\p.1∉X.fs/\∀v,p.2.data≠.cell v
 hok:HOk X.prog X.w H s.heap
 len:σ.length=X.N.length
section
variable {X:Cx}{pins:List @12}{σ:List (Option V)}{H H':Hp}{s:Shared}{h':Heap}
theorem Cx.Ok.nofr (ok:X.Ok){b:Addr}{o:Obj}(e:X.base.get? b=some o):b∉X.fs:=fun hb=>by
 have:=(ok.funs.mem hb).1
 rw[e] at this;cases this
theorem Inv.bs (I:Inv X pins σ H s):∀b o,X.base.get? b=some o->s.heap.get? b=some o/\H b=none:=fun b o e=>
 ⟨I.base.keep b o (I.ok.bs b o e).1 (I.ok.bs b o e).2 (I.ok.nofr e) (I.ok.noex b o e),I.base.free b o (I.ok.bs b o e).1 (I.ok.bs b o e).2 (I.ok.noex b o e)⟩
theorem Inv.bk (I:Inv X pins σ H s):∀b o,X.base.get? b=some o->s.heap.get? b=some o:=fun b o e=>(I.bs b o e).1
theorem Inv.mod (I:Inv X pins σ H s):Mod X.K X.mg X.base:=I.ok.mod
theorem Inv.kIn (I:Inv X pins σ H s):X.K.In s.heap:=I.ok.mod.kin.keeps I.bk
theorem Inv.lt (I:Inv X pins σ H s):X.env.locals<s.heap.objs.size:=let ⟨_,hn,_⟩:=I.loc;hn.lt
theorem Inv.sz (I:Inv X pins σ H s):X.s₀.heap.objs.size<=s.heap.objs.size:=z66 I.ok.above (zg7 I.lt)
theorem Inv.nofs (I:Inv X pins σ H s){a:Addr}(h:s.heap.objs.size<=a):a∉X.fs:=fun hb=>by
 obtain⟨_,o,ho,_⟩:=I.ok.funs.mem hb
 exact absurd (z41 (z23 ho) (z66 I.sz h)) (za1 _)
theorem Inv.cne (I:Inv X pins σ H s):∀x c,X.env.cells.lookup x=some c->c≠X.env.locals:=fun x c e z=>by
 obtain⟨v,o,ho,hd⟩:=I.cell x c e
 obtain⟨m,⟨o',es,ep,ho',hd',_⟩,_⟩:=I.loc
 rw[z,ho'] at ho;cases ho;rw[hd'] at hd;cases hd
theorem Inv.funs (I:Inv X pins σ H s):s.heap.FunFrames X.base X.outer:=by
 have all:∀(l:List Env),(∀b∈frs l,b∈X.fs)->X.s₀.heap.FunFrames X.base l->s.heap.FunFrames X.base l:=by
  intro l
  induction l with
  |nil=>intro _ _;trivial
  |cons env r ih=>
   intro hs hl
   obtain⟨hk,⟨L,o,hf,hn,ho,hd⟩,hr⟩:=hl
   have hL:L∈X.fs:=hs L (by unfold frs;rw[zc0,hf];exact z07)
   obtain⟨sl,e⟩:=I.base.slot L o ho (I.ok.frf L hL) hL fun z=>I.ok.exfs L z hL
   exact⟨hk,⟨L,_,hf,hn,e,hd⟩,ih (fun b hb=>hs b (by unfold frs;rw[zc0,hf];exact z08 _ hb)) hr⟩
 exact all X.outer (fun _ hb=>hb) I.ok.funs
theorem Inv.stack (I:Inv X pins σ H s):s.heap.FunFrames X.base X.stack:=by
 rcases I.ok.stk with e|⟨e,hf⟩
 ·rw[e];exact I.funs
 ·rw[e]
  obtain⟨m,hn,_⟩:=I.loc
  refine .cons (by rw[I.ok.kind];decide) hf hn ?_ I.funs
  exact zh1 (z66 I.ok.bsz I.ok.above)
theorem Inv.stkSub (I:Inv X pins σ H s):∀b∈frs X.stack,b∈X.env.locals::X.fs:=fun b hb=>by
 rcases I.ok.stk with e|⟨e,hf⟩
 ·rw[e] at hb;exact z08 _ hb
 ·rw[e] at hb
  unfold frs at hb
  rw[zc0,hf] at hb
  exact hb
theorem Inv.stkFree (I:Inv X pins σ H s):∀b∈frs X.stack,H b=none:=fun b hb=>by
 rcases z19.mp (I.stkSub b hb) with e|hb
 ·rw[e];exact I.free
 ·obtain⟨_,o,ho,_⟩:=I.ok.funs.mem hb
  exact I.base.free b o ho (I.ok.frf b hb) fun z=>I.ok.exfs b z hb
theorem Inv.step {g':Array GenState}{t':Nat}{d':Drawn}{ch:List Addr}(I:Inv X pins σ H s)
  (hch:∀b∈ch,(b∈X.ex\/X.s₀.heap.objs.size<=b)/\b≠X.env.locals/\(∀x c,X.env.cells.lookup x=some c->c≠b)/\∀p∈X.pn++pins,p.1≠b)
  (keep:∀b o,b≠X.env.locals->b∉X.fs->b∉ch->s.heap.get? b=some o->H b=none->h'.get? b=some o)
  (slot:∀b o,b≠X.env.locals->b∈X.fs->b∉ch->s.heap.get? b=some o->H b=none->∃sl,h'.get? b=some { o with slots:=sl }) (free:∀b o,b∉ch->s.heap.get? b=some o->H b=none->H' b=none)
  (there:∀b o,b∉ch->s.heap.get? b=some o->∃o',h'.get? b=some o')
  (tups:∀b xs,H b=some (.tup xs)->H' b=some (.tup xs)) (frzs:∀b o u,H b=some (.frz o u)->H' b=some (.frz o u)) (tbls:∀b ps,H b=some (.tbl ps)->∃more,H' b=some (.tbl (ps++more)))
  (ns:∀m,s.heap.Ns X.env.locals m->h'.Ns X.env.locals m) (hok:HOk X.prog X.w H' h') (hg:AllBare g') :
  Inv X pins σ H' { s with heap:=h',gens:=g',drawn:=d',toks:=t' }:=by
 have neL:∀b o,X.s₀.heap.get? b=some o->b≠X.env.locals:=fun b o e=>z37 (z41 (z23 e) I.ok.above)
 have neC:∀b o,X.s₀.heap.get? b=some o->b∉X.ex->b∉ch:=fun b o e hx hb=>by
  rcases(hch b hb).1 with z|z
  ·exact hx z
  ·exact absurd (z41 (z23 e) z) (za1 _)
 have cellK:∀x c,X.env.cells.lookup x=some c->∀v,s.heap.IsCell c v->h'.IsCell c v:=fun x c e v ⟨o,ho,hd⟩=>by
  have nch:c∉ch:=fun z=>(hch c z).2.2.1 x c e rfl
  by_cases hc:c∈X.fs
  ·obtain⟨sl,q⟩:=slot c o (I.cne x c e) hc nch ho (I.freeC x c e)
   exact⟨_,q,hd⟩
  ·exact⟨o,keep c o (I.cne x c e) hc nch ho (I.freeC x c e),hd⟩
 refine⟨I.ok,I.os,hg,⟨fun b o e n hb hx=>?_,fun b o e n hb hx=>?_,fun b o e n hx=>?_,fun b o e hx=>?_,fun b xs e=>tups b xs (I.base.tups b xs e),fun b o xs e=>frzs b o xs (I.base.frzs b o xs e),fun b ps e=>?_⟩,?_,fun x c e=>?_,?_,fun x c e=>?_,fun p hp=>?_,hok,I.len⟩
 ·exact keep b o (neL b o e) hb (neC b o e hx) (I.base.keep b o e n hb hx) (I.base.free b o e n hx)
 ·obtain⟨sl,e1⟩:=I.base.slot b o e n hb hx
  obtain⟨sl',e2⟩:=slot b _ (neL b o e) hb (neC b o e hx) e1 (I.base.free b o e n hx)
  exact⟨sl',e2⟩
 ·obtain⟨o',e1⟩:=I.base.there b o e hx
  exact free b o' (neC b o e hx) e1 (I.base.free b o e n hx)
 ·obtain⟨o',e1⟩:=I.base.there b o e hx
  exact there b o' (neC b o e hx) e1
 ·obtain⟨m1,e1⟩:=I.base.tbls b ps e
  obtain⟨m2,e2⟩:=tbls b _ e1
  exact⟨m1++m2,by rw[e2,Array.append_assoc]⟩
 ·obtain⟨m,hn,hl⟩:=I.loc
  refine⟨m,ns m hn,fun i x v e1 e2 e3=>?_⟩
  obtain⟨u,r,l⟩:=hl i x v e1 e2 e3
  refine⟨u,r,?_⟩
  rcases l with l|⟨k,c,e,z⟩
  ·exact .inl l
  ·exact .inr ⟨k,c,e,cellK x c e _ z⟩
 ·obtain⟨v,z⟩:=I.cell x c e
  exact⟨v,cellK x c e v z⟩
 ·obtain⟨m,⟨o,_,_,ho,_⟩,_⟩:=I.loc
  exact free _ o (fun z=>(hch _ z).2.1 rfl) ho I.free
 ·obtain⟨v,o,ho,hd⟩:=I.cell x c e
  exact free c o (fun z=>(hch c z).2.2.1 x c e rfl) ho (I.freeC x c e)
 ·obtain⟨e,n,ne,nf,d⟩:=I.pin p hp
  have nch:p.1∉ch:=fun z=>(hch p.1 z).2.2.2 p hp rfl
  exact⟨keep p.1 p.2 ne nf nch e n,free p.1 p.2 nch e n,ne,nf,d⟩
theorem Inv.un {t':Nat}(I:Inv X pins σ H s)(u:Un X.fs [] H H' s.heap h')(hok:HOk X.prog X.w H' h'):Inv X pins σ H' { s with heap:=h',toks:=t' }:=by
 obtain⟨m,⟨o,es,ep,ho,r⟩,_⟩:=id I.loc
 obtain⟨sl,hL⟩:=u.any ho I.free @9
 exact I.step (g':=s.gens) (d':=s.drawn) (ch:=[]) @5 (fun b o _ hb _ e n=>u.keep b o e n hb @9) (fun b o _ hb _ e n=>u.slot b o e n hb @9) (fun b o _ e n=>u.free b o e n @9) (fun b o _ e=>u.there b o e @9) u.tups u.frzs u.tbls (fun m' hm=>by
  obtain⟨o',es',ep',ho',r'⟩:=hm
  rw[ho] at ho';cases ho'
  exact⟨_,es',ep',hL,r'⟩) hok I.bare
theorem Inv.call {g':Array GenState}{t':Nat}{d':Drawn}{ch:List Addr}(I:Inv X pins σ H s)(u:Un (frs X.stack) ch H H' s.heap h')(hok:HOk X.prog X.w H' h')(hg:AllBare g')
  (hch:∀b∈ch,(b∈X.ex\/X.s₀.heap.objs.size<=b)/\b≠X.env.locals/\(∀x c,X.env.cells.lookup x=some c->c≠b)/\∀p∈X.pn++pins,p.1≠b) :
  Inv X pins σ H' { s with heap:=h',gens:=g',drawn:=d',toks:=t' }:=by
 obtain⟨m,⟨o,es,ep,ho,r⟩,_⟩:=id I.loc
 obtain⟨sl,hL⟩:=u.any ho I.free fun z=>(hch _ z).2.1 rfl
 exact I.step (ch:=ch) hch (fun b o hL hb hc e n=>u.keep b o e n (fun z=>(z19.mp (I.stkSub b z)).elim hL hb) hc) (fun b o _ _ hc e n=>u.any e n hc) (fun b o hc e n=>u.free b o e n hc) (fun b o hc e=>u.there b o e hc) u.tups u.frzs u.tbls (fun m' hm=>by
  obtain⟨o',es',ep',ho',r'⟩:=hm
  rw[ho] at ho';cases ho'
  exact⟨_,es',ep',hL,r'⟩) hok hg
theorem Inv.turned {t':Nat}{it:Addr}(I:Inv X pins σ H s)(k:∀b o,b≠it->s.heap.get? b=some o->h'.get? b=some o)(hn:H it=none)(hL:it≠X.env.locals)
  (h1:it∈X.ex\/X.s₀.heap.objs.size<=it) (h2:∀x c,X.env.cells.lookup x=some c->c≠it) (h3:∀p∈X.pn++pins,p.1≠it):Inv X pins σ H { s with heap:=h',toks:=t' }:=by
 have nit:∀b u,H b=some u->b≠it:=fun b u e z=>by rw[z,hn] at e;cases e
 refine I.step (g':=s.gens) (d':=s.drawn) (ch:=[it]) (fun b hb=>?_) (fun b o _ _ hc e _=>k b o (fun z=>hc (by simp[z])) e) (fun b o _ _ hc e _=>⟨o.slots,k b o (fun z=>hc (by simp[z])) e⟩) (fun _ _ _ _ n=>n)
  (fun b o hc e=>⟨o,k b o (fun z=>hc (by simp[z])) e⟩) (fun _ _ e=>e) (fun _ _ _ e=>e) (fun b ps e=>⟨#[],by rw[e];simp⟩) (fun m hm=>?_) (fun b u e=>?_) I.bare
 ·have e:b=it:=by simpa using hb
  subst e
  exact⟨h1,hL,h2,h3⟩
 ·obtain⟨o,es,ep,ho,r⟩:=hm
  exact⟨o,es,ep,k _ o (zd8 hL) ho,r⟩
 ·refine(I.hok b u e).stay (fun c v hc q=>k c v ?_ q) (fun _ q=>q) fun _ _ q=>q
  rcases hc with z|z
  ·rw[z];exact nit b u e
  ·exact nit c _ z
theorem Inv.tok (I:Inv X pins σ H s)(t:Nat):Inv X pins σ H { s with toks:=t }:=I.un (h':=s.heap) (t':=t) Un.refl I.hok
theorem Inv.kept {t':Nat}(I:Inv X pins σ H s)(k:∀b u,s.heap.get? b=some u->h'.get? b=some u):Inv X pins σ H { s with heap:=h',toks:=t' }:=I.un (Un.kept k) (I.hok.kept k)
theorem Inv.laid {a:Addr}{o:HO}{t':Nat}(I:Inv X pins σ H s)(k:∀b u,s.heap.get? b=some u->h'.get? b=some u)(hp:s.heap.objs.size<=a)(new:ObjOk X.prog X.w (upd H a o) h' a o) :
  Inv X pins σ (upd H a o) { s with heap:=h',toks:=t' }:=I.un (Un.laid k hp (I.hok.fresh hp)) (I.hok.laid k hp new)
theorem Inv.write {x e:Addr}{o:HO}{t':Nat}(I:Inv X pins σ H s)(mu:Mut (H x))(he:e=x\/H e=some (.own x))(k:∀b u,b≠e->s.heap.get? b=some u->h'.get? b=some u)(heo:∃u,h'.get? e=some u)
  (new:ObjOk X.prog X.w (upd H x o) h' x o):Inv X pins σ (upd H x o) { s with heap:=h',toks:=t' }:=I.un (Un.write mu he k heo) (I.hok.write mu he k heo new)
theorem Inv.weak {σ':List (Option V)}(I:Inv X pins σ H s)(hl:σ'.length=σ.length)(w:∀(i:Nat) v,σ'[i]? = some (some v)->σ[i]? = some (some v)):Inv X pins σ' H s:=
 ⟨I.ok,I.os,I.bare,I.base,let ⟨m,hn,hl'⟩:=I.loc;⟨m,hn,fun i x v e1 e2 e3=>hl' i x v e1 (w i v e2) e3⟩,I.cell,I.free,I.freeC,I.pin,I.hok,hl.trans I.len⟩
theorem Inv.pins_of {pins':List @12}(I:Inv X pins σ H s)(h:∀p∈pins',s.heap.get? p.1=some p.2/\H p.1=none/\p.1≠X.env.locals/\p.1∉X.fs/\∀v,p.2.data≠.cell v):Inv X pins' σ H s:=
 ⟨I.ok,I.os,I.bare,I.base,I.loc,I.cell,I.free,I.freeC,fun p hp=>(z14.mp hp).elim (fun z=>I.pin p (z15 _ z)) (h p),I.hok,I.len⟩
theorem nodup_ix {N:List Str}(hN:N.Nodup){i j:Nat}{x:Str}(a:N[i]? = some x)(b:N[j]? = some x):i=j:=by
 obtain⟨h1,e1⟩:=z28.mp a
 obtain⟨h2,e2⟩:=z28.mp b
 exact(zp7 hN).mp (e1.trans e2.symm)
theorem store_ok2 {M:Model}{A:Around}{E:Value->Shared->Prop}{i:Nat}{x:Str}{v:V}{u:Value}{Q:Unit->Shared->Prop}(I:Inv X pins σ H s)(hN:X.N.Nodup)(hi:X.N[i]? = some x)(hx:Loc X.env.scope x)(r:RelV v u)
  (h:∀s',Inv X pins (σ.set i (some v)) H s'->(∃a,zb0 a s.heap s'.heap/\(a=X.env.locals\/X.env.cells.lookup x=some a))->Q () s') (hf:X.fn x=true\/X.env.scope.names.lookup x=some .local:=by first|exact .inl rfl|exact .inr rfl|assumption):wpAny M A (storeName X.env x u) Q E s:=by
 obtain⟨m,hn,hl⟩:=id I.loc
 have hcls:(X.env.scope.kind == .class || (X.env.scope.kind == .module && X.env.locals != X.env.globals))=false:=by rw[I.ok.kind];rfl
 have hiσ:i<σ.length:=by rw[I.len];exact(z28.mp hi).1
 have cne:=I.cne
 have tracked:∀{a:Addr} {h':Heap},(∃o,s.heap.get? a=some o/\H a=none)->zb0 a s.heap h'->HOk X.prog X.w H h':=fun{a h'} ha hs b ob e=>by
  obtain⟨_,_,hfree⟩:=ha
  refine(I.hok b ob e).stay (fun c w' hc q=>(hs.2 c ?_).trans q) (fun _ q=>q) fun _ _ q=>q
  rintro rfl
  rcases hc with rfl|hc
  ·rw[hfree] at e;cases e
  ·rw[hfree] at hc;cases hc
 rcases hx with hk|hk
 ·refine wpAny_storeName_local hk hn (fun h' hn' hs=>?_) hcls
  obtain⟨oL,_,_,hoL,_⟩:=id hn
  refine h _ ⟨I.ok,I.os,I.bare,⟨fun b o e n hb hx=>?_,fun b o e n hb hx=>?_,I.base.free,fun b o e hx=>?_,I.base.tups,I.base.frzs,I.base.tbls⟩,⟨_,hn',fun j y v' e1 e2 e3=>?_⟩,fun y c e=>?_,I.free,I.freeC,fun p hp=>?_,tracked ⟨oL,hoL,I.free⟩ hs,by simpa using I.len⟩ ⟨_,hs,.inl rfl⟩
  ·exact(hs.2 b (z37 (z41 (z23 e) I.ok.above))).trans (I.base.keep b o e n hb hx)
  ·obtain⟨sl,e1⟩:=I.base.slot b o e n hb hx
   exact⟨sl,(hs.2 b (z37 (z41 (z23 e) I.ok.above))).trans e1⟩
  ·obtain⟨o',e1⟩:=I.base.there b o e hx
   exact⟨o',(hs.2 b (z37 (z41 (z23 e) I.ok.above))).trans e1⟩
  ·by_cases hj:j=i
   ·subst hj
    rw[hi] at e1;cases e1
    rw[z88 hiσ] at e2
    cases e2
    exact⟨u,r,.inl ⟨hk,by simp⟩⟩
   ·rw[z57 (zd8 hj)] at e2
    obtain⟨u',r',q⟩:=hl j y v' e1 e2 e3
    refine⟨u',r',?_⟩
    rcases q with⟨k,e⟩|⟨k,c,e,z⟩
    ·refine .inl ⟨k,?_⟩
     have:y≠x:=fun e=>hj (nodup_ix hN e1 (e▸hi))
     simp[this,e]
    ·exact .inr ⟨k,c,e,z.sameBut hs (cne y c e)⟩
  ·obtain⟨w',z⟩:=I.cell y c e
   exact⟨w',z.sameBut hs (cne y c e)⟩
  ·obtain⟨e,n,ne,nf,d⟩:=I.pin p hp
   exact⟨(hs.2 p.1 ne).trans e,n,ne,nf,d⟩
 ·have hfn:X.fn x=true:=by
   rcases hf with z|z
   ·exact z
   ·rw[z] at hk;cases hk
  obtain⟨c,hc⟩:=I.ok.has x (.inl hk)
  obtain⟨w',z⟩:=I.cell x c hc
  refine wpAny_storeName_cell I.ok.kind hk hc z (fun h' hc' hs=>?_)
  obtain⟨oc,hoc,hocd⟩:=id z
  refine h { s with heap:=h' } ⟨I.ok,I.os,I.bare,⟨fun b o e n hb hx=>?_,fun b o e n hb hx=>?_,I.base.free,fun b o e hx=>?_,I.base.tups,I.base.frzs,I.base.tbls⟩,⟨m,hn.sameBut hs (zd8 (cne x c hc)),fun j y v' e1 e2 e3=>?_⟩,fun y c' e=>?_,I.free,I.freeC,fun p hp=>?_,tracked ⟨oc,hoc,I.freeC x c hc⟩ hs,by simpa using I.len⟩ ⟨c,hs,.inr hc⟩
  ·exact(hs.2 b (z37 (z41 (z23 e) (I.ok.cab x c hfn hc)))).trans (I.base.keep b o e n hb hx)
  ·obtain⟨sl,e1⟩:=I.base.slot b o e n hb hx
   exact⟨sl,(hs.2 b (z37 (z41 (z23 e) (I.ok.cab x c hfn hc)))).trans e1⟩
  ·obtain⟨o',e1⟩:=I.base.there b o e hx
   exact⟨o',(hs.2 b (z37 (z41 (z23 e) (I.ok.cab x c hfn hc)))).trans e1⟩
  ·by_cases hj:j=i
   ·subst hj
    rw[hi] at e1;cases e1
    rw[z88 hiσ] at e2
    cases e2
    exact⟨u,r,.inr ⟨.inl hk,c,hc,hc'⟩⟩
   ·rw[z57 (zd8 hj)] at e2
    obtain⟨u',r',q⟩:=hl j y v' e1 e2 e3
    refine⟨u',r',?_⟩
    rcases q with q|⟨k,c',e,z'⟩
    ·exact .inl q
    ·refine .inr ⟨k,c',e,z'.sameBut hs ?_⟩
     rintro rfl
     exact hj (nodup_ix hN e1 (I.ok.inj _ _ _ e hc▸hi))
  ·by_cases hcc:c'=c
   ·subst hcc;exact⟨_,hc'⟩
   ·obtain⟨w2,z2⟩:=I.cell y c' e
    exact⟨w2,z2.sameBut hs hcc⟩
  ·obtain⟨e,n,ne,nf,d⟩:=I.pin p hp
   refine⟨(hs.2 p.1 ?_).trans e,n,ne,nf,d⟩
   intro q
   rw[q,hoc] at e
   have q':oc=p.2:=z35 e
   exact d w' (by rw[← q'];exact hocd)
theorem store_ok {M:Model}{A:Around}{E:Value->Shared->Prop}{i:Nat}{x:Str}{v:V}{u:Value}{Q:Unit->Shared->Prop}(I:Inv X pins σ H s)(hN:X.N.Nodup)(hi:X.N[i]? = some x)(hx:Loc X.env.scope x)(r:RelV v u)
  (h:∀s',Inv X pins (σ.set i (some v)) H s'->Q () s') (hf:X.fn x=true\/X.env.scope.names.lookup x=some .local:=by first|exact .inl rfl|exact .inr rfl|assumption):wpAny M A (storeName X.env x u) Q E s:=
 store_ok2 I hN hi hx r (fun s' I' _=>h s' I') hf
theorem Inv.call' {s':Shared}{ch:List Addr}(I:Inv X pins σ H s)(ho:s'.os=s.os)(u:Un (frs X.stack) ch H H' s.heap s'.heap)(hok:HOk X.prog X.w H' s'.heap)(hg:AllBare s'.gens)
  (hch:∀b∈ch,(b∈X.ex\/X.s₀.heap.objs.size<=b)/\b≠X.env.locals/\(∀x c,X.env.cells.lookup x=some c->c≠b)/\∀p∈X.pn++pins,p.1≠b):Inv X pins σ H' s':=by
 obtain⟨h',g',d',t',o'⟩:=s'
 have e:o'=s.os:=ho
 subst e
 exact I.call (g':=g') (t':=t') (d':=d') u hok hg hch
end
abbrev XK:=Value->Option Addr->Hp->Prop
abbrev St:=List (Option V)
abbrev VK:=V->Hp->Prop
abbrev TE:=St->Hp->VK->Prop
abbrev TT:=St->Hp->(Bool->Hp->Prop)->Prop
abbrev TA:=St->Hp->(List V->Hp->Prop)->Prop
structure Ends where
 nx:St->Hp->Prop
 rt:VK
 bk:St->Hp->Prop:=fun _ _=>False
 ct:St->Hp->Prop:=fun _ _=>False
abbrev TS:=Ends->St->Hp->Prop
def EP (X:Cx)(pins:List @12)(σ:St)(Q:VK)(u:Value)(s':Shared):Prop:=∃v H',Inv X pins σ H' s'/\RelV v u/\Q v H'
def TP (X:Cx)(pins:List @12)(σ:St)(Q:Bool->Hp->Prop)(b:Bool)(s':Shared):Prop:=∃H',Inv X pins σ H' s'/\Q b H'
def AP (X:Cx)(pins:List @12)(σ:St)(Q:List V->Hp->Prop)(us:List Value)(s':Shared):Prop:=∃vs H',Inv X pins σ H' s'/\Vals vs us/\Q vs H'
def SP (X:Cx)(pins:List @12)(D:Ends)(f:Flow)(s':Shared):Prop:=
 match f with
 |.next=>∃σ' H',Inv X pins σ' H' s'/\D.nx σ' H'
 |.brk=>∃σ' H',Inv X pins σ' H' s'/\D.bk σ' H'
 |.cont=>∃σ' H',Inv X pins σ' H' s'/\D.ct σ' H'
 |.ret u=>∃v σ' H',Inv X pins σ' H' s'/\RelV v u/\D.rt v H'
def PE (X:Cx)(e:Expr)(t:TE):Prop:=
 ∀(pins:List @12) (s:Shared) (σ:St) (H:Hp) (Q:VK),Inv X pins σ H s->t σ H Q->wpAny @7 X.A (eval e X.env) (EP X pins σ Q) X.xe s
def PT (X:Cx)(e:Expr)(t:TT):Prop:=
 ∀(pins:List @12) (s:Shared) (σ:St) (H:Hp) (Q:Bool->Hp->Prop),Inv X pins σ H s->t σ H Q->wpAny @7 X.A (isTrue e X.env (eval e X.env)) (TP X pins σ Q) X.xe s
def PW (X:Cx)(e:Expr)(t:TT):Prop:=
 ∀(whole:Sem Value) (pins:List @12) (s:Shared) (σ:St) (H:Hp) (Q:Bool->Hp->Prop),Inv X pins σ H s->t σ H Q->wpAny @7 X.A (isTrue e X.env whole) (TP X pins σ Q) X.xe s
theorem PW.pt {X:Cx}{e:Expr}{t:TT}(h:PW X e t):PT X e t:=h _
def PA (X:Cx)(es:List Expr)(t:TA):Prop:=
 ∀(pos:Pos) (pins:List @12) (s:Shared) (σ:St) (H:Hp) (Q:List V->Hp->Prop),Inv X pins σ H s->t σ H Q->wpAny @7 X.A (spliced (backTo pos (starEach es X.env))) (AP X pins σ Q) X.xe s
def PS (X:Cx)(st:Stmt)(t:TS):Prop:=
 ∀(pins:List @12) (s:Shared) (σ:St) (H:Hp) (D:Ends),Inv X pins σ H s->t D σ H->wpAny @7 X.A (exec st X.env) (SP X pins D) X.xe s
def PSs (X:Cx)(st:List Stmt)(t:TS):Prop:=
 ∀(pins:List @12) (s:Shared) (σ:St) (H:Hp) (D:Ends),Inv X pins σ H s->t D σ H->wpAny @7 X.A (execs st X.env) (SP X pins D) X.xe s
theorem thn {α:Type}{t:Sem α}{Q Q':α->Shared->Prop}{M:Model}{A:Around}{E:Value->Shared->Prop}{s:Shared}(h:wpAny M A t Q E s)(hQ:∀a s,Q a s->Q' a s):wpAny M A t Q' E s:=zd2 h hQ fun _ _ x=>x
section
variable {X:Cx}
def tVar (i:Nat):TE:=fun σ H Q=>∃v,σ[i]? = some (some v)/\Q v H
def tC (v:V):TE:=fun _ H Q=>Q v H
theorem pe_var {i:Nat}{x:Str}{pos:Pos}(hN:X.N[i]? = some x)(hv:Vis X.env.scope x)(hd:@6=false:=by decide)(hcd:(x == ("__classdict__" : Str))=false:=by decide):PE X (.Name x pos) (tVar i):=by
 intro pins s σ H Q I h
 obtain⟨v,e,h⟩:=h
 obtain⟨m,hn,hl⟩:=I.loc
 obtain⟨u,r,l⟩:=hl i x v hN e hv
 have fin:EP X pins σ Q u s:=⟨v,H,I,r,h⟩
 rcases l with⟨hk,hm⟩|⟨hk,c,hc,hcell⟩
 ·exact wpAny_Name (wpAny_loadName_local I.ok.kind hk hn hm fin) hd
 ·rcases hk with hk|hk
  ·exact wpAny_Name (wpAny_loadName_cell I.ok.kind hk hc hcell fin) hd
  ·exact wpAny_Name (wpAny_loadName_free I.ok.kind hk hc hcell fin hcd) hd
theorem pe_int {i j pos}:PE X (.Constant (.int i) j pos) (tC (.int i)):=fun _ _ _ H _ I h=>wpAny_Constant_int ⟨.int i,H,I.tok _,⟨_,rfl⟩,h⟩
theorem pe_bl {b j pos}:PE X (.Constant (.bool b) j pos) (tC (.bl b)):=fun _ _ _ H _ I h=>Constant_bool ⟨.bl b,H,I,rfl,h⟩
theorem pe_non {j pos}:PE X (.Constant .none j pos) (tC .non):=fun _ _ _ H _ I h=>Constant_none ⟨.non,H,I,rfl,h⟩
theorem pe_str {x j pos}:PE X (.Constant (.str x) j pos) (tC (.str x)):=fun _ _ _ H _ I h=>Calls.Constant_str ⟨.str x,H,I.tok _,⟨_,rfl⟩,h⟩
def Gl (X:Cx)(x:Str):Prop:=X.env.kindOf x=some .globalImplicit
theorem ld_glob {E:Value->Shared->Prop}{pins:List @12}{s:Shared}{σ:St}{H:Hp}{x:Str}{u:Value}{pos:Pos}{Q:Value->Shared->Prop}(I:Inv X pins σ H s)(hg:Gl X x)(hm:X.mg x=some u)(h:Q u s)
  (hd:@6=false:=by decide):wpAny @7 X.A (eval (.Name x pos) X.env) Q E s:=
 zr1 I.ok.kind hg (Calls.loadGlobal_global (by rw[I.ok.glob];exact I.mod.glob.keeps I.bk) hm h) hd
theorem ld_blt {E:Value->Shared->Prop}{pins:List @12}{s:Shared}{σ:St}{H:Hp}{x:Str}{u:Value}{pos:Pos}{Q:Value->Shared->Prop}(I:Inv X pins σ H s)(hg:Gl X x)(hm:X.mg x=none)(hv:z52 x=some u)(h:Q u s)
  (hn:x ≠ "__name__" := by decide) (hd:@6=false:=by decide):wpAny @7 X.A (eval (.Name x pos) X.env) Q E s:=by
 obtain⟨mb,h1,h2⟩:=I.mod.blt
 exact zr1 I.ok.kind hg (Calls.loadGlobal_builtin (by rw[I.ok.glob];exact I.mod.glob.keeps I.bk) hm (by rw[I.ok.blt];exact h1.keeps I.bk) ((h2 x hn).trans hv) h) hd
theorem pe_glob {x:Str}{v:V}{u:Value}{pos:Pos}(hg:Gl X x)(hm:X.mg x=some u)(r:RelV v u)(hd:@6=false:=by decide):PE X (.Name x pos) (tC v):=
 fun _ _ _ H _ I h=>ld_glob I hg hm ⟨v,H,I,r,h⟩ hd
theorem pe_bltn {x:Str}{v:V}{u:Value}{pos:Pos}(hg:Gl X x)(hm:X.mg x=none)(hv:z52 x=some u)(r:RelV v u)(hn:x ≠ "__name__" := by decide)(hd:@6=false:=by decide):PE X (.Name x pos) (tC v):=
 fun _ _ _ H _ I h=>ld_blt I hg hm hv ⟨v,H,I,r,h⟩ hn hd
variable {a b:Expr}{ta tb:TE}{pos:Pos}
def PC (X:Cx)(op:CmpOp)(a b:Expr)(t:TE):Prop:=
 ∀(pins:List @12) (s:Shared) (σ:St) (H:Hp) (Q:VK),Inv X pins σ H s->t σ H Q->
  wpAny @7 X.A (eval a X.env) (fun v s₁=>wpAny @7 X.A (eval b X.env) (fun u s₂=>wpAny @7 X.A (compareOp op v u) (EP X pins σ Q) X.xe s₂) X.xe s₁) X.xe s
def tB (t:TE):TT:=fun σ H Q=>t σ H fun x H1=>∃c,x=.bl c/\Q c H1
theorem pt_cmp {op:CmpOp}{t:TE}(h:PC X op a b t)(h1:behindInMarks op b=false:=by first|exact nobehind _ @3 @3|rfl):PT X (.Compare a [op] [b] pos) (tB t):=by
 intro pins s σ H Q I hw
 refine wpAny_isTrue_Compare1 (thn (h pins s σ H _ I hw) fun v s1 h1=>thn h1 fun u s2 h2=>thn h2 fun c s3 hz=>?_) h1
 obtain⟨x,H1,I1,r1,q1⟩:=hz
 obtain⟨d,rfl,q⟩:=q1
 cases r1
 exact z95 ⟨H1,I1,q⟩
theorem pt_val {e:Expr}{t:TE}(h:PE X e t)(he:∀whole,isTrue e X.env whole=(do let v ← whole;standAt e.pos;holding [v] (truthy v)):=by intro _;rfl):PT X e (tB t):=by
 intro pins s σ H Q I hw
 refine isTrue_plain (thn (h pins s σ H _ I hw) fun v s1 hz=>?_) (he _)
 obtain⟨x,H1,I1,r1,q1⟩:=hz
 obtain⟨d,rfl,q⟩:=q1
 cases r1
 exact z95 ⟨H1,I1,q⟩
variable {tA tB':TT}{rest:List Expr}
def tAnd (t u:TT):TT:=fun σ H Q=>t σ H fun c H1=>if c=true then u σ H1 Q else Q false H1
def tOr (t u:TT):TT:=fun σ H Q=>t σ H fun c H1=>if c=true then Q true H1 else u σ H1 Q
def tNot (t:TT):TT:=fun σ H Q=>t σ H fun c H1=>Q (!c) H1
theorem pw_and1 (ha:PT X a tA):PW X (.BoolOp .And [a] pos) tA:=by
 intro wh pins s σ H Q I h
 refine isTrue_and (thn (ha pins s σ H Q I h) fun c s1 e=>?_)
 cases c with
 |true=>exact isTrue_and_nil e
 |false=>exact e
theorem pw_or1 (ha:PT X a tA):PW X (.BoolOp .Or [a] pos) tA:=by
 intro wh pins s σ H Q I h
 refine isTrue_or (thn (ha pins s σ H Q I h) fun c s1 e=>?_)
 cases c with
 |false=>exact isTrue_or_nil e
 |true=>exact e
theorem pw_and (ha:PT X a tA)(hb:PW X (.BoolOp .And (b::rest) pos) tB'):PW X (.BoolOp .And (a::b::rest) pos) (tAnd tA tB'):=by
 intro wh pins s σ H Q I h
 refine isTrue_and (thn (ha pins s σ H _ I h) fun c s1 hz=>?_)
 obtain⟨H1,I1,q1⟩:=hz
 cases c with
 |true=>exact hb wh pins s1 σ H1 Q I1 q1
 |false=>exact⟨H1,I1,q1⟩
theorem pw_or (ha:PT X a tA)(hb:PW X (.BoolOp .Or (b::rest) pos) tB'):PW X (.BoolOp .Or (a::b::rest) pos) (tOr tA tB'):=by
 intro wh pins s σ H Q I h
 refine isTrue_or (thn (ha pins s σ H _ I h) fun c s1 hz=>?_)
 obtain⟨H1,I1,q1⟩:=hz
 cases c with
 |true=>exact⟨H1,I1,q1⟩
 |false=>exact hb wh pins s1 σ H1 Q I1 q1
theorem pt_not (ha:PT X a tA):PT X (.UnaryOp .Not a pos) (tNot tA):=by
 intro pins s σ H Q I h
 exact isTrue_not (ha pins s σ H (fun c H1=>Q (!c) H1) I h)
def tAndV (ta tb:TE):TE:=fun σ H Q=>ta σ H fun x H1=>∃c,x=.bl c/\if c=true then tb σ H1 Q else Q (.bl false) H1
def tNotV (ta:TE):TE:=fun σ H Q=>ta σ H fun x H1=>∃c,x=.bl c/\Q (.bl (!c)) H1
theorem pe_one {op}{t:TE}(h:PE X a t):PE X (.BoolOp op [a] pos) t:=fun pins s σ H Q I hw=>BoolOp_one (h pins s σ H Q I hw)
theorem pe_and (ha:PE X a ta)(hb:PE X (.BoolOp .And (b::rest) pos) tb):PE X (.BoolOp .And (a::b::rest) pos) (tAndV ta tb):=by
 intro pins s σ H Q I h
 refine BoolOp_and (thn (ha pins s σ H _ I h) fun v s1 hz=>?_)
 obtain⟨x,H1,I1,r1,q1⟩:=hz
 obtain⟨c,rfl,q1⟩:=q1
 cases r1
 refine z95 ?_
 cases c with
 |true=>exact hb pins s1 σ H1 Q I1 q1
 |false=>exact⟨.bl false,H1,I1,rfl,q1⟩
theorem pe_not (ha:PE X a ta):PE X (.UnaryOp .Not a pos) (tNotV ta):=by
 intro pins s σ H Q I h
 refine UnaryOp_ (thn (ha pins s σ H _ I h) fun v s1 hz=>?_)
 obtain⟨x,H1,I1,r1,q1⟩:=hz
 obtain⟨c,rfl,q1⟩:=q1
 cases r1
 exact not_of (z95 ⟨.bl (!c),H1,I1,rfl,q1⟩)
end
def SqL (K:z01)(H:Hp)(a:Addr)(xs:List V):Prop:=
 Rd H a (.lst xs)\/
  ∃(o:Obj) (its:Array Value) (n:Nat),K.lookup a=some o/\o.cls=.type "list" /\ o.dict=none/\o.data=.seq its n/\its.size<=z18/\Vals xs its.toList
def SqT (K:z01)(H:Hp)(a:Addr)(xs:List V):Prop:=
 Rd H a (.tup xs)\/
  ∃(o:Obj) (its:Array Value) (n:Nat),K.lookup a=some o/\o.cls=.type "tuple" /\ o.data=.seq its n/\its.size<=z18/\Vals xs its.toList
def absV:Value->Option V
 |.none=>some .non
 |.bool b=>some (.bl b)
 |.int i _=>some (.int i)
 |.str x _=>some (.str x)
 |.bytes b _=>some (.byt b)
 |.float b _=>some (.flt b)
 |.ref a=>some (.ref a)
 |.type n=>some (.ty n)
 |_=>none
theorem RelV.abs {x:V}{u:Value}(r:RelV x u):absV u=some x:=by
 cases x with
 |non=>cases r;rfl
 |bl _=>cases r;rfl
 |int _=>obtain⟨t,rfl⟩:=r;rfl
 |str _=>obtain⟨t,rfl⟩:=r;rfl
 |byt _=>obtain⟨t,rfl⟩:=r;rfl
 |flt _=>obtain⟨t,rfl⟩:=r;rfl
 |ref _=>cases r;rfl
 |ty _=>cases r;rfl
theorem RelV.inj {x y:V}{u:Value}(r:RelV x u)(q:RelV y u):x=y:=z35 (r.abs.symm.trans q.abs)
theorem Vals.inj:∀{xs ys:List V} {us:List Value},Vals xs us->Vals ys us->xs=ys
 |_,_,_,.nil,.nil=>rfl
 |_,_,_,.cons r t,.cons r' t'=>by rw[r.inj r',Vals.inj t t']
section
variable {X:Cx}{pins:List @12}{σ:St}{H:Hp}{s:Shared}{a:Addr}{xs ys:List V}
theorem SqL.of {K:z01}(h:H a=some (.lst xs)):SqL K H a xs:=.inl (.inl h)
theorem SqT.of {K:z01}(h:H a=some (.tup xs)):SqT K H a xs:=.inl (.inl h)
theorem Inv.list (I:Inv X pins σ H s)(h:SqL X.K H a xs):∃its:List Value,Vals xs its/\PlainL s.heap a its.toArray/\xs.length<=z18:=by
 rcases h with h|⟨o,its,n,hk,hc,hd,hs,hz,r⟩
 ·obtain⟨z,its,n,r,e⟩:=h.ok I.hok
  exact⟨its,r,⟨_,n,e,rfl,rfl,rfl⟩,z⟩
 ·refine⟨its.toList,r,⟨o,n,I.kIn a o hk,hc,hd,by simpa using hs⟩,?_⟩
  have e:=r.length
  simp only[z47] at e
  lia
theorem Inv.tuple (I:Inv X pins σ H s)(h:SqT X.K H a xs):∃its:List Value,Vals xs its/\IsTup s.heap a its.toArray/\xs.length<=z18:=by
 rcases h with h|⟨o,its,n,hk,hc,hs,hz,r⟩
 ·obtain⟨z,its,r,p⟩:=h.ok I.hok
  exact⟨its,r,p,z⟩
 ·refine⟨its.toList,r,⟨o,I.kIn a o hk,hc,n,by simpa using hs⟩,?_⟩
  have e:=r.length
  simp only[z47] at e
  lia
theorem Inv.list_inj (I:Inv X pins σ H s)(h:SqL X.K H a xs)(h':SqL X.K H a ys):xs=ys:=by
 obtain⟨its,r,⟨o,n,e,_,_,d⟩,_⟩:=I.list h
 obtain⟨its',r',⟨o',n',e',_,_,d'⟩,_⟩:=I.list h'
 rw[e] at e';cases e'
 rw[d] at d'
 injection d' with d1 _
 have:its=its':=by simpa using congrArg zo6 d1
 subst this
 exact r.inj r'
theorem Inv.tuple_inj (I:Inv X pins σ H s)(h:SqT X.K H a xs)(h':SqT X.K H a ys):xs=ys:=by
 obtain⟨its,r,⟨o,e,_,n,d⟩,_⟩:=I.tuple h
 obtain⟨its',r',⟨o',e',_,n',d'⟩,_⟩:=I.tuple h'
 rw[e] at e';cases e'
 rw[d] at d'
 injection d' with d1 _
 have:its=its':=by simpa using congrArg zo6 d1
 subst this
 exact r.inj r'
end
abbrev Cx.wish (X:Cx)(E:Value->Shared->Prop):Cx:={ X with xe:=E }
abbrev Cx.nox (X:Cx):Cx:=X.wish fun _ _=>False
theorem Cx.Ok.wish {X:Cx}(ok:X.Ok)(E:Value->Shared->Prop):(X.wish E).Ok:=
 ⟨ok.mod,ok.kind,ok.glob,ok.blt,ok.above,ok.inj,ok.has,ok.cab,ok.hd,ok.frames,ok.stk,ok.exf,ok.bs,ok.bsz,ok.noex,ok.exfs,ok.funs,ok.frf⟩
theorem Cx.Ok.unwish {X:Cx}{E:Value->Shared->Prop}(ok:(X.wish E).Ok):X.Ok:=
 ⟨ok.mod,ok.kind,ok.glob,ok.blt,ok.above,ok.inj,ok.has,ok.cab,ok.hd,ok.frames,ok.stk,ok.exf,ok.bs,ok.bsz,ok.noex,ok.exfs,ok.funs,ok.frf⟩
section
variable {X:Cx}{pins:List @12}{σ:St}{H:Hp}{s:Shared}{E:Value->Shared->Prop}
theorem Inv.wish (I:Inv X pins σ H s)(E:Value->Shared->Prop):Inv (X.wish E) pins σ H s:=⟨I.ok.wish E,I.os,I.bare,I.base,I.loc,I.cell,I.free,I.freeC,I.pin,I.hok,I.len⟩
theorem Inv.unwish (I:Inv (X.wish E) pins σ H s):Inv X pins σ H s:=⟨I.ok.unwish,I.os,I.bare,I.base,I.loc,I.cell,I.free,I.freeC,I.pin,I.hok,I.len⟩
theorem SP.unwish {D:Ends}{f:Flow}{s':Shared}(h:SP (X.wish E) pins D f s'):SP X pins D f s':=by
 cases f with
 |next=>obtain⟨σ',H',I,q⟩:=h;exact⟨σ',H',I.unwish,q⟩
 |brk=>obtain⟨σ',H',I,q⟩:=h;exact⟨σ',H',I.unwish,q⟩
 |cont=>obtain⟨σ',H',I,q⟩:=h;exact⟨σ',H',I.unwish,q⟩
 |ret u=>obtain⟨v,σ',H',I,r,q⟩:=h;exact⟨v,σ',H',I.unwish,r,q⟩
theorem PSs.nox {st:List Stmt}{t:TS}(h:PSs X.nox st t):PSs X st t:=fun pins s σ H D I hw=>
 zd2 (h pins s σ H D (I.wish _) hw) (fun _ _ q=>q.unwish) fun _ _ z=>zb7 z
end
section
variable {X:Cx}{st:Stmt}{rest:List Stmt}{t u:TS}{e:Expr}{te:TE}{pos:Pos}
def tNext:TS:=fun D σ H=>D.nx σ H
def tSeq (t u:TS):TS:=fun D σ H=>t { D with nx:=u D } σ H
theorem pss_nil:PSs X [] tNext:=fun _ _ σ H _ I h=>zn2 ⟨σ,H,I,h⟩
theorem pss_cons (h1:PS X st t)(h2:PSs X rest u):PSs X (st::rest) (tSeq t u):=by
 intro pins s σ H D I h
 refine wpAny_execs_cons (thn (h1 pins s σ H { D with nx:=u D } I h) fun f s1 q=>?_)
 cases f with
 |next=>
  obtain⟨σ',H',I',q⟩:=q
  exact h2 pins s1 σ' H' D I' q
 |ret v=>exact q
 |brk=>exact q
 |cont=>exact q
theorem pss_one (h1:PS X st t):PSs X [st] t:=by
 intro pins s σ H D I h
 refine wpAny_execs_cons (thn (h1 pins s σ H D I h) fun f s1 q=>?_)
 cases f with
 |next=>exact zn2 q
 |ret v=>exact q
 |brk=>exact q
 |cont=>exact q
theorem Inv.quiet {pins:List @12}{σ:St}{H:Hp}{s:Shared}(I:Inv X pins σ H s):interactive X.env=false:=by simp[interactive,I.ok.kind]
def tDrop (te:TE):TS:=fun D σ H=>te σ H fun _ H1=>D.nx σ H1
theorem ps_expr (he:PE X e te)(hs:swapsWith e none pos.line X.env=pure false:=by rfl):PS X (.Expr e pos) (tDrop te):=by
 intro pins s σ H D I h
 exact wpAny_Expr_any (thn (he pins s σ H _ I h) fun v s1 ⟨x,H1,I1,r1,q1⟩=>⟨σ,H1,I1,q1⟩) I.quiet hs
def tRet (te:TE):TS:=fun D σ H=>te σ H D.rt
theorem ps_ret (he:PE X e te):PS X (.Return (some e) pos) (tRet te):=by
 intro pins s σ H D I h
 exact wpAny_Return_some (thn (he pins s σ H _ I h) fun v s1 ⟨x,H1,I1,r1,q1⟩=>⟨x,σ,H1,I1,r1,q1⟩)
def tIfS (c:TT)(t u:TS):TS:=fun D σ H=>c σ H fun b H1=>if b=true then t D σ H1 else u D σ H1
theorem ps_if {c:Expr}{a b:List Stmt}{tc:TT}(hc:PT X c tc)(ha:PSs X a t)(hb:PSs X b u):PS X (.If c a b pos) (tIfS tc t u):=by
 intro pins s σ H D I h
 refine wpAny_If (thn (hc pins s σ H _ I h) fun d s1 hz=>?_)
 obtain⟨H1,I1,q1⟩:=hz
 cases d with
 |true=>exact ha pins s1 σ H1 D I1 q1
 |false=>exact hb pins s1 σ H1 D I1 q1
end
abbrev TG:=V->St->Hp->(St->Hp->Prop)->Prop
abbrev TGs:=List V->St->Hp->(St->Hp->Prop)->Prop
def PG (X:Cx)(target:Expr)(t:TG):Prop:=
 ∀(pins:List @12) (s:Shared) (σ:St) (H:Hp) (v:V) (u:Value) (Q:St->Hp->Prop),Inv X pins σ H s->RelV v u->t v σ H Q->
  wpAny @7 X.A (assign target X.env u) (fun _ s'=>∃σ' H',Inv X pins σ' H' s'/\Q σ' H') X.xe s
def PGs (X:Cx)(ts:List Expr)(t:TGs):Prop:=
 ∀(pins:List @12) (s:Shared) (σ:St) (H:Hp) (vs:List V) (us:List Value) (Q:St->Hp->Prop),Inv X pins σ H s->Vals vs us->t vs σ H Q->
  wpAny @7 X.A (assignInOrder ((assignEach ts X.env).map (·.2)) us) (fun _ s'=>∃σ' H',Inv X pins σ' H' s'/\Q σ' H') X.xe s
abbrev TSet:=V->V->V->Hp->(Hp->Prop)->Prop
def PSet (X:Cx)(t:TSet):Prop:=
 ∀(pins:List @12) (s:Shared) (σ:St) (H:Hp) (o i v:V) (ov iv u:Value) (Q:Hp->Prop),Inv X pins σ H s->RelV o ov->RelV i iv->RelV v u->t o i v H Q->
  wpAny @7 X.A (setItem ov iv u) (fun _ s'=>∃H',Inv X pins σ H' s'/\Q H') X.xe s
section
variable {X:Cx}{pos:Pos}
def gName (i:Nat):TG:=fun v σ H Q=>Q (σ.set i (some v)) H
theorem pg_name {i:Nat}{x:Str}(hN:X.N.Nodup)(hi:X.N[i]? = some x)(hx:Loc X.env.scope x)(hf:X.fn x=true\/X.env.scope.names.lookup x=some .local:=by first|exact .inl rfl|exact .inr rfl|assumption):PG X (.Name x pos) (gName i):=by
 intro pins s σ H v u Q I r h
 exact wpAny_assign_Name (store_ok I hN hi hx r (fun s' I'=>⟨_,H,I',h⟩) hf)
def gNil:TGs:=fun vs σ H Q=>vs=[]/\Q σ H
def gCons (t:TG)(u:TGs):TGs:=fun vs σ H Q=>∃v r,vs=v::r/\t v σ H fun σ' H'=>u r σ' H' Q
theorem pgs_nil:PGs X [] gNil:=by
 intro pins s σ H vs us Q I r h
 obtain⟨e,h⟩:=h
 subst e
 cases r
 exact assignInOrder_nil ⟨σ,H,I,h⟩
theorem pgs_cons {e:Expr}{es:List Expr}{t:TG}{u:TGs}(h1:PG X e t)(h2:PGs X es u)
  (hs:(assignEach (e::es) X.env).map (·.2)=assign e X.env::(assignEach es X.env).map (·.2):=by rfl):PGs X (e::es) (gCons t u):=by
 intro pins s σ H vs us Q I r h
 obtain⟨v,vr,e1,h⟩:=h
 subst e1
 cases r with
 |cons r rr=>
  rw[hs]
  refine assignInOrder_cons (thn (h1 pins s σ H _ _ _ I r h) fun _ s1 hz=>?_)
  obtain⟨σ1,H1,I1,q1⟩:=hz
  exact h2 pins s1 σ1 H1 _ _ Q I1 rr q1
def gTup (K:z01)(n:Nat)(t:TGs):TG:=fun v σ H Q=>∃a xs,v=.ref a/\SqT K H a xs/\xs.length=n/\t xs σ H Q
theorem pg_tup {es:List Expr}{k:Nat}{t:TGs}{n:Nat}(hc:X.calm=true)(h:PGs X es t)
  (hn:(assignEach es X.env).length=n:=by rfl) (hst:(assignEach es X.env).findIdx? (·.1)=none:=by rfl):PG X (.Tuple es k pos) (gTup X.K n t):=by
 intro pins s σ H v u Q I r hw
 obtain⟨a,xs,e1,hq,hl,hw⟩:=hw
 subst e1
 cases r
 obtain⟨its,rv,ht,hz⟩:=I.tuple hq
 refine assign_Tuple_tuple (I.ok.hd hc) ht (by simp[hn,← hl,rv.length]) hst fun h' hx=>?_
 have I1:Inv X pins σ H { s with heap:=h' }:=I.kept (t':=s.toks) fun b o e=>hx b o (z37 (z23 e)) e
 exact h pins _ σ H xs _ Q I1 (by simpa using rv) hw
def gSub (to ti:TE)(t:TSet):TG:=fun v σ H Q=>to σ H fun o H1=>ti σ H1 fun i H2=>t o i v H2 fun H3=>Q σ H3
theorem pg_sub {o i:Expr}{to ti:TE}{t:TSet}(ho:PE X o to)(hi:PE X i ti)(hs:PSet X t)
  (ha:∀v,assign (.Subscript o i pos) X.env v=(do
   let ov ← holding [v] (eval o X.env)
   let iv ← holding [v,ov] (eval i X.env)
   standAt pos
   holding [v,ov,iv] (setItem ov iv v)
   release [v,ov,iv] []):=by intro _;rfl):PG X (.Subscript o i pos) (gSub to ti t):=by
 intro pins s σ H v u Q I r h
 rw[ha]
 refine z02 (z96 (thn (ho pins s σ H _ I h) fun ov s1 hz=>?_))
 obtain⟨x,H1,I1,r1,q1⟩:=hz
 refine z02 (z96 (thn (hi pins s1 σ H1 _ I1 q1) fun iv s2 hz=>?_))
 obtain⟨y,H2,I2,r2,q2⟩:=hz
 refine z02 (zw7 (z02 (z96 (thn (hs pins s2 σ H2 x y v ov iv u _ I2 r1 r2 r q2) fun _ s3 hz=>?_))))
 obtain⟨H3,I3,q3⟩:=hz
 exact wpAny_release ⟨σ,H3,I3,q3⟩
def tAsg (te:TE)(g:TG):TS:=fun D σ H=>te σ H fun x H1=>g x σ H1 D.nx
theorem ps_asg {tg e:Expr}{te:TE}{g:TG}(he:PE X e te)(hg:PG X tg g)(hs:swapsWithSole [tg] e pos.line X.env=pure false:=by rfl)(hw:swappedStores [tg] e X.env=pure none:=by rfl)
  (h1:(assignEach [tg] X.env).map (·.2)=[assign tg X.env]:=by rfl):PS X (.Assign [tg] e pos) (tAsg te g):=by
 intro pins s σ H D I h
 refine wpAny_Assign_stores (thn (he pins s σ H _ I h) fun v s1 hz=>?_) hs hw
 obtain⟨x,H1,I1,r1,q1⟩:=hz
 rw[h1]
 exact thn (hg pins s1 σ H1 x v _ I1 r1 q1) fun _ s2 q=>q
theorem ps_set {i:Nat}{x:Str}{e:Expr}{te:TE}{pos':Pos}(hN:X.N.Nodup)(hi:X.N[i]? = some x)(hx:Loc X.env.scope x)(he:PE X e te)(hs:swapsWith e (some (.Name x pos')) pos.line X.env=pure false:=by rfl)(hf:X.fn x=true\/X.env.scope.names.lookup x=some .local:=by first|exact .inl rfl|exact .inr rfl|assumption) :
  PS X (.Assign [.Name x pos'] e pos) (tAsg te (gName i)):=by
 intro pins s σ H D I h
 refine wpAny_Assign_Name (thn (he pins s σ H _ I h) fun v s1 hz=>?_) hs
 obtain⟨y,H1,I1,r1,q1⟩:=hz
 exact store_ok I1 hN hi hx r1 (fun s2 I2=>⟨_,H1,I2,q1⟩) hf
end
section
variable {X:Cx}{pos:Pos}
def tWhile (c:TT)(tb:TS):TS:=fun D σ H=>∃W:Nat->St->Hp->Prop,(∃m,W m σ H)/\∀m σ H,W m σ H->
 c σ H fun b H1=>if b=true then ∃N:St->Hp->Prop,(∀σ' H',N σ' H'->∃m',m' < m/\W m' σ' H')/\tb { D with nx:=N,ct:=N,bk:=D.nx } σ H1 else D.nx σ H1
theorem ps_while {c:Expr}{body:List Stmt}{tc:TT}{tb:TS}(hp:PassesOwn @7 X.A X.env X.xe)(hc:PT X c tc)(hb:PSs X body tb):PS X (.While c body [] pos) (tWhile tc tb):=by
 intro pins s σ H D I h
 obtain⟨W,⟨m0,w0⟩,turn⟩:=h
 refine wpAny_While (codeAny_whileLoop (fun n s'=>∃σ' H',Inv X pins σ' H' s'/\W n σ' H') ?_ m0 ⟨σ,H,I,w0⟩)
 rintro n s1 ⟨σ1,H1,I1,w1⟩
 refine ze2 hp (thn (hc pins s1 σ1 H1 _ I1 (turn n σ1 H1 w1)) fun b s2 hz=>?_)
 obtain⟨H2,I2,q2⟩:=hz
 cases b with
 |true=>
  obtain⟨N,hN,q2⟩:=q2
  rw[if_pos rfl]
  refine ze2 hp (thn (hb pins s2 σ1 H2 _ I2 q2) fun f s3 q3=>?_)
  cases f with
  |next=>
   obtain⟨σ3,H3,I3,n3⟩:=q3
   obtain⟨m',hm,w3⟩:=hN σ3 H3 n3
   exact⟨m',hm,σ3,H3,I3,w3⟩
  |cont=>
   obtain⟨σ3,H3,I3,n3⟩:=q3
   obtain⟨m',hm,w3⟩:=hN σ3 H3 n3
   exact⟨m',hm,σ3,H3,I3,w3⟩
  |brk=>exact q3
  |ret v=>exact q3
 |false=>
  rw[if_neg z36]
  exact zn2 ⟨σ1,H2,I2,q2⟩
end
structure It where
 go:Nat->Hp->Prop
 yld:Nat->Hp->V->Hp->Prop
 stop:Nat->Hp->Prop
def FpOk (X:Cx)(pins:List @12)(H:Hp)(b:Addr):Prop:=
 H b=none/\b≠X.env.locals/\b∉X.fs/\(b∈X.ex\/X.s₀.heap.objs.size<=b)/\(∀x c,X.env.cells.lookup x=some c->c≠b)/\∀p∈X.pn++pins,p.1≠b
theorem Inv.fpOk {X:Cx}{pins:List @12}{σ:St}{H H':Hp}{s:Shared}{b:Addr}(I:Inv X pins σ H s)(hb:s.heap.objs.size<=b)(hn:H' b=none):FpOk X pins H' b:=by
 refine⟨hn,z85 (z41 I.lt hb),I.nofs hb,.inr (z66 I.sz hb),fun x c e z=>?_,fun p hp z=>?_⟩
 ·obtain⟨v,q⟩:=I.cell x c e
  exact absurd (z41 q.lt (by rw[z];exact hb)) (za1 _)
 ·exact absurd (z41 (z23 (I.pin p hp).1) (by rw[z];exact hb)) (za1 _)
structure Turn (P:Program)(w:World)(K:z01)(tg:Expr)(J:It)(fp:List Addr)(it:Addr)(tn:Nat->Heap->Prop):Prop where
 mem:it∈fp
 obj:∀i h,tn i h->∀b∈fp,∃o,h.get? b=some o/\∀v,o.data≠.cell v
 keep:∀i h h',tn i h->(∀b∈fp,∀o,h.get? b=some o->h'.get? b=some o)->tn i h'
 item:∀(X:Cx),X.prog=P->X.w=w->X.K=K->X.calm=true->∀(i:Nat) (pins:List @12) (s:Shared) (σ:St) (H:Hp) (E:Value->Shared->Prop),Inv X pins σ H s->(∀b∈fp,FpOk X pins H b)->tn i s.heap->J.go i H->
  wpAny (model P w) X.A (pyNext (.ref it)) (fun r s1=>∃u,r=some u/\
   wpAny (model P w) X.A (letOwnedTupleGo tg (.ref it) u) (fun _ s2=>∃x H',Inv X pins σ H' s2/\RelV x u/\J.yld i H x H'/\tn (i+1) s2.heap/\∀b∈fp,H' b=none) E s1) E s
 done:∀(X:Cx),X.prog=P->X.w=w->X.K=K->X.calm=true->∀(i:Nat) (pins:List @12) (s:Shared) (σ:St) (H:Hp) (E:Value->Shared->Prop),Inv X pins σ H s->(∀b∈fp,FpOk X pins H b)->tn i s.heap->J.stop i H->
  wpAny (model P w) X.A (pyNext (.ref it)) (fun r s1=>r=none/\Inv X pins σ H s1) E s
 self:∀(A:Around) (i:Nat) (s:Shared) (Q:Value->Shared->Prop) (E:Value->Shared->Prop),tn i s.heap->Q (.ref it) s->wpAny (model P w) A (pyIter (.ref it)) Q E s
abbrev TI:=St->Hp->(It->Hp->Prop)->Prop
def PIE (X:Cx)(pins:List @12)(σ:St)(tg:Expr)(R:It->Hp->Prop)(itv:Value)(s2:Shared):Prop:=
 ∃(it:Addr) (fp:List Addr) (tn:Nat->Heap->Prop) (J:It) (H':Hp),itv=.ref it/\Inv X pins σ H' s2/\Turn X.prog X.w X.K tg J fp it tn/\tn 0 s2.heap/\(∀b∈fp,FpOk X pins H' b)/\R J H'
def PI (X:Cx)(tg iter:Expr)(wi:TI):Prop:=
 ∀(pins:List @12) (s:Shared) (σ:St) (H:Hp) (R:It->Hp->Prop),Inv X pins σ H s->wi σ H R->
  wpAny @7 X.A (eval iter X.env) (fun v s1=>wpAny @7 X.A (pyIter v) (PIE X pins σ tg R) X.xe s1) X.xe s
theorem go_of {M:Model}{A:Around}{E:Value->Shared->Prop}{s:Shared}{tg:Expr}{it:Addr}{u:Value}{o:Obj}{n:String}{vs:Array Value}{Q:Unit->Shared->Prop}(ho:s.heap.get? it=some o)(hc:o.cls=.type n)(hd:o.data=.fields vs)
  (hn:["enumerate","zip","dict_itemiterator","dict_reverseitemiterator","odict_iterator","itertools.zip_longest","itertools.pairwise"].contains n=false) (hQ:Q () s):wpAny M A (letOwnedTupleGo tg (.ref it) u) Q E s:=by
 unfold letOwnedTupleGo
 cases tg<;>first
  |exact z22 hQ
  |(cases u<;>first
    |exact z22 hQ
    |(refine z02 (zw2 ho ?_);rw[hc,hd];show wpAny M A (if(["enumerate","zip","dict_itemiterator","dict_reverseitemiterator","odict_iterator","itertools.zip_longest","itertools.pairwise"].contains n && vs[0]? == some (rawInt _))=true then _ else _) Q E s;rw[if_neg (by intro h;rw[hn,Bool.false_and] at h;cases h)];exact z22 hQ))
def Itl (K:z01)(a:Addr):It:=
 ⟨fun i H=>∃xs x,SqL K H a xs/\xs[i]? = some x,fun i H x H'=>H'=H/\∀xs,SqL K H a xs->xs[i]? = some x,fun i H=>∃xs,SqL K H a xs/\xs.length<=i⟩
def Itt (K:z01)(a:Addr):It:=
 ⟨fun i H=>∃xs x,SqT K H a xs/\xs[i]? = some x,fun i H x H'=>H'=H/\∀xs,SqT K H a xs->xs[i]? = some x,fun i H=>∃xs,SqT K H a xs/\xs.length<=i⟩
def Itr (lo:Int)(n:Nat):It:=⟨fun i _=>i<n,fun i H x H'=>H'=H/\x=.int (lo+i),fun i _=>n<=i⟩
theorem turn_list {P:Program}{w:World}{K:z01}{tg:Expr}(a it:Addr):Turn P w K tg (Itl K a) [it] it (fun i h=>h.IsListIter it a i) where
 mem:=by simp
 obj:=fun i h st b hb=>by
  have e:b=it:=by simpa using hb
  subst e
  obtain⟨o,e,c,d⟩:=st
  exact⟨o,e,fun v z=>by rw[d] at z;cases z⟩
 keep:=fun i h h' st k=>st.at fun o e=>k it @9 o e
 item:=by
  intro X hP hw hK hc i pins s σ H E I hf st hg
  subst hP hw hK
  obtain⟨xs,x,hq,hx⟩:=hg
  obtain⟨its,rv,p,hz⟩:=I.list hq
  obtain⟨u,hu,ru⟩:=rv.get hx
  obtain⟨f0,f1,f2,f3,f4,f5⟩:=hf it @9
  refine wpAny_pyNext_list_item st p.isList (x:=u) (by simpa using hu) fun h' st' sb=>?_
  have I1:Inv X pins σ H { s with heap:=h' }:=I.turned (t':=s.toks) (fun b o hb e=>(sb.2 b hb).trans e) f0 f1 f3 f4 f5
  obtain⟨o,e,c,d⟩:=id st'
  exact⟨u,rfl,go_of (s:={ s with heap:=h' }) e c d @3 ⟨x,H,I1,ru,⟨rfl,fun ys hy=>by rw[I.list_inj hy hq];exact hx⟩,st',fun b hb=>(hf b hb).1⟩⟩
 done:=by
  intro X hP hw hK hc i pins s σ H E I hf st hg
  subst hP hw hK
  obtain⟨xs,hq,hx⟩:=hg
  obtain⟨its,rv,p,hz⟩:=I.list hq
  obtain⟨f0,f1,f2,f3,f4,f5⟩:=hf it @9
  have hl:=rv.length
  exact wpAny_pyNext_list_end (I.ok.hd hc) st p.isList (by simp;lia) fun h' eb=>⟨rfl,I.turned (t':=s.toks) (fun b o hb e=>eb b o hb e) f0 f1 f3 f4 f5⟩
 self:=fun _ _ _ _ _ st h=>wpAny_pyIter_listiter st h
theorem turn_tuple {P:Program}{w:World}{K:z01}{tg:Expr}(a it:Addr):Turn P w K tg (Itt K a) [it] it (fun i h=>h.IsTupleIter it a i) where
 mem:=by simp
 obj:=fun i h st b hb=>by
  have e:b=it:=by simpa using hb
  subst e
  obtain⟨o,e,c,d⟩:=st
  exact⟨o,e,fun v z=>by rw[d] at z;cases z⟩
 keep:=fun i h h' st k=>st.at fun o e=>k it @9 o e
 item:=by
  intro X hP hw hK hc i pins s σ H E I hf st hg
  subst hP hw hK
  obtain⟨xs,x,hq,hx⟩:=hg
  obtain⟨its,rv,p,hz⟩:=I.tuple hq
  obtain⟨u,hu,ru⟩:=rv.get hx
  obtain⟨f0,f1,f2,f3,f4,f5⟩:=hf it @9
  refine wpAny_pyNext_tuple_item st (show s.heap.IsTuple a its.toArray from p) (x:=u) (by simpa using hu) fun h' st' sb=>?_
  have I1:Inv X pins σ H { s with heap:=h' }:=I.turned (t':=s.toks) (fun b o hb e=>(sb.2 b hb).trans e) f0 f1 f3 f4 f5
  obtain⟨o,e,c,d⟩:=id st'
  exact⟨u,rfl,go_of (s:={ s with heap:=h' }) e c d @3 ⟨x,H,I1,ru,⟨rfl,fun ys hy=>by rw[I.tuple_inj hy hq];exact hx⟩,st',fun b hb=>(hf b hb).1⟩⟩
 done:=by
  intro X hP hw hK hc i pins s σ H E I hf st hg
  subst hP hw hK
  obtain⟨xs,hq,hx⟩:=hg
  obtain⟨its,rv,p,hz⟩:=I.tuple hq
  obtain⟨f0,f1,f2,f3,f4,f5⟩:=hf it @9
  have hl:=rv.length
  exact wpAny_pyNext_tuple_end (I.ok.hd hc) st (show s.heap.IsTuple a its.toArray from p) (by simp;lia) fun h' eb=>⟨rfl,I.turned (t':=s.toks) (fun b o hb e=>eb b o hb e) f0 f1 f3 f4 f5⟩
 self:=fun _ _ _ _ _ st h=>wpAny_pyIter_tupleiter st h
theorem turn_range {P:Program}{w:World}{K:z01}{tg:Expr}(it:Addr)(lo:Int)(n:Nat):Turn P w K tg (Itr lo n) [it] it (fun i h=>IsRangeIter h it (lo+(i:Nat) * 1) ((n:Int) - (i:Nat)) 1) where
 mem:=by simp
 obj:=fun i h st b hb=>by
  have e:b=it:=by simpa using hb
  subst e
  exact⟨_,st,fun v z=>by
   have z':Data.fields _=Data.cell v:=z
   cases z'⟩
 keep:=fun i h h' st k=>k it @9 _ st
 item:=by
  intro X hP hw hK hc i pins s σ H E I hf st hg
  subst hP hw hK
  obtain⟨f0,f1,f2,f3,f4,f5⟩:=hf it @9
  have W:=Walks.range (prog:=X.prog) (w:=X.w) (I.ok.hd hc) it lo 1 n
  refine W.item i s _ _ hg st fun v h' tk hv st' kk=>?_
  obtain⟨t,rfl⟩:=hv
  have I1:Inv X pins σ H { s with heap:=h',toks:=tk }:=I.turned (fun b o hb e=>kk b o (by simpa using hb) e) f0 f1 f3 f4 f5
  refine⟨_,rfl,go_of (s:={ s with heap:=h',toks:=tk }) (n := "range_iterator") st' rfl rfl @3 ⟨.int (lo+i),H,I1,⟨t,?_⟩,⟨rfl,rfl⟩,st',fun b hb=>(hf b hb).1⟩⟩
  rw[Int.mul_one]
 done:=by
  intro X hP hw hK hc i pins s σ H E I hf st hg
  subst hP hw hK
  obtain⟨f0,f1,f2,f3,f4,f5⟩:=hf it @9
  exact wpAny_pyNext_range_end (I.ok.hd hc) st (by have:n<=i:=hg;lia) fun h' eb=>⟨rfl,I.turned (t':=s.toks) (fun b o hb e=>eb b o hb e) f0 f1 f3 f4 f5⟩
 self:=fun _ _ _ _ _ st h=>wpAny_pyIter_rangeiter st h
section
variable {X:Cx}{tg:Expr}
theorem range_it {pins:List @12}{σ:St}{H:Hp}{s:Shared}{R:It->Hp->Prop}{E:Value->Shared->Prop}{lo hi:Int}{t u v:Tok}{tk:Nat}(I:Inv X pins σ H s)(h1 : -(2 ^ 62)<=lo)(h2:lo<2 ^ 62)(h3 : -(2 ^ 62)<=hi)(h4:hi<2 ^ 62)
  (q:R (Itr lo (hi - lo).toNat) H):wpAny @7 X.A (pyIter (.ref s.heap.objs.size)) (PIE X pins σ tg R) E { s with heap:=s.heap.push { cls:=.type "range",data:=.fields #[.int lo t,.int hi u,.int 1 v]},toks:=tk }:=by
 refine wpAny_pyIter_range (IsRange.new ..) (small_one h1 h2 h3 h4) ?_
 have I1:Inv X pins σ H { s with heap:=s.heap.push { cls:=.type "range",data:=.fields #[.int lo t,.int hi u,.int 1 v]},toks:=tk }:=I.kept fun b o e=>z06 _ e
 refine⟨(s.heap.push { cls:=.type "range",data:=.fields #[.int lo t,.int hi u,.int 1 v]}).objs.size,[(s.heap.push { cls:=.type "range",data:=.fields #[.int lo t,.int hi u,.int 1 v]}).objs.size],_,_,H,rfl,
  I1.kept (t':=tk) fun b o e=>z06 _ e,turn_range _ lo (hi - lo).toNat,?_,fun b hb=>?_,q⟩
 ·have e1:lo+((0:Nat):Int) * 1=lo:=by simp
  have e2:(((hi - lo).toNat:Nat):Int) - ((0:Nat):Int)=Builtin.Range.rangeSize lo hi 1:=by rw[rangeSize_one];split<;>lia
  show IsRangeIter _ _ (lo+((0:Nat):Int) * 1) ((((hi - lo).toNat:Nat):Int) - ((0:Nat):Int)) 1
  rw[e1,e2]
  exact z27 _ rfl
 ·have e:b=(s.heap.push { cls:=.type "range",data:=.fields #[.int lo t,.int hi u,.int 1 v]}).objs.size:=by simpa using hb
  subst e
  exact I1.fpOk (z32 _) (I1.hok.fresh (z32 _))
def iRng1 (ta:TA):TI:=fun σ H R=>ta σ H fun vs H1=>∃j:Int,vs=[.int j]/\-(2 ^ 62)<=j/\j<2 ^ 62/\R (Itr 0 j.toNat) H1
theorem pi_range1 {a:Expr}{ta:TA}{p pos:Pos}(hg:Gl X "range")(hm:X.mg "range" = none)(ha:PA X [a] ta)(hs:starEach [a] X.env=[(false,eval a X.env)]:=by rfl):PI X tg (.Call (.Name "range" p) [a] [] pos) (iRng1 ta):=by
 intro pins s σ H R I h
 refine Call_ (ld_blt I hg hm boot_range (zg1 (thn (ha pos pins s σ H _ I h) fun us s1 hz=>?_) hs rfl))
 obtain⟨vs,H1,I1,r1,q1⟩:=hz
 obtain⟨j,e,q1,q2,q⟩:=q1
 subst e
 cases r1 with
 |cons r rr=>
  cases rr
  obtain⟨t,rfl⟩:=r
  exact call_range_1 (range_it I1 @1 @1 q1 q2 (by simpa using q))
def tFor (wi:TI)(g:TG)(tb:TS):TS:=fun D σ H=>wi σ H fun J H1=>∃W:Nat->Nat->St->Hp->Prop,(∃m,W 0 m σ H1)/\∀i m σ H,W i m σ H->
 (J.stop i H/\D.nx σ H)\/(J.go i H/\∃N:St->Hp->Prop,(∀σ' H',N σ' H'->∃m',m' < m/\W (i+1) m' σ' H')/\∀x H',J.yld i H x H'->g x σ H' fun σ2 H2=>tb { D with nx:=N,ct:=N,bk:=D.nx } σ2 H2)
def pinsAt (fp:List Addr)(h:Heap):List @12:=fp.filterMap fun b=>(h.get? b).map fun o=>(b,o)
theorem mem_pinsAt {fp:List Addr}{h:Heap}{b:Addr}{o:Obj}(hb:b∈fp)(e:h.get? b=some o):(b,o)∈pinsAt fp h:=zo0.mpr ⟨b,hb,by rw[e];rfl⟩
theorem of_pinsAt {fp:List Addr}{h:Heap}{p:Addr×Obj}(hp:p∈pinsAt fp h):p.1∈fp/\h.get? p.1=some p.2:=by
 obtain⟨b,hb,e⟩:=zo0.mp hp
 cases q:h.get? b with
 |none=>rw[q] at e;cases e
 |some o=>
  rw[q] at e
  have e':(b,o)=p:=z35 e
  subst e'
  exact⟨hb,q⟩
theorem Inv.pinned {pins:List @12}{σ:St}{H:Hp}{s:Shared}{fp:List Addr}(I:Inv X pins σ H s)(hf:∀b∈fp,FpOk X pins H b)(ho:∀b∈fp,∃o,s.heap.get? b=some o/\∀v,o.data≠.cell v):Inv X (pins++pinsAt fp s.heap) σ H s:=
 I.pins_of fun p hp=>(z14.mp hp).elim (fun z=>I.pin p (z04 _ z)) fun z=>by
  obtain⟨hb,e⟩:=of_pinsAt z
  obtain⟨f0,f1,f2,_⟩:=hf p.1 hb
  obtain⟨o,e',d⟩:=ho p.1 hb
  rw[e] at e';cases e'
  exact⟨e,f0,f1,f2,d⟩
theorem Inv.unpinned {pins pl:List @12}{σ:St}{H:Hp}{s:Shared}(I:Inv X (pins++pl) σ H s):Inv X pins σ H s:=I.pins_of fun p hp=>I.pin p (z04 _ (z15 _ hp))
theorem ps_for {iter:Expr}{body:List Stmt}{wi:TI}{g:TG}{tb:TS}{pos:Pos}(hp:PassesOwn @7 X.A X.env X.xe)(hc:X.calm=true)(hi:PI X tg iter wi)(hg:PG X tg g)(hb:PSs X body tb)
  (hs:∀x,foldedSetIterable iter X.env x=pure x:=by intro _;rfl):PS X (.For tg iter body [] pos) (tFor wi g tb):=by
 intro pins s σ H D I h
 refine wpAny_For (thn (hi pins s σ H _ I h) fun v s1 h1=>thn h1 fun itv s2 h2=>?_) hs
 obtain⟨it,fp,tn,J,H2,e,I2,T,st2,f2,W,⟨m0,w0⟩,turn⟩:=h2
 subst e
 -- what stays true of the iterator's objects through the loop
 have stat:∀{H':Hp},(∀b∈fp,H' b=none)->∀b∈fp,FpOk X pins H' b:=fun hn b hb=>⟨hn b hb,(f2 b hb).2⟩
 refine codeAny_forLoop_any (fun n s'=>∃i σ' H',Inv X pins σ' H' s'/\tn i s'.heap/\(∀b∈fp,H' b=none)/\W i n σ' H') ?_ m0 ⟨0,σ,H2,I2,st2,fun b hb=>(f2 b hb).1,w0⟩
 rintro n s3 ⟨i,σ3,H3,I3,st3,fr3,w3⟩
 rcases turn i n σ3 H3 w3 with⟨stop,qn⟩|⟨go,N,hN,step⟩
 ·refine ze2 hp (thn (T.done X rfl rfl rfl hc i pins s3 σ3 H3 X.xe I3 (stat fr3) st3 stop) fun r s4 hz=>?_)
  obtain⟨hr,I4⟩:=hz
  subst hr
  exact zn2 ⟨σ3,H3,I4,qn⟩
 ·refine ze2 hp (thn (T.item X rfl rfl rfl hc i pins s3 σ3 H3 X.xe I3 (stat fr3) st3 go) fun r s4 hz=>?_)
  obtain⟨u,hr,h4⟩:=hz
  subst hr
  refine ze2 hp (thn h4 fun _ s5 hz=>?_)
  obtain⟨x,H5,I5,r5,y5,st5,fr5⟩:=hz
  have I5':=I5.pinned (stat fr5) (T.obj _ _ st5)
  refine ze2 hp (thn (hg _ s5 σ3 H5 x u _ I5' r5 (step x H5 y5)) fun _ s6 hz=>?_)
  obtain⟨σ6,H6,I6,q6⟩:=hz
  refine ze2 hp (thn (hb _ s6 σ6 H6 _ I6 q6) fun f s7 q7=>?_)
  have again:∀{σ7:St} {H7:Hp},Inv X (pins++pinsAt fp s5.heap) σ7 H7 s7->N σ7 H7->∃m,m<n/\∃i σ' H',Inv X pins σ' H' s7/\tn i s7.heap/\(∀b∈fp,H' b=none)/\W i m σ' H':=fun{σ7 H7} I7 n7=>by
   obtain⟨m',hm,w7⟩:=hN σ7 H7 n7
   refine⟨m',hm,i+1,σ7,H7,I7.unpinned,T.keep _ _ _ st5 fun b hb o e=>(I7.pin (b,o) (z04 _ (z04 _ (mem_pinsAt hb e)))).1,fun b hb=>?_,w7⟩
   obtain⟨o,e,d⟩:=T.obj _ _ st5 b hb
   exact(I7.pin (b,o) (z04 _ (z04 _ (mem_pinsAt hb e)))).2.1
  cases f with
  |next=>obtain⟨σ7,H7,I7,n7⟩:=q7;exact again I7 n7
  |cont=>obtain⟨σ7,H7,I7,n7⟩:=q7;exact again I7 n7
  |brk=>obtain⟨σ7,H7,I7,q7⟩:=q7;exact⟨σ7,H7,I7.unpinned,q7⟩
  |ret v=>obtain⟨x7,σ7,H7,I7,r7,q7⟩:=q7;exact⟨x7,σ7,H7,I7.unpinned,r7,q7⟩
end
abbrev R2:=V->V->Hp->VK->Prop
def OpR (X:Cx)(f:Value->Value->Sem Value)(r:R2):Prop:=
 ∀(pins:List @12) (s:Shared) (σ:St) (H:Hp) (x y:V) (v u:Value) (Q:VK),Inv X pins σ H s->RelV x v->RelV y u->r x y H Q->
  wpAny @7 X.A (f v u) (EP X pins σ Q) X.xe s
def UnR (X:Cx)(f:Value->Sem Value)(r:V->Hp->VK->Prop):Prop:=
 ∀(pins:List @12) (s:Shared) (σ:St) (H:Hp) (x:V) (v:Value) (Q:VK),Inv X pins σ H s->RelV x v->r x H Q->
  wpAny @7 X.A (f v) (EP X pins σ Q) X.xe s
def CallR (X:Cx)(f:Value)(r:List V->Hp->VK->Prop):Prop:=
 ∀(pins:List @12) (s:Shared) (σ:St) (H:Hp) (xs:List V) (us:List Value) (Q:VK),Inv X pins σ H s->Vals xs us->r xs H Q->
  wpAny @7 X.A (call f us) (EP X pins σ Q) X.xe s
def tOp (r:R2)(ta tb:TE):TE:=fun σ H Q=>ta σ H fun x H1=>tb σ H1 fun y H2=>r x y H2 Q
def tUn (r:V->Hp->VK->Prop)(ta:TE):TE:=fun σ H Q=>ta σ H fun x H1=>r x H1 Q
def rI (C:Int->Int->Prop)(g:Int->Int->V):R2:=fun x y H Q=>∃i j,x=.int i/\y=.int j/\C i j/\Q (g i j) H
def rI0 (g:Int->Int->V):R2:=fun x y H Q=>∃i j,x=.int i/\y=.int j/\Q (g i j) H
def rU (g:Int->V):V->Hp->VK->Prop:=fun x H Q=>∃i,x=.int i/\Q (g i) H
section
variable {X:Cx}{a b:Expr}{ta tb:TE}{pos:Pos}
theorem binT (ha:PE X a ta)(hb:PE X b tb){pins:List @12}{s:Shared}{σ:St}{H:Hp}{R:V->V->Hp->Prop}(I:Inv X pins σ H s)
  (h:ta σ H fun x H1=>tb σ H1 fun y H2=>R x y H2) {Q:Value->Shared->Prop} {f:Value->Value->Sem Value}
  (hf:∀v u s2 x y H2,Inv X pins σ H2 s2->RelV x v->RelV y u->R x y H2->wpAny @7 X.A (f v u) Q X.xe s2) :
  wpAny @7 X.A (eval a X.env) (fun v s₁=>wpAny @7 X.A (eval b X.env) (fun u s₂=>wpAny @7 X.A (f v u) Q X.xe s₂) X.xe s₁) X.xe s:=by
 refine thn (ha pins s σ H _ I h) fun v s1 hz=>?_
 obtain⟨x,H1,I1,r1,q1⟩:=hz
 refine thn (hb pins s1 σ H1 _ I1 q1) fun u s2 hz=>?_
 obtain⟨y,H2,I2,r2,q2⟩:=hz
 exact hf v u s2 x y H2 I2 r1 r2 q2
theorem pe_op {op:Operator}{r:R2}(ho:OpR X (binaryOp op) r)(ha:PE X a ta)(hb:PE X b tb):PE X (.BinOp a op b pos) (tOp r ta tb):=by
 intro pins s σ H Q I h
 exact wpAny_BinOp (binT ha hb I h fun v u s2 x y H2 I2 rx ry q=>ho pins s2 σ H2 x y v u Q I2 rx ry q)
theorem pe_un {op:UnaryOp}{r:V->Hp->VK->Prop}(ho:UnR X (unaryOp op) r)(ha:PE X a ta):PE X (.UnaryOp op a pos) (tUn r ta):=by
 intro pins s σ H Q I h
 exact UnaryOp_ (thn (ha pins s σ H _ I h) fun v s1 ⟨x,H1,I1,r1,q1⟩=>ho pins s1 σ H1 x v Q I1 r1 q1)
theorem opI {f:Value->Value->Sem Value}{C:Int->Int->Prop}{g:Int->Int->Int}
  (rule:∀(i j:Int) (t u:Tok) (s:Shared) (Q:Value->Shared->Prop) (E:Value->Shared->Prop),C i j->Q (.int (g i j) s.toks) { s with toks:=s.toks+1 }->wpAny @7 X.A (f (.int i t) (.int j u)) Q E s) :
  OpR X f (rI C fun i j=>.int (g i j)):=by
 intro pins s σ H x y v u Q I rx ry h
 obtain⟨i,j,rfl,rfl,hc,q⟩:=h
 obtain⟨t,rfl⟩:=rx
 obtain⟨t',rfl⟩:=ry
 exact rule i j t t' s _ _ hc ⟨.int (g i j),H,I.tok _,⟨_,rfl⟩,q⟩
theorem opI0 {f:Value->Value->Sem Value}{g:Int->Int->Int}
  (rule:∀(i j:Int) (t u:Tok) (s:Shared) (Q:Value->Shared->Prop) (E:Value->Shared->Prop),Q (.int (g i j) s.toks) { s with toks:=s.toks+1 }->wpAny @7 X.A (f (.int i t) (.int j u)) Q E s) :
  OpR X f (rI0 fun i j=>.int (g i j)):=by
 intro pins s σ H x y v u Q I rx ry h
 obtain⟨i,j,rfl,rfl,q⟩:=h
 obtain⟨t,rfl⟩:=rx
 obtain⟨t',rfl⟩:=ry
 exact rule i j t t' s _ _ ⟨.int (g i j),H,I.tok _,⟨_,rfl⟩,q⟩
theorem opB0 {f:Value->Value->Sem Value}{g:Int->Int->Bool}
  (rule:∀(i j:Int) (t u:Tok) (s:Shared) (Q:Value->Shared->Prop) (E:Value->Shared->Prop),Q (.bool (g i j)) s->wpAny @7 X.A (f (.int i t) (.int j u)) Q E s) :
  OpR X f (rI0 fun i j=>.bl (g i j)):=by
 intro pins s σ H x y v u Q I rx ry h
 obtain⟨i,j,rfl,rfl,q⟩:=h
 obtain⟨t,rfl⟩:=rx
 obtain⟨t',rfl⟩:=ry
 exact rule i j t t' s _ _ ⟨.bl (g i j),H,I,rfl,q⟩
def CPow (i j:Int):Prop:=0<=j/\j<=1000000/\i.natAbs<2 ^ 64
def CMul (i j:Int):Prop:=(-(2 ^ 64)<i/\i<2 ^ 64)\/(-(2 ^ 64)<j/\j<2 ^ 64)
theorem CMul.ok {i j:Int}(h:CMul i j):IntMulOk i j:=by
 rcases h with⟨h1,h2⟩|⟨h1,h2⟩
 ·exact .of_left (intBits_le_64 h1 h2)
 ·exact .of_right (intBits_le_64 h1 h2)
theorem op_add:OpR X (binaryOp .Add) (rI0 fun i j=>.int (i+j)):=opI0 fun _ _ _ _ _ _ _ q=>add_int q
theorem op_sub:OpR X (binaryOp .Sub) (rI0 fun i j=>.int (i - j)):=opI0 fun _ _ _ _ _ _ _ q=>sub_int q
theorem op_mul:OpR X (binaryOp .Mult) (rI CMul fun i j=>.int (i * j)):=opI fun _ _ _ _ _ _ _ hc q=>mul_int q hc.ok
theorem op_mod:OpR X (binaryOp .Mod) (rI (fun _ j=>0<j) fun i j=>.int (i % j)):=opI fun i j _ _ _ _ _ hc q=>by
 have h1:(0:Int)<j:=hc
 exact mod_int' @1 (by rw[Int.fmod_eq_emod_of_nonneg i @1];exact q)
theorem op_pow:OpR X (binaryOp .Pow) (rI CPow fun i j=>.int (i ^ j.toNat)):=opI fun _ _ _ _ _ _ _ hc q=>pow_int_small hc.1 hc.2.1 hc.2.2 q
theorem unI {f:Value->Sem Value}{g:Int->Int}
  (rule:∀(i:Int) (t:Tok) (s:Shared) (Q:Value->Shared->Prop) (E:Value->Shared->Prop),Q (.int (g i) s.toks) { s with toks:=s.toks+1 }->wpAny @7 X.A (f (.int i t)) Q E s) :
  UnR X f (rU fun i=>.int (g i)):=by
 intro pins s σ H x v Q I rx h
 obtain⟨i,rfl,q⟩:=h
 obtain⟨t,rfl⟩:=rx
 exact rule i t s _ _ ⟨.int (g i),H,I.tok _,⟨_,rfl⟩,q⟩
theorem un_neg:UnR X (unaryOp .USub) (rU fun i=>.int (-i)):=unI fun _ _ _ _ _ q=>neg_int q
end
def scal:V->V->Bool
 |.non,.non=>true|.non,.int _=>true|.int _,.non=>true|.non,.bl _=>true|.bl _,.non=>true|.non,.str _=>true|.str _,.non=>true
 |.int _,.int _=>true|.bl _,.bl _=>true|.str _,.str _=>true|.byt _,.byt _=>true
 |.int _,.str _=>true|.str _,.int _=>true|.bl _,.str _=>true|.str _,.bl _=>true
 |_,_=>false
def rEq:R2:=fun x y H Q=>scal x y=true/\Q (.bl (decide (x=y))) H
def rNe:R2:=fun x y H Q=>scal x y=true/\Q (.bl (!decide (x=y))) H
theorem dec_int {i j:Int}:decide (V.int i=V.int j)=(i == j):=by
 rw[zh7]
 simp
theorem dec_bl {i j:Bool}:decide (V.bl i=V.bl j)=(i == j):=by
 rw[zh7]
 simp
theorem dec_str {i j:Str}:decide (V.str i=V.str j)=(i == j):=by
 rw[zh7]
 simp
theorem dec_byt {i j:Array UInt8}:decide (V.byt i=V.byt j)=(i.toList == j.toList):=by
 rw[zh7]
 cases i
 cases j
 simp
section
variable {X:Cx}{a b c:Expr}{ta tb tc:TE}{pos:Pos}
theorem fin_bl {pins:List @12}{σ:St}{H:Hp}{s:Shared}{Q:VK}{k k':Bool}(I:Inv X pins σ H s)(q:Q (.bl k) H)(e:k=k'):EP X pins σ Q (.bool k') s:=by
 subst e
 exact⟨.bl k,H,I,rfl,q⟩
theorem op_eq:OpR X (compareOp .Eq) rEq:=by
 intro pins s σ H x y v u Q I rx ry h
 obtain⟨hs,q⟩:=h
 cases x with
 |non=>
  cases rx
  cases y with
  |non=>cases ry;exact PySem.EqNone.eq_none_none (fin_bl I q @9)
  |bl j=>cases ry;exact PySem.EqNone.eq_none_bool (fin_bl I q @9)
  |int j=>obtain⟨t',rfl⟩:=ry;exact PySem.EqNone.eq_none_int (fin_bl I q @9)
  |str j=>obtain⟨t',rfl⟩:=ry;exact PySem.EqNone.eq_none_str (fin_bl I q @9)
  |_=>exact absurd (show false=true from hs) z36
 |bl i=>
  cases rx
  cases y with
  |non=>cases ry;exact PySem.EqNone.eq_bool_none (fin_bl I q @9)
  |bl j=>cases ry;exact eq_bool (fin_bl I q dec_bl)
  |str j=>obtain⟨t',rfl⟩:=ry;exact PySem.EqMixed.eq_bool_str (fin_bl I q @9)
  |_=>exact absurd (show false=true from hs) z36
 |int i=>
  obtain⟨t,rfl⟩:=rx
  cases y with
  |non=>cases ry;exact PySem.EqNone.eq_int_none (fin_bl I q @9)
  |int j=>obtain⟨t',rfl⟩:=ry;exact eq_int (fin_bl I q dec_int)
  |str j=>obtain⟨t',rfl⟩:=ry;exact PySem.EqMixed.eq_int_str (fin_bl I q @9)
  |_=>exact absurd (show false=true from hs) z36
 |str i=>
  obtain⟨t,rfl⟩:=rx
  cases y with
  |non=>cases ry;exact PySem.EqNone.eq_str_none (fin_bl I q @9)
  |bl j=>cases ry;exact PySem.EqMixed.eq_str_bool (fin_bl I q @9)
  |int j=>obtain⟨t',rfl⟩:=ry;exact PySem.EqMixed.eq_str_int (fin_bl I q @9)
  |str j=>obtain⟨t',rfl⟩:=ry;exact eq_str (fin_bl I q dec_str)
  |_=>exact absurd (show false=true from hs) z36
 |byt i=>
  obtain⟨t,rfl⟩:=rx
  cases y with
  |byt j=>obtain⟨t',rfl⟩:=ry;exact PySem.W.eq_bytes (fin_bl I q dec_byt)
  |_=>exact absurd (show false=true from hs) z36
 |_=>cases y<;>exact absurd (show false=true from hs) z36
theorem op_ne:OpR X (compareOp .NotEq) rNe:=by
 intro pins s σ H x y v u Q I rx ry h
 obtain⟨hs,q⟩:=h
 cases x with
 |non=>
  cases rx
  cases y with
  |non=>cases ry;exact PySem.EqNone.ne_none_none (fin_bl I q @9)
  |bl j=>cases ry;exact PySem.EqNone.ne_none_bool (fin_bl I q @9)
  |int j=>obtain⟨t',rfl⟩:=ry;exact PySem.EqNone.ne_none_int (fin_bl I q @9)
  |str j=>obtain⟨t',rfl⟩:=ry;exact PySem.EqNone.ne_none_str (fin_bl I q @9)
  |_=>exact absurd (show false=true from hs) z36
 |bl i=>
  cases rx
  cases y with
  |non=>cases ry;exact PySem.EqNone.ne_bool_none (fin_bl I q @9)
  |bl j=>cases ry;exact ne_bool (fin_bl I q (congrArg not dec_bl))
  |str j=>obtain⟨t',rfl⟩:=ry;exact PySem.EqMixed.ne_bool_str (fin_bl I q @9)
  |_=>exact absurd (show false=true from hs) z36
 |int i=>
  obtain⟨t,rfl⟩:=rx
  cases y with
  |non=>cases ry;exact PySem.EqNone.ne_int_none (fin_bl I q @9)
  |int j=>obtain⟨t',rfl⟩:=ry;exact ne_int (fin_bl I q (congrArg not dec_int))
  |str j=>obtain⟨t',rfl⟩:=ry;exact PySem.EqMixed.ne_int_str (fin_bl I q @9)
  |_=>exact absurd (show false=true from hs) z36
 |str i=>
  obtain⟨t,rfl⟩:=rx
  cases y with
  |non=>cases ry;exact PySem.EqNone.ne_str_none (fin_bl I q @9)
  |bl j=>cases ry;exact PySem.EqMixed.ne_str_bool (fin_bl I q @9)
  |int j=>obtain⟨t',rfl⟩:=ry;exact PySem.EqMixed.ne_str_int (fin_bl I q @9)
  |str j=>obtain⟨t',rfl⟩:=ry;exact ne_str (fin_bl I q (congrArg not dec_str))
  |_=>exact absurd (show false=true from hs) z36
 |byt i=>
  obtain⟨t,rfl⟩:=rx
  cases y with
  |byt j=>obtain⟨t',rfl⟩:=ry;exact PySem.W.ne_bytes (fin_bl I q (congrArg not dec_byt))
  |_=>exact absurd (show false=true from hs) z36
 |_=>cases y<;>exact absurd (show false=true from hs) z36
theorem op_lt:OpR X (compareOp .Lt) (rI0 fun i j=>.bl (decide (i<j))):=opB0 fun _ _ _ _ _ _ _ q=>lt_int q
theorem op_le:OpR X (compareOp .LtE) (rI0 fun i j=>.bl (decide (i<=j))):=opB0 fun _ _ _ _ _ _ _ q=>le_int q
theorem op_gt:OpR X (compareOp .Gt) (rI0 fun i j=>.bl (decide (j<i))):=opB0 fun _ _ _ _ _ _ _ q=>gt_int q
theorem op_ge:OpR X (compareOp .GtE) (rI0 fun i j=>.bl (decide (j<=i))):=opB0 fun _ _ _ _ _ _ _ q=>ge_int q
theorem op_in_str:OpR X (compareOp .In) (fun x y H Q=>∃i j,x=.str i/\y=.str j/\Q (.bl (!(z77 j i 0 j.length 1).isEmpty)) H):=by
 intro pins s σ H x y v u Q I rx ry h
 obtain⟨i,j,rfl,rfl,q⟩:=h
 obtain⟨t,rfl⟩:=rx
 obtain⟨t',rfl⟩:=ry
 exact in_str (fin_bl I q rfl)
theorem op_isN:OpR X (compareOp .Is) (fun x y H Q=>y=.non/\Q (.bl (decide (x=.non))) H):=by
 intro pins s σ H x y v u Q I rx ry h
 obtain⟨rfl,q⟩:=h
 cases ry
 refine is_none_gen (fin_bl I q ?_)
 cases x<;>first
  |(cases rx;rfl)
  |(obtain⟨t,rfl⟩:=rx;rfl)
theorem nomark (b:Expr){op:CmpOp}(h:op≠.In:=by decide)(h2:op≠.NotIn:=by decide):behindInMarks op b=false:=by
 have e1:(op == CmpOp.In)=false:=by cases op<;>first|rfl|exact absurd rfl h
 have e2:(op == CmpOp.NotIn)=false:=by cases op<;>first|rfl|exact absurd rfl h2
 cases b<;>simp[behindInMarks,e1,e2]
theorem pe_cmpR {op:CmpOp}{r:R2}(ho:OpR X (compareOp op) r)(ha:PE X a ta)(hb:PE X b tb)(hm:behindInMarks op b=false):PE X (.Compare a [op] [b] pos) (tOp r ta tb):=by
 intro pins s σ H Q I h
 exact wpAny_Compare1 (binT ha hb I h fun v u s2 x y H2 I2 rx ry q=>ho pins s2 σ H2 x y v u Q I2 rx ry q) hm
def tTest (t:TE):TT:=fun σ H Q=>t σ H fun x H'=>∃k,x=.bl k/\Q k H'
theorem pt_cmpR {op:CmpOp}{r:R2}(ho:OpR X (compareOp op) r)(ha:PE X a ta)(hb:PE X b tb)(hm:behindInMarks op b=false):PT X (.Compare a [op] [b] pos) (tTest (tOp r ta tb)):=by
 intro pins s σ H Q I h
 refine wpAny_isTrue_Compare1 (thn (ha pins s σ H _ I h) fun v s1 hz=>?_) hm
 obtain⟨x,H1,I1,r1,q1⟩:=hz
 refine thn (hb pins s1 σ H1 _ I1 q1) fun u s2 hz=>?_
 obtain⟨y,H2,I2,r2,q2⟩:=hz
 refine thn (ho pins s2 σ H2 x y v u _ I2 r1 r2 q2) fun c s3 hz=>?_
 obtain⟨z,H3,I3,r3,k,e,q3⟩:=hz
 subst e
 cases r3
 exact z95 ⟨H3,I3,q3⟩
def tChain (r r':R2)(ta tb tc:TE):TE:=fun σ H Q=>ta σ H fun x H1=>tb σ H1 fun y H2=>r x y H2 fun z H3=>∃k,z=.bl k/\
 (if k=true then tc σ H3 fun w' H4=>r' y w' H4 Q else Q (.bl false) H3)
theorem pe_chain {op op':CmpOp}{r r':R2}(ho:OpR X (compareOp op) r)(ho':OpR X (compareOp op') r')(ha:PE X a ta)(hb:PE X b tb)(hc:PE X c tc)
  (hm:lastMarks [op,op'] [b,c]=false:=by with_unfolding_all rfl):PE X (.Compare a [op,op'] [b,c] pos) (tChain r r' ta tb tc):=by
 intro pins s σ H Q I h
 refine Compare_chain (thn (ha pins s σ H _ I h) fun v s1 hz=>?_) hm
 obtain⟨x,H1,I1,r1,q1⟩:=hz
 refine chain_link (thn (hb pins s1 σ H1 _ I1 q1) fun u s2 hz=>?_)
 obtain⟨y,H2,I2,r2,q2⟩:=hz
 refine thn (ho pins s2 σ H2 x y v u _ I2 r1 r2 q2) fun d s3 hz=>?_
 obtain⟨z,H3,I3,r3,k,e,q3⟩:=hz
 subst e
 cases r3
 refine z95 ?_
 cases k with
 |false=>exact ite_ff ⟨.bl false,H3,I3,rfl,q3⟩
 |true=>exact ite_tt (chain_last (thn (hc pins s3 σ H3 _ I3 q3) fun w' s4 ⟨z',H4,I4,r4,q4⟩=>ho' pins s4 σ H4 y z' u w' Q I4 r2 r4 q4))
theorem pt_chain {op op':CmpOp}{r r':R2}(ho:OpR X (compareOp op) r)(ho':OpR X (compareOp op') r')(ha:PE X a ta)(hb:PE X b tb)(hc:PE X c tc)
  (hm:lastMarks [op,op'] [b,c]=false:=by with_unfolding_all rfl):PT X (.Compare a [op,op'] [b,c] pos) (tTest (tChain r r' ta tb tc)):=by
 intro pins s σ H Q I h
 refine isTrue_chain (thn (ha pins s σ H _ I h) fun v s1 hz=>?_) hm
 obtain⟨x,H1,I1,r1,q1⟩:=hz
 refine test_link (thn (hb pins s1 σ H1 _ I1 q1) fun u s2 hz=>?_)
 obtain⟨y,H2,I2,r2,q2⟩:=hz
 refine thn (ho pins s2 σ H2 x y v u _ I2 r1 r2 q2) fun d s3 hz=>?_
 obtain⟨z,H3,I3,r3,k,e,q3⟩:=hz
 subst e
 cases r3
 refine z95 ?_
 cases k with
 |false=>
  obtain⟨k',e',q'⟩:=q3
  cases e'
  exact ite_ff ⟨H3,I3,q'⟩
 |true=>
  refine ite_tt (test_last (thn (hc pins s3 σ H3 _ I3 q3) fun w' s4 hz=>?_))
  obtain⟨z',H4,I4,r4,q4⟩:=hz
  refine thn (ho' pins s4 σ H4 y z' u w' _ I4 r2 r4 q4) fun d' s5 hz=>?_
  obtain⟨z2,H5,I5,r5,k2,e2,q5⟩:=hz
  subst e2
  cases r5
  exact z95 ⟨H5,I5,q5⟩
theorem line63:(z18:Nat)<2 ^ 63:=by rw[z34];decide
theorem vals1 {x:V}{us:List Value}(r:Vals [x] us):∃u,us=[u]/\RelV x u:=by
 cases r with
 |cons r1 r2=>cases r2;exact⟨_,rfl,r1⟩
theorem vals2 {x y:V}{us:List Value}(r:Vals [x,y] us):∃u w',us=[u,w']/\RelV x u/\RelV y w':=by
 cases r with
 |cons r1 r2=>
  cases r2 with
  |cons r3 r4=>cases r4;exact⟨_,_,rfl,r1,r3⟩
theorem call_max2 (hc:X.calm=true):CallR X (.builtin "max") (fun xs H Q=>∃i j,xs=[.int i,.int j]/\Q (.int (if j > i then j else i)) H):=by
 intro pins s σ H xs us Q I r h
 obtain⟨i,j,rfl,q⟩:=h
 obtain⟨u,w',rfl,⟨t,rfl⟩,⟨t',rfl⟩⟩:=vals2 r
 refine max_two_ints (I.ok.hd hc) fun h' tk k=>⟨_,H,I.kept k,?_,q⟩
 by_cases hj:j > i
 ·rw[if_pos hj,if_pos hj];exact⟨_,rfl⟩
 ·rw[if_neg hj,if_neg hj];exact⟨_,rfl⟩
theorem call_min2 (hc:X.calm=true):CallR X (.builtin "min") (fun xs H Q=>∃i j,xs=[.int i,.int j]/\Q (.int (if j<i then j else i)) H):=by
 intro pins s σ H xs us Q I r h
 obtain⟨i,j,rfl,q⟩:=h
 obtain⟨u,w',rfl,⟨t,rfl⟩,⟨t',rfl⟩⟩:=vals2 r
 refine min_two_ints (I.ok.hd hc) fun h' tk k=>⟨_,H,I.kept k,?_,q⟩
 by_cases hj:j<i
 ·rw[if_pos hj,if_pos hj];exact⟨_,rfl⟩
 ·rw[if_neg hj,if_neg hj];exact⟨_,rfl⟩
theorem call_int1:CallR X (.type "int") (fun xs H Q=>(∃i,xs=[.int i]/\Q (.int i) H)\/∃k,xs=[.bl k]/\Q (.int (if k then 1 else 0)) H):=by
 intro pins s σ H xs us Q I r h
 rcases h with⟨i,rfl,q⟩|⟨k,rfl,q⟩
 ·obtain⟨u,rfl,t,rfl⟩:=vals1 r
  exact call_int_int ⟨.int i,H,I,⟨_,rfl⟩,q⟩
 ·obtain⟨u,rfl,r1⟩:=vals1 r
  cases r1
  exact call_int_bool ⟨.int (if k then 1 else 0),H,I.tok _,⟨_,rfl⟩,q⟩
theorem call_str_int:CallR X (.type "str") (fun xs H Q=>∃i,xs=[.int i]/\i.natAbs.log2<1920/\Q (.str (toString i)) H):=by
 intro pins s σ H xs us Q I r h
 obtain⟨i,rfl,hz,q⟩:=h
 obtain⟨u,rfl,t,rfl⟩:=vals1 r
 exact PySem.P.str_of_int hz ⟨.str _,H,I.tok _,⟨_,rfl⟩,q⟩
def LenV (K:z01)(x:V)(H:Hp)(n:Nat):Prop:=
 match x with
 |.str y=>y.length<=z18/\n=y.length
 |.byt y=>y.size<=z18/\n=y.size
 |.ref p=>(∃xs,SqL K H p xs/\n=xs.length)\/∃xs,SqT K H p xs/\n=xs.length
 |_=>False
theorem call_len:CallR X (.builtin "len") (fun xs H Q=>∃x n,xs=[x]/\LenV X.K x H n/\Q (.int n) H):=by
 intro pins s σ H xs us Q I r h
 obtain⟨x,n,rfl,e,q⟩:=h
 obtain⟨u,rfl,rx⟩:=vals1 r
 have hl:=line63
 have hs:z18=16777216:=z34
 cases x with
 |str y=>
  obtain⟨t,rfl⟩:=rx
  obtain⟨hy,e'⟩:y.length<=z18/\n=y.length:=e
  subst e'
  exact len_str @1 ⟨.int _,H,I.tok _,⟨_,rfl⟩,q⟩
 |byt y=>
  obtain⟨t,rfl⟩:=rx
  obtain⟨hy,e'⟩:y.size<=z18/\n=y.size:=e
  subst e'
  exact PySem.W.len_bytes @1 ⟨.int _,H,I.tok _,⟨_,rfl⟩,q⟩
 |ref p=>
  cases rx
  have e':(∃xs,SqL X.K H p xs/\n=xs.length)\/∃xs,SqT X.K H p xs/\n=xs.length:=e
  rcases e' with⟨xs,hx,e'⟩|⟨xs,hx,e'⟩
  ·subst e'
   obtain⟨its,r',pl,hz⟩:=I.list hx
   have hlen:=r'.length
   exact Calls.call_len_list pl.isList (by simp only[z16];lia) ⟨.int xs.length,H,I.tok _,⟨_,by simp only[z16];rw[hlen]⟩,q⟩
  ·subst e'
   obtain⟨its,r',pl,hz⟩:=I.tuple hx
   have hlen:=r'.length
   exact len_tuple pl (by simp only[z16];lia) ⟨.int xs.length,H,I.tok _,⟨_,by simp only[z16];rw[hlen]⟩,q⟩
 |_=>exact(show False from e).elim
end
structure ObjM (h:Heap)(x dx C:Addr)(mA:Str->Option Value):Prop where
 obj:h.get? x=some (zb5 C dx)
 ns:h.Ns1 dx mA
 ne:dx≠x
theorem lookIn_ns {h:Heap}{dx:Addr}{mA:Str->Option Value}(n:h.Ns1 dx mA):∃od,h.get? dx=some od/\∀name,zk5 name od=some (mA name):=by
 obtain⟨o,es,ep,ho,hd,hk,_,hm⟩:=n
 refine⟨o,ho,fun name=>?_⟩
 have e:=hm name
 unfold nsFind findBy at e
 rw[← Array.find?_toList] at e
 unfold zk5
 rw[hd]
 dsimp only
 split
 ·rename_i y q
  rw[q] at e
  exact congrArg some e
 ·rename_i q
  rw[q] at e
  have a:es.toList.any (·.refKey)=false:=by
   rw[zy9]
   intro y hy
   obtain⟨z,t,hkey⟩:=hk y (Array.mem_toList_iff.mp hy)
   simp[DictEntry.refKey,hkey]
  have a':¬ es.toList.any (·.refKey)=true:=by rw[a];exact z36
  rw[if_neg a']
  exact congrArg some e
theorem ObjM.look {h:Heap}{x dx C:Addr}{mA:Str->Option Value}(I:ObjM h x dx C mA):∃od,PySem.W.InstAt h x (zb5 C dx) C (some od)/\∀name,zk5 name od=some (mA name):=
 let ⟨od,ho,hl⟩:=lookIn_ns I.ns
 ⟨od,⟨I.obj,rfl,rfl,ho⟩,hl⟩
section
variable {prog:Program}{w:World}{A:Around}{E:Value->Shared->Prop}{s:Shared}{K:z01}{x dx C f:Addr}{mA:Str->Option Value}{name:Str}{v:Value}
theorem get_map {expr:Bool}{Q:Value->Shared->Prop}(X:K.In s.heap)(I:ObjM s.heap x dx C mA)(hg:zg4 K C name=true)(hh:zi1 K C=true)
  (ha:z48 K (.ref C) name=some none) (hv:mA name=some v) (hv':zw3 v=true) (h:Q v { s with toks:=s.toks+1 }) :
  wpAny @11 A (getAttr (.ref x) name expr) Q E s:=by
 obtain⟨od,J,hl⟩:=I.look
 exact PySem.W.get_value X J (zl3 hg).1 (PySem.W.findObj_own hh ha rfl (by rw[hl,hv])) hv' h
theorem get_meth {pl:Sem Bool}{Q:Value×List Value->Shared->Prop}(X:K.In s.heap)(I:ObjM s.heap x dx C mA)(hg:zg4 K C name=true)
  (hf:z48 K (.ref C) name=some (some (.ref f))) (ht:z81 K (.ref f)=true) (hv:mA name=none) (h:Q (.ref f,[.ref x]) s) :
  wpAny @11 A (getMethod (.ref x) name pl) Q E s:=by
 obtain⟨od,J,hl⟩:=I.look
 exact PySem.W.method_fn X J (zl3 hg).1 (zl3 hg).2 hf (beq_iff_eq.mp ht) (by show(zk5 name od).map (·.isSome)=some false;rw[hl,hv];rfl) h
theorem set_map {ns:List Str}{Q:Unit->Shared->Prop}(X:K.In s.heap)(I:ObjM s.heap x dx C mA)
  (hs:z48 K (.ref C) "__setattr__" = some (some (.builtin "object.__setattr__"))) (hp:zn6 K C=true) (ht:zo8 K C name=some none) (hh:zi1 K C=true)
  (hw:zt9 mA ns) (hsz:ns.length<=z18)
  (h:∀h',ObjM h' x dx C (fun y=>if y=name then some v else mA y)->zb0 dx s.heap h'->Q () { s with heap:=h',toks:=s.toks+2 }) :
  wpAny @11 A (setAttr (.ref x) name v) Q E s:=by
 obtain⟨od,J,hl⟩:=I.look
 refine PySem.W.set_plain X J hs (PySem.W.osa_open (s:={ s with toks:=s.toks+1 }) (r:=none) X J hp ht fun b=>?_)
 obtain⟨cd,hc,hd'⟩:=PySem.W.any_some hh
 have hx:s.heap.get? x=some ⟨.ref C,some dx,.plain,#[]⟩:=I.obj
 refine z02 (z22 (z02 (z02 (wpAny_loadPart hx (z02 (PySem.W.Looks.here (s:={ s with toks:=s.toks+1 }) (PySem.W.looks_clsIn X hc) ?_))))))
 rw[hd']
 refine z22 (a:=some dx) (z02 (z22 (z02 ?_)))
 refine wpAny_nsSet1 (s:={ s with toks:=s.toks+1 }) I.ns fun h' hn2 hs2=>?_
 obtain⟨oD,esD,epD,hoD,hdD,hcD⟩:=hn2.count (PySem.Within.cons name v hw)
 refine z02 (wpAny_lookBehind hoD (by rw[hdD];exact pastItsLine_dict (z66 hcD (by rw[z30];lia))) ?_)
 exact z22 (h _ ⟨(hs2.2 _ (zd8 I.ne)).trans I.obj,hn2,I.ne⟩ hs2)
theorem make_map {R:Result->Shared->Prop}{vs:List Value}{kw:List (Str×Value)}(X:K.In s.heap)(hm:zo9 K C=true)
  (hi:z48 K (.ref C) "__init__" = some (some (.ref f))) (hf:PySem.W.typeIn K (.ref f)=some (.type "function"))
  (h:codeAny @11 (A.under (.builtin "type.__call__" ⟨.ref C::vs,kw⟩)) (.call (.ref f) ⟨.ref @14::vs,kw⟩) (PySem.W.InitBack @14 R)
   { s with heap:=(s.heap.push z86).push (zb5 C s.heap.objs.size)}) :
  codeAny @11 A (.call (.ref C) ⟨vs,kw⟩) R s:=by
 obtain⟨hh,g,d,t,os⟩:=s
 exact PySem.W.make_core (PySem.W.makes_of X hm) (PySem.W.looks_findIn X hi) (fun self=>PySem.W.bind_fn X self hf) (.inl rfl) h
end
def putF (f:Str)(v:V):List (Str×V)->List (Str×V)
 | []=>[(f,v)]
 |(g,x)::r=>if g=f then(g,v)::r else(g,x)::putF f v r
theorem lookup_putF (f g:Str)(v:V):∀fs:List (Str×V),(putF f v fs).lookup g=if g=f then some v else fs.lookup g
 | []=>by
  show ze8 g [(f,v)]=_
  by_cases h:g=f
  ·have hb:(g == f)=true:=beq_iff_eq.mpr h
   simp only[ze8,hb,if_pos h]
  ·have hb:(g == f)=false:=beq_eq_false_iff_ne.mpr h
   simp only[ze8,hb,if_neg h]
 |(k,x)::r=>by
  have ih:=lookup_putF f g v r
  rw[show putF f v ((k,x)::r)=(if k=f then(k,v)::r else(k,x)::putF f v r) from rfl]
  by_cases hk:k=f
  ·rw[if_pos hk]
   by_cases h:g=k
   ·have hb:(g == k)=true:=beq_iff_eq.mpr h
    simp only[ze8,hb,if_pos (h.trans hk)]
   ·have hb:(g == k)=false:=beq_eq_false_iff_ne.mpr h
    simp only[ze8,hb,if_neg (fun e:g=f=>h (e.trans hk.symm))]
  ·rw[if_neg hk]
   by_cases h:g=k
   ·have hb:(g == k)=true:=beq_iff_eq.mpr h
    simp only[ze8,hb,if_neg (fun e:g=f=>hk (h.symm.trans e))]
   ·have hb:(g == k)=false:=beq_eq_false_iff_ne.mpr h
    simp only[ze8,hb]
    exact ih
theorem keys_putF (f:Str)(v:V):∀fs:List (Str×V),f∈(putF f v fs).map (·.1)/\∀g,g∈fs.map (·.1)->g∈(putF f v fs).map (·.1)
 | []=>⟨by simp[putF],fun g h=>by simp at h⟩
 |(k,x)::r=>by
  obtain⟨i1,i2⟩:=keys_putF f v r
  rw[show putF f v ((k,x)::r)=(if k=f then(k,v)::r else(k,x)::putF f v r) from rfl]
  by_cases hk:k=f
  ·rw[if_pos hk]
   subst hk
   exact⟨by simp,fun g h=>by simpa using h⟩
  ·rw[if_neg hk]
   refine⟨?_,fun g h=>?_⟩
   ·rw[z33]
    exact z08 _ i1
   ·rw[z33] at h ⊢
    rcases z19.mp h with e|e
    ·exact z19.mpr (.inl e)
    ·exact z08 _ (i2 g e)
theorem length_putF (f:Str)(v:V):∀fs:List (Str×V),(putF f v fs).length<=fs.length+1
 | []=>by simp[putF]
 |(k,x)::r=>by
  have ih:=length_putF f v r
  rw[show putF f v ((k,x)::r)=(if k=f then(k,v)::r else(k,x)::putF f v r) from rfl]
  by_cases hk:k=f
  ·rw[if_pos hk,z30,z30];lia
  ·rw[if_neg hk,z30,z30];lia
theorem RelO.some_of {v:V}{o:Option Value}(r:RelO (some v) o):∃u,o=some u/\RelV v u:=by
 cases o with
 |none=>exact(show False from r).elim
 |some u=>exact⟨u,rfl,r⟩
theorem RelO.none_of {o:Option Value}(r:RelO none o):o=none:=by
 cases o with
 |none=>rfl
 |some u=>exact(show False from r).elim
theorem handed_of {v:V}{u:Value}(r:RelV v u):zw3 u=true:=by
 cases v with
 |non=>cases(show u=z51 from r);rfl
 |bl b=>cases(show u=zf8 b from r);rfl
 |int i=>obtain⟨t,e⟩:=(show ∃t,u=z62 i t from r);cases e;rfl
 |str x=>obtain⟨t,e⟩:=(show ∃t,u=zq0 x t from r);cases e;rfl
 |byt b=>obtain⟨t,e⟩:=(show ∃t,u=Value.bytes b t from r);cases e;rfl
 |flt b=>obtain⟨t,e⟩:=(show ∃t,u=zv4 b t from r);cases e;rfl
 |ref a=>cases(show u=z24 a from r);rfl
 |ty n=>cases(show u=Value.type n from r);rfl
section
variable {P:Program}{w:World}{H:Hp}{h:Heap}{a C dx:Addr}{fs:List (Str×V)}
theorem ins_get (hok:HOk P w H h)(e:H a=some (.ins C dx fs)):∃mA,ObjM h a dx C mA/\(∀f,RelO (fs.lookup f) (mA f))/\zt9 mA (fs.map (·.1))/\fs.length<=1000/\H dx=some (.own a):=by
 obtain⟨d,z,ne,ob,mA,n,r,q⟩:=(show ObjOk P w H h a (.ins C dx fs) from hok a _ e)
 exact⟨mA,⟨ob,n,ne⟩,r,q,z,d⟩
end
structure Cls (K:z01)(C:Addr):Prop where
 pg:zg4 K C Str.empty=true
 hd:zi1 K C=true
 po:zn6 K C=true
 sa:z48 K (.ref C) "__setattr__" = some (some (.builtin "object.__setattr__"))
theorem Cls.get {K:z01}{C:Addr}(c:Cls K C)(f:Str):zg4 K C f=true:=c.pg
def NoAttr (K:z01)(C:Addr)(f:Str):Prop:=z48 K (.ref C) f=some none
theorem NoAttr.taker {K:z01}{C:Addr}{f:Str}(n:NoAttr K C f):zo8 K C f=some none:=by
 unfold zo8
 rw[show z48 K (.ref C) f=some none from n]
 rfl
structure Meth (K:z01)(C:Addr)(m:Str)(f:Addr):Prop where
 at_:z48 K (.ref C) m=some (some (.ref f))
 fn:z81 K (.ref f)=true
 kp:zf7 K (.ref f)=true
section
variable {X:Cx}{pins:List @12}{σ:St}{H:Hp}{s:Shared}{a C dx:Addr}{fs:List (Str×V)}{f:Str}{v:V}{A:Around}{E:Value->Shared->Prop}
theorem getattr_ok {b:Bool}{Q:Value->Shared->Prop}(I:Inv X pins σ H s)(e:H a=some (.ins C dx fs))(c:Cls X.K C)(n:NoAttr X.K C f)(l:fs.lookup f=some v)
  (h:∀u s',Inv X pins σ H s'->RelV v u->Q u s'):wpAny @7 A (getAttr (.ref a) f b) Q E s:=by
 obtain⟨mA,O,r,_,_,_⟩:=ins_get I.hok e
 obtain⟨u,hu,ru⟩:=RelO.some_of (v:=v) (o:=mA f) (by rw[← l];exact r f)
 exact get_map I.kIn O (c.get f) c.hd n hu (handed_of ru) (h u _ (I.tok _) ru)
theorem getmeth_ok {m:Str}{g:Addr}{pl:Sem Bool}{Q:Value×List Value->Shared->Prop}(I:Inv X pins σ H s)(e:H a=some (.ins C dx fs))(c:Cls X.K C)(k:Meth X.K C m g)(l:fs.lookup m=none)
  (h:Q (.ref g,[.ref a]) s):wpAny @7 A (getMethod (.ref a) m pl) Q E s:=by
 obtain⟨mA,O,r,_,_,_⟩:=ins_get I.hok e
 have hn:mA m=none:=RelO.none_of (by rw[← l];exact r m)
 exact get_meth I.kIn O (c.get m) k.at_ k.fn hn h
theorem setattr_ok {y:V}{u:Value}{Q:Unit->Shared->Prop}(I:Inv X pins σ H s)(e:H a=some (.ins C dx fs))(c:Cls X.K C)(n:NoAttr X.K C f)(hl:fs.length<1000)(ry:RelV y u)
  (h:∀s',Inv X pins σ (upd H a (.ins C dx (putF f y fs))) s'->Q () s'):wpAny @7 A (setAttr (.ref a) f u) Q E s:=by
 obtain⟨mA,O,r,wi,_,ho⟩:=ins_get I.hok e
 have hz:(fs.map (·.1)).length<=z18:=by rw[z00,z34];lia
 refine set_map I.kIn O c.sa c.po n.taker c.hd wi hz fun h' O' sb=>h _ ?_
 have hd:∃o,h'.get? dx=some o:=let ⟨o,_,_,e',_⟩:=O'.ns;⟨o,e'⟩
 refine I.write (x:=a) (e:=dx) (by rw[e];exact z50) (.inr ho) (fun b q hb z=>(sb.2 b hb).trans z) hd ?_
 refine⟨by rw[upd_ne O.ne];exact ho,?_,O.ne,O'.obj,_,O'.ns,fun g=>?_,fun g hg=>?_⟩
 ·have:=length_putF f y fs;lia
 ·show RelO ((putF f y fs).lookup g) (if g=f then some u else mA g)
  rw[lookup_putF]
  by_cases q:g=f
  ·rw[if_pos q,if_pos q];exact ry
  ·rw[if_neg q,if_neg q];exact r g
 ·by_cases q:g=f
  ·rw[q];exact(keys_putF f y fs).1
  ·refine(keys_putF f y fs).2 g (wi g fun z=>hg ?_)
   show(if g=f then some u else mA g)=none
   rw[if_neg q];exact z
theorem Inv.made (I:Inv X pins σ H s):Inv X pins σ (upd (upd H s.heap.objs.size (.own @14)) @14 (.ins C s.heap.objs.size []))
  { s with heap:=(s.heap.push z86).push (zb5 C s.heap.objs.size)}:=by
 have e1:(s.heap.push z86).get? s.heap.objs.size=some z86:=z27 s.heap rfl
 have e2:((s.heap.push z86).push (zb5 C s.heap.objs.size)).get? @14=some (zb5 C s.heap.objs.size):=by
  have:=z27 (s.heap.push z86) (o:=zb5 C s.heap.objs.size) rfl
  rwa[zb4] at this
 have e3:(s.heap.push z86).Ns s.heap.objs.size (fun _=>none):=⟨z86,#[],_,e1,rfl,(fun e he=>absurd he @9),fun _=>rfl⟩
 have I1:=I.laid (a:=s.heap.objs.size) (o:=.own @14) (h':=s.heap.push z86) (t':=s.toks) (fun b u q=>z06 _ q) (z32 _) ⟨_,e1⟩
 refine I1.laid (a:=s.heap.objs.size+1) (o:=.ins C s.heap.objs.size []) (t':=s.toks) (fun b u q=>z06 _ q) (zv9 (zb4 _ _)) ?_
 have ne:s.heap.objs.size≠s.heap.objs.size+1:=z37 (zq4 _)
 refine⟨by rw[upd_ne ne,upd_same],z67 _,ne,e2,fun _=>none,(Heap.Ns1.of_empty e3).at fun o q=>z06 _ q,fun _=>z50,fun y hy=>absurd rfl hy⟩
theorem attr_of {prog:Program}{w:World}{env:Env}{e:Expr}{f:Str}{pos:Pos}{s:Shared}{Q:Value->Shared->Prop}(hb:attributeBase e f env (eval e env)=eval e env)
  (h:wpAny @11 A (eval e env) (fun o s₁=>wpAny @11 A (getAttr o f true) Q E s₁) E s):wpAny @11 A (eval (.Attribute e f pos) env) Q E s:=
 Attribute_any_ h (by rw[arm_eval_Attribute,hb])
end
def tFld (K:z01)(ta:TE)(f:Str):TE:=fun σ H Q=>ta σ H fun x H1=>∃a C dx fs v,x=.ref a/\H1 a=some (.ins C dx fs)/\Cls K C/\NoAttr K C f/\fs.lookup f=some v/\Q v H1
def sFld (K:z01)(ta tv:TE)(f:Str):TS:=fun D σ H=>tv σ H fun y H1=>ta σ H1 fun x H2=>∃a C dx fs,x=.ref a/\H2 a=some (.ins C dx fs)/\Cls K C/\NoAttr K C f/\fs.length<1000/\
 D.nx σ (upd H2 a (.ins C dx (putF f y fs)))
section
variable {X:Cx}{o e value:Expr}{f:Str}{pos pos':Pos}{ta tv:TE}
theorem pe_fld (he:PE X e ta)(hb:attributeBase e f X.env (eval e X.env)=eval e X.env):PE X (.Attribute e f pos) (tFld X.K ta f):=by
 intro pins s σ H Q I h
 refine attr_of hb (thn (he pins s σ H _ I h) fun u s1 hz=>?_)
 obtain⟨x,H1,I1,rx,a,C,dx,fs,v,ex,ea,c,n,l,q⟩:=hz
 subst ex
 obtain rfl:u=z24 a:=rx
 exact getattr_ok I1 ea c n l fun u' s2 I2 ru=>⟨v,H1,I2,ru,q⟩
theorem ps_fld (ha:PE X o ta)(hv:PE X value tv)(hs:swapsWith value (some (.Attribute o f pos')) pos.line X.env=pure false):PS X (.Assign [.Attribute o f pos'] value pos) (sFld X.K ta tv f):=by
 intro pins s σ H D I h
 refine plainObj_wpAny_Assign_Attribute (thn (hv pins s σ H _ I h) fun u s1 hz=>?_) hs
 obtain⟨y,H1,I1,ry,q⟩:=hz
 refine thn (ha pins s1 σ H1 _ I1 q) fun ov s2 hz=>?_
 obtain⟨x,H2,I2,rx,a,C,dx,fs,ex,ea,c,n,l,q2⟩:=hz
 subst ex
 obtain rfl:ov=z24 a:=rx
 exact setattr_ok I2 ea c n l ry fun s3 I3=>⟨σ,_,I3,q2⟩
end
section
variable {H:Hp}
inductive TyOf (K:z01) (H:Hp):V->Value->Prop where
 |non:TyOf K H .non (.type "NoneType")
 |bl (x:Bool):TyOf K H (.bl x) (.type "bool")
 |int (i:Int):TyOf K H (.int i) (.type "int")
 |str (x:Str):TyOf K H (.str x) (.type "str")
 |flt (x:UInt64):TyOf K H (.flt x) (.type "float")
 |lst {a:Addr} {xs:List V} (e:H a=some (.lst xs)):TyOf K H (.ref a) (.type "list")
 |frz {a:Addr} {o:Obj} {xs:List V} (e:H a=some (.frz o (.lst xs))):TyOf K H (.ref a) (.type "list")
 |tup {a:Addr} {xs:List V} (e:H a=some (.tup xs)):TyOf K H (.ref a) (.type "tuple")
 |dK {a:Addr} {kvs:List (Key×V)} (e:H a=some (.dK kvs)):TyOf K H (.ref a) (.type "dict")
 |dT {a:Addr} {kvs:List (List Key×V)} (e:H a=some (.dT kvs)):TyOf K H (.ref a) (.type "dict")
 |ins {a C dx:Addr} {fs:List (Str×V)} (e:H a=some (.ins C dx fs)) (cl:Cls K C) (ha:z48 K (.ref C) "__class__" = some (some (.builtin "object.__class__")))
   (hn:PySem.W.specialIn K (.builtin "object.__class__") "__get__" = some (some (.builtin "getset_descriptor.__get__"))) (htk:PySem.W.takesIn K (.builtin "object.__class__")=some true)
   (hm:PySem.W.mroIn K C (.type "object")=some true):TyOf K H (.ref a) (.ref C)
end
structure Room (k:Nat)(A:Around):Prop where
 hd:A.handled=none
 dp:A.depth+3 * k+5<recursionLimit
 un:A.units+16 * k+200<cLine
 gd:A.guards=some []
theorem Room.mono {j k:Nat}{A:Around}(r:Room k A)(h:j<=k):Room j A:=⟨r.hd,by have:=r.dp;lia,by have:=r.un;lia,r.gd⟩
theorem Room.deeper {k:Nat}{A:Around}(r:Room (k+1) A)(env:Env):Room k (A.deeper env):=
 ⟨r.hd,by have:=r.dp;show A.depth+1+3 * k+5<_;lia,by have:=r.un;show A.units+3+16 * k+200<_;lia,r.gd⟩
theorem make_depth {A:Around}{C:Addr}{us:List Value}{kw:List (Str×Value)}:(A.under (.builtin "type.__call__" ⟨.ref C::us,kw⟩)).depth=A.depth+1:=by
 first|rfl|simp[zo3,Code.weight,Code.isCreation,Code.isGuard,Code.isCaller,Code.frames,zv0,guardIds]
theorem make_units {A:Around}{C:Addr}{us:List Value}{kw:List (Str×Value)}:(A.under (.builtin "type.__call__" ⟨.ref C::us,kw⟩)).units=A.units+1:=by
 first|rfl|simp[zo3,Code.cUnits,Code.frames,zv0]
theorem QkF {A:Around}{C:Addr}{us:List Value}{kw:List (Str×Value)}(h:A.guards=some []):(A.under (.builtin "type.__call__" ⟨.ref C::us,kw⟩)).guards=some []:=by
 have e:(Code.builtin "type.__call__" ⟨.ref C::us,kw⟩).guards=[]:=by simp[Code.guards,Code.isGuard,guardIds]
 unfold zo3
 dsimp only
 rw[e,h]
 rfl
theorem Room.make {k:Nat}{A:Around}(r:Room (k+1) A)(C:Addr)(us:List Value)(kw:List (Str×Value)):Room k (A.under (.builtin "type.__call__" ⟨.ref C::us,kw⟩)):=
 ⟨r.hd,by have:=r.dp;rw[make_depth];lia,by have:=r.un;rw[make_units];lia,QkF r.gd⟩
theorem Room.depth {k:Nat}{A:Around}(r:Room k A):A.depth<recursionLimit:=by have:=r.dp;lia
theorem Room.units {k:Nat}{A:Around}(r:Room k A):A.units+64<cLine:=by have:=r.un;lia
def tNil:TA:=fun _ H Q=>Q [] H
def tCons (ta:TE)(tr:TA):TA:=fun σ H Q=>ta σ H fun x H1=>tr σ H1 fun xs H2=>Q (x::xs) H2
section
variable {X:Cx}{e:Expr}{es:List Expr}{te:TE}{t:TA}{pos:Pos}
theorem pa_nil:PA X [] tNil:=fun _ _ _ _ H Q I h=>zd5 ⟨[],H,I,.nil,h⟩
theorem pa_cons (ha:PE X e te)(hr:PA X es t)(hs:starEach (e::es) X.env=@15::starEach es X.env:=by rfl):PA X (e::es) (tCons te t):=by
 intro pos pins s σ H Q I h
 rw[hs]
 show wpAny _ _ (spliced ((false,eval e X.env)::backTo pos (starEach es X.env))) _ _ s
 refine zc7 (thn (ha pins s σ H _ I h) fun u s1 hz=>?_)
 obtain⟨x,H1,I1,r1,q1⟩:=hz
 exact thn (hr pos pins s1 σ H1 _ I1 q1) fun us s2 ⟨xs,H2,I2,r2,q2⟩=>⟨x::xs,H2,I2,.cons r1 r2,q2⟩
def tTup (t:TA):TE:=fun σ H Q=>t σ H fun xs H1=>xs.length<=z18/\∀p,H1 p=none->Q (.ref p) (upd H1 p (.tup xs))
def tLst (t:TA):TE:=fun σ H Q=>t σ H fun xs H1=>xs.length<=z18/\∀p,H1 p=none->Q (.ref p) (upd H1 p (.lst xs))
theorem pe_tup {x1}(h:PA X es t):PE X (.Tuple es x1 pos) (tTup t):=by
 intro pins s σ H Q I hq
 refine wpAny_Tuple_spliced (thn (h pos pins s σ H _ I hq) fun us s1 ⟨xs,H1,I1,r,z,q⟩=>⟨by rw[← r.length];exact z,?_⟩)
 have hf:H1 s1.heap.objs.size=none:=I1.hok.fresh (z32 _)
 refine⟨.ref s1.heap.objs.size,upd H1 s1.heap.objs.size (.tup xs),I1.laid (t':=s1.toks) (fun b u e=>z06 _ e) (z32 _) ?_,rfl,q _ hf⟩
 exact⟨z,us,r,⟨_,z27 _ rfl,rfl,_,rfl⟩⟩
theorem pe_lst (h:PA X es t):PE X (.List es pos) (tLst t):=by
 intro pins s σ H Q I hq
 refine wpAny_List_spliced (thn (h pos pins s σ H _ I hq) fun us s1 ⟨xs,H1,I1,r,z,q⟩=>⟨by rw[← r.length];exact z,?_⟩)
 have hf:H1 s1.heap.objs.size=none:=I1.hok.fresh (z32 _)
 refine⟨.ref s1.heap.objs.size,upd H1 s1.heap.objs.size (.lst xs),I1.laid (t':=s1.toks) (fun b u e=>z06 _ e) (z32 _) ?_,rfl,q _ hf⟩
 exact⟨z,us,0,r,z27 _ rfl⟩
end
abbrev Sp:=List V->Hp->VK->XK->Prop
abbrev CXT:=List Env->Hp->Shared->XK->Value->Shared->Prop
structure Env0 (P:Program)(w:World)(K:z01)(mg:Str->Option Value)(base:Heap)(A:Around)(outer:List Env)(s:Shared)(H:Hp):Prop where
 frames:A.frames=some outer
 mod:Mod K mg base
 bs:∀b o,base.get? b=some o->s.heap.get? b=some o/\H b=none
 bsz:base.objs.size<=s.heap.objs.size
 funs:s.heap.FunFrames base outer
 frf:∀b∈frs outer,H b=none
 hok:HOk P w H s.heap
 bare:AllBare s.gens
def CE (outer:List Env)(P:Program)(w:World)(H:Hp)(s:Shared)(Q:VK)(u:Value)(s':Shared):Prop:=
 ∃v H',s'.os=s.os/\AllBare s'.gens/\Un (frs outer) [] H H' s.heap s'.heap/\HOk P w H' s'.heap/\RelV v u/\Q v H'
def CR (CX:CXT)(outer:List Env)(P:Program)(w:World)(H:Hp)(s:Shared)(Q:VK)(E:XK)(r:Result)(s':Shared):Prop:=
 match r with
 |.ok (.ret u)=>CE outer P w H s Q u s'
 |.ok _=>False
 |.error e=>CX outer H s E e s'
structure FnOk (P:Program)(w:World)(K:z01)(mg:Str->Option Value)(base:Heap)(CX:CXT)(k:Nat)(f:Addr)(fd:FuncData)(ps:List Str)(sp:Sp):Prop where
 len:∀vs H Q E,sp vs H Q E->vs.length=ps.length
 run:∀(A:Around) (outer:List Env) (s:Shared) (H:Hp) (args:Args) (us:List Value) (vs:List V) (Q:VK) (E:XK),Room k A->Env0 P w K mg base A outer s H->BindsTo s fd args (ps.zip us)->Vals vs us->sp vs H Q E->
  codeAny (model P w) A (.call (.ref f) args) (CR CX outer P w H s Q E) s
theorem FnOk.imp {P:Program}{w:World}{K:z01}{mg:Str->Option Value}{base:Heap}{CX:CXT}{k:Nat}{f:Addr}{fd:FuncData}{ps:List Str}{sp sp':Sp}(F:FnOk P w K mg base CX k f fd ps sp)
  (h:∀vs H Q E,sp' vs H Q E->sp vs H Q E):FnOk P w K mg base CX k f fd ps sp':=
 ⟨fun vs H Q E q=>F.len vs H Q E (h _ _ _ _ q),fun A outer s H args us vs Q E hr he hb hv hs=>F.run A outer s H args us vs Q E hr he hb hv (h _ _ _ _ hs)⟩
theorem Env0.make {P:Program}{w:World}{K:z01}{mg:Str->Option Value}{base:Heap}{A:Around}{outer:List Env}{s:Shared}{H:Hp}(e:Env0 P w K mg base A outer s H)(C:Addr)(us:List Value)(kw:List (Str×Value)) :
  Env0 P w K mg base (A.under (.builtin "type.__call__" ⟨.ref C::us,kw⟩)) outer s H:=⟨by first|exact e.frames|(simpa[zo3,Code.envs,zv0,pushEnvs] using e.frames),e.mod,e.bs,e.bsz,e.funs,e.frf,e.hok,e.bare⟩
section
variable {X:Cx}{pins:List @12}{σ:St}{H:Hp}{s s':Shared}
theorem Inv.env0 (I:Inv X pins σ H s):Env0 X.prog X.w X.K X.mg X.base X.A X.stack s H:=
 ⟨I.ok.frames,I.ok.mod,I.bs,z66 I.ok.bsz I.sz,I.stack,I.stkFree,I.hok,I.bare⟩
theorem Inv.after {Q:VK}{u:Value}(I:Inv X pins σ H s)(h:CE X.stack X.prog X.w H s Q u s'):EP X pins σ Q u s':=by
 obtain⟨v,H',os,bare,un,hok,r,q⟩:=h
 obtain⟨hh,g,d,t,os'⟩:=s'
 obtain rfl:os'=s.os:=os
 exact⟨v,H',I.call (h':=hh) (g':=g) (d':=d) (t':=t) (ch:=[]) un hok bare (fun b z=>absurd z @9),r,q⟩
end
def Binds (K:z01)(fd:FuncData)(ps:List Str)(ds:List Value):Prop:=
 ∀(s:Shared) (us:List Value),K.In s.heap->(us++ds).length=ps.length->BindsTo s fd ⟨us,[]⟩ (ps.zip (us++ds))
theorem Binds.all {K:z01}{fd:FuncData}{ps:List Str}(h:∀us:List Value,us.length=ps.length->bindArgs fd ⟨us,[]⟩=pure (ps.zip us)):Binds K fd ps []:=fun s us _ hl=>by
 rw[z71] at hl ⊢
 exact .of_eq (h us hl)
def Passes (CX:CXT)(X:Cx)(E:XK):Prop:=∀(pins:List @12) (σ:St) (H:Hp) (s:Shared) (e:Value) (s':Shared),Inv X pins σ H s->CX X.stack H s E e s'->X.xe e s'
section
variable {f C:Addr}
structure Mk (K:z01)(C f:Addr):Prop where
 makes:zo9 K C=true
 init:z48 K (.ref C) "__init__" = some (some (.ref f))
 fn:z81 K (.ref f)=true
 kp:zf7 K (.ref C)=true
end
structure FnScope (N P:List Str)(sc:Scope):Prop where
 kind:sc.kind=.function
 co:sc.isCoroutine=false
 gen:sc.isGenerator=false
 nd:N.Nodup
 pre:N.take P.length=P
 par:∀x∈P,sc.names.lookup x=some .local\/sc.names.lookup x=some .cell
 nofree:∀y∈sc.names,y.2≠.free
theorem bindL_out {kindOf:Str->Option NameKind}{x:Str}:∀{binds:List (Str×Value)} {m:Str->Option Value},(∀v,(x,v)∉binds)->bindL kindOf binds m x=m x
 | [],_,_=>rfl
 |(n,v)::r,m,h=>by
  unfold bindL
  rw[bindL_out fun w hw=>h w (z08 _ hw)]
  split
  ·have:x≠n:=by rintro rfl;exact h v z07
   simp[this]
  ·rfl
theorem bindC_out {kindOf:Str->Option NameKind}{x:Str}:∀{binds:List (Str×Value)} {m:Str->Option Value},(∀v,(x,v)∉binds)->bindC kindOf binds m x=m x
 | [],_,_=>rfl
 |(n,v)::r,m,h=>by
  unfold bindC
  rw[bindC_out fun w hw=>h w (z08 _ hw)]
  split
  ·rfl
  ·have:x≠n:=by rintro rfl;exact h v z07
   simp[this]
theorem bindL_get {kindOf:Str->Option NameKind}{x:Str}{v:Value}:∀{P:List Str} {vs:List Value} {i:Nat} {m:Str->Option Value},P.Nodup->P[i]? = some x->vs[i]? = some v->kindOf x=some .local->
  bindL kindOf (P.zip vs) m x=some v
 | [],_,_,_,_,h,_,_=>by simp at h
 |_::_,[],_,_,_,_,h,_=>by simp at h
 |p::P,w::vs,0,m,nd,h1,h2,hk=>by
  simp at h1 h2;subst h1;subst h2
  show bindL kindOf ((p,w)::P.zip vs) m p=_
  unfold bindL
  rw[bindL_out fun v hv=>(z60.mp nd).1 (zq9 hv).1,if_pos hk]
  simp
 |p::P,w::vs,i+1,m,nd,h1,h2,hk=>by
  show bindL kindOf ((p,w)::P.zip vs) m x=_
  unfold bindL
  exact bindL_get (i:=i) (z60.mp nd).2 (by simpa using h1) (by simpa using h2) hk
theorem bindC_get {kindOf:Str->Option NameKind}{x:Str}{v:Value}:∀{P:List Str} {vs:List Value} {i:Nat} {m:Str->Option Value},P.Nodup->P[i]? = some x->vs[i]? = some v->kindOf x≠some .local->
  bindC kindOf (P.zip vs) m x=some v
 | [],_,_,_,_,h,_,_=>by simp at h
 |_::_,[],_,_,_,_,h,_=>by simp at h
 |p::P,w::vs,0,m,nd,h1,h2,hk=>by
  simp at h1 h2;subst h1;subst h2
  show bindC kindOf ((p,w)::P.zip vs) m p=_
  unfold bindC
  rw[bindC_out fun v hv=>(z60.mp nd).1 (zq9 hv).1,if_neg hk]
  simp
 |p::P,w::vs,i+1,m,nd,h1,h2,hk=>by
  show bindC kindOf ((p,w)::P.zip vs) m x=_
  unfold bindC
  exact bindC_get (i:=i) (z60.mp nd).2 (by simpa using h1) (by simpa using h2) hk
def start (N:List Str)(vs:List V):St:=vs.map some++z40 (N.length - vs.length) none
def cxOf (CX:CXT)(P:Program)(w:World)(K:z01)(mg:Str->Option Value)(base:Heap)(N:List Str)(qual:Str)(scope:Scope)(f:Addr)(cd:Value)(A:Around)(outer:List Env)(s:Shared)(H:Hp)(E:XK):Cx where
 prog:=P
 w:=w
 K:=K
 mg:=mg
 base:=base
 A:=A.deeper (envOfC qual scope s.heap.objs.size f cd)
 N:=N
 s₀:=s
 H₀:=H
 env:=envOfC qual scope s.heap.objs.size f cd
 outer:=outer
 stack:=envOfC qual scope s.heap.objs.size f cd::outer
 ex:=[]
 calm:=true
 fn:=fun _=>true
 pn:=[]
 xe:=fun e s'=>wpAny (model P w) (A.deeper (envOfC qual scope s.heap.objs.size f cd)) (leaving (envOfC qual scope s.heap.objs.size f cd) e) (fun _ s''=>CX outer H s E e s'') (fun e' s''=>CX outer H s E e' s'') s'
theorem cell_has {sc:Scope}{n:Nat}{x:Str}(h:sc.names.lookup x=some .cell):∃c,(cellsFrom n sc.names []).lookup x=some c:=by
 have q:=zs1 sc.names n [] (.inl h)
 exact Option.isSome_iff_exists.mp q
theorem inv_start {CX:CXT}{P:Program}{w:World}{K:z01}{mg:Str->Option Value}{base:Heap}{N ps:List Str}{qual:Str}{scope:Scope}{f:Addr}{cd:Value}{A:Around}{outer:List Env}{s s1:Shared}{H:Hp}{E:XK}{us:List Value}{vs:List V}
  (S:FnScope N ps scope) (hd:A.handled=none) (e0:Env0 P w K mg base A outer s H) (hl:vs.length=ps.length) (r:Vals vs us)
  (x:InCallC s s.heap.objs.size (bindL (envOfC qual scope s.heap.objs.size f cd).kindOf (ps.zip us) fun _=>none) (cellsFrom @14 scope.names []) (bindC (envOfC qual scope s.heap.objs.size f cd).kindOf (ps.zip us) fun _=>none) s1) :
  Inv (cxOf CX P w K mg base N qual scope f cd A outer s H E) [] (start N vs) H s1:=by
 have hpl:ps.length<=N.length:=by have:=congrArg zr0 S.pre;rw[za7] at this;lia
 obtain⟨h1,tk,rfl,hk⟩:=x.done
 have noA:∀b:Addr,b∉(cxOf CX P w K mg base N qual scope f cd A outer s H E).ex:=fun b z=>absurd (show b∈([]:List Addr) from z) @9
 refine⟨⟨e0.mod,S.kind,rfl,rfl,z32 _,fun y z c h1 h2=>?_,fun y hy=>?_,fun y c _ h=>?_,fun _=>hd,Around.frames_deeper e0.frames,.inr ⟨rfl,rfl⟩,fun b z=>absurd z (noA b),e0.bs,e0.bsz,fun b _ _=>noA b,fun b z=>absurd z (noA b),e0.funs,e0.frf⟩,
  rfl,e0.bare,Un.kept hk,⟨_,x.toInCall.ns,fun i y v h1 h2 h3=>?_⟩,fun y c h=>⟨_,x.cell y c h⟩,e0.hok.fresh (z32 _),fun y c h=>?_,fun p hp=>absurd (show p∈([]:List @12) from hp) @9,e0.hok.kept hk,?_⟩
 ·exact name_of_addr x.apart (za4 h1) (za4 h2)
 ·have hy:scope.names.lookup y=some .cell\/scope.names.lookup y=some .free:=hy
  rcases hy with hy|hy
  ·exact cell_has hy
  ·exact absurd rfl (S.nofree _ (za4 hy))
 ·exact zg7 (x.above y c (za4 h))
 ·have hi:i<vs.length:=by
   unfold start at h2
   by_cases hi:i<vs.length
   ·exact hi
   ·rw[List.getElem?_append_right (by simpa using hi)] at h2
    rw[zj8] at h2
    split at h2<;>cases h2
  have ha:vs[i]? = some v:=by
   unfold start at h2
   rw[zi6 (by simpa using hi),z29] at h2
   cases e:vs[i]? with
   |none=>rw[e] at h2;cases h2
   |some a=>rw[e] at h2;cases h2;rfl
  obtain⟨u,hu,rv⟩:=r.get ha
  have hp:ps[i]? = some y:=by
   rw[← S.pre,List.getElem?_take_of_lt @1];exact h1
  have ndP:ps.Nodup:=by rw[← S.pre];exact S.nd.sublist (zy3 _ _)
  refine⟨u,rv,?_⟩
  rcases S.par y (z42 hp) with k|k
  ·exact .inl ⟨k,bindL_get ndP hp hu k⟩
  ·obtain⟨c,e⟩:=cell_has (n:=s.heap.objs.size+1) k
   refine .inr ⟨.inl k,c,e,?_⟩
   have q:=x.cell y c e
   rw[bindC_get ndP hp hu (by show scope.names.lookup y≠_;rw[k];decide)] at q
   exact q
 ·exact e0.hok.fresh (zg7 (x.above y c (za4 h)))
 ·unfold start
  show _=N.length
  rw[z49,z00,List.length_replicate]
  lia
theorem fn_of {CX:CXT}{P:Program}{w:World}{K:z01}{mg:Str->Option Value}{base:Heap}{k:Nat}{f:Addr}{name qual:Str}{params:Arguments}{body:List Stmt}{scope:Scope}{dV kV doc pm cdv ct oc:Value}{an od:Option Addr}
  {osl:Array (Option Value)} {N ps:List Str} {sp:Sp} (lk:K.lookup f=some ⟨oc,od,.func (zg0 name qual params body scope dV kV doc pm an cdv ct),osl⟩) (hcd:zq1 K cdv qual=true) (S:FnScope N ps scope)
  (len:∀vs H Q E,sp vs H Q E->vs.length=ps.length)
  (hbody:∀(A:Around) (outer:List Env) (s:Shared) (H:Hp) (vs:List V) (Q:VK) (E:XK),Room k (A.deeper (envOfC qual scope s.heap.objs.size f cdv))->sp vs H Q E->
   ∃t,PSs (cxOf CX P w K mg base N qual scope f cdv A outer s H E) body t/\t { nx:=fun _ H'=>Q .non H',rt:=Q } (start N vs) H) :
  FnOk P w K mg base CX (k+1) f (zg0 name qual params body scope dV kV doc pm an cdv ct) ps sp:=by
 refine⟨len,fun A outer s H args us vs Q E hr e0 hb r hsp=>?_⟩
 have hl:=len _ _ _ _ hsp
 have KX:K.In s.heap:=e0.mod.kin.keeps fun b o e=>(e0.bs b o e).1
 have lim:s.heap.NoLimit:=e0.mod.nolimit.keeps fun b o e=>(e0.bs b o e).1
 have hkind:∀y∈ps.zip us,scope.names.lookup y.1=some .local\/(scope.names.lookup y.1=some .cell/\((cellsFrom @14 scope.names []).lookup y.1).isSome=true):=fun⟨n,v⟩ hy=>by
  rcases S.par n (zq9 hy).1 with q|q
  ·exact .inl q
  ·exact .inr ⟨q,zs1 _ _ _ (.inl q)⟩
 refine codeAny_call_function hr.depth (KX _ _ lk) rfl S.co S.gen rfl (PySem.W.codeRec_of KX hcd) (hb _ _ _ _ ?_)
 refine wpAny_newFunctionEnv_cells S.kind hkind fun env he s1 x=>?_
 subst he
 refine⟨lim.keeps x.toInCall.keep,codeAny_func ?_⟩
 obtain⟨t,ht,hq⟩:=hbody A outer s H vs Q E (hr.deeper _) hsp
 have I:Inv (cxOf CX P w K mg base N qual scope f cdv A outer s H E) [] (start N vs) H s1:=inv_start S hr.hd e0 hl r x
 refine zd2 (ht [] s1 (start N vs) H _ I hq) (fun fl s' hs=>?_) fun e s' hs=>hs
 have fin:∀{σ':St} {H':Hp} {v:V} {u:Value},Inv (cxOf CX P w K mg base N qual scope f cdv A outer s H E) [] σ' H' s'->RelV v u->Q v H'->CE outer P w H s Q u s':=
  fun{σ' H' v u} J rv q=>⟨v,H',J.os,J.bare,J.base,J.hok,rv,q⟩
 cases fl with
 |ret u=>
  obtain⟨v,σ',H',J,rv,q⟩:=hs
  exact fin J rv q
 |next=>
  obtain⟨σ',H',J,q⟩:=hs
  exact fin (v:=V.non) (u:=z51) J rfl q
 |brk=>
  obtain⟨_,_,_,q⟩:=hs
  exact zb7 q
 |cont=>
  obtain⟨_,_,_,q⟩:=hs
  exact zb7 q
section
variable {X:Cx}{x:Str}{p pos:Pos}{e:Expr}{es:List Expr}{t:TA}{id T:String}{r:List V->Hp->VK->Prop}
def tCB (r:List V->Hp->VK->Prop)(t:TA):TE:=fun σ H Q=>t σ H fun vs H1=>r vs H1 Q
theorem pe_callB (hc:CallR X (.builtin id) r)(hg:Gl X x)(hm:X.mg x=none)(hv:z52 x=some (.builtin id))(ha:PA X (e::es) t)(hn:x ≠ "__name__" := by decide)(hdb:@6=false:=by decide)
  (he:starEach (e::es) X.env=@15::starEach es X.env:=by rfl) (hpl:(backTo pos (starEach es X.env)).any (·.1)=false:=by rfl):PE X (.Call (.Name x p) (e::es) [] pos) (tCB r t):=by
 intro pins s σ H Q I h
 refine z76 (ld_blt I hg hm hv ?_ hn hdb)
 exact zl5 (thn (ha pos pins s σ H _ I h) fun us s1 ⟨vs,H1,I1,r1,q1⟩=>hc pins s1 σ H1 vs us Q I1 r1 q1) he hpl
theorem pe_callTy (hc:CallR X (.type T) r)(hg:Gl X x)(hm:X.mg x=none)(hv:z52 x=some (.type T))(ha:PA X (e::es) t)(hn:x ≠ "__name__" := by decide)(hdb:@6=false:=by decide)
  (he:starEach (e::es) X.env=@15::starEach es X.env:=by rfl) (hpl:(backTo pos (starEach es X.env)).any (·.1)=false:=by rfl):PE X (.Call (.Name x p) (e::es) [] pos) (tCB r t):=by
 intro pins s σ H Q I h
 refine z76 (ld_blt I hg hm hv ?_ hn hdb)
 exact zg1 (thn (ha pos pins s σ H _ I h) fun us s1 ⟨vs,H1,I1,r1,q1⟩=>hc pins s1 σ H1 vs us Q I1 r1 q1) he hpl
end
section
variable {κ:Type}[DecidableEq κ]
def valV (kvs:List (κ×V))(k:κ):Option V:=(kvs.find? fun kv=>decide (kv.1=k)).map (·.2)
def putK (kvs:List (κ×V))(k:κ)(v:V):List (κ×V):=
 if(kvs.any fun kv=>decide (kv.1=k))=true then kvs.map (fun kv=>if kv.1=k then(kv.1,v) else kv) else kvs++[(k,v)]
theorem valV_pos {p:κ×V}{r:List (κ×V)}{k:κ}(e:p.1=k):valV (p::r) k=some p.2:=by simp[valV,zf5,e]
theorem valV_neg {p:κ×V}{r:List (κ×V)}{k:κ}(e:¬ p.1=k):valV (p::r) k=valV r k:=by simp[valV,zf5,e]
theorem valV_any (k:κ):∀kvs:List (κ×V),(kvs.any fun kv=>decide (kv.1=k))=(valV kvs k).isSome
 | []=>rfl
 |p::r=>by
  rw[za8]
  by_cases e:p.1=k
  ·simp only[valV_pos e,decide_eq_true e,Bool.true_or,Option.isSome_some]
  ·rw[valV_neg e,decide_eq_false e,Bool.false_or];exact valV_any k r
theorem length_putK (kvs:List (κ×V))(k:κ)(v:V):(putK kvs k v).length<=kvs.length+1:=by
 unfold putK
 split
 ·rw[z00];lia
 ·rw[z49,z30,zh4];lia
theorem RelO.isSome_eq {o:Option V}{u:Option Value}(r:RelO o u):o.isSome=u.isSome:=by
 cases o with
 |none=>cases u with
  |none=>rfl
  |some _=>exact(show False from r).elim
 |some _=>cases u with
  |none=>exact(show False from r).elim
  |some _=>rfl
theorem RelO.getD {o:Option V}{u:Option Value}{d:V}{d':Value}(r:RelO o u)(rd:RelV d d'):RelV (o.getD d) (u.getD d'):=by
 cases o with
 |none=>cases u with
  |none=>exact rd
  |some _=>exact(show False from r).elim
 |some _=>cases u with
  |none=>exact(show False from r).elim
  |some _=>exact r
theorem KV.val {kvs:List (κ×V)}{vs:List (κ×Value)}(r:KV kvs vs)(k:κ):RelO (valV kvs k) (valueAt vs k):=by
 unfold KV at r
 induction r with
 |nil=>exact z50
 | @cons p q ps qs h t ih=>
  obtain⟨h1,h2⟩:=h
  by_cases e:p.1=k
  ·have e':q.1=k:=h1.symm.trans e
   have b:valueAt (q::qs) k=some q.2:=by simp[valueAt,zf5,e']
   rw[valV_pos e,b];exact h2
  ·have e':¬ q.1=k:=fun z=>e (h1.trans z)
   have b:valueAt (q::qs) k=valueAt qs k:=by simp[valueAt,zf5,e']
   rw[valV_neg e,b];exact ih
theorem KV.any {kvs:List (κ×V)}{vs:List (κ×Value)}(r:KV kvs vs)(k:κ):(kvs.any fun kv=>decide (kv.1=k))=vs.any fun kv=>decide (kv.1=k):=by
 unfold KV at r
 induction r with
 |nil=>rfl
 |cons h t ih=>rw[za8,za8,ih,h.1]
theorem KV.repl {kvs:List (κ×V)}{vs:List (κ×Value)}(r:KV kvs vs)(k:κ){y:V}{u:Value}(ry:RelV y u) :
  KV (kvs.map fun kv=>if kv.1=k then(kv.1,y) else kv) (vs.map fun kv=>if kv.1=k then(kv.1,u) else kv):=by
 unfold KV at r ⊢
 induction r with
 |nil=>exact .nil
 | @cons p q ps qs h t ih=>
  rw[z33,z33]
  refine .cons ?_ ih
  obtain⟨h1,h2⟩:=h
  by_cases e:p.1=k
  ·rw[if_pos e,if_pos (h1.symm.trans e)];exact⟨h1,ry⟩
  ·rw[if_neg e,if_neg (fun z=>e (h1.trans z))];exact⟨h1,h2⟩
theorem KV.put {kvs:List (κ×V)}{vs:List (κ×Value)}(r:KV kvs vs)(k:κ){y:V}{u:Value}(ry:RelV y u):KV (putK kvs k y) (stored vs k u):=by
 unfold putK stored
 rw[r.any k]
 by_cases e:(vs.any fun kv=>decide (kv.1=k))=true
 ·rw[if_pos e,if_pos e];exact r.repl k ry
 ·rw[if_neg e,if_neg e];exact Paired.snoc r ⟨rfl,ry⟩
theorem KV.length {kvs:List (κ×V)}{vs:List (κ×Value)}(r:KV kvs vs):kvs.length=vs.length:=zm5 r
end
theorem kV_is {P:Program}{w:World}{k:Key}{u:Value}(r:RelV (kV k) u):(mixKind P w).is k u=true:=by
 cases k with
 |inl i=>obtain⟨t,e⟩:=(show ∃t,u=z62 i t from r);subst e;exact mixKind_int P w i t
 |inr x=>obtain⟨t,e⟩:=(show ∃t,u=zq0 x t from r);subst e;exact mixKind_str P w x t
theorem items_are {P:Program}{w:World}:∀{ks:List Key} {us:List Value},Vals (ks.map kV) us->ItemsAre (mixKind P w) ks us
 | [],_,r=>by rw[zk7] at r;cases r;exact .nil
 |k::ks,_,r=>by
  rw[z33] at r
  cases r with
  |cons h t=>exact .cons (kV_is h) (items_are t)
abbrev KT (H:Hp):List (List Key×V)->List (List Key×Addr×Value)->Prop:=Paired fun p q=>p.1=q.1/\H q.2.1=some (.tup (p.1.map kV))/\RelV p.2 q.2.2
theorem KT.val {H:Hp}{kvs:List (List Key×V)}{xs:List (List Key×Addr×Value)}(r:KT H kvs xs)(k:List Key):RelO (valV kvs k) ((atKey xs k).map (·.2)):=by
 induction r with
 |nil=>exact z50
 | @cons p q ps qs h t ih=>
  obtain⟨h1,_,h2⟩:=h
  by_cases e:p.1=k
  ·have e':q.1=k:=h1.symm.trans e
   have b:atKey (q::qs) k=some q.2:=by simp[atKey,zf5,e']
   rw[valV_pos e,b];exact h2
  ·have e':¬ q.1=k:=fun z=>e (h1.trans z)
   have b:atKey (q::qs) k=atKey qs k:=by simp[atKey,zf5,e']
   rw[valV_neg e,b];exact ih
theorem KT.repl {H:Hp}{kvs:List (List Key×V)}{xs:List (List Key×Addr×Value)}(r:KT H kvs xs)(k:List Key){y:V}{u:Value}(ry:RelV y u) :
  KT H (kvs.map fun kv=>if kv.1=k then(kv.1,y) else kv) (xs.map (putAt k u)):=by
 induction r with
 |nil=>exact .nil
 | @cons p q ps qs h t ih=>
  rw[z33,z33]
  refine .cons ?_ ih
  obtain⟨h1,h2,h3⟩:=h
  unfold putAt
  by_cases e:p.1=k
  ·rw[if_pos e,if_pos (h1.symm.trans e)];exact⟨h1,h2,ry⟩
  ·rw[if_neg e,if_neg (fun z=>e (h1.trans z))];exact⟨h1,h2,h3⟩
theorem KT.put {H:Hp}{kvs:List (List Key×V)}{xs:List (List Key×Addr×Value)}(r:KT H kvs xs)(k:List Key){b:Addr}{y:V}{u:Value}(hb:H b=some (.tup (k.map kV)))(ry:RelV y u) :
  KT H (putK kvs k y) (storedH xs k b u):=by
 have e:(kvs.any fun kv=>decide (kv.1=k))=(atKey xs k).isSome:=by
  rw[valV_any,(r.val k).isSome_eq,zw4]
 unfold putK storedH
 rw[e]
 by_cases q:(atKey xs k).isSome=true
 ·rw[if_pos q,if_pos q];exact r.repl k ry
 ·rw[if_neg q,if_neg q];exact Paired.snoc r ⟨rfl,hb,ry⟩
theorem KT.keeps {H H':Hp}{kvs:List (List Key×V)}{xs:List (List Key×Addr×Value)}(r:KT H kvs xs)(ht:∀b ys,H b=some (.tup ys)->H' b=some (.tup ys)):KT H' kvs xs:=
 Paired.mapP r fun _ _ z=>⟨z.1,ht _ _ z.2.1,z.2.2⟩
section
variable {P:Program}{w:World}{H:Hp}{h:Heap}{a:Addr}
theorem rd_of {u:HO}(ok:HOk P w H h)(e:Rd H a u):ObjOk P w H h a u:=e.ok ok
theorem dk_rd {kvs:List (Key×V)}(ok:HOk P w H h)(e:Rd H a (.dK kvs)):kvs.length<=z18/\(a == sysModules)=false/\∃vs,KV kvs vs/\h.DictOf (mixKind P w) a vs:=
 show ObjOk P w H h a (.dK kvs) from rd_of ok e
theorem dk_of {kvs:List (Key×V)}(ok:HOk P w H h)(e:H a=some (.dK kvs)):kvs.length<=z18/\(a == sysModules)=false/\∃vs,KV kvs vs/\h.DictOf (mixKind P w) a vs:=dk_rd ok (.inl e)
theorem key_of {ks:List Key}(ok:HOk P w H h)(e:H a=some (.tup (ks.map kV))):(tupleKind (mixKind P w)).is h ks a:=by
 obtain⟨_,its,r,o,h1,h2,n,h3⟩:=(show ObjOk P w H h a (.tup (ks.map kV)) from ok a _ e)
 exact⟨o,its.toArray,n,h1,h2,h3,by simpa using items_are r⟩
theorem dt_rd {kvs:List (List Key×V)}(ok:HOk P w H h)(e:Rd H a (.dT kvs)):kvs.length<=z18/\(a == sysModules)=false/\
  ∃xs,KT H kvs xs/\h.DictOfH (tupleKind (mixKind P w)) a xs:=by
 obtain⟨z,y,xs,r,o,es,ep,h1,h2,h3,h4,h5⟩:=(show ObjOk P w H h a (.dT kvs) from rd_of ok e)
 refine⟨z,y,xs,r,o,es,ep,h1,h2,h3,h4,fun x hx=>?_,h5⟩
 have all:∀{l:List (List Key×V)} {m:List (List Key×Addr×Value)},KT H l m->∀x∈m,(tupleKind (mixKind P w)).is h x.1 x.2.1:=by
  intro l m q
  induction q with
  |nil=>intro x hx;exact nomatch hx
  | @cons p q ps qs hq t ih=>
   intro x hx
   rcases z19.mp hx with e|hx
   ·subst e
    exact key_of ok (by rw[← hq.1];exact hq.2.1)
   ·exact ih x hx
 exact all r x hx
theorem dt_of {kvs:List (List Key×V)}(ok:HOk P w H h)(e:H a=some (.dT kvs)):kvs.length<=z18/\(a == sysModules)=false/\
  ∃xs,KT H kvs xs/\h.DictOfH (tupleKind (mixKind P w)) a xs:=dt_rd ok (.inl e)
end
def DGet (H:Hp)(a:Addr)(y:V)(r:Option V):Prop:=
 (∃kvs k,Rd H a (.dK kvs)/\y=kV k/\r=valV kvs k)\/∃kvs k b,Rd H a (.dT kvs)/\y=.ref b/\H b=some (.tup (k.map kV))/\r=valV kvs k
def DPut (H:Hp)(a:Addr)(y v:V)(H':Hp):Prop:=
 (∃kvs k,H a=some (.dK kvs)/\y=kV k/\kvs.length<z18/\H'=upd H a (.dK (putK kvs k v)))\/
 ∃kvs k b,H a=some (.dT kvs)/\y=.ref b/\H b=some (.tup (k.map kV))/\kvs.length<z18/\H'=upd H a (.dT (putK kvs k v))
theorem DGet.t {H:Hp}{a b:Addr}{kvs:List (List Key×V)}{k:List Key}(e:H a=some (.dT kvs))(eb:H b=some (.tup (k.map kV))):DGet H a (.ref b) (valV kvs k):=.inr ⟨kvs,k,b,.inl e,rfl,eb,rfl⟩
theorem DPut.t {H:Hp}{a b:Addr}{kvs:List (List Key×V)}{k:List Key}{v:V}(e:H a=some (.dT kvs))(eb:H b=some (.tup (k.map kV)))(hl:kvs.length<z18) :
  DPut H a (.ref b) v (upd H a (.dT (putK kvs k v))):=.inr ⟨kvs,k,b,e,rfl,eb,hl,rfl⟩
section
variable {X:Cx}{pins:List @12}{σ:St}{H:Hp}{s:Shared}{a:Addr}{y v:V}{u r:Value}{o:Option V}{A:Around}{E:Value->Shared->Prop}
theorem Inv.big (I:Inv X pins σ H s):sysModules<s.heap.objs.size:=by
 have h:z20<s.heap.objs.size:=(I.mod.glob.keeps I.bk).lt
 exact Nat.lt_trans @3 h
theorem d_in {Q:Value->Shared->Prop}(hu:A.units+1<cLine)(I:Inv X pins σ H s)(g:DGet H a y o)(ry:RelV y u)(h:∀s',Inv X pins σ H s'->Q (.bool o.isSome) s') :
  wpAny @7 A (compareOp .In u (.ref a)) Q E s:=by
 rcases g with⟨kvs,k,e,ey,l⟩|⟨kvs,k,b,e,ey,eb,l⟩
 ·subst ey
  obtain⟨z,hd,vs,rel,dd⟩:=dk_rd I.hok e
  refine wpAny_in_of (kV_is ry) hd dd.mapOf ?_
  rw[← (rel.val k).isSome_eq,← l]
  exact h _ (I.tok _)
 ·subst ey
  cases(show u=z24 b from ry)
  obtain⟨z,hd,xs,rel,dd⟩:=dt_rd I.hok e
  refine wpAny_in_heap (tupleKind_room_in1 hu) (key_of I.hok eb) hd dd ?_
  have q:=(rel.val k).isSome_eq
  rw[zw4] at q
  rw[← q,← l]
  exact h _ (I.tok _)
theorem d_write {h':Heap}{t':Nat}{ob:HO}(I:Inv X pins σ H s)(mu:Mut (H a))(hs:zb0 a s.heap h')(he:∃q,h'.get? a=some q)(new:ObjOk X.prog X.w (upd H a ob) h' a ob) :
  Inv X pins σ (upd H a ob) { s with heap:=h',toks:=t' }:=
 I.write (x:=a) (e:=a) mu (.inl rfl) (fun b q hb z=>(hs.2 b hb).trans z) he new
theorem dk_new {P:Program}{w:World}{H':Hp}{h':Heap}{kvs:List (Key×V)}{vs:List (Key×Value)}(z:kvs.length<=z18)(hd:(a == sysModules)=false)(rel:KV kvs vs)(dd:h'.DictOf (mixKind P w) a vs) :
  ObjOk P w H' h' a (.dK kvs):=⟨z,hd,vs,rel,dd⟩
theorem d_setItem {H':Hp}{Q:Unit->Shared->Prop}(hu:A.units+1<cLine)(I:Inv X pins σ H s)(g:DPut H a y v H')(ry:RelV y u)(rv:RelV v r)(h:∀s',Inv X pins σ H' s'->Q () s') :
  wpAny @7 A (setItem (.ref a) u r) Q E s:=by
 rcases g with⟨kvs,k,e,ey,l,eH⟩|⟨kvs,k,b,e,ey,eb,l,eH⟩
 ·subst ey eH
  obtain⟨z,hd,vs,rel,dd⟩:=dk_of I.hok e
  have hz:vs.length<=z18:=by rw[← rel.length];exact z
  have hl:(putK kvs k v).length<=z18:=by have:=length_putK kvs k v;lia
  refine wpAny_setItem_pairs (hsz:=hz) (kV_is ry) dd fun h' dd' hs=>h _ ?_
  have he:∃q,h'.get? a=some q:=let ⟨q,_,_,hq,_⟩:=dd';⟨q,hq⟩
  exact d_write I (by rw[e];exact z50) hs he (dk_new hl hd (rel.put k rv) dd')
 ·subst ey eH
  cases(show u=z24 b from ry)
  obtain⟨z,hd,xs,rel,dd⟩:=dt_of I.hok e
  have hz:xs.length<=z18:=by rw[← zm5 rel];exact z
  have hl:(putK kvs k v).length<=z18:=by have:=length_putK kvs k v;lia
  refine wpAny_setItem_heap (hsz:=hz) (tupleKind_room_in1 hu) (key_of I.hok eb) dd fun h' dd' hs=>h _ ?_
  obtain⟨q,es,ep,hq,h2,h3,h4,_,h5⟩:=dd'
  refine d_write I (by rw[e];exact z50) hs ⟨q,hq⟩ ⟨hl,hd,_,(rel.put k eb rv).keeps fun c ys ec=>?_,q,es,ep,hq,h2,h3,h4,h5⟩
  rw[upd_ne (ne_of ec e (fun z=>nomatch z))]
  exact ec
end
def tDIn (ty td:TE):TE:=fun σ H Q=>ty σ H fun y H1=>td σ H1 fun x H2=>∃a o,x=.ref a/\DGet H2 a y o/\Q (.bl o.isSome) H2
def sDPut (td ty tv:TE):TS:=fun D σ H=>tv σ H fun v H1=>td σ H1 fun x H2=>ty σ H2 fun y H3=>∃a H4,x=.ref a/\DPut H3 a y v H4/\D.nx σ H4
section
variable {X:Cx}{o i value:Expr}{pos pos':Pos}{td ty tv:TE}
theorem pc_din (hu:X.A.units+1<cLine)(hi:PE X i ty)(ho:PE X o td):PC X .In i o (tDIn ty td):=by
 intro pins s σ H Q I h
 refine thn (hi pins s σ H _ I h) fun iv s1 hz=>?_
 obtain⟨y,H1,I1,ry,q1⟩:=hz
 refine thn (ho pins s1 σ H1 _ I1 q1) fun u s2 hz=>?_
 obtain⟨x,H2,I2,rx,a,ov,ex,g,q2⟩:=hz
 subst ex
 obtain rfl:u=z24 a:=rx
 exact d_in hu I2 g ry fun s3 I3=>⟨.bl ov.isSome,H2,I3,rfl,q2⟩
theorem ps_dput (hu:X.A.units+1<cLine)(ho:PE X o td)(hi:PE X i ty)(hv:PE X value tv)(hs:swapsWith value (some (.Subscript o i pos')) pos.line X.env=pure false) :
  PS X (.Assign [.Subscript o i pos'] value pos) (sDPut td ty tv):=by
 intro pins s σ H D I h
 refine wpAny_Assign_Subscript (thn (hv pins s σ H _ I h) fun r s1 hz=>?_) hs
 obtain⟨v,H1,I1,rv,q1⟩:=hz
 refine thn (ho pins s1 σ H1 _ I1 q1) fun u s2 hz=>?_
 obtain⟨x,H2,I2,rx,q2⟩:=hz
 refine thn (hi pins s2 σ H2 _ I2 q2) fun iv s3 hz=>?_
 obtain⟨y,H3,I3,ry,a,H4,ex,g,q3⟩:=hz
 subst ex
 obtain rfl:u=z24 a:=rx
 exact d_setItem hu I3 g ry rv fun s4 I4=>⟨σ,H4,I4,q3⟩
end
theorem dt_empty {P:Program}{w:World}{H:Hp}(h:Heap)(hb:sysModules<h.objs.size):ObjOk P w H (h.push { cls:=.type "dict",data:=.dict #[]}) h.objs.size (.dT []):=
 ⟨z67 _,beq_eq_false_iff_ne.mpr (zd8 (z37 hb)),[],.nil,_,#[],0,z27 _ rfl,⟨rfl,rfl,rfl⟩,rfl,rfl,za2⟩
def tDNewT:TE:=fun _ H Q=>∀p,H p=none->Q (.ref p) (upd H p (.dT []))
section
variable {X:Cx}{pos:Pos}
theorem pe_dnewT:PE X (.Dict [] [] pos) tDNewT:=fun pins s σ H Q I h=>
 wpAny_Dict_empty ⟨.ref s.heap.objs.size,_,I.laid (a:=s.heap.objs.size) (o:=.dT []) (t':=s.toks) (fun _ _ q=>z06 _ q) (z32 _) (dt_empty s.heap I.big),rfl,h _ (I.hok.fresh (z32 _))⟩
end
end L2
namespace HT
open PySem PyProof.Rows
theorem rcLt_int (A:Around)(s:Shared)(a:Int)(t:Tok)(c:Int)(u:Tok)(prog:Program)(w:World)(E:Value->Shared->Prop)(Q:Value->Shared->Prop)(h:Q (.bool (decide (a<c))) s) :
  wpAny @11 A (richCompare .Lt (.int a t) (.int c u)) Q E s:=
 (zq8 h:wpAny @11 A (compareOp .Lt (.int a t) (.int c u)) Q E s)
section
open PySem.SeqAt
open PySem.AutoSeq1 (wpAny_loadPart')
open PySem.MeetsSeq PySem.MeetsSeq2 PySem.MeetsSeq3
end
section
def sIx (n d:Nat):Option Int->Nat
 |none=>d
 |some v=>if v<0 then(v+(n:Int)).toNat else min v.toNat n
theorem sIx_none (n d:Nat):sIx n d none=d:=rfl
theorem sIx_nat (n d k:Nat):sIx n d (some (k:Int))=min k n:=by
 show(if(k:Int)<0 then((k:Int)+(n:Int)).toNat else min (k:Int).toNat n)=min k n
 rw[if_neg @1,z59]
end
end HT
namespace L2
open PySem PySem.Spec PyProof.Rows
abbrev TO:=St->Hp->(Option Int->Hp->Prop)->Prop
def PO (X:Cx)(e:Option Expr)(t:TO):Prop:=
 ∀(pins:List @12) (s:Shared) (σ:St) (H:Hp) (Q:Option Int->Hp->Prop),Inv X pins σ H s->t σ H Q->
  wpAny @7 X.A (evalPart e X.env) (fun u s'=>∃o H',Inv X pins σ H' s'/\IsPart u o/\Q o H') X.xe s
def tNoPart:TO:=fun _ H Q=>Q none H
def tPart (t:TE):TO:=fun σ H Q=>t σ H fun x H1=>∃i,x=.int i/\Q (some i) H1
theorem intsAre_of {ns:List Int}:∀{us:List Value},Vals (ns.map V.int) us->IntsAre us ns:=by
 induction ns with
 |nil=>intro us r;rw[zk7] at r;cases r;exact .nil
 |cons n ns ih=>
  intro us r
  rw[z33] at r
  cases r with
  |cons r1 r2=>
   obtain⟨t,e⟩:=r1
   subst e
   exact .cons n t (ih r2)
section
variable {X:Cx}{e:Expr}{te:TE}{lo hi:Option Expr}{tl th:TO}{pos p2:Pos}
theorem po_none:PO X none tNoPart:=by
 intro pins s σ H Q I h
 rw[evalPart_none]
 exact z22 ⟨none,H,I,.none,h⟩
theorem po_some (h:PE X e te):PO X (some e) (tPart te):=by
 intro pins s σ H Q I hw
 rw[evalPart_some]
 refine thn (h pins s σ H _ I hw) fun u s1 hz=>?_
 obtain⟨x,H1,I1,r1,q1⟩:=hz
 obtain⟨i,rfl,q⟩:=q1
 obtain⟨t,rfl⟩:=r1
 exact⟨some i,H1,I1,.int i t,q⟩
def SlR (X:Cx)(r:V->Option Int->Option Int->Hp->VK->Prop):Prop:=
 ∀(pins:List @12) (s:Shared) (σ:St) (H:Hp) (x:V) (v vl vu:Value) (lo hi:Option Int) (sl:Addr) (Q:VK),Inv X pins σ H s->RelV x v->s.heap.IsSliceOf sl vl vu .none->IsPart vl lo->IsPart vu hi->r x lo hi H Q->
  ∃T id,typeLookup (.type T) "__getitem__" = pure (some (.builtin id))/\s.TypeIs v T/\wpAny @7 X.A (getItem v (.ref sl)) (EP X pins σ Q) X.xe s
def tSl (r:V->Option Int->Option Int->Hp->VK->Prop)(te:TE)(tl th:TO):TE:=fun σ H Q=>te σ H fun x H1=>tl σ H1 fun l H2=>th σ H2 fun u H3=>r x l u H3 Q
theorem pe_slice {r:V->Option Int->Option Int->Hp->VK->Prop}(hr:SlR X r)(he:PE X e te)(hl:PO X lo tl)(hu:PO X hi th):PE X (.Subscript e (.Slice lo hi none p2) pos) (tSl r te tl th):=by
 intro pins s σ H Q I h
 refine Subscript_ (thn (he pins s σ H _ I h) fun v s1 hz=>?_)
 obtain⟨x,H1,I1,r1,q1⟩:=hz
 refine wpAny_Slice (thn (hl pins s1 σ H1 _ I1 q1) fun vl s2 hz=>?_)
 obtain⟨l,H2,I2,pl,q2⟩:=hz
 refine thn (hu pins s2 σ H2 _ I2 q2) fun vu s3 hz=>?_
 obtain⟨u,H3,I3,pu,q3⟩:=hz
 rw[evalPart_none]
 refine z22 ?_
 have I4:Inv X pins σ H3 { s3 with heap:=s3.heap.push { cls:=.type "slice",data:=.fields #[vl,vu,.none]}}:=I3.kept (t':=s3.toks) fun b ob q=>z06 _ q
 obtain⟨T,id,hT,ht,hg⟩:=hr pins { s3 with heap:=s3.heap.push { cls:=.type "slice",data:=.fields #[vl,vu,.none]}} σ H3 x v vl vu l u s3.heap.objs.size Q I4 r1 (Heap.IsSliceOf.new ..) pl pu q3
 show wpAny @7 X.A (subscriptTail e (.Slice lo hi none p2) v (.ref s3.heap.objs.size)) (EP X pins σ Q) X.xe { s3 with heap:=s3.heap.push { cls:=.type "slice",data:=.fields #[vl,vu,.none]}}
 exact tail_any (ops:=[.ref s3.heap.objs.size,v]) ht hT hg (by with_unfolding_all rfl)
def cutV (xs:List V)(lo hi:Option Int):List V:=(xs.drop (HT.sIx xs.length 0 lo)).take (HT.sIx xs.length xs.length hi - HT.sIx xs.length 0 lo)
theorem cutV_length (xs:List V)(lo hi:Option Int):(cutV xs lo hi).length<=xs.length:=by
 unfold cutV
 rw[za7,ze6]
 lia
end
noncomputable def ixN (n:Nat)(i:Int):Option Nat:=if 0<=i then(if i<n then some i.toNat else none) else if -(n:Int)<=i then some (i+n).toNat else none
noncomputable def atI {α:Type}(xs:List α)(i:Int):Option α:=(ixN xs.length i).bind fun j=>xs[j]?
theorem ixN_seq {n:Nat}{i:Int}{j:Nat}(h:ixN n i=some j):seqIndex? i n=some j/\j<n/\-(n:Int)<=i/\i<n:=by
 unfold ixN at h
 by_cases h0:0<=i
 ·rw[if_pos h0] at h
  by_cases h1:i<n
  ·rw[if_pos h1] at h
   have e:i.toNat=j:=z35 h
   exact⟨by rw[seqIndex_of h0 h1,e],by lia,by lia,h1⟩
  ·rw[if_neg h1] at h;cases h
 ·rw[if_neg h0] at h
  by_cases h1 : -(n:Int)<=i
  ·rw[if_pos h1] at h
   have e:(i+n).toNat=j:=z35 h
   exact⟨by rw[seqIndex_neg @1 h1,e],by lia,h1,by lia⟩
  ·rw[if_neg h1] at h;cases h
theorem atI_get {α:Type}{xs:List α}{i:Int}{v:α}(h:atI xs i=some v):∃j,seqIndex? i xs.length=some j/\xs[j]? = some v/\j<xs.length/\-(xs.length:Int)<=i/\i<xs.length:=by
 unfold atI at h
 cases e:ixN xs.length i with
 |none=>rw[e] at h;cases h
 |some j=>
  rw[e] at h
  obtain⟨h1,h2,h3,h4⟩:=ixN_seq e
  exact⟨j,h1,h,h2,h3,h4⟩
def PlainIx (b:Expr):Prop:=∀o i,subscripted b false o i=operate [o,i] (getItem o i)
def IxR (X:Cx)(r:R2):Prop:=
 ∀(value slice:Expr) (pins:List @12) (s:Shared) (σ:St) (H:Hp) (x y:V) (v u:Value) (Q:VK),Inv X pins σ H s->RelV x v->RelV y u->r x y H Q->
  subscripted slice false v u=operate [v,u] (getItem v u)->wpAny @7 X.A (subscriptTail value slice v u) (EP X pins σ Q) X.xe s
def MtR (X:Cx)(id:String)(r:V->List V->Hp->VK->Prop):Prop:=
 ∀(pins:List @12) (s:Shared) (σ:St) (H:Hp) (x:V) (xs:List V) (v:Value) (us:List Value) (Q:VK),Inv X pins σ H s->RelV x v->Vals xs us->r x xs H Q->
  wpAny @7 X.A (call (.builtin id) (v::us)) (EP X pins σ Q) X.xe s
section
variable {X:Cx}{a b:Expr}{ta tb:TE}{pos:Pos}
theorem IxR.or {r r':R2}(h:IxR X r)(h':IxR X r'):IxR X (fun x y H Q=>r x y H Q\/r' x y H Q):=by
 intro value slice pins s σ H x y v u Q I rx ry q hs
 rcases q with q|q
 ·exact h value slice pins s σ H x y v u Q I rx ry q hs
 ·exact h' value slice pins s σ H x y v u Q I rx ry q hs
theorem pe_ix {r:R2}(hr:IxR X r)(ha:PE X a ta)(hb:PE X b tb)(hs:PlainIx b):PE X (.Subscript a b pos) (tOp r ta tb):=by
 intro pins s σ H Q I h
 exact Subscript_ (binT ha hb I h fun v u s2 x y H2 I2 rx ry q=>hr a b pins s2 σ H2 x y v u Q I2 rx ry q (hs _ _))
def rIxL (K:z01):R2:=fun x y H Q=>∃p xs i v,x=.ref p/\y=.int i/\SqL K H p xs/\atI xs i=some v/\Q v H
def rIxT (K:z01):R2:=fun x y H Q=>∃p xs i v,x=.ref p/\y=.int i/\SqT K H p xs/\atI xs i=some v/\Q v H
def rIxS:R2:=fun x y H Q=>∃z i c,x=.str z/\y=.int i/\z.length<=z18/\atI z.cps.toList i=some c/\Q (.str ⟨#[c]⟩) H
theorem ix_list:IxR X (rIxL X.K):=by
 intro value slice pins s σ H x y v u Q I rx ry h hs
 obtain⟨p,xs,i,z,rfl,rfl,hq,he,q⟩:=h
 cases rx
 obtain⟨t,rfl⟩:=ry
 obtain⟨its,r,pl,hz⟩:=I.list hq
 obtain⟨j,h1,h2,h3,h4,h5⟩:=atI_get he
 obtain⟨w,ew,rw'⟩:=r.get h2
 have hl:=r.length
 have hn:=line63
 have fin:EP X pins σ Q w s:=⟨z,H,I,rw',q⟩
 by_cases h0:0<=i
 ·have hj:i.toNat=j:=by
   rw[seqIndex_of h0 h5] at h1
   exact z35 h1
  exact item_listR pl.isList h0 @1 (by rw[hj];simpa using ew) fin hs
 ·have hj:(i+(its.toArray.size:Int)).toNat=j:=by
   rw[seqIndex_neg @1 h4] at h1
   rw[z16,← hl]
   exact z35 h1
  exact subscriptTail_builtinR (x:=w) pl.isList.typeIs slot_list_getitem.lookup
   (wpAny_getItem_list_neg (Q:=fun r s'=>r=w/\EP X pins σ Q r s') pl.isList @1 (by rw[z16]<;>lia) @1 (by rw[hj];simpa using ew) ⟨rfl,fin⟩) hs
theorem ix_tup:IxR X (rIxT X.K):=by
 intro value slice pins s σ H x y v u Q I rx ry h hs
 obtain⟨p,xs,i,z,rfl,rfl,hq,he,q⟩:=h
 cases rx
 obtain⟨t,rfl⟩:=ry
 obtain⟨its,r,pl,hz⟩:=I.tuple hq
 obtain⟨j,h1,h2,h3,h4,h5⟩:=atI_get he
 obtain⟨w,ew,rw'⟩:=r.get h2
 have hl:=r.length
 have hn:=line63
 have fin:EP X pins σ Q w s:=⟨z,H,I,rw',q⟩
 exact subscriptTail_builtinR (x:=w) pl.typeIs slot_tuple_getitem.lookup
  (getItem_tuple (j:=j) (Q:=fun r s'=>r=w/\EP X pins σ Q r s') pl @1 @1 (by rw[z16,← hl];exact h1) (by simpa using ew) ⟨rfl,fin⟩) hs
theorem ix_str:IxR X rIxS:=by
 intro value slice pins s σ H x y v u Q I rx ry h hs
 obtain⟨z,i,c,rfl,rfl,hz,he,q⟩:=h
 obtain⟨t,rfl⟩:=rx
 obtain⟨t',rfl⟩:=ry
 obtain⟨j,h1,h2,h3,h4,h5⟩:=atI_get he
 have hl:z.cps.toList.length=z.length:=by simp[Str.length]
 rw[hl] at h1 h4 h5
 have hn:=line63
 exact tail_any (typeIs_str s z t) slot_str_getitem.lookup (getItem_str (c:=c) (by
  have e1:decide (i < -(2 ^ 63:Int))=false:=decide_eq_false @1
  have e2:decide (i ≥ 2 ^ 63)=false:=decide_eq_false @1
  rw[e1,e2,Bool.or_false]) (by rw[h1];simpa using h2) ⟨.str ⟨#[c]⟩,H,I.tok _,⟨_,rfl⟩,q⟩) hs
def rIx (K:z01):R2:=fun x y H Q=>rIxL K x y H Q\/rIxT K x y H Q\/rIxS x y H Q
theorem ix_seq:IxR X (rIx X.K):=ix_list.or (ix_tup.or ix_str)
theorem mapSeq_set (its:List Value)(n j:Nat)(u:Value):z46 (·.setIfInBounds j u) { cls:=.type "list",data:=.seq its.toArray n }={ cls:=.type "list",data:=.seq (its.set j u).toArray n }:=by
 simp[z46]
theorem Inv.lst {pins:List @12}{σ:St}{H:Hp}{s:Shared}{p:Addr}{xs:List V}(I:Inv X pins σ H s)(h:H p=some (.lst xs)) :
  ∃(its:List Value) (n:Nat),Vals xs its/\s.heap.get? p=some { cls:=.type "list",data:=.seq its.toArray n }/\xs.length<=z18:=by
 obtain⟨z,its,n,r,e⟩:=I.hok p _ h
 exact⟨its,n,r,e,z⟩
theorem Inv.lstUpd {pins:List @12}{σ:St}{H:Hp}{s:Shared}{p:Addr}{xs ys:List V}{its its':List Value}{n n':Nat}{f:Obj->Obj}(I:Inv X pins σ H s)(h:H p=some (.lst xs))
  (ho:s.heap.get? p=some { cls:=.type "list",data:=.seq its.toArray n }) (hf:f { cls:=.type "list",data:=.seq its.toArray n }={ cls:=.type "list",data:=.seq its'.toArray n' }) (r:Vals ys its') (hz:ys.length<=z18) (t:Nat) :
  Inv X pins σ (upd H p (.lst ys)) { s with heap:=s.heap.update p f,toks:=t }:=by
 have e:(s.heap.update p f).get? p=some { cls:=.type "list",data:=.seq its'.toArray n' }:=by
  rw[za9 f ho (by rw[hf]<;>rfl),hf]
 refine I.write (x:=p) (e:=p) (by rw[h];trivial) (.inl rfl) (fun b u hb q=>(za5 _ _ (zd8 hb)).trans q) ⟨_,e⟩ ?_
 exact⟨hz,its',n',r,e⟩
def rSetL:V->V->V->Hp->(Hp->Prop)->Prop:=fun o i v H Q=>∃p xs k j,o=.ref p/\i=.int k/\H p=some (.lst xs)/\ixN xs.length k=some j/\Q (upd H p (.lst (xs.set j v)))
theorem set_list:PSet X rSetL:=by
 intro pins s σ H o i v ov iv u Q I ro ri rv h
 obtain⟨p,xs,k,j,rfl,rfl,hp,hj,q⟩:=h
 cases ro
 obtain⟨t,rfl⟩:=ri
 obtain⟨its,n,r,ho,hz⟩:=I.lst hp
 obtain⟨h1,h2,h3,h4⟩:=ixN_seq hj
 have hl:=r.length
 have hn:=line63
 have I':Inv X pins σ (upd H p (.lst (xs.set j v))) { s with heap:=s.heap.update p (z46 (·.setIfInBounds j u))}:=
  I.lstUpd hp ho (mapSeq_set its n j u) (r.set rv j) (by rw[zb8];exact hz) s.toks
 by_cases h0:0<=k
 ·have hk:k.toNat=j:=by
   rw[seqIndex_of h0 h4] at h1
   exact z35 h1
  exact PySem.W.ki_setAt ho h0 @1 (by rw[z16,← hl];exact h4) (by rw[hk];exact⟨_,I',q⟩)
 ·have hk:(k+(its.toArray.size:Int)).toNat=j:=by
   rw[seqIndex_neg @1 h3] at h1
   rw[z16,← hl]
   exact z35 h1
  exact PySem.W.ki_setBack ho @1 (by rw[z16,← hl];exact h3) @1 (by rw[hk];exact⟨_,I',q⟩)
theorem slice_bounds (lo hi:Option Int)(n:Nat):(sliceBounds lo hi none n).1=((HT.sIx n 0 lo:Nat):Int)/\(sliceBounds lo hi none n).2.1=((HT.sIx n n hi:Nat):Int)/\(sliceBounds lo hi none n).2.2=1:=by
 refine⟨?_,?_,rfl⟩
 ·cases lo with
  |none=>simp[sliceBounds,HT.sIx]
  |some i=>
   simp only[sliceBounds,HT.sIx,zx4,show(1:Int) > 0 by decide,if_true]
   by_cases h:i<0
   ·simp only[h,if_true]<;>lia
   ·simp only[h,if_false]<;>lia
 ·cases hi with
  |none=>simp[sliceBounds,HT.sIx]
  |some i=>
   simp only[sliceBounds,HT.sIx,zx4,show(1:Int) > 0 by decide,if_true]
   by_cases h:i<0
   ·simp only[h,if_true]<;>lia
   ·simp only[h,if_false]<;>lia
theorem slicePick_cut (its:List Value)(lo hi:Option Int):slicePick its.toArray lo hi none=((its.drop (HT.sIx its.length 0 lo)).take (HT.sIx its.length its.length hi - HT.sIx its.length 0 lo)).toArray:=by
 obtain⟨h1,h2,h3⟩:=slice_bounds lo hi its.toArray.size
 unfold slicePick
 rw[h1,h2,h3]
 simp only[sliceRange_one,pick_run,z16]<;>rfl
def rSlL (K:z01):V->Option Int->Option Int->Hp->VK->Prop:=fun x lo hi H Q=>∃a xs,x=.ref a/\SqL K H a xs/\∀p,H p=none->Q (.ref p) (upd H p (.lst (cutV xs lo hi)))
theorem sl_list:SlR X (rSlL X.K):=by
 intro pins s σ H x v vl vu lo hi sl Q I rx hs pl pu h
 obtain⟨a,xs,rfl,hx,q⟩:=h
 cases rx
 obtain⟨its,r,ht,hz⟩:=I.list hx
 have hlen:=r.length
 refine⟨"list",_,slot_list_getitem.lookup,ht.isList.typeIs,?_⟩
 refine wpAny_getItem_list_slice ht.isList hs pl pu .none @9 ?_ (by rw[z16]<;>lia)
 rw[slicePick_cut,← hlen]
 refine⟨.ref s.heap.objs.size,_,I.laid (t':=s.toks) (o:=.lst (cutV xs lo hi)) (fun b ob q=>z06 _ q) (z32 _) ?_,rfl,q _ (I.hok.fresh (z32 _))⟩
 exact⟨z66 (cutV_length xs lo hi) hz,_,0,(r.drop (HT.sIx xs.length 0 lo)).take (HT.sIx xs.length xs.length hi - HT.sIx xs.length 0 lo),z27 _ rfl⟩
def flatV:V->Bool
 |.non=>true
 |.bl _=>true
 |.int _=>true
 |.str _=>true
 |_=>false
def eqV:V->V->Bool
 |.non,.non=>true
 |.bl a,.bl b=>a == b
 |.bl a,.int b=>(if a then 1 else 0) == b
 |.int a,.bl b=>a == (if b then 1 else 0)
 |.int a,.int b=>a == b
 |.str a,.str b=>a == b
 |_,_=>false
theorem eqAt_V {A:Around}{s:Shared}{y x:V}{u v:Value}(ry:RelV y u)(rx:RelV x v)(fy:flatV y=true)(fx:flatV x=true):zf9 A s u v (eqV y x):=by
 cases y with
 |non=>
  cases ry
  cases x with
  |non=>cases rx;exact zj0 _
  |bl b=>cases rx;exact SeqAt.EqAt.none_bool b
  |int b=>obtain⟨t,rfl⟩:=rx;exact SeqAt.EqAt.none_int b t
  |str b=>obtain⟨t,rfl⟩:=rx;exact SeqAt.EqAt.none_str b t
  |_=>exact absurd (show false=true from fx) z36
 |bl a=>
  cases ry
  cases x with
  |non=>cases rx;exact SeqAt.EqAt.bool_none a
  |bl b=>cases rx;exact SeqAt.EqAt.bool_bool a b
  |int b=>obtain⟨t,rfl⟩:=rx;exact SeqAt.EqAt.bool_int a b t
  |str b=>obtain⟨t,rfl⟩:=rx;exact SeqAt.EqAt.bool_str a b t
  |_=>exact absurd (show false=true from fx) z36
 |int a=>
  obtain⟨t',rfl⟩:=ry
  cases x with
  |non=>cases rx;exact SeqAt.EqAt.int_none a t'
  |bl b=>cases rx;exact SeqAt.EqAt.int_bool a t' b
  |int b=>obtain⟨t,rfl⟩:=rx;exact z64 a t' b t
  |str b=>obtain⟨t,rfl⟩:=rx;exact zs6 a t' b t
  |_=>exact absurd (show false=true from fx) z36
 |str a=>
  obtain⟨t',rfl⟩:=ry
  cases x with
  |non=>cases rx;exact SeqAt.EqAt.str_none a t'
  |bl b=>cases rx;exact SeqAt.EqAt.str_bool a t' b
  |int b=>obtain⟨t,rfl⟩:=rx;exact zs5 a t' b t
  |str b=>obtain⟨t,rfl⟩:=rx;exact SeqAt.EqAt.str_str a t' b t
  |_=>exact absurd (show false=true from fx) z36
 |_=>exact absurd (show false=true from fy) z36
theorem call_list_of:CallR X (.type "list") (fun xs H Q=>∃p ys,xs=[.ref p]/\(SqL X.K H p ys\/SqT X.K H p ys)/\∀l,H l=none->Q (.ref l) (upd H l (.lst ys))):=by
 intro pins s σ H xs us Q I r h
 obtain⟨p,ys,rfl,hq,q⟩:=h
 obtain⟨u,rfl,rx⟩:=vals1 r
 cases rx
 have fin:∀(its:List Value),Vals ys its->ys.length<=z18->∀(h':Heap) (c':Nat),(∀b o',s.heap.get? b=some o'->h'.get? b=some o')->
   h'.get? s.heap.objs.size=some { cls:=.type "list",dict:=none,data:=.seq its.toArray c',slots:=#[]}->EP X pins σ Q (.ref s.heap.objs.size) { s with heap:=h' }:=fun its r' hz h' c' kp e=>
  ⟨.ref s.heap.objs.size,_,I.laid (t':=s.toks) kp (z32 _) (show ObjOk X.prog X.w _ h' _ (.lst ys) from⟨hz,its,c',r',e⟩),rfl,q _ (I.hok.fresh (z32 _))⟩
 rcases hq with hq|hq
 ·obtain⟨its,r',pl,hz⟩:=I.list hq
  have hlen:=r'.length
  obtain⟨o,ho,hc,n,hd⟩:=pl.isList
  exact call_list_seq p (.inl rfl) ho hc hd (fun h' c' kp e=>fin its r' hz h' c' kp e) (by simp only[z16]<;>lia)
 ·obtain⟨its,r',pl,hz⟩:=I.tuple hq
  have hlen:=r'.length
  obtain⟨o,ho,hc,n,hd⟩:=pl
  exact call_list_seq p (.inr rfl) ho hc hd (fun h' c' kp e=>fin its r' hz h' c' kp e) (by simp only[z16]<;>lia)
theorem call_tuple_of:CallR X (.type "tuple") (fun xs H Q=>∃p ys,xs=[.ref p]/\((SqL X.K H p ys/\∀l,H l=none->Q (.ref l) (upd H l (.tup ys)))\/(SqT X.K H p ys/\Q (.ref p) H))):=by
 intro pins s σ H xs us Q I r h
 obtain⟨p,ys,rfl,h⟩:=h
 obtain⟨u,rfl,rx⟩:=vals1 r
 cases rx
 rcases h with⟨hq,q⟩|⟨hq,q⟩
 ·obtain⟨its,r',pl,hz⟩:=I.list hq
  have hlen:=r'.length
  refine call_tuple_list pl.isList (fun h' kp=>?_) (by simp only[z16]<;>lia)
  have I1:Inv X pins σ H { s with heap:=h' }:=I.kept (t':=s.toks) kp
  have I2:Inv X pins σ (upd H h'.objs.size (.tup ys)) { s with heap:=h'.push { cls:=.type "tuple",data:=.seq its.toArray }}:=
   I1.laid (t':=s.toks) (fun b o e=>z06 _ e) (z32 _) (show ObjOk X.prog X.w _ _ _ (.tup ys) from⟨hz,its,r',IsTup.new _ _⟩)
  exact⟨.ref h'.objs.size,_,I2,rfl,q _ (I1.hok.fresh (z32 _))⟩
 ·obtain⟨its,r',pl,hz⟩:=I.tuple hq
  exact call_tuple_same pl ⟨.ref p,H,I,rfl,q⟩
def tyV (K:z01)(T:String)(x:V)(H:Hp):Prop:=match x with
 |.str _=>T = "str"
 |.int _=>T = "int"
 |.ref p=>(T = "list" /\ ∃xs,SqL K H p xs)\/(T = "tuple" /\ ∃o,K.lookup p=some o/\o.cls=.type "tuple" /\ o.dict=none)\/
   (T = "dict" /\ ((∃kvs,H p=some (.dK kvs))\/∃kvs,H p=some (.dT kvs)))\/(T = "set" /\ ∃S n,H p=some (.set S n))
 |_=>False
theorem tyV_is {pins:List @12}{σ:St}{H:Hp}{s:Shared}{T:String}{x:V}{v:Value}(I:Inv X pins σ H s)(r:RelV x v)(ty:tyV X.K T x H) :
  s.TypeIs v T/\∀a,v=.ref a->∃ob,s.heap.get? a=some ob/\ob.dict=none:=by
 cases x with
 |str z=>
  obtain⟨t,rfl⟩:=r
  cases(show T = "str" from ty)
  exact⟨typeIs_str s z t,fun _ e=>nomatch e⟩
 |int i=>
  obtain⟨t,rfl⟩:=r
  cases(show T = "int" from ty)
  exact⟨typeIs_int s i t,fun _ e=>nomatch e⟩
 |ref p=>
  cases r
  rcases ty with⟨rfl,xs,hq⟩|⟨rfl,o,hk,hc,hd⟩|⟨rfl,hk⟩|⟨rfl,S,n,hk⟩
  ·obtain⟨its,_,pl,_⟩:=I.list hq
   refine⟨pl.isList.typeIs,fun a e=>?_⟩
   cases e
   obtain⟨o,n,e,c,hd,_⟩:=pl
   exact⟨o,e,hd⟩
  ·refine⟨⟨o,I.kIn p o hk,hc⟩,fun a e=>?_⟩
   cases e
   exact⟨o,I.kIn _ o hk,hd⟩
  ·have z:∃o,s.heap.get? p=some o/\o.ExactDict:=by
    rcases hk with⟨kvs,hk⟩|⟨kvs,hk⟩
    ·obtain⟨_,_,_,_,o,_,_,e,ex,_⟩:=I.hok p _ hk
     exact⟨o,e,ex⟩
    ·obtain⟨_,_,_,_,o,_,_,e,ex,_⟩:=I.hok p _ hk
     exact⟨o,e,ex⟩
   obtain⟨o,e,ex⟩:=z
   refine⟨⟨o,e,ex.1⟩,fun a e2=>?_⟩
   cases e2
   exact⟨o,e,ex.2.1⟩
  ·obtain⟨o,_,_,_,e,ex,_⟩:=I.hok p _ hk
   refine⟨⟨o,e,ex.1⟩,fun a e2=>?_⟩
   cases e2
   exact⟨o,e,ex.2.1⟩
 |_=>exact zb7 ty
def tBM0 (K:z01)(T:String)(r:V->List V->Hp->VK->Prop)(to:TE):TE:=fun σ H Q=>to σ H fun x H1=>tyV K T x H1/\r x [] H1 Q
def tBM (K:z01)(T:String)(r:V->List V->Hp->VK->Prop)(to:TE)(t:TA):TE:=fun σ H Q=>to σ H fun x H1=>tyV K T x H1/\t σ H1 fun xs H2=>r x xs H2 Q
variable {o e:Expr}{es:List Expr}{to:TE}{t:TA}{name:Str}{apos cpos:Pos}{T id:String}{r:V->List V->Hp->VK->Prop}
theorem pe_bm0 (pa:PlainAttrs T)(slot:Slot T name id)(hty:typeOf (.builtin id)=pure (.type "method_descriptor"))(hm:MtR X id r)(ho:PE X o to)
  (hbase:attributeBase o name X.env (eval o X.env)=eval o X.env:=by rfl) (hline:(apos.endLine == cpos.line)=true:=by rfl):PE X (.Call (.Attribute o name apos) [] [] cpos) (tBM0 X.K T r to):=by
 intro pins s σ H Q I h
 refine zw9 hbase hline (thn (ho pins s σ H _ I h) fun v s1 hz=>?_)
 obtain⟨x,H1,I1,r1,ty,q1⟩:=hz
 obtain⟨h1,h2⟩:=tyV_is I1 r1 ty
 exact⟨T,id,pa,slot,hty,h1,h2,zk1 rfl (zv5 (hm pins s1 σ H1 x [] v [] Q I1 r1 .nil q1))⟩
theorem pe_bm (pa:PlainAttrs T)(slot:Slot T name id)(hty:typeOf (.builtin id)=pure (.type "method_descriptor"))(hm:MtR X id r)(ho:PE X o to)(ha:PA X (e::es) t)
  (hbase:attributeBase o name X.env (eval o X.env)=eval o X.env:=by rfl)
  (hfew:((backTo cpos (starEach (e::es) X.env)).all (fun x=>!x.1) && (backToKw cpos (keywordEach [] X.env)).all (fun x=>x.1.isSome)
   && decide ((e::es).length+([]:List Keyword).length+(if([]:List Keyword).isEmpty then 0 else 1)<30))=true:=by rfl)
  (hline:(apos.endLine == cpos.line)=true:=by rfl) (hs:starEach (e::es) X.env=@15::starEach es X.env:=by rfl) (hplain:(backTo cpos (starEach es X.env)).any (·.1)=false:=by rfl) :
  PE X (.Call (.Attribute o name apos) (e::es) [] cpos) (tBM X.K T r to t):=by
 intro pins s σ H Q I h
 refine wpAny_Call_method_late hbase hfew hline rfl (thn (ho pins s σ H _ I h) fun v s1 hz=>?_)
 obtain⟨x,H1,I1,r1,ty,q1⟩:=hz
 obtain⟨h1,h2⟩:=tyV_is I1 r1 ty
 refine⟨T,id,pa,slot,hty,h1,h2,?_⟩
 have hA:=ha cpos pins s1 σ H1 _ I1 q1
 rw[hs] at hA ⊢
 refine zk1 (by show(false || (backTo cpos (starEach es X.env)).any (·.1))=false;rw[hplain]<;>rfl) (Calls.evalArgs_plain ?_)
 exact thn hA fun us s2 ⟨vs,H2,I2,r2,q2⟩=>hm pins s2 σ H2 x vs v us Q I2 r1 r2 q2
end
def MtM (X:Cx)(id:String)(r:V->List V->Hp->VK->Prop):Prop:=
 ∀(pins:List @12) (s:Shared) (σ:St) (H:Hp) (x:V) (xs:List V) (v:Value) (us:List Value) (Q:VK),Inv X pins σ H s->RelV x v->Vals xs us->r x xs H Q->
  wpAny @7 X.A (call (.builtin id) (v::us)) (EP X pins σ Q) X.xe s
theorem Vals.one {x:V}{us:List Value}(h:Vals [x] us):∃u,us=[u]/\RelV x u:=by
 cases h with
 |cons r t=>cases t;exact⟨_,rfl,r⟩
theorem Vals.two {x y:V}{us:List Value}(h:Vals [x,y] us):∃u v,us=[u,v]/\RelV x u/\RelV y v:=by
 cases h with
 |cons r t=>obtain⟨u,rfl,q⟩:=Vals.one t;exact⟨_,_,rfl,r,q⟩
theorem Vals.zero:∀{us:List Value},Vals [] us->us=[]
 |_,.nil=>rfl
theorem Vals.dropLast {xs:List V}{us:List Value}(h:Vals xs us):Vals xs.dropLast us.dropLast:=by
 induction h with
 |nil=>exact .nil
 |cons r t ih=>
  cases t with
  |nil=>exact .nil
  |cons q t'=>exact .cons r ih
theorem Vals.rep {xs:List V}{us:List Value}(h:Vals xs us):∀k:Nat,Vals (z40 k xs).flatten (z40 k us).flatten
 |0=>.nil
 |k+1=>by
  rw[z91,z91,ze0,ze0]
  exact Vals.append h (Vals.rep h k)
theorem erase_last {α:Type}(l:List α):l.eraseIdx (l.length - 1)=l.dropLast:=by
 induction l with
 |nil=>rfl
 |cons a r ih=>
  cases r with
  |nil=>rfl
  |cons b r=>
   have e:(a::b::r).length - 1=((b::r).length - 1)+1:=by
    have h1:(a::b::r).length=r.length+2:=rfl
    have h2:(b::r).length=r.length+1:=rfl
    lia
   rw[e,List.eraseIdx_cons_succ,ih]
   all_goals rfl
section
variable {X:Cx}{pins:List @12}{σ:St}{H:Hp}{s:Shared}{l:Addr}{xs ys:List V}
theorem Inv.lset {its its':List Value}{n:Nat}{f:Array Value->Array Value}{t':Nat}(I:Inv X pins σ H s)(hH:H l=some (.lst xs))
  (e:s.heap.get? l=some { cls:=.type "list",data:=.seq its.toArray n }) (hf:f its.toArray=its'.toArray) (hv:Vals ys its') (hz:ys.length<=z18) :
  Inv X pins σ (upd H l (.lst ys)) { s with heap:=s.heap.update l (z46 f),toks:=t' }:=by
 have q:=PySem.IsL.update e f
 rw[hf] at q
 refine I.write (x:=l) (e:=l) (by rw[hH];exact trivial) (.inl rfl) (fun b' u hb hu=>(za5 s.heap (z46 f) (zd8 hb)).trans hu) ⟨_,q⟩ ?_
 exact⟨hz,its',_,hv,q⟩
theorem Inv.lnew {its:List Value}{t':Nat}(I:Inv X pins σ H s)(hv:Vals ys its)(hz:ys.length<=z18) :
  Inv X pins σ (upd H s.heap.objs.size (.lst ys)) { s with heap:=s.heap.push { cls:=.type "list",data:=.seq its.toArray },toks:=t' }:=
 I.laid (fun _ _ q=>z06 _ q) (z32 _) ⟨hz,its,0,hv,z27 _ rfl⟩
theorem Inv.fresh (I:Inv X pins σ H s):H s.heap.objs.size=none:=I.hok.fresh (z32 _)
theorem Inv.lstM (I:Inv X pins σ H s)(hH:H l=some (.lst xs)):xs.length<=z18/\∃(its:List Value) (n:Nat),Vals xs its/\xs.length=its.length/\s.heap.get? l=some { cls:=.type "list",data:=.seq its.toArray n }:=by
 obtain⟨z,its,n,r,e⟩:=I.hok l _ hH
 exact⟨z,its,n,r,r.length,e⟩
theorem notLongL {n:Nat}(h:n<=z18):zd6 n=false:=by
 unfold zd6
 exact decide_eq_false @1
end
section
variable {X:Cx}
def rAppend:V->List V->Hp->VK->Prop:=fun x vs H Q=>∃l xs y,x=.ref l/\vs=[y]/\H l=some (.lst xs)/\xs.length<z18/\Q .non (upd H l (.lst (xs++[y])))
theorem mt_append:MtM X "list.append" rAppend:=by
 intro pins s σ H x vs v us Q I rx rv h
 obtain⟨l,xs,y,rfl,rfl,hH,hz,q⟩:=h
 cases rx
 obtain⟨u,rfl,ru⟩:=rv.one
 obtain⟨z,its,n,r,hl,e⟩:=I.lstM hH
 refine call_meets F.slot_list_append ⟨_,e,rfl⟩ F.entry_list_append (F.args_list_append_2 _ _) (PySem.list_append l its.toArray n u (by rw[z16];lia)) ⟨e,?_⟩
 refine⟨.non,_,I.lset (its':=its++[u]) hH e @9 (r.append (.cons ru .nil)) ?_,rfl,q⟩
 rw[z49,zk8]
 lia
def rExtend:V->List V->Hp->VK->Prop:=fun x vs H Q=>∃l b xs zs,x=.ref l/\vs=[.ref b]/\H l=some (.lst xs)/\H b=some (.lst zs)/\xs.length+zs.length<=z18/\Q .non (upd H l (.lst (xs++zs)))
theorem mt_extend:MtM X "list.extend" rExtend:=by
 intro pins s σ H x vs v us Q I rx rv h
 obtain⟨l,b,xs,zs,rfl,rfl,hH,hB,hz,q⟩:=h
 cases rx
 obtain⟨u,rfl,ru⟩:=rv.one
 cases ru
 obtain⟨z,its,n,r,hl,e⟩:=I.lstM hH
 obtain⟨z2,its2,n2,r2,hl2,e2⟩:=I.lstM hB
 have hsz:its.toArray.size+its2.toArray.size<=z18:=by rw[z16,z16];lia
 have hlong:¬ (!its.toArray.isEmpty && zd6 (its.toArray.size+its2.toArray.size))=true:=by
  rw[notLongL hsz,Bool.and_false]
  exact z36
 refine call_meets F.slot_list_extend ⟨_,e,rfl⟩ F.entry_list_extend (F.args_list_extend_2 _ _)
  (AutoSeq1.list_extend_list_list_0 l its.toArray n b its2.toArray n2 hlong (by rw[z16];lia) @1) ⟨e,e2,?_⟩
 refine⟨.non,_,I.lset (its':=its++its2) hH e @9 (r.append r2) ?_,rfl,q⟩
 rw[z49]
 lia
def rPop:V->List V->Hp->VK->Prop:=fun x vs H Q=>∃l xs y,x=.ref l/\vs=[]/\H l=some (.lst xs)/\xs[xs.length - 1]? = some y/\Q y (upd H l (.lst xs.dropLast))
theorem mt_pop:MtM X "list.pop" rPop:=by
 intro pins s σ H x vs v us Q I rx rv h
 obtain⟨l,xs,y,rfl,rfl,hH,hy,q⟩:=h
 cases rx
 have hus:=rv.zero
 subst hus
 obtain⟨z,its,n,r,hl,e⟩:=I.lstM hH
 obtain⟨u,hu,ru⟩:=r.get hy
 have hy':its.toArray[its.toArray.size - 1]? = some u:=by
  show its.toArray[its.length - 1]? = some u
  rw[← zd1,← hl]
  exact hu
 refine call_meets F.slot_list_pop ⟨_,e,rfl⟩ F.entry_list_pop (F.args_list_pop_1 _) (MeetsSeq.list_pop_last l its.toArray n u hy' (by rw[z16];lia)) ⟨e,?_⟩
 refine⟨y,_,I.lset (its':=its.dropLast) hH e ?_ r.dropLast ?_,ru,q⟩
 ·show its.toArray.eraseIdxIfInBounds (its.toArray.size - 1)=its.dropLast.toArray
  rw[z16,List.eraseIdxIfInBounds_toArray,erase_last]
 ·rw[List.length_dropLast]
  lia
theorem len_rep {α:Type}(xs:List α)(k:Nat):(z40 k xs).flatten.length=k * xs.length:=by
 induction k with
 |zero=>simp
 |succ k ih=>rw[z91,ze0,z49,ih,Nat.succ_mul,Nat.add_comm]
end
end L2
namespace Att
open PySem PySem.W PySem.Calls PyProof.Rows
theorem ints_of_wellAll {P:Params}{h:Heap}:∀(ns:List Int) (vs:List Value),WellAll P h vs (ns.map WData.int)->IntsAre vs ns:=by
 intro ns
 induction ns with
 |nil=>
  intro vs w
  rw[zk7] at w
  cases w
  exact .nil
 |cons n ns ih=>
  intro vs w
  rw[z33] at w
  cases w with
  |cons a b=>
   cases a
   exact .cons _ _ (ih _ b)
theorem script_of {l:OpenLaw}{n:Nat}(hn:l.most=some n){P:Params}{h:Heap}{args:List WData}{vals:List Value}
  (hpre:l.row.toRowW.claim.pre args=true) (hwl:WellAll P h vals args) :
  ∃a vs ns,vals=[z24 a]/\args=[WData.list (ns.map WData.int)]/\h.get? a=some { cls:=.type "list",data:=.seq vs.toArray }/\IntsAre vs ns/\ns.length<=n:=by
 have hsh:WShape.hasAll [] args [.list .int]=true:=(pre_splitW hpre).1
 have hc:l.pre.holds [] { args:=args }=true:=(pre_splitW hpre).2
 obtain⟨d,r,rfl,h1,h2⟩:=hasAllW_cons hsh
 obtain rfl:=hasAllW_nil h2
 obtain⟨xs,rfl,h3⟩:=hasW_list h1
 obtain⟨ns,rfl⟩:=items_int h3
 have hlen:ns.length<=n:=by
  unfold OpenLaw.pre at hc
  have h4:(WTm.not (.lt (.lit (.int (n:Int))) (.len (.arg 0)))).holds [] { args:=[.list (ns.map .int)]}=true:=by
   have h4:=(holds_andW hc).1
   rw[hn] at h4
   exact h4
  have h5:=condW_of h4 (w_not (w_lt w_lit (w_len_list (w_arg rfl))))
  rw[z00] at h5
  refine Nat.le_of_not_lt fun q=>?_
  have q':(n:Int)<((ns.length:Nat):Int):=by lia
  first
   |(rw[decide_eq_true q'] at h5;exact absurd h5 @3)
   |(simp at h5;lia)
 cases hwl with
 |cons w1 w2=>
  cases w2
  cases w1 with
  |list ho hall=>exact⟨_,_,ns,rfl,rfl,ho,ints_of_wellAll ns _ hall,hlen⟩
theorem post_true (l:OpenLaw)(args:List WData):l.row.toRowW.claim.post args (.bool true) args=true:=
 postW_of (r:=l.row.toRowW) (X:=(true == true))
  (show WShape.has [] (.bool true) .bool=true by first|rfl|decide|simp[WShape.has,WShape.arms,WShape.armsAll])
  (show(WTm.eq .res (.lit (.bool true))).value [] { args:=args,res:=some (.bool true),after:=args }=some (.bool (true == true)) from w_eq_bool (w_res rfl) w_lit) rfl
theorem attach_call {l:OpenLaw}{n:Nat}{q:Program}{loose:List Str}{XP:(Str->Option Value)->Heap->Prop}{YP:World->Heap->Prop}{d:DefRec}
  (hn:l.most=some n) (hdf:d.params.defaults=[])
  (call:∀(w:World) (s₀ s₁:Shared) (mg mb:Str->Option Value) (fa:Addr) (o:Obj) (pm cd doc:Value) (a:Addr) (vs:List Value) (ns:List Int),
   Ground q loose [] XP w s₀ mg mb s₁.heap->YP w s₁.heap->
   s₁.heap.get? fa=some o->o.data=.func (docDef d.name d.params d.body d.scope pm cd doc)->s₁.heap.CodeRec cd d.name->mg d.name=some (.ref fa)->
   s₁.heap.get? a=some { cls:=.type "list",data:=.seq vs.toArray }->IntsAre vs ns->ns.length<=n->s₁.gens = #[]->
   codeAny (model l.prog w) callerA (.call (.ref fa) ⟨[.ref a],[]⟩) (fun r s'=>r=.ok (.ret (.bool true))/\OldK s₁.heap s'.heap/\s'.os=s₁.os/\AllBare s'.gens) s₁) :
  WalkO q loose XP YP l.row.toRowW d [] (fun f vs=>zx1 f vs):=by
 intro w s₀ s₁ mg mb G Y fa o pm cd doc dV kV ho hd hcd hD hmg hg args vals as hpre hlay hrd hwl hlo
 obtain rfl:dV=.none:=Dflts.none hD hdf
 obtain rfl:kV=.none:=Dflts.noKw hD
 obtain⟨a,vs,ns,rfl,rfl,hobj,hints,hlen⟩:=script_of hn hpre hwl
 refine enter_call (zn3 (call w s₀ s₁ mg mb fa o pm cd doc a vs ns G Y ho (fd_plain hd) hcd hmg hobj hints hlen hg) fun r s' hq=>?_)
 obtain⟨rfl,h2,h3,h4⟩:=hq
 exact⟨.inl ⟨.bool true,.bool true,[],rfl,fun _=>rfl,.bool true,post_true l _,fun _=>⟨List.Pairwise.nil,fun _ hm=>(nomatch hm)⟩⟩,h2,h3,h4⟩
end Att
namespace L2
open PySem PySem.Spec PyProof.Rows
theorem vals_ints:∀{vs:List Value} {ns:List Int},IntsAre vs ns->Vals (ns.map V.int) vs
 |_,_,.nil=>.nil
 |_,_,.cons n t h=>.cons ⟨t,rfl⟩ (vals_ints h)
def Only (H:Hp):Prop:=∀b,H b=none\/∃o xs,H b=some (.frz o (.lst xs))
theorem law_call {P:Program}{w:World}{K:z01}{mg mb:Str->Option Value}{CX:CXT}{k:Nat}{fa a:Addr}{fd:FuncData}{x:Str}{sp:Sp}{s₁:Shared}{vs:List Value}{ns:List Int}
  (KX:K.In s₁.heap) (hns:s₁.heap.Ns z20 mg) (hb:s₁.heap.Ns builtinsNs mb) (hbb:∀x:Str,x ≠ "__name__" -> mb x=z52 x) (hlim:s₁.heap.NoLimit) (hg:s₁.gens = #[])
  (ha:s₁.heap.get? a=some { cls:=.type "list",data:=.seq vs.toArray }) (hi:IntsAre vs ns) (hl:ns.length<=z18) (hr:Room k callerA)
  (F:∀base:Heap,K.In base->base.Ns z20 mg->FnOk P w K mg base CX k fa fd [x] sp) (hbind:∀(s:Shared) (u:Value),BindsTo s fd ⟨[u],[]⟩ [(x,u)])
  (hsp:∀H:Hp,Only H->SqL K H a (ns.map V.int)->sp [.ref a] H (fun v _=>v=.bl true) fun _ _ _=>False)
  (hCX:∀H e s',CX [] H s₁ (fun _ _ _=>False) e s'->False) :
  codeAny (model P w) callerA (.call (.ref fa) ⟨[.ref a],[]⟩) (fun r s'=>r=.ok (.ret (.bool true))/\OldK s₁.heap s'.heap/\s'.os=s₁.os/\AllBare s'.gens) s₁:=by
 have rv:=vals_ints hi
 have lenV:=hi.length
 -- from an abstract heap in which nothing but the script may be tracked
 have core:∀H:Hp,Only H->SqL K H a (ns.map V.int)->HOk P w H s₁.heap->(∀b,H b≠none->b=a)->(H a≠none->K.lookup a=none)->
   codeAny (model P w) callerA (.call (.ref fa) ⟨[.ref a],[]⟩) (fun r s'=>r=.ok (.ret (.bool true))/\OldK s₁.heap s'.heap/\s'.os=s₁.os/\AllBare s'.gens) s₁:=by
  intro H hO hS hok hA hK
  have base_of:∀{b:Addr} {o:Obj},s₁.heap.get? b=some o->H b=none->(hidT s₁.heap H).get? b=some o:=fun e n=>hidT_get e n
  have noA:∀{b:Addr} {o:Obj} {es:Array DictEntry} {ep:Nat},s₁.heap.get? b=some o->o.data=.dict es ep->H b=none:=fun{b o es ep} e d=>by
   cases q:H b with
   |none=>rfl
   |some u=>
    have e':b=a:=hA b (by rw[q];simp)
    subst e'
    rw[ha] at e;cases e
    have d':Data.seq vs.toArray _=Data.dict es ep:=d
    cases d'
  have nsK:∀{b:Addr} {m:Str->Option Value},s₁.heap.Ns b m->(hidT s₁.heap H).Ns b m:=fun{b m} ⟨o,es,ep,e,d,r⟩=>⟨o,es,ep,base_of e (noA e d),d,r⟩
  have hKb:K.In (hidT s₁.heap H):=fun b o e=>base_of (KX b o e) (by
   cases q:H b with
   |none=>rfl
   |some u=>
    have e':b=a:=hA b (by rw[q];simp)
    subst e'
    rw[hK (by rw[q];simp)] at e;cases e)
  have hM:Mod K mg (hidT s₁.heap H):=⟨hKb,nsK hns,⟨mb,nsK hb,hbb⟩,let ⟨mc,h1,h2⟩:=hlim;⟨mc,nsK h1,h2⟩⟩
  have e0:Env0 P w K mg (hidT s₁.heap H) callerA [] s₁ H:=⟨rfl,hM,fun b o e=>of_hidT e,zv9 (hidT_size _ _),trivial,fun b hb=>absurd (show b∈([]:List Addr) from hb) @9,hok,.of_eq hg⟩
  refine zn3 ((F _ hKb (nsK hns)).run callerA [] s₁ H ⟨[.ref a],[]⟩ [.ref a] [.ref a] _ _ hr e0 (hbind s₁ (.ref a)) (.cons rfl .nil) (hsp H hO hS)) fun r s' h=>?_
  cases r with
  |error e=>exact(hCX H e s' h).elim
  |ok fl=>
   cases fl with
   |next=>exact zb7 h
   |brk=>exact zb7 h
   |cont=>exact zb7 h
   |ret u=>
    obtain⟨v,H',os,bare,un,hok',r',q⟩:=h
    have q':v=.bl true:=q
    subst q'
    obtain rfl:u=zf8 true:=r'
    refine⟨rfl,OldK.of_keep fun b o e=>?_,os,bare⟩
    cases q:H b with
    |none=>exact un.keep b o e q (by intro z;exact absurd (show b∈([]:List Addr) from z) @9) @9
    |some u=>
     rcases hO b with z|⟨ob,xs,z⟩
     ·rw[q] at z;cases z
     ·have z2:=un.frzs b ob _ z
      obtain⟨e1,_⟩:=hok b _ z
      obtain⟨e2,_⟩:=hok' b _ z2
      rw[e] at e1;cases e1
      exact e2
 cases hk:K.lookup a with
 |some o=>
  -- the script is one of the module's own objects
  have e:=KX a o hk
  rw[ha] at e
  cases e
  refine core (fun _=>none) (fun _=>.inl rfl) (.inr ⟨_,vs.toArray,_,hk,rfl,rfl,rfl,by rw[z16,lenV];exact hl,by simpa using rv⟩) (fun b u z=>by have z':(none:Option HO)=some u:=z;cases z') (fun b z=>absurd rfl z) fun z=>absurd rfl z
 |none=>
  refine core (fun b=>if b=a then some (.frz { cls:=.type "list",data:=.seq vs.toArray } (.lst (ns.map V.int))) else none) (fun b=>?_) (.inl (.inr ⟨{ cls:=.type "list",data:=.seq vs.toArray },if_pos rfl⟩)) (fun b u z=>?_) (fun b z=>?_) fun _=>hk
  ·by_cases hb:b=a
   ·exact .inr ⟨_,_,if_pos hb⟩
   ·exact .inl (if_neg hb)
  ·by_cases hb:b=a
   ·have z':=(if_pos hb).symm.trans z
    cases z'
    subst hb
    exact⟨ha,by rw[z00];exact hl,vs,_,rv,ha⟩
   ·have z':=(if_neg hb).symm.trans z
    cases z'
  ·by_cases hb:b=a
   ·exact hb
   ·exact absurd (if_neg hb) z
theorem walk_of {l:zp0}{n k:Nat}{q:Program}{loose:List Str}{XP:(Str->Option Value)->Heap->Prop}{YP:World->Heap->Prop}{d:DefRec}{K:Params->z01}{CX:World->CXT}{sp:World->Sp}{x:Str}
  (hn:l.most=some n) (hn2:n<=z18) (hdf:d.params.defaults=[]) (hr:Room k callerA)
  (hY:∀(w:World) (h:Heap),YP w h->(K w.params).In h)
  (F:∀(w:World) (mg:Str->Option Value) (fa:Addr) (h:Heap),(K w.params).In h->h.Ns z20 mg->mg d.name=some (.ref fa)->
   ∃fd:FuncData,(∀(s:Shared) (u:Value),BindsTo s fd ⟨[u],[]⟩ [(x,u)])/\
    ∀base:Heap,(K w.params).In base->base.Ns z20 mg->FnOk l.prog w (K w.params) mg base (CX w) k fa fd [x] (sp w))
  (hsp:∀(w:World) (H:Hp) (a:Addr) (ns:List Int),ns.length<=n->Only H->SqL (K w.params) H a (ns.map V.int)->sp w [.ref a] H (fun v _=>v=.bl true) fun _ _ _=>False)
  (hCX:∀(w:World) (H:Hp) (s:Shared) (e:Value) (s':Shared),CX w [] H s (fun _ _ _=>False) e s'->False) :
  PySem.W.WalkO q loose XP YP l.row.toRowW d [] (fun f vs=>zx1 f vs):=by
 refine Att.attach_call hn hdf fun w s₀ s₁ mg mb fa o pm cd doc a vs ns G Y ho hd hcd hmg hobj hints hlen hg=>?_
 have KX:=hY w _ Y
 obtain⟨fd,hb,hF⟩:=F w mg fa _ KX G.T.g hmg
 exact law_call KX G.T.g G.T.b G.T.builtins G.T.nolimit hg hobj hints (z66 hlen hn2) hr hF hb (fun H hO hS=>hsp w H a ns hlen hO hS) fun H e s'=>hCX w H s₁ e s'
def inClass (s:Stmt)(j:Nat):Stmt:=match s with
 |.ClassDef _ _ _ body _ _ _ _ _ _ _=>body.getD j (.Pass ⟨0,0,0,0⟩)
 |_=>.Pass ⟨0,0,0,0⟩
def defArgs (s:Stmt):Arguments:=match s with
 |.FunctionDef _ a _ _ _ _ _ _ _ _=>a
 |_=>{ posonlyargs:=[],args:=[],vararg:=none,kwonlyargs:=[],kw_defaults:=[],kwarg:=none,defaults:=[]}
def defBody (s:Stmt):List Stmt:=match s with
 |.FunctionDef _ _ b _ _ _ _ _ _ _=>b
 |_=>[]
def defScope (s:Stmt):Scope:=match s with
 |.FunctionDef _ _ _ _ _ _ sc _ _ _=>sc
 |_=>{ kind:=.function,names:=[],isGenerator:=false,isCoroutine:=false }
abbrev CX0:CXT:=fun _ _ _ _ _ _=>False
structure Fun (K:z01)(x qual:Str)(st:Stmt)(f:Addr)(fd:FuncData):Prop where
 ex:∃(oc:Value) (od:Option Addr) (kV doc pm:Value) (an:Option Addr) (cdv ct:Value) (osl:Array (Option Value)),
  fd=zg0 x qual (defArgs st) (defBody st) (defScope st) .none kV doc pm an cdv ct/\K.lookup f=some ⟨oc,od,.func fd,osl⟩/\zq1 K cdv qual=true
 kp:zf7 K (.ref f)=true
section
variable {P:Program}{w:World}{K:z01}{mg:Str->Option Value}{base:Heap}
theorem Fun.ok {x qual:Str}{st:Stmt}{f:Addr}{fd:FuncData}{N ps:List Str}{k:Nat}{sp:Sp}(F:Fun K x qual st f fd)(S:FnScope N ps (defScope st))(len:∀vs H Q E,sp vs H Q E->vs.length=ps.length)
  (hbody:∀(cdv:Value) (A:Around) (outer:List Env) (s:Shared) (H:Hp) (vs:List V) (Q:VK) (E:XK),Room k (A.deeper (envOfC qual (defScope st) s.heap.objs.size f cdv))->sp vs H Q E->
   ∃t,PSs (cxOf CX0 P w K mg base N qual (defScope st) f cdv A outer s H E).nox (defBody st) t/\t { nx:=fun _ H'=>Q .non H',rt:=Q } (start N vs) H):FnOk P w K mg base CX0 (k+1) f fd ps sp:=by
 obtain⟨oc,od,kV,doc,pm,an,cdv,ct,osl,rfl,lk,hcd⟩:=F.ex
 refine fn_of lk hcd S len fun A outer s H vs Q E hr hsp=>?_
 obtain⟨t,h,q⟩:=hbody cdv A outer s H vs Q E hr hsp
 exact⟨t,h.nox,q⟩
theorem Fun.binds {x qual:Str}{st:Stmt}{f:Addr}{fd:FuncData}{ps:List Str}(F:Fun K x qual st f fd)
  (h:∀(kV doc pm:Value) (an:Option Addr) (cdv ct:Value) (us:List Value),us.length=ps.length->bindArgs (zg0 x qual (defArgs st) (defBody st) (defScope st) .none kV doc pm an cdv ct) ⟨us,[]⟩=pure (ps.zip us)):Binds K fd ps []:=by
 obtain⟨oc,od,kV,doc,pm,an,cdv,ct,osl,rfl,lk,hcd⟩:=F.ex
 exact .all (h kV doc pm an cdv ct)
theorem fun_mk {x qual:Str}{st:Stmt}{f:Addr}{oc:Value}{od an:Option Addr}{osl:Array (Option Value)}{kV doc pm cdv ct:Value}(l:K.lookup f=some ⟨oc,od,.func (zg0 x qual (defArgs st) (defBody st) (defScope st) .none kV doc pm an cdv ct),osl⟩)
  (c:zq1 K cdv qual=true) (k:zf7 K (.ref f)=true):Fun K x qual st f (zg0 x qual (defArgs st) (defBody st) (defScope st) .none kV doc pm an cdv ct):=⟨⟨oc,od,kV,doc,pm,an,cdv,ct,osl,rfl,l,c⟩,k⟩
end
theorem hu_of {A:Around}{k:Nat}(hr:Room k A):A.units+1<cLine:=zf6 (Nat.add_le_add_left (by decide:1<=64) _) hr.units
section
variable {X:Cx}
theorem pv (i:Nat){x:Str}{pos:Pos}(hN:X.N[i]? = some x:=by rfl)(hv:Vis X.env.scope x:=by first|exact z39 rfl|exact z56 (z39 rfl)|exact z56 (z56 rfl))(hd:@6=false:=by decide)
  (hcd:(x == ("__classdict__" : Str))=false:=by decide):PE X (.Name x pos) (tVar i):=pe_var hN hv hd hcd
end
def Same (H H':Hp):Prop:=∀b o,H b=some o->H' b=some o
theorem Same.refl (H:Hp):Same H H:=fun _ _ h=>h
theorem Same.trans {H H1 H2:Hp}(a:Same H H1)(b:Same H1 H2):Same H H2:=fun c o h=>b c o (a c o h)
theorem Same.free {H H':Hp}(e:Same H H'){l:Addr}(h:H' l=Option.none):H l=Option.none:=by
 cases q:H l with
 |none=>rfl
 |some o=>
  rw[e l o q] at h
  cases h
section
variable {κ:Type}[DecidableEq κ]
end
end L2
set_option maxHeartbeats 4000000
namespace L2
open PySem PySem.Spec PyProof.Rows
theorem Qgr {α β:Type}{l:List α}{f:α->β->Sem (ForInStep β)}{g:α->β->β}(h:∀x∈l,∀c,f x c=pure (.yield (g x c))):∀c:β,forIn l c f=pure (l.foldl (fun c x=>g x c) c):=by
 induction l with
 |nil=>intro c;rfl
 |cons x l ih=>
  intro c
  rw[List.forIn_cons,h x z07,pure_bind]
  exact ih (fun y hy=>h y (z08 _ hy)) _
def Qd9 (cells:List (Str×Addr))(names:List (Str×NameKind)):List (Str×Addr):=
 names.foldl (fun c x=>if(x.2 == z45)=true then(x.1,(cells.lookup x.1).getD 0)::c else c) []
theorem Qgs {scope:Scope}{env:Env}(h:∀x∈scope.names,x.2=.free->∃c,env.cells.lookup x.1=some c):closureFor scope env=pure (Qd9 env.cells scope.names):=by
 simp only[closureFor]
 rw[Qgr (g:=fun(x:Str×NameKind) c=>if(x.2 == z45)=true then(x.1,(env.cells.lookup x.1).getD 0)::c else c) (fun x hx c=>by
  obtain⟨n,kind⟩:=x
  by_cases hk:kind=.free
  ·subst hk
   obtain⟨a,ha⟩:=h _ hx rfl
   simp[cellOf,ha]
  ·have hb:(kind == z45)=false:=by simpa using hk
   simp only[hb,z83,if_false])]
 rfl
theorem QcZ {cells:List (Str×Addr)}:∀(names:List (Str×NameKind)) (acc:List (Str×Addr)),(∀x∈names,x.2=.free->∃c,cells.lookup x.1=some c)->(∀p∈acc,cells.lookup p.1=some p.2)->
  ∀p∈names.foldl (fun c (x:Str×NameKind)=>if(x.2 == z45)=true then(x.1,(cells.lookup x.1).getD 0)::c else c) acc,cells.lookup p.1=some p.2
 | [],_,_,ha=>ha
 |(n,k)::r,acc,h,ha=>by
  rw[zl0]
  refine QcZ r _ (fun x hx=>h x (z08 _ hx)) ?_
  by_cases hk:k=.free
  ·subst hk
   obtain⟨a,e⟩:=h (n,.free) z07 rfl
   intro p hp
   simp only[beq_self_eq_true,if_true] at hp
   rcases z19.mp hp with rfl|hp
   ·show cells.lookup n=some ((cells.lookup n).getD 0)
    have e':cells.lookup n=some a:=e
    rw[e'];rfl
   ·exact ha p hp
  ·have hb:(k == z45)=false:=by simpa using hk
   simp only[hb,z83,if_false]
   exact ha
theorem QaV {cells:List (Str×Addr)}{y:Str}:∀(names:List (Str×NameKind)) (acc:List (Str×Addr)),((y,z45)∈names\/y∈acc.map (·.1))->
  y∈(names.foldl (fun c (x:Str×NameKind)=>if(x.2 == z45)=true then(x.1,(cells.lookup x.1).getD 0)::c else c) acc).map (·.1)
 | [],acc,h=>h.elim (fun z=>nomatch z) fun z=>z
 |(n,k)::r,acc,h=>by
  rw[zl0]
  refine QaV r _ ?_
  rcases h with h|h
  ·rcases z19.mp h with e|h
   ·cases e
    refine .inr ?_
    simp
   ·exact .inl h
  ·refine .inr ?_
   split
   ·exact z08 _ h
   ·exact h
theorem QaW {y:Str}:∀{l:List (Str×Addr)},y∈l.map (·.1)->∃c,l.lookup y=some c
 | [],h=>nomatch h
 |(n,a)::r,h=>by
  by_cases e:y=n
  ·subst e
   exact⟨a,by simp[z65]⟩
  ·have hb:(y == n)=false:=by simpa using e
   have hr:y∈r.map (·.1):=(z19.mp h).resolve_left e
   obtain⟨c,hc⟩:=QaW hr
   exact⟨c,by rw[z65,hb];exact hc⟩
theorem Y9 {env:Env}{y:Str}:∀{names:List (Str×NameKind)} {k:NameKind},(∀z∈names,z.2≠.cell)->
  (names.map fun(n,k)=>if(k == z45 && env.scope.kind == .function && env.kindOf n == some .cell) then(n,z87) else(n,k)).lookup y=some k->k=.cell\/k=.free->(y,z45)∈names
 | [],_,_,h,_=>by simp at h
 |(n,k0)::r,k,hc,h,hk=>by
  rw[z33] at h
  by_cases e:y=n
  ·subst e
   by_cases c:(k0 == z45 && env.scope.kind == .function && env.kindOf y == some .cell)=true
   ·have hf:k0=.free:=by
     have:=c
     simp only[z99] at this
     simpa using this.1.1
    subst hf
    exact z07
   ·have h':k0=k:=by
     rw[show(match (y,k0) with|(n,k)=>if(k == z45 && env.scope.kind == .function && env.kindOf n == some .cell)=true then(n,z87) else(n,k))=(y,k0) from if_neg c] at h
     simpa[z65] using h
    subst h'
    rcases hk with rfl|rfl
    ·exact absurd rfl (hc _ z07)
    ·exact z07
  ·have hb:(y == n)=false:=by simpa using e
   refine z08 _ (Y9 (env:=env) (k:=k) (fun z hz=>hc z (z08 _ hz)) ?_ hk)
   by_cases c:(k0 == z45 && env.scope.kind == .function && env.kindOf n == some .cell)=true
   ·rw[show(match (n,k0) with|(n,k)=>if(k == z45 && env.scope.kind == .function && env.kindOf n == some .cell)=true then(n,z87) else(n,k))=(n,z87) from if_pos c,z65,hb] at h
    exact h
   ·rw[show(match (n,k0) with|(n,k)=>if(k == z45 && env.scope.kind == .function && env.kindOf n == some .cell)=true then(n,z87) else(n,k))=(n,k0) from if_neg c,z65,hb] at h
    exact h
theorem Va {env:Env}{y:Str}:∀{names:List (Str×NameKind)},names.lookup y=some .free->
  (names.map fun(n,k)=>if(k == z45 && env.scope.kind == .function && env.kindOf n == some .cell) then(n,z87) else(n,k)).lookup y=some .cell\/
  (names.map fun(n,k)=>if(k == z45 && env.scope.kind == .function && env.kindOf n == some .cell) then(n,z87) else(n,k)).lookup y=some .free
 | [],h=>by simp at h
 |(n,k)::r,h=>by
  have ih:=@Va env y r
  show ze8 y ((if(k == z45 && env.scope.kind == .function && env.kindOf n == some .cell)=true then(n,z87) else(n,k))::_)=_\/ze8 y ((if(k == z45 && env.scope.kind == .function && env.kindOf n == some .cell)=true then(n,z87) else(n,k))::_)=_
  cases hx:y == n with
  |true=>
   simp only[z65,hx] at h
   cases h
   by_cases hc:(z45 == z45 && env.scope.kind == .function && env.kindOf n == some .cell)=true
   ·rw[if_pos hc];simp[z65,hx]
   ·rw[if_neg hc];simp[z65,hx]
  |false=>
   simp only[z65,hx] at h
   by_cases hc:(k == z45 && env.scope.kind == .function && env.kindOf n == some .cell)=true
   ·rw[if_pos hc];simp only[z65,hx];exact ih h
   ·rw[if_neg hc];simp only[z65,hx];exact ih h
structure Blk (X:Cx)(scope:Scope)(N:List Str)(ix:List (Option Nat)):Prop where
 kind:scope.kind=.function
 Qfo:∀y∈scope.names,y.2≠.cell
 names:∀y∈scope.names,y.2=.local->scope.names.lookup y.1=some .local
 free:∀y∈scope.names,y.2=.free->X.env.kindOf y.1=some .cell\/X.env.kindOf y.1=some .free
 nd:N.Nodup
 len:ix.length=N.length
 slots:∀(j i:Nat) (y:Str),ix[j]? = some (some i)->N[j]? = some y->X.N[i]? = some y/\scope.names.lookup y=some .free
def Q0 (ix:List (Option Nat))(σ:St):St:=ix.map fun o=>o.bind fun i=>(σ[i]?).join
def Cx.blk (X:Cx)(scope:Scope)(N:List Str)(pins:List @12)(C:Addr)(s:Shared)(H:Hp)(ex:List Addr):Cx:=
 { X with N:=N,s₀:=s,H₀:=H,env:=compEnvC scope (Qd9 X.env.cells scope.names) C X.env,outer:=X.stack,stack:=X.stack,ex:=ex,fn:=fun _=>false,pn:=X.pn++pins,xe:=fun _ _=>False }
def PIf (X:Cx)(ifs:List Expr)(t:TT):Prop:=
 ∀(pins:List @12) (s:Shared) (σ:St) (H:Hp) (Q:Bool->Hp->Prop),Inv X pins σ H s->t σ H Q->
  wpAny @7 X.A (forIn ifs true fun c r=>if r=true then do let ok ← isTrue c X.env (eval c X.env);pure (zj5 ok) else pure (zj5 r)) (TP X pins σ Q) X.xe s
def Qrh:TT:=fun _ H Q=>Q true H
theorem QkG {X:Cx}:PIf X [] Qrh:=fun pins s σ H Q I h=>wpAny_tests_nil ⟨H,I,h⟩
theorem QkH {X:Cx}{c:Expr}{t:TT}(h:PT X c t):PIf X [c] t:=fun pins s σ H Q I q=>wpAny_tests_one (h pins s σ H Q I q)
theorem V4 {prog:Program}{w:World}{A:Around}{R:Result->Shared->Prop}{s:Shared}{elt target iter:Expr}{ifs:List Expr}{scope:Scope}{pos:Pos}{it acc:Value}{env:Env}(I:Nat->Shared->Prop)
  (turn:∀n s,I n s->wpAny @11 A (pyNext it) (fun r s₁=>match r with
   |none=>R (.ok .next) s₁
   |some v=>wpAny @11 A (letOwnedTupleGo target it v) (fun _ s₀=>wpAny @11 A (assign target env v) (fun _ s₂=>
     wpAny @11 A (forIn ifs true fun c r=>if r=true then do let ok ← isTrue c env (eval c env);pure (zj5 ok) else pure (zj5 r)) (fun ok s₃=>
      if ok=true then wpAny @11 A (eval elt env) (fun x s₄=>
       wpAny @11 A (call (.builtin "list.append") [acc,x]) (fun _ s₅=>∃m,m<n/\I m s₅) (fun _ _=>False) s₄) (fun _ _=>False) s₃
      else ∃m,m<n/\I m s₃) (fun _ _=>False) s₂) (fun _ _=>False) s₀) (fun _ _=>False) s₁) (fun _ _=>False) s)
  (n:Nat) (h:I n s) :
  codeAny @11 A (.compLoop (.ListComp elt [⟨target,iter,ifs,0⟩] scope pos) 0 it acc env) R s:=by
 refine codeAny_loop rfl I (fun n s hI=>?_) n h
 show wpAny _ A ((compTurn (.ListComp elt [⟨target,iter,ifs,0⟩] scope pos) 0 it acc env).onRaise (fun x=>do noteFrame x env;theTreesLotGoes x)) _ _ s
 refine wpAny_noted ?_
 rw[compTurn_list]
 refine z02 (zw7 (z02 (zd2 (turn n s hI) (fun r s₁ h₁=>?_) fun _ _ h'=>h'.elim)))
 cases r with
 |none=>exact z22 h₁
 |some v=>
  refine z02 (zd2 h₁ (fun _ s₀ h₀=>?_) fun _ _ h'=>h'.elim)
  refine z02 (zd2 h₀ (fun _ s₂ h₂=>z02 (zd2 h₂ (fun ok s₃ h₃=>?_) fun _ _ h'=>h'.elim)) fun _ _ h'=>h'.elim)
  cases ok with
  |false=>exact z22 ⟨rfl,h₃⟩
  |true=>
   exact z02 (z02 (zd2 h₃ (fun x s₄ h₄=>z02 (zd2 h₄ (fun _ s₅ h₅=>z22 (z22 ⟨rfl,h₅⟩)) fun _ _ h'=>h'.elim)) fun _ _ h'=>h'.elim))
theorem HOk.track {P:Program}{w:World}{H:Hp}{h:Heap}{a:Addr}{o:HO}(x:HOk P w H h)(hn:H a=none)(new:ObjOk P w (upd H a o) h a o):HOk P w (upd H a o) h:=fun b u e=>by
 by_cases hb:b=a
 ·subst hb;rw[upd_same] at e;cases e;exact new
 ·rw[upd_ne hb] at e
  exact(x b u e).stay (fun c v _ q=>q) (fun c q=>by rw[upd_ne (ne_of_none q hn)];exact q) fun c xs q=>by rw[upd_ne (ne_of_none q hn)];exact q
theorem HOk.but {P:Program}{w:World}{H:Hp}{h h':Heap}{a:Addr}(x:HOk P w H h)(hn:H a=none)(sb:zb0 a h h'):HOk P w H h':=fun b u e=>by
 refine(x b u e).stay (fun c v hc q=>(sb.2 c ?_).trans q) (fun _ q=>q) fun _ _ q=>q
 rintro rfl
 rcases hc with rfl|hc
 ·rw[hn] at e;cases e
 ·rw[hn] at hc;cases hc
section
variable {X:Cx}
def Qdy (i j:Int):Prop:=0<j/\j<115792089237316195423570985008687907853269984665640564039457584007913129639936
theorem QiT {j:Int}(h:Qdy 0 j):j.natAbs.log2<9000:=by
 have h1:(0:Int)<j:=h.1
 have h2:j<115792089237316195423570985008687907853269984665640564039457584007913129639936:=h.2
 have e:(2:Nat) ^ 256=115792089237316195423570985008687907853269984665640564039457584007913129639936:=by decide
 have h3:j.natAbs<2 ^ 256:=by rw[e];lia
 have h4:j.natAbs.log2<256:=(Nat.log2_lt @1).mpr h3
 lia
theorem Qdz:OpR X (binaryOp .FloorDiv) (rI Qdy fun i j=>.int (i / j)):=opI fun i j _ _ _ _ _ hc q=>by
 have h1:(0:Int)<j:=hc.1
 exact floordiv_int @1 (by rw[Int.fdiv_eq_ediv_of_nonneg i @1];exact q) (.inl (PyProof.noPylong_of_log2 (QiT ⟨hc.1,hc.2⟩)))
theorem Qc0 {pins:List @12}{σ:St}{H:Hp}{s:Shared}{x:V}{u t:Value}(I:Inv X pins σ H s)(rx:RelV x u)(ty:TyOf X.K H x t) :
  ∃Z:Heap->Prop,PySem.W.KitX X.K u t Z/\Z s.heap/\u≠.builtin "__main__.__loader__#opaque" := by
 cases ty with
 |non=>cases(show u=z51 from rx);exact⟨_,PySem.W.kitx_none,z50,fun z=>nomatch z⟩
 |bl y=>cases(show u=zf8 y from rx);exact⟨_,PySem.W.kitx_bool,z50,fun z=>nomatch z⟩
 |int i=>obtain⟨t,q⟩:=(show ∃t,u=z62 i t from rx);cases q;exact⟨_,PySem.W.kitx_int,z50,fun z=>nomatch z⟩
 |str y=>obtain⟨t,q⟩:=(show ∃t,u=zq0 y t from rx);cases q;exact⟨_,PySem.W.kitx_str,z50,fun z=>nomatch z⟩
 |flt y=>obtain⟨t,q⟩:=(show ∃t,u=zv4 y t from rx);cases q;exact⟨_,PySem.W.kitx_float,z50,fun z=>nomatch z⟩
 | @lst a xs ea=>
  cases(show u=z24 a from rx)
  obtain⟨_,_,n,_,h1⟩:=(show ObjOk X.prog X.w H s.heap a (.lst xs) from I.hok a _ ea)
  exact⟨_,zn8,⟨_,h1,rfl⟩,fun z=>nomatch z⟩
 | @frz a ob xs ea=>
  cases(show u=z24 a from rx)
  obtain⟨_,_,_,n,_,h1⟩:=(show ObjOk X.prog X.w H s.heap a (.frz ob (.lst xs)) from I.hok a _ ea)
  exact⟨_,zn8,⟨_,h1,rfl⟩,fun z=>nomatch z⟩
 | @tup a xs ea=>
  cases(show u=z24 a from rx)
  obtain⟨_,_,_,p⟩:=(show ObjOk X.prog X.w H s.heap a (.tup xs) from I.hok a _ ea)
  obtain⟨o,h1,h2,_⟩:=p
  exact⟨_,zu4,⟨o,h1,h2⟩,fun z=>nomatch z⟩
 | @dK a kvs ea=>
  cases(show u=z24 a from rx)
  obtain⟨_,_,vs,_,p⟩:=(show ObjOk X.prog X.w H s.heap a (.dK kvs) from I.hok a _ ea)
  obtain⟨o,es,ep,h1,h2,_⟩:=p
  exact⟨_,zv7,⟨o,h1,h2.1⟩,fun z=>nomatch z⟩
 | @dT a kvs ea=>
  cases(show u=z24 a from rx)
  obtain⟨_,_,xs,_,o,es,ep,h1,h2,_⟩:=(show ObjOk X.prog X.w H s.heap a (.dT kvs) from I.hok a _ ea)
  exact⟨_,zv7,⟨o,h1,h2.1⟩,fun z=>nomatch z⟩
 | @ins a C dx fs ea cl ha hn htk hm=>
  cases(show u=z24 a from rx)
  obtain⟨mA,O,_⟩:=ins_get I.hok ea
  obtain⟨od,J,_⟩:=O.look
  exact⟨_,PySem.W.kitx_own (cl.get _) cl.hd ha hn htk hm,J,fun z=>nomatch z⟩
theorem QgO:∀{cs:List String} {us:List Value},Vals (cs.map V.ty) us->us=cs.map Value.type
 | [],_,.nil=>rfl
 |c::cs,_,.cons r t=>by
  cases r
  rw[QgO t];rfl
theorem Paired.get {α β:Type}{F:α->β->Prop}:∀{l:List α} {m:List β} {i:Nat} {a:α},Paired F l m->l[i]? = some a->∃b,m[i]? = some b/\F a b
 |_,_,_,_,.nil,e=>by simp at e
 |_,_,0,_,.cons r _,e=>by simp at e;subst e;exact⟨_,rfl,r⟩
 |_,_,i+1,x,.cons _ t,e=>by
  obtain⟨u,h1,h2⟩:=Paired.get (i:=i) (a:=x) t (by simpa using e)
  exact⟨u,by simpa using h1,h2⟩
end
theorem Blk.of {X:Cx}{scope:Scope}{N:List Str}{ix:List (Option Nat)}(kind:scope.kind=.function:=by rfl)
  (c1:(scope.names.all fun y=>y.2 != z87)=true:=by rfl)
  (c2:(scope.names.all fun y=>y.2 != NameKind.local || scope.names.lookup y.1 == some NameKind.local)=true:=by rfl)
  (c3:(scope.names.all fun y=>y.2 != z45 || (X.env.scope.names.lookup y.1 == some z87 || X.env.scope.names.lookup y.1 == some z45))=true:=by rfl)
  (nd:N.Nodup:=by decide +kernel) (len:ix.length=N.length:=by rfl)
  (c4:((List.zip ix N).all fun p=>match p.1 with|none=>true|some i=>X.N[i]? == some p.2 && scope.names.lookup p.2 == some z45)=true:=by rfl):Blk X scope N ix where
 kind:=kind
 Qfo:=fun y hy e=>by
  have q:=z72.mp c1 y hy
  rw[e] at q
  exact absurd q @3
 names:=fun y hy e=>by
  have q:=z72.mp c2 y hy
  rw[e] at q
  exact beq_iff_eq.mp (by simpa using q)
 free:=fun y hy e=>by
  have q:=z72.mp c3 y hy
  rw[e] at q
  have q':(X.env.scope.names.lookup y.1 == some z87 || X.env.scope.names.lookup y.1 == some z45)=true:=by simpa using q
  rcases zm8.mp q' with z|z
  ·exact .inl (beq_iff_eq.mp z)
  ·exact .inr (beq_iff_eq.mp z)
 nd:=nd
 len:=len
 slots:=fun j i y h1 h2=>by
  have hm:(some i,y)∈List.zip ix N:=by
   have e:(List.zip ix N)[j]? = some (some i,y):=by rw[List.getElem?_zip_eq_some];exact⟨h1,h2⟩
   exact z42 e
  have q:=z72.mp c4 _ hm
  have q':(X.N[i]? == some y && scope.names.lookup y == some z45)=true:=q
  obtain⟨z1,z2⟩:=z58.mp q'
  exact⟨beq_iff_eq.mp z1,beq_iff_eq.mp z2⟩
def SqB (kd:Bool)(K:z01)(H:Hp)(a:Addr)(xs:List V):Prop:=match kd with
 |true=>SqL K H a xs
 |false=>SqT K H a xs
def Itb (kd:Bool)(K:z01)(a:Addr):It:=match kd with
 |true=>Itl K a
 |false=>Itt K a
def Qri (K:z01)(tl:TE):TI:=fun σ H R=>tl σ H fun x H1=>∃a kd,x=.ref a/\(∃xs,SqB kd K H1 a xs)/\R (Itb kd K a) H1
theorem QjS {X:Cx}{tg l:Expr}{tl:TE}(hl:PE X l tl):PI X tg l (Qri X.K tl):=by
 intro pins s σ H R I h
 refine thn (hl pins s σ H _ I h) fun v s1 hz=>?_
 obtain⟨x,H1,I1,r1,q1⟩:=hz
 obtain⟨a,kd,e,⟨xs,hq⟩,q⟩:=q1
 subst e
 cases r1
 cases kd with
 |true=>
  obtain⟨its,rv,p,hz⟩:=I1.list (show SqL X.K H1 a xs from hq)
  refine wpAny_pyIter_list p.isList ?_
  refine⟨s1.heap.objs.size,[s1.heap.objs.size],_,_,H1,rfl,I1.kept (t':=s1.toks) fun b o e=>z06 _ e,turn_list a _,⟨_,z27 _ rfl,rfl,rfl⟩,fun b hb=>?_,q⟩
  have e:b=s1.heap.objs.size:=by simpa using hb
  subst e
  exact I1.fpOk (z32 _) (I1.hok.fresh (z32 _))
 |false=>
  obtain⟨its,rv,p,hz⟩:=I1.tuple (show SqT X.K H1 a xs from hq)
  refine zj6 (show s1.heap.IsTuple a its.toArray from p) ?_
  refine⟨s1.heap.objs.size,[s1.heap.objs.size],_,_,H1,rfl,I1.kept (t':=s1.toks) fun b o e=>z06 _ e,turn_tuple a _,⟨_,z27 _ rfl,rfl,rfl⟩,fun b hb=>?_,q⟩
  have e:b=s1.heap.objs.size:=by simpa using hb
  subst e
  exact I1.fpOk (z32 _) (I1.hok.fresh (z32 _))
theorem Same.upd {H:Hp}{a:Addr}{o:HO}(h:H a=none):Same H (upd H a o):=fun b u e=>by rw[upd_ne (ne_of_none e h)];exact e
theorem ls0:¬ ("left" : Str) = "salt" := by decide +kernel
theorem ls:¬ (zn4 ("left" : Str):Key)=zn4 ("salt" : Str):=fun h=>ls0 (Sum.inr.inj h)
structure ExcAt (s:Shared)(H:Hp)(h:Heap)(e:Addr)(cv:Value):Prop where
 new:s.heap.get? e=none
 free:H e=none
 tr:∃oe vs a0 T oT ts,h.get? e=some oe/\oe.cls=cv/\vs[0]? = some a0/\oe.data=.fields vs/\vs[1]? = some (.ref T)/\T≠e/\s.heap.get? T=none/\H T=none/\h.get? T=some oT/\oT.data=.fields ts/\ts[3]? = some .none
def CXe (P:Program)(w:World):CXT:=fun outer H s E ev s'=>∃e cv H',ev=.ref e/\s'.os=s.os/\AllBare s'.gens/\Un (frs outer) [] H H' s.heap s'.heap/\HOk P w H' s'.heap/\ExcAt s H' s'.heap e cv/\E cv none H'
structure QeV (X:Cx):Prop where
 stk:X.stack=X.env::X.outer
 fr:X.env.frame=some X.env.locals
 ex:X.ex=[]
section
variable {X:Cx}{pins:List @12}{σ:St}{H:Hp}{s:Shared}
theorem Inv.frames (I:Inv X pins σ H s):∀b∈frs X.stack,∃o,s.heap.get? b=some o/\∀vs,o.data≠.fields vs:=fun b hb=>(I.stack.mem hb).2
theorem QkI {l:List Env}:∀env∈l,∀a,env.frame=some a->a∈frs l:=fun env he a hf=>zo0.mpr ⟨env,he,hf⟩
structure Flew (X:Cx)(extra:List Addr)(h h':Heap):Prop where
 keep:∀b o,h.get? b=some o->b∉frs X.stack->b∉extra->h'.get? b=some o
 slot:∀b o,h.get? b=some o->b∈frs X.stack->∃sl,h'.get? b=some { o with slots:=sl }
theorem Inv.baseOf {h':Heap}{extra:List Addr}(I:Inv X pins σ H s)(hs:∀b∈frs X.stack,b=X.env.locals\/b∈X.fs)(hx:∀b∈extra,X.s₀.heap.get? b=none)(f:Flew X extra s.heap h')(hfs:∀b∈X.fs,b∈frs X.stack) :
  Un X.fs X.ex X.H₀ H X.s₀.heap h':=by
 have nx:∀b o,X.s₀.heap.get? b=some o->b∉extra:=fun b o e z=>by rw[hx b z] at e;cases e
 have nl:∀b o,X.s₀.heap.get? b=some o->b∉X.fs->b∉frs X.stack:=fun b o e n z=>by
  rcases hs b z with q|q
  ·exact absurd (z41 (z23 e) I.ok.above) (by rw[q];exact za1 _)
  ·exact n q
 refine⟨fun b o e n hb hx'=>f.keep b o (I.base.keep b o e n hb hx') (nl b o e hb) (nx b o e),fun b o e n hb hx'=>?_,I.base.free,fun b o e hx'=>?_,I.base.tups,I.base.frzs,I.base.tbls⟩
 ·obtain⟨sl,q⟩:=I.base.slot b o e n hb hx'
  obtain⟨sl',q'⟩:=f.slot b _ q (hfs b hb)
  exact⟨sl',q'⟩
 ·obtain⟨o',q⟩:=I.base.there b o e hx'
  by_cases hb:b∈frs X.stack
  ·obtain⟨sl,q'⟩:=f.slot b o' q hb
   exact⟨_,q'⟩
  ·exact⟨o',f.keep b o' q hb (nx b o e)⟩
theorem Inv.Qpn {h':Heap}{extra:List Addr}(I:Inv X pins σ H s)(hx:∀b∈extra,H b=none)(f:Flew X extra s.heap h'):HOk X.prog X.w H h':=fun a o e=>by
 have Qmw:∀b u,(∃z,H b=some z)->s.heap.get? b=some u->h'.get? b=some u:=fun b u ⟨z,hz⟩ q=>f.keep b u q (fun m=>by rw[I.stkFree b m] at hz;cases hz) fun m=>by rw[hx b m] at hz;cases hz
 refine(I.hok a o e).stay (fun b u hb q=>Qmw b u ?_ q) (fun _ q=>q) fun _ _ q=>q
 rcases hb with rfl|hb
 ·exact⟨_,e⟩
 ·exact⟨_,hb⟩
theorem QeV.QiU (d:QeV X)(b:Addr)(hb:b∈frs X.stack):b=X.env.locals\/b∈X.fs:=by
 rw[d.stk] at hb
 unfold frs at hb
 rw[zc0,d.fr] at hb
 exact z19.mp hb
theorem QeV.Qpo (d:QeV X)(b:Addr)(hb:b∈X.fs):b∈frs X.stack:=by
 rw[d.stk]
 unfold frs
 rw[zc0,d.fr]
 exact z08 _ hb
def QjT (X:Cx)(extra:List Addr)(h:Heap):Heap:=zx2 h (frs X.stack++extra)
theorem Qgt {extra:List Addr}{h:Heap}:(QjT X extra h).StaysIn h:=fun b o e=>zu3 _ e
theorem QeW {extra:List Addr}(I:Inv X pins σ H s):s.heap.FunFrames (QjT X extra s.heap) X.stack:=PySem.W.funFrames_hide I.stack fun env he a hf=>z15 _ (QkI env he a hf)
theorem Qea {extra:List Addr}{h:Heap}{b:Addr}(hb:b∈extra):(QjT X extra h).get? b=none:=zt3 _ (z04 _ hb)
theorem QkJ {extra:List Addr}{h':Heap}(I:Inv X pins σ H s)(k:(QjT X extra s.heap).StaysIn h')(u:s.heap.UpToSlots h'):Flew X extra s.heap h':=by
 refine⟨fun b o e n1 n2=>k b o (zl4 _ e fun z=>(z14.mp z).elim n1 n2),fun b o e hb=>?_⟩
 obtain⟨o',e',hd⟩:=I.frames b hb
 rw[e] at e';cases e'
 exact u b o e hd
theorem Inv.there {T:Addr}{o:HO}(I:Inv X pins σ H s)(q:H T=some o):∃ob,s.heap.get? T=some ob:=by
 have z:=I.hok T o q
 cases o with
 |lst xs=>obtain⟨_,_,_,_,e⟩:=z;exact⟨_,e⟩
 |tup xs=>obtain⟨_,_,_,ob,e,_⟩:=z;exact⟨_,e⟩
 |dK kvs=>obtain⟨_,_,_,_,ob,_,_,e,_⟩:=z;exact⟨_,e⟩
 |dT kvs=>obtain⟨_,_,_,_,ob,_,_,e,_⟩:=z;exact⟨_,e⟩
 |set S n=>obtain⟨ob,_,_,_,e,_⟩:=z;exact⟨_,e⟩
 |ins C dx fs=>obtain⟨_,_,_,e,_⟩:=z;exact⟨_,e⟩
 |own y=>obtain⟨_,e⟩:=z;exact⟨_,e⟩
 |xd fs=>obtain⟨_,⟨_,_,_,e,_⟩,_⟩:=z;exact⟨_,e⟩
 |rng lo hi=>obtain⟨_,_,_,e⟩:=z;exact⟨_,e⟩
 |frz ob u=>obtain⟨e,_⟩:=z;exact⟨_,e⟩
 |tbl ps=>exact⟨_,(show s.heap.get? T=some _ from z)⟩
 |met f y=>exact⟨_,(show s.heap.get? T=some _ from z)⟩
 |ext φ=>obtain⟨_,⟨_,e⟩,_⟩:=z;exact⟨_,e⟩
theorem Qmx {extra:List Addr}{h':Heap}{T:Addr}{oT:Obj}{ts:Array Value}(I:Inv X pins σ H s)(hex:X.ex=[])(x1:∀b∈extra,X.s₀.heap.get? b=none)(x2:∀b∈extra,H b=none)(f:Flew X extra s.heap h')
  (hB:(QjT X extra s.heap).get? T=none) (hT:h'.get? T=some oT) (hd:oT.data=.fields ts):X.s₀.heap.get? T=none/\H T=none:=by
 have nf:T∉frs X.stack:=fun z=>by
  obtain⟨o,e,nd⟩:=I.frames T z
  obtain⟨sl,q⟩:=f.slot T o e z
  rw[hT] at q;cases q
  exact nd ts hd
 have key:T∈extra\/s.heap.get? T=none:=by
  by_cases hm:T∈extra
  ·exact .inl hm
  ·refine .inr ?_
   cases e:s.heap.get? T with
   |none=>rfl
   |some o=>
    have q:(QjT X extra s.heap).get? T=some o:=zl4 _ e fun z=>(z14.mp z).elim nf hm
    rw[hB] at q;cases q
 rcases key with m|e
 ·exact⟨x1 T m,x2 T m⟩
 ·refine⟨?_,?_⟩
  ·cases q:X.s₀.heap.get? T with
   |none=>rfl
   |some o=>
    obtain⟨o',q'⟩:=I.base.there T o q (by rw[hex];simp)
    rw[e] at q';cases q'
  ·cases q:H T with
   |none=>rfl
   |some o=>
    obtain⟨ob,q'⟩:=I.there q
    rw[e] at q';cases q'
theorem Qmy {h':Heap}{extra:List Addr}{e:Addr}{cv:Value}{E:XK}(d:QeV X)(I:Inv X pins σ H s)(x1:∀b∈extra,X.s₀.heap.get? b=none)(x2:∀b∈extra,H b=none)(f:Flew X extra s.heap h')(x:ExcAt X.s₀ H h' e cv)(k:E cv none H) :
  CXe X.prog X.w X.outer X.H₀ X.s₀ E (.ref e) { s with heap:=h' }:=by
 have u:=I.baseOf d.QiU x1 f d.Qpo
 rw[d.ex] at u
 exact⟨e,cv,H,rfl,I.os,I.bare,u,I.Qpn x2 f,x,k⟩
theorem Inv.old (I:Inv X pins σ H s)(hex:X.ex=[]){b:Addr}(h:s.heap.get? b=none):X.s₀.heap.get? b=none:=by
 cases q:X.s₀.heap.get? b with
 |none=>rfl
 |some o=>
  obtain⟨o',q'⟩:=I.base.there b o q (by rw[hex];simp)
  rw[h] at q';cases q'
theorem Qpp {B h':Heap}{l:List Env}{e:Addr}{cv a0:Value}{extra:List Addr}(I:Inv X pins σ H s)(hex:X.ex=[])(x1:∀b∈extra,X.s₀.heap.get? b=none)(x2:∀b∈extra,H b=none)(f:Flew X extra s.heap h')
  (fl:Heap.FlyingW (QjT X extra s.heap) l e cv a0 h') (e1:X.s₀.heap.get? e=none) (e2:H e=none):ExcAt X.s₀ H h' e cv:=by
 obtain⟨_,_,_,oe,vs,T,oT,ts,he,⟨hc,h0⟩,hd,h1,hB,hTe,hT,hdT,h3⟩:=fl
 obtain⟨n1,n2⟩:=Qmx I hex x1 x2 f hB hT hdT
 exact⟨e1,e2,oe,vs,a0,T,oT,ts,he,hc,h0,hd,h1,hTe,n1,n2,hT,hdT,h3⟩
theorem QiV {e:Addr}{cv:Value}{E:XK}{E1:Value->Shared->Prop}(d:QeV X)(I:Inv X pins σ H s)(x:ExcAt X.s₀ H s.heap e cv)(k:E cv none H) :
  wpAny @7 X.A (leaving X.env (.ref e)) (fun _ s2=>CXe X.prog X.w X.outer X.H₀ X.s₀ E (.ref e) s2) E1 s:=by
 obtain⟨e1,e2,oe,vs,a0,T,oT,ts,he,hc,h0,hd,h1,hTe,n1,n2,hT,hdT,h3⟩:=x
 have fr:X.A.frames=some (X.env::X.outer):=by rw[I.ok.frames,d.stk]
 have x1:∀b∈[e,T],X.s₀.heap.get? b=none:=fun b hb=>by
  rcases z19.mp hb with rfl|hb
  ·exact e1
  ·rw[z38.mp hb];exact n1
 have x2:∀b∈[e,T],H b=none:=fun b hb=>by
  rcases z19.mp hb with rfl|hb
  ·exact e2
  ·rw[z38.mp hb];exact n2
 have fly:Heap.FlyingW (QjT X [e,T] s.heap) (X.env::X.outer) e cv a0 s.heap:=
  ⟨Qgt,Qea @9,by rw[← d.stk];exact QeW I,oe,vs,T,oT,ts,he,⟨hc,h0⟩,hd,h1,Qea @9,hTe,hT,hdT,h3⟩
 refine wpAny_leaves_onW fr d.fr fly fun h' fl up=>?_
 have f:Flew X [e,T] s.heap h':=QkJ I fl.1 up
 exact Qmy (s:=s) d I x1 x2 f (Qpp (B:=s.heap) I d.ex x1 x2 f fl e1 e2) k
theorem Inv.raised {e:Value}{E:XK}{s':Shared}(I:Inv X pins σ H s)(h:CXe X.prog X.w X.stack H s E e s'):∃ea cv H',e=.ref ea/\Inv X pins σ H' s'/\ExcAt s H' s'.heap ea cv/\E cv none H':=by
 obtain⟨ea,cv,H',rfl,os,bare,un,hok,x,k⟩:=h
 exact⟨ea,cv,H',rfl,I.call' (ch:=[]) os un hok bare (fun b z=>absurd z @9),x,k⟩
theorem ExcAt.older {s':Shared}{h:Heap}{e:Addr}{cv:Value}(x:ExcAt s H h e cv)(k:∀b,s.heap.get? b=none->s'.heap.get? b=none):ExcAt s' H h e cv:=by
 obtain⟨e1,e2,oe,vs,a0,T,oT,ts,he,hc,h0,hd,h1,hTe,n1,n2,r⟩:=x
 exact⟨k _ e1,e2,oe,vs,a0,T,oT,ts,he,hc,h0,hd,h1,hTe,k _ n1,n2,r⟩
end
section
variable {CX:CXT}{P:Program}{w:World}{K:z01}{mg:Str->Option Value}{base:Heap}{N:List Str}{qual:Str}{scope:Scope}{f:Addr}{cd:Value}{A:Around}{outer:List Env}{s:Shared}{H:Hp}{E:XK}
theorem QiW:QeV (cxOf CX P w K mg base N qual scope f cd A outer s H E):=⟨rfl,rfl,rfl⟩
theorem Qpq:Passes (CXe P w) (cxOf (CXe P w) P w K mg base N qual scope f cd A outer s H E) E:=fun pins σ H1 s1 e s' I h=>by
 obtain⟨ea,cv,H',rfl,I',x,k⟩:=I.raised h
 exact QiV QiW I' (x.older fun b z=>I.old rfl z) k
theorem QqN:PassesOwn (model P w) (A.deeper (envOfC qual scope s.heap.objs.size f cd)) (envOfC qual scope s.heap.objs.size f cd) (cxOf (CXe P w) P w K mg base N qual scope f cd A outer s H E).xe:=PassesOwn.leaving
end
theorem Fun.okE {P:Program}{w:World}{K:z01}{mg:Str->Option Value}{base:Heap}{x qual:Str}{st:Stmt}{f:Addr}{fd:FuncData}{N ps:List Str}{k:Nat}{sp:Sp}(F:Fun K x qual st f fd)(S:FnScope N ps (defScope st))(len:∀vs H Q E,sp vs H Q E->vs.length=ps.length)
  (hbody:∀(cdv:Value) (A:Around) (outer:List Env) (s:Shared) (H:Hp) (vs:List V) (Q:VK) (E:XK),Room k (A.deeper (envOfC qual (defScope st) s.heap.objs.size f cdv))->A.handled=none->sp vs H Q E->
   ∃t,PSs (cxOf (CXe P w) P w K mg base N qual (defScope st) f cdv A outer s H E) (defBody st) t/\t { nx:=fun _ H'=>Q .non H',rt:=Q } (start N vs) H):FnOk P w K mg base (CXe P w) (k+1) f fd ps sp:=by
 obtain⟨oc,od,kV,doc,pm,an,cdv,ct,osl,rfl,lk,hcd⟩:=F.ex
 exact fn_of lk hcd S len fun A outer s H vs Q E hr hsp=>hbody cdv A outer s H vs Q E hr hr.hd hsp
structure Qm (P:Program)(w:World)(K:z01)(mg:Str->Option Value)(base:Heap)(k:Nat)(x:Str)(ps:List Str)(sp:Sp):Prop where
 ex:∃f fd,FnOk P w K mg base (CXe P w) k f fd ps sp/\mg x=some (.ref f)/\zf7 K (.ref f)=true/\Binds K fd ps []
structure QH (P:Program)(w:World)(K:z01)(mg:Str->Option Value)(base:Heap)(C:Addr)(k:Nat)(m:Str)(ps:List Str)(sp:Sp):Prop where
 ex:∃f fd,FnOk P w K mg base (CXe P w) k f fd ps sp/\Meth K C m f/\Binds K fd ps []
structure Qar (P:Program)(w:World)(K:z01)(mg:Str->Option Value)(base:Heap)(C:Addr)(k:Nat)(x:Str)(ps:List Str)(sp:Sp):Prop where
 ex:∃f fd,FnOk P w K mg base (CXe P w) k f fd ps sp/\Mk K C f/\mg x=some (.ref C)/\Binds K fd ps []
def Ext (σ τ:St):Prop:=τ.length=σ.length/\∀(i:Nat) v,σ[i]? = some (some v)->τ[i]? = some (some v)
def Qc1 (wi:TI)(ix:List (Option Nat))(g:TG)(tc:TT)(te:TE):TE:=fun σ H Q=>wi σ H fun J H1=>∃W:Nat->Nat->List V->Hp->Prop,(∃m,W 0 m [] H1)/\∀i m ys H,W i m ys H->
 (J.stop i H/\∀D,H D=none->Q (.ref D) (upd H D (.lst ys)))\/
 (J.go i H/\∃N:List V->Hp->Prop,(∀ys' H',N ys' H'->∃m',m' < m/\W (i+1) m' ys' H')/\∀x H',J.yld i H x H'->
  g x (Q0 ix σ) H' fun τ H1'=>Ext (Q0 ix σ) τ/\tc τ H1' fun c H2=>if c=true then te τ H2 fun y H3=>ys.length<z18/\N (ys++[y]) H3 else N ys H2)
theorem Qfp {X:Cx}{elt iter tg:Expr}{pos:Pos}{ifs:List Expr}{scope:Scope}{N:List Str}{ix:List (Option Nat)}{wi:TI}{g:TG}{tc:TT}{te:TE}
  (hc:X.calm=true) (B:Blk X scope N ix) (hi:PI X tg iter wi) (hg:∀pins C s H ex,PG (X.blk scope N pins C s H ex) tg g)
  (ht:∀pins C s H ex,PIf (X.blk scope N pins C s H ex) ifs tc) (he:∀pins C s H ex,PE (X.blk scope N pins C s H ex) elt te)
  (hs:∀x,foldedSetIterable iter X.env x=pure x) {pins:List @12} {s:Shared} {σ:St} {H:Hp} {Q:VK} {pos':Pos} {use:Option (Value->Sem Unit)} {Qpr:Value->Shared->Prop} (I:Inv X pins σ H s) (h:Qc1 wi ix g tc te σ H Q)
  (fin:∀{s4:Shared} {H3:Hp} {D C:Addr} {ys:List V} {m:Str->Option Value},s4.heap.Ns C m->(∀h',zb0 C s4.heap h'->Inv X pins σ (upd H3 D (.lst ys)) { s4 with heap:=h' })->C≠X.env.locals->(∀y c,X.env.cells.lookup y=some c->c≠C)->(∀p∈X.pn++pins,p.1≠C)->X.s₀.heap.objs.size<=C->upd H3 D (.lst ys) C=none->Q (.ref D) (upd H3 D (.lst ys))->∀v,compPost @7 X.A X.xe use Qpr (.ref D) C (.ok v) s4) :
  wpAny @7 X.A (comprehension (.ListComp elt [⟨tg,iter,ifs,0⟩] scope pos) scope X.env pos' (newList []) false (eval iter X.env) use) Qpr X.xe s:=by
 have hcl:∀y∈scope.names,y.2=.free->∃c,X.env.cells.lookup y.1=some c:=fun y hy hf=>I.ok.has y.1 (B.free y hy hf)
 refine wpAny_comprehension_free (use:=use) (cl:=Qd9 X.env.cells scope.names) rfl hs (Qgs hcl) B.kind B.names ?_
 refine thn (hi pins s σ H _ I h) fun v s1 h1=>thn h1 fun itv s2 h2=>?_
 obtain⟨it,fp,tn,J,H2,e,I2,T,st2,f2,W,⟨m0,w0⟩,turn⟩:=h2
 subst e
 refine z80 (wpAny_newFunctionEnv B.Qfo (by intro y hy;simp at hy) (fun h₁ Qmz Qmm=>?_) B.kind)
 dsimp only at Qmz Qmm ⊢
 generalize hHp:s2.heap.push { cls:=.type "list",dict:=none,data:=.seq ([]:List Value).toArray }=Hq at Qmz Qmm ⊢
 generalize hD:s2.heap.objs.size=D at Qmz Qmm ⊢
 generalize hCq:Hq.objs.size=C at Qmz Qmm ⊢
 have hC:C=D+1:=by rw[← hCq,← hHp,zb4,hD]
 have hDC:D≠C:=by lia
 have below:∀b o,s2.heap.get? b=some o->b≠C/\b≠D:=fun b o e=>by
  have h1:b<D:=by rw[← hD];exact z23 e
  exact⟨z37 (z41 h1 (by rw[hC];exact z93 D)),z37 h1⟩
 have old:∀b o,s2.heap.get? b=some o->h₁.get? b=some o:=fun b o e=>Qmm.extBut b o (below b o e).1 (z06 _ (hHp▸z06 _ e))
 have Qps:h₁.get? D=some { cls:=.type "list",data:=.seq ([]:List Value).toArray }:=
  Qmm.extBut _ _ hDC (z06 _ (hHp▸hD▸z27 _ rfl))
 have H2D:H2 D=none:=I2.hok.fresh (by rw[hD];exact z32 _)
 have H2C:H2 C=none:=I2.hok.fresh (by rw[hD];lia)
 have clM:∀y c,(Qd9 X.env.cells scope.names).lookup y=some c->X.env.cells.lookup y=some c:=fun y c e=>QcZ scope.names [] hcl (fun p hp=>nomatch hp) (y,c) (za4 e)
 have Qpt:∀b∈fp,∃o,s2.heap.get? b=some o:=fun b hb=>let ⟨o,e,_⟩:=T.obj 0 _ st2 b hb;⟨o,e⟩
 have QmA:∀p∈X.pn++pins,s2.heap.get? p.1=some p.2:=fun p hp=>(I2.pin p hp).1
 have QjU:∀y c,X.env.cells.lookup y=some c->∃o,s2.heap.get? c=some o:=fun y c e=>let ⟨v,o,ho,_⟩:=I2.cell y c e;⟨o,ho⟩
 let Xb:Cx:=X.blk scope N pins C s2 H2 fp
 have okb:Xb.Ok:=by
  refine⟨I2.ok.mod,B.kind,I2.ok.glob,I2.ok.blt,?_,fun y z c e1 e2=>I2.ok.inj y z c (clM y c e1) (clM z c e2),fun y hy=>?_,fun y c hf _=>?_,I2.ok.hd,I2.ok.frames,.inl rfl,fun b hb=>?_,I2.bs,z66 I2.ok.bsz I2.sz,fun b o e hb=>?_,fun b hb hf=>?_,I2.stack,I2.stkFree⟩
  ·show s2.heap.objs.size<=C
   rw[hD];lia
  ·have hy':(y,z45)∈scope.names:=by
    rcases hy with hy|hy
    ·exact Y9 (env:=X.env) B.Qfo (show(relabel scope X.env).names.lookup y=some .cell from hy) (.inl rfl)
    ·exact Y9 (env:=X.env) B.Qfo (show(relabel scope X.env).names.lookup y=some .free from hy) (.inr rfl)
   exact QaW (QaV scope.names [] (.inl hy'))
  ·exact absurd (show false=true from hf) z36
  ·obtain⟨o,e⟩:=Qpt b hb
   refine⟨(below b o e).1,fun y c hy=>?_⟩
   exact(f2 b hb).2.2.2.2.1 y c (clM y c hy)
  ·rcases(f2 b hb).2.2.2.1 with z|z
   ·exact I2.ok.noex b o e z
   ·exact absurd (z41 (z23 e) (z66 I2.ok.bsz z)) (za1 _)
  ·rcases z19.mp (I2.stkSub b hf) with z|z
   ·exact(f2 b hb).2.1 z
   ·exact(f2 b hb).2.2.1 z
 have Qrj:(Q0 ix σ).length=N.length:=by unfold Q0;rw[z00];exact B.len
 have Qpu:∀p∈X.pn++pins,p.1∉frs X.stack:=fun p hp z=>by
  obtain⟨_,_,n1,n2,_⟩:=I2.pin p hp
  exact(z19.mp (I2.stkSub p.1 z)).elim n1 n2
 have DFs:D∉frs X.stack:=fun z=>by
  rcases z19.mp (I2.stkSub D z) with q|q
  ·have h3:=I2.lt
   rw[hD,← q] at h3
   exact absurd h3 (za1 _)
  ·exact I2.nofs (by rw[hD];exact z32 _) q
 -- at the block's start
 have Ib:Inv Xb [(D,{ cls:=.type "list",data:=.seq ([]:List Value).toArray })] (Q0 ix σ) H2 { s2 with heap:=h₁,toks:=s2.toks+([]:List (Str×Value)).length }:=by
  refine⟨okb,rfl,I2.bare,Un.kept old,⟨_,Qmz,fun a y v e1 e2 e3=>?_⟩,fun y c e=>?_,H2C,fun y c e=>I2.freeC y c (clM y c e),fun p hp=>?_,I2.hok.kept old,Qrj⟩
  ·unfold Q0 at e2
   rw[z29] at e2
   cases q:ix[a]? with
   |none=>rw[q] at e2;cases e2
   |some o=>
    rw[q] at e2
    cases o with
    |none=>cases e2
    |some i=>
     have e2':(σ[i]?).join=some v:=z35 e2
     have Qrk:σ[i]? = some (some v):=by
      cases r:σ[i]? with
      |none=>rw[r] at e2';cases e2'
      |some t=>rw[r] at e2';exact congrArg some e2'
     obtain⟨n1,n2'⟩:=B.slots a i y q e1
     have n2:(y,z45)∈scope.names:=za4 n2'
     have kf:=B.free _ n2 rfl
     obtain⟨m,_,hl⟩:=I2.loc
     obtain⟨u,r,l⟩:=hl i y v n1 Qrk (kf.elim (fun z=>.inr (.inl z)) fun z=>.inr (.inr z))
     refine⟨u,r,?_⟩
     rcases l with⟨l,_⟩|⟨_,c,hc1,hc2⟩
     ·rcases kf with z|z<;>(rw[show X.env.kindOf y=some .local from l] at z;cases z)
     ·obtain⟨c',hc'⟩:=QaW (QaV (cells:=X.env.cells) scope.names [] (.inl n2))
      have:c'=c:=z35 ((clM y c' hc').symm.trans hc1)
      subst this
      have kb:(relabel scope X.env).names.lookup y=some .cell\/(relabel scope X.env).names.lookup y=some .free:=Va n2'
      obtain⟨oc,hoc,hcd⟩:=hc2
      exact .inr ⟨kb,c',hc',oc,old _ _ hoc,hcd⟩
  ·obtain⟨v,oc,hoc,hcd⟩:=I2.cell y c (clM y c e)
   exact⟨v,oc,old _ _ hoc,hcd⟩
  ·rcases z14.mp hp with hp|hp
   ·obtain⟨p1,p2,p3,p4,p5⟩:=I2.pin p hp
    exact⟨old _ _ p1,p2,(below _ _ p1).1,Qpu p hp,p5⟩
   ·have e:p=(D,{ cls:=.type "list",data:=.seq ([]:List Value).toArray }):=by simpa using hp
    subst e
    exact⟨Qps,H2D,hDC,DFs,fun v z=>nomatch z⟩
 have stat:∀{H':Hp} {ob:Obj},(∀b∈fp,H' b=none)->∀b∈fp,FpOk Xb [(D,ob)] H' b:=fun{H' ob} hn b hb=>by
  obtain⟨o,e⟩:=Qpt b hb
  refine⟨hn b hb,(below b o e).1,okb.exfs b hb,.inl hb,fun y c hy=>(f2 b hb).2.2.2.2.1 y c (clM y c hy),fun p hp z=>?_⟩
  rcases z14.mp hp with hp|hp
  ·exact(f2 b hb).2.2.2.2.2 p hp z
  ·have q:p=(D,ob):=by simpa using hp
   subst q
   exact(below b o e).2 z.symm
 have loop:codeAny @7 X.A (.compLoop (.ListComp elt [⟨tg,iter,ifs,0⟩] scope pos) 0 (.ref it) (.ref D) (compEnvC scope (Qd9 X.env.cells scope.names) C X.env))
   (compPost @7 X.A X.xe use Qpr (.ref D) C) { s2 with heap:=h₁,toks:=s2.toks+([]:List (Str×Value)).length }:=by
  refine V4 (fun n s'=>∃i ys H' its k,Inv Xb [(D,{ cls:=.type "list",data:=.seq (z84 its) k })] (Q0 ix σ) H' s'/\tn i s'.heap/\(∀b∈fp,H' b=none)/\Vals ys its/\ys.length<=z18/\W i n ys H') ?_ m0
   ⟨0,[],H2,[],_,Ib,T.keep _ _ _ st2 fun b _ o e=>old b o e,fun b hb=>(f2 b hb).1,.nil,z67 _,w0⟩
  rintro n s3 ⟨i,ys,H3,its,k,I3,st3,fr3,hv3,hz3,w3⟩
  rcases turn i n ys H3 w3 with⟨stop,qn⟩|⟨go,N',hN,step⟩
  ·refine thn (T.done Xb rfl rfl rfl hc i _ s3 _ H3 (fun _ _=>False) I3 (stat fr3) st3 stop) fun r s4 hz=>?_
   obtain⟨hr,I4⟩:=hz
   subst hr
   obtain⟨m,hn,_⟩:=I4.loc
   have hp4:=I4.pin (D,{ cls:=.type "list",data:=.seq its.toArray k }) @9
   obtain⟨gD,nD,_,_,_⟩:=hp4
   have all:∀h',zb0 C s4.heap h'->Inv X pins σ (upd H3 D (.lst ys)) { s4 with heap:=h' }:=fun h' sb=>by
    have n3C:H3 C=none:=I4.free
    have un4:Un (frs X.stack) fp H2 H3 s2.heap s4.heap:=I4.base
    have gD':h'.get? D=some { cls:=.type "list",data:=.seq its.toArray k }:=(sb.2 D hDC).trans gD
    have up:∀b o,s2.heap.get? b=some o->h'.get? b=s4.heap.get? b:=fun b o e=>sb.2 b (below b o e).1
    refine I2.call' (ch:=fp) (s':={ s4 with heap:=h' }) I4.os ?_ ?_ I4.bare fun b hb=>⟨(f2 b hb).2.2.2.1,(f2 b hb).2.1,(f2 b hb).2.2.2.2.1,(f2 b hb).2.2.2.2.2⟩
    ·refine⟨fun b o e n hb hx=>(up b o e).trans (un4.keep b o e n hb hx),fun b o e n hb hx=>?_,fun b o e n hx=>?_,fun b o e hx=>?_,fun b xs e=>?_,fun b o u e=>?_,fun b ps e=>?_⟩
     ·obtain⟨sl,q⟩:=un4.slot b o e n hb hx
      exact⟨sl,(up b o e).trans q⟩
     ·rw[upd_ne (below b o e).2];exact un4.free b o e n hx
     ·obtain⟨o',q⟩:=un4.there b o e hx
      exact⟨o',(up b o e).trans q⟩
     ·have q:=un4.tups b xs e
      rw[upd_ne (ne_of_none q nD)];exact q
     ·have q:=un4.frzs b o u e
      rw[upd_ne (ne_of_none q nD)];exact q
     ·obtain⟨more,q⟩:=un4.tbls b ps e
      exact⟨more,by rw[upd_ne (ne_of_none q nD)];exact q⟩
    ·exact(HOk.but I4.hok n3C sb).track nD ⟨hz3,its,k,hv3,gD'⟩
   refine fin (C:=C) hn all (fun z=>?_) (fun y' c hy' z=>?_) (fun p hp z=>?_) (z66 I2.sz (by rw[hD];lia)) (by rw[upd_ne (zd8 hDC)];exact I4.free) (qn D nD) _
   ·have l1:=I2.lt
    rw[hD,← z,hC] at l1
    exact absurd l1 (Nat.not_lt.mpr (z93 D))
   ·obtain⟨o,q'⟩:=QjU y' c hy'
    exact(below c o q').1 z
   ·exact(below _ _ (QmA p hp)).1 z
  ·refine thn (T.item Xb rfl rfl rfl hc i _ s3 _ H3 (fun _ _=>False) I3 (stat fr3) st3 go) fun r s4 hz=>?_
   obtain⟨u,hr,h4⟩:=hz
   subst hr
   refine thn h4 fun _ s5 hz=>?_
   obtain⟨x5,H5,I5,r5,y5,st5,fr5⟩:=hz
   have I5':=I5.pinned (stat fr5) (T.obj _ _ st5)
   refine thn (hg pins C s2 H2 fp _ s5 _ H5 x5 u _ I5' r5 (step x5 H5 y5)) fun _ s6 hz=>?_
   obtain⟨σ6,H6,I6,QqO,q6⟩:=hz
   refine thn (ht pins C s2 H2 fp _ s6 _ _ _ I6 q6) fun ok s7 hz=>?_
   obtain⟨H7,I7,q7⟩:=hz
   have back:∀{H8:Hp} {s8:Shared} {ob:Obj} {ys':List V} {its':List Value} {k':Nat},Inv Xb ([(D,ob)]++pinsAt fp s5.heap) σ6 H8 s8->ob={ cls:=.type "list",data:=.seq its'.toArray k' }->Vals ys' its'->ys'.length<=z18->N' ys' H8->
     ∃m,m<n/\∃i ys H' its k,Inv Xb [(D,{ cls:=.type "list",data:=.seq (z84 its) k })] (Q0 ix σ) H' s8/\tn i s8.heap/\(∀b∈fp,H' b=none)/\Vals ys its/\ys.length<=z18/\W i m ys H':=fun{H8 s8 ob ys' its' k'} I8 eo hv8 hz8 n8=>by
    subst eo
    obtain⟨m',hm,w8⟩:=hN ys' H8 n8
    refine⟨m',hm,i+1,ys',H8,its',k',?_,T.keep _ _ _ st5 fun b hb o e=>(I8.pin (b,o) (z04 _ (z04 _ (mem_pinsAt hb e)))).1,fun b hb=>?_,hv8,hz8,w8⟩
    ·exact(I8.unpinned).weak QqO.1.symm QqO.2
    ·obtain⟨o,e,d⟩:=T.obj _ _ st5 b hb
     exact(I8.pin (b,o) (z04 _ (z04 _ (mem_pinsAt hb e)))).2.1
   cases ok with
   |false=>exact back I7 rfl hv3 hz3 q7
   |true=>
    have q7':te σ6 H7 fun y H3=>ys.length<z18/\N' (ys++[y]) H3:=q7
    show wpAny _ _ (eval elt _) _ _ _
    refine thn (he pins C s2 H2 fp _ s7 _ H7 _ I7 q7') fun y8 s8 hz=>?_
    obtain⟨v8,H8,I8,r8,hz8,q8⟩:=hz
    have gD8:=(I8.pin (D,{ cls:=.type "list",data:=.seq its.toArray k }) @9).1
    have nD8:=(I8.pin (D,{ cls:=.type "list",data:=.seq its.toArray k }) @9).2.1
    have hl8:=hv3.length
    refine wpAny_list_append_plain (hsz:=by rw[z16];lia) ⟨k,gD8⟩ fun h9 pl9 sb9=>?_
    obtain⟨k9,g9⟩:=pl9
    have g9':h9.get? D=some { cls:=.type "list",data:=.seq (its++[y8]).toArray k9 }:=by rw[g9];simp
    have Qpv:∀p∈pinsAt fp s5.heap,p.1≠D:=fun p hp z=>by
     obtain⟨hb,_⟩:=of_pinsAt hp
     obtain⟨o,e⟩:=Qpt p.1 hb
     exact(below _ o e).2 z
    have I8':Inv Xb (pinsAt fp s5.heap) σ6 H8 s8:=I8.pins_of fun p hp=>I8.pin p (z04 _ (z04 _ hp))
    have I9:Inv Xb (pinsAt fp s5.heap) σ6 H8 { s8 with heap:=h9 }:=I8'.turned (t':=s8.toks) (fun b o hb e=>(sb9.2 b hb).trans e) nD8 hDC (.inr (by show s2.heap.objs.size<=D;rw[hD];exact z32 _))
     (fun y c hy z=>by obtain⟨o,e⟩:=QjU y c (clM y c hy);exact(below c o e).2 z)
     (fun p hp z=>by
      rcases z14.mp hp with hp|hp
      ·exact(below _ _ (QmA p hp)).2 z
      ·exact Qpv p hp z)
    have I10:Inv Xb ([(D,{ cls:=.type "list",data:=.seq (its++[y8]).toArray k9 })]++pinsAt fp s5.heap) σ6 H8 { s8 with heap:=h9 }:=I9.pins_of fun p hp=>by
     rcases z14.mp hp with hp|hp
     ·have q:p=(D,{ cls:=.type "list",data:=.seq (its++[y8]).toArray k9 }):=by simpa using hp
      subst q
      exact⟨g9',nD8,hDC,DFs,fun v z=>nomatch z⟩
     ·exact I9.pin p (z04 _ hp)
    exact back I10 rfl (hv3.append (.cons r8 .nil)) (by rw[z49,zk8];lia) q8
 exact codeAny_compStart_list loop (T.self _ 0 _ _ _ (T.keep _ _ _ st2 fun b _ o e=>old b o e) loop)
theorem QbS {X:Cx}{elt iter tg:Expr}{y:Str}{py pos spos:Pos}{ifs:List Expr}{scope:Scope}{N:List Str}{ix:List (Option Nat)}{i0:Nat}{wi:TI}{g:TG}{tc:TT}{te:TE}
  (hc:X.calm=true) (hXN:X.N.Nodup) (hi0:X.N[i0]? = some y) (hy:Loc X.env.scope y) (B:Blk X scope N ix) (hi:PI X tg iter wi) (hg:∀pins C s H ex,PG (X.blk scope N pins C s H ex) tg g)
  (ht:∀pins C s H ex,PIf (X.blk scope N pins C s H ex) ifs tc) (he:∀pins C s H ex,PE (X.blk scope N pins C s H ex) elt te)
  (hsw:swapsWith (.ListComp elt [⟨tg,iter,ifs,0⟩] scope pos) (some (.Name y py)) spos.line X.env=pure true:=by rfl)
  (hf:X.fn y=true\/X.env.scope.names.lookup y=some .local:=by first|exact .inl rfl|exact .inr rfl|assumption)
  (hs:∀x,foldedSetIterable iter X.env x=pure x:=by intro _;rfl):PS X (.Assign [.Name y py] (.ListComp elt [⟨tg,iter,ifs,0⟩] scope pos) spos) (tAsg (Qc1 wi ix g tc te) (gName i0)):=by
 intro pins s σ H DD I h
 rw[exec_Assign_Name_used _ _ _ _ hsw]
 refine z02 (zw7 (z02 ?_))
 show wpAny _ X.A (do
  let _ ← comprehension (.ListComp elt [⟨tg,iter,ifs,0⟩] scope pos) scope X.env _ (newList []) false (eval iter X.env) (some (assign (.Name y py) X.env))) _ _ s
 refine z02 (thn (Q:=fun _ s'=>SP X pins DD .next s') ?_ fun _ s' hq=>z22 (z22 hq))
 refine Qfp hc B hi hg ht he hs I h fun{s4 H3 D C ys m} hn all c1 c2 c3 c4 c5 qn _=>?_
 show wpAny _ X.A (assign (.Name y py) X.env (.ref D)) _ _ s4
 refine wpAny_assign_Name (store_ok2 (all s4.heap (zs3 _ _)) hXN hi0 hy (show RelV (.ref D) (.ref D) from rfl) (fun s5 I5 hz=>?_) hf)
 obtain⟨a,sb,ha⟩:=hz
 refine⟨m,hn.sameBut sb fun z=>?_,fun h' sb'=>⟨_,_,I5.turned (t':=s5.toks) (it:=C) (fun b o hb e=>(sb'.2 b hb).trans e) c5 c1 (.inr c4) c2 c3,qn⟩⟩
 rcases ha with q|q
 ·exact c1 (z.trans q)
 ·exact c2 y a q z.symm
theorem QdA {X:Cx}{elt iter tg:Expr}{pos:Pos}{ifs:List Expr}{scope:Scope}{N:List Str}{ix:List (Option Nat)}{wi:TI}{g:TG}{tc:TT}{te:TE}
  (hc:X.calm=true) (B:Blk X scope N ix) (hi:PI X tg iter wi) (hg:∀pins C s H ex,PG (X.blk scope N pins C s H ex) tg g)
  (ht:∀pins C s H ex,PIf (X.blk scope N pins C s H ex) ifs tc) (he:∀pins C s H ex,PE (X.blk scope N pins C s H ex) elt te)
  (hs:∀x,foldedSetIterable iter X.env x=pure x:=by intro _;rfl):PE X (.ListComp elt [⟨tg,iter,ifs,0⟩] scope pos) (Qc1 wi ix g tc te):=by
 intro pins s σ H Q I h
 rw[eval_ListComp]
 exact Qfp hc B hi hg ht he hs I h fun{s4 H3 D C ys m} hn all _ _ _ _ _ q _=>⟨m,hn,fun h' sb=>⟨.ref D,upd H3 D (.lst ys),all h' sb,rfl,q⟩⟩
section
variable {X:Cx}
theorem QcW (hc:X.calm=true):CallR X (.builtin "all") (fun xs H Q=>∃(p:Addr) (bs:List Bool),xs=[.ref p]/\SqL X.K H p (bs.map V.bl)/\Q (.bl (bs.all fun b=>b)) H):=by
 intro pins s σ H xs us Q I r h
 obtain⟨p,bs,rfl,hp,q⟩:=h
 obtain⟨u,rfl,ru⟩:=vals1 r
 cases ru
 obtain⟨its,rv,pl,hz⟩:=I.list hp
 have lt:=pl.isList
 have ltp:p<s.heap.objs.size:=by obtain⟨o,ho,_⟩:=lt;exact z23 ho
 refine call_all_walk (wpAny_pyIter_list lt ?_)
 have hlen:=rv.length
 have W:=Walks.list (prog:=X.prog) (w:=X.w) (A:=X.A.in1) (I.ok.hd hc) s.heap.objs.size p (z37 ltp) its.toArray
 refine⟨_,_,_,_,_,_,fun j=>bs.getD j true,rfl,W,⟨⟨_,z27 _ rfl,rfl,rfl⟩,lt.at fun o e=>z06 _ e⟩,fun i v s1 Q1 E1 hP hQ=>?_,fun h' tk k=>?_⟩
 ·obtain⟨hi,hv⟩:∃hi:i<its.length,v=its[i]:=by
   have z:its.toArray[i]? = some v:=hP
   rw[zk9] at z
   obtain⟨h1,h2⟩:=z28.mp z
   exact⟨h1,h2.symm⟩
  obtain⟨b,hb⟩:∃b,bs[i]? = some b:=⟨bs[i]'(by rw[z00] at hlen;lia),z05 _⟩
  obtain⟨u,hu,rb⟩:=rv.get (show(bs.map V.bl)[i]? = some (.bl b) by rw[z29,hb];rfl)
  have e:v=.bool b:=by
   rw[z05 hi] at hu
   rw[hv,z35 hu]
   exact rb
  subst e
  have e2:bs.getD i true=b:=by rw[z09,hb];rfl
  have hQ':Q1 (bs.getD i true) s1:=hQ
  rw[e2] at hQ'
  exact z95 hQ'
 ·have e:(z63 its.toArray.size).all (fun j=>bs.getD j true)=bs.all fun b=>b:=by
   have l2:its.toArray.size=bs.length:=by rw[z16,← hlen,z00]
   rw[l2,zh7,z72,z72]
   constructor
   ·intro h b hb
    obtain⟨i,hi⟩:=zb6 hb
    have z:=h i (za3.mpr (z28.mp hi).1)
    rw[z09,hi] at z
    exact z
   ·intro h i hi
    have hi:=za3.mp hi
    rw[z09,z05 hi]
    exact h _ (z97 hi)
  rw[e]
  have I0:Inv X pins σ H { s with heap:=s.heap.push { cls:=.type "list_iterator",data:=.fields #[.ref p,.int 0 0]}}:=I.kept (t':=s.toks) fun b o z=>z06 _ z
  have fp:=I.fpOk (b:=s.heap.objs.size) (H':=H) (z32 _) I.fresh
  obtain⟨f0,f1,f2,f3,f4,f5⟩:=fp
  exact⟨.bl _,H,I0.turned (t':=tk) (it:=s.heap.objs.size) (fun b o hb z=>k b o (by simpa using hb) z) f0 f1 f3 f4 f5,rfl,q⟩
end
section
variable {X:Cx}{pins:List @12}{σ:St}{H:Hp}{s:Shared}{h':Heap}
theorem Inv.QdB {t':Nat}{ch:List Addr}(I:Inv X pins σ H s)(k:∀b o,b∉ch->s.heap.get? b=some o->h'.get? b=some o)(f:∀b∈ch,FpOk X pins H b):Inv X pins σ H { s with heap:=h',toks:=t' }:=by
 have nit:∀b u,H b=some u->b∉ch:=fun b u e z=>by rw[(f b z).1] at e;cases e
 refine I.step (g':=s.gens) (d':=s.drawn) (ch:=ch) (fun b hb=>?_) (fun b o _ _ hc e _=>k b o hc e) (fun b o _ _ hc e _=>⟨o.slots,k b o hc e⟩) (fun _ _ _ _ n=>n)
  (fun b o hc e=>⟨o,k b o hc e⟩) (fun _ _ e=>e) (fun _ _ _ e=>e) (fun b ps e=>⟨#[],by rw[e];simp⟩) (fun m hm=>?_) (fun b u e=>?_) I.bare
 ·obtain⟨f0,f1,f2,f3,f4,f5⟩:=f b hb
  exact⟨f3,f1,f4,f5⟩
 ·obtain⟨o,es,ep,ho,r⟩:=hm
  exact⟨o,es,ep,k _ o (fun z=>(f _ z).2.1 rfl) ho,r⟩
 ·refine(I.hok b u e).stay (fun c v hc q=>k c v ?_ q) (fun _ q=>q) fun _ _ q=>q
  rcases hc with z|z
  ·rw[z];exact nit b u e
  ·exact nit c _ z
theorem Inv.QmB {t':Nat}{ch:List Addr}{a:Addr}{o:HO}(I:Inv X pins σ H s)(k:∀b o,b∉ch->s.heap.get? b=some o->h'.get? b=some o)(f:∀b∈ch,FpOk X pins H b)(hp:s.heap.objs.size<=a)(new:ObjOk X.prog X.w (upd H a o) h' a o):Inv X pins σ (upd H a o) { s with heap:=h',toks:=t' }:=by
 have nit:∀b u,H b=some u->b∉ch:=fun b u e z=>by rw[(f b z).1] at e;cases e
 have hn:H a=none:=I.hok.fresh hp
 have na:∀b u,H b=some u->b≠a:=fun b u e z=>by rw[z,hn] at e;cases e
 refine I.step (g':=s.gens) (d':=s.drawn) (ch:=ch) (fun b hb=>?_) (fun b o _ _ hc e _=>k b o hc e) (fun b o _ _ hc e _=>⟨o.slots,k b o hc e⟩) (fun b o _ e n=>?_)
  (fun b o hc e=>⟨o,k b o hc e⟩) (fun b xs e=>?_) (fun b o u e=>?_) (fun b ps e=>⟨#[],?_⟩) (fun m hm=>?_) (fun b u e=>?_) I.bare
 ·obtain⟨f0,f1,f2,f3,f4,f5⟩:=f b hb
  exact⟨f3,f1,f4,f5⟩
 ·rw[upd_ne (z37 (z41 (z23 e) hp))];exact n
 ·rw[upd_ne (na _ _ e)];exact e
 ·rw[upd_ne (na _ _ e)];exact e
 ·rw[upd_ne (na _ _ e),e];simp
 ·obtain⟨o,es,ep,ho,r⟩:=hm
  exact⟨o,es,ep,k _ o (fun z=>(f _ z).2.1 rfl) ho,r⟩
 ·by_cases z:b=a
  ·subst z
   rw[upd_same] at e
   cases e
   exact new
  ·rw[upd_ne z] at e
   refine(I.hok b u e).stay (fun c v hc q=>k c v ?_ q) (fun _ q=>?_) fun _ _ q=>?_
   ·rcases hc with z|z
    ·rw[z];exact nit b u e
    ·exact nit c _ z
   ·first|exact q|(rw[upd_ne (na _ _ q)];exact q)
   ·first|exact q|(rw[upd_ne (na _ _ q)];exact q)
end
section
variable {X:Cx}
theorem QdC:CallR X (.type "int") (fun xs H Q=>∃(x:Str) (n:Int),xs=[.str x]/\ze4 x=some n/\x.length<=640/\Q (.int n) H):=by
 intro pins s σ H xs us Q I r h
 obtain⟨x,n,rfl,hn,hl,q⟩:=h
 obtain⟨u,rfl,t,rfl⟩:=vals1 r
 exact PySem.W.KIN.call_text hn hl ⟨.int n,H,I.tok _,⟨_,rfl⟩,q⟩
theorem Qeb:∀{ys:List Str} {us:List Value},Vals (ys.map V.str) us->∃l:List (Str×Tok),us=strValues l/\l.map (·.1)=ys
 | [],_,.nil=>⟨[],rfl,rfl⟩
 |y::ys,_,.cons r t=>by
  obtain⟨tk,rfl⟩:=r
  obtain⟨l,rfl,e⟩:=Qeb t
  exact⟨(y,tk)::l,rfl,by rw[z33,e]⟩
theorem Qec:∀(l:List (Str×Tok)),Vals ((l.map (·.1)).map V.str) (strValues l)
 | []=>.nil
 |p::l=>.cons ⟨p.2,rfl⟩ (Qec l)
def rJoin (K:z01):V->List V->Hp->VK->Prop:=fun x vs H Q=>∃(sep:Str) (a:Addr) (ys:List Str),x=.str sep/\vs=[.ref a]/\SqL K H a (ys.map V.str)/\JoinOk sep ys=true/\Q (.str (ze7 sep ys)) H
theorem QgP:MtR X "str.join" (rJoin X.K):=by
 intro pins s σ H x vs v us Q I rx rv h
 obtain⟨sep,a,ys,rfl,rfl,hq,ok,q⟩:=h
 obtain⟨t,rfl⟩:=rx
 obtain⟨u,rfl,ru⟩:=vals1 rv
 cases ru
 obtain⟨its,r,p,_⟩:=I.list hq
 obtain⟨l,rfl,e⟩:=Qeb r
 refine SC.join (D:=a) (l:=l) (texts:=ys) p.isList e ok fun t' k=>?_
 rw[show Txt.join sep ys=ze7 sep ys from StrLaws.glued_eq_join sep ys]
 exact⟨.str _,H,I.tok _,⟨_,rfl⟩,q⟩
theorem QeX {prog:Program}{w:World}{A:Around}{E:Value->Shared->Prop}{s:Shared}{x y:Str}{t u:Tok}{Q:Value->Shared->Prop}(hy:(y.length == 0)=false)
  (hq:∀l k,l.map (·.1)=Txt.split x y->Q (.ref s.heap.objs.size) { s with toks:=k,heap:=s.heap.push { cls:=.type "list",data:=.seq (strValues l).toArray }})
  (hsz:x.length<=z18) (hsz2:(zh2 x (z77 x y 0 x.length (x.length+1)) y.length).length<=z18) :
  wpAny @11 A (call (.builtin "str.split") [.str x t,.str y u]) Q E s:=by
 cases h1:(decide (x.length<y.length) || decide (zr9 x<zr9 y))
 ·cases hf:(z77 x y 0 x.length (x.length+1)).isEmpty
  ·refine call_meets zr8 (typeIs_str _ _ _) zq6 (zp4 _ _) (meets_str_split_sep x y t u h1 hy hf hsz hsz2) ?_
   show wants Q E _ { s with toks:=_,heap:=s.heap.push { cls:=.type "list",data:=.seq (strsFrom s.toks (zh2 x (z77 x y 0 x.length (x.length+1)) y.length)).toArray }}
   rw[strsFrom_eq]
   exact hq (numbered s.toks _) _ ((numbered_texts _ _).trans ((if_neg (ne_true_of_eq_false h1)).trans (if_neg (ne_true_of_eq_false hf))).symm)
  ·exact call_meets zr8 (typeIs_str _ _ _) zq6 (zp4 _ _) (meets_str_split_not_found x y t u h1 hy hf)
    (hq [(x,t)] s.toks ((if_neg (ne_true_of_eq_false h1)).trans (if_pos hf)).symm)
 ·exact call_meets zr8 (typeIs_str _ _ _) zq6 (zp4 _ _) (meets_str_split_cannot_occur x y t u h1)
   (hq [(x,t)] s.toks (if_pos h1).symm)
def QmC:V->List V->Hp->VK->Prop:=fun x vs H Q=>∃(z y:Str),x=.str z/\vs=[.str y]/\(y.length == 0)=false/\z.length+2<=z18/\(Txt.split z y).length<=z18/\∀l,H l=none->Q (.ref l) (upd H l (.lst ((Txt.split z y).map V.str)))
theorem split_len (x y:Str):(zh2 x (z77 x y 0 x.length (x.length+1)) y.length).length<=x.length+2:=by
 have e1:=StrLaws.occ_length_le x y 0 x.length (x.length+1)
 rw[length_partsBetween];lia
theorem QiX:MtR X "str.split" QmC:=by
 intro pins s σ H x vs v us Q I rx rv h
 obtain⟨z,y,rfl,rfl,hy,hz,hn,q⟩:=h
 obtain⟨t,rfl⟩:=rx
 obtain⟨u,rfl,ru⟩:=vals1 rv
 obtain⟨t',rfl⟩:=ru
 refine QeX hy (fun l k e=>?_) @1 (z66 (split_len z y) hz)
 refine⟨.ref s.heap.objs.size,_,I.laid (t':=k) (fun b u e=>z06 _ e) (z32 _) ?_,rfl,q _ (I.hok.fresh (z32 _))⟩
 exact⟨by rw[z00];exact hn,strValues l,0,by rw[← e];exact Qec l,z27 _ rfl⟩
def QgQ:V->List V->Hp->VK->Prop:=fun x vs H Q=>∃(z y:Str),x=.str z/\vs=[.str y]/\Q (.bl (Txt.startswith z y)) H
theorem QgR:MtR X "str.startswith" QgQ:=by
 intro pins s σ H x vs v us Q I rx rv h
 obtain⟨z,y,rfl,rfl,q⟩:=h
 obtain⟨t,rfl⟩:=rx
 obtain⟨u,rfl,ru⟩:=vals1 rv
 obtain⟨t',rfl⟩:=ru
 exact SC.startswith ⟨.bl _,H,I,rfl,q⟩
def Its (x:Str):It:=⟨fun i _=>i<x.cps.size,fun i H v H'=>H'=H/\∃c,x.cps[i]? = some c/\v=.str ⟨#[c]⟩,fun i _=>x.cps.size<=i⟩
theorem Qfq {P:Program}{w:World}{K:z01}{tg:Expr}{it:Addr}{x:Str}{t:Tok}{ty:String}
  (W:∀A':Around,A'.handled=none->Walks P w A' it [it] [it] x.cps.size (SignAt x) (fun i h=>h.IsStrIter it ty x t i))
  (hty:["enumerate","zip","dict_itemiterator","dict_reverseitemiterator","odict_iterator","itertools.zip_longest","itertools.pairwise"].contains ty=false)
  (S:∀(A:Around) (i:Nat) (s:Shared) (Q:Value->Shared->Prop) (E:Value->Shared->Prop),s.heap.IsStrIter it ty x t i->Q (.ref it) s->wpAny (model P w) A (pyIter (.ref it)) Q E s) :
  Turn P w K tg (Its x) [it] it (fun i h=>i<=x.cps.size/\h.IsStrIter it ty x t i) where
 mem:=by simp
 obj:=fun i h st b hb=>by
  have e:b=it:=by simpa using hb
  subst e
  obtain⟨_,o,e,c,d⟩:=st
  exact⟨o,e,fun v z=>by rw[d] at z;cases z⟩
 keep:=fun i h h' st k=>⟨st.1,let ⟨o,ho,r⟩:=st.2;⟨o,k it @9 o ho,r⟩⟩
 item:=by
  intro X hP hw hK hc i pins s σ H E I hf st hg
  subst hP hw hK
  refine(W X.A (I.ok.hd hc)).item i s _ _ hg st.2 fun v h' tk hv st' kk=>?_
  obtain⟨c,u,hx,rfl⟩:=hv
  have I1:Inv X pins σ H { s with heap:=h',toks:=tk }:=I.QdB (fun b o hb e=>kk b o hb e) hf
  obtain⟨o,e,cl,d⟩:=id st'
  exact⟨_,rfl,go_of (s:={ s with heap:=h',toks:=tk }) e cl d hty ⟨.str ⟨#[c]⟩,H,I1,⟨u,rfl⟩,⟨rfl,c,hx,rfl⟩,⟨hg,st'⟩,fun b hb=>(hf b hb).1⟩⟩
 done:=by
  intro X hP hw hK hc i pins s σ H E I hf st hg
  subst hP hw hK
  have e:i=x.cps.size:=Nat.le_antisymm st.1 hg
  subst e
  exact(W X.A (I.ok.hd hc)).done s _ _ st.2 fun h' tk kk=>⟨rfl,I.QdB (fun b o hb e=>kk b o hb e) hf⟩
 self:=fun A i s Q E st h=>S A i s Q E st.2 h
def Qrl (tl:TE):TI:=fun σ H R=>tl σ H fun x H1=>∃z,x=.str z/\R (Its z) H1
theorem QmD {tg l:Expr}{tl:TE}(hl:PE X l tl):PI X tg l (Qrl tl):=by
 intro pins s σ H R I h
 refine thn (hl pins s σ H _ I h) fun v s1 hz=>?_
 obtain⟨x,H1,I1,r1,q1⟩:=hz
 obtain⟨z,rfl,q⟩:=q1
 obtain⟨t,rfl⟩:=r1
 have fp:∀b∈[s1.heap.objs.size],FpOk X pins H1 b:=fun b hb=>by
  have e:b=s1.heap.objs.size:=by simpa using hb
  subst e
  exact I1.fpOk (z32 _) (I1.hok.fresh (z32 _))
 cases ha:z.cps.all (· < 128)
 ·refine wpAny_pyIter_wide ha ?_
  exact⟨s1.heap.objs.size,[s1.heap.objs.size],_,Its z,H1,rfl,I1.kept (t':=s1.toks) fun b o e=>z06 _ e,Qfq (t:=t) (fun A' hA=>Walks.strWide hA _ z t) @3 (fun _ _ _ _ _ st hQ=>wpAny_pyIter_striter_wide st hQ),⟨z67 _,_,z27 _ rfl,rfl,rfl⟩,fp,q⟩
 ·refine wpAny_pyIter_ascii ha ?_
  exact⟨s1.heap.objs.size,[s1.heap.objs.size],_,Its z,H1,rfl,I1.kept (t':=s1.toks) fun b o e=>z06 _ e,Qfq (t:=t) (fun A' hA=>Walks.strAscii hA _ z t) @3 (fun _ _ _ _ _ st hQ=>wpAny_pyIter_striter_ascii st hQ),⟨z67 _,_,z27 _ rfl,rfl,rfl⟩,fp,q⟩
def Ite (K:z01)(a:Addr):It:=
 ⟨fun i H=>∃xs x,SqL K H a xs/\xs[i]? = some x,fun i H v H'=>∃T x,H T=none/\v=.ref T/\H'=upd H T (.tup [.int (i:Nat),x])/\∀xs,SqL K H a xs->xs[i]? = some x,fun i H=>∃xs,SqL K H a xs/\xs.length<=i⟩
theorem QgS {P:Program}{w:World}{K:z01}{es:List Expr}{k:Nat}{tp:Pos}(a e it:Addr)(hne:e≠it):Turn P w K (.Tuple es k tp) (Ite K a) [e,it] e (fun i h=>(∃old,IsEnum h e it ((i:Nat):Int) old)/\h.IsListIter it a i) where
 mem:=by simp
 obj:=fun i h st b hb=>by
  obtain⟨⟨old,he⟩,o,ho,c,d⟩:=st
  rcases z19.mp hb with rfl|hb
  ·exact⟨_,he,fun v z=>by cases z⟩
  ·have q:b=it:=by simpa using hb
   subst q
   exact⟨o,ho,fun v z=>by rw[d] at z;cases z⟩
 keep:=fun i h h' st k=>by
  obtain⟨⟨old,he⟩,hit⟩:=st
  exact⟨⟨old,k e @9 _ he⟩,hit.at fun o q=>k it @9 o q⟩
 item:=by
  intro X hP hw hK hc i pins s σ H E I hf st hg
  subst hP hw hK
  obtain⟨⟨old,he⟩,hit⟩:=st
  obtain⟨xs,x,hq,hx⟩:=hg
  obtain⟨its,rv,p,hz⟩:=I.list hq
  obtain⟨u,hu,ru⟩:=rv.get hx
  refine wpAny_pyNext_enum_item he hit p.isList (x:=u) (by simpa using hu) hne fun h1 heo hit1 ht1 hz1 hk1=>?_
  refine⟨_,rfl,zu2 heo fun h2 he2 hs2=>?_⟩
  have hel:e<s.heap.objs.size:=z23 he
  have hT:H s.heap.objs.size=none:=I.hok.fresh (z32 _)
  have kk:∀b o,b∉[e,it]->s.heap.get? b=some o->h2.get? b=some o:=fun b o hb q=>by
   have nb:b≠e:=fun z=>hb (by simp[z])
   have ni:b≠it:=fun z=>hb (by simp[z])
   exact(hs2.2 b nb).trans (hk1 b o nb ni q)
  have gT:h2.get? s.heap.objs.size=some { cls:=.type "tuple",data:=.seq #[.int i s.toks,u]}:=(hs2.2 _ (z85 hel)).trans ht1
  -- the heap ahead of the tuple
  have I1:Inv X pins σ (upd H s.heap.objs.size (.tup [.int (i:Nat),x])) { s with heap:=h2,toks:=s.toks+1 }:=I.QmB kk hf (z32 _) ⟨by show 2<=z18;decide,[.int i s.toks,u],.cons ⟨_,rfl⟩ (.cons ru .nil),⟨_,gT,rfl,_,rfl⟩⟩
  refine⟨.ref s.heap.objs.size,_,I1,rfl,⟨s.heap.objs.size,x,hT,rfl,rfl,fun ys hy=>by rw[I.list_inj hy hq];exact hx⟩,⟨⟨u,?_⟩,hit1.extBut hs2.extBut (zd8 hne)⟩,fun b hb=>?_⟩
  ·have:((i+1:Nat):Int)=(i:Int)+1:=by push_cast;rfl
   rw[this];exact he2
  ·have nb:b≠s.heap.objs.size:=by
    rcases z19.mp hb with rfl|hb
    ·exact z37 hel
    ·have q:b=it:=by simpa using hb
     subst q
     obtain⟨o,ho,_⟩:=hit
     exact z37 (z23 ho)
   rw[upd_ne nb]
   exact(hf b hb).1
 done:=by
  intro X hP hw hK hc i pins s σ H E I hf st hg
  subst hP hw hK
  obtain⟨⟨old,he⟩,hit⟩:=st
  obtain⟨xs,hq,hx⟩:=hg
  obtain⟨its,rv,p,hz⟩:=I.list hq
  have hl:=rv.length
  exact wpAny_pyNext_enum_end (I.ok.hd hc) he hit p.isList (by simp;lia) fun h' eb=>⟨rfl,I.QdB (ch:=[e,it]) (t':=s.toks) (fun b o hb q=>eb b o (fun z=>hb (by simp[z])) q) hf⟩
 self:=fun _ _ _ _ _ st h=>let ⟨_,he⟩:=st.1;zk2 he h
theorem QgT:z52 "enumerate" = some (.type "enumerate"):=by decide +kernel
end
end L2
namespace L2
open PySem PySem.Spec PyProof.Rows Builtin.Str
theorem QjV {a b:Str}(h:a.cps=b.cps):a=b:=by
 cases a;cases b;exact congrArg Str.mk h
theorem Qfr (a b:Str):(a++b).cps=a.cps++b.cps:=rfl
def cutAt (c:Nat):List Nat->List (List Nat)
 | []=>[[]]
 |d::r=>if d=c then[]::cutAt c r else match cutAt c r with
  | []=>[[d]]
  |h::t=>(d::h)::t
theorem QiY (c:Nat)(l:List Nat):∃h t,cutAt c l=h::t:=by
 cases l with
 |nil=>exact⟨_,_,rfl⟩
 |cons d r=>
  unfold cutAt
  split
  ·exact⟨_,_,rfl⟩
  ·split<;>exact⟨_,_,rfl⟩
theorem Qed (c:Nat):∀(w r:List Nat),c∉w->cutAt c (w++c::r)=w::cutAt c r
 | [],r,_=>by
  show cutAt c (c::r)=_
  rw[cutAt,if_pos rfl]
 |d::w,r,h=>by
  have nd:d≠c:=fun z=>h (z▸z07 ..)
  show cutAt c (d::(w++c::r))=_
  rw[cutAt,if_neg nd,Qed c w r fun z=>h (z08 _ z)]
theorem Qfs (c:Nat):∀(w:List Nat),c∉w->cutAt c w=[w]
 | [],_=>rfl
 |d::w,h=>by
  have nd:d≠c:=fun z=>h (z▸z07 ..)
  rw[cutAt,if_neg nd,Qfs c w fun z=>h (z08 _ z)]
theorem QkK (x:Str)(c:Nat):occurrences x ⟨#[c]⟩ 0 x.length (x.length+1)=(zb1 0 (x.length+1)).filter (fun i=>x.cps.toList[i]? == some c):=by
 rw[StrLaws.occ_eq]
 have key:∀(m a:Nat) (arr:Array Nat) (free:Nat),a+m=x.length+1->free<=a->arr.size<=a->
   (forIn (m:=Id) (zb1 a m) (arr,free) (zo7 x ⟨#[c]⟩ x.length (x.length+1))).run.fst.toList=arr.toList++(zb1 a m).filter (fun i=>x.cps.toList[i]? == some c):=by
  intro m
  induction m with
  |zero=>intro a arr free _ _ _;simp
  |succ m ih=>
   intro a arr free h1 h2 h3
   rw[zp6,List.forIn_cons]
   by_cases hc:x.cps.toList[a]? = some c
   ·have hs:=(zn5 x c a).mpr hc
    have hcond:((arr.size<x.length+1/\free<=a)/\a+(⟨#[c]⟩:Str).length<=x.length)/\subAt x ⟨#[c]⟩ a=true:=⟨⟨⟨by lia,h2⟩,hs.1⟩,hs.2⟩
    simp only[zo7,if_pos hcond]
    have e:=ih (a+1) (arr.push a) (a+1) @1 (z32 _) (by rw[Array.size_push];lia)
    have e':(zj9 (fun i=>x.cps.toList[i]? == some c) (a::zb1 (a+1) m))=a::zj9 (fun i=>x.cps.toList[i]? == some c) (zb1 (a+1) m):=by
     rw[z54,if_pos (by rw[hc];exact beq_self_eq_true _)]
    rw[e']
    have e2:arr.toList++a::zj9 (fun i=>x.cps.toList[i]? == some c) (zb1 (a+1) m)=(arr.push a).toList++zj9 (fun i=>x.cps.toList[i]? == some c) (zb1 (a+1) m):=by simp
    rw[e2,← e]
    rfl
   ·have hcond:¬ (((arr.size<x.length+1/\free<=a)/\a+(⟨#[c]⟩:Str).length<=x.length)/\subAt x ⟨#[c]⟩ a=true):=fun z=>hc ((zn5 x c a).mp ⟨z.1.2,z.2⟩)
    simp only[zo7,if_neg hcond]
    have e:=ih (a+1) arr free @1 @1 @1
    have e':(zj9 (fun i=>x.cps.toList[i]? == some c) (a::zb1 (a+1) m))=zj9 (fun i=>x.cps.toList[i]? == some c) (zb1 (a+1) m):=by
     rw[z54,if_neg (by simpa using hc)]
    rw[e',← e]
    rfl
 have:=key (x.length+1) 0 #[] 0 @1 (z32 _) @9
 simpa using this
theorem QeY (x y:Str):Txt.split x y=partsBetween x (occurrences x y 0 x.length (x.length+1)) y.length:=by
 unfold Txt.split
 split
 ·rename_i h
  rw[PySem.W.occ_nil_of_no x y _ fun i hi=>?_,zv6]
  rcases zm8.mp h with h|h
  ·have:=of_decide_eq_true h;lia
  ·cases e:subAt x y i
   ·rfl
   ·have:=PySem.W.kind_le x y e;have:=of_decide_eq_true h;lia
 ·split
  ·rename_i h;rw[List.isEmpty_iff.mp h,zv6]
  ·rfl
theorem QbT (x:Str)(i j:Nat):strSub x i j=⟨((x.cps.toList.drop i).take (j - i)).toArray⟩:=QjV (by
 have:=StrLaws.strSub_toList x i j
 rw[← this])
theorem Qft (x:Str){a k d:Nat}(h:a<k)(hd:x.cps.toList[a]? = some d):strSub x a k=⟨(d::(strSub x (a+1) k).cps.toList).toArray⟩:=by
 rw[QbT,QbT]
 have e1:x.cps.toList.drop a=d::x.cps.toList.drop (a+1):=by
  obtain⟨h1,h2⟩:=z28.mp hd
  rw[← h2];exact zb3 h1
 rw[e1,show k - a=(k - (a+1))+1 by lia,List.take_succ_cons]
theorem Qgu (x:Str){a d:Nat}(hd:x.cps.toList[a]? = some d)(ha:a<x.length):∀(cuts:List Nat),(∀k∈cuts,a<k)->∃h t,zi0 x 1 (a+1) cuts=h::t/\zi0 x 1 a cuts=⟨(d::h.cps.toList).toArray⟩::t
 | [],_=>⟨_,[],rfl,by
   show[strSub x a x.length]=_
   rw[Qft x ha hd]⟩
 |k::r,h=>⟨_,_,rfl,by
   show strSub x a k::_=_
   rw[Qft x (h k (z07 ..)) hd]⟩
theorem QgU (x:Str)(c:Nat):∀(m a:Nat),a+m=x.length->zi0 x 1 a ((zb1 a (m+1)).filter (fun i=>x.cps.toList[i]? == some c))=(cutAt c (x.cps.toList.drop a)).map fun l=>(⟨l.toArray⟩:Str):=by
 have hlen:x.cps.toList.length=x.length:=z47
 intro m
 induction m with
 |zero=>
  intro a ha
  have e0:x.cps.toList[a]? = none:=zg6 @1
  have e1:x.cps.toList.drop a=[]:=List.drop_eq_nil_of_le @1
  have e2:(zb1 a (0+1)).filter (fun i=>x.cps.toList[i]? == some c)=[]:=by
   rw[zp6,z54,e0]
   rfl
  rw[e2,e1]
  show[strSub x a x.length]=[(⟨[].toArray⟩:Str)]
  rw[QbT,e1,List.take_nil]
 |succ m ih=>
  intro a ha
  have hlt:a<x.cps.toList.length:=by lia
  obtain⟨d,hd⟩:∃d,x.cps.toList[a]? = some d:=⟨_,z05 hlt⟩
  have e1:x.cps.toList.drop a=d::x.cps.toList.drop (a+1):=by
   obtain⟨h1,h2⟩:=z28.mp hd
   rw[← h2];exact zb3 h1
  have ih':=ih (a+1) @1
  rw[e1,zp6]
  by_cases hc:d=c
  ·subst hc
   rw[z54,if_pos (by rw[hd];exact beq_self_eq_true _),cutAt,if_pos rfl]
   show strSub x a a::zi0 x 1 (a+1) _=_
   rw[ih',QbT,Nat.sub_self,zm3]
   rfl
  ·rw[z54,if_neg (by rw[hd];simpa using hc),cutAt,if_neg hc]
   obtain⟨h,t,q1,q2⟩:=Qgu x hd @1 ((zb1 (a+1) (m+1)).filter (fun i=>x.cps.toList[i]? == some c)) fun k hk=>by
    have:=(List.mem_range'_1.mp (z69.mp hk).1).1
    lia
   rw[q2]
   rw[q1] at ih'
   obtain⟨h',t',q3⟩:=QiY c (x.cps.toList.drop (a+1))
   rw[q3] at ih' ⊢
   rw[z33] at ih'
   injection ih' with i1 i2
   rw[i1,i2]
   rfl
theorem QgV (x:Str)(c:Nat):Txt.split x ⟨#[c]⟩=(cutAt c x.cps.toList).map fun l=>(⟨l.toArray⟩:Str):=by
 rw[QeY,StrLaws.partsBetween_eq,QkK]
 have:=QgU x c x.length 0 @1
 rw[zm4] at this
 exact this
theorem Qfu (c:Nat):∀(w:Str) (ws:List Str),(∀y∈w::ws,c∉y.cps.toList)->cutAt c (ze7 ⟨#[c]⟩ (w::ws)).cps.toList=(w::ws).map fun y=>y.cps.toList
 |w,[],h=>by
  show cutAt c w.cps.toList=[w.cps.toList]
  exact Qfs c _ (h w (z07 ..))
 |w,v::ws,h=>by
  have e:(ze7 ⟨#[c]⟩ (w::v::ws)).cps.toList=w.cps.toList++c::(ze7 ⟨#[c]⟩ (v::ws)).cps.toList:=by
   show(w++⟨#[c]⟩++ze7 ⟨#[c]⟩ (v::ws)).cps.toList=_
   rw[Qfr,Qfr,zh3,zh3]
   simp
  rw[e,Qed c _ _ (h w (z07 ..)),Qfu c v ws fun y hy=>h y (z08 _ hy)]
  rfl
theorem Qc2 {c:Nat}{ws:List Str}(ne:ws≠[])(h:∀y∈ws,c∉y.cps.toList):Txt.split (ze7 ⟨#[c]⟩ ws) ⟨#[c]⟩=ws:=by
 cases ws with
 |nil=>exact absurd rfl ne
 |cons w ws=>
  rw[QgV,Qfu c w ws h,z43]
  conv=>rhs;rw[← List.map_id (w::ws)]
  exact zb9 fun y _=>QjV @9
theorem Qfv {c d:Nat}:∀{ws:List Str},(∀y∈ws,d∉y.cps.toList)->d≠c->d∉(ze7 ⟨#[c]⟩ ws).cps.toList
 | [],_,_=>by
  show d∉((#[]:Array Nat)).toList
  simp
 | [w],h,_=>h w (z07 ..)
 |w::v::ws,h,n=>by
  have ih:=Qfv (ws:=v::ws) (fun y hy=>h y (z08 _ hy)) n
  show d∉(w++⟨#[c]⟩++ze7 ⟨#[c]⟩ (v::ws)).cps.toList
  rw[Qfr,Qfr,zh3,zh3]
  have h1:=h w (z07 ..)
  simp only[z14,not_or]
  exact⟨⟨h1,by simpa using n⟩,ih⟩
theorem QjW {sep:Str}{ws:List Str}{B:Nat}(h:∀y∈ws,y.length<=B)(hs:sep.length=1)(hz:ws.length * B+ws.length<=1000000):JoinOk sep ws=true:=by
 unfold JoinOk
 rw[Bool.not_eq_true']
 exact StrLaws.joinFits h (by rw[hs];lia)
theorem Qfw {sep:Str}{ws:List Str}{B:Nat}(h:∀y∈ws,y.length<=B)(hs:sep.length=1):(ze7 sep ws).length<=ws.length * B+ws.length:=by
 have h1:=StrLaws.join_length_le sep ws
 have h2:=StrLaws.sumLen_le ws h
 rw[hs] at h1
 lia
open PySem.W.KIN PySem.NumText in
theorem QiZ (m:Nat):0<m->∀ch,(zl6 10 m)[0]? = some ch->ch≠'0':=by
 induction m using Nat.strongRecOn with
 |_ m ih=>
  intro hp ch hc
  by_cases h:m<10
  ·rw[Nat.toDigits_of_lt_base h] at hc
   have e:Nat.digitChar m=ch:=z35 hc
   subst e
   have:∀d:Nat,d<10->0<d->Nat.digitChar d≠'0':=by decide
   exact this m h hp
  ·have hm:m % 10<10:=Nat.mod_lt m @3
   have t:zl6 10 (m / 10)++zl6 10 (m % 10)=zl6 10 (10 * (m / 10)+m % 10):=Nat.toDigits_append_toDigits @3 @1 hm
   rw[Nat.div_add_mod] at t
   rw[← t] at hc
   have hl:=toDigits_len_ge 10 (m / 10)
   rw[zi6 @1] at hc
   exact ih (m / 10) @1 @1 ch hc
def Qbk (n:Int):Str:=zf3 (toString n)
theorem Qas (m:Nat):(Qbk (m:Int)).cps.toList=(zl6 10 m).map Char.toNat:=PySem.W.KIN.signs_num m
theorem QdD {m:Nat}:∀c∈(Qbk (m:Int)).cps.toList,48<=c/\c<=57:=by
 intro c hc
 rw[Qas] at hc
 obtain⟨ch,hch,e⟩:=z31.mp hc
 have r:=digit_range (Nat.isDigit_of_mem_toDigits @3 @3 hch)
 rw[← e]
 exact r
theorem QdE {m:Nat}{k:Nat}(hk:0<k)(h:(m:Int)<10 ^ k):1<=(Qbk (m:Int)).length/\(Qbk (m:Int)).length<=k:=by
 refine⟨?_,toString_length_le @1 hk h⟩
 have hl:=toDigits_len_ge 10 m
 have e:(Qbk (m:Int)).cps.toList.length=(Qbk (m:Int)).length:=z47
 rw[Qas,z00] at e
 lia
theorem QaX {m:Nat}(h:(m:Int)<10 ^ 60):ze4 (Qbk (m:Int))=some (m:Int):=by
 have hl:=QdE @3 h
 have hne:(Qbk (m:Int)).cps.toList≠[]:=fun z=>by
  have e:(Qbk (m:Int)).cps.toList.length=(Qbk (m:Int)).length:=z47
  rw[z] at e
  have:=hl.1
  rw[← e] at this
  exact absurd this @3
 have e:=PySem.intText_digits (x:=Qbk (m:Int)) QdD hne @1
 rw[Qas,PySem.W.KIN.val_back] at e
 exact e
theorem QgW {m:Nat}(h:0<m):Txt.startswith (Qbk (m:Int)) "0" = false:=by
 cases e:Txt.startswith (Qbk (m:Int)) "0" with
 |false=>rfl
 |true=>
  exfalso
  unfold Txt.startswith at e
  obtain⟨e1,e2⟩:=z58.mp e
  have z:("0" : Str)=⟨#[48]⟩:=by decide +kernel
  rw[z] at e1 e2
  have q:=(zn5 (Qbk (m:Int)) 48 0).mp ⟨of_decide_eq_true e1,e2⟩
  rw[Qas,z29] at q
  obtain⟨ch,hc,he⟩:=z03.mp q
  have n0:=QiZ m h ch hc
  exact n0 (Char.ext (UInt32.toNat_inj.mp (by simpa using he)))
theorem QkL:("0123456789" : Str).cps.toList=[48,49,50,51,52,53,54,55,56,57]:=by decide +kernel
theorem QmE {c:Nat}(h:48<=c/\c<=57):(!(occurrences ("0123456789" : Str) ⟨#[c]⟩ 0 ("0123456789" : Str).length 1).isEmpty)=true:=by
 rw[StrLaws.found_one,QkL,decide_eq_true_eq]
 simp only[z19,zc3,or_false]
 lia
def wordOf (n:Int):Str:=if n=0 then "#" else if n=1 then "." else Qbk n
theorem QjX {n:Int}(h0:0<=n)(h1:n≠0)(h2:n≠1):∃m:Nat,n=(m:Int)/\2<=m:=⟨n.toNat,by lia,by lia⟩
theorem QgX:("#" : Str).cps.toList=[35]:=by decide +kernel
theorem Qi0:("." : Str).cps.toList=[46]:=by decide +kernel
theorem QgY {n:Int}(h0:0<=n){c:Nat}(hc:c=10\/c=32):c∉(wordOf n).cps.toList:=by
 unfold wordOf
 split
 ·rw[QgX];rcases hc with rfl|rfl<;>decide
 ·split
  ·rw[Qi0];rcases hc with rfl|rfl<;>decide
  ·rename_i h1 h2
   obtain⟨m,rfl,_⟩:=QjX h0 h1 h2
   intro z
   have:=QdD c z
   lia
theorem Qfx {n:Int}(h0:0<=n)(h:n<10 ^ 60):(wordOf n).length<=60:=by
 unfold wordOf
 split
 ·show(1:Nat)<=60;decide
 ·split
  ·show(1:Nat)<=60;decide
  ·obtain⟨m,rfl⟩:=Int.eq_ofNat_of_zero_le h0
   exact(QdE @3 h).2
theorem QgZ {m:Nat}(h:(m:Int)<10 ^ 60):Qbk (m:Int) ≠ "#" := fun z=>by
 have e:=QaX h
 rw[z] at e
 have:ze4 ("#" : Str)=none:=by decide +kernel
 rw[this] at e
 cases e
theorem Qi1 {m:Nat}(h:(m:Int)<10 ^ 60):Qbk (m:Int) ≠ "." := fun z=>by
 have e:=QaX h
 rw[z] at e
 have:ze4 ("." : Str)=none:=by decide +kernel
 rw[this] at e
 cases e
end L2
namespace L2
open PySem PySem.Spec PyProof.Rows
section
variable {prog:Program}{w:World}{A:Around}{E:Value->Shared->Prop}{s:Shared}
theorem Qgv {it tp:Addr}{j:Nat}{ys:Array Value}{y:Value}{Q:Value->Shared->Prop}(jt:s.heap.IsTupleIter it tp j)(jl:s.heap.IsTuple tp ys)(jx:ys[j]? = some y)
  (K:∀h2,h2.IsTupleIter it tp (j+1)->zb0 it s.heap h2->Q y { s with heap:=h2 }):wpAny @11 A (zc1 (.ref it)) Q E s:=by
 obtain⟨oi,hi,ci,di⟩:=id jt
 obtain⟨ot,htp,_,nt,dt⟩:=jl
 unfold zc1
 refine z02 (zc9 (name:=zf3 "__next__") jt.typeIs ze5 (z90 ze5 jt.typeIs zt1 ?_ (zs4 _)))
 show wpAny _ _ (field (.ref it) 0 >>= _) _ _ s
 refine z02 (zc8 hi di (x:=.ref tp) rfl ?_)
 show wpAny _ _ (if(z24 tp == z51)=true then _ else _) _ _ s
 rw[if_neg (show ¬ ((z24 tp == z51)=true) from z36)]
 show wpAny _ _ (field (.ref it) 1 >>= _) _ _ s
 refine z02 (zc8 hi di (x:=.int j 0) rfl ?_)
 show wpAny _ _ (seqItems? (.ref tp) >>= _) _ _ s
 refine z02 (zv2 htp dt ?_)
 simp only[z59,jx]
 refine z02 (zv1 hi di @9 (z22 ⟨y,rfl,z22 (K _ ?_ (z98 ..))⟩))
 exact⟨_,za9 _ hi (Obj.isFreed_of_fields (zy2 di _)),(Obj.cls_mapFields ..).trans ci,by rw[zy2 di];simp[rawInt]⟩
theorem Qee {it tp:Addr}{j:Nat}{ys:Array Value}{Q:Value->Shared->Prop}(hh:A.handled=none)(jt:s.heap.IsTupleIter it tp j)(jl:s.heap.IsTuple tp ys)(jx:ys[j]? = none)
  (K:∀h2 x,Heap.ExtBut it s.heap h2->(∃o,h2.get? x=some o/\o.cls=.type "StopIteration")->E (.ref x) { s with heap:=h2 }):wpAny @11 A (zc1 (.ref it)) Q E s:=by
 obtain⟨oi,hi,ci,di⟩:=id jt
 obtain⟨ot,htp,_,nt,dt⟩:=jl
 unfold zc1
 refine z02 (zc9 (name:=zf3 "__next__") jt.typeIs ze5 (z90 ze5 jt.typeIs zt1 ?_ (zs4 _)))
 show wpAny _ _ (field (.ref it) 0 >>= _) _ _ s
 refine z02 (zc8 hi di (x:=.ref tp) rfl ?_)
 show wpAny _ _ (if(z24 tp == z51)=true then _ else _) _ _ s
 rw[if_neg (show ¬ ((z24 tp == z51)=true) from z36)]
 show wpAny _ _ (field (.ref it) 1 >>= _) _ _ s
 refine z02 (zc8 hi di (x:=.int j 0) rfl ?_)
 show wpAny _ _ (seqItems? (.ref tp) >>= _) _ _ s
 refine z02 (zv2 htp dt ?_)
 simp only[z59,jx]
 refine z02 (wpAny_rule (z02 (zv1 hi di @9 ?_)))
 show wpAny _ _ (newExc (.type "StopIteration") [] >>= _) _ _ _
 refine z02 ?_
 simp only[newExc,newTuple]
 refine z02 (z80 ?_ (by size_fits))
 refine z02 (m:=firstArgMember _ _) (wpAny_of_eq (a:=z51) (by first|rfl|(simp only[firstArgMember];rfl)) ?_)
 refine z80 ?_ (by size_fits)
 simp only[raiseNew]
 refine z02 (wpAny_handled ?_)
 first|rw[show A.in1.handled=none from hh]|rw[hh]
 refine z02 (z22 (wpAny_throw ?_))
 exact K _ _ (((z98 ..).extBut.push _).push _) ⟨_,z27 _ rfl,rfl⟩
theorem QmF {prog:Program}{w:World}{A:Around}(hh:A.handled=none)(it tp:Addr)(hne:tp≠it)(ys:Array Value) :
  Draws prog w A it [it,tp] ys.size (fun i v=>ys[i]? = some v) (fun i h=>h.IsTupleIter it tp i/\h.IsTuple tp ys) where
 live:=fun _ _ st=>let ⟨o,ho,_⟩:=st.1;⟨o,ho⟩
 frame:=fun _ _ _ st hk=>by
  obtain⟨⟨o,ho,r⟩,o',ho',r'⟩:=st
  exact⟨⟨o,hk it @9 o ho,r⟩,o',hk tp @9 o' ho',r'⟩
 item:=fun i s Q E hi st hQ=>by
  refine Qgv st.1 st.2 (y:=ys[i]) (by simp[hi]) fun h' hit' hs'=>?_
  exact hQ _ h' s.toks (by simp[hi]) ⟨hit',st.2.extBut hs'.extBut hne⟩ hs'
 done:=fun s Q E st hE=>Qee hh st.1 st.2 @9 hE
open AutoSeq1 (wpAny_loadPart') in
theorem QmG (l:Addr)(ys:Array Value)(n:Nat)(dd:Option Addr)(zz:Array (Option Value)) :
  Meets (Builtin.«enumerate.__new__» ⟨[.type "enumerate",.ref l],[]⟩) (fun _ R s=>s.heap.get? l=some { cls:=.type "tuple",dict:=dd,data:=.seq ys n,slots:=zz }/\
   R (.ok (.ret (.ref (s.heap.push { cls:=.type "tuple_iterator",data:=.fields #[.ref l,.int 0 0]}).objs.size)))
    { s with heap:=(s.heap.push { cls:=.type "tuple_iterator",data:=.fields #[.ref l,.int 0 0]}).push { cls:=.type "enumerate",data:=.fields #[.none,.bool false,.ref s.heap.objs.size,rawInt 0,.none,.none]}}):=
 .of_wp fun prog w A R s h=>by
  obtain⟨hp,g,d,tk,os⟩:=s;obtain⟨hl,h⟩:=h
  have hsub:=sub_enumerate
  have hT:Heap.IsTuple (Shared.heap ⟨hp,g,d,tk,os⟩) l ys:=⟨_,hl,rfl,n,rfl⟩
  wp_walk using zg3 hl
  refine wpAny_stack_any fun st=>z22 ?_
  split
  ·rename_i c _ _ _ _ _
   cases(c == Value.type "enumerate")
   ·wp_walk using zg3 hl,zj6 hT
    exact⟨_,rfl,h⟩
   ·wp_walk using zg3 hl,zj6 hT
    exact⟨_,rfl,h⟩
  ·wp_walk using zg3 hl,zj6 hT
   exact⟨_,rfl,h⟩
theorem Qgw {l:Addr}{ys:Array Value}{Q:Value->Shared->Prop}(hL:s.heap.IsTuple l ys)
  (h:∀h',IsEnum h' @14 s.heap.objs.size 0 .none->h'.IsTupleIter s.heap.objs.size l 0->(∀b o,s.heap.get? b=some o->h'.get? b=some o)->Q (.ref @14) { s with heap:=h' }) :
  wpAny @11 A (call (.type "enumerate") [.ref l]) Q E s:=by
 obtain⟨⟨c,dd,dt,zz⟩,hl,hc,n,hd⟩:=hL
 replace hc:c=.type "tuple" := hc
 replace hd:dt=.seq ys n:=hd
 subst hc hd
 refine callType_new F.called_enumerate @3 (F.typeCall_enumerate_1 _) (F.newCall_enumerate_1 _) (fun obj=>zz2 obj _) F.entry_enumerate_new (QmG l ys n dd zz) ⟨hl,?_⟩
 have hz:(s.heap.push { cls:=.type "tuple_iterator",data:=.fields #[.ref l,.int 0 0]}).objs.size=s.heap.objs.size+1:=zb4 ..
 show _/\_
 rw[hz]
 have he:IsEnum ((s.heap.push { cls:=.type "tuple_iterator",data:=.fields #[.ref l,.int 0 0]}).push { cls:=.type "enumerate",data:=.fields #[.none,.bool false,.ref s.heap.objs.size,rawInt 0,.none,.none]}) @14 s.heap.objs.size 0 .none:=by
  have q:=z27 (s.heap.push { cls:=.type "tuple_iterator",data:=.fields #[.ref l,.int 0 0]}) (o:={ cls:=.type "enumerate",data:=.fields #[.none,.bool false,.ref s.heap.objs.size,rawInt 0,.none,.none]}) rfl
  rw[hz] at q;exact q
 exact⟨⟨_,he,rfl⟩,h _ he ⟨_,z06 _ (z27 _ rfl),rfl,rfl⟩ fun b o x=>z06 _ (z06 _ x)⟩
end
section
variable {X:Cx}
def Qpw (K:z01)(a:Addr):It:=
 ⟨fun i H=>∃xs x,SqT K H a xs/\xs[i]? = some x,fun i H v H'=>∃T x,H T=none/\v=.ref T/\H'=upd H T (.tup [.int (i:Nat),x])/\∀xs,SqT K H a xs->xs[i]? = some x,fun i H=>∃xs,SqT K H a xs/\xs.length<=i⟩
theorem Qgx {P:Program}{w:World}{K:z01}{es:List Expr}{k:Nat}{tp:Pos}(a e it:Addr)(hne:e≠it)(hae:e≠a)(hai:a≠it):Turn P w K (.Tuple es k tp) (Qpw K a) [e,it] e (fun i h=>(∃old,IsEnum h e it ((i:Nat):Int) old)/\h.IsTupleIter it a i) where
 mem:=by simp
 obj:=fun i h st b hb=>by
  obtain⟨⟨old,he⟩,o,ho,c,d⟩:=st
  rcases z19.mp hb with rfl|hb
  ·exact⟨_,he,fun v z=>by cases z⟩
  ·have q:b=it:=by simpa using hb
   subst q
   exact⟨o,ho,fun v z=>by rw[d] at z;cases z⟩
 keep:=fun i h h' st k=>by
  obtain⟨⟨old,he⟩,o,ho,r⟩:=st
  exact⟨⟨old,k e @9 _ he⟩,o,k it @9 o ho,r⟩
 item:=by
  intro X hP hw hK hc i pins s σ H E I hf st hg
  subst hP hw hK
  obtain⟨⟨old,he⟩,hit⟩:=st
  obtain⟨xs,x,hq,hx⟩:=hg
  obtain⟨its,rv,p,hz⟩:=I.tuple hq
  obtain⟨u,hu,ru⟩:=rv.get hx
  have hlt:i<its.toArray.size:=by
   rcases Nat.lt_or_ge i its.toArray.size with z|z
   ·exact z
   ·rw[z16] at z
    rw[zg6 z] at hu
    cases hu
  refine wpAny_pyNext_enum_itemD (QmF (show X.A.in1.handled=none from I.ok.hd hc) it a hai its.toArray) he ⟨hit,p⟩ hlt hne (by simp[hne,hae]) fun y h1 tk hy heo hst ht1 hz1 hk1=>?_
  obtain⟨hit1,_⟩:=hst
  have eu:y=u:=by
   have:its[i]? = some y:=by simpa using hy
   rw[hu] at this
   exact(z35 this).symm
  subst eu
  refine⟨_,rfl,zu2 heo fun h2 he2 hs2=>?_⟩
  have hel:e<s.heap.objs.size:=z23 he
  have hT:H s.heap.objs.size=none:=I.hok.fresh (z32 _)
  have kk:∀b o,b∉[e,it]->s.heap.get? b=some o->h2.get? b=some o:=fun b o hb q=>by
   have nb:b≠e:=fun z=>hb (by simp[z])
   have ni:b≠it:=fun z=>hb (by simp[z])
   exact(hs2.2 b nb).trans (hk1 b o nb ni q)
  have gT:h2.get? s.heap.objs.size=some { cls:=.type "tuple",data:=.seq #[.int i tk,y]}:=(hs2.2 _ (z85 hel)).trans ht1
  have I1:Inv X pins σ (upd H s.heap.objs.size (.tup [.int (i:Nat),x])) { s with heap:=h2,toks:=tk+1 }:=I.QmB kk hf (z32 _) ⟨by show 2<=z18;decide,[.int i tk,y],.cons ⟨_,rfl⟩ (.cons ru .nil),⟨_,gT,rfl,_,rfl⟩⟩
  refine⟨.ref s.heap.objs.size,_,I1,rfl,⟨s.heap.objs.size,x,hT,rfl,rfl,fun zs hy=>by rw[I.tuple_inj hy hq];exact hx⟩,⟨⟨y,?_⟩,hit1.extBut hs2.extBut (zd8 hne)⟩,fun b hb=>?_⟩
  ·have:((i+1:Nat):Int)=(i:Int)+1:=by push_cast;rfl
   rw[this];exact he2
  ·have nb:b≠s.heap.objs.size:=by
    rcases z19.mp hb with rfl|hb
    ·exact z37 hel
    ·have q:b=it:=by simpa using hb
     subst q
     obtain⟨o,ho,_⟩:=hit
     exact z37 (z23 ho)
   rw[upd_ne nb]
   exact(hf b hb).1
 done:=by
  intro X hP hw hK hc i pins s σ H E I hf st hg
  subst hP hw hK
  obtain⟨⟨old,he⟩,hit⟩:=st
  obtain⟨xs,hq,hx⟩:=hg
  obtain⟨its,rv,p,hz⟩:=I.tuple hq
  have hl:=rv.length
  have hT:s.TypeIs (.ref e) "enumerate" := ⟨_,he,rfl⟩
  unfold pyNext
  refine z02 (zw8 (zc9 (name:=zf3 "__next__") hT zx8 (z90 zx8 hT F.entry_enumerate_next ?_ (F.args_enumerate_next_1 _))))
  show wpAny _ _ (field (.ref e) 2 >>= _) _ _ _
  refine z02 (zc8 he rfl (x:=.ref it) rfl ?_)
  refine z02 (Qee (I.ok.hd hc) hit p (by simp;lia) fun h' x eb hx'=>?_)
  obtain⟨o,ho,hc'⟩:=hx'
  refine z02 (zl8 (T := "StopIteration") (b:=true) ⟨o,ho,hc'⟩ isSubtype_stop ?_)
  exact z22 ⟨rfl,I.QdB (ch:=[e,it]) (t':=s.toks) (fun b o hb q=>eb b o (fun z=>hb (by simp[z])) q) hf⟩
 self:=fun _ _ _ _ _ st h=>let ⟨_,he⟩:=st.1;zk2 he h
def Itq (kd:Bool)(K:z01)(a:Addr):It:=match kd with
 |true=>Ite K a
 |false=>Qpw K a
def QmH (K:z01)(ta:TA):TI:=fun σ H R=>ta σ H fun vs H1=>∃a kd,vs=[.ref a]/\(∃xs,SqB kd K H1 a xs)/\R (Itq kd K a) H1
theorem Qi2 {es:List Expr}{k:Nat}{tp:Pos}{e:Expr}{ta:TA}{p pos:Pos}(hg:Gl X "enumerate")(hm:X.mg "enumerate" = none)(ha:PA X [e] ta)(hs:starEach [e] X.env=@15::starEach [] X.env:=by rfl)
  (hpl:(backTo pos (starEach [] X.env)).any (·.1)=false:=by rfl):PI X (.Tuple es k tp) (.Call (.Name "enumerate" p) [e] [] pos) (QmH X.K ta):=by
 intro pins s σ H R I h
 refine z76 (ld_blt I hg hm QgT ?_ @3 @3)
 refine zg1 (thn (ha pos pins s σ H _ I h) fun us s1 ⟨vs,H1,I1,r1,a,kd,e1,⟨xs,hq⟩,q⟩=>?_) hs hpl
 subst e1
 obtain⟨u,rfl,ru⟩:=vals1 r1
 cases ru
 have fz:∀b∈[s1.heap.objs.size+1,s1.heap.objs.size],FpOk X pins H1 b:=fun b hb=>by
  have hb':s1.heap.objs.size<=b:=by
   rcases z19.mp hb with rfl|hb
   ·exact z93 _
   ·have z:b=s1.heap.objs.size:=by simpa using hb
    rw[z];exact z32 _
  exact I1.fpOk (H':=H1) hb' (I1.hok.fresh hb')
 cases kd with
 |true=>
  obtain⟨its,rv,pl,hz⟩:=I1.list (show SqL X.K H1 a xs from hq)
  refine call_enumerate_list pl.isList fun h' he hit hsz kp=>zk2 he ?_
  have I2:Inv X pins σ H1 { s1 with heap:=h' }:=I1.kept (t':=s1.toks) kp
  exact⟨s1.heap.objs.size+1,[s1.heap.objs.size+1,s1.heap.objs.size],_,Ite X.K a,H1,rfl,I2,QgS a _ _ (Nat.succ_ne_self _),⟨⟨_,he⟩,hit⟩,fz,q⟩
 |false=>
  obtain⟨its,rv,pl,hz⟩:=I1.tuple (show SqT X.K H1 a xs from hq)
  have hal:a<s1.heap.objs.size:=by
   obtain⟨o,e,_⟩:=pl
   exact z23 e
  refine Qgw (show s1.heap.IsTuple a its.toArray from pl) fun h' he hit kp=>zk2 he ?_
  have I2:Inv X pins σ H1 { s1 with heap:=h' }:=I1.kept (t':=s1.toks) kp
  exact⟨s1.heap.objs.size+1,[s1.heap.objs.size+1,s1.heap.objs.size],_,Qpw X.K a,H1,rfl,I2,Qgx a _ _ (Nat.succ_ne_self _) (z85 (zp1 hal)) (z37 hal),⟨⟨_,he⟩,hit⟩,fz,q⟩
end
section
def Qpx (a:Addr)(cv:Value):HO:=.ext fun h=>∃o,h.get? a=some o/\o.cls=cv
end
structure Sw (k b:Nat)(d:PyData):Prop where
 sh:d.showable=true
 dp:d.depth<=k
 bk:d.bulk<=b
 sl:d.leavesShort 64=true
theorem Sw.str {x:Str}{n:Nat}(h:x.cps.size<=n)(hc:(x.cps.toList.all fun c=>decide (c<16 ^ 8))=true):Sw 0 n (.str x):=⟨by simp[PyData.showable],by simp[PyData.depth],by simpa[PyData.bulk] using h,by simpa only[PyData.leavesShort] using hc⟩
end L2
namespace L2.Srt
open PySem PySem.W PyProof.Rows
def Go {α:Type}(n:Nat)(lt:Nat->Nat->Bool):KasT α->(α->Prop)->Prop
 |.ret a,P=>P a
 |.ask i j k,P=>i<n/\j<n/\Go n lt (k (lt i j)) P
theorem QaY {α β:Type}{n:Nat}{lt:Nat->Nat->Bool}{f:α->KasT β}{P:β->Prop}:∀{t:KasT α},Go n lt t (fun a=>Go n lt (f a) P)->Go n lt (t.bind f) P
 |.ret a,h=>h
 |.ask i j k,h=>⟨h.1,h.2.1,QaY h.2.2⟩
theorem QmI {α:Type}{n:Nat}{lt:Nat->Nat->Bool}{cmp:Nat->Nat->(Bool->Shared->Prop)->Shared->Prop}{J:Shared->Prop}(hc:∀i j C s,i<n->j<n->J s->(∀s',J s'->C (lt i j) s')->cmp i j C s)
  {P:α->Prop} {Q:α->Shared->Prop} (hQ:∀a s,P a->J s->Q a s):∀{t:KasT α} {s:Shared},Go n lt t P->J s->t.kasWp cmp Q s
 |.ret a,s,h,hs=>hQ a s h hs
 |.ask i j k,s,h,hs=>hc i j _ s h.1 h.2.1 hs fun s' hs'=>QmI hc hQ h.2.2 hs'
structure Ord (n:Nat)(lt:Nat->Nat->Bool):Prop where
 ir:∀i,lt i i=false
 tr:∀i j k,lt i j=true->lt j k=true->lt i k=true
 to:∀i j,i<n->j<n->i≠j->lt i j=false->lt j i=true
structure PP (n:Nat)(p:Array Nat):Prop where
 sz:p.size=n
 pm:p.toList.Perm (z63 n)
section
variable {n:Nat}{lt:Nat->Nat->Bool}{p:Array Nat}
abbrev G (p:Array Nat)(i:Nat):Nat:=p.getD i 0
theorem Qb2 {q:Array Nat}{i j:Nat}(h:p[i]? = q[j]?):G p i=G q j:=by
 rw[G,G,zq7,zq7,h]
theorem PP.bd (h:PP n p){i:Nat}(hi:i<n):G p i<n:=by
 have hi':i<p.size:=by rw[h.sz];exact hi
 have e:G p i=p[i]:=by simp[G,zi9,hi']
 rw[e]
 have m:p[i]∈p.toList:=by simp
 exact za3.mp (h.pm.mem_iff.mp m)
theorem PP.inj (h:PP n p){i j:Nat}(hi:i<n)(hj:j<n)(ne:i≠j):G p i≠G p j:=by
 have hi':i<p.size:=by rw[h.sz];exact hi
 have hj':j<p.size:=by rw[h.sz];exact hj
 have e1:G p i=p[i]:=by simp[G,zi9,hi']
 have e2:G p j=p[j]:=by simp[G,zi9,hj']
 have nd:p.toList.Nodup:=h.pm.nodup_iff.mpr List.nodup_range
 intro z
 rw[e1,e2] at z
 have z':p.toList[i]'(by simpa using hi')=p.toList[j]'(by simpa using hj'):=by simpa using z
 exact ne ((zp7 nd).mp z')
theorem PP.perm {q:Array Nat}(h:PP n p)(hq:q.Perm p):PP n q:=⟨by rw[hq.size_eq];exact h.sz,hq.toList.trans h.pm⟩
def Up (lt:Nat->Nat->Bool)(p:Array Nat)(m:Nat):Prop:=∀i,1<=i->i<m->lt (G p (i - 1)) (G p i)=true
theorem Up.all (o:Ord n lt){m:Nat}(u:Up lt p m):∀{j i:Nat},i<j->j<m->lt (G p i) (G p j)=true
 |0,_,h,_=>by lia
 |j+1,i,h,hm=>by
  have s:=u (j+1) @1 hm
  by_cases e:i=j
  ·subst e;exact s
  ·exact o.tr _ _ _ (Up.all o u (j:=j) @1 @1) s
theorem Qg0 (o:Ord n lt)(hp:PP n p){P:Nat->Prop}:∀(f m:Nat),1<=m->m+f<=n->
  (∀m',m<=m'->m'<=m+f->(∀i,m<=i->i<m'->lt (G p (i - 1)) (G p i)=true)->(m' < m+f->lt (G p m') (G p (m' - 1))=true)->P m')->Go n lt (kas_asc p f m) P
 |0,m,h1,h2,k=>k m (z32 _) (z32 _) (fun i a b=>by lia) (fun z=>by lia)
 |f+1,m,h1,h2,k=>by
  refine⟨hp.bd @1,hp.bd @1,?_⟩
  cases c:lt (G p m) (G p (m - 1)) with
  |true=>
   show Go n lt (if true=true then _ else _) P
   rw[if_pos rfl]
   exact k m (z32 _) @1 (fun i a b=>by lia) (fun _=>c)
  |false=>
   show Go n lt (if false=true then _ else _) P
   rw[if_neg z36]
   have s:=o.to _ _ (hp.bd @1) (hp.bd @1) (hp.inj (i:=m) (j:=m - 1) @1 @1 @1) c
   refine Qg0 o hp f (m+1) @1 @1 fun m' a b r t=>k m' @1 @1 (fun i x y=>?_) (fun z=>t @1)
   by_cases e:i=m
   ·subst e;exact s
   ·exact r i @1 y
theorem Qg1 (o:Ord n lt)(hp:PP n p){P:Array Nat×Nat×Nat->Prop}:∀(f m:Nat),1<=m->m+f<=n->
  (∀m',m<=m'->m'<=m+f->(∀i,m<=i->i<m'->lt (G p i) (G p (i - 1))=true)->P (p,m',0))->Go n lt (kas_desc f p m 0) P
 |0,m,h1,h2,k=>k m (z32 _) (z32 _) (fun i a b=>by lia)
 |f+1,m,h1,h2,k=>by
  refine⟨hp.bd @1,hp.bd @1,?_⟩
  cases c:lt (G p m) (G p (m - 1)) with
  |true=>
   show Go n lt (if true=true then _ else _) P
   rw[if_pos rfl,if_neg @1]
   refine Qg1 o hp f (m+1) @1 @1 fun m' a b r=>k m' @1 @1 (fun i x y=>?_)
   by_cases e:i=m
   ·subst e;exact c
   ·exact r i @1 y
  |false=>
   show Go n lt (if false=true then _ else _) P
   rw[if_neg z36]
   have s:=o.to _ _ (hp.bd @1) (hp.bd @1) (hp.inj (i:=m) (j:=m - 1) @1 @1 @1) c
   refine⟨hp.bd @1,hp.bd @1,?_⟩
   have s':lt (p.getD (m - 1) 0) (p.getD m 0)=true:=s
   rw[s']
   show Go n lt (if true=true then _ else _) P
   rw[if_pos rfl]
   exact k m (z32 _) @1 (fun i a b=>by lia)
theorem QmJ {m k:Nat}(hm:m<=p.size):G (kas_rev p 0 m) k=if k<m then G p (m - 1 - k) else G p k:=by
 unfold kas_rev
 have e:=getElem?_mirror_all (xs:=p) (i:=0) hm k
 by_cases h:k<m
 ·rw[if_pos ⟨z67 _,h⟩] at e
  rw[if_pos h,Qb2 e,zv8]
 ·rw[if_neg (fun z=>h z.2)] at e
  rw[if_neg h,Qb2 e]
theorem Qi3 (o:Ord n lt)(hp:PP n p)(h2:2<=n){P:Nat×Array Nat->Prop}(k:∀m q,PP n q->1<=m->m<=n->Up lt q m->P (m,q)):Go n lt (kas_count n p) P:=by
 unfold kas_count
 refine QaY (Qg0 o hp (n - 1) 1 @1 @1 fun m a b r t=>?_)
 have up:Up lt p m:=fun i x y=>r i x y
 by_cases e:m=n
 ·rw[if_pos (by simpa using e)]
  exact k m p hp @1 @1 up
 ·rw[if_neg (by simpa using e)]
  by_cases e1:m > 1
  ·rw[if_pos e1]
   refine⟨hp.bd @1,hp.bd @1,?_⟩
   have s:lt (p.getD 0 0) (p.getD (m - 1) 0)=true:=up.all o (i:=0) (j:=m - 1) @1 @1
   rw[s]
   show Go n lt (if true=true then _ else _) P
   rw[if_pos rfl]
   exact k m p hp @1 @1 up
  ·rw[if_neg e1]
   have m1:m=1:=by lia
   subst m1
   have d1:=t @1
   unfold kas_descPart
   refine QaY (Qg1 o hp (n - (1+1)) (1+1) @1 @1 fun m' a' b' r'=>?_)
   show Go n lt (if 0 > 0 then _ else kas_tail3 m' n p) P
   rw[if_neg @1]
   unfold kas_tail3
   have hq:PP n (kas_rev p 0 m'):=hp.perm (mirror_perm _ _ _ _)
   have hsz:m'<=p.size:=by rw[hp.sz];lia
   refine QaY (Qg0 o hq (n - m') m' @1 @1 fun m'' a'' b'' r'' t''=>?_)
   refine k m'' _ hq @1 @1 fun i x y=>?_
   by_cases c:i<m'
   ·rw[QmJ hsz,QmJ hsz,if_pos @1,if_pos c]
    have dn:∀j,1<=j->j<m'->lt (G p j) (G p (j - 1))=true:=fun j j1 j2=>by
     by_cases z:j=1
     ·subst z;exact d1
     ·exact r' j @1 j2
    have s:=dn (m' - 1 - (i - 1)) @1 @1
    rw[show m' - 1 - (i - 1) - 1=m' - 1 - i by lia] at s
    exact s
   ·exact r'' i @1 y
theorem QdF (o:Ord n lt)(hp:PP n p){k:Nat}(hk:k<n)(u:Up lt p k){P:Nat->Prop}(K:∀l,l<=k->(∀i,i<l->lt (G p i) (G p k)=true)->(∀i,l<=i->i<k->lt (G p k) (G p i)=true)->P l) :
  ∀(f l r:Nat),l<=r->r<=k->r - l<=f->(∀i,i<l->lt (G p i) (G p k)=true)->(∀i,r<=i->i<k->lt (G p k) (G p i)=true)->Go n lt (kas_place p k f l r) P
 |0,l,r,h1,h2,h3,a,b=>K l @1 a fun i x y=>b i @1 y
 |f+1,l,r,h1,h2,h3,a,b=>by
  unfold kas_place
  by_cases c:l ≥ r
  ·rw[if_pos c]
   exact K l @1 a fun i x y=>b i @1 y
  ·rw[if_neg c]
   refine⟨hp.bd hk,hp.bd @1,?_⟩
   have hm:(l+r) / 2<r/\l<=(l+r) / 2:=by lia
   cases d:lt (G p k) (G p ((l+r) / 2)) with
   |true=>
    show Go n lt (if true=true then _ else _) P
    rw[if_pos rfl]
    refine QdF o hp hk u K f l ((l+r) / 2) @1 @1 @1 a fun i x y=>?_
    by_cases e:i=(l+r) / 2
    ·subst e;exact d
    ·exact o.tr _ _ _ d (u.all o @1 y)
   |false=>
    show Go n lt (if false=true then _ else _) P
    rw[if_neg z36]
    have s:=o.to _ _ (hp.bd hk) (hp.bd @1) (hp.inj (i:=k) (j:=(l+r) / 2) hk @1 @1) d
    refine QdF o hp hk u K f ((l+r) / 2+1) r @1 @1 @1 (fun i x=>?_) b
    by_cases e:i=(l+r) / 2
    ·subst e;exact s
    ·exact o.tr _ _ _ (u.all o (show i<(l+r) / 2 by lia) @1) s
theorem QjY (o:Ord n lt){P:Array Nat->Prop}(K:∀q,PP n q->Up lt q n->P q):∀(f k:Nat) (p:Array Nat),PP n p->k+f=n->1<=k->Up lt p k->Go n lt (kas_bin f p k) P
 |0,k,p,hp,e,_,u=>K p hp (by have:k=n:=@1;subst this;exact u)
 |f+1,k,p,hp,e,k1,u=>by
  have hk:k<n:=by lia
  refine QaY (QdF o hp hk u (fun l hl a b=>?_) k 0 k @1 @1 @1 (fun i x=>by lia) fun i x y=>by lia)
  have hq:PP n (bubble p k (k - l)):=hp.perm (bubble_perm _ _ _)
  have hs:k<p.size:=by rw[hp.sz];exact hk
  have gb:∀i,G (bubble p k (k - l)) i=if i=l then G p k else if l<i/\i<=k then G p (i - 1) else G p i:=fun i=>by
   have z:=getElem?_bubble hs (k - l) @1 i
   rw[show k - (k - l)=l by lia] at z
   by_cases c1:i=l
   ·rw[if_pos c1] at z ⊢;exact Qb2 z
   ·rw[if_neg c1] at z ⊢
    by_cases c2:l<i/\i<=k
    ·rw[if_pos c2] at z ⊢;exact Qb2 z
    ·rw[if_neg c2] at z ⊢;exact Qb2 z
  refine QjY o K f (k+1) _ hq @1 @1 fun i i1 i2=>?_
  rw[gb,gb]
  by_cases c1:i=l
  ·rw[if_pos c1,if_neg @1,if_neg @1]
   exact a _ @1
  ·rw[if_neg c1]
   by_cases c2:i - 1=l
   ·rw[if_pos c2,if_pos @1]
    exact b _ @1 @1
   ·rw[if_neg c2]
    by_cases c3:l<i
    ·rw[if_pos ⟨by lia,by lia⟩,if_pos ⟨c3,by lia⟩]
     exact u (i - 1) @1 @1
    ·rw[if_neg @1,if_neg @1]
     exact u i i1 @1
theorem QkM (o:Ord n lt)(h2:2<=n){P:Array Nat->Prop}(K:∀q,PP n q->Up lt q n->P q):Go n lt (kas_sort n) P:=by
 have hp:PP n (z84 (z63 n)):=⟨by simp,by simp⟩
 unfold kas_sort
 refine QaY (Qi3 o hp h2 fun m q hq m1 mn u=>?_)
 show Go n lt (if m<n then kas_bin (n - max m 1) q (max m 1) else .ret q) P
 by_cases c:m<n
 ·rw[if_pos c,show max m 1=m by lia]
  exact QjY o K (n - m) m q hq @1 m1 u
 ·rw[if_neg c]
  have e:m=n:=by lia
  subst e
  exact K q hq u
end
end L2.Srt
namespace L2.Srt
open PySem PySem.W PySem.Calls PyProof.Rows
section
variable {prog:Program}{w:World}{A:Around}{E:Value->Shared->Prop}{s:Shared}
def Kp (h h':Heap):Prop:=∀b o,h.get? b=some o->h'.get? b=some o
theorem Qef {a:Addr}{vs:List Value}{n:Nat}{κ:SortKind}{lt:Nat->Nat->Bool}{h0:Heap}{P:PySem.Fin->Shared->Prop}(ho:s.heap.get? a=some (seqObj "list" vs.toArray n))(h0k:Kp h0 s.heap)(h0a:h0.get? a=none)(h2:2<=vs.length)(h64:vs.length<64)(o:Ord vs.length lt)
  (hk:∀(h':Heap) (tk:Nat) (Q:SortKind->Shared->Prop),Kp h0 h'->Q κ { s with heap:=h',toks:=tk }->wpAny @11 A (keyKind' vs.toArray) Q (fun _ _=>False) { s with heap:=h',toks:=tk })
  (hc:∀(h':Heap) (tk i j:Nat) (Q:Bool->Shared->Prop),Kp h0 h'->i<vs.length->j<vs.length->(∀tk',Q (lt i j) { s with heap:=h',toks:=tk' })->wpAny @11 A (keyLt' κ (vs.getD i z51) (vs.getD j z51)) Q (fun _ _=>False) { s with heap:=h',toks:=tk })
  (hQ:∀(h':Heap) (tk:Nat) (p:Array Nat) (c:Nat),PP vs.length p->Up lt p vs.length->Kp h0 h'->h'.get? a=some (seqObj "list" (z84 (p.toList.map fun i=>vs.getD i z51)) c)->P (.done (.ret .none)) { s with heap:=h',toks:=tk }) :
  wpAny @11 A (Builtin.«list.sort» ⟨[.ref a],[]⟩) P E s:=by
 have ha:a<s.heap.objs.size:=z23 ho
 have s1:=z98 s.heap a (z46 fun _=>(#[]:Array Value))
 obtain⟨e1,ho1⟩:∃e1,(s.heap.update a (z46 fun _=>(#[]:Array Value))).get? a=some (seqObj "list" #[] e1):=⟨_,get?_update_seq ho fun _=>#[]⟩
 have ne:∀b o,h0.get? b=some o->b≠a:=fun b o e z=>by rw[z,h0a] at e;cases e
 have kp3:Kp h0 (((s.heap.update a (z46 fun _=>(#[]:Array Value))).push (seqObj "tuple" vs.toArray 0)).push (seqObj "list" #[] 0)):=fun b x e=>
  z06 _ (z06 _ ((s1.2 b (ne b x e)).trans (h0k b x e)))
 have ho3:(((s.heap.update a (z46 fun _=>(#[]:Array Value))).push (seqObj "tuple" vs.toArray 0)).push (seqObj "list" #[] 0)).get? a=some (seqObj "list" #[] e1):=z06 _ (z06 _ ho1)
 rw[list_sort_plain]
 refine z02 (listItems_at ho rfl ?_)
 refine z02 (listUpdate_at ho rfl ?_ (by rw[z16,z34];lia) (z67 _))
 refine z02 (seqEpoch_at ho1 rfl ?_)
 refine z02 (zv3 ?_ (by show vs.length<=_;rw[z34];lia))
 refine z02 (zl2 ?_ (z67 _))
 refine z96 ?_
 show wpAny @11 A _ P E { s with heap:=((s.heap.update a (z46 fun _=>(#[]:Array Value))).push (seqObj "tuple" vs.toArray 0)).push (seqObj "list" #[] 0)}
 generalize ((s.heap.update a (z46 fun _=>(#[]:Array Value))).push (seqObj "tuple" vs.toArray 0)).push (seqObj "list" #[] 0)=h3 at kp3 ho3 ⊢
 dsimp only
 have hn2:¬ vs.toArray.size<2:=by rw[z16];lia
 rw[if_neg hn2,if_neg hn2]
 refine z02 (zd2 (hk h3 s.toks (fun κ' s'=>κ'=κ/\s'={ s with heap:=h3 }) kp3 ⟨rfl,rfl⟩) (fun κ' s0 hk'=>?_) fun _ _ x=>x.elim)
 obtain⟨rfl,rfl⟩:=hk'
 refine z02 (zd2 (kat_run (κ:=κ') (Q:=fun st' s'=>∃p:Array Nat,p.size=vs.length/\arrOf st'=p.map (kas_item (vs.toArray.zip vs.toArray))/\failedOf st'=none/\(PP vs.length p/\Up lt p vs.length)/\∃tk,s'={ s with heap:=h3,toks:=tk })
  (G:=fun p s'=>(PP vs.length p/\Up lt p vs.length)/\∃tk,s'={ s with heap:=h3,toks:=tk }) rfl h2 h64 (fun p' st' s' a1 a2 a3 a4=>⟨p',a1,a2,a3,a4⟩) ?_) ?_ fun _ _ e=>e)
 ·refine QmI (lt:=lt) (n:=vs.length) (J:=fun s'=>∃tk,s'={ s with heap:=h3,toks:=tk }) (P:=fun p=>PP vs.length p/\Up lt p vs.length) (fun i j C s' hi hj hs' hC=>?_) (fun p s' hp hs'=>⟨hp,hs'⟩) (QkM o h2 fun q a b=>⟨a,b⟩) ⟨s.toks,rfl⟩
  obtain⟨tk,rfl⟩:=hs'
  exact hc h3 tk i j C kp3 hi hj fun tk'=>hC _ ⟨tk',rfl⟩
 ·rintro⟨⟨⟩,st'⟩ s' ⟨p,hp,har,hf,⟨pp,up⟩,tk,rfl⟩
  dsimp only
  have hout:=kat_snds (ks:=vs) (vs:=vs) rfl har
  have hsz:(z84 (p.toList.map fun i=>vs.getD i z51)).size=vs.length:=by rw[z16,z00,z47,hp]
  rw[hout]
  have s2:=z98 h3 a (z46 fun _=>z84 (p.toList.map fun i=>vs.getD i z51))
  obtain⟨c2,hc2⟩:∃c2,(h3.update a (z46 fun _=>z84 (p.toList.map fun i=>vs.getD i z51))).get? a=some (seqObj "list" (z84 (p.toList.map fun i=>vs.getD i z51)) c2):=⟨_,get?_update_seq ho3 fun _=>z84 (p.toList.map fun i=>vs.getD i z51)⟩
  refine z02 (seqEpoch_at ho3 rfl ?_)
  refine z02 (listUpdate_at ho3 rfl ?_ (z67 _) (z66 (zv9 hsz) (by rw[z34];lia)))
  rw[hf]
  simp only[bne_self_eq_false,z83,if_false]
  exact z22 (hQ _ tk p c2 pp up (fun b x e=>(s2.2 b (ne b x e)).trans (kp3 b x e)) hc2)
theorem QeZ {l:Addr}{vs:List Value}{κ:SortKind}{lt:Nat->Nat->Bool}{Q:Value->Shared->Prop}(hl:s.heap.IsList l vs.toArray)(h2:2<=vs.length)(h64:vs.length<64)(o:Ord vs.length lt)
  (hk:∀(h':Heap) (tk:Nat) (Q:SortKind->Shared->Prop),Kp s.heap h'->Q κ { s with heap:=h',toks:=tk }->wpAny @11 A.in1.in1 (keyKind' vs.toArray) Q (fun _ _=>False) { s with heap:=h',toks:=tk })
  (hc:∀(h':Heap) (tk i j:Nat) (Q:Bool->Shared->Prop),Kp s.heap h'->i<vs.length->j<vs.length->(∀tk',Q (lt i j) { s with heap:=h',toks:=tk' })->wpAny @11 A.in1.in1 (keyLt' κ (vs.getD i z51) (vs.getD j z51)) Q (fun _ _=>False) { s with heap:=h',toks:=tk })
  (hQ:∀(h':Heap) (tk:Nat) (p:Array Nat) (c:Nat),PP vs.length p->Up lt p vs.length->Kp s.heap h'->h'.get? @14=some (seqObj "list" (z84 (p.toList.map fun i=>vs.getD i z51)) c)->Q (.ref @14) { s with heap:=h',toks:=tk }) :
  wpAny @11 A (call (.builtin "sorted") [.ref l]) Q E s:=by
 refine zi3 kind_sorted plain_sorted entry_sorted (args_sorted1 _) ?_
 unfold Builtin.«sorted»
 refine z02 (m:=checkCount "sorted" 1 1 _) (z22 ?_)
 refine z02 (collect_list hl ?_ (by rw[z34];lia))
 refine z02 (zl2 ?_ (by rw[z34];lia))
 have hsz:((s.heap.push (seqObj "list" #[] 0)).update s.heap.objs.size (z46 (·++vs.toArray))).objs.size=s.heap.objs.size+1:=by
  rw[Heap.size_update,size_push']
 have hoL:(((s.heap.push (seqObj "list" #[] 0)).update s.heap.objs.size (z46 (·++vs.toArray))).push (seqObj "list" vs.toArray 0)).get? @14=some (seqObj "list" vs.toArray 0):=by
  rw[← hsz];exact z27 _ rfl
 have keep:Kp s.heap (((s.heap.push (seqObj "list" #[] 0)).update s.heap.objs.size (z46 (·++vs.toArray))).push (seqObj "list" vs.toArray 0)):=fun b o q=>by
  have hlt:b<s.heap.objs.size:=z23 q
  rw[zj3 _ _ _ (by rw[hsz];exact z37 (zp1 hlt)),zw6 _ _ _ _ (z37 hlt),zj3 _ _ _ (z37 hlt)]
  exact q
 have hn0:s.heap.get? @14=none:=zh1 (z93 _)
 show wpAny _ _ _ _ _ { s with heap:=((s.heap.push (seqObj "list" #[] 0)).update s.heap.objs.size (z46 (·++vs.toArray))).push (seqObj "list" vs.toArray 0)}
 rw[hsz]
 refine z02 (z96 (z90 slot_list_sort ⟨_,hoL,rfl⟩ entry_list_sort ?body (args_list_sort _)))
 case body=>
  refine Qef (s:={ s with heap:=((s.heap.push (seqObj "list" #[] 0)).update s.heap.objs.size (z46 (·++vs.toArray))).push (seqObj "list" vs.toArray 0)}) (h0:=s.heap) (κ:=κ) (lt:=lt) hoL keep hn0 h2 h64 o (fun h' tk Q kp q=>hk h' tk Q kp q) (fun h' tk i j Q kp hi hj q=>hc h' tk i j Q kp hi hj q) fun h' tk p c pp up kp hD=>?_
  exact⟨_,rfl,z22 ⟨_,rfl,hQ h' tk p c pp up kp hD⟩⟩
end
section
variable {prog:Program}{w:World}{A:Around}{E:Value->Shared->Prop}{s:Shared}
theorem Qc3 {a:Addr}{vs:List Value}{n:Nat}{h0:Heap}{P:PySem.Fin->Shared->Prop}(ho:s.heap.get? a=some (seqObj "list" vs.toArray n))(h0k:Kp h0 s.heap)(h0a:h0.get? a=none)(h2:vs.length<2)
  (hQ:∀(h':Heap) (tk:Nat) (c:Nat),Kp h0 h'->h'.get? a=some (seqObj "list" vs.toArray c)->P (.done (.ret .none)) { s with heap:=h',toks:=tk }) :
  wpAny @11 A (Builtin.«list.sort» ⟨[.ref a],[]⟩) P E s:=by
 have s1:=z98 s.heap a (z46 fun _=>(#[]:Array Value))
 obtain⟨e1,ho1⟩:∃e1,(s.heap.update a (z46 fun _=>(#[]:Array Value))).get? a=some (seqObj "list" #[] e1):=⟨_,get?_update_seq ho fun _=>#[]⟩
 have ne:∀b o,h0.get? b=some o->b≠a:=fun b o e z=>by rw[z,h0a] at e;cases e
 have kp3:Kp h0 (((s.heap.update a (z46 fun _=>(#[]:Array Value))).push (seqObj "tuple" vs.toArray 0)).push (seqObj "list" #[] 0)):=fun b x e=>
  z06 _ (z06 _ ((s1.2 b (ne b x e)).trans (h0k b x e)))
 have ho3:(((s.heap.update a (z46 fun _=>(#[]:Array Value))).push (seqObj "tuple" vs.toArray 0)).push (seqObj "list" #[] 0)).get? a=some (seqObj "list" #[] e1):=z06 _ (z06 _ ho1)
 rw[list_sort_plain]
 refine z02 (listItems_at ho rfl ?_)
 refine z02 (listUpdate_at ho rfl ?_ (by rw[z16,z34];lia) (z67 _))
 refine z02 (seqEpoch_at ho1 rfl ?_)
 refine z02 (zv3 ?_ (by show vs.length<=_;rw[z34];lia))
 refine z02 (zl2 ?_ (z67 _))
 refine z96 ?_
 show wpAny @11 A _ P E { s with heap:=((s.heap.update a (z46 fun _=>(#[]:Array Value))).push (seqObj "tuple" vs.toArray 0)).push (seqObj "list" #[] 0)}
 generalize ((s.heap.update a (z46 fun _=>(#[]:Array Value))).push (seqObj "tuple" vs.toArray 0)).push (seqObj "list" #[] 0)=h3 at kp3 ho3 ⊢
 dsimp only
 have hn2:vs.toArray.size<2:=by rw[z16];lia
 rw[if_pos hn2,if_pos hn2]
 refine z02 (z22 ?_)
 rw[StateT.run_pure]
 refine z02 (z22 ?_)
 dsimp only
 have e2:(arrOf (SortSt.mk' general' (vs.toArray.zip vs.toArray) #[] 7 none)).map (·.2)=vs.toArray:=by
  show((vs.toArray.zip vs.toArray)).map (·.2)=vs.toArray
  apply zz5.mp
  simp[List.map_snd_zip]
 rw[e2]
 have s2:=z98 h3 a (z46 fun _=>vs.toArray)
 obtain⟨c2,hc2⟩:∃c2,(h3.update a (z46 fun _=>vs.toArray)).get? a=some (seqObj "list" vs.toArray c2):=⟨_,get?_update_seq ho3 fun _=>vs.toArray⟩
 refine z02 (seqEpoch_at ho3 rfl ?_)
 refine z02 (listUpdate_at ho3 rfl ?_ (z67 _) (by rw[z16,z34];lia))
 simp only[bne_self_eq_false,z83,if_false]
 exact z22 (hQ _ s.toks c2 (fun b x e=>(s2.2 b (ne b x e)).trans (kp3 b x e)) hc2)
end
section
variable {prog:Program}{w:World}{A:Around}{E:Value->Shared->Prop}{s:Shared}
theorem Qgy {l:Addr}{vs:List Value}{κ:SortKind}{lt:Nat->Nat->Bool}{Q:Value->Shared->Prop}(hl:s.heap.IsList l vs.toArray)(h64:vs.length<64)(o:Ord vs.length lt)
  (hk:2<=vs.length->∀(h':Heap) (tk:Nat) (Q:SortKind->Shared->Prop),Kp s.heap h'->Q κ { s with heap:=h',toks:=tk }->wpAny @11 A.in1.in1 (keyKind' vs.toArray) Q (fun _ _=>False) { s with heap:=h',toks:=tk })
  (hc:∀(h':Heap) (tk i j:Nat) (Q:Bool->Shared->Prop),Kp s.heap h'->i<vs.length->j<vs.length->(∀tk',Q (lt i j) { s with heap:=h',toks:=tk' })->wpAny @11 A.in1.in1 (keyLt' κ (vs.getD i z51) (vs.getD j z51)) Q (fun _ _=>False) { s with heap:=h',toks:=tk })
  (hQ:∀(h':Heap) (tk:Nat) (p:Array Nat) (c:Nat),PP vs.length p->Up lt p vs.length->Kp s.heap h'->h'.get? @14=some (seqObj "list" (z84 (p.toList.map fun i=>vs.getD i z51)) c)->Q (.ref @14) { s with heap:=h',toks:=tk }) :
  wpAny @11 A (call (.builtin "sorted") [.ref l]) Q E s:=by
 by_cases h2:2<=vs.length
 ·exact QeZ hl h2 h64 o (hk h2) hc hQ
 ·refine zi3 kind_sorted plain_sorted entry_sorted (args_sorted1 _) ?_
  unfold Builtin.«sorted»
  refine z02 (m:=checkCount "sorted" 1 1 _) (z22 ?_)
  refine z02 (collect_list hl ?_ (by rw[z34];lia))
  refine z02 (zl2 ?_ (by rw[z34];lia))
  have hsz:((s.heap.push (seqObj "list" #[] 0)).update s.heap.objs.size (z46 (·++vs.toArray))).objs.size=s.heap.objs.size+1:=by
   rw[Heap.size_update,size_push']
  have hoL:(((s.heap.push (seqObj "list" #[] 0)).update s.heap.objs.size (z46 (·++vs.toArray))).push (seqObj "list" vs.toArray 0)).get? @14=some (seqObj "list" vs.toArray 0):=by
   rw[← hsz];exact z27 _ rfl
  have keep:Kp s.heap (((s.heap.push (seqObj "list" #[] 0)).update s.heap.objs.size (z46 (·++vs.toArray))).push (seqObj "list" vs.toArray 0)):=fun b o q=>by
   have hlt:b<s.heap.objs.size:=z23 q
   rw[zj3 _ _ _ (by rw[hsz];exact z37 (zp1 hlt)),zw6 _ _ _ _ (z37 hlt),zj3 _ _ _ (z37 hlt)]
   exact q
  have hn0:s.heap.get? @14=none:=zh1 (z93 _)
  show wpAny _ _ _ _ _ { s with heap:=((s.heap.push (seqObj "list" #[] 0)).update s.heap.objs.size (z46 (·++vs.toArray))).push (seqObj "list" vs.toArray 0)}
  rw[hsz]
  refine z02 (z96 (z90 slot_list_sort ⟨_,hoL,rfl⟩ entry_list_sort ?body (args_list_sort _)))
  case body=>
   refine Qc3 (s:={ s with heap:=((s.heap.push (seqObj "list" #[] 0)).update s.heap.objs.size (z46 (·++vs.toArray))).push (seqObj "list" vs.toArray 0)}) (h0:=s.heap) hoL keep hn0 @1 fun h' tk c kp hD=>?_
   refine⟨_,rfl,z22 ⟨_,rfl,hQ h' tk (z84 (z63 vs.length)) c ⟨by simp,by simp⟩ (fun i i1 i2=>by lia) kp ?_⟩⟩
   rw[hD]
   congr 2
   match vs,h2 with
   | [],_=>rfl
   | [v],_=>rfl
   |_::_::_,h=>exact absurd @9 h
end
def ltP (a b:Int×Int):Bool:=decide (a.1<b.1\/(a.1=b.1/\a.2<b.2))
def PT (K:z01)(H:Hp)(q:Addr)(pr:Int×Int):Prop:=SqT K H q [.int pr.1,.int pr.2]
def PO (h:Heap)(q:Addr)(pr:Int×Int):Prop:=∃o t u n,h.get? q=some o/\o.cls=.type "tuple" /\ o.data=.seq #[.int pr.1 t,.int pr.2 u] n
theorem PO.kp {h h':Heap}{q:Addr}{pr:Int×Int}(p:PO h q pr)(k:Kp h h'):PO h' q pr:=by
 obtain⟨o,t,u,n,e,r⟩:=p
 exact⟨o,t,u,n,k _ _ e,r⟩
theorem QmK {X:Cx}{pins:List @12}{σ:St}{H:Hp}{s:Shared}(I:Inv X pins σ H s){q:Addr}{pr:Int×Int}(h:PT X.K H q pr):PO s.heap q pr:=by
 obtain⟨its,rv,⟨o,e,c,n,d⟩,_⟩:=I.tuple h
 obtain⟨u,v,rfl,⟨t,rfl⟩,⟨t',rfl⟩⟩:=Vals.two rv
 exact⟨o,t,t',n,e,c,d⟩
theorem range_getD {α:Type}(d:α)(l:List α):(z63 l.length).map (fun i=>l.getD i d)=l:=by
 apply List.ext_getElem
 ·simp
 ·intro i h1 h2
  simp[z09,z05 h2]
section
theorem Qeg:∀{qs:List Addr} {us:List Value},Vals (qs.map V.ref) us->us=qs.map z24
 | [],_,.nil=>rfl
 |q::qs,_,.cons r t=>by cases r;rw[Qeg t];rfl
theorem Qb3:∀(qs:List Addr),Vals (qs.map V.ref) (qs.map z24)
 | []=>.nil
 |q::qs=>.cons rfl (Qb3 qs)
end
inductive QdG (A:Around) (s:Shared) (fin:Bool):List (Value×Value)->Bool->Prop
 |nil:QdG A s fin [] fin
 |eq {p q:Value} {r:List (Value×Value)} {b:Bool} (h:zf9 A s p q true) (t:QdG A s fin r b):QdG A s fin ((p,q)::r) b
 |lt {p q:Value} {r:List (Value×Value)} {b:Bool} (h:zf9 A s p q false) (t:∀(prog:Program) (w:World) (E Q:Value->Shared->Prop),Q (.bool b) s->wpAny @11 A (richCompare .Lt p q) Q E s):QdG A s fin ((p,q)::r) b
section
open PySem.SeqAt
open PySem.AutoSeq1 (wpAny_loadPart')
open PySem.MeetsSeq PySem.MeetsSeq2 PySem.MeetsSeq3
theorem Qeh (l b:Addr)(items items2:Array Value)(n n2:Nat)(dd dd2:Option Addr)(sl sl2:Array (Option Value))(res:Bool) :
  Meets (Builtin.«tuple.__lt__» ⟨[.ref l,.ref b],[]⟩)
   (fun A R s=>s.heap.get? l=some { cls:=.type "tuple",dict:=dd,data:=.seq items n,slots:=sl }/\s.heap.get? b=some { cls:=.type "tuple",dict:=dd2,data:=.seq items2 n2,slots:=sl2 }/\
    QdG A.in1 s (decide (items.size<items2.size)) (items.toList.zip items2.toList) res/\R (.ok (.ret (.bool res))) s):=
 .of_wp fun prog w A R s h=>by
  obtain⟨hp,g,d,tk,os⟩:=s;obtain⟨hl,hb,hx,h⟩:=h
  have f2:=AutoSeq1.sub_tuple_tuple
  wp_walk using zg3 hl,zg3 hb,wpAny_forIn_list _ (fun rest b s'=>b.1=none/\s'=⟨hp,g,d,tk,os⟩/\QdG A.in1 ⟨hp,g,d,tk,os⟩ (decide (items.size<items2.size)) rest res) _
  case turn=>
   rintro⟨y,x⟩ rest b s' ⟨hb',rfl,hL⟩
   cases hL with
   |eq he hr=>
    refine z02 (he prog w _ _ ?_)
    wp_walk
    exact⟨rfl,rfl,hr⟩
   |lt he hlt=>
    refine z02 (he prog w _ _ ?_)
    have hri:=hlt prog w
    wp_walk using hri
    exact⟨_,rfl,by simpa using h⟩
  case fin=>
   rintro⟨b1,b2⟩ s' ⟨hb',rfl,hL⟩
   simp only at hb'
   subst hb'
   cases hL
   wp_walk
   exact⟨_,rfl,by simpa[Builtin.Tuple.tupleCompareSizes] using h⟩
  case h=>exact⟨rfl,rfl,hx⟩
end
theorem QjZ {prog:Program}{w:World}{A:Around}{E:Value->Shared->Prop}{s:Shared}{l b:Addr}{o o2:Obj}{items items2:Array Value}{n n2:Nat}{res:Bool}{Q:Value->Shared->Prop}(h1:s.heap.get? l=some o)(c1:o.cls=.type "tuple")(d1:o.data=.seq items n)(h2:s.heap.get? b=some o2)(c2:o2.cls=.type "tuple")(d2:o2.data=.seq items2 n2)
  (hu:A.units<cLine) (hx:QdG A.in1 s (decide (items.size<items2.size)) (items.toList.zip items2.toList) res) (h:Q (.bool res) s):wpAny @11 A (compareOp .Lt (.ref l) (.ref b)) Q E s:=by
 obtain⟨cls,dd,data,sl⟩:=o
 obtain⟨cls2,dd2,data2,sl2⟩:=o2
 simp only at c1 d1 c2 d2
 subst c1 d1 c2 d2
 exact richCompare_meets_room (op:=.Lt) ⟨_,h1,rfl⟩ ⟨_,h2,rfl⟩ PySem.F.slot_tuple_lt PySem.F.entry_tuple_lt (PySem.F.args_tuple_lt_2 _ _) (Qeh l b items items2 n n2 dd dd2 sl sl2 res)
  ⟨h1,h2,hx,show zf8 res≠Value.notImplemented/\Q (.bool res) s from⟨(fun x=>nomatch x),h⟩⟩ hu
abbrev NP:=Int×(Int×Int)
abbrev PN:=(Int×Int)×Int
def YI (a b:NP):Bool:=decide (a.1<b.1) || (decide (a.1=b.1) && ltP a.2 b.2)
def QcS (a b:PN):Bool:=ltP a.1 b.1 || (decide (a.1=b.1) && decide (a.2<b.2))
def PO1 (h:Heap)(q:Addr)(x:NP):Prop:=∃o t r n,h.get? q=some o/\o.cls=.type "tuple" /\ o.data=.seq #[.int x.1 t,.ref r] n/\PO h r x.2
def PO2 (h:Heap)(q:Addr)(x:PN):Prop:=∃o t r n,h.get? q=some o/\o.cls=.type "tuple" /\ o.data=.seq #[.ref r,.int x.2 t] n/\PO h r x.1
theorem PO1.kp {h h':Heap}{q:Addr}{x:NP}(p:PO1 h q x)(k:Kp h h'):PO1 h' q x:=by
 obtain⟨o,t,r,n,e,c,d,p⟩:=p
 exact⟨o,t,r,n,k _ _ e,c,d,p.kp k⟩
theorem PO2.kp {h h':Heap}{q:Addr}{x:PN}(p:PO2 h q x)(k:Kp h h'):PO2 h' q x:=by
 obtain⟨o,t,r,n,e,c,d,p⟩:=p
 exact⟨o,t,r,n,k _ _ e,c,d,p.kp k⟩
theorem PO.det {h:Heap}{q:Addr}{x y:Int×Int}(p:PO h q x)(p':PO h q y):x=y:=by
 obtain⟨o,t,u,n,e,c,d⟩:=p
 obtain⟨o',t',u',n',e',c',d'⟩:=p'
 rw[e] at e';cases e'
 rw[d] at d'
 injection d' with d1 d2
 have:=congrArg zo6 d1
 simp at this
 exact zq3 this.1.1 this.2.1
theorem Qi4 {A:Around}{s:Shared}{q r:Addr}{x y:Int×Int}(hu:A.units<cLine)(hq:PO s.heap q x)(hr:PO s.heap r y):zf9 A s (.ref q) (.ref r) (decide (x=y)):=by
 by_cases e:q=r
 ·subst e
  rw[decide_eq_true (hq.det hr)]
  exact zj0 _
 ·obtain⟨o,t1,t2,n,e1,c1,d1⟩:=hq
  obtain⟨o',t3,t4,n',e2,c2,d2⟩:=hr
  refine zk4 e ?_
  have key:=zt2 (A:=A) (e:=fun j=>if j=0 then x.1 == y.1 else x.2 == y.2) (show s.heap.IsTuple q [z62 x.1 t1,z62 x.2 t2].toArray from⟨o,e1,c1,n,d1⟩) (show s.heap.IsTuple r [z62 y.1 t3,z62 y.2 t4].toArray from⟨o',e2,c2,n',d2⟩) hu (fun j h1 h2=>by
   have hj:j=0\/j=1:=by simp at h1;lia
   rcases hj with rfl|rfl
   ·exact z64 x.1 t1 y.1 t3
   ·exact z64 x.2 t2 y.2 t4)
  have e2:((z63 (min [z62 x.1 t1,z62 x.2 t2].toArray.size [z62 y.1 t3,z62 y.2 t4].toArray.size)).all (fun j=>if j=0 then x.1 == y.1 else x.2 == y.2) && [z62 x.1 t1,z62 x.2 t2].toArray.size == [z62 y.1 t3,z62 y.2 t4].toArray.size)=decide (x=y):=by
   obtain⟨x1,x2⟩:=x
   obtain⟨y1,y2⟩:=y
   by_cases h1:x1=y1<;>by_cases h2:x2=y2<;>simp[h1,h2,List.range_succ]
  rw[e2] at key
  exact key
theorem Qpy {prog:Program}{w:World}{A:Around}{E:Value->Shared->Prop}{s:Shared}{q r:Addr}{x y:Int×Int}{Q:Value->Shared->Prop}(hu:A.units<cLine)(hq:PO s.heap q x)(hr:PO s.heap r y)(h:Q (.bool (ltP x y)) s):wpAny @11 A (compareOp .Lt (.ref q) (.ref r)) Q E s:=by
 obtain⟨o,t1,t2,n,e1,c1,d1⟩:=hq
 obtain⟨o',t3,t4,n',e2,c2,d2⟩:=hr
 refine QjZ e1 c1 d1 e2 c2 d2 hu ?_ h
 show QdG _ s false [(z62 x.1 t1,z62 y.1 t3),(z62 x.2 t2,z62 y.2 t4)] _
 by_cases h1:x.1=y.1
 ·refine .eq (by have:=z64 (A:=A.in1) (s:=s) x.1 t1 y.1 t3;rwa[beq_iff_eq.mpr h1] at this) ?_
  by_cases h2:x.2=y.2
  ·have z:ltP x y=false:=decide_eq_false @1
   rw[z]
   exact .eq (by have:=z64 (A:=A.in1) (s:=s) x.2 t2 y.2 t4;rwa[beq_iff_eq.mpr h2] at this) .nil
  ·have z:ltP x y=decide (x.2<y.2):=by unfold ltP;simp[h1]
   rw[z]
   exact .lt (by have:=z64 (A:=A.in1) (s:=s) x.2 t2 y.2 t4;rwa[beq_eq_false_iff_ne.mpr h2] at this) fun prog w E Q hq=>HT.rcLt_int _ _ _ _ _ _ prog w E Q hq
 ·have z:ltP x y=decide (x.1<y.1):=by unfold ltP;simp[h1]
  rw[z]
  exact .lt (by have:=z64 (A:=A.in1) (s:=s) x.1 t1 y.1 t3;rwa[beq_eq_false_iff_ne.mpr h1] at this) fun prog w E Q hq=>HT.rcLt_int _ _ _ _ _ _ prog w E Q hq
theorem Qpz {prog:Program}{w:World}{A:Around}{E:Value->Shared->Prop}{s:Shared}{q r:Addr}{x y:NP}{Q:Value->Shared->Prop}(hu:A.units+1<cLine)(hq:PO1 s.heap q x)(hr:PO1 s.heap r y)(h:Q (.bool (YI x y)) s):wpAny @11 A (compareOp .Lt (.ref q) (.ref r)) Q E s:=by
 obtain⟨o,t1,a,n,e1,c1,d1,p1⟩:=hq
 obtain⟨o',t3,b,n',e2,c2,d2,p2⟩:=hr
 have hu1:A.in1.units<cLine:=by have:=units_in1 (A:=A);lia
 refine QjZ e1 c1 d1 e2 c2 d2 @1 ?_ h
 show QdG _ s false [(z62 x.1 t1,z62 y.1 t3),(z24 a,z24 b)] _
 by_cases h1:x.1=y.1
 ·have h1':decide (x.1<y.1)=false:=decide_eq_false @1
  refine .eq (by have:=z64 (A:=A.in1) (s:=s) x.1 t1 y.1 t3;rwa[beq_iff_eq.mpr h1] at this) ?_
  have z:YI x y=ltP x.2 y.2:=by unfold YI;simp[h1]
  rw[z]
  by_cases h2:x.2=y.2
  ·have z:ltP x.2 y.2=false:=decide_eq_false (by rw[h2];lia)
   rw[z]
   exact .eq (by have:=Qi4 hu1 p1 p2;rwa[decide_eq_true h2] at this) .nil
  ·exact .lt (by have:=Qi4 hu1 p1 p2;rwa[decide_eq_false h2] at this) fun prog w E Q hq=>Qpy hu1 p1 p2 hq
 ·have z:YI x y=decide (x.1<y.1):=by unfold YI;simp[h1]
  rw[z]
  exact .lt (by have:=z64 (A:=A.in1) (s:=s) x.1 t1 y.1 t3;rwa[beq_eq_false_iff_ne.mpr h1] at this) fun prog w E Q hq=>HT.rcLt_int _ _ _ _ _ _ prog w E Q hq
end L2.Srt
namespace L2.Srt
open PySem PySem.W PySem.Calls PyProof.Rows
theorem QdH (a:Int×Int):ltP a a=false:=decide_eq_false @1
theorem Qj0 {a b c:Int×Int}(h:ltP a b=true)(h':ltP b c=true):ltP a c=true:=by
 have h:=of_decide_eq_true h
 have h':=of_decide_eq_true h'
 exact decide_eq_true @1
theorem Qg2 {a b:Int×Int}(h:a≠b)(h':ltP a b=false):ltP b a=true:=by
 have h':=of_decide_eq_false h'
 refine decide_eq_true ?_
 by_cases e:a.1=b.1
 ·have:a.2≠b.2:=fun z=>h (zq3 e z)
  lia
 ·lia
theorem QbU {a b:NP}:YI a b=true↔a.1<b.1\/(a.1=b.1/\ltP a.2 b.2=true):=by unfold YI;simp
theorem QbV {a b:PN}:QcS a b=true↔ltP a.1 b.1=true\/(a.1=b.1/\a.2<b.2):=by unfold QcS;simp
structure Lin {α:Type}(lt:α->α->Bool):Prop where
 irr:∀a,lt a a=false
 tr:∀a b c,lt a b=true->lt b c=true->lt a c=true
 tot:∀a b,a≠b->lt a b=false->lt b a=true
theorem Qat:Lin YI where
 irr:=fun a=>by rw[zj4];intro h;rcases QbU.mp h with h|⟨_,h⟩<;>first|lia|(rw[QdH] at h;cases h)
 tr:=fun a b c h h'=>by
  rw[QbU] at h h' ⊢
  rcases h with h|⟨e,h⟩<;>rcases h' with h'|⟨e',h'⟩
  ·exact .inl @1
  ·exact .inl @1
  ·exact .inl @1
  ·exact .inr ⟨by lia,Qj0 h h'⟩
 tot:=fun a b ne h=>by
  rw[QbU]
  have h':¬ (a.1<b.1\/(a.1=b.1/\ltP a.2 b.2=true)):=fun z=>by rw[QbU.mpr z] at h;cases h
  by_cases e:a.1=b.1
  ·refine .inr ⟨e.symm,Qg2 (fun z=>ne (zq3 e z)) ?_⟩
   rw[zj4];exact fun z=>h' (.inr ⟨e,z⟩)
  ·exact .inl (by have:¬ a.1<b.1:=fun z=>h' (.inl z);lia)
theorem Qb4:Lin QcS where
 irr:=fun a=>by rw[zj4];intro h;rcases QbV.mp h with h|⟨_,h⟩<;>first|lia|(rw[QdH] at h;cases h)
 tr:=fun a b c h h'=>by
  rw[QbV] at h h' ⊢
  rcases h with h|⟨e,h⟩<;>rcases h' with h'|⟨e',h'⟩
  ·exact .inl (Qj0 h h')
  ·exact .inl (e'▸h)
  ·exact .inl (e▸h')
  ·exact .inr ⟨e.trans e',by lia⟩
 tot:=fun a b ne h=>by
  rw[QbV]
  have h':¬ (ltP a.1 b.1=true\/(a.1=b.1/\a.2<b.2)):=fun z=>by rw[QbV.mpr z] at h;cases h
  by_cases e:a.1=b.1
  ·refine .inr ⟨e.symm,?_⟩
   have:a.2≠b.2:=fun z=>ne (zq3 e z)
   have:¬ a.2<b.2:=fun z=>h' (.inr ⟨e,z⟩)
   lia
  ·exact .inl (Qg2 e (by rw[zj4];exact fun z=>h' (.inl z)))
theorem Lin.ord {α:Type}{lt:α->α->Bool}(L:Lin lt)(d:α){ps:List α}(nd:ps.Nodup):Ord ps.length fun i j=>lt (ps.getD i d) (ps.getD j d) where
 ir:=fun i=>L.irr _
 tr:=fun i j k a b=>L.tr _ _ _ a b
 to:=fun i j hi hj ne a=>by
  refine L.tot _ _ (fun z=>?_) a
  rw[z09,z09,z05 hi,z05 hj] at z
  exact ne ((zp7 nd).mp z)
theorem Qi5.Qpa {α:Type}{d:α}{R:Addr->α->Prop}{qs:List Addr}{ps:List α}(p:Paired R qs ps){i:Nat}(hi:i<qs.length):R (qs.getD i 0) (ps.getD i d):=by
 have e:qs[i]? = some qs[i]:=z05 hi
 obtain⟨b,eb,r⟩:=Paired.get p e
 rw[z09,z09,e,eb]
 exact r
structure Qg3 (A:Around)(α:Type)(lt:α->α->Bool)(PO:Heap->Addr->α->Prop)(κ:SortKind):Prop where
 kp:∀{h h':Heap} {q:Addr} {x:α},PO h q x->Kp h h'->PO h' q x
 kind:∀{prog:Program} {w:World} {s:Shared} {qs:List Addr} {ps:List α} {Q:SortKind->Shared->Prop},Paired (PO s.heap) qs ps->2<=ps.length->Q κ s->wpAny @11 A (keyKind' (qs.map z24).toArray) Q (fun _ _=>False) s
 cmp:∀{prog:Program} {w:World} {s:Shared} {q r:Addr} {x y:α} {Q:Bool->Shared->Prop},PO s.heap q x->PO s.heap r y->Q (lt x y) s->wpAny @11 A (keyLt' κ (.ref q) (.ref r)) Q (fun _ _=>False) s
theorem Qi6 {prog:Program}{w:World}{A:Around}{E:Value->Shared->Prop}{s:Shared}{α:Type}(d:α){lt:α->α->Bool}{PO:Heap->Addr->α->Prop}{κ:SortKind}(S:Qg3 A.in1.in1 α lt PO κ)(L:Lin lt){l:Addr}{qs:List Addr}{ps:List α}{Q:Value->Shared->Prop}(hl:s.heap.IsList l (qs.map z24).toArray)(pr:Paired (PO s.heap) qs ps)(nd:ps.Nodup)(l64:ps.length<64)
  (k:∀(h':Heap) (tk:Nat) (is:List Nat) (c:Nat),is.Perm (z63 ps.length)->(is.map fun i=>ps.getD i d).Pairwise (fun a b=>lt a b=true)->Kp s.heap h'->h'.get? @14=some (seqObj "list" ((is.map fun i=>qs.getD i 0).map z24).toArray c)->Q (.ref @14) { s with heap:=h',toks:=tk }) :
  wpAny @11 A (call (.builtin "sorted") [.ref l]) Q E s:=by
 have lq:=zm5 pr
 have Qgz:(qs.map z24).length=ps.length:=by rw[z00,lq]
 have og:∀{i:Nat},i<(qs.map z24).length->(qs.map z24).getD i z51=z24 (qs.getD i 0):=fun{i} hi=>by
  rw[z00] at hi
  rw[z09,z09,z29,z05 hi]
  rfl
 refine Qgy (κ:=κ) (lt:=fun i j=>lt (ps.getD i d) (ps.getD j d)) hl (by rw[Qgz];exact l64) (by rw[Qgz];exact L.ord d nd) (fun h2 h' tk Q' kp q=>?_) (fun h' tk i j Q' kp hi hj q=>?_) fun h' tk q c pp up kp hD=>?_
 ·exact S.kind (s:={ s with heap:=h',toks:=tk }) (Paired.imp' (fun _ _ z=>S.kp z kp) pr) @1 q
 ·rw[og hi,og hj]
  rw[z00] at hi hj
  exact S.cmp (s:={ s with heap:=h',toks:=tk }) (S.kp (Qi5.Qpa (d:=d) pr hi) kp) (S.kp (Qi5.Qpa (d:=d) pr hj) kp) (q tk)
 ·rw[Qgz] at pp up
  have hb:∀i∈q.toList,i<ps.length:=fun i hi=>za3.mp (pp.pm.mem_iff.mp hi)
  have QpA:(q.toList.map fun i=>(qs.map z24).getD i z51)=(q.toList.map fun i=>qs.getD i 0).map z24:=by
   rw[z43]
   exact zb9 fun i hi=>og (by rw[Qgz];exact hb i hi)
  rw[QpA] at hD
  have Qrm:q.toList.length=ps.length:=by rw[z47];exact pp.sz
  refine k h' tk q.toList c pp.pm ?_ kp hD
  rw[zj1,zb2]
  intro i j hi hj hij
  have hj':j<ps.length:=by lia
  have hi':i<ps.length:=by lia
  have a:=up.all (L.ord d nd) hij hj'
  have gi:G q i=q.toList[i]:=by
   have:i<q.size:=by rw[pp.sz];exact hi'
   simp[G,zi9,this]
  have gj:G q j=q.toList[j]:=by
   have:j<q.size:=by rw[pp.sz];exact hj'
   simp[G,zi9,this]
  rw[gi,gj] at a
  exact a
theorem Qi7 {h:Heap}{qs:List Addr}{ps:List NP}(p:Paired (PO1 h) qs ps):∃fs,KatTups h (qs.map z24) fs/\fs.length=ps.length/\∀v∈fs,∃i t,v=z62 i t:=by
 induction p with
 |nil=>exact⟨[],.nil,rfl,fun v z=>nomatch z⟩
 |cons z _ ih=>
  obtain⟨fs,k,l,a⟩:=ih
  obtain⟨o,t,u,n,e,c,d,_⟩:=z
  refine⟨_::fs,KatTups.cons e c d rfl k,by rw[z30,z30,l],fun v hv=>?_⟩
  rcases z19.mp hv with rfl|hv
  ·exact⟨_,_,rfl⟩
  ·exact a v hv
theorem Qi8 {h:Heap}{qs:List Addr}{ps:List PN}(p:Paired (PO2 h) qs ps):∃fs,KatTups h (qs.map z24) fs/\fs.length=ps.length/\∀v∈fs,∃r x,v=z24 r/\PO h r x:=by
 induction p with
 |nil=>exact⟨[],.nil,rfl,fun v z=>nomatch z⟩
 |cons z _ ih=>
  obtain⟨fs,k,l,a⟩:=ih
  obtain⟨o,t,u,n,e,c,d,po⟩:=z
  refine⟨_::fs,KatTups.cons e c d rfl k,by rw[z30,z30,l],fun v hv=>?_⟩
  rcases z19.mp hv with rfl|hv
  ·exact⟨_,_,rfl,po⟩
  ·exact a v hv
theorem QmL {A:Around}(hu:A.units+1<cLine):Qg3 A NP YI PO1 (tuples' true) where
 kp:=PO1.kp
 kind:=fun{prog w s qs ps Q} pr h2 q=>by
  obtain⟨fs,kt,lf,af⟩:=Qi7 pr
  refine kat_kind (T:=.type "int") kt @1 (fun v hv=>?_) rfl q
  obtain⟨i,t,rfl⟩:=af v hv
  exact Looks.of_pure rfl
 cmp:=fun{prog w s q r x y Q} hq hr h=>by
  obtain⟨o,t,a,n,e,c,d,p1⟩:=hq
  obtain⟨o',t',b,n',e',c',d',p2⟩:=hr
  refine kat_lt (b:=true) e d e' d' ?_
  show KatLex prog w A true _ Q [(z62 x.1 t,z62 y.1 t'),(z24 a,z24 b)] 0 s
  refine kat_cons ((z64 x.1 t y.1 t') prog w _ _ (kat_go (fun e1=>kat_yes ?_) fun e1=>kat_no ?_))
  ·have e1':x.1=y.1:=by simpa using e1
   have z:YI x y=ltP x.2 y.2:=by unfold YI;simp[e1']
   rw[z] at h
   refine kat_cons ((Qi4 @1 p1 p2) prog w _ _ (kat_go (fun e2=>kat_yes ?_) fun e2=>kat_no ?_))
   ·have e2':x.2=y.2:=of_decide_eq_true e2
    refine kat_nil ?_
    rw[e2',QdH] at h
    exact h
   ·exact kat_one _ _ (Qpy @1 p1 p2 h)
  ·have e1':x.1≠y.1:=by simpa using e1
   refine oneLt_int ?_
   have z:YI x y=decide (x.1<y.1):=by unfold YI;simp[e1']
   rw[z] at h
   exact h
theorem QmM {A:Around}(hu:A.units+1<cLine):Qg3 A PN QcS PO2 (tuples' false) where
 kp:=PO2.kp
 kind:=fun{prog w s qs ps Q} pr h2 q=>by
  obtain⟨fs,kt,lf,af⟩:=Qi8 pr
  refine kat_kind (T:=.type "tuple") kt @1 (fun v hv=>?_) rfl q
  obtain⟨r,x,rfl,o,t,u,n,e,c,d⟩:=af v hv
  exact fun A Q E s k q=>zn0 ⟨o,k _ _ e,c⟩ q
 cmp:=fun{prog w s q r x y Q} hq hr h=>by
  obtain⟨o,t,a,n,e,c,d,p1⟩:=hq
  obtain⟨o',t',b,n',e',c',d',p2⟩:=hr
  refine kat_lt (b:=false) e d e' d' ?_
  show KatLex prog w A false _ Q [(z24 a,z24 b),(z62 x.2 t,z62 y.2 t')] 0 s
  refine kat_cons ((Qi4 @1 p1 p2) prog w _ _ (kat_go (fun e1=>kat_yes ?_) fun e1=>kat_no ?_))
  ·have e1':x.1=y.1:=of_decide_eq_true e1
   have z:QcS x y=decide (x.2<y.2):=by unfold QcS;rw[e1',QdH];simp
   rw[z] at h
   refine kat_cons ((z64 x.2 t y.2 t') prog w _ _ (kat_go (fun e2=>kat_yes ?_) fun e2=>kat_no ?_))
   ·have e2':x.2=y.2:=by simpa using e2
    refine kat_nil ?_
    rw[decide_eq_false @1] at h
    exact h
   ·exact kat_one _ _ (zq8 h)
  ·have e1':x.1≠y.1:=of_decide_eq_false e1
   have z:QcS x y=ltP x.1 y.1:=by unfold QcS;simp[e1']
   rw[z] at h
   exact kat_one _ _ (Qpy @1 p1 p2 h)
def Raw (h:Heap)(d:Addr)(es:Array DictEntry)(ep:Nat):Prop:=∃o,h.get? d=some o/\o.ExactDict/\o.data=.dict es ep
theorem Raw.kp {h h':Heap}{d:Addr}{es:Array DictEntry}{ep:Nat}(r:Raw h d es ep)(k:∀o,h.get? d=some o->h'.get? d=some o):Raw h' d es ep:=by
 obtain⟨o,e,x⟩:=r
 exact⟨o,k o e,x⟩
def itO (d:Addr)(i n ep:Nat)(x f ok ov:Value):Obj:={ cls:=.type "dict_itemiterator",dict:=none,data:=.fields #[x,f,.ref d,.int i 0,.int n 0,.int ep 0,ok,ov],slots:=#[]}
def Qg4 (e:DictEntry):Obj:={ cls:=.type "tuple",data:=.seq #[e.key,e.val]}
def Handed (h:Heap)(it S:Addr)(x f:Value):Prop:=(x=.none/\f=.bool false)\/∃(a:Addr) (b:Bool) (o:Obj),x=rawInt a/\f=.bool b/\h.get? a=some o/\a≠it/\a≠S
theorem Handed.kp {h h':Heap}{it S:Addr}{x f:Value}(r:Handed h it S x f)(k:∀b o,b≠S->h.get? b=some o->h'.get? b=some o):Handed h' it S x f:=by
 rcases r with r|⟨a,b,o,e1,e2,e3,e4,e5⟩
 ·exact .inl r
 ·exact .inr ⟨a,b,o,e1,e2,k a o e5 e3,e4,e5⟩
section
variable {prog:Program}{w:World}{A:Around}{E:Value->Shared->Prop}
theorem QkN {g:Shared}{it d S:Addr}{i ep:Nat}{es:Array DictEntry}{x f ok ov:Value}{Q:Option Value->Shared->Prop}(hI:g.heap.get? it=some (itO d i es.size ep x f ok ov))(hH:Handed g.heap it S x f)(hS:S<g.heap.objs.size)(hD:Raw g.heap d es ep)(hlt:i<es.size)
  (k:∀h' x' f' ok' ov',h'.get? it=some (itO d (i+1) es.size ep x' f' ok' ov')->Handed h' it S x' f'->h'.get? g.heap.objs.size=some (Qg4 es[i])->h'.objs.size=g.heap.objs.size+1->(∀b o,b≠it->g.heap.get? b=some o->h'.get? b=some o)->Q (some (.ref g.heap.objs.size)) { g with heap:=h' }) :
  wpAny @11 A (pyNext (.ref it)) Q E g:=by
 obtain⟨h0,g1,g2,g3,g4⟩:=g
 dsimp only at hI hH hS hD k
 obtain⟨od,e1,e2,e3⟩:=hD
 have ty:Shared.TypeIs ⟨h0,g1,g2,g3,g4⟩ (.ref it) "dict_itemiterator" := ⟨_,hI,rfl⟩
 have ow:zf0 "dict_itemiterator" = true:=by decide
 unfold pyNext
 refine z02 (zw8 (zc9 (name:=zf3 "__next__") ty z74 (z90 z74 ty zk6 ?_ (zk3 _))))
 refine z02 (z22 (z02 (z02 ?_)))
 first|refine z02 (zc5 ty (z22 (z02 (zo4 hI rfl ?_))))|refine z02 (zf4 ty (z22 (z02 (zo4 hI rfl ?_))))
 simp only[ow,if_true]
 show wpAny _ _ (if(z24 d == z51)=true then _ else _) _ _ _
 rw[if_neg (show ¬ ((z24 d == z51)=true) from fun z=>z36 z)]
 refine z02 (z22 (z02 (zr3 e1 e3 ?_)))
 rw[if_neg (show ¬ _ by simp)]
 refine z02 (z22 (z02 (zt7 e1 e3 ?_)))
 rw[if_neg (show ¬ _ by simp)]
 refine z22 ?_
 simp only[show ¬ ((i:Int)<0) by lia,if_false,z59,zs0 hlt]
 refine z02 ?_
 first|refine z02 (zc5 ty (z22 (z02 (zg8 ty ?_))))|refine z02 (zf4 ty (z22 (z02 (zg8 ty ?_))))
 show wpAny _ _ (setField (.ref it) 3 (rawInt ((i:Int)+1)) >>= _) _ _ (⟨h0,g1,g2,g3,g4⟩:Shared)
 refine z02 (zd7 (show h0.get? it=some { cls:=.type "dict_itemiterator",dict:=none,data:=.fields #[x,f,.ref d,.int i 0,.int es.size 0,.int ep 0,ok,ov],slots:=#[]} from hI) @9 fun h1 i1 s1=>?_)
 have c1:h1.get? it=some (itO d (i+1) es.size ep x f ok ov):=by
  have e:((i+1:Nat):Int)=(i:Int)+1:=by lia
  unfold itO;rw[e];simpa[rawInt] using i1
 have s1:zb0 it h0 h1:=s1
 have ty1:Shared.TypeIs ⟨h1,g1,g2,g3,g4⟩ (.ref it) "dict_itemiterator" := ⟨_,c1,rfl⟩
 refine z02 (z96 (z02 (zg8 ty1 (z02 (zg8 ty1 ?_)))))
 show wpAny _ _ (zi8 (.ref it) 6 es[i].key es[i].val) _ _ (⟨h1,g1,g2,g3,g4⟩:Shared)
 unfold zi8
 refine z02 (zv3 ?_)
 have c2:(h1.push (Qg4 es[i])).get? it=some (itO d (i+1) es.size ep x f ok ov):=z06 _ c1
 have z1:h1.objs.size=h0.objs.size:=s1.1
 have t2:(h1.push (Qg4 es[i])).get? h0.objs.size=some (Qg4 es[i]):=by rw[← z1];exact z27 _ rfl
 have z2:(h1.push (Qg4 es[i])).objs.size=h0.objs.size+1:=by rw[zb4,z1]
 have k2:∀b o,b≠it->h0.get? b=some o->(h1.push (Qg4 es[i])).get? b=some o:=fun b o hb e=>z06 _ (s1.extBut b o hb e)
 have il:it<h0.objs.size:=z23 hI
 show wpAny _ _ (zh8 (.ref it) >>= _) _ _ (⟨h1.push (Qg4 es[i]),g1,g2,g3,g4⟩:Shared)
 generalize h1.push (Qg4 es[i])=h2 at c2 t2 z2 k2 ⊢
 rw[z1]
 clear ty1 c1 s1 i1 z1
 have fin:∀(h':Heap) (x' f' ok' ov':Value),zb0 it h2 h'->h'.get? it=some (itO d (i+1) es.size ep x' f' ok' ov')->Handed h' it S x' f'->Q (some (.ref h0.objs.size)) ⟨h',g1,g2,g3,g4⟩:=fun h' x' f' ok' ov' sb c hd=>
  k h' x' f' ok' ov' c hd (sb.extBut _ _ (z85 il) t2) (by rw[sb.1,z2]) fun b o hb e=>sb.extBut b o hb (k2 b o hb e)
 refine z02 ?_
 unfold zh8
 rcases hH with⟨rfl,rfl⟩|⟨a,b,o,rfl,rfl,ha,na,nS⟩
 ·refine z02 (zc8 c2 rfl (x:=.none) rfl (z22 ?_))
  simp only[if_true]
  refine z02 (zc8 c2 rfl (x:=ok) rfl (z02 (zc8 c2 rfl (x:=ov) rfl ?_)))
  refine z02 (zd7 c2 @9 fun h3 c3 s3=>z02 (zd7 c3 @9 fun h4 c4 s4=>z02 (zd7 c4 @9 fun h5 c5 s5=>z02 (zd7 c5 @9 fun h6 c6 s6=>?_))))
  have sb:zb0 it h2 h6:=((Heap.SameBut.trans s3 s4).trans s5).trans s6
  refine z02 (wpAny_letGo (z22 (z22 ⟨_,rfl,z22 (fin h6 (rawInt h0.objs.size) (.bool false) es[i].key es[i].val sb c6 (.inr ⟨h0.objs.size,false,_,rfl,rfl,sb.extBut _ _ (z85 il) t2,z85 il,z85 hS⟩))⟩)))
 ·have a2:h2.get? a=some o:=k2 a o na ha
  refine z02 (zc8 c2 rfl (x:=rawInt a) rfl ?_)
  show wpAny _ _ (loadIfAlive ((a:Int).toNat) >>= _) _ _ _
  rw[z59]
  refine z02 (kdx_alive a2 ?_)
  simp only[Option.isNone_some,z83,if_false]
  refine z02 (zc8 c2 rfl (x:=.bool b) rfl ?_)
  cases b with
  |true=>
   rw[if_neg (show ¬ ((zf8 true != zf8 true)=true) from fun z=>z36 z)]
   refine z22 ?_
   simp only[z83,if_false]
   exact z22 (z22 ⟨_,rfl,z22 (fin h2 _ _ _ _ (zs3 _ _) c2 (.inr ⟨a,true,o,rfl,rfl,a2,na,nS⟩))⟩)
  |false=>
   rw[if_pos (show(zf8 false != zf8 true)=true by rfl)]
   refine z02 (zd7 c2 @9 fun h3 c3 s3=>z22 ?_)
   simp only[z83,if_false]
   exact z22 (z22 ⟨_,rfl,z22 (fin h3 (rawInt a) (.bool true) ok ov s3 c3 (.inr ⟨a,true,o,rfl,rfl,s3.extBut a o na a2,na,nS⟩))⟩)
theorem QmN {g:Shared}{it d:Addr}{ep:Nat}{es:Array DictEntry}{x f ok ov:Value}{Q:Option Value->Shared->Prop}(nh:A.handled=none)(hI:g.heap.get? it=some (itO d es.size es.size ep x f ok ov))(hD:Raw g.heap d es ep)
  (k:∀h',Heap.ExtBut it g.heap h'->Q none { g with heap:=h' }):wpAny @11 A (pyNext (.ref it)) Q E g:=by
 obtain⟨od,e1,e2,e3⟩:=hD
 have ty:g.TypeIs (.ref it) "dict_itemiterator" := ⟨_,hI,rfl⟩
 have ow:zf0 "dict_itemiterator" = true:=by decide
 unfold pyNext
 refine z02 (zw8 (zc9 (name:=zf3 "__next__") ty z74 (z90 z74 ty zk6 ?_ (zk3 _))))
 refine z02 (z22 (z02 (z02 ?_)))
 first|refine z02 (zc5 ty (z22 (z02 (zo4 hI rfl ?_))))|refine z02 (zf4 ty (z22 (z02 (zo4 hI rfl ?_))))
 simp only[ow,if_true]
 show wpAny _ _ (if(z24 d == z51)=true then _ else _) _ _ _
 rw[if_neg (show ¬ ((z24 d == z51)=true) from fun z=>z36 z)]
 refine z02 (z22 (z02 (zr3 e1 e3 ?_)))
 rw[if_neg (show ¬ _ by simp)]
 refine z02 (z22 (z02 (zt7 e1 e3 ?_)))
 rw[if_neg (show ¬ _ by simp)]
 refine z22 ?_
 simp only[show ¬ ((es.size:Int)<0) by lia,if_false,z59,Array.getElem?_eq_none (z32 es.size)]
 refine z02 ?_
 first|refine z02 (zc5 ty (z22 ?_))|refine z02 (zf4 ty (z22 ?_))
 show wpAny _ _ (setField (.ref it) 2 .none >>= fun _=>newExc (.type "StopIteration") [] >>= _) _ _ g
 refine z02 (zv1 hI rfl @9 (z02 ?_))
 simp only[newExc,newTuple]
 refine z02 (z80 (z02 (m:=firstArgMember _ _) (wpAny_of_eq (a:=z51) (by first|rfl|(simp only[firstArgMember];rfl)) (z80 ?_ (by size_fits)))) (by size_fits))
 simp only[raiseNew]
 refine z02 (wpAny_handled ?_)
 rw[show A.in1.handled=none by exact nh]
 refine z02 (z22 (wpAny_throw ?_))
 refine z02 (zl8 (T := "StopIteration") (b:=true) ⟨_,z27 _ rfl,rfl⟩ isSubtype_stop (z22 (k _ ?_)))
 exact((z98 ..).extBut.push _).push _
structure Got (es:Array DictEntry)(lo:Addr)(h:Heap)(as:List Addr):Prop where
 up:∀a∈as,lo<a
 at_:∀(j:Nat) (a:Addr),as[j]? = some a->∃e,es[j]? = some e/\h.get? a=some (Qg4 e)
theorem Qg5 {g:Shared}{S I d:Addr}{ep:Nat}{es:Array DictEntry}{R:Result->Shared->Prop}(nh:A.handled=none)(hSI:S<I)(hSd:d≠S)(hId:d≠I)(hn:es.size<=z18)(res:Value){h₁:Heap}
  (kR:∀h' tk c as,(∀b o,b≠S->b≠I->h₁.get? b=some o->h'.get? b=some o)->h'.get? S=some (seqObj "list" (as.map z24).toArray c)->as.length=es.size->Got es I h' as->R (.ok (.ret res)) { g with heap:=h',toks:=tk }) :
  ∀(m i:Nat) (h:Heap) (tk c:Nat) (as:List Addr) (x f ok ov:Value),es.size - i=m->i<=es.size->h.get? I=some (itO d i es.size ep x f ok ov)->Handed h I S x f->Raw h d es ep->(∀b o,b≠S->b≠I->h₁.get? b=some o->h.get? b=some o)->
   h.get? S=some (seqObj "list" (as.map z24).toArray c)->as.length=i->Got es I h as->codeAny @11 A (.builtin "list.extend.loop" ⟨[.ref S,.ref I,res],[]⟩) R { g with heap:=h,toks:=tk }
 |0,i,h,tk,c,as,x,f,ok,ov,hm,hi,hI,hH,hD,kp,hS,la,hG=>by
  have ei:i=es.size:=by lia
  subst ei
  refine ze3 zq2 ?_
  rw[za0 za6 _]
  show wpAny _ A.in1 (pyNext (.ref I) >>= _) _ _ _
  refine z02 (QmN (g:={ g with heap:=h,toks:=tk }) (A:=A.in1) nh hI hD fun h' he=>z22 (kR h' tk c as (fun b o b1 b2 e=>he b o b2 (kp b o b1 b2 e)) (he S _ (z37 hSI) hS) la ⟨hG.up,fun j a hj=>?_⟩))
  obtain⟨e,e1,e2⟩:=hG.at_ j a hj
  exact⟨e,e1,he a _ (z85 (hG.up a (z42 hj))) e2⟩
 |m+1,i,h,tk,c,as,x,f,ok,ov,hm,hi,hI,hH,hD,kp,hS,la,hG=>by
  have hlt:i<es.size:=by lia
  have ne:S≠I:=z37 hSI
  have hSl:S<h.objs.size:=z23 hS
  have hIl:I<h.objs.size:=z23 hI
  refine ze3 zq2 ?_
  rw[za0 za6 _]
  show wpAny _ A.in1 (pyNext (.ref I) >>= _) _ _ _
  refine z02 (QkN (g:={ g with heap:=h,toks:=tk }) hI hH hSl hD hlt fun h' x' f' ok' ov' c1 c2 c3 c4 c5=>?_)
  dsimp only at c3 c4 c5 ⊢
  have hS':=c5 S _ ne hS
  have oth:∀b o,b≠S->h'.get? b=some o->(h'.update S (z46 (·.push (z24 h.objs.size)))).get? b=some o:=fun b o hb e=>(za5 _ _ (zd8 hb)).trans e
  have sz:(as.map z24).toArray.size=i:=by rw[z16,z00,la]
  have hS2:=za9 (z46 (·.push (z24 h.objs.size))) hS' rfl
  have eS:∃c',z46 (·.push (z24 h.objs.size)) (seqObj "list" (as.map z24).toArray c)=seqObj "list" ((as++[h.objs.size]).map z24).toArray c':=by
   have q:(as.map z24).toArray.push (z24 h.objs.size)=((as++[h.objs.size]).map z24).toArray:=by simp
   unfold seqObj z46
   dsimp only
   rw[q]
   exact⟨_,rfl⟩
  obtain⟨c',eS⟩:=eS
  rw[eS] at hS2
  show wpAny _ A.in1 (updateSeq S (·.push (z24 h.objs.size)) >>= _) _ _ _
  refine z02 (zm9 hS' rfl (z22 ⟨plainId_quiet za6 _,Qg5 nh hSI hSd hId hn res kR m (i+1) _ tk c' (as++[h.objs.size]) x' f' ok' ov' @1 hlt (oth I _ (zd8 ne) c1) (c2.kp oth) (hD.kp fun o e=>oth d o hSd (c5 d o hId e)) (fun b o b1 b2 e=>oth b o b1 (c5 b o b2 (kp b o b1 b2 e))) hS2 (by rw[z49,la];rfl) ⟨fun a ha=>?_,fun j b hj=>?_⟩⟩) (by rw[sz];lia) ?_)
  ·rcases z14.mp ha with ha|ha
   ·exact hG.up a ha
   ·rw[z38.mp ha];exact hIl
  ·rcases Nat.lt_trichotomy j as.length with q|q|q
   ·rw[zi6 q] at hj
    obtain⟨e,q1,q2⟩:=hG.at_ j b hj
    have hb:=hG.up b (z42 hj)
    exact⟨e,q1,oth b _ (z85 (Nat.lt_trans hSI hb)) (c5 b _ (z85 hb) q2)⟩
   ·have eb:h.objs.size=b:=by rw[q] at hj;simpa using hj
    subst eb
    refine⟨es[i],?_,oth _ _ (z85 hSl) c3⟩
    rw[q,la];exact zs0 hlt
   ·rw[zg6 (by rw[z49,zk8];lia)] at hj;cases hj
  ·show((as.map z24).toArray.push (z24 h.objs.size)).size<=z18+1
   rw[Array.size_push,sz];lia
def itN (d:Addr)(n ep:Nat):Obj:={ cls:=.type "dict_itemiterator",data:=.fields #[.none,.bool false,.ref d,.int 0 0,.int n 0,.int ep 0,.none,.none]}
theorem QkO {g:Shared}{r d:Addr}{es:Array DictEntry}{ep:Nat}{Q:Value->Shared->Prop}(hv:g.heap.IsItemsView r d)(hD:Raw g.heap d es ep)(k:Q (.ref g.heap.objs.size) { g with heap:=g.heap.push (itN d es.size ep)}):wpAny @11 A (pyIter (.ref r)) Q E g:=by
 obtain⟨ov,v1,v2,v3⟩:=id hv
 obtain⟨o,e1,e2,e3⟩:=hD
 refine wpAny_pyIter_slot hv.typeIs zo5 (z90 zo5 hv.typeIs PySem.F.entry_dict_items_iter ?_ (PySem.F.args_dict_items_iter_1 _))
 unfold Builtin.«dict_items.__iter__»
 refine z02 (z22 (z02 ?_))
 unfold zz4
 refine z02 (zc8 v1 v3 (x:=.ref d) rfl (z22 (z02 ?_)))
 unfold zz3
 refine z02 (zr3 e1 e3 (z02 (zt7 e1 e3 ?_)))
 have ow:zf0 "dict_itemiterator" = true:=by decide
 simp only[ow,if_true]
 refine z80 (z22 ⟨_,rfl,"dict_itemiterator",_,⟨_,z27 _ rfl,rfl⟩,z74.lookup,?_⟩) (by simp only[sizeOk,zh9,z16,z49,z30,zh4,z34];lia)
 simpa[rawInt,itN,zh9] using k
theorem Qg6 {g:Shared}{r d:Addr}{es:Array DictEntry}{ep:Nat}{R:Result->Shared->Prop}(nh:A.handled=none)(hv:g.heap.IsItemsView r d)(hD:Raw g.heap d es ep)(S:Addr)(hSr:S≠r)(hSd:d≠S)(res:Value)(c₀:Nat)(hS:g.heap.get? S=some (seqObj "list" #[] c₀))(hn:es.size<=z18)
  (kR:∀h' tk c as,(∀b o,b≠S->g.heap.get? b=some o->h'.get? b=some o)->h'.get? S=some (seqObj "list" (as.map z24).toArray c)->as.length=es.size->Got es g.heap.objs.size h' as->R (.ok (.ret res)) { g with heap:=h',toks:=tk }) :
  wpAny @11 A.in1 (z61 (.ref S) (.ref r) res) (fun fin s'=>match fin with|.done f=>R (.ok f) s'|.again c'=>c'.quiet=true/\codeAny @11 A c' R s') (fun e s'=>R (.error e) s') g:=by
 have hSI:S<g.heap.objs.size:=z23 hS
 have hdI:d<g.heap.objs.size:=by obtain⟨o,e,_⟩:=hD;exact z23 e
 have go:∀(h:Heap) (c₁ tk:Nat),(∀b o,b≠S->(g.heap.push (itN d es.size ep)).get? b=some o->h.get? b=some o)->h.get? S=some (seqObj "list" #[] c₁)->codeAny @11 A (.builtin "list.extend.loop" ⟨[.ref S,.ref g.heap.objs.size,res],[]⟩) R { g with heap:=h,toks:=tk }:=fun h c₁ tk hk hS₁=>by
  have hI:=hk g.heap.objs.size _ (z85 hSI) (z27 _ rfl)
  exact Qg5 (g:=g) (h₁:=g.heap) (ep:=ep) nh hSI hSd (z37 hdI) hn res (fun h' tk' c as k1 k2 k3 k4=>kR h' tk' c as (fun b o hb e=>k1 b o hb (z37 (z23 e)) e) k2 k3 k4)
   es.size 0 h tk c₁ [] .none (.bool false) .none .none (Nat.sub_zero _) (z67 _) hI (.inl ⟨rfl,rfl⟩) (hD.kp fun o e=>hk d o hSd (z06 _ e)) (fun b o hb _ e=>hk b o hb (z06 _ e)) hS₁ rfl ⟨@5,fun j a hj=>by simp at hj⟩
 unfold z61
 refine z02 (zn0 (T := "dict_items") hv.typeIs ?_)
 have q1:z89 (.ref S) (.ref r)=false:=by simp[z89,hSr]
 have q2:(Value.type "dict_items" == Value.type "list")=false:=by decide
 have q3:(Value.type "dict_items" == Value.type "tuple")=false:=by decide
 simp only[q1,q2,q3,Bool.or_false,z83,if_false]
 refine z02 (QkO hv hD ?_)
 have hS₁:=z06 (itN d es.size ep) hS
 refine z02 (z96 (kdx_hint (let ⟨o,ho,hc,_⟩:=hv;⟨o,z06 _ ho,hc⟩) (wpAny_ite_split (fun _=>?_) (fun _=>z22 ⟨plainId_quiet za6 _,go _ c₀ _ (fun b o _ e=>e) hS₁⟩))))
 refine z02 (wpAny_rule (z02 ?_))
 show wpAny _ _ (updateSeq S (·.push .none) >>= fun _=>updateSeq S (·.pop)) _ _ _
 have hS₂:=za9 (z46 (·.push z51)) hS₁ rfl
 have hS₃:=za9 (z46 (·.pop)) hS₂ rfl
 refine z02 (zm9 hS₁ rfl (zm9 (hz:=by seq_fits) hS₂ rfl (z22 ⟨plainId_quiet za6 _,go _ _ _ (fun b o hb e=>?_) hS₃⟩)))
 exact(za5 _ _ (zd8 hb)).trans ((za5 _ _ (zd8 hb)).trans e)
theorem QgA {g:Shared}{r d:Addr}{es:Array DictEntry}{ep:Nat}{R:List Value->Shared->Prop}(nh:A.handled=none)(hv:g.heap.IsItemsView r d)(hD:Raw g.heap d es ep)(hn:es.size<=z18)
  (k:∀(h':Heap) (tk:Nat) (as:List Addr),Kp g.heap h'->g.heap.objs.size<h'.objs.size->as.length=es.size->Got es g.heap.objs.size h' as->R (as.map z24) { g with heap:=h',toks:=tk }):wpAny @11 A (collect (.ref r)) R E g:=by
 have hr:r<g.heap.objs.size:=by obtain⟨o,e,_⟩:=hv;exact z23 e
 have hd:d<g.heap.objs.size:=by obtain⟨o,e,_⟩:=hD;exact z23 e
 unfold collect
 refine z02 (wpAny_runValue (ze3 entry_proto_collect' ?_))
 rw[za0 PySem.F.plain_proto_collect _]
 show wpAny _ A.in1 (newList [] >>= fun l=>again (.builtin "list.__iadd__" ⟨[l,.ref r],[]⟩)) _ _ g
 refine z02 (z80 (z22 ⟨plainId_quiet zr6 _,ze3 entry_list_iadd' ?_⟩))
 rw[za0 zr6 _]
 have hS₁:(g.heap.push (seqObj "list" #[] 0)).get? g.heap.objs.size=some (seqObj "list" #[] 0):=z27 _ rfl
 show wpAny _ A.in1 (z61 (.ref g.heap.objs.size) (.ref r) (.ref g.heap.objs.size)) _ _ { g with heap:=g.heap.push (seqObj "list" #[] 0)}
 have key:=Qg6 (prog:=prog) (w:=w) (A:=A) (g:={ g with heap:=g.heap.push (seqObj "list" #[] 0)}) (r:=r) (d:=d) (es:=es) (ep:=ep)
  (R:=fun(q:Result) (s':Shared)=>∃(h':Heap) (tk:Nat) (c':Nat) (as:List Addr),q=.ok (.ret (.ref g.heap.objs.size))/\s'={ g with heap:=h',toks:=tk }/\Kp g.heap h'/\h'.get? g.heap.objs.size=some (seqObj "list" (as.map z24).toArray c')/\as.length=es.size/\Got es g.heap.objs.size h' as)
  nh (let ⟨o,ho,x⟩:=hv;⟨o,z06 _ ho,x⟩) (hD.kp fun o e=>z06 _ e) g.heap.objs.size (z85 hr) (z37 hd) (.ref g.heap.objs.size) 0 hS₁ hn
  (fun h' tk c' as k1 k2 k3 k4=>⟨h',tk,c',as,rfl,rfl,fun b o e=>k1 b o (z37 (z23 e)) (z06 _ e),k2,k3,fun a ha=>zf6 (by show _<=(g.heap.push _).objs.size;rw[zb4];exact z93 _) (k4.up a ha),k4.at_⟩)
 refine zd2 key (fun fin s' x=>?_) fun e s' x=>?_
 ·cases fin with
  |done f=>
   obtain⟨h',tk,c',as,e,rfl,k1,k2,k3,k4⟩:=x
   cases e
   show wpAny _ A (load g.heap.objs.size >>= _) _ _ _
   refine z02 (zw2 k2 (z22 ?_))
   exact k h' tk as k1 (z23 k2) k3 k4
  |again c'=>
   refine⟨x.1,zn3 x.2 fun q s₂ y=>?_⟩
   obtain⟨h',tk,c',as,rfl,rfl,k1,k2,k3,k4⟩:=y
   show wpAny _ A (load g.heap.objs.size >>= _) _ _ _
   refine z02 (zw2 k2 (z22 ?_))
   exact k h' tk as k1 (z23 k2) k3 k4
 ·obtain⟨_,_,_,_,z,_⟩:=x;cases z
theorem Qi9 {g:Shared}{r d:Addr}{es:Array DictEntry}{ep:Nat}{ps:List PN}{Q:Value->Shared->Prop}(nh:A.handled=none)(hu:A.in1.in1.units+1<cLine)(hv:g.heap.IsItemsView r d)(hD:Raw g.heap d es ep)(l64:es.size<64)(lp:ps.length=es.size)(nd:ps.Nodup)
  (hp:∀(j:Nat) (e:DictEntry),es[j]? = some e->∃(x:PN) (t:Tok) (q:Addr),ps[j]? = some x/\e.key=.ref q/\e.val=.int x.2 t/\PO g.heap q x.1)
  (k:∀(h':Heap) (tk:Nat) (as:List Addr) (is:List Nat) (L c:Nat),Kp g.heap h'->as.length=es.size->(∀a∈as,g.heap.objs.size<a/\a<L)->(∀(j:Nat) (a:Addr),as[j]? = some a->∃e,es[j]? = some e/\h'.get? a=some (Qg4 e))->is.Perm (z63 ps.length)->(is.map fun i=>ps.getD i ((0,0),0)).Pairwise (fun a b=>QcS a b=true)->g.heap.objs.size<=L->h'.get? L=some (seqObj "list" ((is.map fun i=>as.getD i 0).map z24).toArray c)->Q (.ref L) { g with heap:=h',toks:=tk }) :
  wpAny @11 A (call (.builtin "sorted") [.ref r]) Q E g:=by
 have hn:es.size<=z18:=by rw[z34];lia
 refine zi3 kind_sorted plain_sorted entry_sorted (args_sorted1 _) ?_
 unfold Builtin.«sorted»
 refine z02 (m:=checkCount "sorted" 1 1 _) (z22 (z02 (QgA (A:=A.in1) nh hv hD hn fun h1 tk1 as k1 gsz k3 k4=>?_)))
 have la:(as.map z24).length=as.length:=z00 _
 refine z02 (zl2 ?_ (by rw[la,k3];exact hn))
 have hoL:(h1.push (seqObj "list" (as.map z24).toArray 0)).get? h1.objs.size=some (seqObj "list" (as.map z24).toArray 0):=z27 _ rfl
 have keep:Kp h1 (h1.push (seqObj "list" (as.map z24).toArray 0)):=fun b o q=>z06 _ q
 have hn0:h1.get? h1.objs.size=none:=zh1 (z32 _)
 have up:∀a∈as,g.heap.objs.size<a/\a<h1.objs.size:=fun a ha=>by
  obtain⟨j,hj⟩:=zb6 ha
  obtain⟨e,_,e2⟩:=k4.at_ j a hj
  exact⟨k4.up a ha,z23 e2⟩
 have pr:Paired (PO2 h1) as ps:=by
  have:∀(as:List Addr) (ps:List PN),as.length=ps.length->(∀(j:Nat) (a:Addr),as[j]? = some a->∃x,ps[j]? = some x/\PO2 h1 a x)->Paired (PO2 h1) as ps:=by
   intro as
   induction as with
   |nil=>intro ps hl _;cases ps with
    |nil=>exact .nil
    |cons _ _=>cases hl
   |cons a as ih=>intro ps hl h;cases ps with
    |nil=>cases hl
    |cons p ps=>
     obtain⟨x,e1,e2⟩:=h 0 a rfl
     cases e1
     exact .cons e2 (ih ps (by simpa using hl) fun j b hb=>h (j+1) b (by simpa using hb))
  refine this as ps (by rw[k3,lp]) fun j a hj=>?_
  obtain⟨e,e1,e2⟩:=k4.at_ j a hj
  obtain⟨x,t,q,f1,f2,f3,f4⟩:=hp j e e1
  refine⟨x,f1,Qg4 e,t,q,0,e2,rfl,?_,f4.kp k1⟩
  show Data.seq #[e.key,e.val] 0=_
  rw[f2,f3]
 have S:=QmM hu
 have L:=Qb4
 have Qgz:(as.map z24).length=ps.length:=by rw[z00,k3,lp]
 have og:∀{i:Nat},i<(as.map z24).length->(as.map z24).getD i z51=z24 (as.getD i 0):=fun{i} hi=>by
  rw[z00] at hi
  rw[z09,z09,z29,z05 hi]
  rfl
 have tail:∀(h':Heap) (tk c:Nat) (p:Array Nat),PP ps.length p->Up (fun i j=>QcS (ps.getD i ((0,0),0)) (ps.getD j ((0,0),0))) p ps.length->Kp h1 h'->h'.get? h1.objs.size=some (seqObj "list" (z84 (p.toList.map fun i=>(as.map z24).getD i z51)) c)->Q (.ref h1.objs.size) { g with heap:=h',toks:=tk }:=fun h' tk c p pp upp kp hD'=>by
  have hb:∀i∈p.toList,i<ps.length:=fun i hi=>za3.mp (pp.pm.mem_iff.mp hi)
  have QpA:(p.toList.map fun i=>(as.map z24).getD i z51)=(p.toList.map fun i=>as.getD i 0).map z24:=by
   rw[z43]
   exact zb9 fun i hi=>og (by rw[Qgz];exact hb i hi)
  rw[QpA] at hD'
  have Qrm:p.toList.length=ps.length:=by rw[z47];exact pp.sz
  refine k h' tk as p.toList h1.objs.size c (fun b o e=>kp b o (k1 b o e)) k3 up (fun j a hj=>?_) pp.pm ?_ (zg7 gsz) hD'
  ·obtain⟨e,e1,e2⟩:=k4.at_ j a hj
   exact⟨e,e1,kp a _ e2⟩
  ·rw[zj1,zb2]
   intro i j hi hj hij
   have hj':j<ps.length:=by lia
   have hi':i<ps.length:=by lia
   have a:=upp.all (L.ord ((0,0),0) nd) hij hj'
   have gi:G p i=p.toList[i]:=by
    have:i<p.size:=by rw[pp.sz];exact hi'
    simp[G,zi9,this]
   have gj:G p j=p.toList[j]:=by
    have:j<p.size:=by rw[pp.sz];exact hj'
    simp[G,zi9,this]
   rw[gi,gj] at a
   exact a
 refine z02 (z96 (z90 slot_list_sort ⟨_,hoL,rfl⟩ entry_list_sort ?body (args_list_sort _)))
 case body=>
  by_cases h2:2<=ps.length
  ·refine Qef (s:={ g with heap:=h1.push (seqObj "list" (as.map z24).toArray 0),toks:=tk1 }) (h0:=h1) (κ:=tuples' false) (lt:=fun i j=>QcS (ps.getD i ((0,0),0)) (ps.getD j ((0,0),0))) hoL keep hn0 (by rw[Qgz];exact h2) (by rw[Qgz];lia) (by rw[Qgz];exact L.ord _ nd) (fun h' tk Q' kp q=>?_) (fun h' tk i j Q' kp hi hj q=>?_) fun h' tk p c pp up kp hD=>⟨_,rfl,z22 ⟨_,rfl,?_⟩⟩
   ·exact S.kind (s:={ g with heap:=h',toks:=tk }) (Paired.imp' (fun _ _ z=>S.kp z kp) pr) h2 q
   ·rw[og hi,og hj]
    rw[z00] at hi hj
    exact S.cmp (s:={ g with heap:=h',toks:=tk }) (S.kp (Qi5.Qpa (d:=((0,0),0)) pr hi) kp) (S.kp (Qi5.Qpa (d:=((0,0),0)) pr hj) kp) (q tk)
   ·rw[Qgz] at pp up
    exact tail h' tk c p pp up kp hD
  ·refine Qc3 (s:={ g with heap:=h1.push (seqObj "list" (as.map z24).toArray 0),toks:=tk1 }) (h0:=h1) hoL keep hn0 (by rw[Qgz];lia) fun h' tk c kp hD=>⟨_,rfl,z22 ⟨_,rfl,tail h' tk c (z84 (z63 ps.length)) ⟨by simp,by simp⟩ (fun i i1 i2=>by lia) kp ?_⟩⟩
   rw[hD]
   congr 2
   have:(as.map z24).length<2:=by rw[Qgz];lia
   rw[← Qgz]
   generalize as.map z24=vs at this
   match vs,this with
   | [],_=>rfl
   | [v],_=>rfl
   |_::_::_,h=>exact absurd h (by simp only[z30];lia)
end
def lay (N H:Hp):Hp:=fun b=>match N b with
 |some o=>some o
 |none=>H b
theorem Qe0 {N H:Hp}{a:Addr}{o:HO}(h:N a=some o):lay N H a=some o:=by unfold lay;rw[h]
theorem YJ {N H:Hp}{a:Addr}(h:N a=none):lay N H a=H a:=by unfold lay;rw[h]
section
variable {X:Cx}{pins:List @12}{σ:St}{H N:Hp}{s:Shared}{h':Heap}
theorem Inv.lays {t':Nat}(I:L2.Inv X pins σ H s)(k:Kp s.heap h')(hn:∀a o,N a=some o->s.heap.objs.size<=a)(new:∀a o,N a=some o->ObjOk X.prog X.w (lay N H) h' a o):L2.Inv X pins σ (lay N H) { s with heap:=h',toks:=t' }:=by
 have old:∀b o,H b=some o->N b=none:=fun b o e=>by
  cases q:N b with
  |none=>rfl
  |some u=>exact absurd (z41 (I.hok.lt e) (hn b u q)) (za1 _)
 have Qrn:∀b u,s.heap.get? b=some u->N b=none:=fun b u e=>by
  cases q:N b with
  |none=>rfl
  |some u'=>exact absurd (z41 (z23 e) (hn b u' q)) (za1 _)
 refine I.un ⟨fun b u q _ _ _=>k b u q,fun b u q _ _ _=>⟨u.slots,k b u q⟩,fun b u q n _=>by rw[YJ (Qrn b u q)];exact n,fun b u q _=>⟨u,k b u q⟩,fun b xs q=>by rw[YJ (old b _ q)];exact q,fun b u xs q=>by rw[YJ (old b _ q)];exact q,fun b ps q=>⟨#[],by rw[YJ (old b _ q),q];simp⟩⟩ fun b u e=>?_
 cases q:N b with
 |some o=>rw[Qe0 q] at e;cases e;exact new b _ q
 |none=>
  rw[YJ q] at e
  exact(I.hok b u e).stay (fun c v _ q=>k c v q) (fun c q=>by rw[YJ (old c _ q)];exact q) fun c xs q=>by rw[YJ (old c _ q)];exact q
end
def PT1 (K:z01)(H:Hp)(q:Addr)(x:NP):Prop:=∃r,SqT K H q [.int x.1,.ref r]/\PT K H r x.2
theorem Qg7 {X:Cx}{pins:List @12}{σ:St}{H:Hp}{s:Shared}(I:L2.Inv X pins σ H s){q:Addr}{x:NP}(h:PT1 X.K H q x):PO1 s.heap q x:=by
 obtain⟨r,h1,h2⟩:=h
 obtain⟨its,rv,⟨o,e,c,n,d⟩,_⟩:=I.tuple h1
 obtain⟨u,v,rfl,⟨t,rfl⟩,rfl⟩:=Vals.two rv
 exact⟨o,t,r,n,e,c,d,QmK I h2⟩
section
variable {X:Cx}
def QmO (K:z01):List V->Hp->VK->Prop:=fun xs H Q=>∃p qs ps,xs=[.ref p]/\SqL K H p (qs.map V.ref)/\Paired (PT1 K H) qs ps/\ps.Nodup/\ps.length<64/\
 ∀(l:Addr) (is:List Nat),H l=none->is.Perm (z63 ps.length)->(is.map fun i=>ps.getD i (0,(0,0))).Pairwise (fun a b=>YI a b=true)->Q (.ref l) (upd H l (.lst ((is.map fun i=>qs.getD i 0).map V.ref)))
theorem Qei (hu:X.A.units+3<cLine):CallR X (.builtin "sorted") (QmO X.K):=by
 intro pins s σ H xs us Q I r h
 obtain⟨p,qs,ps,rfl,hq,pr,nd,l64,k⟩:=h
 obtain⟨u,rfl,ru⟩:=vals1 r
 cases ru
 obtain⟨its,rv,pl,hz⟩:=I.list hq
 have ei:=Qeg rv
 subst ei
 have pso:Paired (PO1 s.heap) qs ps:=Paired.imp' (fun _ _ z=>Qg7 I z) pr
 refine Qi6 (d:=(0,(0,0))) (QmL (A:=X.A.in1.in1) (by show X.A.units+1+1+1<cLine;lia)) Qat pl.isList pso nd l64 fun h' tk is c pm pw kp hD=>?_
 refine⟨.ref _,_,I.laid (t':=tk) (o:=.lst ((is.map fun i=>qs.getD i 0).map V.ref)) kp (z93 _) ⟨?_,_,c,Qb3 _,hD⟩,rfl,k _ is (I.hok.fresh (z93 _)) pm pw⟩
 rw[z00,z00,pm.length_eq,z92,z34];lia
def Qbl (q:Int×Int):List Key:=[.inl q.1,.inl q.2]
theorem QgB {prog:Program}{w:World}{A:Around}{E:Value->Shared->Prop}{g:Shared}{d:Addr}{o:Obj}{pos:Pos}{Q:Value->Shared->Prop}(hd:(d == sysModules)=false)(ho:g.heap.get? d=some o)(hx:o.ExactDict)
  (k:Q (.ref g.heap.objs.size) { g with heap:=g.heap.push { cls:=.type "dict_items",data:=.fields #[.ref d]}}):wpAny @11 A (callWith pos (.builtin "dict.items") [.ref d] [] []) Q E g:=by
 have ty:g.TypeIs (.ref d) "dict" := ⟨o,ho,hx.1⟩
 refine zk1 rfl (zv5 ?_)
 refine z90 zr5 ty PySem.F.entry_dict_items ?_ (PySem.F.args_dict_items_1 _)
 unfold Builtin.«dict.items» Builtin.Dict.noArgs
 refine z02 (z02 (wpAny_notOrdered_dict ty ?_))
 show wpAny _ _ (pure d) _ _ g
 refine z22 ?_
 show wpAny _ _ (zp9 d >>= _) _ _ g
 unfold zp9
 rw[if_neg (show ¬ (d == sysModules)=true by rw[hd];decide)]
 exact z02 (z22 (z02 (z80 (z22 ⟨_,rfl,k⟩))))
def QmP:V->Hp->VK->Prop:=fun x H Q=>∃(d:Addr) (ps:List PN),x=.ref d/\H d=some (.dT (ps.map fun p=>(Qbl p.1,V.int p.2)))/\ps.length<64/\
 ∀(L:Addr) (as:List Addr) (qs:List Addr) (ps':List PN) (H':Hp),Same H H'->H L=none->(∀a∈as,H a=none)->L∉as->ps'.Perm ps->ps'.Pairwise (fun a b=>QcS a b=true)->H' L=some (.lst (as.map V.ref))->(∀b,b≠L->b∉as->H' b=H b\/H b=none)->
  as.length=ps'.length->qs.length=ps'.length->(∀(j:Nat) (a q:Addr) (p:PN),as[j]? = some a->qs[j]? = some q->ps'[j]? = some p->H' a=some (.tup [.ref q,.int p.2])/\H q=some (.tup [.int p.1.1,.int p.1.2]))->Q (.ref L) H'
def refOf:Value->Addr
 |.ref q=>q
 |_=>0
def QpB (es:Array DictEntry)(j:Nat):Addr:=((es[j]?).map fun e=>refOf e.key).getD 0
theorem QkP {α:Type}{l:List α}{j:Nat}{a d:α}(h:l[j]? = some a):l.getD j d=a:=by rw[z09,h];rfl
theorem Qja {o:Expr}{ta:TE}{x:Str}{px apos cpos pos:Pos}(hc:X.calm=true)(hu:X.A.units+3<cLine)(hm:X.mg x=none)(hv:z52 x=some (.builtin "sorted"))(ho:PE X o ta)(hg:Gl X x:=by rfl)(hnm:x ≠ "__name__" := by decide)(hdb:@6=false:=by decide)
  (hbase:attributeBase o "items" X.env (eval o X.env)=eval o X.env:=by rfl) (hline:(apos.endLine == cpos.line)=true:=by rfl) (hst:starEach [.Call (.Attribute o "items" apos) [] [] cpos] X.env=[(false,eval (.Call (.Attribute o "items" apos) [] [] cpos) X.env)]:=by rfl) :
  PE X (.Call (.Name x px) [.Call (.Attribute o "items" apos) [] [] cpos] [] pos) (fun σ H Q=>ta σ H fun v H1=>QmP v H1 Q):=by
 intro pins s σ H Q I h
 refine z76 (ld_blt I hg hm hv ?_ hnm hdb)
 refine zl5 ?_ hst rfl
 rw[hst]
 show wpAny _ _ (spliced [(false,eval (.Call (.Attribute o "items" apos) [] [] cpos) X.env)]) _ _ s
 refine zc7 (zw9 hbase hline (thn (ho pins s σ H _ I h) fun v s1 hz=>?_))
 obtain⟨y,H1,I1,r1,q1⟩:=hz
 obtain⟨d,ps,rfl,hd,l64,k⟩:=q1
 cases r1
 obtain⟨z1,z2,xs,pr,od,es,ep,e1,e2,e3,e4,nd⟩:=(show ObjOk X.prog X.w H1 s1.heap d (.dT _) from I1.hok d _ hd)
 refine⟨"dict","dict.items",PySem.F.plainAttrs_dict,zr5,PySem.F.type_dict_items,⟨od,e1,e2.1⟩,fun a e=>by cases e;exact⟨od,e1,e2.2.1⟩,QgB z2 e1 e2 ?_⟩
 refine zd5 ?_
 have lxs:xs.length=ps.length:=by have:=pr.length;rw[z00] at this;exact this.symm
 have les:es.size=ps.length:=by rw[← z47,e4,z00,lxs]
 have at_:∀(j:Nat) (p:PN),ps[j]? = some p->∃q t,es[j]? = some (entryOfKey (tupleKind (mixKind X.prog X.w)) (Qbl p.1,q,.int p.2 t))/\H1 q=some (.tup [.int p.1.1,.int p.1.2]):=fun j p hj=>by
  obtain⟨y,ey,e5,e6,t,e7⟩:=Paired.get pr (show(ps.map fun p=>(Qbl p.1,V.int p.2))[j]? = some (Qbl p.1,V.int p.2) by rw[z29,hj];rfl)
  obtain⟨y1,y2,y3⟩:=y
  dsimp only at e5 e6 e7
  subst e5 e7
  refine⟨y2,t,?_,e6⟩
  rw[← zd1,e4,z29,ey];rfl
 have ndp:ps.Nodup:=by
  have hk:xs.map (·.1)=(ps.map fun p=>(Qbl p.1,V.int p.2)).map (·.1):=by
   refine zj2 fun j=>?_
   rw[z29,z29]
   cases hj:(ps.map fun p=>(Qbl p.1,V.int p.2))[j]? with
   |none=>
    have:xs[j]? = none:=zg6 (by have:=zi5.mp hj;rw[z00] at this;lia)
    rw[this];rfl
   |some y=>
    obtain⟨b,eb,e5,_⟩:=Paired.get pr hj
    rw[eb];show some b.1=some y.1;rw[e5]
  rw[hk,z43] at nd
  exact(zj1.mp nd).imp fun h e=>h (by rw[e])
 have kpv:Kp s1.heap (s1.heap.push { cls:=.type "dict_items",data:=.fields #[.ref d]}):=fun b ob q=>z06 _ q
 have psz:(s1.heap.push { cls:=.type "dict_items",data:=.fields #[.ref d]}).objs.size=s1.heap.objs.size+1:=zb4 _ _
 have hps:∀(j:Nat) (e:DictEntry),es[j]? = some e->∃p,ps[j]? = some p:=fun j e hj=>by
  have:j<ps.length:=by rw[← les];exact(ze1.mp hj).1
  exact⟨_,z05 this⟩
 refine Qi9 (g:={ s1 with heap:=s1.heap.push { cls:=.type "dict_items",data:=.fields #[.ref d]}}) (d:=d) (es:=es) (ep:=ep) (ps:=ps) (I1.ok.hd hc) (by show X.A.units+1+1+1<cLine;lia) ⟨_,z27 _ rfl,rfl,rfl⟩ ⟨od,kpv _ _ e1,e2,e3⟩ (by rw[les];exact l64) les.symm ndp (fun j e hj=>?_) fun h' tk as is L c kp la hup hat pm pw hL hD=>?_
 ·obtain⟨p,hp⟩:=hps j e hj
  obtain⟨q,t,f1,f2⟩:=at_ j p hp
  rw[hj] at f1;cases f1
  exact⟨p,t,q,hp,rfl,rfl,(QmK I1 (show PT X.K H1 q p.1 from SqT.of f2)).kp kpv⟩
 ·dsimp only at kp hup hL
  rw[psz] at hup hL
  let kq:Nat->Addr:=QpB es
  let N:Hp:=fun b=>if b=L then some (.lst ((is.map fun i=>as.getD i 0).map V.ref)) else if b∈as then some (.tup [.ref (kq (as.idxOf b)),.int (ps.getD (as.idxOf b) ((0,0),0)).2]) else none
  have kqe:∀{j:Nat} {p:PN} {q:Addr} {t:Tok},ps[j]? = some p->es[j]? = some (entryOfKey (tupleKind (mixKind X.prog X.w)) (Qbl p.1,q,.int p.2 t))->kq j=q:=fun{j p q t} h1 h2=>by
   show((es[j]?).map fun e=>refOf e.key).getD 0=q
   rw[h2];rfl
  have NL:N L=some (.lst ((is.map fun i=>as.getD i 0).map V.ref)):=if_pos rfl
  have aL:∀a∈as,a≠L:=fun a ha=>z37 (hup a ha).2
  have Na:∀(j:Nat) (a q:Addr) (p:PN) (t:Tok),as[j]? = some a->ps[j]? = some p->es[j]? = some (entryOfKey (tupleKind (mixKind X.prog X.w)) (Qbl p.1,q,.int p.2 t))->N a=some (.tup [.ref q,.int p.2]):=fun j a q p t h1 h2 h3=>by
   have ha:=z42 h1
   show(if a=L then _ else if a∈as then _ else _)=_
   rw[if_neg (aL a ha),if_pos ha]
   have hj0:as[as.idxOf a]? = some a:=by
    rw[z05 (List.idxOf_lt_length_of_mem ha),List.getElem_idxOf]
   obtain⟨e0,f1,f2⟩:=hat _ a hj0
   obtain⟨e',f3,f4⟩:=hat j a h1
   rw[h3] at f3;cases f3
   obtain⟨p0,hp0⟩:=hps _ e0 f1
   obtain⟨q0,t0,g1,g2⟩:=at_ _ p0 hp0
   rw[g1] at f1;cases f1
   rw[f2] at f4
   have f5:=z35 f4
   have f6:(#[z24 q0,z62 p0.2 t0]:Array Value) = #[z24 q,z62 p.2 t]:=by
    have:=congrArg Obj.data f5
    injection this
   have f7:=congrArg zo6 f6
   simp at f7
   rw[kqe hp0 g1,QkP hp0,f7.1,f7.2.1]
  have Nn:∀b o,N b=some o->s1.heap.objs.size<=b:=fun b o e=>by
   have e:(if b=L then some (HO.lst ((is.map fun i=>as.getD i 0).map V.ref)) else if b∈as then some (.tup [.ref (kq (as.idxOf b)),.int (ps.getD (as.idxOf b) ((0,0),0)).2]) else none)=some o:=e
   by_cases hb:b=L
   ·subst hb;exact z66 (z93 _) hL
   ·rw[if_neg hb] at e
    by_cases hb2:b∈as
    ·exact zg7 (zf6 (z93 _) (hup b hb2).1)
    ·rw[if_neg hb2] at e;cases e
  have kp1:Kp s1.heap h':=fun b o e=>kp b o (kpv b o e)
  have old:∀b o,H1 b=some o->N b=none:=fun b o e=>by
   cases q:N b with
   |none=>rfl
   |some u=>exact absurd (z41 (I1.hok.lt e) (Nn b u q)) (za1 _)
  have fr:∀b,s1.heap.objs.size<=b->H1 b=none:=fun b hb=>I1.hok.fresh hb
  have lis:is.length=ps.length:=by rw[pm.length_eq,z92]
  have ilt:∀i∈is,i<ps.length:=fun i hi=>za3.mp (pm.mem_iff.mp hi)
  have asg:∀i,i<ps.length->as[i]? = some (as.getD i 0):=fun i hi=>by
   have:i<as.length:=by rw[la,les];exact hi
   rw[z09,z05 this];rfl
  have asm:∀i,i<ps.length->as.getD i 0∈as:=fun i hi=>z42 (asg i hi)
  have IF:L2.Inv X pins σ (lay N H1) { s1 with heap:=h',toks:=tk }:=by
   refine Inv.lays (N:=N) I1 kp1 Nn fun a o e=>?_
   have e:(if a=L then some (HO.lst ((is.map fun i=>as.getD i 0).map V.ref)) else if a∈as then some (.tup [.ref (kq (as.idxOf a)),.int (ps.getD (as.idxOf a) ((0,0),0)).2]) else none)=some o:=e
   by_cases hb:a=L
   ·subst hb
    rw[if_pos rfl] at e;cases e
    exact⟨by rw[z00,z00,lis,z34];lia,_,c,Qb3 _,hD⟩
   ·rw[if_neg hb] at e
    by_cases hb2:a∈as
    ·obtain⟨j,hj⟩:=zb6 hb2
     obtain⟨e0,f1,f2⟩:=hat j a hj
     obtain⟨p,hp⟩:=hps j e0 f1
     obtain⟨q,t,g1,g2⟩:=at_ j p hp
     have hN:=Na j a q p t hj hp g1
     rw[g1] at f1;cases f1
     rw[if_pos hb2] at e
     have eo:o=.tup [.ref q,.int p.2]:=by
      have:N a=some o:=by show(if a=L then _ else if a∈as then _ else _)=_;rw[if_neg hb,if_pos hb2];exact e
      rw[hN] at this;exact(z35 this).symm
     subst eo
     exact⟨by rw[z34];simp,[.ref q,.int p.2 t],.cons rfl (.cons ⟨t,rfl⟩ .nil),_,f2,rfl,0,rfl⟩
    ·rw[if_neg hb2] at e;cases e
  refine⟨.ref L,lay N H1,IF,rfl,k L (is.map fun i=>as.getD i 0) (is.map kq) (is.map fun i=>ps.getD i ((0,0),0)) (lay N H1) (fun b o e=>by rw[YJ (old b o e)];exact e) (fr L (z66 (z93 _) hL)) (fun a ha=>?_) (fun ha=>?_) ?_ pw (Qe0 NL) (fun b b1 b2=>?_) (by rw[z00,z00]) (by rw[z00,z00]) fun j a q p h1 h2 h3=>?_⟩
  ·obtain⟨i,hi,rfl⟩:=z31.mp ha
   exact fr _ (zg7 (zf6 (z93 _) (hup _ (asm i (ilt i hi))).1))
  ·obtain⟨i,hi,e⟩:=z31.mp ha
   exact aL _ (asm i (ilt i hi)) e
  ·have z:=pm.map fun i=>ps.getD i ((0,0),0)
   rw[range_getD] at z
   exact z
  ·by_cases hb:b∈as
   ·exact .inr (fr b (zg7 (zf6 (z93 _) (hup b hb).1)))
   ·refine .inl (YJ ?_)
    show(if b=L then _ else if b∈as then _ else _)=_
    rw[if_neg b1,if_neg hb]
  ·rw[z29] at h1 h2 h3
   obtain⟨i,hi,rfl⟩:=z03.mp h1
   rw[hi] at h2 h3
   cases h2;cases h3
   have hil:=ilt i (z42 hi)
   have hp:ps[i]? = some (ps.getD i ((0,0),0)):=by rw[z09,z05 hil];rfl
   obtain⟨q,t,g1,g2⟩:=at_ i _ hp
   rw[kqe hp g1]
   exact⟨Qe0 (Na i _ q _ t (asg i hil) hp g1),g2⟩
end
end L2.Srt
namespace L2
open PySem PySem.Spec PyProof.Rows
theorem Qg8:typeLookup (.type "list_reverseiterator") "__len__" = pure none:=by rw[typeLookup_type,builtinLookup_eq_fast];kernel_rfl
theorem Qfy:typeLookup (.type "list_reverseiterator") "__length_hint__" = pure (some (.builtin "list_reverseiterator.__length_hint__")):=by rw[typeLookup_type,builtinLookup_eq_fast];kernel_rfl
theorem Qfz:z52 "reversed" = some (.type "reversed"):=by decide +kernel
section
variable {pr:Program}{w:World}{A:Around}{E:Value->Shared->Prop}{s:Shared}{it l:Addr}{xs:Array Value}
theorem Qg9 {Q:Value->Shared->Prop}(hh:A.handled=none)(h1:s.heap.IsRevIter it l ((xs.size:Int) - 1))(h2:s.heap.IsList l xs)(ne:l≠it)(sz:xs.size<=z18)
  (q:∀h' tk ac c,(∀b o,b≠it->s.heap.get? b=some o->h'.get? b=some o)->h'.get? s.heap.objs.size=some { cls:=.type "list",dict:=none,data:=.seq ac c,slots:=#[]}->ac.size=xs.size->(∀i v,ac[i]? = some v->xs[xs.size - 1 - i]? = some v)->Q (.ref s.heap.objs.size) { s with heap:=h',toks:=tk }) :
  wpAny (model pr w) A (call (.type "list") [.ref it]) Q E s:=by
 have lt:it<s.heap.objs.size:=by obtain⟨o,ho,_⟩:=h1;exact z23 ho
 have ll:l<s.heap.objs.size:=by obtain⟨o,ho,_⟩:=h2;exact z23 ho
 generalize hS:s.heap.objs.size=S at lt ll q
 refine callType_codes (Q₁:=fun ob t=>ob=.ref S/\t={ s with heap:=s.heap.push { cls:=.type "list",data:=.seq #[]}}) F.called_list (F.typeCall_list_1 _) F.entry_list_init (code_list_new _ ⟨by rw[hS],rfl⟩) fun ob t z=>?_
 obtain⟨rfl,rfl⟩:=z
 have g0:(s.heap.push { cls:=.type "list",data:=.seq #[]}).get? S=some { cls:=.type "list",data:=.seq #[]}:=by rw[← hS];exact z27 _ rfl
 refine⟨⟨_,g0,rfl⟩,F.args_list_init_2 _ _,?_⟩
 have nf:S∉[it,l]:=fun k=>by
  rcases z19.mp k with e|k
  ·exact z37 lt e.symm
  ·exact z37 ll (z38.mp k).symm
 have W:=(Walks.listRev (prog:=pr) (w:=w) (A:=A.in1.in1) hh it l ne xs).toS
 show wpAny _ A.in1.in1 (do let a ← zp5 (.ref S);Builtin.List.listUpdate (.ref S) (fun _=>#[]);letGo a.toList.reverse;z61 (.ref S) (.ref it) .none) _ _ _
 refine z02 ?_
 unfold zp5
 refine z02 (zv2 g0 rfl (z22 ?_))
 show wpAny _ _ (updateSeq S (fun _=>#[]) >>= fun _=>letGo (#[]:Array Value).toList.reverse >>= fun _=>z61 (.ref S) (.ref it) .none) _ _ _
 refine z02 (zm9 g0 rfl ?_)
 have g1:=za9 (z46 (fun _=>(#[]:Array Value))) g0 rfl
 have up:∀b o,b≠S->s.heap.get? b=some o->((s.heap.push { cls:=.type "list",data:=.seq #[]}).update S (z46 (fun _=>(#[]:Array Value)))).get? b=some o:=fun b o hb e=>(za5 _ _ (zd8 hb)).trans (z06 _ e)
 generalize (s.heap.push { cls:=.type "list",data:=.seq #[]}).update S (z46 (fun _=>(#[]:Array Value)))=hp at g1 up
 refine z02 (wpAny_letGo ?_)
 have i1:hp.IsRevIter it l ((xs.size:Int) - 1):=h1.at fun o e=>up it o (z37 lt) e
 have i2:hp.IsList l xs:=h2.at fun o e=>up l o (z37 ll) e
 have ty:({ s with heap:=hp }:Shared).TypeIs (.ref it) "list_reverseiterator" := let ⟨o,a,b,_⟩:=i1;⟨o,a,b⟩
 have sr:z89 (.ref S) (.ref it)=false:=by
  have:¬ S=it:=fun e=>z37 lt e.symm
  simp[z89,this]
 unfold z61
 refine z02 (zn0 ty ?_)
 rw[if_neg (by rw[sr];decide)]
 have st0:(0<=xs.size/\hp.IsRevIter it l ((xs.size:Int) - 1 - ((0:Nat):Int))/\hp.IsList l xs):=⟨z67 _,by simpa using i1,i2⟩
 refine z02 (W.self 0 _ _ _ st0 ?_)
 refine z02 (z96 ?_)
 unfold zm7
 refine z02 (zn1 ty Qg8 ?_)
 show wpAny _ _ (specialOf (z24 it) (zf3 "__length_hint__") >>= _) _ _ _
 refine z02 (zn1 ty Qfy ?_)
 generalize hid:("list_reverseiterator.__length_hint__" : String)=id0
 wp_delta
 rw[show splitId id0=some ("list_reverseiterator","__length_hint__") from by subst hid;decide +kernel]
 subst hid
 refine z02 (zl8 (b:=true) ty (by rw[isSubtype_type];kernel_rfl) ?_)
 refine z22 ?_
 rw[if_neg @3]
 refine z22 ⟨plainId_quiet F.plain_extend_loop _,codeAny_extend_loopS W sz _ nf _ xs.size 0 _ _ _ rfl (z67 _) st0 g1 (ItemsOf.nil _) fun s' ac c mv gS hz=>?_⟩
 obtain⟨e1,e2⟩:=hz
 have es:=Moved.eq_with mv
 rw[es]
 refine⟨rfl,q _ _ ac c (fun b o hb e=>?_) gS e1 e2⟩
 have nb:b≠S:=by have:=z23 e;rw[hS] at this;exact z37 this
 exact mv.heap b o (by simp[hb,nb]) (up b o nb e)
end
section
variable {X:Cx}{e:Expr}{te:TE}{px py pos pos2:Pos}
def QpC (K:z01)(te:TE):TE:=fun σ H Q=>te σ H fun x H1=>∃l vs,x=.ref l/\SqL K H1 l vs/\∀q,H1 q=none->Q (.ref q) (upd H1 q (.lst vs.reverse))
theorem QfA:∀{xs:List V} {us:List Value},Vals xs us->Vals xs.reverse us.reverse:=fun{xs us} r=>by
 induction r with
 |nil=>exact .nil
 |cons h t ih=>rw[zd9,zd9];exact Vals.append ih (.cons h .nil)
theorem QkQ (hc:X.calm=true)(he:PE X e te)(hml:X.mg "list" = none)(hmr:X.mg "reversed" = none)(hgl:Gl X "list" := by rfl)(hgr:Gl X "reversed" := by rfl)(s1:starEach [e] X.env=@15::starEach [] X.env:=by rfl)(p1:(backTo pos2 (starEach [] X.env)).any (·.1)=false:=by rfl)
  (s2:starEach [.Call (.Name "reversed" py) [e] [] pos2] X.env=(false,eval (.Call (.Name "reversed" py) [e] [] pos2) X.env)::starEach [] X.env:=by rfl) (p2:(backTo pos (starEach [] X.env)).any (·.1)=false:=by rfl) :
  PE X (.Call (.Name "list" px) [.Call (.Name "reversed" py) [e] [] pos2] [] pos) (QpC X.K te):=by
 intro pins s σ H Q I h
 refine z76 (ld_blt I hgl hml boot_list ?_ @3 @3)
 refine callWith_type1 ?_ s2 p2
 rw[s2]
 show wpAny _ _ (spliced ((false,eval (.Call (.Name "reversed" py) [e] [] pos2) X.env)::backTo pos (starEach [] X.env))) _ _ s
 refine zc7 ?_
 refine z76 (ld_blt I hgr hmr Qfz ?_ @3 @3)
 refine callWith_type1 ?_ s1 p1
 rw[s1]
 show wpAny _ _ (spliced ((false,eval e X.env)::backTo pos2 (starEach [] X.env))) _ _ s
 refine zc7 (thn (he pins s σ H _ I h) fun u s1 hz=>?_)
 obtain⟨x,H1,I1,r1,l,vs,e1,hl,q⟩:=hz
 subst e1
 cases r1
 obtain⟨its,rv,pl,hz⟩:=I1.list hl
 have il:=pl.isList
 have ll:l<s1.heap.objs.size:=by obtain⟨o,ho,_⟩:=il;exact z23 ho
 refine zd5 ?_
 refine call_reversed_list il ?_
 refine zd5 ?_
 refine Qg9 (l:=l) (xs:=its.toArray) (I1.ok.hd hc) ⟨_,z27 _ rfl,rfl,rfl⟩ (il.at fun o e=>z06 _ e) (z37 ll) (by rw[z16,← rv.length];exact hz) fun h' tk ac c kp g e1 e2=>?_
 have kp':∀b o,s1.heap.get? b=some o->h'.get? b=some o:=fun b o e=>kp b o (z37 (z23 e)) (z06 _ e)
 have le:s1.heap.objs.size<=(s1.heap.push (revObj l ((its.toArray.size:Int) - 1))).objs.size:=by rw[zb4];exact z93 _
 have ea:ac.toList=its.reverse:=by
  refine zj2 fun i=>?_
  rw[zd1]
  cases k:ac[i]? with
  |none=>
   have:=zr2.mp k
   exact(zi5.mpr (by rw[ze9];rw[e1,z16] at this;exact this)).symm
  |some v=>
   have hi:=(ze1.mp k).1
   rw[e1,z16] at hi
   have:=e2 i v k
   rw[z16,zk9] at this
   rw[zu7 hi];exact this.symm
 refine⟨.ref _,_,I1.laid kp' le (show ObjOk X.prog X.w _ _ _ (.lst vs.reverse) from⟨by rw[ze9];exact hz,ac.toList,c,by rw[ea];exact QfA rv,by simpa using g⟩),rfl,q _ (I1.hok.fresh le)⟩
end
theorem Qjb:z52 "tuple" = some (.type "tuple"):=by decide +kernel
section
variable {pr:Program}{w:World}{A:Around}{E:Value->Shared->Prop}{s:Shared}{it l:Addr}{xs:Array Value}
theorem Qe1 {Q:List Value->Shared->Prop}(hh:A.handled=none)(h1:s.heap.IsRevIter it l ((xs.size:Int) - 1))(h2:s.heap.IsList l xs)(ne:l≠it)(sz:xs.size<=z18)
  (q:∀s' (ac:Array Value),Moved [it] (fun a b=>b=a) s s'->s.heap.objs.size<s'.heap.objs.size->ac.size=xs.size->(∀i v,ac[i]? = some v->xs[xs.size - 1 - i]? = some v)->Q ac.toList s'):wpAny (model pr w) A (collect (.ref it)) Q E s:=by
 have lt:it<s.heap.objs.size:=by obtain⟨o,ho,_⟩:=h1;exact z23 ho
 have ll:l<s.heap.objs.size:=by obtain⟨o,ho,_⟩:=h2;exact z23 ho
 have W:=(Walks.listRev (prog:=pr) (w:=w) (A:=A.in1) hh it l ne xs).toS
 have nf:s.heap.objs.size∉[it,l]:=fun k=>by
  rcases z19.mp k with e|k
  ·exact z37 lt e.symm
  ·exact z37 ll (z38.mp k).symm
 unfold collect
 refine z02 (wpAny_runValue (ze3 F.entry_proto_collect ?_))
 rw[za0 F.plain_proto_collect _]
 refine z02 (z80 (z22 ⟨plainId_quiet F.plain_list_iadd _,ze3 F.entry_list_iadd ?_⟩))
 rw[za0 F.plain_list_iadd _]
 have g1:(s.heap.push { cls:=.type "list",data:=.seq ([]:List Value).toArray }).get? s.heap.objs.size=some { cls:=.type "list",data:=.seq ([]:List Value).toArray }:=z27 _ rfl
 generalize hp0:s.heap.push { cls:=.type "list",data:=.seq ([]:List Value).toArray }=hp at g1 ⊢
 have up:∀b o,s.heap.get? b=some o->hp.get? b=some o:=fun b o e=>by rw[← hp0];exact z06 _ e
 have i1:hp.IsRevIter it l ((xs.size:Int) - 1):=h1.at fun o e=>up it o e
 have i2:hp.IsList l xs:=h2.at fun o e=>up l o e
 have ty:({ s with heap:=hp }:Shared).TypeIs (.ref it) "list_reverseiterator" := let ⟨o,a,b,_⟩:=i1;⟨o,a,b⟩
 have sr:z89 (.ref s.heap.objs.size) (.ref it)=false:=by
  have:¬ s.heap.objs.size=it:=fun e=>z37 lt e.symm
  simp[z89,this]
 have st0:(0<=xs.size/\hp.IsRevIter it l ((xs.size:Int) - 1 - ((0:Nat):Int))/\hp.IsList l xs):=⟨z67 _,by simpa using i1,i2⟩
 show wpAny _ A.in1 (z61 (.ref s.heap.objs.size) (.ref it) (.ref s.heap.objs.size)) _ _ { s with heap:=hp }
 unfold z61
 refine z02 (zn0 ty ?_)
 rw[if_neg (by rw[sr];decide)]
 refine z02 (W.self 0 _ _ _ st0 (z02 (z96 ?_)))
 unfold zm7
 refine z02 (zn1 ty Qg8 ?_)
 show wpAny _ _ (specialOf (z24 it) (zf3 "__length_hint__") >>= _) _ _ _
 refine z02 (zn1 ty Qfy ?_)
 generalize hid:("list_reverseiterator.__length_hint__" : String)=id0
 wp_delta
 rw[show splitId id0=some ("list_reverseiterator","__length_hint__") from by subst hid;decide +kernel]
 subst hid
 refine z02 (zl8 (b:=true) ty (by rw[isSubtype_type];kernel_rfl) (z22 ?_))
 rw[if_neg @3]
 refine z22 ⟨plainId_quiet F.plain_extend_loop _,codeAny_extend_loopS W sz _ nf _ xs.size 0 _ _ _ rfl (z67 _) st0 g1 (ItemsOf.nil _) fun s' ac c mv gS io=>?_⟩
 obtain⟨e1,e2⟩:=io
 refine z02 (zw2 gS (z22 (q s' ac ?_ (z23 gS) e1 e2)))
 subst hp0
 exact Moved.drop_new (o:={ cls:=.type "list",data:=.seq ([]:List Value).toArray }) (tk:=s.toks) mv (z32 _)
theorem Qha {Q:Value->Shared->Prop}(hh:A.handled=none)(h1:s.heap.IsRevIter it l ((xs.size:Int) - 1))(h2:s.heap.IsList l xs)(ne:l≠it)(sz:xs.size<=z18)
  (q:∀s' (ac:Array Value),Moved [it] (fun a b=>b=a) s s'->s.heap.objs.size<s'.heap.objs.size->ac.size=xs.size->(∀i v,ac[i]? = some v->xs[xs.size - 1 - i]? = some v)->Q (.ref s'.heap.objs.size) { s' with heap:=s'.heap.push { cls:=.type "tuple",data:=.seq ac }}) :
  wpAny (model pr w) A (call (.type "tuple") [.ref it]) Q E s:=by
 have ty:s.TypeIs (.ref it) "list_reverseiterator" := let ⟨o,a,b,_⟩:=h1;⟨o,a,b⟩
 refine callType_codes (Q₁:=fun ob t=>t.TypeIs ob "tuple" /\ Q ob t) zu1 (F.typeCall_tuple_1 _) F.entry_object_init ?_ fun ob t z=>?_
 ·refine codeAny_of_tree ?_
  refine z02 (wpAny_of_eq (F.newCall_tuple_1 _) (z22 ⟨plainId_quiet F.plain_tuple_new _,ze3 F.entry_tuple_new ?_⟩))
  rw[za0 F.plain_tuple_new _]
  have a1:=sub_tuple_self
  have a2:=init_tuple_lookup
  have a3:=madeHere_tuple
  wp_walk using zn0 ty,Qe1 (show A.in1.in1.handled=none from hh) h1 h2 ne sz
  intro s' ac mv e0 e1 e2
  show wpAny _ _ (zo2 ac.toList.toArray >>= ret) _ _ s'
  unfold zo2
  have ea:ac.toList.toArray=ac:=by simp
  refine z02 (z80 (z22 ?_) (by show ac.toList.toArray.size<=z18;rw[ea,e1];exact sz))
  rw[ea]
  exact⟨⟨_,z27 _ rfl,rfl⟩,q s' ac mv e0 e1 e2⟩
 ·exact⟨z.1,zz2 ob _,object_init_meets zu1.init.lookup zu1.made @3 pr w A.in1 _ t ⟨z.1,rfl,z.2⟩⟩
end
section
variable {X:Cx}{e:Expr}{te:TE}{px py pos pos2:Pos}
def QpD (K:z01)(te:TE):TE:=fun σ H Q=>te σ H fun x H1=>∃l vs,x=.ref l/\SqL K H1 l vs/\∀q,H1 q=none->Q (.ref q) (upd H1 q (.tup vs.reverse))
theorem QkR (hc:X.calm=true)(he:PE X e te)(hml:X.mg "tuple" = none)(hmr:X.mg "reversed" = none)(hgl:Gl X "tuple" := by rfl)(hgr:Gl X "reversed" := by rfl)(s1:starEach [e] X.env=@15::starEach [] X.env:=by rfl)(p1:(backTo pos2 (starEach [] X.env)).any (·.1)=false:=by rfl)
  (s2:starEach [.Call (.Name "reversed" py) [e] [] pos2] X.env=(false,eval (.Call (.Name "reversed" py) [e] [] pos2) X.env)::starEach [] X.env:=by rfl) (p2:(backTo pos (starEach [] X.env)).any (·.1)=false:=by rfl) :
  PE X (.Call (.Name "tuple" px) [.Call (.Name "reversed" py) [e] [] pos2] [] pos) (QpD X.K te):=by
 intro pins s σ H Q I h
 refine z76 (ld_blt I hgl hml Qjb ?_ @3 @3)
 refine callWith_type1 ?_ s2 p2
 rw[s2]
 show wpAny _ _ (spliced ((false,eval (.Call (.Name "reversed" py) [e] [] pos2) X.env)::backTo pos (starEach [] X.env))) _ _ s
 refine zc7 ?_
 refine z76 (ld_blt I hgr hmr Qfz ?_ @3 @3)
 refine callWith_type1 ?_ s1 p1
 rw[s1]
 show wpAny _ _ (spliced ((false,eval e X.env)::backTo pos2 (starEach [] X.env))) _ _ s
 refine zc7 (thn (he pins s σ H _ I h) fun u s1 z=>?_)
 obtain⟨x,H1,I1,r1,l,vs,e1,hl,q⟩:=z
 subst e1
 cases r1
 obtain⟨its,rv,pl,hz⟩:=I1.list hl
 have il:=pl.isList
 have ll:l<s1.heap.objs.size:=by obtain⟨o,ho,_⟩:=il;exact z23 ho
 refine zd5 (call_reversed_list il (zd5 ?_))
 refine Qha (l:=l) (xs:=its.toArray) (I1.ok.hd hc) ⟨_,z27 _ rfl,rfl,rfl⟩ (il.at fun o e=>z06 _ e) (z37 ll) (by rw[z16,← rv.length];exact hz) fun s' ac mv e0 e1 e2=>?_
 have es:=Moved.eq_with mv
 have kp:∀b o,s1.heap.get? b=some o->s'.heap.get? b=some o:=fun b o e=>mv.heap b o (by
  intro k
  exact z37 (z23 e) (z38.mp k)) (z06 _ e)
 have ea:ac.toList=its.reverse:=by
  refine zj2 fun i=>?_
  rw[zd1]
  cases k:ac[i]? with
  |none=>
   have:=zr2.mp k
   exact(zi5.mpr (by rw[ze9];rw[e1,z16] at this;exact this)).symm
  |some v=>
   have hi:=(ze1.mp k).1
   rw[e1,z16] at hi
   have:=e2 i v k
   rw[z16,zk9] at this
   rw[zu7 hi];exact this.symm
 have le:s1.heap.objs.size<=s'.heap.objs.size:=by
  rw[zb4] at e0
  lia
 have la:ac.size=vs.reverse.length:=by rw[e1,z16,ze9,rv.length]
 rw[es]
 refine⟨.ref _,_,I1.laid (fun b o e=>z06 _ (kp b o e)) le (show ObjOk X.prog X.w _ _ _ (.tup vs.reverse) from⟨by rw[ze9];exact hz,ac.toList,by rw[ea];exact QfA rv,_,z27 _ rfl,rfl,0,by simp⟩),rfl,q _ (I1.hok.fresh le)⟩
end
end L2
namespace TL
open PySem L2 PyProof.Rows
inductive Tag where
 |lst|tup
 |ins (k:Addr) (ns:List Str)
 |dT (ks:List (List Key))|dK (ks:List Key)
 |exc (c:Addr)
 deriving DecidableEq
inductive D where
 |int (i:Int)|bl (b:Bool)|non|str (s:Str)|ty (n:String)|cls (c:Addr)|nd (t:Tag) (ds:List D)
abbrev D.lst (ds:List D):D:=.nd .lst ds
abbrev D.tup (ds:List D):D:=.nd .tup ds
noncomputable def Tag.mut:Tag->Bool
 |.lst=>true|.dT _=>true|.dK _=>true|_=>false
mutual
noncomputable def D.imm:D->Bool
 |.nd t ds=>!t.mut && D.QI ds
 |_=>true
noncomputable def D.QI:List D->Bool
 | []=>true
 |d::ds=>d.imm && D.QI ds
end
noncomputable def D.sc:D->Option V
 |.int i=>some (.int i)|.bl b=>some (.bl b)|.non=>some .non|.str s=>some (.str s)|.ty n=>some (.ty n)|.cls c=>some (.ref c)|.nd _ _=>none
def At (K:z01)(F:Hp)(a:Addr):Tag->List V->Prop
 |.lst,vs=>SqL K F a vs
 |.tup,vs=>F a=some (.tup vs)
 |.ins k ns,vs=>ns.length=vs.length/\∃dx,F a=some (.ins k dx (ns.zip vs))/\F dx=some (.own a)
 |.dT ks,vs=>ks.length=vs.length/\F a=some (.dT (ks.zip vs))
 |.dK ks,vs=>ks.length=vs.length/\F a=some (.dK (ks.zip vs))
 |.exc c,vs=>vs=[]/\F a=some (Qpx a (.ref c))
def Mbl:HO->Prop
 |.lst _=>True|.dT _=>True|.dK _=>True|_=>False
def Mt (H:Hp)(a:Addr):Tag->List V->Prop
 |.lst,vs=>H a=some (.lst vs)
 |.dT ks,vs=>ks.length=vs.length/\H a=some (.dT (ks.zip vs))
 |.dK ks,vs=>ks.length=vs.length/\H a=some (.dK (ks.zip vs))
 |_,_=>False
section
variable {K:z01}{F H F' H':Hp}{a:Addr}{t:Tag}{vs:List V}
theorem At.same (h:At K F a t vs)(s:Same F F'):At K F' a t vs:=by
 cases t with
 |lst=>exact h.imp (fun z=>z.imp (fun z=>s _ _ z) fun⟨o,z⟩=>⟨o,s _ _ z⟩) id
 |tup=>exact s _ _ h
 |ins k ns=>
  obtain⟨l,dx,h1,h2⟩:=h
  exact⟨l,dx,s _ _ h1,s _ _ h2⟩
 |dT ks=>exact⟨h.1,s _ _ h.2⟩
 |dK ks=>exact⟨h.1,s _ _ h.2⟩
 |exc c=>exact⟨h.1,s _ _ h.2⟩
theorem Mt.at (h:Mt H a t vs):At K H a t vs:=by
 cases t with
 |lst=>exact .inl (.inl h)
 |tup=>exact h.elim
 |ins k ns=>exact h.elim
 |dT ks=>exact h
 |dK ks=>exact h
 |exc c=>exact h.elim
theorem At.sql {K:z01}(h:At K F a .lst vs):SqL K F a vs:=h
theorem At.sqt {K:z01}(h:At K F a .tup vs):SqT K F a vs:=.inl (.inl h)
theorem Mt.mut (h:Mt H a t vs):t.mut=true:=by
 cases t with
 |lst=>rfl
 |tup=>exact h.elim
 |ins k ns=>exact h.elim
 |dT ks=>rfl
 |dK ks=>rfl
 |exc c=>exact h.elim
theorem Mt.eq (h:Mt H a t vs)(e:H' a=H a):Mt H' a t vs:=by
 cases t with
 |lst=>exact e.trans h
 |tup=>exact h.elim
 |ins k ns=>exact h.elim
 |dT ks=>exact⟨h.1,e.trans h.2⟩
 |dK ks=>exact⟨h.1,e.trans h.2⟩
 |exc c=>exact h.elim
theorem Mt.some (h:Mt H a t vs):∃o,H a=some o/\Mbl o:=by
 cases t with
 |lst=>exact⟨_,h,z50⟩
 |tup=>exact h.elim
 |ins k ns=>exact h.elim
 |dT ks=>exact⟨_,h.2,z50⟩
 |dK ks=>exact⟨_,h.2,z50⟩
 |exc c=>exact h.elim
end
mutual
inductive R (K:z01) (F:Hp):V->D->Prop
 |sc {v:V} {d:D} (e:d.sc=some v):R K F v d
 |nd {a:Addr} {t:Tag} {vs:List V} {ds:List D} (h:At K F a t vs) (r:RL K F vs ds):R K F (.ref a) (.nd t ds)
inductive RL (K:z01) (F:Hp):List V->List D->Prop
 |nil:RL K F [] []
 |cons {v:V} {d:D} {vs:List V} {ds:List D} (h:R K F v d) (r:RL K F vs ds):RL K F (v::vs) (d::ds)
end
mutual
inductive O (K:z01) (F H:Hp):V->D->List Addr->Prop
 |sc {v:V} {d:D} (e:d.sc=some v):O K F H v d []
 |im {a:Addr} {t:Tag} {vs:List V} {ds:List D} {fp:List Addr} (m:t.mut=false) (h:At K F a t vs) (r:OL K F H vs ds fp):O K F H (.ref a) (.nd t ds) fp
 |mt {a:Addr} {t:Tag} {vs:List V} {ds:List D} {fp:List Addr} (h:Mt H a t vs) (r:OL K F H vs ds fp):O K F H (.ref a) (.nd t ds) (a::fp)
inductive OL (K:z01) (F H:Hp):List V->List D->List Addr->Prop
 |nil:OL K F H [] [] []
 |cons {v:V} {d:D} {vs:List V} {ds:List D} {f g:List Addr} (h:O K F H v d f) (r:OL K F H vs ds g):OL K F H (v::vs) (d::ds) (f++g)
end
section
variable {K:z01}{F F' H H':Hp}
theorem R.ind {P:V->D->Prop}{Q:List V->List D->Prop}(c1:∀{v d},D.sc d=some v->P v d)(c2:∀{a t vs ds},At K F a t vs->Q vs ds->P (.ref a) (.nd t ds))(c4:Q [] [])(c5:∀{v d vs ds},P v d->Q vs ds->Q (v::vs) (d::ds)):(∀v d,R K F v d->P v d)/\∀vs ds,RL K F vs ds->Q vs ds:=
 ⟨fun _ _ h=>R.rec (motive_1:=fun v d _=>P v d) (motive_2:=fun v d _=>Q v d) (fun e=>c1 e) (fun h _ q=>c2 h q) c4 (fun _ _ p q=>c5 p q) h,fun _ _ h=>RL.rec (motive_1:=fun v d _=>P v d) (motive_2:=fun v d _=>Q v d) (fun e=>c1 e) (fun h _ q=>c2 h q) c4 (fun _ _ p q=>c5 p q) h⟩
theorem R.QmQ (s:Same F F'):(∀v d,R K F v d->R K F' v d)/\∀v d,RL K F v d->RL K F' v d:=R.ind .sc (fun h q=>.nd (h.same s) q) .nil .cons
theorem R.same (s:Same F F'){v:V}{d:D}(h:R K F v d):R K F' v d:=(R.QmQ s).1 _ _ h
theorem RL.same (s:Same F F'){v:List V}{d:List D}(h:RL K F v d):RL K F' v d:=(R.QmQ s).2 _ _ h
theorem RL.length {v:List V}{d:List D}(h:RL K F v d):v.length=d.length:=
 (R.ind (P:=fun _ _=>True) (Q:=fun v d=>v.length=d.length) (fun _=>trivial) (fun _ _=>trivial) rfl (fun _ q=>by rw[z30,z30,q])).2 _ _ h
theorem O.ind {P:V->D->List Addr->Prop}{Q:List V->List D->List Addr->Prop}(c1:∀{v d},D.sc d=some v->P v d [])(c2:∀{a t vs ds fp},t.mut=false->At K F a t vs->Q vs ds fp->P (.ref a) (.nd t ds) fp)(c3:∀{a t vs ds fp},Mt H a t vs->Q vs ds fp->P (.ref a) (.nd t ds) (a::fp))(c4:Q [] [] [])(c5:∀{v d vs ds f g},P v d f->Q vs ds g->Q (v::vs) (d::ds) (f++g)):(∀v d f,O K F H v d f->P v d f)/\∀vs ds f,OL K F H vs ds f->Q vs ds f:=
 ⟨fun _ _ _ h=>O.rec (motive_1:=fun v d f _=>P v d f) (motive_2:=fun v d f _=>Q v d f) (fun e=>c1 e) (fun m h _ q=>c2 m h q) (fun h _ q=>c3 h q) c4 (fun _ _ p q=>c5 p q) h,fun _ _ _ h=>OL.rec (motive_1:=fun v d f _=>P v d f) (motive_2:=fun v d f _=>Q v d f) (fun e=>c1 e) (fun m h _ q=>c2 m h q) (fun h _ q=>c3 h q) c4 (fun _ _ p q=>c5 p q) h⟩
theorem OL.length {v:List V}{d:List D}{f:List Addr}(h:OL K F H v d f):v.length=d.length:=
 (O.ind (P:=fun _ _ _=>True) (Q:=fun v d _=>v.length=d.length) (fun _=>trivial) (fun _ _ _=>trivial) (fun _ _=>trivial) rfl (fun _ q=>by rw[z30,z30,q])).2 _ _ _ h
theorem O.QmR (s:Same F F'):(∀v d fp,O K F H v d fp->(∀a∈fp,H' a=H a)->O K F' H' v d fp)/\∀v d fp,OL K F H v d fp->(∀a∈fp,H' a=H a)->OL K F' H' v d fp:=
 O.ind (fun e _=>.sc e) (fun m h q k=>.im m (h.same s) (q k)) (fun h q k=>.mt (h.eq (k _ z07)) (q fun a ha=>k a (z08 _ ha))) (fun _=>.nil) (fun p q k=>.cons (p fun a ha=>k a (z15 _ ha)) (q fun a ha=>k a (z04 _ ha)))
theorem O.keep (s:Same F F'){v:V}{d:D}{fp:List Addr}(h:O K F H v d fp)(k:∀a∈fp,H' a=H a):O K F' H' v d fp:=(O.QmR s).1 _ _ _ h k
theorem OL.keep (s:Same F F'){v:List V}{d:List D}{fp:List Addr}(h:OL K F H v d fp)(k:∀a∈fp,H' a=H a):OL K F' H' v d fp:=(O.QmR s).2 _ _ _ h k
theorem O.QqP:(∀v d fp,O K F H v d fp->∀a∈fp,∃o,H a=some o/\Mbl o)/\∀v d fp,OL K F H v d fp->∀a∈fp,∃o,H a=some o/\Mbl o:=
 O.ind (fun _ _ z=>nomatch z) (fun _ _ q=>q) (fun h q a ha=>(z19.mp ha).elim (fun e=>e▸h.some) (q a)) @5 (fun p q a ha=>(z14.mp ha).elim (p a) (q a))
theorem O.mem {v:V}{d:D}{fp:List Addr}(h:O K F H v d fp)(a:Addr)(ha:a∈fp):∃o,H a=some o/\Mbl o:=O.QqP.1 _ _ _ h a ha
theorem OL.mem {v:List V}{d:List D}{fp:List Addr}(h:OL K F H v d fp)(a:Addr)(ha:a∈fp):∃o,H a=some o/\Mbl o:=O.QqP.2 _ _ _ h a ha
noncomputable def jn (F H:Hp)(fp:List Addr):Hp:=fun b=>if b∈fp then H b else F b
theorem QgC {fp:List Addr}(ap:∀a∈fp,F a=none):Same F (jn F H fp):=fun b o e=>by
 unfold jn
 by_cases h:b∈fp
 ·rw[ap b h] at e;cases e
 ·rw[if_neg h];exact e
theorem Yd {fp:List Addr}(s:Same F H):Same (jn F H fp) H:=fun b o e=>by
 unfold jn at e
 by_cases h:b∈fp
 ·rw[if_pos h] at e;exact e
 ·rw[if_neg h] at e;exact s b o e
theorem JB {fp:List Addr}{b:Addr}(h:b∈fp):jn F H fp b=H b:=by unfold jn;rw[if_pos h]
theorem QG {fp:List Addr}{b:Addr}(h:b∉fp):jn F H fp b=F b:=by unfold jn;rw[if_neg h]
noncomputable def lo (F:Hp)(L:List Addr):Hp:=fun b=>if b∈L then none else F b
theorem lo_le {L:List Addr}:Same (lo F L) F:=fun b o e=>by
 unfold lo at e
 by_cases h:b∈L
 ·rw[if_pos h] at e;cases e
 ·rw[if_neg h] at e;exact e
theorem Qej {L:List Addr}{b:Addr}(h:b∈L):lo F L b=none:=by unfold lo;rw[if_pos h]
theorem Yz {L:List Addr}{b:Addr}(h:b∉L):lo F L b=F b:=by unfold lo;rw[if_neg h]
theorem O.rB (s:Same F F'):(∀v d fp,O K F H v d fp->(∀a∈fp,F' a=H a)->R K F' v d)/\∀v d fp,OL K F H v d fp->(∀a∈fp,F' a=H a)->RL K F' v d:=
 O.ind (fun e _=>.sc e) (fun m h q k=>.nd (h.same s) (q k)) (fun h q k=>.nd (h.eq (k _ z07)).at (q fun a ha=>k a (z08 _ ha))) (fun _=>.nil) (fun p q k=>.cons (p fun a ha=>k a (z15 _ ha)) (q fun a ha=>k a (z04 _ ha)))
theorem O.r (s:Same F F'){v:V}{d:D}{fp:List Addr}(h:O K F H v d fp)(k:∀a∈fp,F' a=H a):R K F' v d:=(O.rB s).1 _ _ _ h k
theorem OL.r (s:Same F F'){v:List V}{d:List D}{fp:List Addr}(h:OL K F H v d fp)(k:∀a∈fp,F' a=H a):RL K F' v d:=(O.rB s).2 _ _ _ h k
theorem Qb5 {t:Tag}{ds:List D}(h:(D.nd t ds).imm=true):t.mut=false/\D.QI ds=true:=by
 rw[D.imm,z99] at h
 exact⟨by simpa using h.1,h.2⟩
theorem JC {d:D}{ds:List D}(h:D.QI (d::ds)=true):d.imm=true/\D.QI ds=true:=by
 rw[D.QI,z99] at h
 exact h
theorem VA:∀{ds:List D},D.QI ds=true->∀d∈ds,d.imm=true
 | [],_,d,hd=>nomatch hd
 |x::ds,h,d,hd=>by
  obtain⟨h1,h2⟩:=JC h
  rcases z19.mp hd with rfl|hd
  ·exact h1
  ·exact VA h2 d hd
theorem Qb6:∀{ds:List D},(∀d∈ds,d.imm=true)->D.QI ds=true
 | [],_=>by rw[D.QI]
 |x::ds,h=>by
  rw[D.QI,z99]
  exact⟨h x z07,Qb6 fun d hd=>h d (z08 _ hd)⟩
theorem Qjc {xs ys:List D}(h:D.QI xs=true)(h':D.QI ys=true):D.QI (xs++ys)=true:=Qb6 fun d hd=>(z14.mp hd).elim (VA h d) (VA h' d)
theorem At.lo {a:Addr}{t:Tag}{vs:List V}{L:List Addr}(m:t.mut=false)(h:At K F a t vs)(hl:∀b∈L,∀o,F b=some o->Mbl o):At K (lo F L) a t vs:=by
 cases t with
 |lst=>cases m
 |tup=>exact(Yz fun z=>hl _ z _ h).trans h
 |ins k ns=>
  obtain⟨l,dx,h1,h2⟩:=h
  exact⟨l,dx,(Yz fun z=>hl _ z _ h1).trans h1,(Yz fun z=>hl _ z _ h2).trans h2⟩
 |dT ks=>cases m
 |dK ks=>cases m
 |exc c=>exact⟨h.1,(Yz fun z=>hl _ z _ h.2).trans h.2⟩
theorem R.loB {L:List Addr}(hl:∀b∈L,∀o,F b=some o->Mbl o):(∀v d,R K F v d->d.imm=true->R K (lo F L) v d)/\∀v d,RL K F v d->D.QI d=true->RL K (lo F L) v d:=
 R.ind (fun e _=>.sc e) (fun h q m=>.nd (h.lo (Qb5 m).1 hl) (q (Qb5 m).2)) (fun _=>.nil) (fun p q m=>.cons (p (JC m).1) (q (JC m).2))
theorem R.lo {L:List Addr}(hl:∀b∈L,∀o,F b=some o->Mbl o){v:V}{d:D}(h:R K F v d)(m:d.imm=true):R K (lo F L) v d:=(R.loB hl).1 _ _ h m
theorem RL.lo {L:List Addr}(hl:∀b∈L,∀o,F b=some o->Mbl o){v:List V}{d:List D}(h:RL K F v d)(m:D.QI d=true):RL K (lo F L) v d:=(R.loB hl).2 _ _ h m
theorem R.oB:(∀v d,R K F v d->d.imm=true->O K F H v d [])/\∀v d,RL K F v d->D.QI d=true->OL K F H v d []:=
 R.ind (fun e _=>.sc e) (fun h q m=>.im (Qb5 m).1 h (q (Qb5 m).2)) (fun _=>.nil) (fun p q m=>.cons (f:=[]) (p (JC m).1) (q (JC m).2))
theorem R.o {v:V}{d:D}(h:R K F v d)(m:d.imm=true):O K F H v d []:=R.oB.1 _ _ h m
theorem RL.o {v:List V}{d:List D}(h:RL K F v d)(m:D.QI d=true):OL K F H v d []:=R.oB.2 _ _ h m
theorem O.Qro:(∀v d fp,O K F H v d fp->d.imm=true->fp=[])/\∀v d fp,OL K F H v d fp->D.QI d=true->fp=[]:=
 O.ind (fun _ _=>rfl) (fun _ _ q i=>q (Qb5 i).2) (fun h _ i=>absurd h.mut (by rw[(Qb5 i).1];decide)) (fun _=>rfl) (fun p q i=>by rw[p (JC i).1,q (JC i).2];rfl)
theorem OL.Qpb {v:List V}{d:List D}{fp:List Addr}(h:OL K F H v d fp)(i:D.QI d=true):fp=[]:=O.Qro.2 _ _ _ h i
theorem R.Qu {v:V}{d:D}{w:V}(h:R K F v d)(e:d.sc=some w):v=w:=by
 cases h with
 |sc e'=>rw[e] at e';exact(z35 e').symm
 |nd h r=>cases e
theorem RL.get {vs:List V}{ds:List D}{i:Nat}{d:D}(r:RL K F vs ds)(e:ds[i]? = some d):∃v,vs[i]? = some v/\R K F v d:=by
 induction i generalizing vs ds with
 |zero=>cases r with
  |nil=>simp at e
  |cons h r=>simp at e;subst e;exact⟨_,rfl,h⟩
 |succ i ih=>cases r with
  |nil=>simp at e
  |cons h r=>
   obtain⟨v,h1,h2⟩:=ih r (by simpa using e)
   exact⟨v,by simpa using h1,h2⟩
theorem RL.app {vs us:List V}{ds es:List D}(h:RL K F vs ds)(r:RL K F us es):RL K F (vs++us) (ds++es):=
 ((R.ind (P:=fun v d=>R K F v d) (Q:=fun vs ds=>RL K F vs ds/\RL K F (vs++us) (ds++es)) .sc (fun h q=>.nd h q.1) ⟨.nil,r⟩ (fun p q=>⟨.cons p q.1,.cons p q.2⟩)).2 _ _ h).2
theorem OL.app {vs us:List V}{ds es:List D}{f g:List Addr}(h:OL K F H vs ds f)(r:OL K F H us es g):OL K F H (vs++us) (ds++es) (f++g):=
 ((O.ind (P:=fun v d f=>O K F H v d f) (Q:=fun vs ds f=>OL K F H vs ds f/\OL K F H (vs++us) (ds++es) (f++g)) .sc (fun m h q=>.im m h q.1) (fun h q=>.mt h q.1) ⟨.nil,r⟩ (fun p q=>⟨.cons p q.1,by rw[z53];exact .cons p q.2⟩)).2 _ _ _ h).2
end
end TL
namespace TL
open PySem L2
inductive Sl where
 |frz (d:D)
 |own (d:D)
 |par (d:D)
abbrev Rho:=List (Option Sl)
structure Cn where
 K:z01
 H₀:Hp
 F₀:Hp
 A:List Addr
 Qe2:List (Nat×V)
inductive S1 (K:z01) (F H:Hp):Option V->Option Sl->List Addr->List Addr->Prop
 |non {x:Option V}:S1 K F H x none [] []
 |frz {v:V} {d:D} (h:R K F v d):S1 K F H (some v) (some (.frz d)) [] []
 |own {v:V} {d:D} {f:List Addr} (h:O K F H v d f):S1 K F H (some v) (some (.own d)) f []
 |par {v:V} {d:D} {f:List Addr} (h:O K F H v d f):S1 K F H (some v) (some (.par d)) [] f
inductive SL (K:z01) (F H:Hp):St->Rho->List Addr->List Addr->Prop
 |nil:SL K F H [] [] [] []
 |cons {x:Option V} {s:Option Sl} {σ:St} {ρ:Rho} {f0 g0 f g:List Addr} (h:S1 K F H x s f0 g0) (r:SL K F H σ ρ f g):SL K F H (x::σ) (s::ρ) (f0++f) (g0++g)
section
variable {K:z01}{F F' H H':Hp}
theorem S1.keep {x:Option V}{s:Option Sl}{f g:List Addr}(sf:Same F F')(h:S1 K F H x s f g)(k:∀a∈f++g,H' a=H a):S1 K F' H' x s f g:=by
 cases h with
 |non=>exact .non
 |frz h=>exact .frz (h.same sf)
 |own h=>exact .own (h.keep sf fun a ha=>k a (z15 _ ha))
 |par h=>exact .par (h.keep sf fun a ha=>k a ha)
theorem S1.mem {x:Option V}{s:Option Sl}{f g:List Addr}(h:S1 K F H x s f g):∀a∈f++g,∃o,H a=some o/\Mbl o:=by
 cases h with
 |non=>intro a ha;exact nomatch ha
 |frz h=>intro a ha;exact nomatch ha
 |own h=>intro a ha;rw[z71] at ha;exact h.mem a ha
 |par h=>intro a ha;exact h.mem a ha
theorem SL.keep (sf:Same F F'){σ:St}{ρ:Rho}{f g:List Addr}(h:SL K F H σ ρ f g)(k:∀a∈f++g,H' a=H a):SL K F' H' σ ρ f g:=by
 induction h with
 |nil=>exact .nil
 |cons h r ih=>
  refine .cons (h.keep sf fun a ha=>k a ?_) (ih fun a ha=>k a ?_)<;>rcases z14.mp ha with z|z
  ·exact z15 _ (z15 _ z)
  ·exact z04 _ (z15 _ z)
  ·exact z15 _ (z04 _ z)
  ·exact z04 _ (z04 _ z)
theorem SL.mem {σ:St}{ρ:Rho}{f g:List Addr}(h:SL K F H σ ρ f g):∀a∈f++g,∃o,H a=some o/\Mbl o:=by
 induction h with
 |nil=>exact fun a ha=>nomatch ha
 |cons h r ih=>
  intro a ha
  rcases z14.mp ha with z|z<;>rcases z14.mp z with z|z
  ·exact h.mem a (z15 _ z)
  ·exact ih a (z15 _ z)
  ·exact h.mem a (z04 _ z)
  ·exact ih a (z04 _ z)
theorem SL.len {σ:St}{ρ:Rho}{f g:List Addr}(h:SL K F H σ ρ f g):σ.length=ρ.length:=by
 induction h with
 |nil=>rfl
 |cons h r ih=>exact congrArg Nat.succ ih
theorem SL.cut {σ:St}{ρ:Rho}{f g:List Addr}(h:SL K F H σ ρ f g):∀{i:Nat} {s:Option Sl},ρ[i]? = some s->∃x f0 g0 f1 f2 g1 g2,σ[i]? = some x/\S1 K F H x s f0 g0/\f=f1++(f0++f2)/\g=g1++(g0++g2)/\
  ∀{F' H':Hp},Same F F'->(∀a∈f1++f2++(g1++g2),H' a=H a)->∀{x':Option V} {s':Option Sl} {f0' g0':List Addr},S1 K F' H' x' s' f0' g0'->SL K F' H' (σ.set i x') (ρ.set i s') (f1++(f0'++f2)) (g1++(g0'++g2)):=by
 induction h with
 |nil=>intro i s e;cases e
 | @cons x1 s1 σ1 ρ1 f0 g0 f g h r ih=>
  intro i s e
  cases i with
  |zero=>cases e;exact⟨_,_,_,[],f,[],g,rfl,h,rfl,rfl,fun{F' H'} sf k {x' s' f0' g0'} h'=>show SL K F' H' (_::_) (_::_) (f0'++f) (g0'++g) from .cons h' (r.keep sf k)⟩
  |succ i=>
   obtain⟨x,a0,b0,f1,f2,g1,g2,e1,h1,rfl,rfl,k⟩:=ih (i:=i) (s:=s) e
   refine⟨x,a0,b0,f0++f1,f2,g0++g1,g2,e1,h1,(z53 ..).symm,(z53 ..).symm,fun{F' H'} sf kk {x' s' f0' g0'} h'=>?_⟩
   rw[z53,z53]
   refine SL.cons (h.keep sf fun a ha=>kk a ?_) (k sf (fun a ha=>kk a ?_) h')<;>simp only[z14] at ha ⊢
   ·rcases ha with z|z
    ·exact .inl (.inl (.inl z))
    ·exact .inr (.inl (.inl z))
   ·rcases ha with(z|z)|z|z
    ·exact .inl (.inl (.inr z))
    ·exact .inl (.inr z)
    ·exact .inr (.inl (.inr z))
    ·exact .inr (.inr z)
end
def IsT:HO->Prop
 |.tup _=>True|_=>False
def Nw (H:Hp)(b:Addr)(o:HO):Prop:=H b=none\/IsT o
theorem Nw.not {H H':Hp}{b:Addr}{o o':HO}(n:Nw H b o)(e:H b≠none)(e':H' b=some o)(e2:H' b=some o')(m:Mbl o'):False:=by
 rcases n with z|z
 ·exact e z
 ·rw[e'] at e2;cases e2
  cases o with
  |tup _=>exact m
  |_=>exact z
theorem Nw.up {H H':Hp}{b:Addr}{o:HO}(n:Nw H b o)(f:H b=none->H' b=none):Nw H' b o:=n.imp f id
structure SI (C:Cn)(F H:Hp)(σ:St)(ρ:Rho)(τ:List (V×D))(fp:List Addr):Prop where
 sl:∃f g t,SL C.K F H σ ρ f g/\OL C.K F H (τ.map (·.1)) (τ.map (·.2)) t/\fp.Perm (f++(g++t))/\(∀a∈f,C.H₀ a=none)/\(∀a∈t,C.H₀ a=none)/\∀a∈g,a∈C.A\/C.H₀ a=none
 nd:fp.Nodup
 ap:∀a∈fp,F a=none
 fh:Same F H
 f0:Same C.F₀ F
 fn:∀b o,F b=some o->C.F₀ b=some o\/Nw C.H₀ b o
 kp:∀b o,C.H₀ b=some o->b∉C.A->H b=some o
 dm:∀b,H b=none->C.H₀ b=none
 pr:∀j v,(j,v)∈C.Qe2->σ[j]? = some (some v)/\∃d,ρ[j]? = some (some (.par d))
section
variable {C:Cn}{F F' H H':Hp}{σ:St}{ρ:Rho}{τ:List (V×D)}{fp:List Addr}
theorem SI.len (I:SI C F H σ ρ τ fp):σ.length=ρ.length:=let ⟨_,_,_,s,_⟩:=I.sl;s.len
theorem SI.mem (I:SI C F H σ ρ τ fp):∀a∈fp,∃o,H a=some o/\Mbl o:=fun a ha=>by
 obtain⟨f,g,t,s,o,p,_⟩:=I.sl
 have z:=p.mem_iff.mp ha
 rcases z14.mp z with z|z
 ·exact s.mem a (z15 _ z)
 ·rcases z14.mp z with z|z
  ·exact s.mem a (z04 _ z)
  ·exact o.mem a z
theorem SI.perm {fp':List Addr}(I:SI C F H σ ρ τ fp)(p:fp.Perm fp'):SI C F H σ ρ τ fp':=by
 obtain⟨f,g,t,s,o,q,r⟩:=I.sl
 exact⟨⟨f,g,t,s,o,p.symm.trans q,r⟩,p.nodup_iff.mp I.nd,fun a ha=>I.ap a (p.mem_iff.mpr ha),I.fh,I.f0,I.fn,I.kp,I.dm,I.pr⟩
theorem SI.step (I:SI C F H σ ρ τ fp)(sf:Same F F')(fh:Same F' H')(hk:∀a∈fp,H' a=H a)(ap:∀a∈fp,F' a=none)(fn:∀b o,F' b=some o->F b=some o\/Nw C.H₀ b o)(kp:∀b o,C.H₀ b=some o->b∉C.A->H b=some o->H' b=some o)(dm:∀b,H' b=none->H b=none):SI C F' H' σ ρ τ fp:=by
 obtain⟨f,g,t,s,o,q,h1,h2,h3⟩:=I.sl
 have inn:∀{a:Addr},a∈f++(g++t)->H' a=H a:=fun z=>hk _ (q.mem_iff.mpr z)
 refine⟨⟨f,g,t,s.keep sf fun a ha=>inn (by
  rcases z14.mp ha with z|z
  ·exact z15 _ z
  ·exact z04 _ (z15 _ z)),o.keep sf fun a ha=>inn (z04 _ (z04 _ ha)),q,h1,h2,h3⟩,I.nd,ap,fh,I.f0.trans sf,fun b ob e=>?_,fun b ob e n=>?_,fun b e=>?_,I.pr⟩
 ·rcases fn b ob e with z|z
  ·exact I.fn b ob z
  ·exact .inr z
 ·exact kp b ob e n (I.kp b ob e n)
 ·exact I.dm b (dm b e)
theorem SI.lay {p:Addr}{o:HO}(I:SI C F H σ ρ τ fp)(hp:H p=none):SI C (upd F p o) (upd H p o) σ ρ τ fp:=by
 have np:∀a∈fp,a≠p:=fun a ha=>by
  obtain⟨_,e,_⟩:=I.mem a ha
  exact ne_of_none e hp
 have fp0:F p=none:=I.fh.free hp
 refine I.step (Same.upd fp0) (fun b ob e=>?_) (fun a ha=>upd_ne (np a ha)) (fun a ha=>(upd_ne (np a ha)).trans (I.ap a ha)) (fun b ob e=>?_) (fun b ob _ _ e=>Same.upd hp b ob e) fun b e=>(Same.upd hp).free e
 ·by_cases hb:b=p
  ·subst hb;rw[upd_same] at e ⊢;exact e
  ·rw[upd_ne hb] at e ⊢;exact I.fh b ob e
 ·by_cases hb:b=p
  ·subst hb;exact .inr (.inl (I.dm b hp))
  ·rw[upd_ne hb] at e;exact .inl e
theorem SI.lay0 {p:Addr}{o:HO}(I:SI C F H σ ρ τ fp)(hp:H p=none):SI C F (upd H p o) σ ρ τ fp:=by
 have np:∀a∈fp,a≠p:=fun a ha=>by
  obtain⟨_,e,_⟩:=I.mem a ha
  exact ne_of_none e hp
 exact I.step (Same.refl F) (I.fh.trans (Same.upd hp)) (fun a ha=>upd_ne (np a ha)) I.ap (fun b ob e=>.inl e) (fun b ob _ _ e=>Same.upd hp b ob e) fun b e=>(Same.upd hp).free e
theorem SI.pop {v:V}{d:D}(I:SI C F H σ ρ ((v,d)::τ) fp):∃f rest,O C.K F H v d f/\fp.Perm (f++rest)/\SI C F H σ ρ τ rest/\(∀a∈f,C.H₀ a=none)/\(∀a∈f,F a=none)/\(f++rest).Nodup:=by
 obtain⟨f,g,t,s,o,q,h1,h2,h3⟩:=I.sl
 cases o with
 | @cons _ _ _ _ t1 t2 o1 o2=>
  have p:fp.Perm (t1++(f++(g++t2))):=by
   refine q.trans ?_
   rw[z68]
   intro a
   simp only[z78]
   lia
  have nd:=p.nodup_iff.mp I.nd
  refine⟨t1,f++(g++t2),o1,p,⟨⟨f,g,t2,s,o2,.refl _,h1,fun a ha=>h2 a (z04 _ ha),h3⟩,(z17.mp nd).2.1,fun a ha=>I.ap a (p.mem_iff.mpr (z04 _ ha)),I.fh,I.f0,I.fn,I.kp,I.dm,I.pr⟩,fun a ha=>h2 a (z15 _ ha),fun a ha=>I.ap a (p.mem_iff.mpr (z15 _ ha)),nd⟩
theorem SI.push {v:V}{d:D}{f rest:List Addr}(I:SI C F H σ ρ τ rest)(h:O C.K F H v d f)(h0:∀a∈f,C.H₀ a=none)(ap:∀a∈f,F a=none)(nd:(f++rest).Nodup):SI C F H σ ρ ((v,d)::τ) (f++rest):=by
 obtain⟨f1,g,t,s,o,q,h1,h2,h3⟩:=I.sl
 refine⟨⟨f1,g,f++t,s,.cons h o,?_,h1,fun a ha=>(z14.mp ha).elim (h0 a) (h2 a),h3⟩,nd,fun a ha=>(z14.mp ha).elim (ap a) (I.ap a),I.fh,I.f0,I.fn,I.kp,I.dm,I.pr⟩
 refine(q.append_left f).trans ?_
 rw[z68]
 intro a
 simp only[z78]
 lia
theorem SI.cut (I:SI C F H σ ρ τ fp){i:Nat}{s:Option Sl}(hs:ρ[i]? = some s):∃x f0 g0 rest,σ[i]? = some x/\S1 C.K F H x s f0 g0/\fp.Perm (f0++(g0++rest))/\(∀a∈f0,C.H₀ a=none)/\(∀a∈g0,a∈C.A\/C.H₀ a=none)/\
  ∀{F' H':Hp} {x':Option V} {s':Option Sl} {f0' g0':List Addr},Same F F'->Same F' H'->(∀a∈rest,H' a=H a)->(∀b,H' b=none->H b=none)->(∀b o,C.H₀ b=some o->b∉C.A->H b=some o->H' b=some o)->(∀b o,F' b=some o->F b=some o\/Nw C.H₀ b o)->
   S1 C.K F' H' x' s' f0' g0'->(f0'++(g0'++rest)).Nodup->(∀a∈f0'++(g0'++rest),F' a=none)->(∀a∈f0',C.H₀ a=none)->(∀a∈g0',a∈C.A\/C.H₀ a=none)->(∀v,(i,v)∈C.Qe2->x'=some v/\∃d,s'=some (.par d))->
   SI C F' H' (σ.set i x') (ρ.set i s') τ (f0'++(g0'++rest)):=by
 obtain⟨f,g,t,sl,o,q,h1,h2,h3⟩:=I.sl
 obtain⟨x,f0,g0,f1,f2,g1,g2,ex,s1,rfl,rfl,k⟩:=sl.cut hs
 have mv:∀(f0 g0:List Addr),(f0++(g0++(f1++f2++(g1++g2)++t))).Perm ((f1++(f0++f2))++((g1++(g0++g2))++t)):=fun f0 g0=>by
  rw[z68]
  intro a
  simp only[z78]
  lia
 refine⟨x,f0,g0,f1++f2++(g1++g2)++t,ex,s1,q.trans (mv f0 g0).symm,fun a ha=>h1 a (by simp[ha]),fun a ha=>h3 a (by simp[ha]),fun{F' H' x' s' f0' g0'} sf fh hk dm kp fn n1 nd ap w0 w1 pr=>?_⟩
 have z:=k sf (fun a ha=>hk a (z15 _ ha)) n1
 refine⟨⟨_,_,t,z,o.keep sf fun a ha=>hk a (z04 _ ha),mv f0' g0',fun a ha=>?_,h2,fun a ha=>?_⟩,nd,ap,fh,I.f0.trans sf,fun b ob e=>?_,fun b ob e n=>?_,fun b e=>I.dm b (dm b e),fun j v hj=>?_⟩
 ·simp only[z14] at ha
  rcases ha with z|z|z
  ·exact h1 a (by simp[z])
  ·exact w0 a z
  ·exact h1 a (by simp[z])
 ·simp only[z14] at ha
  rcases ha with z|z|z
  ·exact h3 a (by simp[z])
  ·exact w1 a z
  ·exact h3 a (by simp[z])
 ·rcases fn b ob e with z|z
  ·exact I.fn b ob z
  ·exact .inr z
 ·exact kp b ob e n (I.kp b ob e n)
 ·obtain⟨p1,d,p2⟩:=I.pr j v hj
  by_cases e:i=j
  ·subst e
   obtain⟨q1,d',q2⟩:=pr v hj
   have l1:i<σ.length:=(z28.mp p1).1
   have l2:i<ρ.length:=(z28.mp p2).1
   exact⟨by rw[z88 l1,q1],d',by rw[z88 l2,q2]⟩
  ·exact⟨by rw[z57 e];exact p1,d,by rw[z57 e];exact p2⟩
theorem QkS {p q:List Addr}(h:p.Perm q):jn F H p=jn F H q:=by
 funext b
 unfold jn
 by_cases hb:b∈p
 ·rw[if_pos hb,if_pos (h.mem_iff.mp hb)]
 ·rw[if_neg hb,if_neg fun z=>hb (h.mem_iff.mpr z)]
theorem SI.freeze {v:V}{d:D}(I:SI C F H σ ρ ((v,d)::τ) fp):∃F' rest,SI C F' H σ ρ τ rest/\Same F F'/\R C.K F' v d/\jn F' H rest=jn F H fp:=by
 obtain⟨f,rest,o,p,J,h0,ap,nd⟩:=I.pop
 have dis:∀a∈rest,a∉f:=fun a ha hf=>(z17.mp nd).2.2 a hf a ha rfl
 have sf:Same F (jn F H f):=QgC ap
 refine⟨jn F H f,rest,J.step sf (Yd J.fh) (fun _ _=>rfl) (fun a ha=>(QG (dis a ha)).trans (J.ap a ha)) (fun b ob e=>?_) (fun b ob _ _ e=>e) (fun _ e=>e),sf,o.r sf fun a ha=>JB ha,?_⟩
 ·by_cases hb:b∈f
  ·exact .inr (.inl (h0 b hb))
  ·rw[QG hb] at e;exact .inl e
 ·funext b
  unfold jn
  by_cases hb:b∈rest
  ·rw[if_pos hb,if_pos (p.mem_iff.mpr (z04 _ hb))]
  ·rw[if_neg hb]
   by_cases hf:b∈f
   ·rw[if_pos hf,if_pos (p.mem_iff.mpr (z15 _ hf))]
   ·rw[if_neg hf,if_neg fun z=>(z14.mp (p.mem_iff.mp z)).elim hf hb]
theorem SI.drop (I:SI C F H σ ρ τ fp):∃fp',SI C F H σ ρ [] fp':=by
 induction τ generalizing fp with
 |nil=>exact⟨fp,I⟩
 |cons x τ ih=>
  obtain⟨f,rest,_,_,J,_⟩:=SI.pop (v:=x.1) (d:=x.2) I
  exact ih J
end
inductive Rs (α:Type) where
 |ok (a:α)
 |ex (c:Addr) (ρ:Rho)
 |no
noncomputable def Rs.bind {α β:Type}:Rs α->(α->Rs β)->Rs β
 |.ok a,f=>f a
 |.ex c ρ,_=>.ex c ρ
 |.no,_=>.no
noncomputable def Rs.of {α:Type}:Option α->Rs α
 |some a=>.ok a
 |none=>.no
abbrev ME:=Rho->Rs (D×Rho)
abbrev MT:=Rho->Rs (Bool×Rho)
abbrev MA:=Rho->Rs (List D×Rho)
abbrev XE:=L2.St->XK
def Run (C:Cn)(E:XE)(σ:L2.St){α:Type}(r:Rs α)(k:α->Prop):Prop:=match r with
 |.ok a=>k a
 |.ex c ρ=>∀F H fp,SI C F H σ ρ [] fp->E σ (.ref c) none H
 |.no=>False
section
variable {C:Cn}{E:XE}{σ:L2.St}{α β:Type}
theorem Run.mono {r:Rs α}{k k':α->Prop}(h:Run C E σ r k)(f:∀a,k a->k' a):Run C E σ r k':=by
 cases r with
 |ok a=>exact f a h
 |ex c ρ=>exact h
 |no=>exact h
theorem Run.split {r:Rs α}{f:α->Rs β}{k:β->Prop}(h:Run C E σ (r.bind f) k):Run C E σ r fun a=>Run C E σ (f a) k:=by
 cases r with
 |ok a=>exact h
 |ex c ρ=>exact h
 |no=>exact h
theorem Run.of {o:Option α}{k:α->Prop}(h:Run C E σ (Rs.of o) k):∃a,o=some a/\k a:=by
 cases o with
 |none=>exact h.elim
 |some a=>exact⟨a,rfl,h⟩
end
inductive Kd where
 |V|O|B|S (i:Nat)
def Kd.tk:Kd->L2.V->D->List (L2.V×D)->List (L2.V×D)
 |.O,v,d,τ=>(v,d)::τ
 |_,_,_,τ=>τ
def Kd.fc (C:Cn)(F H:Hp)(fp:List Addr)(σ:L2.St)(v:L2.V)(d:D):Kd->Prop
 |.V=>R C.K F v d
 |.B=>R C.K (jn F H fp) v d
 |.O=>True
 |.S i=>σ[i]? = some (some v)
structure Nx (p:Bool)(F H:Hp)(fp:List Addr)(F' H':Hp)(fp':List Addr):Prop where
 f:Same F F'
 g:p=true->Same (jn F H fp) (jn F' H' fp')
theorem Nx.refl {p:Bool}{F H:Hp}{fp:List Addr}:Nx p F H fp F H fp:=⟨Same.refl _,fun _=>Same.refl _⟩
theorem Nx.trans {p q:Bool}{F H F1 H1 F2 H2:Hp}{fp fp1 fp2:List Addr}(a:Nx p F H fp F1 H1 fp1)(b:Nx q F1 H1 fp1 F2 H2 fp2):Nx (p && q) F H fp F2 H2 fp2:=
 ⟨a.f.trans b.f,fun h=>(a.g (z58.mp h).1).trans (b.g (z58.mp h).2)⟩
theorem Nx.weak {p q:Bool}{F H F1 H1:Hp}{fp fp1:List Addr}(a:Nx p F H fp F1 H1 fp1)(h:q=true->p=true):Nx q F H fp F1 H1 fp1:=⟨a.f,fun z=>a.g (h z)⟩
def tX (k:Kd)(C:Cn)(p:Bool)(E:XE)(m:ME):TE:=fun σ H Q=>∃F ρ τ fp,SI C F H σ ρ τ fp/\Run C E σ (m ρ) fun r=>
 ∀F' H' fp' v,SI C F' H' σ r.2 (k.tk v r.1 τ) fp'->Nx p F H fp F' H' fp'->k.fc C F' H' fp' σ v r.1->Q v H'
def tT (C:Cn)(p:Bool)(E:XE)(m:MT):TT:=fun σ H Q=>∃F ρ τ fp,SI C F H σ ρ τ fp/\Run C E σ (m ρ) fun r=>
 ∀F' H' fp',SI C F' H' σ r.2 τ fp'->Nx p F H fp F' H' fp'->Q r.1 H'
def tkL:List Kd->List L2.V->List D->List (L2.V×D)->List (L2.V×D)
 |k::ks,v::vs,d::ds,τ=>tkL ks vs ds (k.tk v d τ)
 |_,_,_,τ=>τ
inductive FcL (C:Cn) (F H:Hp) (fp:List Addr) (σ:L2.St):List Kd->List L2.V->List D->Prop
 |nil:FcL C F H fp σ [] [] []
 |cons {k:Kd} {v:L2.V} {d:D} {ks:List Kd} {vs:List L2.V} {ds:List D} (h:k.fc C F H fp σ v d) (r:FcL C F H fp σ ks vs ds):FcL C F H fp σ (k::ks) (v::vs) (d::ds)
def tA (ks:List Kd)(C:Cn)(p:Bool)(E:XE)(m:MA):TA:=fun σ H Q=>∃F ρ τ fp,SI C F H σ ρ τ fp/\Run C E σ (m ρ) fun r=>
 ∀F' H' fp' vs,SI C F' H' σ r.2 (tkL ks vs r.1 τ) fp'->Nx p F H fp F' H' fp'->FcL C F' H' fp' σ ks vs r.1->Q vs H'
theorem Ql {X:Cx}{e:Expr}{t t':TE}(h:PE X e t)(k:∀σ H Q,t' σ H Q->t σ H Q):PE X e t':=fun pins s σ H Q I q=>h pins s σ H Q I (k _ _ _ q)
theorem Qb7 {X:Cx}{e:Expr}{t t':TT}(h:PT X e t)(k:∀σ H Q,t' σ H Q->t σ H Q):PT X e t':=fun pins s σ H Q I q=>h pins s σ H Q I (k _ _ _ q)
theorem Qhb {X:Cx}{e:List Expr}{t t':TA}(h:PA X e t)(k:∀σ H Q,t' σ H Q->t σ H Q):PA X e t':=fun pos pins s σ H Q I q=>h pos pins s σ H Q I (k _ _ _ q)
theorem QT {X:Cx}{e:Stmt}{t t':TS}(h:PS X e t)(k:∀D σ H,t' D σ H->t D σ H):PS X e t':=fun pins s σ H D I q=>h pins s σ H D I (k _ _ _ q)
theorem QbW {X:Cx}{e:List Stmt}{t t':TS}(h:PSs X e t)(k:∀D σ H,t' D σ H->t D σ H):PSs X e t':=fun pins s σ H D I q=>h pins s σ H D I (k _ _ _ q)
section
variable {X:Cx}{C:Cn}{E:XE}{p pa pb:Bool}{e a b:Expr}{m ma mb:ME}{pos:Pos}{k ka kb:Kd}
theorem R.tj {F H:Hp}{σ:L2.St}{ρ:Rho}{τ:List (V×D)}{fp:List Addr}{v:L2.V}{d:D}(I:SI C F H σ ρ τ fp)(h:R C.K F v d):R C.K (jn F H fp) v d:=h.same (QgC I.ap)
theorem R.top {F H:Hp}{σ:L2.St}{ρ:Rho}{τ:List (V×D)}{fp:List Addr}{v:L2.V}{d:D}(I:SI C F H σ ρ τ fp)(h:R C.K (jn F H fp) v d):R C.K H v d:=h.same (Yd I.fh)
def mC (d:D):ME:=fun ρ=>.ok (d,ρ)
theorem QgD {d:D}{v:L2.V}(e:d.sc=some v){σ:L2.St}{H:Hp}{Q:VK}(h:tX .V C true E (mC d) σ H Q):tC v σ H Q:=by
 obtain⟨F,ρ,τ,fp,I,r⟩:=h
 exact r F H fp v I .refl (.sc e)
theorem Qc {i j pos}:PE X (.Constant (.int i) j pos) (tX .V C true E (mC (.int i))):=Ql pe_int fun _ _ _ h=>QgD rfl h
theorem QbP {b j pos}:PE X (.Constant (.bool b) j pos) (tX .V C true E (mC (.bl b))):=Ql pe_bl fun _ _ _ h=>QgD rfl h
theorem Qb8 {j pos}:PE X (.Constant .none j pos) (tX .V C true E (mC .non)):=Ql pe_non fun _ _ _ h=>QgD rfl h
theorem Qc4 {x j pos}:PE X (.Constant (.str x) j pos) (tX .V C true E (mC (.str x))):=Ql pe_str fun _ _ _ h=>QgD rfl h
theorem Jc {x:Str}{d:D}{v:L2.V}{u:Value}{pos:Pos}(ed:d.sc=some v)(r:RelV v u)(hm:X.mg x=some u)(hg:Gl X x:=by rfl)(hd:@6=false:=by decide):PE X (.Name x pos) (tX .V C true E (mC d)):=Ql (pe_glob hg hm r hd) fun _ _ _ h=>QgD ed h
theorem V5 {x:Str}{n:String}{pos:Pos}(hm:X.mg x=none)(hv:z52 x=some (.type n))(hg:Gl X x:=by rfl)(hn:x ≠ "__name__" := by decide)(hd:@6=false:=by decide):PE X (.Name x pos) (tX .V C true E (mC (.ty n))):=Ql (pe_bltn (v:=.ty n) hg hm hv rfl hn hd) fun _ _ _ h=>QgD rfl h
def mB (i:Nat):ME:=fun ρ=>match ρ[i]? with
 |some (some (.frz d))=>.ok (d,ρ)
 |some (some (.own d))=>.ok (d,ρ)
 |some (some (.par d))=>.ok (d,ρ)
 |_=>.no
theorem QmS {i:Nat}{x:Str}{pos:Pos}(hN:X.N[i]? = some x)(hv:Vis X.env.scope x)(hd:@6=false:=by decide)(hcd:(x == ("__classdict__" : Str))=false:=by decide):PE X (.Name x pos) (tX .B C true E (mB i)):=Ql (pe_var hN hv hd hcd) fun σ H Q ⟨F,ρ,τ,fp,I,r⟩=>by
 unfold mB at r
 cases es:ρ[i]? with
 |none=>rw[es] at r;exact r.elim
 |some s=>
  rw[es] at r
  obtain⟨y,f0,g0,rest,ey,s1,pm,_,_,_⟩:=I.cut es
  cases s1 with
  |non=>exact r.elim
  |frz h=>exact⟨_,ey,r F H fp _ I .refl (h.tj I)⟩
  |own h=>exact⟨_,ey,r F H fp _ I .refl (h.r (QgC I.ap) fun a ha=>JB (pm.mem_iff.mpr (z15 _ ha)))⟩
  |par h=>exact⟨_,ey,r F H fp _ I .refl (h.r (QgC I.ap) fun a ha=>JB (pm.mem_iff.mpr (z04 _ (z15 _ ha))))⟩
def mV (i:Nat):ME:=fun ρ=>match ρ[i]? with
 |some (some (.frz d))=>.ok (d,ρ)
 |some (some (.own d))=>.ok (d,ρ.set i (some (.frz d)))
 |_=>.no
theorem Ja {α:Type}{l:List α}{i:Nat}{x:α}(h:l[i]? = some x):l.set i x=l:=by
 apply zj2
 intro j
 by_cases e:i=j
 ·subst e
  rw[z88 (z28.mp h).1,h]
 ·rw[z57 e]
theorem SI.QkT {F H:Hp}{σ:L2.St}{ρ:Rho}{τ:List (V×D)}{fp:List Addr}{i:Nat}{d:D}(I:SI C F H σ ρ τ fp)(es:ρ[i]? = some (some (.own d))) :
  ∃F' fp' v,σ[i]? = some (some v)/\SI C F' H σ (ρ.set i (some (.frz d))) τ fp'/\R C.K F' v d/\Same F F'/\jn F' H fp'=jn F H fp:=by
 obtain⟨y,f0,g0,rest,ey,s1,pm,w0,w1,cl⟩:=I.cut es
 cases s1 with
 | @own v _ _ h=>
  have nd:=pm.nodup_iff.mp I.nd
  have ap:∀a∈f0,F a=none:=fun a ha=>I.ap a (pm.mem_iff.mpr (z15 _ ha))
  have dis:∀a∈rest,a∉f0:=fun a ha hf=>(z17.mp nd).2.2 a hf a ha rfl
  have sf:Same F (TL.jn F H f0):=QgC ap
  have rr:R C.K (TL.jn F H f0) v d:=h.r sf fun a ha=>JB ha
  have q:=cl (F':=TL.jn F H f0) (H':=H) (x':=some v) (s':=some (.frz d)) (f0':=[]) (g0':=[]) sf (Yd I.fh) (fun _ _=>rfl) (fun _ z=>z) (fun _ _ _ _ z=>z) (fun b o e=>by
   by_cases hb:b∈f0
   ·exact .inr (.inl (w0 b hb))
   ·rw[QG hb] at e;exact .inl e) (.frz rr) (z17.mp nd).2.1 (fun a ha=>(QG (dis a ha)).trans (I.ap a (pm.mem_iff.mpr (z04 _ ha)))) @5 @5 (fun v' hv=>by
    obtain⟨_,d',z⟩:=I.pr _ _ hv
    rw[es] at z;cases z)
  rw[Ja ey] at q
  refine⟨_,_,v,ey,q,rr,sf,?_⟩
  funext b
  show TL.jn (TL.jn F H f0) H rest b=TL.jn F H fp b
  unfold TL.jn
  by_cases hb:b∈rest
  ·rw[if_pos hb,if_pos (pm.mem_iff.mpr (z04 _ hb))]
  ·rw[if_neg hb]
   by_cases hf:b∈f0
   ·rw[if_pos hf,if_pos (pm.mem_iff.mpr (z15 _ hf))]
   ·rw[if_neg hf,if_neg fun z=>(z14.mp (pm.mem_iff.mp z)).elim hf hb]
theorem QmT {i:Nat}{x:Str}{pos:Pos}(hN:X.N[i]? = some x)(hv:Vis X.env.scope x)(hd:@6=false:=by decide)(hcd:(x == ("__classdict__" : Str))=false:=by decide):PE X (.Name x pos) (tX .V C true E (mV i)):=Ql (pe_var hN hv hd hcd) fun σ H Q ⟨F,ρ,τ,fp,I,r⟩=>by
 unfold mV at r
 cases es:ρ[i]? with
 |none=>rw[es] at r;exact r.elim
 |some s=>
  rw[es] at r
  cases s with
  |none=>exact r.elim
  |some s=>
   cases s with
   |frz d=>
    obtain⟨y,f0,g0,rest,ey,s1,_⟩:=I.cut es
    cases s1 with
    |frz h=>exact⟨_,ey,r F H fp _ I .refl h⟩
   |own d=>
    obtain⟨F',fp',v,ey,J,rr,sf,je⟩:=I.QkT es
    exact⟨v,ey,r F' H fp' v J ⟨sf,fun _=>by rw[je];exact Same.refl _⟩ rr⟩
   |par d=>exact r.elim
def mO (i:Nat):ME:=fun ρ=>match ρ[i]? with
 |some (some (.own d))=>.ok (d,ρ.set i none)
 |_=>.no
theorem QmU {i:Nat}{x:Str}{pos:Pos}(hN:X.N[i]? = some x)(hv:Vis X.env.scope x)(hd:@6=false:=by decide)(hcd:(x == ("__classdict__" : Str))=false:=by decide):PE X (.Name x pos) (tX .O C true E (mO i)):=Ql (pe_var hN hv hd hcd) fun σ H Q ⟨F,ρ,τ,fp,I,r⟩=>by
 unfold mO at r
 cases es:ρ[i]? with
 |none=>rw[es] at r;exact r.elim
 |some s=>
  rw[es] at r
  obtain⟨y,f0,g0,rest,ey,s1,pm,w0,w1,cl⟩:=I.cut es
  cases s1 with
  |non=>exact r.elim
  |frz h=>exact r.elim
  |par h=>exact r.elim
  | @own v d f h=>
   have nd:=pm.nodup_iff.mp I.nd
   have q:=cl (F':=F) (H':=H) (x':=some v) (s':=none) (f0':=[]) (g0':=[]) (Same.refl _) I.fh (fun _ _=>rfl) (fun _ z=>z) (fun _ _ _ _ z=>z) (fun b o e=>.inl e) .non (z17.mp nd).2.1 (fun a ha=>I.ap a (pm.mem_iff.mpr (z04 _ ha))) @5 @5 (fun v' hv=>by
    obtain⟨_,d',z⟩:=I.pr _ _ hv
    rw[es] at z;cases z)
   rw[Ja ey] at q
   have q2:=q.push h w0 (fun a ha=>I.ap a (pm.mem_iff.mpr (z15 _ ha))) nd
   refine⟨v,ey,r F H _ v q2 ⟨Same.refl _,fun _=>?_⟩ z50⟩
   have e:TL.jn F H fp=TL.jn F H (f0++([]++([]++rest))):=QkS pm
   rw[e]
   exact Same.refl _
theorem Qaq (h:PE X e (tX .O C p E m)):PE X e (tX .V C p E m):=Ql h fun σ H Q ⟨F,ρ,τ,fp,I,r⟩=>
 ⟨F,ρ,τ,fp,I,r.mono fun a z F' H' fp' v I' n f=>by
  obtain⟨F2,rest,J,sf,rr,je⟩:=SI.freeze (show SI C F' H' σ a.2 ((v,a.1)::τ) fp' from I')
  exact z F2 H' rest v J ⟨n.f.trans sf,fun hp=>by rw[je];exact n.g hp⟩ rr⟩
def mI (m:ME):ME:=fun ρ=>(m ρ).bind fun r=>if r.1.imm=true then .ok r else .no
theorem Q7 (h:PE X e (tX .V C p E m)):PE X e (tX .O C p E (mI m)):=Ql h fun σ H Q ⟨F,ρ,τ,fp,I,r⟩=>
 ⟨F,ρ,τ,fp,I,r.split.mono fun a z F' H' fp' v I' n f=>by
  by_cases hi:a.1.imm=true
  ·rw[if_pos hi] at z
   have J:=SI.push (τ:=τ) I' (R.o (H:=H') f hi) @5 @5 (by simpa using I'.nd)
   exact z F' H' fp' v J n z50
  ·rw[if_neg hi] at z
   exact z.elim⟩
def OpD (K:z01)(r:R2)(g:D->D->Option D):Prop:=∀H v u d e res,R K H v d->R K H u e->g d e=some res->∃w,res.sc=some w/\∀Q:VK,Q w H->r v u H Q
def mOp (g:D->D->Option D)(ma mb:ME):ME:=fun ρ=>(ma ρ).bind fun r1=>(mb r1.2).bind fun r2=>Rs.of ((g r1.1 r2.1).map fun d=>(d,r2.2))
def Kd.on:Kd->Bool->Bool
 |.V,_=>true
 |.B,p=>p
 |.O,_=>false
 |.S _,_=>false
theorem Kd.stay {F H F1 H1:Hp}{σ:L2.St}{ρ:Rho}{τ':List (L2.V×D)}{fp fp1:List Addr}{v:L2.V}{d:D}{q:Bool}(ok:k.on q=true)(h:k.fc C F H fp σ v d)(n:Nx q F H fp F1 H1 fp1)(I:SI C F1 H1 σ ρ τ' fp1):R C.K (TL.jn F1 H1 fp1) v d:=by
 cases k with
 |V=>exact(R.same n.f h).tj I
 |B=>exact R.same (n.g ok) h
 |O=>cases ok
 |S i=>cases ok
theorem Kd.JH {q:Bool}(ok:k.on q=true)(v:L2.V)(d:D)(τ:List (L2.V×D)):k.tk v d τ=τ:=by
 cases k with
 |V=>rfl
 |B=>rfl
 |O=>cases ok
 |S i=>cases ok
theorem Qhc {r:R2}{g:D->D->Option D}(hg:OpD C.K r g)(ok:ka.on pb=true)(ok2:kb.on true=true){σ:L2.St}{H:Hp}{Q:VK}(h:tX .V C (pa && pb) E (mOp g ma mb) σ H Q):tOp r (tX ka C pa E ma) (tX kb C pb E mb) σ H Q:=by
 obtain⟨F,ρ,τ,fp,I,h⟩:=h
 refine⟨F,ρ,τ,fp,I,h.split.mono fun r1 h1 F1 H1 fp1 v1 I1 n1 f1=>?_⟩
 rw[Kd.JH ok] at I1
 refine⟨F1,r1.2,τ,fp1,I1,h1.split.mono fun r2 h2 F2 H2 fp2 v2 I2 n2 f2=>?_⟩
 rw[Kd.JH ok2] at I2
 obtain⟨z,ez,h3⟩:=h2.of
 obtain⟨res,eg,rfl⟩:=z03.mp ez
 obtain⟨w,ew,hw⟩:=hg H2 v1 v2 _ _ _ (R.top I2 (Kd.stay ok f1 n2 I2)) (R.top I2 (Kd.stay ok2 f2 .refl I2)) eg
 exact hw _ (h3 F2 H2 fp2 w I2 (n1.trans n2) (.sc ew))
theorem JG {op:Operator}{r:R2}{g:D->D->Option D}(ho:OpR X (binaryOp op) r)(hg:OpD C.K r g)(ha:PE X a (tX ka C pa E ma))(hb:PE X b (tX kb C pb E mb))(ok:ka.on pb=true:=by rfl)(ok2:kb.on true=true:=by rfl):PE X (.BinOp a op b pos) (tX .V C (pa && pb) E (mOp g ma mb)):=
 Ql (pe_op ho ha hb) fun _ _ _ h=>Qhc hg ok ok2 h
theorem Qjd {op:CmpOp}{r:R2}{g:D->D->Option D}(ho:OpR X (compareOp op) r)(hg:OpD C.K r g)(ha:PE X a (tX ka C pa E ma))(hb:PE X b (tX kb C pb E mb))(hm:behindInMarks op b=false)(ok:ka.on pb=true:=by rfl)(ok2:kb.on true=true:=by rfl):PE X (.Compare a [op] [b] pos) (tX .V C (pa && pb) E (mOp g ma mb)):=
 Ql (pe_cmpR ho ha hb hm) fun _ _ _ h=>Qhc hg ok ok2 h
noncomputable def asB:D->Option Bool
 |.bl b=>some b
 |_=>none
def Qb9 (m:ME):MT:=fun ρ=>(m ρ).bind fun r=>Rs.of ((asB r.1).map fun b=>(b,r.2))
theorem QbX (ok:k.on true=true){σ:L2.St}{H:Hp}{Q:Bool->Hp->Prop}(h:tT C p E (Qb9 m) σ H Q):tTest (tX k C p E m) σ H Q:=by
 obtain⟨F,ρ,τ,fp,I,h⟩:=h
 refine⟨F,ρ,τ,fp,I,h.split.mono fun r h F1 H1 fp1 v1 I1 n1 f1=>?_⟩
 rw[Kd.JH ok] at I1
 obtain⟨z,ez,h3⟩:=h.of
 obtain⟨b,eb,rfl⟩:=z03.mp ez
 have e:r.1=.bl b:=by
  cases q:r.1<;>rw[q] at eb<;>cases eb
  rfl
 have rr:=Kd.stay ok f1 .refl I1
 rw[e] at rr
 exact⟨b,rr.Qu rfl,h3 F1 H1 fp1 I1 n1⟩
theorem Qo {op:CmpOp}{r:R2}{g:D->D->Option D}(ho:OpR X (compareOp op) r)(hg:OpD C.K r g)(ha:PE X a (tX ka C pa E ma))(hb:PE X b (tX kb C pb E mb))(hm:behindInMarks op b=false)(ok:ka.on pb=true:=by rfl)(ok2:kb.on true=true:=by rfl):PT X (.Compare a [op] [b] pos) (tT C (pa && pb) E (Qb9 (mOp g ma mb))):=
 Qb7 (pt_cmpR ho ha hb hm) fun σ H Q h=>by
  have q:=QbX (k:=.V) rfl h
  exact Qhc hg ok ok2 q
theorem Q5 (h:PE X e (tX k C p E m))(ok:k.on true=true:=by rfl)(he:∀whole,isTrue e X.env whole=(do let v ← whole;standAt e.pos;holding [v] (truthy v)):=by intro _;rfl):PT X e (tT C p E (Qb9 m)):=
 Qb7 (pt_val h he) fun _ _ _ h=>QbX ok h
def Qpc (m:MT):MT:=fun ρ=>(m ρ).bind fun r=>.ok (!r.1,r.2)
def QqQ (m u:MT):MT:=fun ρ=>(m ρ).bind fun r=>if r.1=true then u r.2 else .ok (false,r.2)
def mOr (m u:MT):MT:=fun ρ=>(m ρ).bind fun r=>if r.1=true then .ok (true,r.2) else u r.2
variable {mt mu:MT}{rest:List Expr}
theorem Jg (h:PT X e (tT C p E mt)):PT X (.UnaryOp .Not e pos) (tT C p E (Qpc mt)):=Qb7 (pt_not h) fun σ H Q ⟨F,ρ,τ,fp,I,r⟩=>
 ⟨F,ρ,τ,fp,I,r.split⟩
theorem YK (ha:PT X a (tT C pa E mt))(hb:PW X (.BoolOp .And (b::rest) pos) (tT C pb E mu)):PW X (.BoolOp .And (a::b::rest) pos) (tT C (pa && pb) E (QqQ mt mu)):=fun whole pins s σ H Q J h=>
 pw_and ha hb whole pins s σ H Q J (by
  obtain⟨F,ρ,τ,fp,I,r⟩:=h
  refine⟨F,ρ,τ,fp,I,r.split.mono fun r1 h1 F1 H1 fp1 I1 n1=>?_⟩
  by_cases c:r1.1=true
  ·rw[if_pos c] at h1 ⊢
   exact⟨F1,r1.2,τ,fp1,I1,h1.mono fun r2 h2 F2 H2 fp2 I2 n2=>h2 F2 H2 fp2 I2 (n1.trans n2)⟩
  ·rw[if_neg c] at h1 ⊢
   exact h1 F1 H1 fp1 I1 (n1.weak fun z=>(z58.mp z).1))
theorem VL (ha:PT X a (tT C pa E mt))(hb:PW X (.BoolOp .Or (b::rest) pos) (tT C pb E mu)):PW X (.BoolOp .Or (a::b::rest) pos) (tT C (pa && pb) E (mOr mt mu)):=fun whole pins s σ H Q J h=>
 pw_or ha hb whole pins s σ H Q J (by
  obtain⟨F,ρ,τ,fp,I,r⟩:=h
  refine⟨F,ρ,τ,fp,I,r.split.mono fun r1 h1 F1 H1 fp1 I1 n1=>?_⟩
  by_cases c:r1.1=true
  ·rw[if_pos c] at h1 ⊢
   exact h1 F1 H1 fp1 I1 (n1.weak fun z=>(z58.mp z).1)
  ·rw[if_neg c] at h1 ⊢
   exact⟨F1,r1.2,τ,fp1,I1,h1.mono fun r2 h2 F2 H2 fp2 I2 n2=>h2 F2 H2 fp2 I2 (n1.trans n2)⟩)
theorem VI {op:BoolOp}(ha:PT X a (tT C p E mt)):PW X (.BoolOp op [a] pos) (tT C p E mt):=by
 cases op with
 |And=>exact pw_and1 ha
 |Or=>exact pw_or1 ha
def QmV (ma mb:ME):ME:=fun ρ=>(ma ρ).bind fun r=>(Rs.of (asB r.1)).bind fun c=>if c=true then mb r.2 else .ok (.bl false,r.2)
def QmW (m:ME):ME:=fun ρ=>(m ρ).bind fun r=>Rs.of ((asB r.1).map fun b=>(.bl (!b),r.2))
theorem Qhd {d:D}{b:Bool}(h:asB d=some b):d=.bl b:=by
 cases d<;>cases h
 rfl
theorem Qhe {op:BoolOp}(h:PE X a (tX k C p E m)):PE X (.BoolOp op [a] pos) (tX k C p E m):=pe_one h
theorem Qhf (ha:PE X a (tX ka C pa E ma))(hb:PE X (.BoolOp .And (b::rest) pos) (tX .V C pb E mb))(ok:ka.on true=true:=by rfl):PE X (.BoolOp .And (a::b::rest) pos) (tX .V C (pa && pb) E (QmV ma mb)):=Ql (pe_and ha hb) fun σ H Q ⟨F,ρ,τ,fp,I,r⟩=>by
 refine⟨F,ρ,τ,fp,I,r.split.mono fun r1 h1 F1 H1 fp1 v1 I1 n1 f1=>?_⟩
 rw[Kd.JH ok] at I1
 obtain⟨c,ec,h2⟩:=h1.split.of
 have rr:=Kd.stay ok f1 .refl I1
 rw[Qhd ec] at rr
 refine⟨c,rr.Qu rfl,?_⟩
 by_cases hc:c=true
 ·rw[if_pos hc] at h2 ⊢
  exact⟨F1,r1.2,τ,fp1,I1,h2.mono fun r2 h3 F2 H2 fp2 v2 I2 n2 f2=>h3 F2 H2 fp2 v2 I2 (n1.trans n2) f2⟩
 ·rw[if_neg hc] at h2 ⊢
  exact h2 F1 H1 fp1 _ I1 (n1.weak fun z=>(z58.mp z).1) (.sc rfl)
theorem QpE (ha:PE X a (tX ka C pa E ma))(ok:ka.on true=true:=by rfl):PE X (.UnaryOp .Not a pos) (tX .V C pa E (QmW ma)):=Ql (pe_not ha) fun σ H Q ⟨F,ρ,τ,fp,I,r⟩=>by
 refine⟨F,ρ,τ,fp,I,r.split.mono fun r1 h1 F1 H1 fp1 v1 I1 n1 f1=>?_⟩
 rw[Kd.JH ok] at I1
 obtain⟨z,ez,h3⟩:=h1.of
 obtain⟨b,eb,rfl⟩:=z03.mp ez
 have rr:=Kd.stay ok f1 .refl I1
 rw[Qhd eb] at rr
 exact⟨b,rr.Qu rfl,h3 F1 H1 fp1 _ I1 n1 (.sc rfl)⟩
def Qrp (mt:MT)(ma mb:ME):ME:=fun ρ=>(mt ρ).bind fun r=>if r.1=true then ma r.2 else mb r.2
end
section
variable {X:Cx}{C:Cn}{E:XE}{p pa pb:Bool}{e a b:Expr}{es:List Expr}{m ma mb:ME}{mr:MA}{pos:Pos}{k ka kb:Kd}{ks:List Kd}
def mS (i:Nat):ME:=fun ρ=>match ρ[i]? with
 |some (some (.own d))=>.ok (d,ρ)
 |some (some (.par d))=>.ok (d,ρ)
 |_=>.no
theorem QmX {i:Nat}{x:Str}{pos:Pos}(hN:X.N[i]? = some x)(hv:Vis X.env.scope x)(hd:@6=false:=by decide)(hcd:(x == ("__classdict__" : Str))=false:=by decide):PE X (.Name x pos) (tX (.S i) C true E (mS i)):=Ql (pe_var hN hv hd hcd) fun σ H Q ⟨F,ρ,τ,fp,I,r⟩=>by
 unfold mS at r
 cases es:ρ[i]? with
 |none=>rw[es] at r;exact r.elim
 |some s=>
  rw[es] at r
  obtain⟨y,f0,g0,rest,ey,s1,_⟩:=I.cut es
  cases s1 with
  |non=>exact r.elim
  |frz h=>exact r.elim
  |own h=>exact⟨_,ey,r F H fp _ I .refl ey⟩
  |par h=>exact⟨_,ey,r F H fp _ I .refl ey⟩
def Kd.ona:Kd->Bool->Bool
 |.B,p=>p
 |_,_=>true
def QcT:MA:=fun ρ=>.ok ([],ρ)
def Q2 (m:ME)(mr:MA):MA:=fun ρ=>(m ρ).bind fun r=>(mr r.2).bind fun q=>.ok (r.1::q.1,q.2)
theorem Qb:PA X [] (tA [] C true E QcT):=Qhb pa_nil fun σ H Q ⟨F,ρ,τ,fp,I,r⟩=>r F H fp [] I .refl .nil
theorem Kd.QmY {F H F1 H1:Hp}{fp fp1:List Addr}{σ:L2.St}{v:L2.V}{d:D}{q:Bool}(ok:k.ona q=true)(h:k.fc C F H fp σ v d)(n:Nx q F H fp F1 H1 fp1):k.fc C F1 H1 fp1 σ v d:=by
 cases k with
 |V=>exact R.same n.f h
 |B=>exact R.same (n.g ok) h
 |O=>exact z50
 |S i=>exact h
theorem Qa (ha:PE X e (tX k C pa E m))(hr:PA X es (tA ks C pb E mr))(ok:k.ona pb=true:=by rfl)(hs:starEach (e::es) X.env=@15::starEach es X.env:=by rfl):PA X (e::es) (tA (k::ks) C (pa && pb) E (Q2 m mr)):=Qhb (pa_cons ha hr hs) fun σ H Q ⟨F,ρ,τ,fp,I,r⟩=>
 ⟨F,ρ,τ,fp,I,r.split.mono fun r1 h1 F1 H1 fp1 v1 I1 n1 f1=>⟨F1,r1.2,_,fp1,I1,h1.split.mono fun r2 h2 F2 H2 fp2 vs I2 n2 f2=>
  h2 F2 H2 fp2 (v1::vs) I2 (n1.trans n2) (.cons (Kd.QmY ok f1 n2) f2)⟩⟩
def rdL:List Kd->Bool
 | []=>true
 |.V::r=>rdL r
 |.B::r=>rdL r
 |_=>false
def knL:List Kd->Bool
 | []=>true
 |.V::r=>knL r
 |_=>false
theorem JD:∀{ks:List Kd} {vs:List L2.V} {ds:List D} {τ:List (L2.V×D)},rdL ks=true->tkL ks vs ds τ=τ
 | [],_,_,_,_=>by unfold tkL;rfl
 |.V::ks,[],_,_,_=>by unfold tkL;rfl
 |.V::ks,_::_,[],_,_=>by unfold tkL;rfl
 |.V::ks,v::vs,d::ds,τ,h=>by unfold tkL;exact JD (ks:=ks) h
 |.B::ks,[],_,_,_=>by unfold tkL;rfl
 |.B::ks,_::_,[],_,_=>by unfold tkL;rfl
 |.B::ks,v::vs,d::ds,τ,h=>by unfold tkL;exact JD (ks:=ks) h
 |.O::ks,_,_,_,h=>by cases h
 |.S i::ks,_,_,_,h=>by cases h
theorem FcL.rd {F H:Hp}{fp:List Addr}{σ:L2.St}{ρ:Rho}{τ:List (L2.V×D)}(I:SI C F H σ ρ τ fp){ks:List Kd}{vs:List L2.V}{ds:List D}(h:FcL C F H fp σ ks vs ds)(q:rdL ks=true):RL C.K (jn F H fp) vs ds:=by
 induction h with
 |nil=>exact .nil
 | @cons k _ _ _ _ _ h r ih=>
  cases k with
  |V=>exact .cons (R.tj I h) (ih q)
  |B=>exact .cons h (ih q)
  |O=>cases q
  |S _=>cases q
theorem FcL.kn {F H:Hp}{fp:List Addr}{σ:L2.St}{ks:List Kd}{vs:List L2.V}{ds:List D}(h:FcL C F H fp σ ks vs ds)(q:knL ks=true):RL C.K F vs ds:=by
 induction h with
 |nil=>exact .nil
 | @cons k _ _ _ _ _ h r ih=>
  cases k with
  |V=>exact .cons h (ih q)
  |B=>cases q
  |O=>cases q
  |S _=>cases q
theorem YL:∀{ks:List Kd},knL ks=true->rdL ks=true
 | [],_=>rfl
 |.V::ks,h=>YL (ks:=ks) h
 |.B::ks,h=>by cases h
 |.O::ks,h=>by cases h
 |.S i::ks,h=>by cases h
def CallD (K:z01)(r:List L2.V->Hp->VK->Prop)(g:List D->Option D):Prop:=∀H vs ds res,RL K H vs ds->g ds=some res->∃w,res.sc=some w/\∀Q:VK,Q w H->r vs H Q
def Qek (g:List D->Option D)(mr:MA):ME:=fun ρ=>(mr ρ).bind fun r=>Rs.of ((g r.1).map fun d=>(d,r.2))
theorem Qj1 {r:List L2.V->Hp->VK->Prop}{g:List D->Option D}(hg:CallD C.K r g)(ok:rdL ks=true){σ:L2.St}{H:Hp}{Q:VK}(h:tX .V C p E (Qek g mr) σ H Q):tCB r (tA ks C p E mr) σ H Q:=by
 obtain⟨F,ρ,τ,fp,I,h⟩:=h
 refine⟨F,ρ,τ,fp,I,h.split.mono fun r1 h1 F1 H1 fp1 vs I1 n1 f1=>?_⟩
 rw[JD ok] at I1
 obtain⟨z,ez,h3⟩:=h1.of
 obtain⟨res,eg,rfl⟩:=z03.mp ez
 obtain⟨w,ew,hw⟩:=hg H1 vs _ _ (RL.same (Yd I1.fh) (f1.rd I1 ok)) eg
 exact hw _ (h3 F1 H1 fp1 w I1 n1 (.sc ew))
theorem Qn {x:Str}{px:Pos}{id:String}{r:List L2.V->Hp->VK->Prop}{g:List D->Option D}(hc:CallR X (.builtin id) r)(hg:CallD C.K r g)(hm:X.mg x=none)(hv:z52 x=some (.builtin id))(ha:PA X (e::es) (tA ks C p E mr))(ok:rdL ks=true:=by rfl)(hgl:Gl X x:=by rfl)(hn:x ≠ "__name__" := by decide)(hdb:@6=false:=by decide)
  (he:starEach (e::es) X.env=@15::starEach es X.env:=by rfl) (hpl:(backTo pos (starEach es X.env)).any (·.1)=false:=by rfl):PE X (.Call (.Name x px) (e::es) [] pos) (tX .V C p E (Qek g mr)):=
 Ql (pe_callB hc hgl hm hv ha hn hdb he hpl) fun _ _ _ h=>Qj1 hg ok h
theorem QfB {x:Str}{px:Pos}{T:String}{r:List L2.V->Hp->VK->Prop}{g:List D->Option D}(hc:CallR X (.type T) r)(hg:CallD C.K r g)(hm:X.mg x=none)(hv:z52 x=some (.type T))(ha:PA X (e::es) (tA ks C p E mr))(ok:rdL ks=true:=by rfl)(hgl:Gl X x:=by rfl)(hn:x ≠ "__name__" := by decide)(hdb:@6=false:=by decide)
  (he:starEach (e::es) X.env=@15::starEach es X.env:=by rfl) (hpl:(backTo pos (starEach es X.env)).any (·.1)=false:=by rfl):PE X (.Call (.Name x px) (e::es) [] pos) (tX .V C p E (Qek g mr)):=
 Ql (pe_callTy hc hgl hm hv ha hn hdb he hpl) fun _ _ _ h=>Qj1 hg ok h
theorem Qca {F H:Hp}{fp:List Addr}{q:Addr}{o:HO}{σ:L2.St}{ρ:Rho}{τ:List (L2.V×D)}(I:SI C F H σ ρ τ fp)(hq:H q=none):Same (jn F H fp) (jn (upd F q o) (upd H q o) fp):=fun b ob e=>by
 by_cases hb:b∈fp
 ·rw[JB hb] at e ⊢;exact Same.upd hq b ob e
 ·rw[QG hb] at e ⊢;exact Same.upd (I.fh.free hq) b ob e
theorem Qcb {F H:Hp}{fp:List Addr}{q:Addr}{o:HO}{σ:L2.St}{ρ:Rho}{τ:List (L2.V×D)}(I:SI C F H σ ρ τ fp)(hq:H q=none):Same (jn F H fp) (jn F (upd H q o) ([q]++fp)):=fun b ob e=>by
 have fq:=I.fh.free hq
 have e':=Yd I.fh b ob e
 have nb:b≠q:=ne_of_none e' hq
 by_cases hb:b∈fp
 ·rw[JB (z04 _ hb),upd_ne nb];exact e'
 ·rw[QG hb] at e
  rw[QG (by simp[hb,nb])];exact e
theorem SI.newList {F H:Hp}{fp:List Addr}{q:Addr}{vs:List L2.V}{ds:List D}{σ:L2.St}{ρ:Rho}{τ:List (L2.V×D)}(I:SI C F H σ ρ τ fp)(hq:H q=none)(r:RL C.K F vs ds)(hi:D.QI ds=true):SI C F (upd H q (.lst vs)) σ ρ ((.ref q,.lst ds)::τ) ([q]++fp):=by
 have J:=I.lay0 (o:=.lst vs) hq
 have nq:q∉fp:=fun z=>by
  obtain⟨o,e,_⟩:=I.mem q z
  rw[hq] at e;cases e
 refine J.push (f:=[q]) (.mt (t:=.lst) (show upd H q (.lst vs) q=some (.lst vs) from upd_same) (RL.o r hi)) (fun a ha=>?_) (fun a ha=>?_) (z17.mpr ⟨by simp,I.nd,fun x hx y hy z=>?_⟩)
 ·rw[z38.mp ha];exact I.dm q hq
 ·rw[z38.mp ha];exact I.fh.free hq
 ·subst z;rw[z38.mp hx] at hy;exact nq hy
def QpF (mr:MA):ME:=fun ρ=>(mr ρ).bind fun r=>if r.1.length<=z18 then .ok (.lst r.1,r.2) else .no
def Qpd (mr:MA):ME:=fun ρ=>(mr ρ).bind fun r=>if r.1.length<=z18 then .ok (.tup r.1,r.2) else .no
def QmZ (mr:MA):ME:=fun ρ=>(mr ρ).bind fun r=>if r.1.length<=z18 then(if D.QI r.1=true then .ok (.lst r.1,r.2) else .no) else .no
theorem Q8 {x1:Nat}(h:PA X es (tA ks C p E mr))(ok:knL ks=true:=by rfl):PE X (.Tuple es x1 pos) (tX .V C p E (Qpd mr)):=Ql (pe_tup h) fun σ H Q ⟨F,ρ,τ,fp,I,h⟩=>by
 refine⟨F,ρ,τ,fp,I,h.split.mono fun r1 h1 F1 H1 fp1 vs I1 n1 f1=>?_⟩
 rw[JD (YL ok)] at I1
 have rl:=f1.kn ok
 by_cases hz:r1.1.length<=z18
 ·rw[if_pos hz] at h1
  refine⟨by rw[rl.length];exact hz,fun q hq=>?_⟩
  have s:=Same.upd (o:=HO.tup vs) (I1.fh.free hq)
  exact h1 _ _ fp1 _ (I1.lay hq) ((n1.trans (q:=true) ⟨s,fun _=>Qca I1 hq⟩).weak fun z=>by simp[z]) (.nd (t:=.tup) upd_same (rl.same s))
 ·rw[if_neg hz] at h1;exact h1.elim
theorem Qhg (h:PA X es (tA ks C p E mr))(ok:knL ks=true:=by rfl):PE X (.List es pos) (tX .V C p E (QpF mr)):=Ql (pe_lst h) fun σ H Q ⟨F,ρ,τ,fp,I,h⟩=>by
 refine⟨F,ρ,τ,fp,I,h.split.mono fun r1 h1 F1 H1 fp1 vs I1 n1 f1=>?_⟩
 rw[JD (YL ok)] at I1
 have rl:=f1.kn ok
 by_cases hz:r1.1.length<=z18
 ·rw[if_pos hz] at h1
  refine⟨by rw[rl.length];exact hz,fun q hq=>?_⟩
  have s:=Same.upd (o:=HO.lst vs) (I1.fh.free hq)
  exact h1 _ _ fp1 _ (I1.lay hq) ((n1.trans (q:=true) ⟨s,fun _=>Qca I1 hq⟩).weak fun z=>by simp[z]) (.nd (t:=.lst) (.inl (.inl upd_same)) (rl.same s))
 ·rw[if_neg hz] at h1;exact h1.elim
theorem Qcc (h:PA X es (tA ks C p E mr))(ok:rdL ks=true:=by rfl):PE X (.List es pos) (tX .O C p E (QmZ mr)):=Ql (pe_lst h) fun σ H Q ⟨F,ρ,τ,fp,I,h⟩=>by
 refine⟨F,ρ,τ,fp,I,h.split.mono fun r1 h1 F1 H1 fp1 vs I1 n1 f1=>?_⟩
 rw[JD ok] at I1
 have rl:=f1.rd I1 ok
 by_cases hz:r1.1.length<=z18
 ·rw[if_pos hz] at h1
  by_cases hi:D.QI r1.1=true
  ·rw[if_pos hi] at h1
   refine⟨by rw[rl.length];exact hz,fun q hq=>?_⟩
   have rl':RL C.K F1 vs r1.1:=by
    have q:=RL.lo (L:=fp1) (fun b hb o e=>by
     rw[JB hb] at e
     obtain⟨o',e',z⟩:=I1.mem b hb
     rw[e] at e';cases e'
     exact z) rl hi
    refine q.same fun b o e=>?_
    by_cases hb:b∈fp1
    ·rw[Qej hb] at e;cases e
    ·rw[Yz hb,QG hb] at e;exact e
   exact h1 _ _ _ _ (I1.newList hq rl' hi) ((n1.trans (q:=true) ⟨Same.refl _,fun _=>Qcb I1 hq⟩).weak fun z=>by simp[z]) z50
  ·rw[if_neg hi] at h1;exact h1.elim
 ·rw[if_neg hz] at h1;exact h1.elim
theorem SI.loL {F H:Hp}{σ:L2.St}{ρ:Rho}{τ:List (L2.V×D)}{fp:List Addr}{vs:List L2.V}{ds:List D}(I:SI C F H σ ρ τ fp)(h:RL C.K (jn F H fp) vs ds)(hd:D.QI ds=true):RL C.K F vs ds:=by
 have q:=RL.lo (L:=fp) (fun b hb o e=>by
  rw[JB hb] at e
  obtain⟨o',e',z⟩:=I.mem b hb
  rw[e] at e';cases e'
  exact z) h hd
 refine q.same fun b o e=>?_
 by_cases hb:b∈fp
 ·rw[Qej hb] at e;cases e
 ·rw[Yz hb,QG hb] at e;exact e
noncomputable def QgE:List D->Option (List D)
 | [.nd .lst ds]=>some ds
 | [.nd .tup ds]=>some ds
 |_=>none
theorem QkU {ds ys:List D}(h:QgE ds=some ys):ds=[.nd .lst ys]\/ds=[.nd .tup ys]:=by
 unfold QgE at h
 split at h
 ·cases h;exact .inl rfl
 ·cases h;exact .inr rfl
 ·cases h
theorem R.inv {K:z01}{F:Hp}{v:L2.V}{t:Tag}{ds:List D}(r:R K F v (.nd t ds)):∃a vs,v=.ref a/\At K F a t vs/\RL K F vs ds:=by
 cases r with
 |sc e=>cases e
 |nd h r=>exact⟨_,_,rfl,h,r⟩
theorem RL.one {K:z01}{F:Hp}{vs:List L2.V}{d:D}(r:RL K F vs [d]):∃v,vs=[v]/\R K F v d:=by
 cases r with
 |cons h t=>cases t;exact⟨_,rfl,h⟩
theorem RL.two {K:z01}{F:Hp}{vs:List L2.V}{d e:D}(r:RL K F vs [d,e]):∃v u,vs=[v,u]/\R K F v d/\R K F u e:=by
 cases r with
 |cons h t=>obtain⟨u,rfl,h'⟩:=t.one;exact⟨_,_,rfl,h,h'⟩
theorem Qel {K:z01}{H:Hp}{vs:List L2.V}{ds ys:List D}(r:RL K H vs ds)(g:QgE ds=some ys):∃q us,vs=[.ref q]/\(At K H q .lst us\/At K H q .tup us)/\RL K H us ys:=by
 rcases QkU g with rfl|rfl
 ·obtain⟨v,rfl,h⟩:=r.one
  obtain⟨a,us,rfl,h1,h2⟩:=h.inv
  exact⟨a,us,rfl,.inl h1,h2⟩
 ·obtain⟨v,rfl,h⟩:=r.one
  obtain⟨a,us,rfl,h1,h2⟩:=h.inv
  exact⟨a,us,rfl,.inr h1,h2⟩
theorem boot_list:z52 "list" = some (.type "list"):=by decide +kernel
theorem boot_tuple:z52 "tuple" = some (.type "tuple"):=by decide +kernel
def QfC (mr:MA):ME:=fun ρ=>(mr ρ).bind fun r=>(Rs.of (QgE r.1)).bind fun ds=>if D.QI ds=true then .ok (.lst ds,r.2) else .no
theorem QaZ {x:Str}{px:Pos}(hm:X.mg "list" = none)(hK:C.K=X.K)(ha:PA X [e] (tA ks C p E mr))(ok:rdL ks=true:=by rfl)(hgl:Gl X "list" := by rfl)(he:starEach [e] X.env=@15::starEach [] X.env:=by rfl)(hpl:(backTo pos (starEach [] X.env)).any (·.1)=false:=by rfl) :
  PE X (.Call (.Name "list" px) [e] [] pos) (tX .O C p E (QfC mr)):=Ql (pe_callTy call_list_of hgl hm boot_list ha @3 @3 he hpl) fun σ H Q ⟨F,ρ,τ,fp,I,h⟩=>by
 refine⟨F,ρ,τ,fp,I,h.split.mono fun r1 h1 F1 H1 fp1 vs I1 n1 f1=>?_⟩
 rw[JD ok] at I1
 obtain⟨ds,eg,h2⟩:=h1.split.of
 by_cases hi:D.QI ds=true
 ·rw[if_pos hi] at h2
  obtain⟨q,us,rfl,hs,r⟩:=Qel (f1.rd I1 ok) eg
  have hs':SqL X.K H1 q us\/SqT X.K H1 q us:=by
   rw[← hK]
   exact hs.imp (fun z=>(At.same z (Yd I1.fh)).sql) fun z=>(At.same z (Yd I1.fh)).sqt
  refine⟨q,us,rfl,hs',fun l hl=>?_⟩
  exact h2 _ _ _ _ (I1.newList hl (I1.loL r hi) hi) ((n1.trans (q:=true) ⟨Same.refl _,fun _=>Qcb I1 hl⟩).weak fun z=>by simp[z]) z50
 ·rw[if_neg hi] at h2;exact h2.elim
def Qhh (mr:MA):ME:=fun ρ=>(mr ρ).bind fun r=>(Rs.of (QgE r.1)).bind fun ds=>.ok (.tup ds,r.2)
theorem Qau {px:Pos}(hm:X.mg "tuple" = none)(hK:C.K=X.K)(ha:PA X [e] (tA ks C p E mr))(ok:knL ks=true:=by rfl)(hgl:Gl X "tuple" := by rfl)(he:starEach [e] X.env=@15::starEach [] X.env:=by rfl)(hpl:(backTo pos (starEach [] X.env)).any (·.1)=false:=by rfl) :
  PE X (.Call (.Name "tuple" px) [e] [] pos) (tX .V C p E (Qhh mr)):=Ql (pe_callTy call_tuple_of hgl hm boot_tuple ha @3 @3 he hpl) fun σ H Q ⟨F,ρ,τ,fp,I,h⟩=>by
 refine⟨F,ρ,τ,fp,I,h.split.mono fun r1 h1 F1 H1 fp1 vs I1 n1 f1=>?_⟩
 rw[JD (YL ok)] at I1
 obtain⟨ds,eg,h2⟩:=h1.split.of
 obtain⟨q,us,rfl,hs,r⟩:=Qel (f1.kn ok) eg
 refine⟨q,us,rfl,?_⟩
 rcases hs with hs|hs
 ·refine .inl ⟨by rw[← hK];exact(At.same hs I1.fh).sql,fun l hl=>?_⟩
  have s:=Same.upd (o:=HO.tup us) (I1.fh.free hl)
  exact h2 _ _ fp1 _ (I1.lay hl) ((n1.trans (q:=true) ⟨s,fun _=>Qca I1 hl⟩).weak fun z=>by simp[z]) (.nd (t:=.tup) upd_same (r.same s))
 ·exact .inr ⟨by rw[← hK];exact(At.same hs I1.fh).sqt,h2 F1 H1 fp1 _ I1 n1 (.nd (t:=.tup) hs r)⟩
def gIx:D->D->Option D
 |.nd .lst ds,.int i=>atI ds i
 |.nd .tup ds,.int i=>atI ds i
 |_,_=>none
theorem Qj2 {K:z01}{F:Hp}{vs:List L2.V}{ds:List D}{i:Int}{d:D}(r:RL K F vs ds)(h:atI ds i=some d):∃v,atI vs i=some v/\R K F v d:=by
 unfold atI at h ⊢
 rw[r.length]
 cases q:ixN ds.length i with
 |none=>rw[q] at h;cases h
 |some j=>
  rw[q] at h
  obtain⟨v,e,rv⟩:=r.get (i:=j) h
  exact⟨v,e,rv⟩
theorem Qm0 {d e x:D}(h:gIx d e=some x):∃ds i,(d=.nd .lst ds\/d=.nd .tup ds)/\e=.int i/\atI ds i=some x:=by
 unfold gIx at h
 split at h
 ·exact⟨_,_,.inl rfl,rfl,h⟩
 ·exact⟨_,_,.inr rfl,rfl,h⟩
 ·cases h
theorem Qm1 {K:z01}{F H:Hp}{v u:L2.V}{d e x:D}(hs:Same F H)(r:R K F v d)(q:R K H u e)(g:gIx d e=some x):∃w,R K F w x/\∀Q:VK,Q w H->rIx K v u H Q:=by
 obtain⟨ds,i,hd,rfl,ha⟩:=Qm0 g
 obtain rfl:u=.int i:=q.Qu rfl
 rcases hd with rfl|rfl
 ·obtain⟨a,vs,rfl,h1,h2⟩:=r.inv
  obtain⟨w,ew,rw'⟩:=Qj2 h2 ha
  exact⟨w,rw',fun Q hq=>.inl ⟨a,vs,i,w,rfl,rfl,(At.same h1 hs).sql,ew,hq⟩⟩
 ·obtain⟨a,vs,rfl,h1,h2⟩:=r.inv
  obtain⟨w,ew,rw'⟩:=Qj2 h2 ha
  exact⟨w,rw',fun Q hq=>.inr (.inl ⟨a,vs,i,w,rfl,rfl,(At.same h1 hs).sqt,ew,hq⟩)⟩
theorem V6 (hK:C.K=X.K)(ha:PE X a (tX ka C pa E ma))(hb:PE X b (tX kb C pb E mb))(ok:ka.on pb=true:=by rfl)(ok2:kb.on true=true:=by rfl)(hs:PlainIx b:=by intro _ _;rfl):PE X (.Subscript a b pos) (tX .B C (pa && pb) E (mOp gIx ma mb)):=Ql (pe_ix ix_seq ha hb hs) fun σ H Q ⟨F,ρ,τ,fp,I,h⟩=>by
 refine⟨F,ρ,τ,fp,I,h.split.mono fun r1 h1 F1 H1 fp1 v1 I1 n1 f1=>?_⟩
 rw[Kd.JH ok] at I1
 refine⟨F1,r1.2,τ,fp1,I1,h1.split.mono fun r2 h2 F2 H2 fp2 v2 I2 n2 f2=>?_⟩
 rw[Kd.JH ok2] at I2
 obtain⟨z,ez,h3⟩:=h2.of
 obtain⟨res,eg,rfl⟩:=z03.mp ez
 obtain⟨w,rw',hw⟩:=Qm1 (Yd I2.fh) (Kd.stay ok f1 n2 I2) (R.top I2 (Kd.stay ok2 f2 .refl I2)) eg
 rw[← hK]
 exact hw _ (h3 F2 H2 fp2 w I2 (n1.trans n2) rw')
theorem Qw (hK:C.K=X.K)(ha:PE X a (tX .V C pa E ma))(hb:PE X b (tX kb C pb E mb))(ok2:kb.on true=true:=by rfl)(hs:PlainIx b:=by intro _ _;rfl):PE X (.Subscript a b pos) (tX .V C (pa && pb) E (mOp gIx ma mb)):=Ql (pe_ix ix_seq ha hb hs) fun σ H Q ⟨F,ρ,τ,fp,I,h⟩=>by
 refine⟨F,ρ,τ,fp,I,h.split.mono fun r1 h1 F1 H1 fp1 v1 I1 n1 f1=>?_⟩
 refine⟨F1,r1.2,τ,fp1,I1,h1.split.mono fun r2 h2 F2 H2 fp2 v2 I2 n2 f2=>?_⟩
 rw[Kd.JH ok2] at I2
 obtain⟨z,ez,h3⟩:=h2.of
 obtain⟨res,eg,rfl⟩:=z03.mp ez
 obtain⟨w,rw',hw⟩:=Qm1 I2.fh (R.same n2.f f1) (R.top I2 (Kd.stay ok2 f2 .refl I2)) eg
 rw[← hK]
 exact hw _ (h3 F2 H2 fp2 w I2 (n1.trans n2) rw')
end
inductive Fl where
 |nx|rt (d:D)|bk|ct
abbrev MS:=Rho->Rs (Fl×Rho)
def Qem (C:Cn)(E:XE){α:Type}(r:Rs α)(k:α->Prop):Prop:=match r with
 |.ok a=>k a
 |.ex c ρ=>∀F H σ fp,SI C F H σ ρ [] fp->E σ (.ref c) none H
 |.no=>False
section
variable {C:Cn}{E:XE}{σ:L2.St}{α β:Type}
theorem Qem.run {r:Rs α}{k:α->Prop}(h:Qem C E r k):Run C E σ r k:=by
 cases r with
 |ok a=>exact h
 |ex c ρ=>exact fun F H fp I=>h F H σ fp I
 |no=>exact h
theorem Qem.mono {r:Rs α}{k k':α->Prop}(h:Qem C E r k)(f:∀a,k a->k' a):Qem C E r k':=by
 cases r with
 |ok a=>exact f a h
 |ex c ρ=>exact h
 |no=>exact h
theorem Qem.split {r:Rs α}{f:α->Rs β}{k:β->Prop}(h:Qem C E (r.bind f) k):Qem C E r fun a=>Qem C E (f a) k:=by
 cases r with
 |ok a=>exact h
 |ex c ρ=>exact h
 |no=>exact h
theorem Qem.of {o:Option α}{k:α->Prop}(h:Qem C E (Rs.of o) k):∃a,o=some a/\k a:=by
 cases o with
 |none=>exact h.elim
 |some a=>exact⟨a,rfl,h⟩
end
def Out (rk:Kd)(C:Cn)(D:Ends)(F0:Hp)(f:Fl)(ρ:Rho):Prop:=match f with
 |.nx=>∀F H σ fp,Same F0 F->SI C F H σ ρ [] fp->D.nx σ H
 |.rt d=>∀F H σ fp v,Same F0 F->SI C F H σ ρ (rk.tk v d []) fp->rk.fc C F H fp σ v d->D.rt v H
 |.bk=>∀F H σ fp,Same F0 F->SI C F H σ ρ [] fp->D.bk σ H
 |.ct=>∀F H σ fp,Same F0 F->SI C F H σ ρ [] fp->D.ct σ H
theorem Out.mono {rk:Kd}{C:Cn}{D:Ends}{F0 F1:Hp}{f:Fl}{ρ:Rho}(s:Same F0 F1)(h:Out rk C D F0 f ρ):Out rk C D F1 f ρ:=by
 cases f with
 |nx=>exact fun F H σ fp z=>h F H σ fp (s.trans z)
 |rt d=>exact fun F H σ fp v z=>h F H σ fp v (s.trans z)
 |bk=>exact fun F H σ fp z=>h F H σ fp (s.trans z)
 |ct=>exact fun F H σ fp z=>h F H σ fp (s.trans z)
def tS (rk:Kd)(C:Cn)(E:XE)(m:MS):TS:=fun D σ H=>∃F ρ fp,SI C F H σ ρ [] fp/\Qem C E (m ρ) fun r=>Out rk C D F r.1 r.2
section
variable {X:Cx}{C:Cn}{E:XE}{p:Bool}{e a b:Expr}{es:List Expr}{m mb:ME}{mr:MA}{mt:MT}{ms mu:MS}{pos:Pos}{k rk:Kd}{ks:List Kd}{st:Stmt}{rest:List Stmt}
def QkV:MS:=fun ρ=>.ok (.nx,ρ)
def Qm2 (m u:MS):MS:=fun ρ=>(m ρ).bind fun r=>match r.1 with
 |.nx=>u r.2
 |f=>.ok (f,r.2)
theorem QC:PSs X [] (tS rk C E QkV):=QbW pss_nil fun D σ H ⟨F,ρ,fp,I,h⟩=>h F H σ fp (Same.refl F) I
theorem Qe (h1:PS X st (tS rk C E ms))(h2:PSs X rest (tS rk C E mu)):PSs X (st::rest) (tS rk C E (Qm2 ms mu)):=QbW (pss_cons h1 h2) fun D σ H ⟨F,ρ,fp,I,h⟩=>by
 refine⟨F,ρ,fp,I,h.split.mono fun r hr=>?_⟩
 obtain⟨f,ρ1⟩:=r
 cases f with
 |nx=>exact fun F1 H1 σ1 fp1 s1 I1=>⟨F1,ρ1,fp1,I1,hr.mono fun q z=>z.mono s1⟩
 |rt d=>exact hr
 |bk=>exact hr
 |ct=>exact hr
theorem Qi (h1:PS X st (tS rk C E ms)):PSs X [st] (tS rk C E ms):=pss_one h1
def QpG (m:ME):MS:=fun ρ=>(m ρ).bind fun r=>.ok (.rt r.1,r.2)
theorem Qp (h:PE X e (tX rk C p E m)):PS X (.Return (some e) pos) (tS rk C E (QpG m)):=QT (ps_ret h) fun D σ H ⟨F,ρ,fp,I,h⟩=>
 ⟨F,ρ,[],fp,I,h.split.run.mono fun r hr F1 H1 fp1 v I1 n1 f1=>hr F1 H1 σ fp1 v n1.f I1 f1⟩
def Qm3 (m:ME):MS:=fun ρ=>(m ρ).bind fun r=>.ok (.nx,r.2)
theorem Vb (h:PE X e (tX k C p E m))(ok:k.on true=true:=by rfl)(hs:swapsWith e none pos.line X.env=pure false:=by rfl):PS X (.Expr e pos) (tS rk C E (Qm3 m)):=QT (ps_expr h hs) fun D σ H ⟨F,ρ,fp,I,h⟩=>
 ⟨F,ρ,[],fp,I,h.split.run.mono fun r hr F1 H1 fp1 v I1 n1 f1=>by rw[Kd.JH ok] at I1;exact hr F1 H1 σ fp1 n1.f I1⟩
def mIf (mt:MT)(m u:MS):MS:=fun ρ=>(mt ρ).bind fun r=>if r.1=true then m r.2 else u r.2
theorem JN {c:Expr}{sa sb:List Stmt}(hc:PT X c (tT C p E mt))(ha:PSs X sa (tS rk C E ms))(hb:PSs X sb (tS rk C E mu)):PS X (.If c sa sb pos) (tS rk C E (mIf mt ms mu)):=QT (ps_if hc ha hb) fun D σ H ⟨F,ρ,fp,I,h⟩=>
 ⟨F,ρ,[],fp,I,h.split.run.mono fun r hr F1 H1 fp1 I1 n1=>by
  by_cases cc:r.1=true
  ·rw[if_pos cc] at hr ⊢;exact⟨F1,r.2,fp1,I1,hr.mono fun q z=>z.mono n1.f⟩
  ·rw[if_neg cc] at hr ⊢;exact⟨F1,r.2,fp1,I1,hr.mono fun q z=>z.mono n1.f⟩⟩
noncomputable def V7 (ρ:Rho)(i:Nat)(d:D):Option Rho:=match ρ[i]? with
 |some (some (.par _))=>none
 |some _=>some (ρ.set i (some (.frz d)))
 |none=>none
noncomputable def Qj3 (ρ:Rho)(i:Nat)(d:D):Option Rho:=match ρ[i]? with
 |some (some (.par _))=>none
 |some _=>some (ρ.set i (some (.own d)))
 |none=>none
theorem SI.V7 {F H:Hp}{σ:L2.St}{ρ ρ':Rho}{τ:List (L2.V×D)}{fp:List Addr}{i:Nat}{v:L2.V}{d:D}(I:SI C F H σ ρ τ fp)(r:R C.K F v d)(h:V7 ρ i d=some ρ'):∃fp',SI C F H (σ.set i (some v)) ρ' τ fp'/\∀a∈fp',a∈fp:=by
 unfold TL.V7 at h
 cases es:ρ[i]? with
 |none=>rw[es] at h;cases h
 |some s=>
  rw[es] at h
  obtain⟨x,f0,g0,rest,ex,s1,pm,w0,w1,cl⟩:=I.cut es
  have nd:=pm.nodup_iff.mp I.nd
  have fin:(∀v',(i,v')∈C.Qe2->False)->∃fp',SI C F H (σ.set i (some v)) (ρ.set i (some (.frz d))) τ fp'/\∀a∈fp',a∈fp:=fun np=>
   ⟨_,cl (x':=some v) (s':=some (.frz d)) (f0':=[]) (g0':=[]) (Same.refl F) I.fh (fun _ _=>rfl) (fun _ z=>z) (fun _ _ _ _ z=>z) (fun _ _ z=>.inl z) (.frz r) (z17.mp (z17.mp nd).2.1).2.1 (fun a ha=>I.ap a (pm.mem_iff.mpr (by simp at ha;simp[ha]))) @5 @5 (fun v' hv=>(np v' hv).elim),fun a ha=>pm.mem_iff.mpr (by simp at ha;simp[ha])⟩
  have np:∀(s0:Option Sl),s=s0->(∀q,s0≠some (.par q))->∀v',(i,v')∈C.Qe2->False:=fun s0 e0 n0 v' hv=>by
   obtain⟨_,q,z⟩:=I.pr _ _ hv
   rw[es] at z
   cases z
   exact n0 q e0.symm
  cases s with
  |none=>cases h;exact fin (np none rfl fun q z=>nomatch z)
  |some s=>
   cases s with
   |frz d0=>cases h;exact fin (np _ rfl fun q z=>by cases z)
   |own d0=>cases h;exact fin (np _ rfl fun q z=>by cases z)
   |par d0=>cases h
theorem SI.Qj3 {F H:Hp}{σ:L2.St}{ρ ρ':Rho}{τ:List (L2.V×D)}{fp:List Addr}{i:Nat}{v:L2.V}{d:D}(I:SI C F H σ ρ ((v,d)::τ) fp)(h:Qj3 ρ i d=some ρ'):∃fp',SI C F H (σ.set i (some v)) ρ' τ fp':=by
 obtain⟨f,Qe3,o,pm0,J,h0,ap,nd0⟩:=I.pop
 unfold TL.Qj3 at h
 cases es:ρ[i]? with
 |none=>rw[es] at h;cases h
 |some s=>
  rw[es] at h
  obtain⟨x,f0,g0,rest,ex,s1,pm,w0,w1,cl⟩:=J.cut es
  have nd:=pm.nodup_iff.mp J.nd
  have ndr:=(z17.mp (z17.mp nd).2.1).2.1
  have inr:∀a∈rest,a∈Qe3:=fun a ha=>pm.mem_iff.mpr (by simp[ha])
  have fin:(∀v',(i,v')∈C.Qe2->False)->∃fp',SI C F H (σ.set i (some v)) (ρ.set i (some (.own d))) τ fp':=fun np=>
   ⟨_,cl (x':=some v) (s':=some (.own d)) (f0':=f) (g0':=[]) (Same.refl F) J.fh (fun _ _=>rfl) (fun _ z=>z) (fun _ _ _ _ z=>z) (fun _ _ z=>.inl z) (.own o) (z17.mpr ⟨(z17.mp nd0).1,ndr,fun a ha b hb z=>(z17.mp nd0).2.2 a ha b (inr b hb) z⟩) (fun a ha=>by
    rcases z14.mp ha with z|z
    ·exact ap a z
    ·exact J.ap a (inr a z)) h0 @5 (fun v' hv=>(np v' hv).elim)⟩
  have np:∀(s0:Option Sl),s=s0->(∀q,s0≠some (.par q))->∀v',(i,v')∈C.Qe2->False:=fun s0 e0 n0 v' hv=>by
   obtain⟨_,q,z⟩:=I.pr _ _ hv
   rw[es] at z
   cases z
   exact n0 q e0.symm
  cases s with
  |none=>cases h;exact fin (np none rfl fun q z=>nomatch z)
  |some s=>
   cases s with
   |frz d0=>cases h;exact fin (np _ rfl fun q z=>by cases z)
   |own d0=>cases h;exact fin (np _ rfl fun q z=>by cases z)
   |par d0=>cases h
def Qje (i:Nat)(m:ME):MS:=fun ρ=>(m ρ).bind fun r=>(Rs.of (V7 r.2 i r.1)).bind fun ρ'=>.ok (.nx,ρ')
def Qjf (i:Nat)(m:ME):MS:=fun ρ=>(m ρ).bind fun r=>(Rs.of (Qj3 r.2 i r.1)).bind fun ρ'=>.ok (.nx,ρ')
theorem QdI {i:Nat}{D:Ends}{σ:L2.St}{H:Hp}(h:tS rk C E (Qje i m) D σ H):tAsg (tX .V C p E m) (gName i) D σ H:=by
 obtain⟨F,ρ,fp,I,h⟩:=h
 refine⟨F,ρ,[],fp,I,h.split.run.mono fun r hr F1 H1 fp1 v I1 n1 f1=>?_⟩
 obtain⟨ρ',e,h2⟩:=hr.split.of
 obtain⟨fp',J,_⟩:=SI.V7 I1 f1 e
 exact h2 F1 H1 _ fp' n1.f J
theorem Qhi {i:Nat}{D:Ends}{σ:L2.St}{H:Hp}(h:tS rk C E (Qjf i m) D σ H):tAsg (tX .O C p E m) (gName i) D σ H:=by
 obtain⟨F,ρ,fp,I,h⟩:=h
 refine⟨F,ρ,[],fp,I,h.split.run.mono fun r hr F1 H1 fp1 v I1 n1 f1=>?_⟩
 obtain⟨ρ',e,h2⟩:=hr.split.of
 obtain⟨fp',J⟩:=SI.Qj3 (τ:=[]) I1 e
 exact h2 F1 H1 _ fp' n1.f J
theorem Qv {i:Nat}{x:Str}{pos':Pos}(hN:X.N.Nodup)(hi:X.N[i]? = some x)(hx:Loc X.env.scope x)(he:PE X e (tX .V C p E m))(hs:swapsWith e (some (.Name x pos')) pos.line X.env=pure false:=by rfl)(hf:X.fn x=true\/X.env.scope.names.lookup x=some .local:=by first|exact .inl rfl|exact .inr rfl|assumption) :
  PS X (.Assign [.Name x pos'] e pos) (tS rk C E (Qje i m)):=QT (ps_set hN hi hx he hs hf) fun _ _ _ h=>QdI h
theorem Vc {i:Nat}{x:Str}{pos':Pos}(hN:X.N.Nodup)(hi:X.N[i]? = some x)(hx:Loc X.env.scope x)(he:PE X e (tX .O C p E m))(hs:swapsWith e (some (.Name x pos')) pos.line X.env=pure false:=by rfl)(hf:X.fn x=true\/X.env.scope.names.lookup x=some .local:=by first|exact .inl rfl|exact .inr rfl|assumption) :
  PS X (.Assign [.Name x pos'] e pos) (tS rk C E (Qjf i m)):=QT (ps_set hN hi hx he hs hf) fun _ _ _ h=>Qhi h
def GD (C:Cn)(g:TG)(tg:D->Rho->Option Rho):Prop:=∀F H σ ρ τ fp x d ρ',SI C F H σ ρ τ fp->R C.K F x d->tg d ρ=some ρ'->∀Q:L2.St->Hp->Prop,(∀σ' fp',SI C F H σ' ρ' τ fp'->(∀a∈fp',a∈fp)->Q σ' H)->g x σ H Q
theorem Yn {i:Nat}:GD C (gName i) (fun d ρ=>V7 ρ i d):=fun F H σ ρ τ fp x d ρ' I r h Q hq=>by
 obtain⟨fp',J,s⟩:=SI.V7 I r h
 exact hq _ fp' J s
def Qhj (i j:Nat)(d:D)(ρ:Rho):Option Rho:=match d with
 |.nd .tup [x,y]=>(V7 ρ i x).bind fun ρ1=>V7 ρ1 j y
 |_=>none
theorem Qe4 {i j:Nat}(hK:C.K=X.K):GD C (gTup X.K 2 (gCons (gName i) (gCons (gName j) gNil))) (Qhj i j):=fun F H σ ρ τ fp v d ρ' I r h Q hq=>by
 unfold Qhj at h
 split at h
 ·next x y=>
  obtain⟨a,vs,rfl,h1,h2⟩:=r.inv
  obtain⟨v1,v2,rfl,r1,r2⟩:=h2.two
  obtain⟨ρ1,e1,e2⟩:=z25.mp h
  obtain⟨fp1,J1,s1⟩:=SI.V7 I r1 e1
  obtain⟨fp2,J2,s2⟩:=SI.V7 J1 r2 e2
  refine⟨a,[v1,v2],rfl,by rw[← hK];exact(At.same h1 I.fh).sqt,rfl,v1,[v2],rfl,v2,[],rfl,rfl,?_⟩
  exact hq _ fp2 J2 (fun b hb=>s1 b (s2 b hb))
 ·cases h
structure ItD (K:z01)(F:Hp)(ds:List D)(J:It):Prop where
 go:∀{C:Cn} {F' H:Hp} {σ:L2.St} {ρ:Rho} {τ:List (L2.V×D)} {fp:List Addr} {i:Nat} {d:D},C.K=K->SI C F' H σ ρ τ fp->Same F F'->ds[i]? = some d->J.go i H/\∀x H',J.yld i H x H'->∃F'',SI C F'' H' σ ρ τ fp/\Nx true F' H fp F'' H' fp/\R K F'' x d
 stop:∀{C:Cn} {F' H:Hp} {σ:L2.St} {ρ:Rho} {τ:List (L2.V×D)} {fp:List Addr},C.K=K->SI C F' H σ ρ τ fp->Same F F'->J.stop ds.length H
def tI (C:Cn)(p:Bool)(E:XE)(mi:MA):TI:=fun σ H R=>∃F ρ τ fp,SI C F H σ ρ τ fp/\Run C E σ (mi ρ) fun r=>∀F' H' fp' J,SI C F' H' σ r.2 τ fp'->Nx p F H fp F' H' fp'->ItD C.K F' r.1 J->R J H'
theorem Qcd {tg iter:Expr}{t t':TI}(h:PI X tg iter t)(k:∀σ H R,t' σ H R->t σ H R):PI X tg iter t':=fun pins s σ H R I q=>h pins s σ H R I (k _ _ _ q)
theorem Qhk {K:z01}{F:Hp}{a:Addr}{kd:Bool}{vs:List L2.V}{ds:List D}(h:At K F a (if kd then .lst else .tup) vs)(r:RL K F vs ds):ItD K F ds (Itb kd K a):=by
 have up:∀{F' H:Hp},Same F F'->Same F' H->SqB kd K H a vs:=fun s1 s2=>by
  cases kd with
  |true=>exact(At.same (t:=.lst) h (s1.trans s2)).sql
  |false=>exact(At.same (t:=.tup) h (s1.trans s2)).sqt
 refine⟨fun{C F' H σ ρ τ fp i d} hk I s e=>?_,fun{C F' H σ ρ τ fp} hk I s=>?_⟩
 ·obtain⟨v,ev,rv⟩:=r.get e
  have q:=up s I.fh
  cases kd with
  |true=>exact⟨⟨vs,v,q,ev⟩,fun x H' ⟨e1,y⟩=>by
    subst e1
    have z:=y vs q
    rw[ev] at z;cases z
    exact⟨F',I,.refl,rv.same s⟩⟩
  |false=>exact⟨⟨vs,v,q,ev⟩,fun x H' ⟨e1,y⟩=>by
    subst e1
    have z:=y vs q
    rw[ev] at z;cases z
    exact⟨F',I,.refl,rv.same s⟩⟩
 ·have q:=up s I.fh
  have l:=r.length
  cases kd with
  |true=>exact⟨vs,q,by lia⟩
  |false=>exact⟨vs,q,by lia⟩
def Qce (m:ME):MA:=fun ρ=>(m ρ).bind fun r=>(Rs.of (QgE [r.1])).bind fun ds=>.ok (ds,r.2)
theorem QJ {tg l:Expr}(hK:C.K=X.K)(hl:PE X l (tX .V C p E m)):PI X tg l (tI C p E (Qce m)):=Qcd (QjS hl) fun σ H RR ⟨F,ρ,τ,fp,I,h⟩=>by
 refine⟨F,ρ,τ,fp,I,h.split.mono fun r hr F1 H1 fp1 v I1 n1 f1=>?_⟩
 obtain⟨ds,eg,h2⟩:=hr.split.of
 obtain⟨q,us,eq,hs,rl⟩:=Qel (.cons f1 .nil) eg
 cases eq
 rcases hs with hs|hs
 ·refine⟨q,true,rfl,⟨us,by rw[← hK];exact(At.same hs I1.fh).sql⟩,h2 F1 H1 fp1 _ I1 n1 ?_⟩
  rw[← hK]
  exact Qhk (kd:=true) hs rl
 ·refine⟨q,false,rfl,⟨us,by rw[← hK];exact(At.same hs I1.fh).sqt⟩,h2 F1 H1 fp1 _ I1 n1 ?_⟩
  rw[← hK]
  exact Qhk (kd:=false) hs rl
noncomputable def Qe5:List D->Option Int
 | [.int i]=>if -(2 ^ 62)<=i/\i<2 ^ 62 then some i else none
 |_=>none
def QgF (mr:MA):MA:=fun ρ=>(mr ρ).bind fun r=>(Rs.of (Qe5 r.1)).bind fun n=>.ok ((z63 n.toNat).map fun j=>.int ((0:Int)+(j:Nat)),r.2)
theorem QkW {K:z01}{F:Hp}{lo:Int}{n:Nat}:ItD K F ((z63 n).map fun j=>.int (lo+(j:Nat))) (Itr lo n):=by
 refine⟨fun{C F' H σ ρ τ fp i d} hk I s e=>?_,fun{C F' H σ ρ τ fp} hk I s=>?_⟩
 ·rw[z29] at e
  obtain⟨j,ej,rfl⟩:=z03.mp e
  have hj:i<n/\j=i:=by
   rw[z28] at ej
   obtain⟨h1,h2⟩:=ej
   rw[zx6] at h2
   rw[z92] at h1
   exact⟨h1,h2.symm⟩
  refine⟨hj.1,fun x H' hz=>?_⟩
  obtain⟨e1,e2⟩:=hz
  subst e1 e2
  rw[hj.2]
  exact⟨F',I,.refl,.sc rfl⟩
 ·show n<=_
  rw[z00,z92]
  exact z32 _
theorem Yo {tg e:Expr}{px:Pos}(hm:X.mg "range" = none)(ha:PA X [e] (tA ks C p E mr))(ok:rdL ks=true:=by rfl)(hg:Gl X "range" := by rfl)(hs:starEach [e] X.env=[@15]:=by rfl):PI X tg (.Call (.Name "range" px) [e] [] pos) (tI C p E (QgF mr)):=Qcd (pi_range1 hg hm ha hs) fun σ H RR ⟨F,ρ,τ,fp,I,h⟩=>by
 refine⟨F,ρ,τ,fp,I,h.split.mono fun r hr F1 H1 fp1 vs I1 n1 f1=>?_⟩
 rw[JD ok] at I1
 obtain⟨n,eg,h2⟩:=hr.split.of
 have rl:=f1.rd I1 ok
 unfold Qe5 at eg
 split at eg
 ·next i ed=>
  rw[ed] at rl
  obtain⟨v,rfl,rv⟩:=rl.one
  obtain rfl:=rv.Qu (w:=.int i) rfl
  by_cases c : -(2 ^ 62)<=i/\i<2 ^ 62
  ·rw[if_pos c] at eg;cases eg
   exact⟨n,rfl,c.1,c.2,h2 F1 H1 fp1 _ I1 n1 QkW⟩
  ·rw[if_neg c] at eg;cases eg
 ·cases eg
def forL (tg:D->Rho->Option Rho)(mb:MS):List D->MS
 | []=>fun ρ=>.ok (.nx,ρ)
 |d::ds=>fun ρ=>(Rs.of (tg d ρ)).bind fun ρ1=>(mb ρ1).bind fun r=>match r.1 with
  |.nx=>forL tg mb ds r.2
  |.ct=>forL tg mb ds r.2
  |.bk=>.ok (.nx,r.2)
  |.rt d=>.ok (.rt d,r.2)
def QqR (mi:MA)(tg:D->Rho->Option Rho)(mb:MS):MS:=fun ρ=>(mi ρ).bind fun r=>forL tg mb r.1 r.2
theorem Qa0 {tg iter:Expr}{body:List Stmt}{mi:MA}{g:TG}{tgd:D->Rho->Option Rho}(hp:PassesOwn @7 X.A X.env X.xe)(hc:X.calm=true)(hi:PI X tg iter (tI C p E mi))(hg:PG X tg g)(gd:GD C g tgd)(hb:PSs X body (tS rk C E ms))
  (hs:∀x,foldedSetIterable iter X.env x=pure x:=by intro _;rfl):PS X (.For tg iter body [] pos) (tS rk C E (QqR mi tgd ms)):=QT (ps_for hp hc hi hg hb hs) fun D σ H ⟨F,ρ,fp,I,h⟩=>by
 refine⟨F,ρ,[],fp,I,h.split.run.mono fun r hr F1 H1 fp1 J I1 n1 it=>?_⟩
 refine⟨fun i m σ' H'=>m=r.1.length - i/\i<=r.1.length/\∃F' ρ' fp',SI C F' H' σ' ρ' [] fp'/\Same F1 F'/\Qem C E (forL tgd ms (r.1.drop i) ρ') fun q=>Out rk C D F q.1 q.2,⟨r.1.length,by simp,z67 _,F1,r.2,fp1,I1,Same.refl _,by rw[zm4];exact hr⟩,?_⟩
 rintro i mm σ2 H2 ⟨rfl,hi2,F2,ρ2,fp2,I2,s2,k2⟩
 by_cases hlt:i<r.1.length
 ·obtain⟨d,ed⟩:∃d,r.1[i]? = some d:=⟨r.1[i],z05 hlt⟩
  obtain⟨g1,g2⟩:=it.go rfl I2 s2 ed
  have edr:r.1.drop i=d::r.1.drop (i+1):=by
   rw[zb3 hlt]
   have:r.1[i]=d:=by rw[z05 hlt] at ed;exact z35 ed
   rw[this]
  rw[edr] at k2
  obtain⟨ρ3,e3,k3⟩:=k2.split.of
  refine .inr ⟨g1,fun σ' H'=>∃F' ρ' fp',SI C F' H' σ' ρ' [] fp'/\Same F1 F'/\Qem C E (forL tgd ms (r.1.drop (i+1)) ρ') fun q=>Out rk C D F q.1 q.2,fun σ' H' z=>⟨_,by lia,rfl,hlt,z⟩,fun x H' y=>?_⟩
  obtain⟨F3,I3,n3,r3⟩:=g2 x H' y
  have s3:Same F1 F3:=s2.trans n3.f
  refine gd F3 H' σ2 ρ2 [] fp2 x d ρ3 I3 r3 e3 _ fun σ' fp' I4 _=>⟨F3,ρ3,fp',I4,k3.split.mono fun q hq=>?_⟩
  obtain⟨f,ρ4⟩:=q
  have sF:Same F F3:=n1.f.trans s3
  cases f with
  |nx=>exact fun F5 H5 σ5 fp5 s5 I5=>⟨F5,ρ4,fp5,I5,s3.trans s5,hq⟩
  |ct=>exact fun F5 H5 σ5 fp5 s5 I5=>⟨F5,ρ4,fp5,I5,s3.trans s5,hq⟩
  |bk=>exact fun F5 H5 σ5 fp5 s5 I5=>hq F5 H5 σ5 fp5 (sF.trans s5) I5
  |rt d=>exact fun F5 H5 σ5 fp5 v s5 I5 f5=>hq F5 H5 σ5 fp5 v (sF.trans s5) I5 f5
 ·have e:i=r.1.length:=by lia
  subst e
  rw[zp8] at k2
  exact .inl ⟨it.stop rfl I2 s2,k2 F2 H2 σ2 fp2 (n1.f.trans s2) I2⟩
def whl (mt:MT)(mb:MS):Nat->MS
 |0=>fun _=>.no
 |n+1=>fun ρ=>(mt ρ).bind fun r=>if r.1=true then(mb r.2).bind fun q=>match q.1 with
   |.nx=>whl mt mb n q.2
   |.ct=>whl mt mb n q.2
   |.bk=>.ok (.nx,q.2)
   |.rt d=>.ok (.rt d,q.2)
  else .ok (.nx,r.2)
def Qj4 (n:Nat)(mt:MT)(mb:MS):MS:=whl mt mb n
theorem Qhl {c:Expr}{body:List Stmt}{n:Nat}(hp:PassesOwn @7 X.A X.env X.xe)(hc:PT X c (tT C p E mt))(hb:PSs X body (tS rk C E ms)):PS X (.While c body [] pos) (tS rk C E (Qj4 n mt ms)):=QT (ps_while hp hc hb) fun D σ H ⟨F,ρ,fp,I,h⟩=>by
 refine⟨fun n σ' H'=>∃F' ρ' fp',SI C F' H' σ' ρ' [] fp'/\Same F F'/\Qem C E (whl mt ms n ρ') fun q=>Out rk C D F q.1 q.2,⟨n,F,ρ,fp,I,Same.refl F,h⟩,?_⟩
 rintro n σ2 H2 ⟨F2,ρ2,fp2,I2,s2,k2⟩
 cases n with
 |zero=>exact k2.elim
 |succ n=>
  refine⟨F2,ρ2,[],fp2,I2,k2.split.run.mono fun r hr F3 H3 fp3 I3 n3=>?_⟩
  by_cases cc:r.1=true
  ·rw[if_pos cc] at hr ⊢
   refine⟨fun σ' H'=>∃F' ρ' fp',SI C F' H' σ' ρ' [] fp'/\Same F F'/\Qem C E (whl mt ms n ρ') fun q=>Out rk C D F q.1 q.2,fun σ' H' z=>⟨n,zq4 n,z⟩,F3,r.2,fp3,I3,hr.split.mono fun q hq=>?_⟩
   obtain⟨f,ρ4⟩:=q
   have sF:Same F F3:=s2.trans n3.f
   cases f with
   |nx=>exact fun F5 H5 σ5 fp5 s5 I5=>⟨F5,ρ4,fp5,I5,sF.trans s5,hq⟩
   |ct=>exact fun F5 H5 σ5 fp5 s5 I5=>⟨F5,ρ4,fp5,I5,sF.trans s5,hq⟩
   |bk=>exact fun F5 H5 σ5 fp5 s5 I5=>hq F5 H5 σ5 fp5 (sF.trans s5) I5
   |rt d=>exact fun F5 H5 σ5 fp5 v s5 I5 f5=>hq F5 H5 σ5 fp5 v (sF.trans s5) I5 f5
  ·rw[if_neg cc] at hr ⊢
   exact hr F3 H3 σ2 fp3 (s2.trans n3.f) I3
end
noncomputable def mkS (par:Bool)(d:D):Sl:=if par then .par d else .own d
noncomputable def Yp (par:Bool)(ρ:Rho):List Nat->Option (List D)
 | []=>some []
 |i::is=>match ρ[i]? with
  |some (some (.own d))=>if par then none else(Yp par ρ is).map (d::·)
  |some (some (.par d))=>if par then(Yp par ρ is).map (d::·) else none
  |_=>none
noncomputable def YA (par:Bool)(ρ:Rho):List Nat->List D->Rho
 |i::is,d::ds=>(YA par ρ is ds).set i (some (mkS par d))
 |_,_=>ρ
theorem Qen {par:Bool}{ρ:Rho}{i:Nat}{is:List Nat}{ds:List D}(h:Yp par ρ (i::is)=some ds):∃d r,ds=d::r/\ρ[i]? = some (some (mkS par d))/\Yp par ρ is=some r:=by
 unfold Yp at h
 split at h
 ·next d e=>
  cases par with
  |true=>cases h
  |false=>
   obtain⟨r,hr,rfl⟩:=z03.mp h
   exact⟨d,r,rfl,e,hr⟩
 ·next d e=>
  cases par with
  |false=>cases h
  |true=>
   obtain⟨r,hr,rfl⟩:=z03.mp h
   exact⟨d,r,rfl,e,hr⟩
 ·cases h
theorem QfD {par:Bool}{ρ:Rho}{i:Nat}{s:Option Sl}:∀{is:List Nat},i∉is->Yp par (ρ.set i s) is=Yp par ρ is
 | [],_=>rfl
 |j::is,h=>by
  have n:i≠j:=fun e=>h (e▸z07)
  unfold Yp
  rw[z57 n,QfD fun z=>h (z08 _ z)]
theorem QfE {par:Bool}{ρ:Rho}{i:Nat}{s:Option Sl}:∀{is:List Nat} {ds:List D},i∉is->YA par (ρ.set i s) is ds=(YA par ρ is ds).set i s
 | [],_,_=>by unfold YA;rfl
 |j::is,[],_=>by unfold YA;rfl
 |j::is,d::ds,h=>by
  have n:i≠j:=fun e=>h (e▸z07)
  unfold YA
  rw[QfE fun z=>h (z08 _ z),List.set_comm _ _ (fun e=>n e)]
theorem QfF {par:Bool}{ρ:Rho}{i:Nat}:∀{is:List Nat} {ds:List D},i∉is->(YA par ρ is ds)[i]? = ρ[i]?
 | [],_,_=>by unfold YA;rfl
 |j::is,[],_=>by unfold YA;rfl
 |j::is,d::ds,h=>by
  have n:j≠i:=fun e=>h (e▸z07)
  unfold YA
  rw[z57 n,QfF fun z=>h (z08 _ z)]
theorem QfG {par:Bool}{ρ:Rho}:∀{is:List Nat} {ds:List D},(YA par ρ is ds).length=ρ.length
 | [],_=>by unfold YA;rfl
 |j::is,[]=>by unfold YA;rfl
 |j::is,d::ds=>by unfold YA;rw[zb8,QfG]
inductive Sig (σ:L2.St):List Nat->List L2.V->Prop
 |nil:Sig σ [] []
 |cons {i:Nat} {v:L2.V} {is:List Nat} {vs:List L2.V} (h:σ[i]? = some (some v)) (r:Sig σ is vs):Sig σ (i::is) (v::vs)
def YM (C:Cn)(par:Bool)(a:Addr):Prop:=C.H₀ a=none\/(par=true/\a∈C.A)
section
variable {C:Cn}{F H:Hp}{σ:L2.St}{ρ:Rho}{τ:List (L2.V×D)}{fp:List Addr}{par:Bool}
theorem SI.QpH (I:SI C F H σ ρ τ fp):SI { C with Qe2:=[]} F H σ ρ τ fp:=⟨I.sl,I.nd,I.ap,I.fh,I.f0,I.fn,I.kp,I.dm,fun _ _ z=>nomatch z⟩
theorem SI.Qm4 (hp:C.Qe2=[]):∀{is:List Nat} {ρ:Rho} {fp:List Addr} {ds:List D},is.Nodup->SI C F H σ ρ τ fp->Yp par ρ is=some ds->∃vs f rest,Sig σ is vs/\OL C.K F H vs ds f/\fp.Perm (f++rest)/\(∀a∈f,YM C par a)/\
  ∀{F' H':Hp} {f':List Addr} {ds':List D},Same F F'->Same F' H'->(∀a∈rest,H' a=H a)->(∀b,H' b=none->H b=none)->(∀b o,C.H₀ b=some o->b∉C.A->H b=some o->H' b=some o)->(∀b o,F' b=some o->F b=some o\/Nw C.H₀ b o)->
   OL C.K F' H' vs ds' f'->(f'++rest).Nodup->(∀a∈f'++rest,F' a=none)->(∀a∈f',YM C par a)->SI C F' H' σ (YA par ρ is ds') τ (f'++rest)
 | [],ρ,fp,ds,_,I,h=>by
  cases h
  refine⟨[],[],fp,.nil,.nil,by simp,@5,fun{F' H' f' ds'} sf fh hk dm kp fn ol nd ap fr=>?_⟩
  cases ol
  exact I.step sf fh hk (fun a ha=>ap a ha) fn kp dm
 |i::is,ρ,fp,ds,nd,I,h=>by
  obtain⟨ni,nd'⟩:=z60.mp nd
  obtain⟨d,r,rfl,es,hr⟩:=Qen h
  obtain⟨x,f0,g0,Qm5,ex,s1,pm,w0,w1,cl⟩:=I.cut es
  have ndp:=pm.nodup_iff.mp I.nd
  have QkX:∀v,(i,v)∈C.Qe2->False:=fun v hv=>by rw[hp] at hv;exact nomatch hv
  obtain⟨v,fi,ev,hv,efi,wfi⟩:∃v fi,x=some v/\O C.K F H v d fi/\f0++g0=fi/\∀a∈fi,YM C par a:=by
   cases par with
   |false=>cases s1 with|own h=>exact⟨_,_,rfl,h,by simp,fun a ha=>.inl (w0 a ha)⟩
   |true=>cases s1 with|par h=>exact⟨_,_,rfl,h,rfl,fun a ha=>(w1 a ha).elim (fun z=>.inr ⟨rfl,z⟩) fun z=>.inl z⟩
  subst ev
  have Qrq:Qm5.Nodup:=(z17.mp (z17.mp ndp).2.1).2.1
  have I1:=cl (x':=some v) (s':=none) (f0':=[]) (g0':=[]) (Same.refl F) I.fh (fun _ _=>rfl) (fun _ z=>z) (fun _ _ _ _ z=>z) (fun _ _ z=>.inl z) .non Qrq (fun a ha=>I.ap a (pm.mem_iff.mpr (by simp at ha;simp[ha]))) @5 @5 (fun v' hv'=>(QkX v' hv').elim)
  rw[Ja ex] at I1
  obtain⟨vs,f2,QcX,sg,ol,pm2,w2,cl2⟩:=SI.Qm4 hp nd' I1 (by rw[QfD ni];exact hr)
  have Qrr:Qm5.Perm (f2++QcX):=pm2
  have pmf:fp.Perm ((fi++f2)++QcX):=by
   refine pm.trans ?_
   rw[← z53,efi,z53]
   exact Qrr.append_left fi
  refine⟨v::vs,fi++f2,QcX,.cons ex sg,.cons hv ol,pmf,fun a ha=>(z14.mp ha).elim (wfi a) (w2 a),fun{F' H' f' ds'} sf fh hk dm kp fn ol' nd2 ap fr=>?_⟩
  cases ol' with
  | @cons _ d' _ Qm6 fa fb oa ob=>
   have nd3:(fa++(fb++QcX)).Nodup:=by rw[← z53];exact nd2
   have I2:=cl2 sf fh hk dm kp fn ob (z17.mp nd3).2.1 (fun a ha=>ap a (by rw[z53];exact z04 _ ha)) (fun a ha=>fr a (z04 _ ha))
   have li:i<ρ.length:=(z28.mp es).1
   have en:(YA par (ρ.set i none) is Qm6)[i]? = some none:=by rw[QfF ni,z88 li]
   obtain⟨x3,f3,g3,Qjg,ex3,s3,pm3,_,_,cl3⟩:=I2.cut en
   cases s3
   have QpI:(fb++QcX).Perm Qjg:=pm3
   have nd4:(fa++Qjg).Nodup:=(QpI.append_left fa).nodup_iff.mp nd3
   have ap4:∀a∈fa++Qjg,F' a=none:=fun a ha=>ap a (by
    rw[z53]
    rcases z14.mp ha with z|z
    ·exact z15 _ z
    ·exact z04 _ (QpI.mem_iff.mpr z))
   have eρ:(YA par (ρ.set i none) is Qm6).set i (some (mkS par d'))=YA par ρ (i::is) (d'::Qm6):=by
    rw[QfE ni,List.set_set]
    rfl
   have pmx:(fa++Qjg).Perm ((fa++fb)++QcX):=by rw[z53];exact QpI.symm.append_left fa
   have fra:∀a∈fa,YM C par a:=fun a ha=>fr a (z15 _ ha)
   rw[← eρ]
   cases par with
   |false=>
    have J:=cl3 (F':=F') (H':=H') (x':=some v) (s':=some (.own d')) (f0':=fa) (g0':=[]) (Same.refl _) fh (fun _ _=>rfl) (fun _ z=>z) (fun _ _ _ _ z=>z) (fun _ _ z=>.inl z) (.own oa) nd4 ap4 (fun a ha=>(fra a ha).resolve_right fun z=>nomatch z.1) @5 (fun v' hv'=>(QkX v' hv').elim)
    rw[Ja ex] at J
    exact J.perm pmx
   |true=>
    have J:=cl3 (F':=F') (H':=H') (x':=some v) (s':=some (.par d')) (f0':=[]) (g0':=fa) (Same.refl _) fh (fun _ _=>rfl) (fun _ z=>z) (fun _ _ _ _ z=>z) (fun _ _ z=>.inl z) (.par oa) nd4 ap4 @5 (fun a ha=>(fra a ha).elim (fun z=>.inr z) fun z=>.inl z.2) (fun v' hv'=>(QkX v' hv').elim)
    rw[Ja ex] at J
    exact J.perm pmx
theorem SI.lend {is:List Nat}{ds:List D}(nd:is.Nodup)(I:SI C F H σ ρ τ fp)(h:Yp par ρ is=some ds):∃vs f rest,Sig σ is vs/\OL C.K F H vs ds f/\fp.Perm (f++rest)/\(∀a∈f,YM C par a)/\
  ∀{F' H':Hp} {f':List Addr} {ds':List D},Same F F'->Same F' H'->(∀a∈rest,H' a=H a)->(∀b,H' b=none->H b=none)->(∀b o,C.H₀ b=some o->b∉C.A->H b=some o->H' b=some o)->(∀b o,F' b=some o->F b=some o\/Nw C.H₀ b o)->
   OL C.K F' H' vs ds' f'->(f'++rest).Nodup->(∀a∈f'++rest,F' a=none)->(∀a∈f',YM C par a)->SI C F' H' σ (YA par ρ is ds') τ (f'++rest):=by
 obtain⟨vs,f,rest,sg,ol,pm,w,cl⟩:=SI.Qm4 (C:={ C with Qe2:=[]}) rfl nd I.QpH h
 refine⟨vs,f,rest,sg,ol,pm,w,fun{F' H' f' ds'} sf fh hk dm kp fn ol' nd2 ap fr=>?_⟩
 have J:=cl sf fh hk dm kp fn ol' nd2 ap fr
 refine⟨J.sl,J.nd,J.ap,J.fh,J.f0,J.fn,J.kp,J.dm,fun j v hj=>?_⟩
 obtain⟨p1,d,p2⟩:=I.pr j v hj
 refine⟨p1,?_⟩
 have len:ds'.length=is.length:=by
  have e1:vs.length=is.length:=by
   have:∀{is:List Nat} {vs:List L2.V},Sig σ is vs->vs.length=is.length:=by
    intro is vs s
    induction s with
    |nil=>rfl
    |cons _ _ ih=>rw[z30,z30,ih]
   exact this sg
  rw[← ol'.length,e1]
 have go:∀{is:List Nat} {ds ds':List D},is.Nodup->Yp par ρ is=some ds->ds'.length=is.length->∃d,(YA par ρ is ds')[j]? = some (some (.par d)):=by
  intro is
  induction is with
  |nil=>intro ds ds' _ _ _;unfold YA;exact⟨d,p2⟩
  |cons i is ih=>
   intro ds ds' nd h l
   obtain⟨ni,nd'⟩:=z60.mp nd
   obtain⟨d0,r,rfl,es,hr⟩:=Qen h
   cases ds' with
   |nil=>cases l
   |cons d' Qm6=>
    unfold YA
    by_cases e:i=j
    ·subst e
     have li:i<(YA par ρ is Qm6).length:=by rw[QfG];exact(z28.mp es).1
     rw[z88 li]
     rw[p2] at es
     cases par with
     |false=>cases es
     |true=>exact⟨d',rfl⟩
    ·rw[z57 e]
     exact ih nd' hr (by simpa using l)
 exact go nd h len
end
inductive Fr where
 |ok (r:D) (outs:List D)
 |ex (c:Addr)
 |no
inductive AL (K:z01) (F H:Hp):List Bool->List L2.V->List D->List Addr->Prop
 |nil:AL K F H [] [] [] []
 |val {v:L2.V} {d:D} {io:List Bool} {vs:List L2.V} {ds:List D} {fp:List Addr} (h:R K F v d) (r:AL K F H io vs ds fp):AL K F H (false::io) (v::vs) (d::ds) fp
 |io {v:L2.V} {d:D} {io:List Bool} {vs:List L2.V} {ds:List D} {f fp:List Addr} (h:O K F H v d f) (r:AL K F H io vs ds fp):AL K F H (true::io) (v::vs) (d::ds) (f++fp)
def ioV:List Bool->List L2.V->List L2.V
 |true::io,v::vs=>v::ioV io vs
 |false::io,_::vs=>ioV io vs
 |_,_=>[]
def RkF (rk:Kd)(K:z01)(F H:Hp)(v:L2.V)(d:D)(f:List Addr):Prop:=match rk with
 |.V=>R K F v d/\f=[]
 |.O=>O K F H v d f
 |_=>False
def spF (K:z01)(io:List Bool)(rk:Kd)(m:List D->Fr):Sp:=fun vs H Q E=>∃F ds fp,AL K F H io vs ds fp/\fp.Nodup/\(∀a∈fp,F a=none)/\Same F H/\match m ds with
 |.ok r outs=>∀F' H' v fr fo,Same F F'->Same F' H'->(∀b o,F' b=some o->F b=some o\/Nw H b o)->(∀b o,H b=some o->b∉fp->H' b=some o)->(∀b,H' b=none->H b=none)->RkF rk K F' H' v r fr->OL K F' H' (ioV io vs) outs fo->
   (fr++fo).Nodup->(∀a∈fr++fo,F' a=none)->(∀a∈fr,H a=none)->(∀a∈fo,a∈fp\/H a=none)->Q v H'
 |.ex c=>∀H',(∀b o,H b=some o->b∉fp->H' b=some o)->(∀b,H' b=none->H b=none)->E (.ref c) none H'
 |.no=>False
theorem AL.len {K:z01}{F H:Hp}{io:List Bool}{vs:List L2.V}{ds:List D}{fp:List Addr}(h:AL K F H io vs ds fp):vs.length=io.length:=by
 induction h with
 |nil=>rfl
 |val _ _ ih=>rw[z30,z30,ih]
 |io _ _ ih=>rw[z30,z30,ih]
def kdOf:Option Nat->Kd
 |none=>.V
 |some i=>.S i
noncomputable def Qhm:List (Option Nat)->List D->List D->List D
 |none::as,d::ds,l=>d::Qhm as ds l
 |some _::as,_::ds,x::l=>x::Qhm as ds l
 |_,_,_=>[]
def QdJ (par:Bool)(as:List (Option Nat))(f:List D->Fr)(mr:MA):ME:=fun ρ=>(mr ρ).bind fun r=>(Rs.of (Yp par r.2 (as.filterMap id))).bind fun dis=>match f (Qhm as r.1 dis) with
 |.ok d outs=>.ok (d,YA par r.2 (as.filterMap id) outs)
 |.ex c=>if(as.filterMap id).isEmpty=true then .ex c r.2 else .no
 |.no=>.no
def Qav (X:Cx)(E:XE):Prop:=∀(pins:List @12) (σ:L2.St) (H:Hp) (s:Shared) (e:Value) (s':Shared),Inv X pins σ H s->CXe X.prog X.w X.stack H s (E σ) e s'->X.xe e s'
def QfH (sp:Sp)(E:XE)(t:TA):TE:=fun σ H Q=>t σ H fun vs H1=>sp vs H1 Q (E σ)
section
variable {X:Cx}{C:Cn}{E:XE}{p pa:Bool}{e a b:Expr}{es:List Expr}{m:ME}{mr:MA}{pos:Pos}{rk:Kd}{ks:List Kd}{n:Nat}{ps:List Str}{sp:Sp}{x:Str}{px:Pos}{t:TA}
theorem Qe6 {f:Addr}{fd:FuncData}{pins:List @12}{σ:L2.St}{H:Hp}{s:Shared}{Q:VK}{us:List Value}{vs:List L2.V}(F:FnOk X.prog X.w X.K X.mg X.base (CXe X.prog X.w) n f fd ps sp)(hr:Room n X.A)(hb:Binds X.K fd ps [])(hx:Qav X E)
  (I:Inv X pins σ H s) (r:Vals vs us) (h:sp vs H Q (E σ)):wpAny @7 X.A (call (.ref f) us) (EP X pins σ Q) X.xe s:=by
 have hl:(us++[]).length=ps.length:=by rw[z71,← r.length];exact F.len _ _ _ _ h
 have hb':=hb s us I.kIn hl
 rw[z71] at hb'
 refine wpAny_call (zn3 (F.run X.A X.stack s H ⟨us,[]⟩ us vs Q (E σ) hr I.env0 hb' r h) fun r s' hq=>?_)
 cases r with
 |error e=>exact hx pins σ H s e s' I hq
 |ok fl=>
  cases fl with
  |ret u=>exact I.after hq
  |next=>exact zb7 hq
  |brk=>exact zb7 hq
  |cont=>exact zb7 hq
theorem Qhn (D:Qm X.prog X.w X.K X.mg X.base n x ps sp)(hx:Qav X E)(hr:Room n X.A)(ha:PA X (e::es) t)(hg:Gl X x:=by rfl)
  (hdb:@6=false:=by decide) (he:starEach (e::es) X.env=@15::starEach es X.env:=by rfl) (hpl:(backTo pos (starEach es X.env)).any (·.1)=false:=by rfl) :
  PE X (.Call (.Name x px) (e::es) [] pos) (QfH sp E t):=by
 obtain⟨f,fd,F,hm,hk,hb⟩:=D.ex
 intro pins s σ H Q I h
 refine z76 (ld_glob I hg hm ?_ hdb)
 refine zm1 (h₀:=X.base) I.ok.mod.kin hk (thn (ha pos pins s σ H _ I h) fun us s1 hz=>?_) he hpl
 obtain⟨vs,H1,I1,r,q⟩:=hz
 refine⟨I1.kIn,?_⟩
 exact Qe6 F hr hb hx I1 r q
theorem Qho:∀{as:List (Option Nat)} {vs:List L2.V} {ds:List D} {τ:List (L2.V×D)},tkL (as.map kdOf) vs ds τ=τ
 | [],_,_,_=>by unfold tkL;rfl
 |none::as,[],_,_=>by unfold tkL;rfl
 |none::as,_::_,[],_=>by unfold tkL;rfl
 |none::as,v::vs,d::ds,τ=>by
  show tkL (Kd.V::as.map kdOf) (v::vs) (d::ds) τ=τ
  unfold tkL;exact Qho
 |some i::as,[],_,_=>by unfold tkL;rfl
 |some i::as,_::_,[],_=>by unfold tkL;rfl
 |some i::as,v::vs,d::ds,τ=>by
  show tkL (Kd.S i::as.map kdOf) (v::vs) (d::ds) τ=τ
  unfold tkL;exact Qho
theorem QpJ {F H:Hp}{fp:List Addr}{σ:L2.St}:∀{as:List (Option Nat)} {vs:List L2.V} {ds:List D} {vi:List L2.V} {di:List D} {f:List Addr},FcL C F H fp σ (as.map kdOf) vs ds->Sig σ (as.filterMap id) vi->OL C.K F H vi di f->
  AL C.K F H (as.map (·.isSome)) vs (Qhm as ds di) f/\ioV (as.map (·.isSome)) vs=vi:=by
 intro as
 induction as with
 |nil=>intro _ _ _ _ _ h1 h2 h3;cases h1;cases h2;cases h3;exact⟨.nil,rfl⟩
 |cons a as ih=>
  intro _ _ vi di f h1 sg ol
  cases a with
  |none=>
   have h1:FcL C F H fp σ (_::as.map kdOf) _ _:=h1
   cases h1 with
   |cons h r=>
    obtain⟨q1,q2⟩:=ih r sg ol
    exact⟨.val h q1,q2⟩
  |some i=>
   have h1:FcL C F H fp σ (_::as.map kdOf) _ _:=h1
   have sg2:Sig σ (i::as.filterMap id) vi:=sg
   cases h1 with
   |cons h r=>cases sg2 with
    |cons e sg3=>cases ol with
     |cons o ol=>
      obtain⟨q1,q2⟩:=ih r sg3 ol
      have ev:=z35 (z35 (Eq.trans (Eq.symm (show σ[i]? = some (some _) from h)) e))
      subst ev
      exact⟨.io o q1,congrArg _ q2⟩
theorem Qjh {par:Bool}{as:List (Option Nat)}{f:List D->Fr}(nd:(as.filterMap id).Nodup)(hrk:rk=.V\/rk=.O)(hp:p=true->(as.filterMap id)=[]){σ:L2.St}{H:Hp}{Q:VK}(h:tX rk C (pa && p) E (QdJ par as f mr) σ H Q) :
  QfH (spF C.K (as.map (·.isSome)) rk f) E (tA (as.map kdOf) C pa E mr) σ H Q:=by
 obtain⟨F,ρ,τ,fp,I,h⟩:=h
 refine⟨F,ρ,τ,fp,I,h.split.mono fun r hr F1 H1 fp1 vs I1 n1 f1=>?_⟩
 rw[Qho] at I1
 obtain⟨dis,eg,h2⟩:=hr.split.of
 obtain⟨vi,fl,rest,sg,ol,pm,w,cl⟩:=I1.lend nd eg
 obtain⟨al,eio⟩:=QpJ f1 sg ol
 have ndp:=pm.nodup_iff.mp I1.nd
 have inl:∀a∈fl,a∈fp1:=fun a ha=>pm.mem_iff.mpr (z15 _ ha)
 have inr:∀a∈rest,a∈fp1:=fun a ha=>pm.mem_iff.mpr (z04 _ ha)
 have QqS:∀a∈rest,a∉fl:=fun a ha hf=>(z17.mp ndp).2.2 a hf a ha rfl
 refine⟨F1,_,fl,al,(z17.mp ndp).1,fun a ha=>I1.ap a (inl a ha),I1.fh,?_⟩
 cases ef:f (Qhm as r.1 dis) with
 |no=>rw[ef] at h2;exact h2
 |ex c=>
  rw[ef] at h2
  dsimp only at h2 ⊢
  intro H' kp' dm'
  by_cases hem:(as.filterMap id).isEmpty=true
  ·rw[if_pos hem] at h2
   have e0:as.filterMap id=[]:=by simpa using hem
   have ef0:fl=[]:=by
    rw[e0] at sg
    cases sg
    cases ol
    rfl
   subst ef0
   have J:SI C F1 H' σ r.2 τ fp1:=I1.step (Same.refl _) (fun b o e=>kp' b o (I1.fh b o e) @9) (fun a ha=>by
    obtain⟨o,e,_⟩:=I1.mem a ha
    rw[e,kp' a o e @9]) I1.ap (fun _ _ z=>.inl z) (fun b o _ _ e=>kp' b o e @9) dm'
   obtain⟨fp2,J2⟩:=J.drop
   exact h2 F1 H' fp2 J2
  ·rw[if_neg hem] at h2;exact h2.elim
 |ok d outs=>
  rw[ef] at h2
  dsimp only at h2 ⊢
  intro F' H' v fr fo sF fh' fn' kp' dm' rf ol' nd' ap' frn fon
  rw[eio] at ol'
  have hrest:∀a∈rest,H' a=H1 a:=fun a ha=>by
   obtain⟨o,e,_⟩:=I1.mem a (inr a ha)
   rw[e,kp' a o e (QqS a ha)]
  have Qa1:∀a∈fp1,H1 a≠none:=fun a ha z=>by
   obtain⟨o,e,_⟩:=I1.mem a ha
   rw[z] at e;cases e
  have apr:∀a∈rest,F' a=none:=fun a ha=>by
   cases e:F' a with
   |none=>rfl
   |some o=>
    rcases fn' a o e with z|z
    ·rw[I1.ap a (inr a ha)] at z;cases z
    ·obtain⟨o2,e2,m2⟩:=I1.mem a (inr a ha)
     exact(z.not (Qa1 a (inr a ha)) (fh' a o e) ((hrest a ha).trans e2) m2).elim
  have QpK:=z17.mp nd'
  have QpL:∀a∈fo,a∉rest:=fun a ha hr=>by
   rcases fon a ha with z|z
   ·exact QqS a hr z
   ·exact Qa1 a (inr a hr) z
  have J:=cl sF fh' hrest dm' (fun b o e n z=>kp' b o z fun hb=>by
   rcases w b hb with y|y
   ·rw[y] at e;cases e
   ·exact n y.2) (fun b o e=>(fn' b o e).imp id fun z=>z.up fun y=>I1.dm b y) ol' (z17.mpr ⟨QpK.2.1,(z17.mp ndp).2.1,fun a ha b hb z=>QpL a ha (z▸hb)⟩) (fun a ha=>(z14.mp ha).elim (fun z=>ap' a (z04 _ z)) (apr a)) (fun a ha=>(fon a ha).elim (w a) fun z=>.inl (I1.dm a z))
  have nxt:∀{fp':List Addr},(∀a∈rest,a∈fp')->(∀a,F1 a≠none->a∉fp')->Nx (pa && p) F H fp F' H' fp':=fun{fp'} sub nin=>by
   refine n1.trans (q:=p) ⟨sF,fun hpp b o e=>?_⟩
   have ef0:fl=[]:=by
    rw[hp hpp] at sg
    cases sg
    cases ol
    rfl
   subst ef0
   by_cases hb:b∈fp1
   ·have hb':b∈rest:=by simpa using pm.mem_iff.mp hb
    rw[JB hb] at e
    rw[JB (sub b hb')]
    exact kp' b o e @9
   ·rw[QG hb] at e
    rw[QG (nin b (by rw[e];simp))]
    exact sF b o e
  rcases hrk with rfl|rfl
  ·obtain⟨rv,rfl⟩:=rf
   refine h2 F' H' _ v J (nxt (fun a ha=>z04 _ ha) fun a hF hm=>?_) rv
   rcases z14.mp hm with z|z
   ·rw[Same.free sF (ap' a z)] at hF;exact hF rfl
   ·rw[I1.ap a (inr a z)] at hF;exact hF rfl
  ·have Qhp:(fr++(fo++rest)).Nodup:=z17.mpr ⟨QpK.1,J.nd,fun a ha b hb z=>by
    subst z
    rcases z14.mp hb with y|y
    ·exact QpK.2.2 a ha a y rfl
    ·exact Qa1 a (inr a y) (frn a ha)⟩
   refine h2 F' H' _ v (J.push rf (fun a ha=>I1.dm a (frn a ha)) (fun a ha=>ap' a (z15 _ ha)) Qhp) (nxt (fun a ha=>z04 _ (z04 _ ha)) fun a hF hm=>?_) z50
   rcases z14.mp hm with z|z
   ·rw[Same.free sF (ap' a (z15 _ z))] at hF;exact hF rfl
   ·rcases z14.mp z with z|z
    ·rw[Same.free sF (ap' a (z04 _ z))] at hF;exact hF rfl
    ·rw[I1.ap a (inr a z)] at hF;exact hF rfl
theorem Y8 {par:Bool}{as:List (Option Nat)}{f:List D->Fr}(D:Qm X.prog X.w X.K X.mg X.base n x ps (spF C.K (as.map (·.isSome)) rk f))(hx:Qav X E)(hr:Room n X.A)(ha:PA X (e::es) (tA (as.map kdOf) C pa E mr))(hrk:rk=.V\/rk=.O:=by first|exact .inl rfl|exact .inr rfl)(nd:(as.filterMap id).Nodup:=by decide)(hp:p=true->as.filterMap id=[]:=by decide)(hg:Gl X x:=by rfl)
  (hdb:@6=false:=by decide) (he:starEach (e::es) X.env=@15::starEach es X.env:=by rfl) (hpl:(backTo pos (starEach es X.env)).any (·.1)=false:=by rfl) :
  PE X (.Call (.Name x px) (e::es) [] pos) (tX rk C (pa && p) E (QdJ par as f mr)):=Ql (Qhn D hx hr ha hg hdb he hpl) fun _ _ _ h=>Qjh nd hrk hp h
theorem O.loB {K:z01}{F H:Hp}{L:List Addr}(hl:∀b∈L,∀o,F b=some o->Mbl o):(∀v d fp,O K F H v d fp->O K (lo F L) H v d fp)/\∀v d fp,OL K F H v d fp->OL K (lo F L) H v d fp:=
 O.ind .sc (fun m h q=>.im m (h.lo m hl) q) .mt .nil .cons
theorem O.lo {K:z01}{F H:Hp}{L:List Addr}(hl:∀b∈L,∀o,F b=some o->Mbl o){v:L2.V}{d:D}{fp:List Addr}(h:O K F H v d fp):O K (lo F L) H v d fp:=(O.loB hl).1 _ _ _ h
def VM (rk:Kd)(f:List D->Fr)(mr:MA):ME:=fun ρ=>(mr ρ).bind fun r=>match f r.1 with
 |.ok d _=>match rk with
  |.V=>if d.imm=true then .ok (d,r.2) else .no
  |_=>.ok (d,r.2)
 |.ex c=>.ex c r.2
 |.no=>.no
theorem QkY {K:z01}{F H:Hp}:∀{vs:List L2.V} {ds:List D},RL K F vs ds->AL K F H (vs.map fun _=>false) vs ds []
 |_,_,.nil=>.nil
 |_,_,.cons h r=>.val h (QkY r)
theorem Qeo {f:List D->Fr}{io:List Bool}(hio:io.all (!·)=true)(hl:io.length=ks.length)(hrk:rk=.V\/rk=.O)(ok:rdL ks=true){σ:L2.St}{H:Hp}{Q:VK}(h:tX rk C pa E (VM rk f mr) σ H Q):QfH (spF C.K io rk f) E (tA ks C pa E mr) σ H Q:=by
 obtain⟨F,ρ,τ,fp,I,h⟩:=h
 refine⟨F,ρ,τ,fp,I,h.split.mono fun r hr F1 H1 fp1 vs I1 n1 f1=>?_⟩
 rw[JD ok] at I1
 have rl:=f1.rd I1 ok
 have hlen:vs.length=ks.length:=by
  have:∀{ks:List Kd} {vs:List L2.V} {ds:List D},FcL C F1 H1 fp1 σ ks vs ds->vs.length=ks.length:=by
   intro ks vs ds z
   induction z with
   |nil=>rfl
   |cons _ _ ih=>rw[z30,z30,ih]
  exact this f1
 have eio:io=vs.map fun _=>false:=by
  have:∀{io:List Bool} {n:Nat},io.all (!·)=true->io.length=n->io=z40 n false:=by
   intro io
   induction io with
   |nil=>intro n _ e;subst e;rfl
   |cons x io ih=>
    intro n h e
    subst e
    rw[zt5,z99] at h
    rw[z30,z91,← ih h.2 rfl]
    have:x=false:=by simpa using h.1
    rw[this]
  rw[this hio (hl.trans hlen.symm)]
  exact(List.map_const' ..).symm
 have hmt:∀{F':Hp},Same (jn F1 H1 fp1) F'->∀b∈fp1,∀o,F' b=some o->Mbl o:=fun{F'} s b hb o e=>by
  obtain⟨o',e',z⟩:=I1.mem b hb
  have q:=s b o' (by rw[JB hb];exact e')
  rw[e] at q;cases q
  exact z
 refine⟨jn F1 H1 fp1,r.1,[],by rw[eio];exact QkY rl,za2,@5,Yd I1.fh,?_⟩
 cases ef:f r.1 with
 |no=>rw[ef] at hr;exact hr
 |ex c=>
  rw[ef] at hr
  dsimp only at hr ⊢
  intro H' kp' dm'
  have J:SI C F1 H' σ r.2 τ fp1:=I1.step (Same.refl _) (fun b o e=>kp' b o (I1.fh b o e) @9) (fun a ha=>by
   obtain⟨o,e,_⟩:=I1.mem a ha
   rw[e,kp' a o e @9]) I1.ap (fun _ _ z=>.inl z) (fun b o _ _ e=>kp' b o e @9) dm'
  obtain⟨fp2,J2⟩:=J.drop
  exact hr F1 H' fp2 J2
 |ok d outs=>
  rw[ef] at hr
  dsimp only at hr ⊢
  intro F' H' v fr fo sF fh' fn' kp' dm' rf ol' nd' ap' frn fon
  have sN:Same F1 (lo F' fp1):=fun b o e=>by
   have nb:b∉fp1:=fun z=>by rw[I1.ap b z] at e;cases e
   rw[Yz nb]
   exact sF b o (by rw[QG nb];exact e)
  have J:SI C (lo F' fp1) H' σ r.2 τ fp1:=by
   refine I1.step sN (lo_le.trans fh') (fun a ha=>?_) (fun a ha=>Qej ha) (fun b o e=>?_) (fun b o _ _ e=>kp' b o e @9) dm'
   ·obtain⟨o,e,_⟩:=I1.mem a ha
    rw[e,kp' a o e @9]
   ·have nb:b∉fp1:=fun z=>by rw[Qej z] at e;cases e
    rw[Yz nb] at e
    rcases fn' b o e with z|z
    ·rw[QG nb] at z;exact .inl z
    ·exact .inr (z.up fun y=>I1.dm b y)
  have Qm7:∀{fp':List Addr},(∀a∈fp1,a∈fp')->(∀a,F1 a≠none->a∉fp')->Nx pa F H fp (lo F' fp1) H' fp':=fun{fp'} sub nin=>by
   refine(n1.trans (q:=true) ⟨sN,fun _ b o e=>?_⟩).weak fun z=>by simp[z]
   by_cases hb:b∈fp1
   ·rw[JB hb] at e
    rw[JB (sub b hb)]
    exact kp' b o e @9
   ·rw[QG hb] at e
    rw[QG (nin b (by rw[e];simp))]
    exact sN b o e
  have Qa1:∀a∈fp1,H1 a≠none:=fun a ha z=>by
   obtain⟨o,e,_⟩:=I1.mem a ha
   rw[z] at e;cases e
  rcases hrk with rfl|rfl
  ·obtain⟨rv,rfl⟩:=rf
   dsimp only at hr
   by_cases hi:d.imm=true
   ·rw[if_pos hi] at hr
    exact hr _ H' fp1 v J (Qm7 (fun a ha=>ha) fun a hF hm=>hF (I1.ap a hm)) (R.lo (hmt sF) rv hi)
   ·rw[if_neg hi] at hr;exact hr.elim
  ·dsimp only at hr
   have Qhp:(fr++fp1).Nodup:=z17.mpr ⟨(z17.mp nd').1,I1.nd,fun a ha b hb z=>by
    subst z;exact Qa1 a hb (frn a ha)⟩
   refine hr _ H' _ v (J.push (O.lo (hmt sF) rf) (fun a ha=>I1.dm a (frn a ha)) (fun a ha=>lo_le.free (ap' a (z15 _ ha))) Qhp) (Qm7 (fun a ha=>z04 _ ha) fun a hF hm=>?_) z50
   rcases z14.mp hm with z|z
   ·exact hF (I1.fh.free (frn a z))
   ·exact hF (I1.ap a z)
theorem QB {io:List Bool}{f:List D->Fr}(D:Qm X.prog X.w X.K X.mg X.base n x ps (spF C.K io rk f))(hx:Qav X E)(hr:Room n X.A)(ha:PA X (e::es) (tA ks C pa E mr))(hio:io.all (!·)=true:=by rfl)(hl:io.length=ks.length:=by rfl)(hrk:rk=.V\/rk=.O:=by first|exact .inl rfl|exact .inr rfl)(ok:rdL ks=true:=by rfl)(hg:Gl X x:=by rfl)
  (hdb:@6=false:=by decide) (he:starEach (e::es) X.env=@15::starEach es X.env:=by rfl) (hpl:(backTo pos (starEach es X.env)).any (·.1)=false:=by rfl) :
  PE X (.Call (.Name x px) (e::es) [] pos) (tX rk C pa E (VM rk f mr)):=Ql (Qhn D hx hr ha hg hdb he hpl) fun _ _ _ h=>Qeo hio hl hrk ok h
end
def slot0 (b:Bool)(d:D):Option Sl:=some (if b then .par d else .frz d)
def Qji (io:List Bool)(n:Nat)(ds:List D):Rho:=zd4 slot0 io ds++z40 (n - io.length) none
noncomputable def outs:List Bool->Rho->Option (List D)
 |true::io,some (.par d)::ρ=>(outs io ρ).map (d::·)
 |false::io,some (.par _)::ρ=>none
 |false::io,_::ρ=>outs io ρ
 | [],some (.par _)::ρ=>none
 | [],_::ρ=>outs [] ρ
 | [],[]=>some []
 |_,_=>none
def Qx (io:List Bool)(n:Nat)(mb:MS)(ds:List D):Fr:=match mb (Qji io n ds) with
 |.ok (.rt d,ρ)=>match outs io ρ with
  |some os=>.ok d os
  |none=>.no
 |.ok (.nx,ρ)=>match outs io ρ with
  |some os=>.ok .non os
  |none=>.no
 |.ex c _=>.ex c
 |_=>.no
def QQ:Nat->List Bool->List L2.V->List (Nat×L2.V)
 |j,true::io,v::vs=>(j,v)::QQ (j+1) io vs
 |j,false::io,_::vs=>QQ (j+1) io vs
 |_,_,_=>[]
section
variable {K:z01}{F H:Hp}
theorem QfI {N:List Str}{io:List Bool}{vs:List L2.V}{ds:List D}{fp:List Addr}{r:Nat}(al:AL K F H io vs ds fp):SL K F H (vs.map some++z40 r none) (zd4 slot0 io ds++z40 r none) [] fp:=by
 induction al with
 |nil=>
  induction r with
  |zero=>exact .nil
  |succ r ih=>exact .cons (f0:=[]) (g0:=[]) .non ih
 |val h al ih=>exact .cons (f0:=[]) (g0:=[]) (.frz h) ih
 |io h al ih=>exact .cons (f0:=[]) (.par h) ih
theorem Qjj {io:List Bool}{vs:List L2.V}{ds:List D}{fp:List Addr}{j0 j:Nat}{v:L2.V}{r:Nat}(al:AL K F H io vs ds fp):(j,v)∈QQ j0 io vs->∃i,j=j0+i/\(vs.map some++z40 r (none:Option L2.V))[i]? = some (some v)/\∃d,(zd4 slot0 io ds++z40 r none)[i]? = some (some (.par d)):=by
 induction al generalizing j0 with
 |nil=>intro hm;unfold QQ at hm;exact nomatch hm
 |val h al ih=>
  intro hm
  unfold QQ at hm
  obtain⟨i,e,h1,d,h2⟩:=ih hm
  exact⟨i+1,by lia,h1,d,h2⟩
 | @io _ _ _ d0 _ _ _ h al ih=>
  intro hm
  unfold QQ at hm
  rcases z19.mp hm with e|hm
  ·cases e
   exact⟨0,rfl,rfl,_,rfl⟩
  ·obtain⟨i,e,h1,d,h2⟩:=ih hm
   exact⟨i+1,by lia,h1,d,h2⟩
theorem Qhq {io:List Bool}:∀{vs:List L2.V} {j0 j:Nat} {u:L2.V},(j,u)∈QQ j0 io vs->j0<=j:=by
 induction io with
 |nil=>intro vs j0 j u z;unfold QQ at z;exact nomatch z
 |cons b io ih=>
  intro vs j0 j u z
  cases vs with
  |nil=>cases b<;>(unfold QQ at z;exact nomatch z)
  |cons w vs=>
   cases b with
   |false=>unfold QQ at z;exact Nat.le_of_succ_le (ih z)
   |true=>
    unfold QQ at z
    rcases z19.mp z with e|z
    ·cases e;exact z32 _
    ·exact Nat.le_of_succ_le (ih z)
theorem Qhr {b:Bool}{io:List Bool}{v:L2.V}{vs:List L2.V}{j0:Nat}{σ:L2.St}{x:Option L2.V}(hp:∀j u,(j,u)∈QQ j0 (b::io) (v::vs)->∃i,j=j0+i/\(x::σ)[i]? = some (some u))(j:Nat)(u:L2.V)(z:(j,u)∈QQ (j0+1) io vs):∃i,j=j0+1+i/\σ[i]? = some (some u):=by
 obtain⟨i,e,q⟩:=hp j u (by cases b<;>(unfold QQ;first|exact z|exact z08 _ z))
 have lb:=Qhq z
 cases i with
 |zero=>lia
 |succ i=>exact⟨i,by lia,q⟩
theorem Qhs {σ:L2.St}{ρ:Rho}{f g:List Addr}(sl:SL K F H σ ρ f g):∀{io:List Bool} {vs:List L2.V} {os:List D} {j0:Nat},outs io ρ=some os->vs.length=io.length->(∀j v,(j,v)∈QQ j0 io vs->∃i,j=j0+i/\σ[i]? = some (some v))->OL K F H (ioV io vs) os g:=by
 induction sl with
 |nil=>
  intro io vs os j0 h l hp
  cases io with
  |nil=>
   cases vs with
   |nil=>unfold outs at h;cases h;unfold ioV;exact .nil
   |cons=>cases l
  |cons b io=>cases b<;>(unfold outs at h;cases h)
 |cons s r ih=>
  intro io vs os j0 h l hp
  cases io with
  |nil=>
   cases vs with
   |cons=>cases l
   |nil=>
    have hn:∀{σ:L2.St} (j:Nat) (v:L2.V),(j,v)∈QQ j0 [] []->∃i,j=j0+i/\σ[i]? = some (some v):=fun j v z=>by unfold QQ at z;exact nomatch z
    cases s with
    |par _=>unfold outs at h;cases h
    |non=>unfold outs at h;exact ih (vs:=[]) h rfl hn
    |frz _=>unfold outs at h;exact ih (vs:=[]) h rfl hn
    |own _=>unfold outs at h;exact ih (vs:=[]) h rfl hn
  |cons b io=>
   cases vs with
   |nil=>cases l
   |cons v vs=>
    have l':vs.length=io.length:=zj7 l
    have tl:=Qhr hp
    cases b with
    |false=>
     unfold ioV
     cases s with
     |par _=>unfold outs at h;cases h
     |non=>unfold outs at h;exact ih h l' tl
     |frz _=>unfold outs at h;exact ih h l' tl
     |own _=>unfold outs at h;exact ih h l' tl
    |true=>
     obtain⟨i0,e0,q0⟩:=hp j0 v (by unfold QQ;exact z07)
     have:i0=0:=by lia
     subst this
     unfold ioV
     cases s with
     |non=>unfold outs at h;cases h
     |frz _=>unfold outs at h;cases h
     |own _=>unfold outs at h;cases h
     |par o=>
      unfold outs at h
      obtain⟨r',hr',rfl⟩:=z03.mp h
      have ev:v=_:=(z35 (z35 q0)).symm
      subst ev
      exact .cons o (ih hr' l' tl)
end
theorem fnT {P:Program}{w:World}{K:z01}{mg:Str->Option Value}{base:Heap}{x qual:Str}{st:Stmt}{f:Addr}{fd:FuncData}{N ps:List Str}{k:Nat}{io:List Bool}{rk:Kd}{mb:MS}(Fn:Fun K x qual st f fd)(S:FnScope N ps (defScope st))(hio:io.length=ps.length)(hrk:rk=.V\/rk=.O)
  (hbody:∀(cdv:Value) (A:Around) (outer:List Env) (s:Shared) (H:Hp) (E:XK) (C:Cn),C.K=K->Room k (A.deeper (zd3 qual (defScope st) s.heap.objs.size f cdv))->A.handled=none->
   PSs (cxOf (CXe P w) P w K mg base N qual (defScope st) f cdv A outer s H E) (defBody st) (tS rk C (fun _=>E) mb)):FnOk P w K mg base (CXe P w) (k+1) f fd ps (spF K io rk (Qx io N.length mb)):=by
 refine Fn.okE S (fun vs H Q E h=>?_) (fun cdv A outer s H vs Q E hr hd h=>?_)
 ·obtain⟨F,ds,fp,al,_⟩:=h
  rw[al.len,hio]
 ·obtain⟨F,ds,fp,al,nd,ap,fh,h⟩:=h
  have hl:=al.len
  let C:Cn:=⟨K,H,F,fp,QQ 0 io vs⟩
  refine⟨_,hbody cdv A outer s H E C rfl hr hd,?_⟩
  have est:L2.start N vs=vs.map some++z40 (N.length - io.length) none:=by unfold L2.start;rw[hl]
  have I:SI C F H (L2.start N vs) (Qji io N.length ds) [] fp:=by
   rw[est]
   refine⟨⟨[],fp,[],QfI (N:=N) al,.nil,by simp,@5,@5,fun a ha=>.inl ha⟩,nd,ap,fh,Same.refl F,fun b o e=>.inl e,fun b o e _=>e,fun b e=>e,fun j v hj=>?_⟩
   obtain⟨i,e,h1,d,h2⟩:=Qjj (r:=N.length - io.length) al hj
   have e':j=i:=by lia
   subst e'
   exact⟨h1,d,h2⟩
  refine⟨F,_,fp,I,?_⟩
  unfold Qx at h
  -- what is handed back
  have fin:∀{os:List D} {ρ:Rho} {d:D} {F' H':Hp} {σ':L2.St} {fp':List Addr} {v:L2.V},outs io ρ=some os->SI C F' H' σ' ρ (rk.tk v d []) fp'->rk.fc C F' H' fp' σ' v d->(∀F' H' v fr fo,Same F F'->Same F' H'->(∀b o,F' b=some o->F b=some o\/Nw H b o)->(∀b o,H b=some o->b∉fp->H' b=some o)->(∀b,H' b=none->H b=none)->RkF rk K F' H' v d fr->OL K F' H' (ioV io vs) os fo->
    (fr++fo).Nodup->(∀a∈fr++fo,F' a=none)->(∀a∈fr,H a=none)->(∀a∈fo,a∈fp\/H a=none)->Q v H')->Q v H':=fun{os ρ d F' H' σ' fp' v} eo J fc q=>by
   obtain⟨f1,g1,t1,sl,ol,pm,w1,w2,w3⟩:=J.sl
   have og:=Qhs (j0:=0) (vs:=vs) sl eo hl (fun j u hj=>⟨j,by lia,(J.pr j u hj).1⟩)
   have ndp:=pm.nodup_iff.mp J.nd
   have inn:∀a,a∈f1\/a∈g1\/a∈t1->a∈fp':=fun a z=>pm.mem_iff.mpr (by simpa using z)
   rcases hrk with rfl|rfl
   ·exact q F' H' v [] g1 J.f0 J.fh J.fn J.kp J.dm ⟨fc,rfl⟩ og (z17.mp (z17.mp ndp).2.1).1 (fun a ha=>J.ap a (inn a (.inr (.inl ha)))) @5 w3
   ·cases ol with
    | @cons _ _ _ _ ta tb oa ob=>
     cases ob
     have e1:ta++[]=ta:=z71 ta
     refine q F' H' v ta g1 J.f0 J.fh J.fn J.kp J.dm oa og ?_ (fun a ha=>J.ap a (inn a (by rw[e1];exact(z14.mp ha).elim (fun z=>.inr (.inr z)) fun z=>.inr (.inl z)))) (fun a ha=>w2 a (by rw[e1];exact ha)) w3
     have n2:=(z17.mp ndp).2.1
     rw[e1] at n2
     exact(zu6).nodup_iff.mp n2
  cases eb:mb (Qji io N.length ds) with
  |no=>rw[eb] at h;exact h.elim
  |ex c ρ=>
   rw[eb] at h
   exact fun F' H' σ' fp' J=>h H' J.kp J.dm
  |ok q=>
   obtain⟨fl,ρ⟩:=q
   rw[eb] at h
   cases fl with
   |bk=>exact h.elim
   |ct=>exact h.elim
   |nx=>
    dsimp only at h
    cases eo:outs io ρ with
    |none=>rw[eo] at h;exact h.elim
    |some os=>
     rw[eo] at h
     refine fun F' H' σ' fp' s' J=>?_
     rcases hrk with rfl|rfl
     ·exact fin (d:=.non) (v:=.non) eo J (.sc rfl) h
     ·exact fin (d:=.non) (v:=.non) eo (J.push (f:=[]) (.sc rfl) @5 @5 (by simpa using J.nd)) z50 h
   |rt d=>
    dsimp only at h
    cases eo:outs io ρ with
    |none=>rw[eo] at h;exact h.elim
    |some os=>
     rw[eo] at h
     exact fun F' H' σ' fp' v s' J fc=>fin eo J fc h
inductive Cp where
 |me|fz (i:Nat)|io (i:Nat)
def Cp.ix:Cp->Option Nat
 |.me=>none
 |.fz i=>some i
 |.io i=>some i
def Cp.is:Cp->Option Nat
 |.io i=>some i
 |_=>none
noncomputable def QaS (ρ:Rho):List Cp->List D->Option Rho
 | [],_=>some []
 |.me::cs,di=>(QaS ρ cs di).map (none::·)
 |.fz i::cs,di=>match ρ[i]? with
  |some (some (.frz d))=>(QaS ρ cs di).map (some (.frz d)::·)
  |some none=>(QaS ρ cs di).map (none::·)
  |_=>none
 |.io _::cs,d::di=>(QaS ρ cs di).map (some (.par d)::·)
 |.io _::_,[]=>none
def ioB:List Cp->List Bool:=zq5 fun c=>match c with
 |.io _=>true
 |_=>false
def Qa2 (j:Nat)(tc:MT)(te:ME):List D->Rho->List D->Rs (List D×Rho)
 | [],ρ,acc=>.ok (acc,ρ)
 |d::ds,ρ,acc=>(Rs.of (V7 ρ j d)).bind fun ρ0=>(tc ρ0).bind fun c=>if c.1=true then(te c.2).bind fun r=>if acc.length<z18 then Qa2 j tc te ds (r.2.set j none) (acc++[r.1]) else .no
  else Qa2 j tc te ds (c.2.set j none) acc
def Yq (par:Bool)(cs:List Cp)(j:Nat)(mi:MA)(tc:MT)(te:ME):ME:=fun ρ=>(mi ρ).bind fun r=>(Rs.of (Yp par r.2 @16)).bind fun di=>(Rs.of (QaS r.2 cs di)).bind fun ρb=>
 match Qa2 j tc te r.1 ρb [] with
 |.ok q=>(Rs.of (outs (ioB cs) q.2)).bind fun os=>.ok (.lst q.1,YA par r.2 @16 os)
 |_=>.no
abbrev EF:XE:=fun _ _ _ _=>False
theorem Y3 {X:Cx}:Qav X EF:=fun pins σ H s e s' I h=>by
 obtain⟨_,_,_,_,_,_,_,_,_,k⟩:=h
 exact k.elim
theorem Run.ef {C:Cn}{σ:L2.St}{α:Type}{r:Rs α}{a:α}{k:α->Prop}(e:r=.ok a)(h:k a):Run C EF σ r k:=by rw[e];exact h
section
variable {K:z01}{F H:Hp}
theorem Qm8 {vs:List L2.V}{ds:List D}{f:List Addr}(r:OL K F H vs ds f):∃f',OL K F H vs.reverse ds.reverse f'/\f.Perm f':=
 ((O.ind (P:=fun v d f=>O K F H v d f) (Q:=fun vs ds f=>OL K F H vs ds f/\∃f',OL K F H vs.reverse ds.reverse f'/\f.Perm f') .sc (fun m h q=>.im m h q.1) (fun h q=>.mt h q.1) ⟨.nil,[],.nil,.refl _⟩ (fun{_ _ _ _ f g} h q=>⟨.cons h q.1,by
  obtain⟨f',o,p⟩:=q.2
  refine⟨f'++(f++[]),by rw[zd9,zd9];exact o.app (.cons h .nil),?_⟩
  rw[z71]
  exact(zu6).trans (p.append_right f)⟩)).2 _ _ _ r).2
theorem Qht {α β:Type}:∀{l:List α} {m:List β},l.length=m.length->(l.zip m).map (·.1)=l
 | [],[],_=>rfl
 | [],_::_,h=>by cases h
 |_::_,[],h=>by cases h
 |a::l,b::m,h=>by rw[z82,z33,Qht (by simpa using h)]
theorem Qhu {α β:Type}:∀{l:List α} {m:List β},l.length=m.length->(l.zip m).map (·.2)=m
 | [],[],_=>rfl
 | [],_::_,h=>by cases h
 |_::_,[],h=>by cases h
 |a::l,b::m,h=>by rw[z82,z33,Qhu (by simpa using h)]
theorem Qep {C:Cn}{σ:L2.St}{ρ:Rho}{τ:List (L2.V×D)}{fp:List Addr}(I:SI C F H σ ρ τ fp)(hK:C.K=K):∀{cs:List Cp} {vi:List L2.V} {di:List D} {f:List Addr} {ρb:Rho},Sig σ @16 vi->OL K F H vi di f->QaS ρ cs di=some ρb->SL K F H (Q0 (cs.map Cp.ix) σ) ρb [] f
 | [],_,_,_,_,.nil,.nil,h=>by unfold QaS at h;cases h;exact .nil
 |.me::cs,vi,di,f,ρb,sg,ol,h=>by
  unfold QaS at h
  obtain⟨r,hr,rfl⟩:=z03.mp h
  exact .cons (f0:=[]) (g0:=[]) .non (Qep I hK sg ol hr)
 |.fz i::cs,vi,di,f,ρb,sg,ol,h=>by
  unfold QaS at h
  split at h
  ·next d e=>
   obtain⟨r,hr,rfl⟩:=z03.mp h
   obtain⟨x,f0,g0,rest,ex,s1,_⟩:=I.cut e
   cases s1 with
   | @frz v _ hd=>
    have e2:Q0 ((Cp.fz i::cs).map Cp.ix) σ=some v::Q0 (cs.map Cp.ix) σ:=by
     unfold Q0
     rw[z33,z33]
     show((some i).bind fun i=>(σ[i]?).join)::_=_
     rw[zg5,ex]
     rfl
    rw[e2]
    exact .cons (f0:=[]) (g0:=[]) (.frz (hK▸hd)) (Qep I hK sg ol hr)
  ·obtain⟨r,hr,rfl⟩:=z03.mp h
   exact .cons (f0:=[]) (g0:=[]) .non (Qep I hK sg ol hr)
  ·cases h
 |.io i::cs,_,_,_,ρb,.cons (v:=v) e sg,.cons o ol,h=>by
  unfold QaS at h
  obtain⟨r,hr,rfl⟩:=z03.mp h
  have e2:Q0 ((Cp.io i::cs).map Cp.ix) σ=some v::Q0 (cs.map Cp.ix) σ:=by
   unfold Q0
   rw[z33,z33]
   show((some i).bind fun i=>(σ[i]?).join)::_=_
   rw[zg5,e]
   rfl
  rw[e2]
  exact .cons (f0:=[]) (.par o) (Qep I hK sg ol hr)
def vsB:List Cp->List L2.V->List L2.V
 |.io _::cs,v::vi=>v::vsB cs vi
 |.io _::cs,[]=>.non::vsB cs []
 |_::cs,vi=>.non::vsB cs vi
 | [],_=>[]
theorem Qcf:∀{cs:List Cp} {vi:List L2.V},(vsB cs vi).length=(ioB cs).length
 | [],_=>by unfold vsB;rfl
 |.me::cs,vi=>by unfold vsB;rw[z30,Qcf];rfl
 |.fz i::cs,vi=>by unfold vsB;rw[z30,Qcf];rfl
 |.io i::cs,[]=>by unfold vsB;rw[z30,Qcf];rfl
 |.io i::cs,v::vi=>by unfold vsB;rw[z30,Qcf];rfl
theorem QdK {σ:L2.St}:∀{cs:List Cp} {vi:List L2.V},Sig σ @16 vi->ioV (ioB cs) (vsB cs vi)=vi
 | [],_,.nil=>rfl
 |.me::cs,vi,sg=>QdK (cs:=cs) sg
 |.fz i::cs,vi,sg=>QdK (cs:=cs) sg
 |.io i::cs,_,.cons e sg=>congrArg _ (QdK (cs:=cs) sg)
theorem Qhv {σ:L2.St}:∀{cs:List Cp} {vi:List L2.V} {j0 j:Nat} {v:L2.V},Sig σ @16 vi->(j,v)∈QQ j0 (ioB cs) (vsB cs vi)->∃i,j=j0+i/\(Q0 (cs.map Cp.ix) σ)[i]? = some (some v)
 | [],_,j0,j,v,.nil,h=>by
  have:(j,v)∈([]:List (Nat×L2.V)):=h
  exact nomatch this
 |.me::cs,vi,j0,j,v,sg,h=>by
  obtain⟨i,e,q⟩:=Qhv (cs:=cs) (j0:=j0+1) sg h
  exact⟨i+1,by lia,by unfold Q0 at q ⊢;simpa using q⟩
 |.fz _::cs,vi,j0,j,v,sg,h=>by
  obtain⟨i,e,q⟩:=Qhv (cs:=cs) (j0:=j0+1) sg h
  exact⟨i+1,by lia,by unfold Q0 at q ⊢;simpa using q⟩
 |.io i0::cs,_,j0,j,v,.cons (v:=v0) e0 sg,h=>by
  rcases z19.mp (show(j,v)∈(j0,v0)::QQ (j0+1) (ioB cs) (vsB cs _) from h) with e|h
  ·cases e
   refine⟨0,rfl,?_⟩
   unfold Q0
   rw[z33,z33]
   show some ((some i0).bind fun i=>(σ[i]?).join)=_
   rw[zg5,e0]
   rfl
  ·obtain⟨i,e,q⟩:=Qhv (cs:=cs) (j0:=j0+1) sg h
   exact⟨i+1,by lia,by unfold Q0 at q ⊢;simpa using q⟩
theorem Qc5 {σ:L2.St}{ρ:Rho}:∀{cs:List Cp} {vi:List L2.V} {di:List D} {ρb:Rho} {j0 j:Nat} {v:L2.V},QaS ρ cs di=some ρb->(j,v)∈QQ j0 (ioB cs) (vsB cs vi)->∃i,j=j0+i/\∃d,ρb[i]? = some (some (.par d))
 | [],_,_,_,j0,j,v,_,h=>by
  have:(j,v)∈([]:List (Nat×L2.V)):=h
  exact nomatch this
 |.me::cs,vi,di,ρb,j0,j,v,hc,h=>by
  unfold QaS at hc
  obtain⟨r,hr,rfl⟩:=z03.mp hc
  obtain⟨i,e,d,q⟩:=Qc5 (σ:=σ) (cs:=cs) (vi:=vi) (j0:=j0+1) hr h
  exact⟨i+1,by lia,d,by simpa using q⟩
 |.fz i0::cs,vi,di,ρb,j0,j,v,hc,h=>by
  unfold QaS at hc
  split at hc
  ·obtain⟨r,hr,rfl⟩:=z03.mp hc
   obtain⟨i,e,d,q⟩:=Qc5 (σ:=σ) (cs:=cs) (vi:=vi) (j0:=j0+1) hr h
   exact⟨i+1,by lia,d,by simpa using q⟩
  ·obtain⟨r,hr,rfl⟩:=z03.mp hc
   obtain⟨i,e,d,q⟩:=Qc5 (σ:=σ) (cs:=cs) (vi:=vi) (j0:=j0+1) hr h
   exact⟨i+1,by lia,d,by simpa using q⟩
  ·cases hc
 |.io i0::cs,vi,[],ρb,j0,j,v,hc,h=>by unfold QaS at hc;cases hc
 |.io i0::cs,vi,d0::di,ρb,j0,j,v,hc,h=>by
  unfold QaS at hc
  obtain⟨r,hr,rfl⟩:=z03.mp hc
  cases vi with
  |nil=>
   rcases z19.mp (show(j,v)∈(j0,V.non)::QQ (j0+1) (ioB cs) (vsB cs []) from h) with e|h
   ·cases e;exact⟨0,rfl,d0,rfl⟩
   ·obtain⟨i,e,d,q⟩:=Qc5 (σ:=σ) (cs:=cs) (vi:=[]) (j0:=j0+1) hr h
    exact⟨i+1,by lia,d,by simpa using q⟩
  |cons v0 vi=>
   rcases z19.mp (show(j,v)∈(j0,v0)::QQ (j0+1) (ioB cs) (vsB cs vi) from h) with e|h
   ·cases e;exact⟨0,rfl,d0,rfl⟩
   ·obtain⟨i,e,d,q⟩:=Qc5 (σ:=σ) (cs:=cs) (vi:=vi) (j0:=j0+1) hr h
    exact⟨i+1,by lia,d,by simpa using q⟩
end
section
variable {X:Cx}{C:Cn}{E:XE}{p pa pc pe:Bool}{m me:ME}{mt:MT}{mi:MA}{pos:Pos}{k rk:Kd}{elt iter:Expr}{x:Str}{px:Pos}{ifs:List Expr}{scope:Scope}{N:List Str}{cs:List Cp}{j:Nat}{par:Bool}
theorem SI.clr {F H:Hp}{σ:L2.St}{ρ:Rho}{τ:List (L2.V×D)}{fp:List Addr}{y:Option L2.V}{x:L2.V}(I:SI C F H (σ.set j y) ρ τ fp)(hj:σ[j]? = some none)(np:∀v,(j,v)∉C.Qe2):∃fp',SI C F H σ (ρ.set j none) τ fp':=by
 have lj:j<σ.length:=(z28.mp hj).1
 have lr:j<ρ.length:=by rw[← I.len,zb8];exact lj
 obtain⟨z,f0,g0,rest,ez,s1,pm,w0,w1,cl⟩:=I.cut (i:=j) (s:=ρ[j]) (z05 lr)
 have nd:=pm.nodup_iff.mp I.nd
 have q:=cl (x':=none) (s':=none) (f0':=[]) (g0':=[]) (Same.refl F) I.fh (fun _ _=>rfl) (fun _ z=>z) (fun _ _ _ _ z=>z) (fun _ _ z=>.inl z) .non (z17.mp (z17.mp nd).2.1).2.1 (fun a ha=>I.ap a (pm.mem_iff.mpr (by simp at ha;simp[ha]))) @5 @5 (fun v hv=>(np v hv).elim)
 rw[List.set_set,Ja hj] at q
 exact⟨_,q⟩
def exT (K:z01)(p:Bool)(m:MT):TT:=fun σ H Q=>∃Cb:Cn,Cb.K=K/\tT Cb p EF m σ H Q
def exX (k:Kd)(K:z01)(p:Bool)(m:ME):TE:=fun σ H Q=>∃Cb:Cn,Cb.K=K/\tX k Cb p EF m σ H Q
def Qe7:MT:=fun ρ=>.ok (true,ρ)
theorem QR {X:Cx}{K:z01}:PIf X [] (exT K true Qe7):=fun pins s σ H Q I ⟨Cb,_,F,ρ,τ,fp,J,h⟩=>QkG pins s σ H Q I (h F H fp J .refl)
theorem QfJ {X:Cx}{K:z01}{c:Expr}(h:∀Cb:Cn,Cb.K=K->PT X c (tT Cb p EF mt)):PIf X [c] (exT K p mt):=fun pins s σ H Q I ⟨Cb,hk,q⟩=>QkH (h Cb hk) pins s σ H Q I q
theorem Jn {X:Cx}{K:z01}{e:Expr}(h:∀Cb:Cn,Cb.K=K->PE X e (tX k Cb p EF m)):PE X e (exX k K p m):=fun pins s σ H Q I ⟨Cb,hk,q⟩=>h Cb hk pins s σ H Q I q
structure ItC (C:Cn)(F:Hp)(ds:List D)(J:It):Prop where
 go:∀{F' H:Hp} {σ:L2.St} {ρ:Rho} {τ:List (L2.V×D)} {fp:List Addr} {i:Nat} {d:D},SI C F' H σ ρ τ fp->Same F F'->ds[i]? = some d->J.go i H/\∀x H',J.yld i H x H'->∃F'',SI C F'' H' σ ρ τ fp/\Nx true F' H fp F'' H' fp/\R C.K F'' x d
 stop:∀{F' H:Hp} {σ:L2.St} {ρ:Rho} {τ:List (L2.V×D)} {fp:List Addr},SI C F' H σ ρ τ fp->Same F F'->J.stop ds.length H
def Y4 (tg:D->Rho->Option Rho)(cl:Rho->Rho)(tc:MT)(te:ME):List D->Rho->List D->Rs (List D×Rho)
 | [],ρ,acc=>.ok (acc,ρ)
 |d::ds,ρ,acc=>(Rs.of (tg d ρ)).bind fun ρ0=>(tc ρ0).bind fun c=>if c.1=true then(te c.2).bind fun r=>if acc.length<z18 then Y4 tg cl tc te ds (cl r.2) (acc++[r.1]) else .no
  else Y4 tg cl tc te ds (cl c.2) acc
def QpM (K:z01)(cs:List Cp)(blk:L2.St)(tg:D->Rho->Option Rho)(cl:Rho->Rho)(g:TG):Prop:=
 ∀{Cb:Cn} {F H:Hp} {ρ ρ':Rho} {τ:List (L2.V×D)} {fp:List Addr} {x:L2.V} {d:D},Cb.K=K->(∀k:Nat,cs[k]? = some Cp.me->∀v,(k,v)∉Cb.Qe2)->SI Cb F H blk ρ τ fp->R Cb.K F x d->tg d ρ=some ρ'->
  ∃σ' fp',SI Cb F H σ' ρ' τ fp'/\Ext blk σ'/\(∀Q:L2.St->Hp->Prop,Q σ' H->g x blk H Q)/\∀{F'' H'':Hp} {ρ'':Rho} {τ'':List (L2.V×D)} {Qrs:List Addr},SI Cb F'' H'' σ' ρ'' τ'' Qrs->∃fp7,SI Cb F'' H'' blk (cl ρ'') τ'' fp7
def QgG (par:Bool)(cs:List Cp)(tg:D->Rho->Option Rho)(cl:Rho->Rho)(mt:MT)(me:ME)(r:List D×Rho):Rs (D×Rho):=(Rs.of (Yp par r.2 @16)).bind fun di=>(Rs.of (QaS r.2 cs di)).bind fun ρb=>
 match Y4 tg cl mt me r.1 ρb [] with
 |.ok q=>(Rs.of (outs (ioB cs) q.2)).bind fun os=>.ok (.lst q.1,YA par r.2 @16 os)
 |_=>.no
theorem QdL {tg:D->Rho->Option Rho}{cz:Rho->Rho}{g:TG}(hK:C.K=X.K)(nd:(cs.filterMap Cp.is).Nodup)(hp:p=true->cs.filterMap Cp.is=[]){σ:L2.St}{F H F1 H1:Hp}{ρ1:Rho}{τ:List (L2.V×D)}{fp fp1:List Addr}{ds0:List D}{J:It}{Q:VK}
  (tgk:QpM X.K cs (Q0 (cs.map Cp.ix) σ) tg cz g) (I1:SI C F1 H1 σ ρ1 τ fp1) (n1:Nx pa F H fp F1 H1 fp1) (its:∀Cb:Cn,Cb.K=C.K->Cb.H₀=H1->Cb.F₀=F1->(cs.filterMap Cp.is=[]->Cb.A=[])->ItC Cb F1 ds0 J)
  (hr:Run C E σ (QgG par cs tg cz mt me (ds0,ρ1)) fun r=>∀F' H' fp' v,SI C F' H' σ r.2 (Kd.O.tk v r.1 τ) fp'->Nx (pa && p) F H fp F' H' fp'->Kd.O.fc C F' H' fp' σ v r.1->Q v H') :
  ∃W:Nat->Nat->List V->Hp->Prop,(∃m,W 0 m [] H1)/\∀i m ys H,W i m ys H->
   (J.stop i H/\∀D,H D=none->Q (.ref D) (upd H D (.lst ys)))\/
   (J.go i H/\∃N:List V->Hp->Prop,(∀ys' H',N ys' H'->∃m',m' < m/\W (i+1) m' ys' H')/\∀x H',J.yld i H x H'->
    g x (Q0 (cs.map Cp.ix) σ) H' fun τ' H1'=>Ext (Q0 (cs.map Cp.ix) σ) τ'/\exT X.K pc mt τ' H1' fun c H2=>if c=true then exX .O X.K pe me τ' H2 fun y H3=>ys.length<z18/\N (ys++[y]) H3 else N ys H2):=by
 unfold QgG at hr
 dsimp only at hr
 obtain⟨di,eg,h2⟩:=hr.split.of
 obtain⟨ρb,eb,h3⟩:=h2.split.of
 obtain⟨vi,f,rest,sg,ol,pm,w,cl⟩:=I1.lend nd eg
 have ndp:=pm.nodup_iff.mp I1.nd
 have inl:∀a∈f,a∈fp1:=fun a ha=>pm.mem_iff.mpr (z15 _ ha)
 have inr:∀a∈rest,a∈fp1:=fun a ha=>pm.mem_iff.mpr (z04 _ ha)
 have dis:∀a∈rest,a∉f:=fun a ha hf=>(z17.mp ndp).2.2 a hf a ha rfl
 cases ec:Y4 tg cz mt me ds0 ρb [] with
 |no=>rw[ec] at h3;exact h3.elim
 |ex c q=>rw[ec] at h3;exact h3.elim
 |ok q=>
  obtain⟨QkZ,ρF⟩:=q
  rw[ec] at h3
  obtain⟨os,eo,h4⟩:=h3.split.of
  let Cb:Cn:=⟨X.K,H1,F1,f,QQ 0 (ioB cs) (vsB cs vi)⟩
  have it:ItC Cb F1 ds0 J:=its Cb hK.symm rfl rfl fun q=>by
   rw[q] at sg
   cases sg
   cases ol
   rfl
  have IB:SI Cb F1 H1 (Q0 (cs.map Cp.ix) σ) ρb [] f:=by
   refine⟨⟨[],f,[],Qep I1 hK sg (hK▸ol) eb,.nil,by simp,@5,@5,fun a ha=>.inl ha⟩,(z17.mp ndp).1,fun a ha=>I1.ap a (inl a ha),I1.fh,Same.refl _,fun b o e=>.inl e,fun b o e _=>e,fun b e=>e,fun i v hi=>?_⟩
   obtain⟨i1,e1,q1⟩:=Qhv sg hi
   obtain⟨i2,e2,d2,q2⟩:=Qc5 (σ:=σ) eb hi
   have:i1=i:=by lia
   subst this
   have:i2=i1:=by lia
   subst this
   exact⟨q1,d2,q2⟩
  have hbk:∀k:Nat,cs[k]? = some Cp.me->(Q0 (cs.map Cp.ix) σ)[k]? = some none:=fun k hk=>by
   unfold Q0
   rw[z29,z29,hk]
   rfl
  have npk:∀k:Nat,cs[k]? = some Cp.me->∀v,(k,v)∉Cb.Qe2:=fun k hk v hv=>by
   obtain⟨i1,e1,q1⟩:=Qhv sg hv
   have:i1=k:=by lia
   subst this
   rw[hbk i1 hk] at q1;cases q1
  refine⟨fun i mm ys H'=>mm=ds0.length - i/\i<=ds0.length/\∃F' ρ' acc fp',SI Cb F' H' (Q0 (cs.map Cp.ix) σ) ρ' ((ys.zip acc).reverse) fp'/\ys.length=acc.length/\Same F1 F'/\Y4 tg cz mt me (ds0.drop i) ρ' acc=.ok (QkZ,ρF),⟨ds0.length,by simp,z67 _,F1,ρb,[],f,IB,rfl,Same.refl _,by rw[zm4];exact ec⟩,?_⟩
  rintro i mm ys H2 ⟨rfl,hi2,F2,ρ2,acc,fp2,I2,lya,s2,k2⟩
  by_cases hlt:i<ds0.length
  ·obtain⟨d,ed⟩:∃d,ds0[i]? = some d:=⟨ds0[i],z05 hlt⟩
   obtain⟨g1,g2⟩:=it.go I2 s2 ed
   have edr:ds0.drop i=d::ds0.drop (i+1):=by
    rw[zb3 hlt]
    have:ds0[i]=d:=by rw[z05 hlt] at ed;exact z35 ed
    rw[this]
   rw[edr] at k2
   unfold Y4 at k2
   cases es:tg d ρ2 with
   |none=>rw[es] at k2;cases k2
   |some ρ3=>
    rw[es] at k2
    change (mt ρ3).bind _=_ at k2
    refine .inr ⟨g1,fun ys' H'=>∃F' ρ' acc fp',SI Cb F' H' (Q0 (cs.map Cp.ix) σ) ρ' ((ys'.zip acc).reverse) fp'/\ys'.length=acc.length/\Same F1 F'/\Y4 tg cz mt me (ds0.drop (i+1)) ρ' acc=.ok (QkZ,ρF),fun ys' H' z=>⟨_,by lia,rfl,hlt,z⟩,fun x0 H' y=>?_⟩
    obtain⟨F3,I3,n3,r3⟩:=g2 x0 H' y
    have s3:Same F1 F3:=s2.trans n3.f
    obtain⟨σ',fp4,I4,ex,gq,clr⟩:=tgk (Cb:=Cb) rfl npk I3 r3 es
    refine gq _ ⟨ex,?_⟩
    cases et:mt ρ3 with
    |no=>rw[et] at k2;cases k2
    |ex c q=>rw[et] at k2;cases k2
    |ok q=>
     obtain⟨c,ρ5⟩:=q
     rw[et] at k2
     change (if c=true then _ else _)=_ at k2
     refine⟨Cb,rfl,F3,ρ3,_,fp4,I4,Run.ef et fun F5 H5 fp5 I5 n5=>?_⟩
     have s5:Same F1 F5:=s3.trans n5.f
     change (if c=true then _ else _)
     by_cases hc:c=true
     ·rw[if_pos hc] at k2 ⊢
      cases ee:me ρ5 with
      |no=>rw[ee] at k2;cases k2
      |ex c q=>rw[ee] at k2;cases k2
      |ok q=>
       obtain⟨d6,ρ6⟩:=q
       rw[ee] at k2
       change (if acc.length<z18 then _ else _)=_ at k2
       refine⟨Cb,rfl,F5,ρ5,_,fp5,I5,Run.ef ee fun F6 H6 fp6 v6 I6 n6 _=>?_⟩
       by_cases hz:acc.length<z18
       ·rw[if_pos hz] at k2
        refine⟨by rw[lya];exact hz,?_⟩
        obtain⟨fp7,I7⟩:=clr I6
        refine⟨F6,_,acc++[d6],fp7,?_,by simp[lya],s5.trans n6.f,k2⟩
        have ez:((ys++[v6]).zip (acc++[d6])).reverse=(v6,d6)::(ys.zip acc).reverse:=by
         rw[List.zip_append lya,List.reverse_append]
         rfl
        rw[ez]
        exact I7
       ·rw[if_neg hz] at k2;cases k2
     ·rw[if_neg hc] at k2 ⊢
      obtain⟨fp7,I7⟩:=clr I5
      exact⟨F5,_,acc,fp7,I7,lya,s5,k2⟩
  ·have e:i=ds0.length:=by lia
   subst e
   rw[zp8] at k2
   unfold Y4 at k2
   cases k2
   refine .inl ⟨it.stop I2 s2,fun Dd hD=>?_⟩
   obtain⟨f1,g1,t1,sl,ot,pm2,w1,w2,w3⟩:=I2.sl
   have og:=Qhs (j0:=0) (vs:=vsB cs vi) sl eo Qcf (fun i u hi=>⟨i,by lia,(I2.pr i u hi).1⟩)
   rw[QdK sg] at og
   have ot':OL Cb.K F2 H2 ys.reverse QkZ.reverse t1:=by
    have e1:((ys.zip QkZ).reverse).map (·.1)=ys.reverse:=by rw[zg9,Qht lya]
    have e2:((ys.zip QkZ).reverse).map (·.2)=QkZ.reverse:=by rw[zg9,Qhu lya]
    rw[e1,e2] at ot
    exact ot
   obtain⟨t2,oy,pt⟩:=Qm8 ot'
   rw[zw0,zw0] at oy
   have QpN:=pm2.nodup_iff.mp I2.nd
   have inn:∀a,a∈f1\/a∈g1\/a∈t1->a∈fp2:=fun a z=>pm2.mem_iff.mpr (by simpa using z)
   have Qjk:∀a∈fp2,H2 a≠none:=fun a ha z=>by
    obtain⟨o,e,_⟩:=I2.mem a ha
    rw[z] at e;cases e
   have Qa1:∀a∈fp1,H1 a≠none:=fun a ha z=>by
    obtain⟨o,e,_⟩:=I1.mem a ha
    rw[z] at e;cases e
   have nD:∀a,H2 a≠none->a≠Dd:=fun a h z=>h (z▸hD)
   have hkeep:∀b o,H1 b=some o->b∉f->H2 b=some o:=fun b o e n=>I2.kp b o e n
   have H1D:H1 Dd=none:=I2.dm Dd hD
   have fD:F2 Dd=none:=I2.fh.free hD
   have sH:Same H2 (upd H2 Dd (.lst ys)):=Same.upd hD
   have og':OL C.K F2 (upd H2 Dd (.lst ys)) vi os g1:=by
    rw[hK]
    exact og.keep (Same.refl _) fun a ha=>upd_ne (nD a (Qjk a (inn a (.inr (.inl ha)))))
   have oy':OL C.K F2 (upd H2 Dd (.lst ys)) ys QkZ t2:=by
    rw[hK]
    exact oy.keep (Same.refl _) fun a ha=>upd_ne (nD a (Qjk a (inn a (.inr (.inr (pt.mem_iff.mpr ha))))))
   have QqT:∀a,(a∈g1\/a∈t1)->a∉rest:=fun a z hr=>by
    rcases z with z|z
    ·rcases w3 a z with y|y
     ·exact dis a hr y
     ·exact Qa1 a (inr a hr) y
    ·exact Qa1 a (inr a hr) (w2 a z)
   have ndg:g1.Nodup:=(z17.mp (z17.mp QpN).2.1).1
   have ndt:t2.Nodup:=pt.nodup_iff.mp (z17.mp (z17.mp QpN).2.1).2.1
   have QpO:∀a∈g1,a∉t2:=fun a ha hb=>(z17.mp (z17.mp QpN).2.1).2.2 a ha a (pt.mem_iff.mpr hb) rfl
   have apr:∀a∈rest,F2 a=none:=fun a ha=>by
    cases e:F2 a with
    |none=>rfl
    |some o=>
     rcases I2.fn a o e with z|z
     ·exact absurd (show F1 a=some o from z) (by rw[I1.ap a (inr a ha)];simp)
     ·obtain⟨o2,e2,m2⟩:=I1.mem a (inr a ha)
      exact(z.not (show Cb.H₀ a≠none from Qa1 a (inr a ha)) (I2.fh a o e) (hkeep a o2 e2 (dis a ha)) m2).elim
   have JJ:=cl (F':=F2) (H':=upd H2 Dd (.lst ys)) s2 (I2.fh.trans sH) (fun a ha=>by
    obtain⟨o,e,_⟩:=I1.mem a (inr a ha)
    rw[e]
    exact sH a o (hkeep a o e (dis a ha))) (fun b e=>I2.dm b (sH.free e)) (fun b o e n z=>sH b o (hkeep b o z fun hb=>by
     rcases w b hb with y|y
     ·rw[y] at e;cases e
     ·exact n y.2)) (fun b o e=>(I2.fn b o e).imp id fun z=>z.up fun y=>I1.dm b y) og' (z17.mpr ⟨ndg,(z17.mp ndp).2.1,fun a ha b hb z=>QqT a (.inl ha) (z▸hb)⟩) (fun a ha=>(z14.mp ha).elim (fun z=>I2.ap a (inn a (.inr (.inl z)))) (apr a)) (fun a ha=>(w3 a ha).elim (w a) fun z=>.inl (I1.dm a z))
   have Qhp:((Dd::t2)++(g1++rest)).Nodup:=by
    refine z17.mpr ⟨z60.mpr ⟨fun z=>Qjk Dd (inn Dd (.inr (.inr (pt.mem_iff.mpr z)))) hD,ndt⟩,JJ.nd,fun a ha b hb z=>?_⟩
    subst z
    rcases z19.mp ha with rfl|ha
    ·rcases z14.mp hb with y|y
     ·exact Qjk _ (inn _ (.inr (.inl y))) hD
     ·exact Qa1 _ (inr _ y) H1D
    ·rcases z14.mp hb with y|y
     ·exact QpO a y ha
     ·exact QqT a (.inr (pt.mem_iff.mpr ha)) y
   refine h4 F2 _ _ (.ref Dd) (JJ.push (.mt (t:=.lst) (show upd H2 Dd (.lst ys) Dd=some (.lst ys) from upd_same) oy') (fun a ha=>?_) (fun a ha=>?_) Qhp) (n1.trans (q:=p) ⟨s2,fun hpp b o e=>?_⟩) z50
   ·rcases z19.mp ha with rfl|ha
    ·exact I1.dm _ H1D
    ·exact I1.dm a (w2 a (pt.mem_iff.mpr ha))
   ·rcases z19.mp ha with rfl|ha
    ·exact fD
    ·exact I2.ap a (inn a (.inr (.inr (pt.mem_iff.mpr ha))))
   ·have ef0:f=[]:=by
     rw[hp hpp] at sg
     cases sg
     cases ol
     rfl
    subst ef0
    by_cases hb:b∈fp1
    ·have hb':b∈rest:=by simpa using pm.mem_iff.mp hb
     rw[JB hb] at e
     rw[JB (z04 _ (z04 _ hb'))]
     exact sH b o (hkeep b o e @9)
    ·rw[QG hb] at e
     have e2:=s2 b o e
     rw[QG]
     ·exact e2
     ·intro hm
      rcases z14.mp hm with y|y
      ·rcases z19.mp y with rfl|y
       ·rw[fD] at e2;cases e2
       ·rw[I2.ap b (inn b (.inr (.inr (pt.mem_iff.mpr y))))] at e2;cases e2
      ·rcases z14.mp y with y|y
       ·rw[I2.ap b (inn b (.inr (.inl y)))] at e2;cases e2
       ·rw[I1.ap b (inr b y)] at e;cases e
theorem QdM {j:Nat}{tc:MT}{te:ME}:∀{ds:List D} {ρ:Rho} {acc:List D},Qa2 j tc te ds ρ acc=Y4 (fun d ρ=>V7 ρ j d) (fun ρ=>ρ.set j none) tc te ds ρ acc
 | [],ρ,acc=>rfl
 |d::ds,ρ,acc=>by
  unfold Qa2 Y4
  congr 1;funext ρ0;congr 1;funext c
  split
  ·congr 1;funext r;split
   ·exact QdM
   ·rfl
  ·exact QdM
theorem Qhw {ρ:Rho}:Yq par cs j mi mt me ρ=(mi ρ).bind (QgG par cs (fun d ρ=>V7 ρ j d) (fun ρ=>ρ.set j none) mt me):=by
 unfold Yq QgG
 simp only[QdM]
theorem Qhx {σ:L2.St}(hj:cs[j]? = some .me):QpM X.K cs (Q0 (cs.map Cp.ix) σ) (fun d ρ=>V7 ρ j d) (fun ρ=>ρ.set j none) (gName j):=fun{Cb F H ρ ρ' τ fp x d} hK np I r e=>by
 have hb:(Q0 (cs.map Cp.ix) σ)[j]? = some none:=by
  unfold Q0
  rw[z29,z29,hj]
  rfl
 obtain⟨fp',I2,_⟩:=SI.V7 I r e
 refine⟨_,fp',I2,⟨zb8 ..,fun i u e=>?_⟩,fun Q q=>q,fun I3=>SI.clr (x:=x) I3 hb (np j hj)⟩
 by_cases q:j=i
 ·subst q;rw[hb] at e;cases e
 ·rw[z57 q];exact e
theorem Qaw (hK:C.K=X.K)(hj:cs[j]? = some .me)(nd:(cs.filterMap Cp.is).Nodup)(hp:p=true->cs.filterMap Cp.is=[]){σ:L2.St}{H:Hp}{Q:VK}(h:tX .O C (pa && p) E (Yq par cs j mi mt me) σ H Q):Qc1 (tI C pa E mi) (cs.map Cp.ix) (gName j) (exT X.K pc mt) (exX .O X.K pe me) σ H Q:=by
 obtain⟨F,ρ,τ,fp,I,h⟩:=h
 rw[Qhw] at h
 exact⟨F,ρ,τ,fp,I,h.split.mono fun r hr F1 H1 fp1 J I1 n1 it=>QdL hK nd hp (Qhx hj) I1 n1 (fun Cb h1 _ _ _=>⟨fun I s e=>h1▸it.go h1 I s e,fun I s=>it.stop h1 I s⟩) hr⟩
theorem QU (hK:C.K=X.K)(hc:X.calm=true)(B:Blk X scope N (cs.map Cp.ix))(hjN:N[j]? = some x)(hj:cs[j]? = some .me)(hx:scope.names.lookup x=some .local)(hi:PI X (.Name x px) iter (tI C pa E mi))
  (ht:∀pins c s H ex,PIf (X.blk scope N pins c s H ex) ifs (exT X.K pc mt)) (he:∀pins c s H ex,PE (X.blk scope N pins c s H ex) elt (exX .O X.K pe me)) (nd:(cs.filterMap Cp.is).Nodup:=by decide) (hp:p=true->cs.filterMap Cp.is=[]:=by decide)
  (hs:∀x,foldedSetIterable iter X.env x=pure x:=by intro _;rfl):PE X (.ListComp elt [⟨.Name x px,iter,ifs,0⟩] scope pos) (tX .O C (pa && p) E (Yq par cs j mi mt me)):=
 Ql (QdA hc B hi (fun _ _ _ _ _=>pg_name (i:=j) B.nd hjN (.inl (lookup_relabel_local hx)) (.inr (lookup_relabel_local hx))) ht he hs) fun _ _ _ h=>Qaw hK hj nd hp h
theorem Qhy {y:Str}{py spos:Pos}{i0:Nat}(hK:C.K=X.K)(hc:X.calm=true)(hXN:X.N.Nodup)(hi0:X.N[i0]? = some y)(hy:Loc X.env.scope y)(B:Blk X scope N (cs.map Cp.ix))(hjN:N[j]? = some x)(hj:cs[j]? = some .me)(hx:scope.names.lookup x=some .local)(hi:PI X (.Name x px) iter (tI C pa E mi))
  (ht:∀pins c s H ex,PIf (X.blk scope N pins c s H ex) ifs (exT X.K pc mt)) (he:∀pins c s H ex,PE (X.blk scope N pins c s H ex) elt (exX .O X.K pe me)) (nd:(cs.filterMap Cp.is).Nodup:=by decide)
  (hsw:swapsWith (.ListComp elt [⟨.Name x px,iter,ifs,0⟩] scope pos) (some (.Name y py)) spos.line X.env=pure true:=by rfl)
  (hf:X.fn y=true\/X.env.scope.names.lookup y=some .local:=by first|exact .inl rfl|exact .inr rfl|assumption)
  (hs:∀x,foldedSetIterable iter X.env x=pure x:=by intro _;rfl):PS X (.Assign [.Name y py] (.ListComp elt [⟨.Name x px,iter,ifs,0⟩] scope pos) spos) (tS rk C E (Qjf i0 (Yq par cs j mi mt me))):=
 QT (QbS hc hXN hi0 hy B hi (fun _ _ _ _ _=>pg_name (i:=j) B.nd hjN (.inl (lookup_relabel_local hx)) (.inr (lookup_relabel_local hx))) ht he hsw hf hs) fun D σ H h=>by
  have q:=Qhi (p:=pa && false) h
  exact Qaw (p:=false) hK hj nd (fun z=>nomatch z) q
end
instance {i j:Int}:Decidable (CMul i j):=by unfold CMul;infer_instance
instance {i j:Int}:Decidable (CPow i j):=by unfold CPow;infer_instance
instance {i j:Int}:Decidable (Qdy i j):=by unfold Qdy;infer_instance
noncomputable def gI0 (f:Int->Int->D):D->D->Option D
 |.int i,.int j=>some (f i j)
 |_,_=>none
noncomputable def gIc (c:Int->Int->Prop)[∀i j,Decidable (c i j)](f:Int->Int->D):D->D->Option D
 |.int i,.int j=>if c i j then some (f i j) else none
 |_,_=>none
section
variable {K:z01}
theorem Qc6 {f:Int->Int->D}{g:Int->Int->V}(h:∀i j,(f i j).sc=some (g i j)):OpD K (rI0 g) (gI0 f):=fun H v u d e res r q eg=>by
 unfold gI0 at eg
 split at eg
 ·next i j=>
  cases eg
  obtain rfl:=r.Qu (w:=.int i) rfl
  obtain rfl:=q.Qu (w:=.int j) rfl
  exact⟨_,h i j,fun Q hq=>⟨i,j,rfl,rfl,hq⟩⟩
 ·cases eg
theorem Qjl {c:Int->Int->Prop}[∀i j,Decidable (c i j)]{f:Int->Int->D}{g:Int->Int->V}(h:∀i j,(f i j).sc=some (g i j)):OpD K (rI c g) (gIc c f):=fun H v u d e res r q eg=>by
 unfold gIc at eg
 split at eg
 ·next i j=>
  by_cases cc:c i j
  ·rw[if_pos cc] at eg;cases eg
   obtain rfl:=r.Qu (w:=.int i) rfl
   obtain rfl:=q.Qu (w:=.int j) rfl
   exact⟨_,h i j,fun Q hq=>⟨i,j,rfl,rfl,cc,hq⟩⟩
  ·rw[if_neg cc] at eg;cases eg
 ·cases eg
def QpP:=gI0 fun i j=>.int (i+j)
def gSub:=gI0 fun i j=>.int (i - j)
def QqU:=gIc CMul fun i j=>.int (i * j)
def QqV:=gIc Qdy fun i j=>.int (i / j)
def QqW:=gIc (fun _ j=>0<j) fun i j=>.int (i % j)
def QqX:=gIc CPow fun i j=>.int (i ^ j.toNat)
def gLt:=gI0 fun i j=>.bl (decide (i<j))
def gLe:=gI0 fun i j=>.bl (decide (i<=j))
def gGt:=gI0 fun i j=>.bl (decide (j<i))
def gGe:=gI0 fun i j=>.bl (decide (j<=i))
theorem QbQ:OpD K (rI0 fun i j=>.int (i+j)) QpP:=Qc6 fun _ _=>rfl
theorem Qk0:OpD K (rI0 fun i j=>.int (i - j)) gSub:=Qc6 fun _ _=>rfl
theorem Qk1:OpD K (rI CMul fun i j=>.int (i * j)) QqU:=Qjl fun _ _=>rfl
theorem QpQ:OpD K (rI Qdy fun i j=>.int (i / j)) QqV:=Qjl fun _ _=>rfl
theorem Qm9:OpD K (rI (fun _ j=>0<j) fun i j=>.int (i % j)) QqW:=Qjl fun _ _=>rfl
theorem Qna:OpD K (rI CPow fun i j=>.int (i ^ j.toNat)) QqX:=Qjl fun _ _=>rfl
theorem dLt:OpD K (rI0 fun i j=>.bl (decide (i<j))) gLt:=Qc6 fun _ _=>rfl
theorem dLe:OpD K (rI0 fun i j=>.bl (decide (i<=j))) gLe:=Qc6 fun _ _=>rfl
theorem dGt:OpD K (rI0 fun i j=>.bl (decide (j<i))) gGt:=Qc6 fun _ _=>rfl
theorem dGe:OpD K (rI0 fun i j=>.bl (decide (j<=i))) gGe:=Qc6 fun _ _=>rfl
end
def Qbm (f:D->D->Option Bool):List D->List D->Option Bool
 |x::xs,y::ys=>(f x y).bind fun a=>(Qbm f xs ys).map fun b=>a && b
 |_,_=>some true
def eqS (x y:V):Option Bool:=if(scal x y && flatV x && flatV y)=true then some (decide (x=y)) else none
def QpR (f:D->D->Option Bool):D->D->Option Bool
 |.nd .lst xs,.nd .lst ys=>if xs.length=ys.length then Qbm f xs ys else some false
 |.nd .tup xs,.nd .tup ys=>if xs.length=ys.length then Qbm f xs ys else(Qbm f xs ys).map fun _=>false
 |d,e=>d.sc.bind fun x=>e.sc.bind fun y=>eqS x y
noncomputable def eqb:Nat->D->D->Option Bool
 |0=>fun _ _=>none
 |n+1=>QpR (eqb n)
theorem Vd {n:Nat}{d e:D}{b:Bool}(h:eqb (n+1) d e=some b) :
  (∃xs ys,d=.nd .lst xs/\e=.nd .lst ys/\((xs.length=ys.length/\Qbm (eqb n) xs ys=some b)\/(xs.length≠ys.length/\b=false)))\/
  (∃xs ys c,d=.nd .tup xs/\e=.nd .tup ys/\Qbm (eqb n) xs ys=some c/\b=(c && xs.length == ys.length))\/
  (∃x y,d.sc=some x/\e.sc=some y/\eqS x y=some b):=by
 replace h:QpR (eqb n) d e=some b:=h
 unfold QpR at h
 split at h
 ·next xs ys=>
  left
  refine⟨xs,ys,rfl,rfl,?_⟩
  by_cases c:xs.length=ys.length
  ·rw[if_pos c] at h;exact .inl ⟨c,h⟩
  ·rw[if_neg c] at h;cases h;exact .inr ⟨c,rfl⟩
 ·next xs ys=>
  right;left
  by_cases c:xs.length=ys.length
  ·rw[if_pos c] at h;exact⟨xs,ys,b,rfl,rfl,h,by simp[c]⟩
  ·rw[if_neg c] at h
   obtain⟨c',h1,h2⟩:=z03.mp h
   exact⟨xs,ys,c',rfl,rfl,h1,by simp[c,h2.symm]⟩
 ·right;right
  obtain⟨x,h1,h2⟩:=z25.mp h
  obtain⟨y,h3,h4⟩:=z25.mp h2
  exact⟨x,y,h1,h3,h4⟩
theorem QfK {f:D->D->Option Bool}:∀{xs ys:List D} {b:Bool},Qbm f xs ys=some b->∃e:Nat->Bool,(∀j x y,xs[j]? = some x->ys[j]? = some y->f x y=some (e j))/\(z63 (min xs.length ys.length)).all e=b
 | [],ys,b,h=>by
  unfold Qbm at h;cases h
  exact⟨fun _=>true,fun j x y h=>by simp at h,by simp⟩
 |x::xs,[],b,h=>by
  unfold Qbm at h;cases h
  exact⟨fun _=>true,fun j x y _ h=>by simp at h,by simp⟩
 |x::xs,y::ys,b,h=>by
  unfold Qbm at h
  obtain⟨a,h1,h2⟩:=z25.mp h
  obtain⟨c,h3,rfl⟩:=z03.mp h2
  obtain⟨e,k1,k2⟩:=QfK h3
  refine⟨fun j=>match j with|0=>a|j+1=>e j,fun j x' y' hx hy=>?_,?_⟩
  ·cases j with
   |zero=>simp at hx hy;subst hx hy;exact h1
   |succ j=>exact k1 j x' y' (by simpa using hx) (by simpa using hy)
  ·have em:min (x::xs).length (y::ys).length=min xs.length ys.length+1:=by simp
   rw[em,List.range_succ_eq_map,zt5,zp3,← k2]
   rfl
theorem RL.QpS {K:z01}{F:Hp}{vs:List L2.V}{ds:List D}{i:Nat}{v:L2.V}(r:RL K F vs ds)(e:vs[i]? = some v):∃d,ds[i]? = some d/\R K F v d:=by
 induction i generalizing vs ds with
 |zero=>cases r with
  |nil=>simp at e
  |cons h r=>simp at e;subst e;exact⟨_,rfl,h⟩
 |succ i ih=>cases r with
  |nil=>simp at e
  |cons h r=>
   obtain⟨v,h1,h2⟩:=ih r (by simpa using e)
   exact⟨v,by simpa using h1,h2⟩
theorem Qjm {x y:V}{b:Bool}(h:eqS x y=some b):scal x y=true/\flatV x=true/\flatV y=true/\b=decide (x=y)/\eqV x y=decide (x=y):=by
 unfold eqS at h
 by_cases c:(scal x y && flatV x && flatV y)=true
 ·rw[if_pos c] at h;cases h
  have c0:=c
  rw[z99,z99] at c
  refine⟨c.1.1,c.1.2,c.2,rfl,?_⟩
  cases x<;>cases y<;>first
   |rfl
   |(rw[dec_int];rfl)
   |(rw[dec_bl];rfl)
   |(rw[dec_str];rfl)
   |(simp only[scal,flatV] at c;exact absurd c @9)
   |(simp[eqV];done)
 ·rw[if_neg c] at h;cases h
section
variable {X:Cx}{pins:List @12}{σ:L2.St}{H:Hp}{s:Shared}
theorem QdN (I:Inv X pins σ H s):∀{n:Nat} {v:L2.V} {d e:D} {b:Bool},R X.K H v d->R X.K H v e->eqb n d e=some b->b=true
 |0,_,_,_,_,_,_,h=>by cases h
 |n+1,v,d,e,b,r,q,h=>by
  have key:∀{vs:List L2.V} {xs ys:List D} {c:Bool},RL X.K H vs xs->RL X.K H vs ys->Qbm (eqb n) xs ys=some c->c=true:=by
   intro vs
   induction vs with
   |nil=>intro xs ys c h1 h2 h3;cases h1;cases h2;unfold Qbm at h3;cases h3;rfl
   |cons v vs ih=>
    intro xs ys c h1 h2 h3
    cases h1 with
    |cons a1 b1=>
     cases h2 with
     |cons a2 b2=>
      unfold Qbm at h3
      obtain⟨a,e1,e2⟩:=z25.mp h3
      obtain⟨c',e3,rfl⟩:=z03.mp e2
      rw[QdN I a1 a2 e1,ih b1 b2 e3]
      rfl
  rcases Vd h with⟨xs,ys,rfl,rfl,hh⟩|⟨xs,ys,c,rfl,rfl,hh,rfl⟩|⟨x,y,hx,hy,hh⟩
  ·obtain⟨a,vs,rfl,a1,l1⟩:=r.inv
   obtain⟨a',vs',e',a2,l2⟩:=q.inv
   cases e'
   have ev:=I.list_inj a1.sql a2.sql
   subst ev
   rcases hh with⟨_,hh⟩|⟨hh,_⟩
   ·exact key l1 l2 hh
   ·exact absurd (by rw[← l1.length,← l2.length]) hh
  ·obtain⟨a,vs,rfl,a1,l1⟩:=r.inv
   obtain⟨a',vs',e',a2,l2⟩:=q.inv
   cases e'
   have ev:=I.tuple_inj a1.sqt a2.sqt
   subst ev
   rw[key l1 l2 hh]
   simp[← l1.length,← l2.length]
  ·obtain⟨_,_,_,rfl,_⟩:=Qjm hh
   have e1:=r.Qu hx
   have e2:=q.Qu hy
   exact decide_eq_true (e1.symm.trans e2)
theorem Qhz (I:Inv X pins σ H s):∀{n:Nat} {v:L2.V} {d d' x:D} {c c':Bool},R X.K H v d->R X.K H v d'->eqb n d x=some c->eqb n d' x=some c'->c=c'
 |0,_,_,_,_,_,_,_,_,h,_=>by cases h
 |n+1,v,d,d',x,c,c',r,q,h,h'=>by
  have key:∀{vs:List L2.V} {xs xs' ys:List D} {c c':Bool},RL X.K H vs xs->RL X.K H vs xs'->Qbm (eqb n) xs ys=some c->Qbm (eqb n) xs' ys=some c'->c=c':=by
   intro vs
   induction vs with
   |nil=>intro xs xs' ys c c' h1 h2 h3 h4;cases h1;cases h2;rw[h3] at h4;exact z35 h4
   |cons v vs ih=>
    intro xs xs' ys c c' h1 h2 h3 h4
    cases h1 with
    |cons a1 b1=>
     cases h2 with
     |cons a2 b2=>
      cases ys with
      |nil=>unfold Qbm at h3 h4;rw[h3] at h4;exact z35 h4
      |cons y ys=>
       unfold Qbm at h3 h4
       obtain⟨a,e1,e2⟩:=z25.mp h3
       obtain⟨c1,e3,rfl⟩:=z03.mp e2
       obtain⟨a',e1',e2'⟩:=z25.mp h4
       obtain⟨c1',e3',rfl⟩:=z03.mp e2'
       rw[Qhz I a1 a2 e1 e1',ih b1 b2 e3 e3']
  rcases Vd h with⟨xs,ys,rfl,rfl,hh⟩|⟨xs,ys,c0,rfl,rfl,hh,rfl⟩|⟨x0,y0,hx,hy,hh⟩
  ·rcases Vd h' with⟨xs',ys',rfl,e2,hh'⟩|⟨_,_,_,_,e2,_⟩|⟨_,_,_,e2,_⟩
   ·cases e2
    obtain⟨a,vs,rfl,a1,l1⟩:=r.inv
    obtain⟨a',vs',e',a2,l2⟩:=q.inv
    cases e'
    have ev:=I.list_inj a1.sql a2.sql
    subst ev
    have el:xs.length=xs'.length:=by rw[← l1.length,← l2.length]
    rcases hh with⟨g1,hh⟩|⟨g1,rfl⟩<;>rcases hh' with⟨g2,hh'⟩|⟨g2,rfl⟩
    ·exact key l1 l2 hh hh'
    ·exact absurd (el▸g1) g2
    ·exact absurd (el▸g2) g1
    ·rfl
   ·cases e2
   ·cases e2
  ·rcases Vd h' with⟨_,_,_,e2,_⟩|⟨xs',ys',c1,rfl,e2,hh',rfl⟩|⟨_,_,_,e2,_⟩
   ·cases e2
   ·cases e2
    obtain⟨a,vs,rfl,a1,l1⟩:=r.inv
    obtain⟨a',vs',e',a2,l2⟩:=q.inv
    cases e'
    have ev:=I.tuple_inj a1.sqt a2.sqt
    subst ev
    rw[key l1 l2 hh hh',← l1.length,← l2.length]
   ·cases e2
  ·rcases Vd h' with⟨_,_,_,rfl,_⟩|⟨_,_,_,_,rfl,_⟩|⟨x1,y1,hx',hy',hh'⟩
   ·cases hy
   ·cases hy
   ·rw[hy] at hy';cases hy'
    obtain rfl:=r.Qu hx
    obtain rfl:=q.Qu hx'
    rw[hh] at hh'
    exact z35 hh'
theorem Qc7 (I:Inv X pins σ H s){n:Nat}{A:Around}(hu:A.units<cLine)(cmp:∀{v u:L2.V} {d e:D} {b:Bool} {p q:Value},R X.K H v d->R X.K H u e->RelV v p->RelV u q->eqb n d e=some b->zf9 A.in1 s p q b){a a':Addr}{vs us:List L2.V}{xs ys:List D}(l1:RL X.K H vs xs)(l2:RL X.K H us ys){c:Bool}(h:Qbm (eqb n) xs ys=some c) :
  (SqL X.K H a vs->SqL X.K H a' us->xs.length=ys.length->zx0 A s (.ref a) (.ref a') c/\zt8 A s (.ref a) (.ref a') (!c))/\(SqT X.K H a vs->SqT X.K H a' us->zx0 A s (.ref a) (.ref a') (c && xs.length == ys.length)/\zt8 A s (.ref a) (.ref a') (!(c && xs.length == ys.length))):=by
 obtain⟨e,k1,k2⟩:=QfK h
 have key:∀{its its2:List Value},Vals vs its->Vals us its2->∀j (h1:j<its.toArray.size) (h2:j<its2.toArray.size),zf9 A.in1 s its.toArray[j] its2.toArray[j] (e j):=fun{its its2} rv rv2 j h1 h2=>by
  rw[z16] at h1 h2
  have z1:=rv.length
  have z2:=rv2.length
  obtain⟨v,hv⟩:∃v,vs[j]? = some v:=⟨vs[j]' @1,z05 _⟩
  obtain⟨w,hw⟩:∃v,us[j]? = some v:=⟨us[j]' @1,z05 _⟩
  obtain⟨p,hp,rp⟩:=rv.get hv
  obtain⟨q,hq,rq⟩:=rv2.get hw
  obtain⟨x,hx,rx⟩:=l1.QpS hv
  obtain⟨y,hy,ry⟩:=l2.QpS hw
  have q1:its.toArray[j]=p:=by
   rw[z05 h1] at hp
   simpa using z35 hp
  have q2:its2.toArray[j]=q:=by
   rw[z05 h2] at hq
   simpa using z35 hq
  rw[q1,q2]
  exact cmp rx ry rp rq (k1 j x y hx hy)
 have e1:=l1.length
 have e2:=l2.length
 refine⟨fun a1 a2 hl=>?_,fun a1 a2=>?_⟩
 ·obtain⟨its,rv,p,_⟩:=I.list a1
  obtain⟨its2,rv2,p2,_⟩:=I.list a2
  have z1:=rv.length
  have z2:=rv2.length
  have es:its.toArray.size=its2.toArray.size:=by rw[z16,z16];lia
  have ec:(z63 its.toArray.size).all e=c:=by
   rw[← k2,z16,← z1,e1]
   congr 2
   lia
  rw[← ec]
  exact⟨SeqAt.RcAt.lists p.isList p2.isList es hu (key rv rv2),SeqAt.RcNeAt.lists p.isList p2.isList es hu (key rv rv2)⟩
 ·obtain⟨its,rv,p,_⟩:=I.tuple a1
  obtain⟨its2,rv2,p2,_⟩:=I.tuple a2
  have z1:=rv.length
  have z2:=rv2.length
  have ec:((z63 (min its.toArray.size its2.toArray.size)).all e && its.toArray.size == its2.toArray.size)=(c && xs.length == ys.length):=by
   rw[← k2,z16,z16,← z1,← z2,e1,e2]
  rw[← ec]
  exact⟨zt2 p p2 hu (key rv rv2),SeqAt.RcNeAt.tuples p p2 hu (key rv rv2)⟩
theorem QhA (I:Inv X pins σ H s){A:Around}(hu:A.units<cLine){a a':Addr}{vs us:List L2.V}(a1:SqL X.K H a vs)(a2:SqL X.K H a' us)(hl:vs.length≠us.length):zx0 A s (.ref a) (.ref a') false/\zt8 A s (.ref a) (.ref a') true:=by
 obtain⟨its,rv,p,_⟩:=I.list a1
 obtain⟨its2,rv2,p2,_⟩:=I.list a2
 have z1:=rv.length
 have z2:=rv2.length
 have es:(its.toArray.size != its2.toArray.size)=true:=by rw[z16,z16];simp;lia
 exact⟨SeqAt.RcAt.lists_lengths p.isList p2.isList es hu,SeqAt.RcNeAt.lists_lengths p.isList p2.isList es hu⟩
theorem Qe8 (I:Inv X pins σ H s):∀{n:Nat} {A:Around},A.units+n<cLine->∀{v u:L2.V} {d e:D} {b:Bool} {p q:Value},R X.K H v d->R X.K H u e->RelV v p->RelV u q->eqb n d e=some b->zf9 A s p q b
 |0,_,_,_,_,_,_,_,_,_,_,_,_,_,h=>by cases h
 |n+1,A,hu,v,u,d,e,b,p,q,r,r',rp,rq,h=>by
  have hA:A.in1.units+n<cLine:=by show A.units+1+n<cLine;lia
  have hu':A.units<cLine:=by lia
  rcases Vd h with⟨xs,ys,rfl,rfl,hh⟩|⟨xs,ys,c,rfl,rfl,hh,rfl⟩|⟨x,y,hx,hy,hh⟩
  ·obtain⟨a,vs,rfl,a1,l1⟩:=r.inv
   obtain⟨a',us,rfl,a2,l2⟩:=r'.inv
   cases rp;cases rq
   by_cases ea:a=a'
   ·subst ea
    rw[QdN I r r' h]
    exact zj0 _
   ·refine zk4 ea ?_
    rcases hh with⟨hl,hh⟩|⟨hl,rfl⟩
    ·exact((Qc7 I hu' (fun r1 r2 p1 p2 e1=>Qe8 I hA r1 r2 p1 p2 e1) l1 l2 hh).1 a1.sql a2.sql hl).1
    ·exact(QhA I hu' a1.sql a2.sql (by rw[l1.length,l2.length];exact hl)).1
  ·obtain⟨a,vs,rfl,a1,l1⟩:=r.inv
   obtain⟨a',us,rfl,a2,l2⟩:=r'.inv
   cases rp;cases rq
   by_cases ea:a=a'
   ·subst ea
    rw[QdN I r r' h]
    exact zj0 _
   ·exact zk4 ea ((Qc7 I hu' (fun r1 r2 p1 p2 e1=>Qe8 I hA r1 r2 p1 p2 e1) l1 l2 hh).2 a1.sqt a2.sqt).1
  ·obtain⟨_,f1,f2,rfl,ev⟩:=Qjm hh
   obtain rfl:=r.Qu hx
   obtain rfl:=r'.Qu hy
   rw[← ev]
   exact eqAt_V rp rq f1 f2
end
def Qmn (K:z01)(n:Nat)(f:Bool->Bool):R2:=fun x y H Q=>∃d e b,R K H x d/\R K H y e/\eqb n d e=some b/\Q (.bl (f b)) H
section
variable {X:Cx}
theorem Q6 {n:Nat}(hu:X.A.units+n<cLine):OpR X (compareOp .Eq) (Qmn X.K n id):=by
 intro pins s σ H x y v u Q I rx ry h
 obtain⟨d,e,b,r,r',he,q⟩:=h
 cases n with
 |zero=>cases he
 |succ n=>
  have hA:X.A.in1.units+n<cLine:=by show X.A.units+1+n<cLine;lia
  have hu':X.A.units<cLine:=by lia
  rcases Vd he with⟨xs,ys,rfl,rfl,hh⟩|⟨xs,ys,c,rfl,rfl,hh,rfl⟩|⟨x',y',hx,hy,hh⟩
  ·obtain⟨a,vs,rfl,a1,l1⟩:=r.inv
   obtain⟨a',us,rfl,a2,l2⟩:=r'.inv
   cases rx;cases ry
   rcases hh with⟨hl,hh⟩|⟨hl,rfl⟩
   ·exact((Qc7 I hu' (fun r1 r2 p1 p2 e1=>Qe8 I hA r1 r2 p1 p2 e1) l1 l2 hh).1 a1.sql a2.sql hl).1 _ _ _ _ ⟨.bl _,H,I,rfl,q⟩
   ·exact(QhA I hu' a1.sql a2.sql (by rw[l1.length,l2.length];exact hl)).1 _ _ _ _ ⟨.bl _,H,I,rfl,q⟩
  ·obtain⟨a,vs,rfl,a1,l1⟩:=r.inv
   obtain⟨a',us,rfl,a2,l2⟩:=r'.inv
   cases rx;cases ry
   exact((Qc7 I hu' (fun r1 r2 p1 p2 e1=>Qe8 I hA r1 r2 p1 p2 e1) l1 l2 hh).2 a1.sqt a2.sqt).1 _ _ _ _ ⟨.bl _,H,I,rfl,q⟩
  ·obtain⟨sc,f1,f2,rfl,ev⟩:=Qjm hh
   obtain rfl:=r.Qu hx
   obtain rfl:=r'.Qu hy
   exact op_eq pins s σ H x y v u Q I rx ry ⟨sc,q⟩
theorem Qc8 {n:Nat}(hu:X.A.units+n<cLine):OpR X (compareOp .NotEq) (Qmn X.K n not):=by
 intro pins s σ H x y v u Q I rx ry h
 obtain⟨d,e,b,r,r',he,q⟩:=h
 cases n with
 |zero=>cases he
 |succ n=>
  have hA:X.A.in1.units+n<cLine:=by show X.A.units+1+n<cLine;lia
  have hu':X.A.units<cLine:=by lia
  rcases Vd he with⟨xs,ys,rfl,rfl,hh⟩|⟨xs,ys,c,rfl,rfl,hh,rfl⟩|⟨x',y',hx,hy,hh⟩
  ·obtain⟨a,vs,rfl,a1,l1⟩:=r.inv
   obtain⟨a',us,rfl,a2,l2⟩:=r'.inv
   cases rx;cases ry
   rcases hh with⟨hl,hh⟩|⟨hl,rfl⟩
   ·exact((Qc7 I hu' (fun r1 r2 p1 p2 e1=>Qe8 I hA r1 r2 p1 p2 e1) l1 l2 hh).1 a1.sql a2.sql hl).2 _ _ _ _ ⟨.bl _,H,I,rfl,q⟩
   ·exact(QhA I hu' a1.sql a2.sql (by rw[l1.length,l2.length];exact hl)).2 _ _ _ _ ⟨.bl _,H,I,rfl,q⟩
  ·obtain⟨a,vs,rfl,a1,l1⟩:=r.inv
   obtain⟨a',us,rfl,a2,l2⟩:=r'.inv
   cases rx;cases ry
   exact((Qc7 I hu' (fun r1 r2 p1 p2 e1=>Qe8 I hA r1 r2 p1 p2 e1) l1 l2 hh).2 a1.sqt a2.sqt).2 _ _ _ _ ⟨.bl _,H,I,rfl,q⟩
  ·obtain⟨sc,f1,f2,rfl,ev⟩:=Qjm hh
   obtain rfl:=r.Qu hx
   obtain rfl:=r'.Qu hy
   exact op_ne pins s σ H x y v u Q I rx ry ⟨sc,q⟩
def inL (f:D->D->Option Bool)(x:D):List D->Option Bool
 | []=>some false
 |y::ys=>(f y x).bind fun a=>(inL f x ys).map fun b=>a || b
noncomputable def inb (n:Nat):D->D->Option Bool
 |x,.nd .lst ys=>inL (eqb n) x ys
 |x,.nd .tup ys=>inL (eqb n) x ys
 |_,_=>none
theorem QhB {f:D->D->Option Bool}{x:D}:∀{ys:List D} {b:Bool},inL f x ys=some b->(∀y∈ys,∃c,f y x=some c)/\(ys.any fun y=>(f y x).getD false)=b
 | [],b,h=>by unfold inL at h;cases h;exact⟨@5,rfl⟩
 |y::ys,b,h=>by
  unfold inL at h
  obtain⟨a,h1,h2⟩:=z25.mp h
  obtain⟨c,h3,rfl⟩:=z03.mp h2
  obtain⟨k1,k2⟩:=QhB h3
  refine⟨fun z hz=>?_,by rw[za8,h1,k2];rfl⟩
  rcases z19.mp hz with rfl|hz
  ·exact⟨a,h1⟩
  ·exact k1 z hz
open Classical in
noncomputable def QdO (K:z01)(H:Hp)(n:Nat)(x:D)(u:Value):Bool:=if h:∃v d c,RelV v u/\R K H v d/\eqb n d x=some c then(Classical.choose (z75 (z75 h))) else false
theorem QdP {n:Nat}{pins:List @12}{σ:L2.St}{H:Hp}{s:Shared}(I:Inv X pins σ H s)(hu:X.A.units+n+1<cLine){v:L2.V}{vv:Value}{x:D}(rx:R X.K H v x)(rv:RelV v vv){us:List L2.V}{its:List Value}{ys:List D}(l:RL X.K H us ys)(r:Vals us its){b:Bool}(h:inL (eqb n) x ys=some b) :
  (∀w∈its,zf9 X.A.in1 s w vv (QdO X.K H n x w))/\its.any (QdO X.K H n x)=b:=by
 have hA:X.A.in1.units+n<cLine:=by show X.A.units+1+n<cLine;lia
 -- one answer of a value
 have one:∀{u:L2.V} {d:D} {c:Bool} {w:Value},RelV u w->R X.K H u d->eqb n d x=some c->zf9 X.A.in1 s w vv (QdO X.K H n x w):=fun{u d c w} r1 r2 r3=>by
  have ex:∃v d c,RelV v w/\R X.K H v d/\eqb n d x=some c:=⟨u,d,c,r1,r2,r3⟩
  unfold QdO
  rw[dif_pos ex]
  have sp:=z75 (z75 (z75 ex))
  exact Qe8 I hA sp.2.1 rx sp.1 rv sp.2.2
 have val:∀{u:L2.V} {d:D} {c:Bool} {w:Value},RelV u w->R X.K H u d->eqb n d x=some c->QdO X.K H n x w=c:=fun{u d c w} r1 r2 r3=>by
  have ex:∃v d c,RelV v w/\R X.K H v d/\eqb n d x=some c:=⟨u,d,c,r1,r2,r3⟩
  unfold QdO
  rw[dif_pos ex]
  have sp:=z75 (z75 (z75 ex))
  have ev:=r1.inj sp.1
  exact Qhz I (ev▸sp.2.1) r2 sp.2.2 r3
 obtain⟨k1,k2⟩:=QhB h
 constructor
 ·intro w hw
  obtain⟨j,hj⟩:=zb6 hw
  have lj:j<us.length:=by rw[r.length];exact(z28.mp hj).1
  obtain⟨u,hu'⟩:∃u,us[j]? = some u:=⟨us[j],z05 lj⟩
  obtain⟨w',hw',rw'⟩:=r.get hu'
  rw[hj] at hw';cases hw'
  obtain⟨y,hy,ry⟩:=l.QpS hu'
  obtain⟨c,hc⟩:=k1 y (z42 hy)
  exact one rw' ry hc
 ·rw[← k2]
  have go:∀{us:List L2.V} {its:List Value} {ys:List D},RL X.K H us ys->Vals us its->(∀y∈ys,∃c,eqb n y x=some c)->its.any (QdO X.K H n x)=ys.any fun y=>(eqb n y x).getD false:=by
   intro us
   induction us with
   |nil=>intro its ys h1 h2 _;cases h1;cases h2;rfl
   |cons u us ih=>
    intro its ys h1 h2 h3
    cases h1 with
    |cons a1 b1=>
     cases h2 with
     |cons a2 b2=>
      obtain⟨c,hc⟩:=h3 _ z07
      rw[za8,za8,ih b1 b2 fun y hy=>h3 y (z08 _ hy),val a2 a1 hc,hc]
      rfl
  exact go l r k1
def Qmo (K:z01)(n:Nat)(f:Bool->Bool):R2:=fun x y H Q=>∃d e b,R K H x d/\R K H y e/\inb n d e=some b/\Q (.bl (f b)) H
theorem QhC {n:Nat}{d e:D}{b:Bool}(h:inb n d e=some b):∃ys,(e=.nd .lst ys\/e=.nd .tup ys)/\inL (eqb n) d ys=some b:=by
 unfold inb at h
 split at h
 ·exact⟨_,.inl rfl,h⟩
 ·exact⟨_,.inr rfl,h⟩
 ·cases h
theorem Qj5 {n:Nat}(hu:X.A.units+n+1<cLine):OpR X (compareOp .In) (Qmo X.K n id):=by
 intro pins s σ H x y v u Q I rx ry h
 obtain⟨d,e,b,r,r',he,q⟩:=h
 obtain⟨ys,hy,hl⟩:=QhC he
 rcases hy with rfl|rfl
 ·obtain⟨a,us,rfl,a1,l1⟩:=r'.inv
  cases ry
  obtain⟨its,rv,pl,_⟩:=I.list a1.sql
  obtain⟨k1,k2⟩:=QdP I hu r rx l1 rv hl
  refine SeqAt.in_listAt (QdO X.K H n d) pl.isList (fun w hw=>k1 w (by simpa using hw)) ⟨.bl b,H,I,?_,q⟩
  rw[show its.toArray.any (QdO X.K H n d)=its.any (QdO X.K H n d) by simp,k2]
  rfl
 ·obtain⟨a,us,rfl,a1,l1⟩:=r'.inv
  cases ry
  obtain⟨its,rv,pl,_⟩:=I.tuple a1.sqt
  obtain⟨k1,k2⟩:=QdP I hu r rx l1 rv hl
  refine SeqAt.in_tupleAt (QdO X.K H n d) pl (fun w hw=>k1 w (by simpa using hw)) ⟨.bl b,H,I,?_,q⟩
  rw[show its.toArray.any (QdO X.K H n d)=its.any (QdO X.K H n d) by simp,k2]
  rfl
theorem Qeq {n:Nat}(hu:X.A.units+n+1<cLine):OpR X (compareOp .NotIn) (Qmo X.K n not):=by
 intro pins s σ H x y v u Q I rx ry h
 obtain⟨d,e,b,r,r',he,q⟩:=h
 obtain⟨ys,hy,hl⟩:=QhC he
 rcases hy with rfl|rfl
 ·obtain⟨a,us,rfl,a1,l1⟩:=r'.inv
  cases ry
  obtain⟨its,rv,pl,_⟩:=I.list a1.sql
  obtain⟨k1,k2⟩:=QdP I hu r rx l1 rv hl
  refine SeqAt.notIn_listAt (QdO X.K H n d) pl.isList (fun w hw=>k1 w (by simpa using hw)) ⟨.bl (!b),H,I,?_,q⟩
  rw[show its.toArray.any (QdO X.K H n d)=its.any (QdO X.K H n d) by simp,k2]
  rfl
 ·obtain⟨a,us,rfl,a1,l1⟩:=r'.inv
  cases ry
  obtain⟨its,rv,pl,_⟩:=I.tuple a1.sqt
  obtain⟨k1,k2⟩:=QdP I hu r rx l1 rv hl
  refine SeqAt.notIn_tupleAt (QdO X.K H n d) pl (fun w hw=>k1 w (by simpa using hw)) ⟨.bl (!b),H,I,?_,q⟩
  rw[show its.toArray.any (QdO X.K H n d)=its.any (QdO X.K H n d) by simp,k2]
  rfl
end
def gEq (d e:D):Option D:=(eqb 30 d e).map .bl
def gNe (d e:D):Option D:=(eqb 30 d e).map fun b=>.bl (!b)
def gIn (d e:D):Option D:=(inb 30 d e).map .bl
def gNi (d e:D):Option D:=(inb 30 d e).map fun b=>.bl (!b)
section
variable {K:z01}
theorem dEq:OpD K (Qmn K 30 id) gEq:=fun H v u d e res r q eg=>by
 obtain⟨b,hb,rfl⟩:=z03.mp eg
 exact⟨_,rfl,fun Q hq=>⟨d,e,b,r,q,hb,hq⟩⟩
theorem dNe:OpD K (Qmn K 30 not) gNe:=fun H v u d e res r q eg=>by
 obtain⟨b,hb,rfl⟩:=z03.mp eg
 exact⟨_,rfl,fun Q hq=>⟨d,e,b,r,q,hb,hq⟩⟩
theorem dIn:OpD K (Qmo K 30 id) gIn:=fun H v u d e res r q eg=>by
 obtain⟨b,hb,rfl⟩:=z03.mp eg
 exact⟨_,rfl,fun Q hq=>⟨d,e,b,r,q,hb,hq⟩⟩
theorem dNi:OpD K (Qmo K 30 not) gNi:=fun H v u d e res r q eg=>by
 obtain⟨b,hb,rfl⟩:=z03.mp eg
 exact⟨_,rfl,fun Q hq=>⟨d,e,b,r,q,hb,hq⟩⟩
end
end TL
namespace TL
open PySem PySem.Spec L2
section
variable {X:Cx}{C:Cn}{E:XE}{p pa pb pc:Bool}{e a b c:Expr}{es:List Expr}{m ma mb mc:ME}{mr:MA}{pos:Pos}{k ka kb kc:Kd}{ks:List Kd}
def QpT:D->Option D
 |.int i=>some (.int (-i))
 |_=>none
def mUn (g:D->Option D)(m:ME):ME:=fun ρ=>(m ρ).bind fun r=>Rs.of ((g r.1).map fun d=>(d,r.2))
theorem Qj6 (ha:PE X a (tX ka C pa E ma))(ok:ka.on true=true:=by rfl):PE X (.UnaryOp .USub a pos) (tX .V C pa E (mUn QpT ma)):=Ql (pe_un un_neg ha) fun σ H Q ⟨F,ρ,τ,fp,I,h⟩=>by
 refine⟨F,ρ,τ,fp,I,h.split.mono fun r1 h1 F1 H1 fp1 v1 I1 n1 f1=>?_⟩
 rw[Kd.JH ok] at I1
 obtain⟨z,ez,h3⟩:=h1.of
 obtain⟨res,eg,rfl⟩:=z03.mp ez
 have rr:=Kd.stay ok f1 .refl I1
 unfold QpT at eg
 split at eg
 ·next i ei=>
  cases eg
  rw[ei] at rr
  exact⟨i,rr.Qu rfl,h3 F1 H1 fp1 _ I1 n1 (.sc rfl)⟩
 ·cases eg
def Qer (g g':D->D->Option D)(ma mb mc:ME):ME:=fun ρ=>(ma ρ).bind fun r1=>(mb r1.2).bind fun r2=>(Rs.of ((g r1.1 r2.1).bind asB)).bind fun q=>if q=true then(mc r2.2).bind fun r3=>Rs.of ((g' r2.1 r3.1).map fun d=>(d,r3.2)) else .ok (.bl false,r2.2)
theorem Qes {r r':R2}{g g':D->D->Option D}(hg:OpD C.K r g)(hg':OpD C.K r' g')(ok:ka.on pb=true)(ok2:kb.on pc=true)(Qmp:kb.on true=true)(ok3:kc.on true=true){σ:L2.St}{H:Hp}{Q:VK}(h:tX .V C (pa && (pb && pc)) E (Qer g g' ma mb mc) σ H Q):tChain r r' (tX ka C pa E ma) (tX kb C pb E mb) (tX kc C pc E mc) σ H Q:=by
 obtain⟨F,ρ,τ,fp,I,h⟩:=h
 refine⟨F,ρ,τ,fp,I,h.split.mono fun r1 h1 F1 H1 fp1 v1 I1 n1 f1=>?_⟩
 rw[Kd.JH ok] at I1
 refine⟨F1,r1.2,τ,fp1,I1,h1.split.mono fun r2 h2 F2 H2 fp2 v2 I2 n2 f2=>?_⟩
 rw[Kd.JH Qmp] at I2
 obtain⟨q,eq,h3⟩:=h2.split.of
 obtain⟨d,eg,eb⟩:=z25.mp eq
 obtain⟨w,ew,hw⟩:=hg H2 v1 v2 _ _ _ (R.top I2 (Kd.stay ok f1 n2 I2)) (R.top I2 (Kd.stay Qmp f2 .refl I2)) eg
 rw[Qhd eb] at ew
 cases ew
 refine hw _ ⟨q,rfl,?_⟩
 by_cases c:q=true
 ·rw[if_pos c] at h3 ⊢
  refine⟨F2,r2.2,τ,fp2,I2,h3.split.mono fun r3 h4 F3 H3 fp3 v3 I3 n3 f3=>?_⟩
  rw[Kd.JH ok3] at I3
  obtain⟨z,ez,h5⟩:=h4.of
  obtain⟨res,eg',rfl⟩:=z03.mp ez
  obtain⟨w',ew',hw'⟩:=hg' H3 v2 v3 _ _ _ (R.top I3 (Kd.stay ok2 f2 n3 I3)) (R.top I3 (Kd.stay ok3 f3 .refl I3)) eg'
  exact hw' _ (h5 F3 H3 fp3 w' I3 (n1.trans (n2.trans n3)) (.sc ew'))
 ·rw[if_neg c] at h3 ⊢
  exact h3 F2 H2 fp2 _ I2 ((n1.trans n2).weak fun z=>by cases pa<;>cases pb<;>cases pc<;>simp_all) (.sc rfl)
theorem QhD {op op':CmpOp}{r r':R2}{g g':D->D->Option D}(ho:OpR X (compareOp op) r)(ho':OpR X (compareOp op') r')(hg:OpD C.K r g)(hg':OpD C.K r' g')(ha:PE X a (tX ka C pa E ma))(hb:PE X b (tX kb C pb E mb))(hc:PE X c (tX kc C pc E mc))(ok:ka.on pb=true:=by rfl)(ok2:kb.on pc=true:=by rfl)(Qmp:kb.on true=true:=by rfl)(ok3:kc.on true=true:=by rfl)
  (hm:lastMarks [op,op'] [b,c]=false:=by with_unfolding_all rfl):PE X (.Compare a [op,op'] [b,c] pos) (tX .V C (pa && (pb && pc)) E (Qer g g' ma mb mc)):=Ql (pe_chain ho ho' ha hb hc hm) fun _ _ _ h=>Qes hg hg' ok ok2 Qmp ok3 h
theorem QfL {op op':CmpOp}{r r':R2}{g g':D->D->Option D}(ho:OpR X (compareOp op) r)(ho':OpR X (compareOp op') r')(hg:OpD C.K r g)(hg':OpD C.K r' g')(ha:PE X a (tX ka C pa E ma))(hb:PE X b (tX kb C pb E mb))(hc:PE X c (tX kc C pc E mc))(ok:ka.on pb=true:=by rfl)(ok2:kb.on pc=true:=by rfl)(Qmp:kb.on true=true:=by rfl)(ok3:kc.on true=true:=by rfl)
  (hm:lastMarks [op,op'] [b,c]=false:=by with_unfolding_all rfl):PT X (.Compare a [op,op'] [b,c] pos) (tT C (pa && (pb && pc)) E (Qb9 (Qer g g' ma mb mc))):=Qb7 (pt_chain ho ho' ha hb hc hm) fun _ _ _ h=>by
 have q:=QbX (k:=.V) rfl h
 exact Qes hg hg' ok ok2 Qmp ok3 q
def QaT:List D->Option D
 | [.nd .lst ds]=>some (.int ds.length)
 | [.nd .tup ds]=>some (.int ds.length)
 | [.str s]=>if s.length<=z18 then some (.int s.length) else none
 |_=>none
theorem Qbn (hK:C.K=X.K):CallD C.K (fun xs H Q=>∃x n,xs=[x]/\LenV X.K x H n/\Q (.int (n:Nat)) H) QaT:=fun H vs ds res r eg=>by
 unfold QaT at eg
 split at eg
 ·obtain⟨v,rfl,h⟩:=r.one
  obtain⟨a,us,rfl,h1,h2⟩:=h.inv
  cases eg
  exact⟨_,rfl,fun Q hq=>⟨.ref a,_,rfl,.inl ⟨us,hK▸h1.sql,h2.length.symm⟩,hq⟩⟩
 ·obtain⟨v,rfl,h⟩:=r.one
  obtain⟨a,us,rfl,h1,h2⟩:=h.inv
  cases eg
  exact⟨_,rfl,fun Q hq=>⟨.ref a,_,rfl,.inr ⟨us,hK▸h1.sqt,h2.length.symm⟩,hq⟩⟩
 ·next s=>
  obtain⟨v,rfl,h⟩:=r.one
  obtain rfl:=h.Qu (w:=.str s) rfl
  by_cases c:s.length<=z18
  ·rw[if_pos c] at eg;cases eg
   exact⟨_,rfl,fun Q hq=>⟨.str s,_,rfl,⟨c,rfl⟩,hq⟩⟩
  ·rw[if_neg c] at eg;cases eg
 ·cases eg
noncomputable def gI2 (f:Int->Int->Int):List D->Option D
 | [.int i,.int j]=>some (.int (f i j))
 |_=>none
def Qrt:=gI2 fun i j=>if j > i then j else i
def Qru:=gI2 fun i j=>if j<i then j else i
theorem dI2 {K:z01}{f:Int->Int->Int}:CallD K (fun xs H Q=>∃i j,xs=[.int i,.int j]/\Q (.int (f i j)) H) (gI2 f):=fun H vs ds res r eg=>by
 unfold gI2 at eg
 split at eg
 ·next i j=>
  cases eg
  obtain⟨v,u,rfl,h1,h2⟩:=r.two
  obtain rfl:=h1.Qu (w:=.int i) rfl
  obtain rfl:=h2.Qu (w:=.int j) rfl
  exact⟨_,rfl,fun Q hq=>⟨i,j,rfl,hq⟩⟩
 ·cases eg
def Qj7:List D->Option (List Bool)
 | []=>some []
 |.bl b::ds=>(Qj7 ds).map (b::·)
 |_=>none
def Qpe:List D->Option D
 | [.nd .lst ds]=>(Qj7 ds).map fun bs=>.bl (bs.all fun b=>b)
 |_=>none
theorem QfM {K:z01}{H:Hp}:∀{vs:List L2.V} {ds:List D} {bs:List Bool},RL K H vs ds->Qj7 ds=some bs->vs=bs.map V.bl
 |_,_,_,.nil,e=>by unfold Qj7 at e;cases e;rfl
 |_,_,_,.cons (d:=d) h r,e=>by
  cases d with
  |bl b=>
   unfold Qj7 at e
   obtain⟨bs,h1,rfl⟩:=z03.mp e
   rw[QfM r h1,h.Qu (w:=.bl b) rfl]
   rfl
  |_=>cases e
theorem Qrv (hK:C.K=X.K):CallD C.K (fun xs H Q=>∃(p:Addr) (bs:List Bool),xs=[.ref p]/\SqL X.K H p (bs.map V.bl)/\Q (.bl (bs.all fun b=>b)) H) Qpe:=fun H vs ds res r eg=>by
 unfold Qpe at eg
 split at eg
 ·obtain⟨v,rfl,h⟩:=r.one
  obtain⟨a,us,rfl,h1,h2⟩:=h.inv
  obtain⟨bs,hb,rfl⟩:=z03.mp eg
  exact⟨_,rfl,fun Q hq=>⟨a,bs,rfl,by rw[← QfM h2 hb];exact hK▸h1.sql,hq⟩⟩
 ·cases eg
theorem boot_all:z52 "all" = some (.builtin "all"):=by decide +kernel
theorem Ve:z52 "max" = some (.builtin "max"):=by decide +kernel
theorem Qcg:z52 "min" = some (.builtin "min"):=by decide +kernel
theorem VB:z52 "isinstance" = some (.builtin "isinstance"):=by decide +kernel
theorem Qch:z52 "int" = some (.type "int"):=by decide +kernel
theorem Qc9:z52 "bool" = some (.type "bool"):=by decide +kernel
theorem QhE:z52 "str" = some (.type "str"):=by decide +kernel
inductive Ty where
 |non|bool|int|str|list|tuple|dict
 deriving DecidableEq
def Ty.nm:Ty->String
 |.non => "NoneType" |.bool => "bool" |.int => "int" |.str => "str" |.list => "list" |.tuple => "tuple" |.dict => "dict"
def Ty.of:D->Option Ty
 |.int _=>some .int|.bl _=>some .bool|.non=>some .non|.str _=>some .str|.ty _=>none|.cls _=>none
 |.nd .lst _=>some .list|.nd .tup _=>some .tuple|.nd (.dT _) _=>some .dict|.nd (.dK _) _=>some .dict|.nd (.ins _ _) _=>none|.nd (.exc _) _=>none
def Ty.sub (t u:Ty):Bool:=t == u || (t == .bool && u == .int)
def Ty.byName (c:String):Option Ty:=if c = "int" then some .int else if c = "bool" then some .bool else if c = "str" then some .str else if c = "list" then some .list else if c = "tuple" then some .tuple else if c = "dict" then some .dict else none
theorem Qet {c:String}{u:Ty}(h:Ty.byName c=some u):c=u.nm/\u≠.non:=by
 unfold Ty.byName at h
 repeat' split at h
 all_goals first|(cases h;subst_vars;exact⟨rfl,by decide⟩)|cases h
theorem QhF (K:z01)(t u:Ty)(hu:u≠.non):zx9 K (.type t.nm) (.type u.nm)=some (t.sub u):=by
 cases t<;>cases u<;>first|exact absurd rfl hu|with_unfolding_all rfl
def Qnb (d:D)(c:String):Option Bool:=(Ty.of d).bind fun t=>(Ty.byName c).map fun u=>t.sub u
def Qnc:List D->Option (List String)
 | []=>some []
 |.ty c::r=>(Qnc r).map (c::·)
 |_=>none
def Qeu (d:D):List String->Option Bool
 | []=>some false
 |c::r=>(Qnb d c).bind fun b=>if b=true then some true else Qeu d r
def Qk2:List D->Option D
 | [d,.ty c]=>(Qnb d c).map .bl
 | [d,.nd .tup ts]=>(Qnc ts).bind fun cs=>((Ty.of d).bind fun _=>Qeu d cs).map .bl
 |_=>none
theorem QhG {pins:List @12}{σ:L2.St}{H:Hp}{s:Shared}{x:L2.V}{u:Value}{d:D}{t:Ty}(I:Inv X pins σ H s)(rx:RelV x u)(r:R X.K H x d)(ht:Ty.of d=some t):∃Z:Heap->Prop,PySem.W.KitX X.K u (.type t.nm) Z/\Z s.heap/\u≠.builtin "__main__.__loader__#opaque" := by
 cases d with
 |int i=>cases ht;obtain rfl:=r.Qu (w:=.int i) rfl;exact Qc0 I rx (.int i)
 |bl b=>cases ht;obtain rfl:=r.Qu (w:=.bl b) rfl;exact Qc0 I rx (.bl b)
 |non=>cases ht;obtain rfl:=r.Qu (w:=.non) rfl;exact Qc0 I rx .non
 |str z=>cases ht;obtain rfl:=r.Qu (w:=.str z) rfl;exact Qc0 I rx (.str z)
 |ty n=>cases ht
 |cls n=>cases ht
 |nd tg ds=>
  obtain⟨a,vs,rfl,h1,h2⟩:=r.inv
  cases(show u=z24 a from rx)
  cases tg with
  |lst=>
   cases ht
   obtain⟨its,_,pl,_⟩:=I.list h1.sql
   obtain⟨o,n,e,c,_,_⟩:=pl
   exact⟨_,zn8,⟨o,e,c⟩,fun z=>nomatch z⟩
  |tup=>
   cases ht
   obtain⟨its,_,pl,_⟩:=I.tuple h1.sqt
   obtain⟨o,e,c,_⟩:=pl
   exact⟨_,zu4,⟨o,e,c⟩,fun z=>nomatch z⟩
  |ins _ _=>cases ht
  |exc _=>cases ht
  |dT ks=>cases ht;exact Qc0 I (show RelV (.ref a) (.ref a) from rfl) (.dT h1.2)
  |dK ks=>cases ht;exact Qc0 I (show RelV (.ref a) (.ref a) from rfl) (.dK h1.2)
theorem Qev {K:z01}{d:D}{t:Ty}(ht:Ty.of d=some t):∀{cs:List String} {b:Bool},Qeu d cs=some b->zy0 K (.type t.nm) (cs.map Value.type)=some b
 | [],b,h=>by unfold Qeu at h;cases h;rfl
 |c::r,b,h=>by
  unfold Qeu at h
  obtain⟨b1,h1,h2⟩:=z25.mp h
  unfold Qnb at h1
  rw[ht] at h1
  obtain⟨u,hu,rfl⟩:=z03.mp h1
  obtain⟨rfl,hn⟩:=Qet hu
  have hk:=QhF K t u hn
  show(match zx9 K (.type t.nm) (.type u.nm) with|some true=>some true|some false=>zy0 K (.type t.nm) (r.map Value.type)|none=>none)=some b
  rw[hk]
  by_cases cc:t.sub u=true
  ·rw[if_pos cc] at h2;cases h2
   rw[cc]
  ·rw[if_neg cc] at h2
   rw[show t.sub u=false by simpa using cc]
   exact Qev ht h2
theorem QhH {K:z01}{H:Hp}:∀{vs:List L2.V} {ts:List D} {cs:List String},RL K H vs ts->Qnc ts=some cs->vs=cs.map V.ty
 |_,_,_,.nil,e=>by unfold Qnc at e;cases e;rfl
 |_,_,_,.cons (d:=d) h r,e=>by
  cases d with
  |ty b=>
   unfold Qnc at e
   obtain⟨bs,h1,rfl⟩:=z03.mp e
   rw[QhH r h1,h.Qu (w:=.ty b) rfl]
   rfl
  |_=>cases e
def Qnd (K:z01):List L2.V->Hp->VK->Prop:=fun xs H Q=>∃ds b,RL K H xs ds/\Qk2 ds=some (.bl b)/\Q (.bl b) H
theorem Qk3 {d:D}{c:String}{b:Bool}(h:Qnb d c=some b):∃t u,Ty.of d=some t/\Ty.byName c=some u/\b=t.sub u:=by
 unfold Qnb at h
 obtain⟨t,h1,h2⟩:=z25.mp h
 obtain⟨u,h3,rfl⟩:=z03.mp h2
 exact⟨t,u,h1,h3,rfl⟩
theorem YB:CallR X (.builtin "isinstance") (Qnd X.K):=by
 intro pins s σ H xs us Q I r h
 obtain⟨ds,b,rl,hg,q⟩:=h
 unfold Qk2 at hg
 split at hg
 ·next d c=>
  obtain⟨b',hb,e⟩:=z03.mp hg
  cases e
  obtain⟨t,u,h1,h2,rfl⟩:=Qk3 hb
  obtain⟨x,y,rfl,rx,ry⟩:=rl.two
  obtain rfl:=ry.Qu (w:=.ty c) rfl
  obtain⟨p,w',rfl,ru,rc⟩:=Vals.two r
  cases rc
  obtain⟨Z,k,z,ne⟩:=QhG I ru rx h1
  obtain⟨rfl,hn⟩:=Qet h2
  exact PySem.W.kia_one k I.kIn z (QhF _ t u hn) ne fun tk=>⟨.bl _,H,I.tok tk,rfl,q⟩
 ·next d ts=>
  obtain⟨cs,hc,hg⟩:=z25.mp hg
  obtain⟨b',hb,e⟩:=z03.mp hg
  cases e
  obtain⟨x,y,rfl,rx,ry⟩:=rl.two
  obtain⟨a,vs,rfl,h1,h2⟩:=ry.inv
  obtain⟨p,w',rfl,ru,rc⟩:=Vals.two r
  cases rc
  have ev:=QhH h2 hc
  subst ev
  obtain⟨its,rv,pl,_⟩:=I.tuple h1.sqt
  obtain⟨⟨cls,dd,data,sl⟩,g1,g2,n,g3⟩:=pl
  have e2:=QgO rv
  subst e2
  simp only at g2 g3
  subst g2 g3
  cases ht:Ty.of d with
  |none=>rw[ht] at hb;cases hb
  |some t=>
   rw[ht] at hb
   obtain⟨Z,k,z,ne⟩:=QhG I ru rx ht
   exact PySem.W.kia_tup k I.kIn z g1 (Qev ht hb) ne fun tk=>⟨.bl _,H,I.tok tk,rfl,q⟩
 ·cases hg
theorem Qmq (hK:C.K=X.K):CallD C.K (Qnd X.K) Qk2:=fun H vs ds res r eg=>by
 have e:∃b,res=.bl b:=by
  unfold Qk2 at eg
  split at eg
  ·obtain⟨b,_,rfl⟩:=z03.mp eg;exact⟨b,rfl⟩
  ·obtain⟨cs,_,eg⟩:=z25.mp eg
   obtain⟨b,_,rfl⟩:=z03.mp eg;exact⟨b,rfl⟩
  ·cases eg
 obtain⟨b,rfl⟩:=e
 exact⟨_,rfl,fun Q hq=>⟨ds,b,hK▸r,eg,hq⟩⟩
noncomputable def Vf (ds:List D):List D:=ds.zipIdx.map fun x=>.tup [.int (x.2:Nat),x.1]
theorem QfN {K:z01}{F:Hp}{a:Addr}{kd:Bool}{vs:List L2.V}{ds:List D}(h:At K F a (if kd then .lst else .tup) vs)(r:RL K F vs ds):ItD K F (Vf ds) (Itq kd K a):=by
 have up:∀{F' H:Hp},Same F F'->Same F' H->SqB kd K H a vs:=fun s1 s2=>by
  cases kd with
  |true=>exact(At.same (t:=.lst) h (s1.trans s2)).sql
  |false=>exact(At.same (t:=.tup) h (s1.trans s2)).sqt
 have get:∀{i:Nat} {d:D},(Vf ds)[i]? = some d->∃x,ds[i]? = some x/\d=.tup [.int (i:Nat),x]:=fun{i d} e=>by
  unfold Vf at e
  rw[z29] at e
  obtain⟨q,hq,rfl⟩:=z03.mp e
  rw[zm0] at hq
  obtain⟨x,hx,rfl⟩:=z03.mp hq
  exact⟨x,hx,by simp⟩
 refine⟨fun{C F' H σ ρ τ fp i d} hk I s e=>?_,fun{C F' H σ ρ τ fp} hk I s=>?_⟩
 ·obtain⟨x,hx,rfl⟩:=get e
  obtain⟨v,ev,rv⟩:=r.get hx
  have q:=up s I.fh
  have fin:∀{T:Addr} {y:L2.V},H T=none->y=v->∃F'',SI C F'' (upd H T (.tup [.int (i:Nat),y])) σ ρ τ fp/\Nx true F' H fp F'' (upd H T (.tup [.int (i:Nat),y])) fp/\R K F'' (.ref T) (.tup [.int (i:Nat),x]):=fun{T y} hT ey=>by
   subst ey
   have s2:=Same.upd (o:=HO.tup [.int (i:Nat),y]) (I.fh.free hT)
   exact⟨_,I.lay hT,⟨s2,fun _=>Qca I hT⟩,.nd (t:=.tup) upd_same (.cons (.sc rfl) (.cons (rv.same (s.trans s2)) .nil))⟩
  cases kd with
  |true=>exact⟨⟨vs,v,q,ev⟩,fun x0 H' ⟨T,y,hT,e1,e2,e3⟩=>by
    subst e1 e2
    have z:=e3 vs q
    rw[ev] at z
    exact fin hT (z35 z).symm⟩
  |false=>exact⟨⟨vs,v,q,ev⟩,fun x0 H' ⟨T,y,hT,e1,e2,e3⟩=>by
    subst e1 e2
    have z:=e3 vs q
    rw[ev] at z
    exact fin hT (z35 z).symm⟩
 ·have q:=up s I.fh
  have l:=r.length
  have l2:(Vf ds).length=ds.length:=by unfold Vf;rw[z00,zi2]
  cases kd with
  |true=>exact⟨vs,q,by lia⟩
  |false=>exact⟨vs,q,by lia⟩
def Qne (mr:MA):MA:=fun ρ=>(mr ρ).bind fun r=>(Rs.of (QgE r.1)).bind fun ds=>.ok (Vf ds,r.2)
theorem QhI {es:List Expr}{k0:Nat}{tp px:Pos}(hm:X.mg "enumerate" = none)(hK:C.K=X.K)(ha:PA X [e] (tA ks C p E mr))(ok:knL ks=true:=by rfl)(hg:Gl X "enumerate" := by rfl)(hs:starEach [e] X.env=@15::starEach [] X.env:=by rfl)(hpl:(backTo pos (starEach [] X.env)).any (·.1)=false:=by rfl) :
  PI X (.Tuple es k0 tp) (.Call (.Name "enumerate" px) [e] [] pos) (tI C p E (Qne mr)):=Qcd (Qi2 hg hm ha hs hpl) fun σ H RR ⟨F,ρ,τ,fp,I,h⟩=>by
 refine⟨F,ρ,τ,fp,I,h.split.mono fun r hr F1 H1 fp1 vs I1 n1 f1=>?_⟩
 rw[JD (YL ok)] at I1
 obtain⟨ds,eg,h2⟩:=hr.split.of
 obtain⟨q,us,rfl,hs,rl⟩:=Qel (f1.kn ok) eg
 rcases hs with hs|hs
 ·refine⟨q,true,rfl,⟨us,by rw[← hK];exact(At.same hs I1.fh).sql⟩,h2 F1 H1 fp1 _ I1 n1 ?_⟩
  rw[← hK]
  exact QfN (kd:=true) hs rl
 ·refine⟨q,false,rfl,⟨us,by rw[← hK];exact(At.same hs I1.fh).sqt⟩,h2 F1 H1 fp1 _ I1 n1 ?_⟩
  rw[← hK]
  exact QfN (kd:=false) hs rl
end
noncomputable def VJ (ρ:Rho)(i:Nat):Option (Bool×List D):=match ρ[i]? with
 |some (some (.own (.nd .lst ds)))=>some (false,ds)
 |some (some (.par (.nd .lst ds)))=>some (true,ds)
 |_=>none
theorem JI {ρ:Rho}{i:Nat}{q:Bool×List D}(h:VJ ρ i=some q):ρ[i]? = some (some (mkS q.1 (.lst q.2))):=by
 unfold VJ at h
 split at h
 ·next e=>cases h;exact e
 ·next e=>cases h;exact e
 ·cases h
section
variable {K:z01}{F H:Hp}
theorem OL.snoc {vs:List L2.V}{ds:List D}{f g:List Addr}{v:L2.V}{d:D}(o:OL K F H vs ds f)(h:O K F H v d g):OL K F H (vs++[v]) (ds++[d]) (f++g):=by
 have q:=o.app (.cons h .nil)
 rw[z71] at q
 exact q
theorem OL.setAt:∀{vs:List L2.V} {ds:List D} {f:List Addr} {j:Nat},OL K F H vs ds f->j<ds.length->∃f1 fj f2 v d,f=f1++(fj++f2)/\vs[j]? = some v/\ds[j]? = some d/\O K F H v d fj/\∀{F' H':Hp} {v':L2.V} {d':D} {g:List Addr},Same F F'->(∀a∈f1++f2,H' a=H a)->O K F' H' v' d' g->OL K F' H' (vs.set j v') (ds.set j d') (f1++(g++f2))
 |_,_,_,j,.nil,h=>by simp at h
 |_,_,_,0,.cons (f:=f) (g:=g) a r,_=>⟨[],f,g,_,_,rfl,rfl,rfl,a,fun{F' H' v' d' g'} sf k o=>by
  show OL K F' H' (_::_) (_::_) (g'++g)
  exact .cons o (r.keep sf k)⟩
 |_,_,_,j+1,.cons (f:=f) (g:=g) a r,h=>by
  obtain⟨f1,fj,f2,v,d,rfl,e1,e2,o,k⟩:=OL.setAt r (j:=j) (by simpa using h)
  refine⟨f++f1,fj,f2,v,d,by simp[z53],by simpa using e1,by simpa using e2,o,fun{F' H' v' d' g'} sf kk o'=>?_⟩
  have q:=OL.cons (a.keep sf fun b hb=>kk b (by simp[hb])) (k sf (fun b hb=>kk b (by simp at hb ⊢;rcases hb with z|z<;>simp[z])) o')
  simpa[z53] using q
theorem O.QhJ {v:L2.V}{ds:List D}{f:List Addr}(o:O K F H v (.nd .lst ds) f):∃a vs g,v=.ref a/\f=a::g/\H a=some (.lst vs)/\OL K F H vs ds g:=by
 cases o with
 |sc e=>cases e
 |im m h r=>cases m
 |mt h r=>exact⟨_,_,_,rfl,rfl,h,r⟩
end
section
variable {X:Cx}{C:Cn}{E:XE}{p pa pb:Bool}{e a b:Expr}{es:List Expr}{m mi:ME}{pos:Pos}{kb rk:Kd}{ks:List Kd}
theorem SI.Qci {F H:Hp}{σ:L2.St}{ρ:Rho}{τ:List (L2.V×D)}{fp:List Addr}{i:Nat}{par:Bool}{ds:List D}(I:SI C F H σ ρ τ fp)(es:ρ[i]? = some (some (mkS par (.lst ds)))):∃l vs f rest,σ[i]? = some (some (.ref l))/\H l=some (.lst vs)/\OL C.K F H vs ds f/\fp.Perm ((l::f)++rest)/\(∀b∈l::f,YM C par b)/\
  ∀{H':Hp} {vs':List L2.V} {ds':List D} {f':List Addr},H' l=some (.lst vs')->OL C.K F H' vs' ds' f'->(∀b,b∈rest->H' b=H b)->(∀b o,H b=some o->b∉l::f->H' b=some o)->(∀b,H' b=none->H b=none)->((l::f')++rest).Nodup->(∀b∈f',F b=none/\YM C par b)->SI C F H' σ (ρ.set i (some (mkS par (.lst ds')))) τ ((l::f')++rest):=by
 obtain⟨x,f0,g0,rest,ex,s1,pm,w0,w1,cl⟩:=I.cut es
 obtain⟨v,fi,ev,ho,efi,wfi⟩:∃v fi,x=some v/\O C.K F H v (.nd .lst ds) fi/\f0++g0=fi/\∀a∈fi,YM C par a:=by
  cases par with
  |false=>cases s1 with|own h=>exact⟨_,_,rfl,h,by simp,fun a ha=>.inl (w0 a ha)⟩
  |true=>cases s1 with|par h=>exact⟨_,_,rfl,h,rfl,fun a ha=>(w1 a ha).elim (fun z=>.inr ⟨rfl,z⟩) fun z=>.inl z⟩
 subst ev
 obtain⟨l,vs,g,rfl,rfl,hl,ol⟩:=ho.QhJ
 have pm':fp.Perm ((l::g)++rest):=by
  rw[← efi,z53];exact pm
 have ndp:=pm'.nodup_iff.mp I.nd
 refine⟨l,vs,g,rest,ex,hl,ol,pm',wfi,fun{H' vs' ds' f'} hl' ol' hk kp dm nd fr=>?_⟩
 have hF:Same F H':=fun b o e=>by
  refine kp b o (I.fh b o e) fun z=>?_
  have:=I.ap b (pm'.mem_iff.mpr (z15 _ z))
  rw[e] at this;cases this
 have nop:∀b,C.H₀ b≠none->b∉C.A->b∉l::g:=fun b h1 h2 z=>by
  rcases wfi b z with y|y
  ·exact h1 y
  ·exact h2 y.2
 have apn:∀b∈(l::f')++rest,F b=none:=fun b hb=>by
  rcases z14.mp hb with z|z
  ·rcases z19.mp z with rfl|z
   ·exact I.ap _ (pm'.mem_iff.mpr @9)
   ·exact(fr b z).1
  ·exact I.ap b (pm'.mem_iff.mpr (z04 _ z))
 have frn:∀b∈l::f',YM C par b:=fun b hb=>by
  rcases z19.mp hb with rfl|z
  ·exact wfi _ z07
  ·exact(fr b z).2
 have es':=es
 cases par with
 |false=>
  have J:=cl (F':=F) (H':=H') (x':=some (.ref l)) (s':=some (.own (.lst ds'))) (f0':=l::f') (g0':=[]) (Same.refl F) hF hk dm (fun b o e n z=>kp b o z (nop b (by rw[e];simp) n)) (fun _ _ z=>.inl z) (.own (.mt (t:=.lst) hl' ol')) nd apn (fun b hb=>(frn b hb).resolve_right fun z=>nomatch z.1) @5 (fun v hv=>by
   obtain⟨_,d',z⟩:=I.pr _ _ hv
   rw[es] at z;cases z)
  rw[Ja ex] at J
  exact J
 |true=>
  have J:=cl (F':=F) (H':=H') (x':=some (.ref l)) (s':=some (.par (.lst ds'))) (f0':=[]) (g0':=l::f') (Same.refl F) hF hk dm (fun b o e n z=>kp b o z (nop b (by rw[e];simp) n)) (fun _ _ z=>.inl z) (.par (.mt (t:=.lst) hl' ol')) nd apn @5 (fun b hb=>(frn b hb).elim (fun z=>.inr z) fun z=>.inl z.2) (fun v hv=>⟨by
   obtain⟨z,_⟩:=I.pr _ _ hv
   rw[ex] at z;exact z35 z,_,rfl⟩)
  rw[Ja ex] at J
  exact J
theorem SI.Qew {F H:Hp}{σ:L2.St}{ρ:Rho}{τ:List (L2.V×D)}{fp:List Addr}{i:Nat}{par:Bool}{ds:List D}(I:SI C F H σ ρ τ fp)(es:ρ[i]? = some (some (mkS par (.lst ds)))):∃l vs f rest,σ[i]? = some (some (.ref l))/\H l=some (.lst vs)/\OL C.K F H vs ds f/\fp.Perm ((l::f)++rest)/\(∀b∈l::f,YM C par b)/\
  ∀{vs':List L2.V} {ds':List D} {f':List Addr},OL C.K F H vs' ds' f'->((l::f')++rest).Nodup->(∀b∈f',F b=none/\YM C par b)->SI C F (upd H l (.lst vs')) σ (ρ.set i (some (mkS par (.lst ds')))) τ ((l::f')++rest):=by
 obtain⟨l,vs,f,rest,ex,hl,ol,pm,w,cl⟩:=I.Qci es
 have ndp:=pm.nodup_iff.mp I.nd
 refine⟨l,vs,f,rest,ex,hl,ol,pm,w,fun{vs' ds' f'} ol' nd fr=>?_⟩
 have nl:∀{b:Addr},b∈f'\/b∈rest->b≠l:=fun{b} hb z=>by
  subst z
  have:=(z60.mp (show(b::(f'++rest)).Nodup from nd)).1
  exact this (z14.mpr hb)
 refine cl upd_same (ol'.keep (Same.refl _) fun b hb=>upd_ne (nl (.inl hb))) (fun b hb=>upd_ne (nl (.inr hb))) (fun b o e n=>(upd_ne (by intro z;subst z;exact n z07)).trans e) (fun b e=>?_) nd fr
 by_cases hb:b=l
 ·subst hb;rw[upd_same] at e;cases e
 ·rw[upd_ne hb] at e;exact e
def QpU (i:Nat)(m:ME):MS:=fun ρ=>(Rs.of (VJ ρ i)).bind fun _=>(m ρ).bind fun r=>(Rs.of (VJ r.2 i)).bind fun q=>if q.2.length<z18 then .ok (.nx,r.2.set i (some (mkS q.1 (.lst (q.2++[r.1]))))) else .no
theorem Qk4 {i:Nat}{x:Str}{np apos cpos:Pos}(hK:C.K=X.K)(hN:X.N[i]? = some x)(hv:Vis X.env.scope x)(he:PE X e (tX .O C p E m))(hs:swapsWith (.Call (.Attribute (.Name x np) "append" apos) [e] [] cpos) none pos.line X.env=pure false:=by rfl)
  (hbase:attributeBase (.Name x np) "append" X.env (eval (.Name x np) X.env)=eval (.Name x np) X.env:=by rfl) (hfew:((backTo cpos (starEach [e] X.env)).all (fun x=>!x.1) && (backToKw cpos (keywordEach [] X.env)).all (fun x=>x.1.isSome) && decide ([e].length+([]:List Keyword).length+(if([]:List Keyword).isEmpty then 0 else 1)<30))=true:=by rfl)
  (hline:(apos.endLine == cpos.line)=true:=by rfl) (hst:starEach [e] X.env=@15::starEach [] X.env:=by rfl) (hplain:(backTo cpos (starEach [] X.env)).any (·.1)=false:=by rfl) (hd:@6=false:=by decide) (hcd:(x == ("__classdict__" : Str))=false:=by decide) :
  PS X (.Expr (.Call (.Attribute (.Name x np) "append" apos) [e] [] cpos) pos) (tS rk C E (QpU i m)):=
 QT (ps_expr (pe_bm zf1 PySem.F.slot_list_append PySem.F.type_list_append mt_append (pe_var hN hv hd hcd) (pa_cons he pa_nil hst) hbase hfew hline hst hplain) hs) fun D σ H ⟨F,ρ,fp,I,h⟩=>by
 obtain⟨q0,e0,h⟩:=h.split.of
 obtain⟨l0,vs0,f0,Qe3,ex0,hl0,_⟩:=I.Qci (JI e0)
 refine⟨_,ex0,.inl ⟨rfl,vs0,SqL.of hl0⟩,F,ρ,[],fp,I,h.split.run.mono fun r hr F1 H1 fp1 v I1 n1 _=>?_⟩
 obtain⟨q,eq,h2⟩:=hr.split.of
 obtain⟨ft,QhK,ot,pmt,J,t0,tap,tnd⟩:=SI.pop (τ:=[]) I1
 obtain⟨l,vs,f,rest,ex,hl,ol,pm,w,cl⟩:=J.Qew (JI eq)
 have el:l=l0:=by rw[ex0] at ex;cases ex;rfl
 subst el
 by_cases hz:q.2.length<z18
 ·rw[if_pos hz] at h2
  have ndJ:=pm.nodup_iff.mp J.nd
  refine⟨l,vs,v,rfl,rfl,hl,by rw[ol.length];exact hz,?_⟩
  refine h2 F1 _ σ _ n1.f (cl (ol.snoc ot) ?_ fun b hb=>?_)
  ·have pp:(ft++((l::f)++rest)).Perm ((l::(f++ft))++rest):=by
    rw[z68]
    intro a
    simp only[z78,zh6]
    lia
   exact pp.nodup_iff.mp ((pm.append_left ft).nodup_iff.mp tnd)
  ·rcases z14.mp hb with z|z
   ·exact⟨J.ap b (pm.mem_iff.mpr (by simp[z])),w b (z08 _ z)⟩
   ·exact⟨tap b z,.inl (t0 b z)⟩
 ·rw[if_neg hz] at h2;exact h2.elim
noncomputable def asL:D->Option (List D)
 |.nd .lst ds=>some ds
 |_=>none
theorem Qbo {d:D}{ds:List D}(h:asL d=some ds):d=.nd .lst ds:=by
 unfold asL at h
 split at h
 ·cases h;rfl
 ·cases h
noncomputable def asI:D->Option Int
 |.int i=>some i
 |_=>none
theorem Qex {d:D}{i:Int}(h:asI d=some i):d=.int i:=by
 cases d<;>cases h
 rfl
def QpV (i:Nat)(m:ME):MS:=fun ρ=>(Rs.of (VJ ρ i)).bind fun _=>(m ρ).bind fun r=>(Rs.of (VJ r.2 i)).bind fun q=>(Rs.of (asL r.1)).bind fun ds=>if q.2.length+ds.length<=z18 then .ok (.nx,r.2.set i (some (mkS q.1 (.lst (q.2++ds))))) else .no
theorem QpW {i:Nat}{x:Str}{np apos cpos:Pos}(hK:C.K=X.K)(hN:X.N[i]? = some x)(hv:Vis X.env.scope x)(he:PE X e (tX .O C p E m))(hs:swapsWith (.Call (.Attribute (.Name x np) "extend" apos) [e] [] cpos) none pos.line X.env=pure false:=by rfl)
  (hbase:attributeBase (.Name x np) "extend" X.env (eval (.Name x np) X.env)=eval (.Name x np) X.env:=by rfl) (hfew:((backTo cpos (starEach [e] X.env)).all (fun x=>!x.1) && (backToKw cpos (keywordEach [] X.env)).all (fun x=>x.1.isSome) && decide ([e].length+([]:List Keyword).length+(if([]:List Keyword).isEmpty then 0 else 1)<30))=true:=by rfl)
  (hline:(apos.endLine == cpos.line)=true:=by rfl) (hst:starEach [e] X.env=@15::starEach [] X.env:=by rfl) (hplain:(backTo cpos (starEach [] X.env)).any (·.1)=false:=by rfl) (hd:@6=false:=by decide) (hcd:(x == ("__classdict__" : Str))=false:=by decide) :
  PS X (.Expr (.Call (.Attribute (.Name x np) "extend" apos) [e] [] cpos) pos) (tS rk C E (QpV i m)):=
 QT (ps_expr (pe_bm zf1 PySem.F.slot_list_extend PySem.F.type_list_extend mt_extend (pe_var hN hv hd hcd) (pa_cons he pa_nil hst) hbase hfew hline hst hplain) hs) fun D σ H ⟨F,ρ,fp,I,h⟩=>by
 obtain⟨q0,e0,h⟩:=h.split.of
 obtain⟨l0,vs0,f0,Qe3,ex0,hl0,_⟩:=I.Qci (JI e0)
 refine⟨_,ex0,.inl ⟨rfl,vs0,SqL.of hl0⟩,F,ρ,[],fp,I,h.split.run.mono fun r hr F1 H1 fp1 v I1 n1 _=>?_⟩
 obtain⟨q,eq,h2⟩:=hr.split.of
 obtain⟨ft,QhK,ot,pmt,J,t0,tap,tnd⟩:=SI.pop (τ:=[]) I1
 obtain⟨l,vs,f,rest,ex,hl,ol,pm,w,cl⟩:=J.Qew (JI eq)
 have el:l=l0:=by rw[ex0] at ex;cases ex;rfl
 subst el
 obtain⟨d,ρ1⟩:=r
 dsimp only at h2 eq ot J
 obtain⟨ds,ed,h3⟩:=h2.split.of
 obtain rfl:=Qbo ed
 ·by_cases hz:q.2.length+ds.length<=z18
  ·rw[if_pos hz] at h3
   obtain⟨bb,us,g,rfl,rfl,hb,ob⟩:=ot.QhJ
   refine⟨l,bb,vs,us,rfl,rfl,hl,hb,by rw[ol.length,ob.length];exact hz,?_⟩
   refine h3 F1 _ σ _ n1.f (cl (ol.app ob) ?_ fun b hb=>?_)
   ·have Qrw:(g++QhK).Nodup:=(z60.mp (show(bb::(g++QhK)).Nodup from tnd)).2
    have pp:(g++((l::f)++rest)).Perm ((l::(f++g))++rest):=by
     rw[z68]
     intro a
     simp only[z78,zh6]
     lia
    exact pp.nodup_iff.mp ((pm.append_left g).nodup_iff.mp Qrw)
   ·rcases z14.mp hb with z|z
    ·exact⟨J.ap b (pm.mem_iff.mpr (by simp[z])),w b (z08 _ z)⟩
    ·exact⟨tap b (z08 _ z),.inl (t0 b (z08 _ z))⟩
  ·rw[if_neg hz] at h3;exact h3.elim
def Qj8 (i:Nat)(m mi:ME):MS:=fun ρ=>(m ρ).bind fun r=>(Rs.of (VJ r.2 i)).bind fun _=>(mi r.2).bind fun s=>(Rs.of (VJ s.2 i)).bind fun q=>(Rs.of ((asI s.1).bind fun n=>ixN q.2.length n)).bind fun j=>
 .ok (.nx,s.2.set i (some (mkS q.1 (.lst (q.2.set j r.1)))))
theorem Qj9 {n:Nat}{i:Int}{j:Nat}(h:ixN n i=some j):j<n:=by
 unfold ixN at h
 split at h
 ·split at h
  ·cases h;lia
  ·cases h
 ·split at h
  ·cases h;lia
  ·cases h
theorem QdQ {i:Nat}{x:Str}{np spos:Pos}{ix:Expr}(hK:C.K=X.K)(hN:X.N[i]? = some x)(hv:Vis X.env.scope x)(he:PE X e (tX .O C pa E m))(hi:PE X ix (tX kb C pb E mi))(ok:kb.on true=true:=by rfl)
  (hs:swapsWithSole [.Subscript (.Name x np) ix spos] e pos.line X.env=pure false:=by rfl) (hw:swappedStores [.Subscript (.Name x np) ix spos] e X.env=pure none:=by rfl)
  (h1:(assignEach [.Subscript (.Name x np) ix spos] X.env).map (·.2)=[assign (.Subscript (.Name x np) ix spos) X.env]:=by rfl)
  (hg:PG X (.Subscript (.Name x np) ix spos) (L2.gSub (tVar i) (tX kb C pb E mi) rSetL)) :
  PS X (.Assign [.Subscript (.Name x np) ix spos] e pos) (tS rk C E (Qj8 i m mi)):=
 QT (ps_asg he hg hs hw h1) fun D σ H ⟨F,ρ,fp,I,h⟩=>by
 refine⟨F,ρ,[],fp,I,h.split.run.mono fun r hr F1 H1 fp1 v I1 n1 _=>?_⟩
 obtain⟨q0,e0,hr⟩:=hr.split.of
 obtain⟨l0,vs0,f0,Qe3,ex0,hl0,_⟩:=SI.Qci I1 (JI e0)
 refine⟨_,ex0,F1,r.2,[(v,r.1)],fp1,I1,hr.split.run.mono fun s hs F2 H2 fp2 iv I2 n2 f2=>?_⟩
 rw[Kd.JH ok] at I2
 obtain⟨q,eq,h2⟩:=hs.split.of
 obtain⟨j,ej,h3⟩:=h2.split.of
 obtain⟨n,en,ejn⟩:=z25.mp ej
 have riv:=Kd.stay ok f2 .refl I2
 rw[Qex en] at riv
 obtain rfl:=riv.Qu (w:=.int n) rfl
 obtain⟨ft,QhK,ot,pmt,J,t0,tap,tnd⟩:=SI.pop (τ:=[]) I2
 obtain⟨l,vs,f,rest,ex,hl,ol,pm,w,cl⟩:=J.Qew (JI eq)
 have el:l=l0:=by rw[ex0] at ex;cases ex;rfl
 subst el
 have lj:j<q.2.length:=Qj9 ejn
 obtain⟨f1,fj,f2',v0,d0,rfl,_,_,_,ks⟩:=ol.setAt lj
 refine⟨l,vs,n,j,rfl,rfl,hl,by rw[ol.length];exact ejn,?_⟩
 refine h3 F2 _ σ _ (n1.f.trans n2.f) (cl (ks (Same.refl _) (fun _ _=>rfl) ot) ?_ fun b hb=>?_)
 ·have big:=(pm.append_left ft).nodup_iff.mp tnd
  have pp:(ft++((l::(f1++(fj++f2')))++rest)).Perm (fj++((l::(f1++(ft++f2')))++rest)):=by
   rw[z68]
   intro a
   simp only[z78,zh6]
   lia
  exact(z17.mp (pp.nodup_iff.mp big)).2.1
 ·simp only[z14] at hb
  rcases hb with z|z|z
  ·exact⟨J.ap b (pm.mem_iff.mpr (by simp[z])),w b (by simp[z])⟩
  ·exact⟨tap b z,.inl (t0 b z)⟩
  ·exact⟨J.ap b (pm.mem_iff.mpr (by simp[z])),w b (by simp[z])⟩
end
section
variable {X:Cx}{C:Cn}{E:XE}{p pa pb:Bool}{e a b c:Expr}{es:List Expr}{m ma mb mi:ME}{pos:Pos}{k ka kb rk:Kd}{ks:List Kd}
def QpX (K:z01):R2:=fun x y H Q=>∃l b xs zs,x=.ref l/\y=.ref b/\SqL K H l xs/\SqL K H b zs/\xs.length+zs.length<=z18/\∀p,H p=none->Q (.ref p) (upd H p (.lst (xs++zs)))
theorem Qk5:OpR X (binaryOp .Add) (QpX X.K):=by
 intro pins s σ H x y v u Q I rx ry h
 obtain⟨l,b,xs,zs,rfl,rfl,hH,hB,hz,q⟩:=h
 cases rx
 cases ry
 obtain⟨its,r,pl,z⟩:=I.list hH
 obtain⟨its2,r2,pl2,z2⟩:=I.list hB
 obtain⟨⟨cls,dd,data,sl⟩,n,ho,hc,hdd,hd⟩:=pl
 obtain⟨⟨cls2,dd2,data2,sl2⟩,n2,ho2,hc2,QsA,hd2⟩:=pl2
 cases hc;cases hd;cases hc2;cases hd2
 have hl:=r.length
 have hl2:=r2.length
 refine PySem.concat_meets ⟨_,ho,rfl⟩ ⟨_,ho2,rfl⟩ PySem.noFill_list_add PySem.seq_list_add PySem.F.slot_list_add PySem.F.entry_list_add (PySem.F.args_list_add_2 _ _) (PyProof.Rows.list_addW l b its.toArray its2.toArray n n2 dd dd2 sl sl2 (by rw[z16,z16];lia)) ⟨ho,ho2,?_⟩
 have ea:its.toArray++its2.toArray=(its++its2).toArray:=by simp
 rw[ea]
 exact⟨.ref _,_,I.lnew (t':=s.toks) (r.append r2) (by rw[z49];lia),rfl,q _ I.fresh⟩
def Qk6 (ma mb:ME):ME:=fun ρ=>(ma ρ).bind fun r1=>(mb r1.2).bind fun r2=>(Rs.of (asL r1.1)).bind fun xs=>(Rs.of (asL r2.1)).bind fun ys=>if xs.length+ys.length<=z18 then .ok (.lst (xs++ys),r2.2) else .no
def Qnf (ma mb:ME):ME:=fun ρ=>(ma ρ).bind fun r1=>(mb r1.2).bind fun r2=>(Rs.of (asL r1.1)).bind fun xs=>(Rs.of (asL r2.1)).bind fun ys=>if xs.length+ys.length<=z18 then(if D.QI (xs++ys)=true then .ok (.lst (xs++ys),r2.2) else .no) else .no
theorem Qka (hK:C.K=X.K)(ha:PE X a (tX .V C pa E ma))(hb:PE X b (tX .V C pb E mb)):PE X (.BinOp a .Add b pos) (tX .V C (pa && pb) E (Qk6 ma mb)):=Ql (pe_op Qk5 ha hb) fun σ H Q ⟨F,ρ,τ,fp,I,h⟩=>by
 refine⟨F,ρ,τ,fp,I,h.split.mono fun r1 h1 F1 H1 fp1 v1 I1 n1 f1=>?_⟩
 refine⟨F1,r1.2,τ,fp1,I1,h1.split.mono fun r2 h2 F2 H2 fp2 v2 I2 n2 f2=>?_⟩
 obtain⟨xs,e1,h3⟩:=h2.split.of
 obtain⟨ys,e2,h4⟩:=h3.split.of
 have g1:R C.K F2 v1 (.nd .lst xs):=by rw[← Qbo e1];exact R.same n2.f f1
 have g2:R C.K F2 v2 (.nd .lst ys):=by rw[← Qbo e2];exact f2
 obtain⟨l1,us,rfl,a1,rl1⟩:=g1.inv
 obtain⟨l2,ws,rfl,a2,rl2⟩:=g2.inv
 by_cases hz:xs.length+ys.length<=z18
 ·rw[if_pos hz] at h4
  refine⟨l1,l2,us,ws,rfl,rfl,hK▸At.same a1 I2.fh,hK▸At.same a2 I2.fh,by rw[rl1.length,rl2.length];exact hz,fun q hq=>?_⟩
  have s:=Same.upd (o:=HO.lst (us++ws)) (I2.fh.free hq)
  exact h4 _ _ fp2 _ (I2.lay hq) (((n1.trans n2).trans (q:=true) ⟨s,fun _=>Qca I2 hq⟩).weak fun z=>by simpa using z) (.nd (t:=.lst) (.inl (.inl upd_same)) ((rl1.app rl2).same s))
 ·rw[if_neg hz] at h4;exact h4.elim
abbrev MO:=Rho->Rs (Option Int×Rho)
def tO (C:Cn)(p:Bool)(E:XE)(m:MO):TO:=fun σ H Q=>∃F ρ τ fp,SI C F H σ ρ τ fp/\Run C E σ (m ρ) fun r=>∀F' H' fp',SI C F' H' σ r.2 τ fp'->Nx p F H fp F' H' fp'->Q r.1 H'
def QqY:MO:=fun ρ=>.ok (none,ρ)
def QqZ (m:ME):MO:=fun ρ=>(m ρ).bind fun r=>(Rs.of (asI r.1)).bind fun i=>.ok (some i,r.2)
theorem QhL {e:Option Expr}{t t':TO}(h:PO X e t)(k:∀σ H Q,t' σ H Q->t σ H Q):PO X e t':=fun pins s σ H Q I q=>h pins s σ H Q I (k _ _ _ q)
theorem Qng:PO X none (tO C true E QqY):=QhL po_none fun σ H Q ⟨F,ρ,τ,fp,I,h⟩=>h F H fp I .refl
theorem QhM (h:PE X e (tX k C p E m))(ok:k.on true=true:=by rfl):PO X (some e) (tO C p E (QqZ m)):=QhL (po_some h) fun σ H Q ⟨F,ρ,τ,fp,I,h⟩=>by
 refine⟨F,ρ,τ,fp,I,h.split.mono fun r1 h1 F1 H1 fp1 v1 I1 n1 f1=>?_⟩
 rw[Kd.JH ok] at I1
 obtain⟨i,ei,h2⟩:=h1.split.of
 have rr:=Kd.stay ok f1 .refl I1
 rw[Qex ei] at rr
 exact⟨i,rr.Qu rfl,h2 F1 H1 fp1 I1 n1⟩
noncomputable def cutD {α:Type}(xs:List α)(lo hi:Option Int):List α:=(xs.drop (HT.sIx xs.length 0 lo)).take (HT.sIx xs.length xs.length hi - HT.sIx xs.length 0 lo)
theorem RL.drop {K:z01}{F:Hp}{vs:List L2.V}{ds:List D}(n:Nat)(r:RL K F vs ds):RL K F (vs.drop n) (ds.drop n):=by
 induction n generalizing vs ds with
 |zero=>exact r
 |succ n ih=>cases r with
  |nil=>exact .nil
  |cons _ r=>exact ih r
theorem RL.take {K:z01}{F:Hp}{vs:List L2.V}{ds:List D}(n:Nat)(r:RL K F vs ds):RL K F (vs.take n) (ds.take n):=by
 induction n generalizing vs ds with
 |zero=>exact .nil
 |succ n ih=>cases r with
  |nil=>exact .nil
  |cons h r=>exact .cons h (ih r)
theorem RL.cut {K:z01}{F:Hp}{vs:List L2.V}{ds:List D}{lo hi:Option Int}(r:RL K F vs ds):RL K F (cutV vs lo hi) (cutD ds lo hi):=by
 unfold cutV cutD
 rw[r.length]
 exact(r.drop _).take _
def Qq0 (m:ME)(lo hi:MO):ME:=fun ρ=>(m ρ).bind fun r=>(lo r.2).bind fun l=>(hi l.2).bind fun h=>(Rs.of (asL r.1)).bind fun xs=>.ok (.lst (cutD xs l.1 h.1),h.2)
variable {lo hi:Option Expr}{ml mh:MO}{p2:Pos}
theorem Qnh (hK:C.K=X.K)(he:PE X e (tX .V C p E m))(hl:PO X lo (tO C pa E ml))(hu:PO X hi (tO C pb E mh)):PE X (.Subscript e (.Slice lo hi none p2) pos) (tX .V C (p && (pa && pb)) E (Qq0 m ml mh)):=Ql (pe_slice sl_list he hl hu) fun σ H Q ⟨F,ρ,τ,fp,I,h⟩=>by
 refine⟨F,ρ,τ,fp,I,h.split.mono fun r1 h1 F1 H1 fp1 v1 I1 n1 f1=>?_⟩
 refine⟨F1,r1.2,τ,fp1,I1,h1.split.mono fun r2 h2 F2 H2 fp2 I2 n2=>?_⟩
 refine⟨F2,r2.2,τ,fp2,I2,h2.split.mono fun r3 h3 F3 H3 fp3 I3 n3=>?_⟩
 obtain⟨xs,e1,h4⟩:=h3.split.of
 have g1:R C.K F3 v1 (.nd .lst xs):=by rw[← Qbo e1];exact R.same (n2.f.trans n3.f) f1
 obtain⟨l1,us,rfl,a1,rl1⟩:=g1.inv
 refine⟨l1,us,rfl,by rw[← hK];exact(At.same a1 I3.fh).sql,fun q hq=>?_⟩
 have s:=Same.upd (o:=HO.lst (cutV us r2.1 r3.1)) (I3.fh.free hq)
 exact h4 _ _ fp3 _ (I3.lay hq) (((n1.trans (n2.trans n3)).trans (q:=true) ⟨s,fun _=>Qca I3 hq⟩).weak fun z=>by simpa using z) (.nd (t:=.lst) (.inl (.inl upd_same)) (rl1.cut.same s))
def Qrx:D->Option Key
 |.int i=>some (.inl i)
 |.str s=>some (.inr s)
 |_=>none
def Qni:List D->Option (List Key)
 | []=>some []
 |d::ds=>(Qrx d).bind fun k=>(Qni ds).map (k::·)
def Qpf:D->Option (List Key)
 |.nd .tup ds=>Qni ds
 |_=>none
theorem QhN {K:z01}{F:Hp}:∀{vs:List L2.V} {ds:List D} {ks:List Key},RL K F vs ds->Qni ds=some ks->vs=ks.map kV
 |_,_,_,.nil,e=>by unfold Qni at e;cases e;rfl
 |_,_,_,.cons (d:=d) h r,e=>by
  unfold Qni at e
  obtain⟨k,h1,h2⟩:=z25.mp e
  obtain⟨ks,h3,rfl⟩:=z03.mp h2
  rw[z33,← QhN r h3]
  cases d with
  |int i=>cases h1;rw[h.Qu (w:=.int i) rfl];rfl
  |str z=>cases h1;rw[h.Qu (w:=.str z) rfl];rfl
  |_=>cases h1
theorem Qkb {K:z01}{F:Hp}{v:L2.V}{d:D}{ks:List Key}(r:R K F v d)(e:Qpf d=some ks):∃b,v=.ref b/\F b=some (.tup (ks.map kV)):=by
 unfold Qpf at e
 split at e
 ·obtain⟨a,vs,rfl,h1,h2⟩:=r.inv
  have ev:=QhN h2 e
  subst ev
  exact⟨a,rfl,h1⟩
 ·cases e
def QpY:ME:=fun ρ=>.ok (.nd (.dT []) [],ρ)
theorem Qk7:PE X (.Dict [] [] pos) (tX .O C true E QpY):=Ql pe_dnewT fun σ H Q ⟨F,ρ,τ,fp,I,h⟩=>fun q hq=>by
 have J:=I.lay0 (o:=.dT []) hq
 have nq:q∉fp:=fun z=>by
  obtain⟨o,e,_⟩:=I.mem q z
  rw[hq] at e;cases e
 refine h F _ _ (.ref q) (J.push (f:=[q]) (.mt (t:=.dT []) (vs:=[]) ⟨rfl,upd_same⟩ .nil) (fun a ha=>?_) (fun a ha=>?_) (z17.mpr ⟨by simp,I.nd,fun x hx y hy z=>?_⟩)) ⟨Same.refl _,fun _=>Qcb I hq⟩ z50
 ·rw[z38.mp ha];exact I.dm q hq
 ·rw[z38.mp ha];exact I.fh.free hq
 ·subst z;rw[z38.mp hx] at hy;exact nq hy
def Qk8:D->D->Option Bool
 |y,.nd (.dT ks) _=>(Qpf y).map fun k=>ks.any fun x=>decide (x=k)
 |_,_=>none
theorem QfO {κ:Type}[DecidableEq κ]:∀{ks:List κ} {vs:List V} {k:κ},ks.length=vs.length->(valV (ks.zip vs) k).isSome=ks.any fun x=>decide (x=k)
 | [],[],k,_=>rfl
 | [],_::_,_,h=>by cases h
 |_::_,[],_,h=>by cases h
 |x::ks,v::vs,k,h=>by
  rw[z82]
  by_cases e:x=k
  ·rw[valV_pos e,za8,decide_eq_true e];rfl
  ·rw[valV_neg e,QfO (by simpa using h),za8,decide_eq_false e];rfl
def QpZ (f:Bool->Bool)(my md:ME):ME:=fun ρ=>(my ρ).bind fun r1=>(md r1.2).bind fun r2=>Rs.of ((Qk8 r1.1 r2.1).map fun b=>(.bl (f b),r2.2))
theorem Qk9 {F H:Hp}{v u:L2.V}{y d:D}{q:Bool}(hs:Same F H)(r1:R C.K F v y)(r2:R C.K F u d)(eg:Qk8 y d=some q):∃l o,u=.ref l/\DGet H l v o/\o.isSome=q:=by
 unfold Qk8 at eg
 split at eg
 ·obtain⟨l,us,rfl,h1,h2⟩:=r2.inv
  obtain⟨k,ek,rfl⟩:=z03.mp eg
  obtain⟨bb,rfl,hb⟩:=Qkb r1 ek
  exact⟨l,_,rfl,DGet.t (hs _ _ h1.2) (hs _ _ hb),QfO h1.1⟩
 ·cases eg
theorem Qnj (hu:X.A.units+1<cLine)(hy:PE X a (tX ka C pa E ma))(hd:PE X b (tX kb C pb E mb))(ok:ka.on pb=true:=by rfl)(ok2:kb.on true=true:=by rfl)(hm:behindInMarks .In b=false:=by rfl):PT X (.Compare a [.In] [b] pos) (tT C (pa && pb) E (Qb9 (QpZ id ma mb))):=Qb7 (pt_cmp (pc_din hu hy hd) hm) fun σ H Q h=>by
 obtain⟨F,ρ,τ,fp,I,h⟩:=QbX (k:=.V) rfl h
 refine⟨F,ρ,τ,fp,I,h.split.mono fun r1 h1 F1 H1 fp1 v1 I1 n1 f1=>?_⟩
 rw[Kd.JH ok] at I1
 refine⟨F1,r1.2,τ,fp1,I1,h1.split.mono fun r2 h2 F2 H2 fp2 v2 I2 n2 f2=>?_⟩
 rw[Kd.JH ok2] at I2
 obtain⟨z,ez,h3⟩:=h2.of
 obtain⟨q,eg,rfl⟩:=z03.mp ez
 obtain⟨l,o,rfl,hg,rfl⟩:=Qk9 (Yd I2.fh) (Kd.stay ok f1 n2 I2) (Kd.stay ok2 f2 .refl I2) eg
 exact⟨l,o,rfl,hg,h3 F2 H2 fp2 _ I2 (n1.trans n2) (.sc rfl)⟩
noncomputable def Qkc (ρ:Rho)(i:Nat):Option (Bool×List (List Key)×List D):=match ρ[i]? with
 |some (some (.own (.nd (.dT ks) ds)))=>some (false,ks,ds)
 |some (some (.par (.nd (.dT ks) ds)))=>some (true,ks,ds)
 |_=>none
theorem QhO {ρ:Rho}{i:Nat}{q:Bool×List (List Key)×List D}(h:Qkc ρ i=some q):ρ[i]? = some (some (mkS q.1 (.nd (.dT q.2.1) q.2.2))):=by
 unfold Qkc at h
 split at h
 ·next e=>cases h;exact e
 ·next e=>cases h;exact e
 ·cases h
noncomputable def putD {κ:Type}[DecidableEq κ](ks:List κ)(ds:List D)(k:κ)(d:D):List κ×List D:=if(ks.any fun x=>decide (x=k))=true then(ks,zd4 (fun x y=>if x=k then d else y) ks ds) else(ks++[k],ds++[d])
theorem Qe9 {κ:Type}[DecidableEq κ]{k:κ}:∀{ks:List κ} {vs:List V},ks.length=vs.length->((ks.zip vs).any fun kv=>decide (kv.1=k))=ks.any fun x=>decide (x=k)
 | [],[],_=>rfl
 | [],_::_,h=>by cases h
 |_::_,[],h=>by cases h
 |x::ks,v::vs,h=>by rw[z82,za8,za8,Qe9 (by simpa using h)]
theorem QfP {κ:Type}[DecidableEq κ]{k:κ}{v:V}:∀{ks:List κ} {vs:List V},ks.length=vs.length->(ks.zip vs).map (fun kv=>if kv.1=k then(kv.1,v) else kv)=ks.zip (zd4 (fun x y=>if x=k then v else y) ks vs)
 | [],[],_=>rfl
 | [],_::_,h=>by cases h
 |_::_,[],h=>by cases h
 |x::ks,y::vs,h=>by
  rw[z82,z33,zc6,z82,QfP (by simpa using h)]
  by_cases e:x=k
  ·simp[e]
  ·simp[e]
theorem Qfa {κ:Type}[DecidableEq κ]{K:z01}{F:Hp}{k:κ}{v:L2.V}{d:D}(hv:R K F v d):∀{ks:List κ} {vs:List L2.V} {ds:List D},RL K F vs ds->RL K F (zd4 (fun x y=>if x=k then v else y) ks vs) (zd4 (fun x y=>if x=k then d else y) ks ds)
 | [],_,_,.nil=>.nil
 | [],_,_,.cons _ _=>.nil
 |_::_,_,_,.nil=>.nil
 |x::ks,_,_,.cons h r=>by
  rw[zc6,zc6]
  by_cases e:x=k
  ·rw[if_pos e,if_pos e];exact .cons hv (Qfa hv r)
  ·rw[if_neg e,if_neg e];exact .cons h (Qfa hv r)
theorem Qey {κ:Type}[DecidableEq κ]{k:κ}{d:D}(hd:d.imm=true):∀{ks:List κ} {ds:List D},D.QI ds=true->D.QI (zd4 (fun x y=>if x=k then d else y) ks ds)=true
 | [],_,_=>rfl
 |_::_,[],_=>rfl
 |x::ks,y::ds,h=>by
  obtain⟨h1,h2⟩:=JC h
  rw[zc6,D.QI,z99]
  refine⟨?_,Qey hd h2⟩
  by_cases e:x=k
  ·rw[if_pos e];exact hd
  ·rw[if_neg e];exact h1
theorem OL.rl {K:z01}{F H:Hp}{vs:List L2.V}{ds:List D}{f:List Addr}(o:OL K F H vs ds f)(hi:D.QI ds=true):RL K F vs ds:=by
 have e:=o.Qpb hi
 subst e
 exact o.r (Same.refl F) @5
theorem SI.Qnk {F H:Hp}{σ:L2.St}{ρ:Rho}{τ:List (L2.V×D)}{fp:List Addr}{i:Nat}{par:Bool}{t:Tag}{ds:List D}(I:SI C F H σ ρ τ fp)(mt:t.mut=true)(es:ρ[i]? = some (some (mkS par (.nd t ds)))):∃l vs f rest,σ[i]? = some (some (.ref l))/\Mt H l t vs/\OL C.K F H vs ds f/\fp.Perm ((l::f)++rest)/\(∀b∈l::f,YM C par b)/\
  ∀{o:HO} {t':Tag} {vs':List L2.V} {ds':List D} {f':List Addr},Mt (upd H l o) l t' vs'->OL C.K F H vs' ds' f'->((l::f')++rest).Nodup->(∀b∈f',F b=none/\YM C par b)->SI C F (upd H l o) σ (ρ.set i (some (mkS par (.nd t' ds')))) τ ((l::f')++rest):=by
 obtain⟨x,f0,g0,rest,ex,s1,pm,w0,w1,cl⟩:=I.cut es
 obtain⟨v,fi,ev,ho,efi,wfi⟩:∃v fi,x=some v/\O C.K F H v (.nd t ds) fi/\f0++g0=fi/\∀a∈fi,YM C par a:=by
  cases par with
  |false=>cases s1 with|own h=>exact⟨_,_,rfl,h,by simp,fun a ha=>.inl (w0 a ha)⟩
  |true=>cases s1 with|par h=>exact⟨_,_,rfl,h,rfl,fun a ha=>(w1 a ha).elim (fun z=>.inr ⟨rfl,z⟩) fun z=>.inl z⟩
 subst ev
 cases ho with
 |sc e=>cases e
 |im m h r=>rw[mt] at m;cases m
 | @mt l _ vs _ g hl ol=>
  have pm':fp.Perm ((l::g)++rest):=by rw[← efi,z53];exact pm
  have ndp:=pm'.nodup_iff.mp I.nd
  refine⟨l,vs,g,rest,ex,hl,ol,pm',wfi,fun{o t' vs' ds' f'} hl' ol' nd fr=>?_⟩
  have nl:∀{b:Addr},b∈f'\/b∈rest->b≠l:=fun{b} hb z=>by
   subst z
   have:=(z60.mp (show(b::(f'++rest)).Nodup from nd)).1
   exact this (z14.mpr hb)
  have kp:∀b o',H b=some o'->b∉l::g->upd H l o b=some o':=fun b o' e n=>(upd_ne (by intro z;subst z;exact n z07)).trans e
  have dm:∀b,upd H l o b=none->H b=none:=fun b e=>by
   by_cases hb:b=l
   ·subst hb;rw[upd_same] at e;cases e
   ·rw[upd_ne hb] at e;exact e
  have hF:Same F (upd H l o):=fun b o' e=>by
   refine kp b o' (I.fh b o' e) fun z=>?_
   have:=I.ap b (pm'.mem_iff.mpr (z15 _ z))
   rw[e] at this;cases this
  have nop:∀b,C.H₀ b≠none->b∉C.A->b∉l::g:=fun b h1 h2 z=>by
   rcases wfi b z with y|y
   ·exact h1 y
   ·exact h2 y.2
  have apn:∀b∈(l::f')++rest,F b=none:=fun b hb=>by
   rcases z14.mp hb with z|z
   ·rcases z19.mp z with rfl|z
    ·exact I.ap _ (pm'.mem_iff.mpr @9)
    ·exact(fr b z).1
   ·exact I.ap b (pm'.mem_iff.mpr (z04 _ z))
  have frn:∀b∈l::f',YM C par b:=fun b hb=>by
   rcases z19.mp hb with rfl|z
   ·exact wfi _ z07
   ·exact(fr b z).2
  have on:=ol'.keep (Same.refl _) (H':=upd H l o) fun b hb=>upd_ne (nl (.inl hb))
  cases par with
  |false=>
   have J:=cl (F':=F) (H':=upd H l o) (x':=some (.ref l)) (s':=some (.own (.nd t' ds'))) (f0':=l::f') (g0':=[]) (Same.refl F) hF (fun b hb=>upd_ne (nl (.inr hb))) dm (fun b o' e n z=>kp b o' z (nop b (by rw[e];simp) n)) (fun _ _ z=>.inl z) (.own (.mt hl' on)) nd apn (fun b hb=>(frn b hb).resolve_right fun z=>nomatch z.1) @5 (fun v hv=>by
    obtain⟨_,d',z⟩:=I.pr _ _ hv
    rw[es] at z;cases z)
   rw[Ja ex] at J
   exact J
  |true=>
   have J:=cl (F':=F) (H':=upd H l o) (x':=some (.ref l)) (s':=some (.par (.nd t' ds'))) (f0':=[]) (g0':=l::f') (Same.refl F) hF (fun b hb=>upd_ne (nl (.inr hb))) dm (fun b o' e n z=>kp b o' z (nop b (by rw[e];simp) n)) (fun _ _ z=>.inl z) (.par (.mt hl' on)) nd apn @5 (fun b hb=>(frn b hb).elim (fun z=>.inr z) fun z=>.inl z.2) (fun v hv=>⟨by
    obtain⟨z,_⟩:=I.pr _ _ hv
    rw[ex] at z;exact z35 z,_,rfl⟩)
   rw[Ja ex] at J
   exact J
def Qla (i:Nat)(mv mk:ME):MS:=fun ρ=>(mv ρ).bind fun r=>(Rs.of (Qkc r.2 i)).bind fun _=>(mk r.2).bind fun s=>(Rs.of (Qkc s.2 i)).bind fun q=>(Rs.of (Qpf s.1)).bind fun k=>
 if q.2.1.length<z18 then(if(r.1.imm && D.QI q.2.2)=true then .ok (.nx,s.2.set i (some (mkS q.1 (.nd (.dT (putD q.2.1 q.2.2 k r.1).1) (putD q.2.1 q.2.2 k r.1).2)))) else .no) else .no
theorem Qnl {i:Nat}{x:Str}{np spos:Pos}{ix:Expr}(hu:X.A.units+1<cLine)(hN:X.N[i]? = some x)(hv:Vis X.env.scope x)(he:PE X e (tX .V C pa E m))(hi:PE X ix (tX .V C pb E mi))(hs:swapsWith e (some (.Subscript (.Name x np) ix spos)) pos.line X.env=pure false:=by rfl)(hd:@6=false:=by decide)(hcd:(x == ("__classdict__" : Str))=false:=by decide) :
  PS X (.Assign [.Subscript (.Name x np) ix spos] e pos) (tS rk C E (Qla i m mi)):=QT (ps_dput hu (pe_var hN hv hd hcd) hi he hs) fun DD σ H ⟨F,ρ,fp,I,h⟩=>by
 refine⟨F,ρ,[],fp,I,h.split.run.mono fun r hr F1 H1 fp1 v I1 n1 f1=>?_⟩
 obtain⟨q0,e0,hr⟩:=hr.split.of
 obtain⟨l0,vs0,g0,Qe3,ex0,hl0,_⟩:=SI.Qnk I1 rfl (QhO e0)
 refine⟨_,ex0,F1,r.2,[],fp1,I1,hr.split.run.mono fun s hs F2 H2 fp2 kv I2 n2 f2=>?_⟩
 obtain⟨q,eq,h2⟩:=hs.split.of
 obtain⟨key,ek,h3⟩:=h2.split.of
 obtain⟨l,vs,f,rest,ex,hl,ol,pm,w,cl⟩:=SI.Qnk I2 rfl (QhO eq)
 have el:l=l0:=by rw[ex0] at ex;cases ex;rfl
 subst el
 by_cases hz:q.2.1.length<z18
 ·rw[if_pos hz] at h3
  by_cases hi:(r.1.imm && D.QI q.2.2)=true
  ·rw[if_pos hi] at h3
   obtain⟨i1,i2⟩:=z58.mp hi
   obtain⟨bb,rfl,hb⟩:=Qkb f2 ek
   have rl:=ol.rl i2
   have rv:R C.K F2 v r.1:=R.same n2.f f1
   have ef:f=[]:=ol.Qpb i2
   subst ef
   have lv:q.2.1.length=vs.length:=hl.1
   have hkv:(q.2.1.zip vs).length<z18:=by rw[List.length_zip,← lv,Nat.min_self];exact hz
   refine⟨l,_,rfl,DPut.t hl.2 (I2.fh _ _ hb) hkv,?_⟩
   have fin:∀{vs':List L2.V},putK (q.2.1.zip vs) key v=(putD q.2.1 q.2.2 key r.1).1.zip vs'->(putD q.2.1 q.2.2 key r.1).1.length=vs'.length->RL C.K F2 vs' (putD q.2.1 q.2.2 key r.1).2->D.QI (putD q.2.1 q.2.2 key r.1).2=true->DD.nx σ (upd H2 l (.dT (putK (q.2.1.zip vs) key v))):=fun{vs'} e1 e2 r' hi'=>by
    rw[e1]
    exact h3 F2 _ σ _ (n1.f.trans n2.f) (cl (t':=.dT _) (vs':=vs') ⟨e2,upd_same⟩ (r'.o hi') (pm.nodup_iff.mp I2.nd) @5)
   unfold putD at fin
   by_cases c:(q.2.1.any fun x=>decide (x=key))=true
   ·rw[if_pos c] at fin
    refine fin (vs':=zd4 (fun x y=>if x=key then v else y) q.2.1 vs) ?_ (by rw[List.length_zipWith,← lv,Nat.min_self]) (Qfa rv rl) (Qey i1 i2)
    unfold putK
    rw[Qe9 lv,if_pos c,QfP lv]
   ·rw[if_neg c] at fin
    refine fin (vs':=vs++[v]) ?_ (by simp[lv]) (rl.app (.cons rv .nil)) (Qjc i2 (Qb6 fun d hd=>by rw[z38.mp hd];exact i1))
    unfold putK
    rw[Qe9 lv,if_neg c,List.zip_append lv]
    rfl
  ·rw[if_neg hi] at h3;exact h3.elim
 ·rw[if_neg hz] at h3;exact h3.elim
end
section
variable {P:Program}{w:World}{K:z01}{mg:Str->Option Value}{base:Heap}{N:List Str}{qual:Str}{scope:Scope}{f:Addr}{cd:Value}{A:Around}{outer:List Env}{s:Shared}{H:Hp}{E:XK}
theorem Qf:Qav (cxOf (CXe P w) P w K mg base N qual scope f cd A outer s H E) (fun _=>E):=fun pins σ H1 s1 e s' I h=>Qpq pins σ H1 s1 e s' I h
end
section
variable {C:Cn}
variable {e:Expr}{es:List Expr}{mr:MA}{ks:List Kd}
noncomputable def Qax:List Kd->List D->Rho->Option (List D×Rho)
 | [],_,ρ=>some ([],ρ)
 |.O::ks,d::ds,ρ=>(Qax ks ds ρ).map fun q=>(d::q.1,q.2)
 |.S i::ks,_::ds,ρ=>(Qax ks ds ρ).bind fun q=>match q.2[i]? with
  |some (some (.own d))=>some (d::q.1,q.2.set i none)
  |_=>none
 |_,_,_=>none
theorem SI.Qlb {F H:Hp}{σ:L2.St}{ρ:Rho}{τ:List (L2.V×D)}{fp:List Addr}{i:Nat}{d:D}(I:SI C F H σ ρ τ fp)(es:ρ[i]? = some (some (.own d))):∃v f rest,σ[i]? = some (some v)/\O C.K F H v d f/\fp.Perm (f++rest)/\SI C F H σ (ρ.set i none) τ rest/\(∀a∈f,C.H₀ a=none)/\(∀a∈f,F a=none):=by
 obtain⟨y,f0,g0,rest,ey,s1,pm,w0,w1,cl⟩:=I.cut es
 cases s1 with
 | @own v _ f h=>
  have nd:=pm.nodup_iff.mp I.nd
  have q:=cl (F':=F) (H':=H) (x':=some v) (s':=none) (f0':=[]) (g0':=[]) (Same.refl _) I.fh (fun _ _=>rfl) (fun _ z=>z) (fun _ _ _ _ z=>z) (fun b o e=>.inl e) .non (z17.mp nd).2.1 (fun a ha=>I.ap a (pm.mem_iff.mpr (z04 _ ha))) @5 @5 (fun v' hv=>by
   obtain⟨_,d',z⟩:=I.pr _ _ hv
   rw[es] at z;cases z)
  rw[Ja ey] at q
  exact⟨v,f0,_,ey,h,pm,q,w0,fun a ha=>I.ap a (pm.mem_iff.mpr (z15 _ ha))⟩
theorem collect {F H:Hp}{σ:L2.St}:∀{ks:List Kd} {vs:List L2.V} {ds ds':List D} {ρ ρ':Rho} {τ:List (L2.V×D)} {fp fp0:List Addr},FcL C F H fp0 σ ks vs ds->SI C F H σ ρ (tkL ks vs ds τ) fp->Qax ks ds ρ=some (ds',ρ')->∃f rest,OL C.K F H vs ds' f/\fp.Perm (f++rest)/\SI C F H σ ρ' τ rest/\(∀a∈f,C.H₀ a=none)/\(∀a∈f,F a=none)
 | [],_,_,ds',ρ,ρ',τ,fp,fp0,.nil,I,h=>by
  unfold Qax at h
  cases h
  unfold tkL at I
  exact⟨[],fp,.nil,.refl _,I,@5,fun _ z=>nomatch z⟩
 |.O::ks,_,_,ds',ρ,ρ',τ,fp,fp0,.cons (v:=v) (d:=d) h0 r,I,h=>by
  unfold Qax at h
  obtain⟨q,hq,e⟩:=z03.mp h
  cases e
  unfold tkL at I
  obtain⟨f,rest,ol,pm,J,w1,w2⟩:=collect r I (show Qax ks _ ρ=some (q.1,q.2) from hq)
  obtain⟨g,QcX,og,pm2,J2,g1,g2,_⟩:=SI.pop (τ:=τ) (v:=v) (d:=d) J
  refine⟨g++f,QcX,.cons og ol,?_,J2,fun a ha=>(z14.mp ha).elim (g1 a) (w1 a),fun a ha=>(z14.mp ha).elim (g2 a) (w2 a)⟩
  refine pm.trans ((pm2.append_left f).trans ?_)
  rw[z68]
  intro a
  simp only[z78]
  lia
 |.S i::ks,_,_,ds',ρ,ρ',τ,fp,fp0,.cons (v:=v) (d:=d) h0 r,I,h=>by
  unfold Qax at h
  obtain⟨q,hq,e⟩:=z25.mp h
  unfold tkL at I
  obtain⟨f,rest,ol,pm,J,w1,w2⟩:=collect r I (show Qax ks _ ρ=some (q.1,q.2) from hq)
  split at e
  ·next d0 ed=>
   cases e
   obtain⟨v',g,QcX,ev,og,pm2,J2,g1,g2⟩:=SI.Qlb (τ:=τ) J ed
   have:v'=v:=z35 (z35 (ev.symm.trans h0))
   subst this
   refine⟨g++f,QcX,.cons og ol,?_,J2,fun a ha=>(z14.mp ha).elim (g1 a) (w1 a),fun a ha=>(z14.mp ha).elim (g2 a) (w2 a)⟩
   refine pm.trans ((pm2.append_left f).trans ?_)
   rw[z68]
   intro a
   simp only[z78]
   lia
  ·cases e
 |.V::ks,_,_,ds',ρ,ρ',τ,fp,fp0,.cons h0 r,I,h=>by unfold Qax at h;cases h
 |.B::ks,_,_,ds',ρ,ρ',τ,fp,fp0,.cons h0 r,I,h=>by unfold Qax at h;cases h
def Qp0 (ks:List Kd)(mr:MA):ME:=fun ρ=>(mr ρ).bind fun r=>(Rs.of (Qax ks r.1 r.2)).bind fun q=>if q.1.length<=z18 then .ok (.tup q.1,q.2) else .no
end
section
variable {X:Cx}{C:Cn}{E:XE}{p pa pb pc:Bool}{e a b c ixa ixb:Expr}{es:List Expr}{m ma mb mi:ME}{pos:Pos}{k ka kb rk:Kd}{ks:List Kd}
theorem SI.Qnm {F H:Hp}{σ:L2.St}{ρ:Rho}{τ:List (L2.V×D)}{fp:List Addr}{i n:Nat}{par:Bool}{ds xs:List D}(I:SI C F H σ ρ τ fp)(es:ρ[i]? = some (some (mkS par (.lst ds))))(hx:ds[n]? = some (.nd .lst xs)):∃l vs l2 us f1 g f2 rest,σ[i]? = some (some (.ref l))/\H l=some (.lst vs)/\vs.length=ds.length/\vs[n]? = some (.ref l2)/\H l2=some (.lst us)/\OL C.K F H us xs g/\fp.Perm ((l::(f1++((l2::g)++f2)))++rest)/\(∀b∈g,YM C par b)/\
  ∀{us':List L2.V} {xs':List D} {g':List Addr},OL C.K F H us' xs' g'->((l::(f1++((l2::g')++f2)))++rest).Nodup->(∀b∈g',F b=none/\YM C par b)->SI C F (upd H l2 (.lst us')) σ (ρ.set i (some (mkS par (.lst (ds.set n (.lst xs')))))) τ ((l::(f1++((l2::g')++f2)))++rest):=by
 obtain⟨l,vs,f,rest,ex,hl,ol,pm,w,cl⟩:=I.Qci es
 have ln:n<ds.length:=(z28.mp hx).1
 obtain⟨f1,fj,f2,v0,d0,rfl,e1,e2,oj,ks⟩:=ol.setAt ln
 rw[hx] at e2
 cases e2
 obtain⟨l2,us,g,rfl,rfl,hl2,og⟩:=oj.QhJ
 refine⟨l,vs,l2,us,f1,g,f2,rest,ex,hl,ol.length,e1,hl2,og,pm,fun b hb=>w b (by simp[hb]),fun{us' xs' g'} og' nd fr=>?_⟩
 have nd1:(l2::(l::(f1++(g'++f2))++rest)).Nodup:=by
  have pp:((l::(f1++((l2::g')++f2)))++rest).Perm (l2::(l::(f1++(g'++f2))++rest)):=by
   rw[z68]
   intro a
   simp only[z78,zh6]
   lia
  exact pp.nodup_iff.mp nd
 have nl:∀{b:Addr},b=l\/b∈f1\/b∈g'\/b∈f2\/b∈rest->b≠l2:=fun{b} hb z=>by
  subst z
  exact(z60.mp nd1).1 (by simp only[z14,z19];rcases hb with z|z|z|z|z<;>simp[z])
 have Qry:O C.K F (upd H l2 (.lst us')) (.ref l2) (.lst xs') (l2::g'):=.mt (t:=.lst) (show upd H l2 (.lst us') l2=some (.lst us') from upd_same) (og'.keep (Same.refl _) fun b hb=>upd_ne (nl (.inr (.inr (.inl hb)))))
 have oln:=ks (Same.refl F) (H':=upd H l2 (.lst us')) (fun b hb=>upd_ne (nl (by rcases z14.mp hb with z|z;exact .inr (.inl z);exact .inr (.inr (.inr (.inl z)))))) Qry
 rw[Ja e1] at oln
 refine cl (vs':=vs) ((upd_ne (nl (.inl rfl))).trans hl) oln (fun b hb=>upd_ne (nl (.inr (.inr (.inr (.inr hb)))))) (fun b o e n'=>(upd_ne (by intro z;subst z;exact n' @9)).trans e) (fun b e=>?_) nd fun b hb=>?_
 ·by_cases hb:b=l2
  ·subst hb;rw[upd_same] at e;cases e
  ·rw[upd_ne hb] at e;exact e
 ·simp only[z14,z19] at hb
  have inn:∀{b:Addr},b∈l::(f1++((l2::g)++f2))->F b=none/\YM C par b:=fun{b} z=>⟨I.ap b (pm.mem_iff.mpr (z15 _ z)),w b z⟩
  rcases hb with z|(z|z)|z
  ·exact inn (by simp[z])
  ·exact inn (by simp[z])
  ·exact fr b z
  ·exact inn (by simp[z])
def Vg (i:Nat)(m mi mj:ME):MS:=fun ρ=>(m ρ).bind fun r=>(Rs.of (VJ r.2 i)).bind fun _=>(mi r.2).bind fun s=>(Rs.of (VJ s.2 i)).bind fun q=>(Rs.of ((asI s.1).bind fun n=>ixN q.2.length n)).bind fun n=>(Rs.of ((q.2[n]?).bind asL)).bind fun _=>
 (mj s.2).bind fun t=>(Rs.of (VJ t.2 i)).bind fun q'=>(Rs.of ((q'.2[n]?).bind asL)).bind fun xs=>(Rs.of ((asI t.1).bind fun k=>ixN xs.length k)).bind fun k=>.ok (.nx,t.2.set i (some (mkS q'.1 (.lst (q'.2.set n (.lst (xs.set k r.1)))))))
theorem QhP {ds xs:List D}{n:Nat}(h:(ds[n]?).bind asL=some xs):ds[n]? = some (.nd .lst xs):=by
 obtain⟨d,e1,e2⟩:=z25.mp h
 rw[e1,Qbo e2]
theorem Qay {i:Nat}{x:Str}{np sp1 sp2:Pos}(hK:C.K=X.K)(he:PE X e (tX .O C pa E m))
  (hs:swapsWithSole [.Subscript (.Subscript (.Name x np) ixa sp1) ixb sp2] e pos.line X.env=pure false:=by rfl) (hw:swappedStores [.Subscript (.Subscript (.Name x np) ixa sp1) ixb sp2] e X.env=pure none:=by rfl)
  (h1:(assignEach [.Subscript (.Subscript (.Name x np) ixa sp1) ixb sp2] X.env).map (·.2)=[assign (.Subscript (.Subscript (.Name x np) ixa sp1) ixb sp2) X.env]:=by rfl)
  (hg:PG X (.Subscript (.Subscript (.Name x np) ixa sp1) ixb sp2) (L2.gSub (tOp (rIxL X.K) (tVar i) (tX ka C pb E ma)) (tX kb C true E mb) rSetL)) (ok:ka.on true=true:=by rfl) (ok2:kb.on true=true:=by rfl) :
  PS X (.Assign [.Subscript (.Subscript (.Name x np) ixa sp1) ixb sp2] e pos) (tS rk C E (Vg i m ma mb)):=
 QT (ps_asg he hg hs hw h1) fun DD σ H ⟨F,ρ,fp,I,h⟩=>by
 refine⟨F,ρ,[],fp,I,h.split.run.mono fun r hr F1 H1 fp1 v I1 n1 _=>?_⟩
 obtain⟨q0,e0,hr⟩:=hr.split.of
 obtain⟨l0,vs0,f0,Qe3,ex0,hl0,_⟩:=SI.Qci I1 (JI e0)
 refine⟨_,ex0,F1,r.2,[(v,r.1)],fp1,I1,hr.split.run.mono fun s hs F2 H2 fp2 iv I2 n2 f2=>?_⟩
 rw[Kd.JH ok] at I2
 obtain⟨q,eq,h2⟩:=hs.split.of
 obtain⟨n,ej,h3⟩:=h2.split.of
 obtain⟨nn,en,ejn⟩:=z25.mp ej
 have riv:=Kd.stay ok f2 .refl I2
 rw[Qex en] at riv
 obtain rfl:=riv.Qu (w:=.int nn) rfl
 obtain⟨xs0,exs,h3⟩:=h3.split.of
 obtain⟨l,vs,l2,us,f1',g',f2',rest',ex,hl,lv,hv2,hl2,_,pm2,_⟩:=I2.Qnm (JI eq) (QhP exs)
 have el:l=l0:=by rw[ex0] at ex;cases ex;rfl
 subst el
 have atv:atI vs nn=some (.ref l2):=by unfold atI;rw[lv,ejn];exact hv2
 refine⟨l,vs,nn,_,rfl,rfl,SqL.of hl,atv,F2,s.2,[(v,r.1)],fp2,I2,h3.split.run.mono fun t ht F3 H3 fp3 jv I3 n3 f3=>?_⟩
 rw[Kd.JH ok2] at I3
 obtain⟨q',eq',h4⟩:=ht.split.of
 obtain⟨xs,Qrz,h5⟩:=h4.split.of
 obtain⟨k,ek,h6⟩:=h5.split.of
 obtain⟨kk,ekk,ekn⟩:=z25.mp ek
 have rjv:=Kd.stay ok2 f3 .refl I3
 rw[Qex ekk] at rjv
 obtain rfl:=rjv.Qu (w:=.int kk) rfl
 obtain⟨ft,QhK,ot,pmt,J,t0,tap,tnd⟩:=SI.pop (τ:=[]) I3
 obtain⟨l',vs',l2',us',f1,g,f2,rest,ex',hl',lv',Qq1,hl2',og,pm,wg,cl⟩:=J.Qnm (JI eq') (QhP Qrz)
 have el:l'=l:=by rw[ex0] at ex';cases ex';rfl
 subst el
 -- the outer list is the same
 have same:H3 l'=some (.lst vs):=by
  have z:=n3.g rfl l' (.lst vs) (by rw[JB (pm2.mem_iff.mpr @9)];exact hl)
  exact Yd I3.fh l' _ z
 have evs:vs'=vs:=by rw[hl'] at same;cases same;rfl
 subst evs
 have el2:l2'=l2:=by rw[hv2] at Qq1;cases Qq1;rfl
 subst el2
 have lk:=Qj9 ekn
 obtain⟨g1,gk,g2,v0,d0,rfl,_,_,_,ks⟩:=og.setAt lk
 refine⟨l2',us',kk,k,rfl,rfl,hl2',by rw[og.length];exact ekn,?_⟩
 refine h6 F3 _ σ _ ((n1.f.trans n2.f).trans n3.f) (cl (ks (Same.refl _) (fun _ _=>rfl) ot) ?_ fun b hb=>?_)
 ·have big:=(pm.append_left ft).nodup_iff.mp tnd
  have pp:(ft++((l'::(f1++((l2'::(g1++(gk++g2)))++f2)))++rest)).Perm (gk++((l'::(f1++((l2'::(g1++(ft++g2)))++f2)))++rest)):=by
   rw[z68]
   intro a
   simp only[z78,zh6]
   lia
  exact(z17.mp (pp.nodup_iff.mp big)).2.1
 ·simp only[z14] at hb
  rcases hb with z|z|z
  ·exact⟨J.ap b (pm.mem_iff.mpr (by simp[z])),wg b (by simp[z])⟩
  ·exact⟨tap b z,.inl (t0 b z)⟩
  ·exact⟨J.ap b (pm.mem_iff.mpr (by simp[z])),wg b (by simp[z])⟩
theorem QaU {A:Around}{k:Nat}(hr:Room k A):A.units+30<cLine:=by have:=hr.units;lia
theorem Qpg {A:Around}{k:Nat}(hr:Room k A):A.units+30+1<cLine:=by have:=hr.units;lia
theorem QcU (hK:C.K=X.K):OpD C.K (Qmn X.K 30 id) gEq:=by rw[hK];exact dEq
theorem Qmr (hK:C.K=X.K):OpD C.K (Qmn X.K 30 not) gNe:=by rw[hK];exact dNe
theorem Qq2 (hK:C.K=X.K):OpD C.K (Qmo X.K 30 id) gIn:=by rw[hK];exact dIn
theorem Qq3 (hK:C.K=X.K):OpD C.K (Qmo X.K 30 not) gNi:=by rw[hK];exact dNi
theorem xb (i:Nat){x:Str}{pos:Pos}(hN:X.N[i]? = some x:=by rfl)(hv:Vis X.env.scope x:=by first|exact z39 rfl|exact z56 (z39 rfl)|exact z56 (z56 rfl))(hd:@6=false:=by decide)(hcd:(x == ("__classdict__" : Str))=false:=by decide):PE X (.Name x pos) (tX .B C true E (mB i)):=QmS hN hv hd hcd
theorem xv (i:Nat){x:Str}{pos:Pos}(hN:X.N[i]? = some x:=by rfl)(hv:Vis X.env.scope x:=by first|exact z39 rfl|exact z56 (z39 rfl)|exact z56 (z56 rfl))(hd:@6=false:=by decide)(hcd:(x == ("__classdict__" : Str))=false:=by decide):PE X (.Name x pos) (tX .V C true E (mV i)):=QmT hN hv hd hcd
theorem xo (i:Nat){x:Str}{pos:Pos}(hN:X.N[i]? = some x:=by rfl)(hv:Vis X.env.scope x:=by first|exact z39 rfl|exact z56 (z39 rfl)|exact z56 (z56 rfl))(hd:@6=false:=by decide)(hcd:(x == ("__classdict__" : Str))=false:=by decide):PE X (.Name x pos) (tX .O C true E (mO i)):=QmU hN hv hd hcd
theorem xs (i:Nat){x:Str}{pos:Pos}(hN:X.N[i]? = some x:=by rfl)(hv:Vis X.env.scope x:=by first|exact z39 rfl|exact z56 (z39 rfl)|exact z56 (z56 rfl))(hd:@6=false:=by decide)(hcd:(x == ("__classdict__" : Str))=false:=by decide):PE X (.Name x pos) (tX (.S i) C true E (mS i)):=QmX hN hv hd hcd
theorem spk {P:Program}{w:World}{K:z01}{mg:Str->Option Value}{base:Heap}{n:Nat}{x:Str}{ps:List Str}{io:List Bool}{f:List D->Fr}(D:Qm P w K mg base n x ps (spF K io rk f))(hC:C.K=K):Qm P w K mg base n x ps (spF C.K io rk f):=by rw[hC];exact D
def Qjn (i:Nat)(m:ME):MS:=Qje i m
theorem QhQ {elt iter:Expr}{x y:Str}{px py pos spos:Pos}{ifs:List Expr}{scope:Scope}{N:List Str}{cs:List Cp}{j i0:Nat}{par:Bool}{mi:MA}{mt:MT}{me:ME}{pc pe:Bool}(hK:C.K=X.K)(hc:X.calm=true)(hXN:X.N.Nodup)(hi0:X.N[i0]? = some y)(hy:Loc X.env.scope y)(B:Blk X scope N (cs.map Cp.ix))(hjN:N[j]? = some x)(hj:cs[j]? = some .me)(hx:scope.names.lookup x=some .local)(hi:PI X (.Name x px) iter (tI C pa E mi))
  (ht:∀pins c s H ex,PIf (X.blk scope N pins c s H ex) ifs (exT X.K pc mt)) (he:∀pins c s H ex,PE (X.blk scope N pins c s H ex) elt (exX .O X.K pe me)) (nd:(cs.filterMap Cp.is).Nodup:=by decide)
  (hsw:swapsWith (.ListComp elt [⟨.Name x px,iter,ifs,0⟩] scope pos) (some (.Name y py)) spos.line X.env=pure true:=by rfl)
  (hf:X.fn y=true\/X.env.scope.names.lookup y=some .local:=by first|exact .inl rfl|exact .inr rfl|assumption)
  (hs:∀x,foldedSetIterable iter X.env x=pure x:=by intro _;rfl):PS X (.Assign [.Name y py] (.ListComp elt [⟨.Name x px,iter,ifs,0⟩] scope pos) spos) (tS rk C E (Qjn i0 (Yq par cs j mi mt me))):=
 QT (QbS hc hXN hi0 hy B hi (fun _ _ _ _ _=>pg_name (i:=j) B.nd hjN (.inl (lookup_relabel_local hx)) (.inr (lookup_relabel_local hx))) ht he hsw hf hs) fun D σ H h=>by
  have q:=QdI (p:=pa && false) h
  refine Qaw (p:=false) (par:=par) hK hj nd (fun z=>nomatch z) ?_
  obtain⟨F,ρ,τ,fp,I,r⟩:=q
  exact⟨F,ρ,τ,fp,I,r.mono fun a z F' H' fp' v I' n f=>by
   obtain⟨F2,rest,J,sf,rr,je⟩:=SI.freeze (show SI C F' H' σ a.2 ((v,a.1)::τ) fp' from I')
   exact z F2 H' rest v J ⟨n.f.trans sf,fun hp=>by rw[je];exact n.g hp⟩ rr⟩
end
section
variable {k:Kd}{n:Nat}
noncomputable def Qq4 (i:Int)(n:Nat):List D:=(z63 n).map fun k=>.int (i+(k:Nat))
end
def W {α:Type}(r:Rs α)(k:α->Prop):Prop:=∃a,r=.ok a/\k a
section
variable {α β:Type}{k:α->Prop}
theorem JK {a:α}:W (.ok a) k↔k a:=⟨fun⟨b,e,h⟩=>by cases e;exact h,fun h=>⟨a,rfl,h⟩⟩
theorem Qh {x:Rs β}{f:β->Rs α}:W (x.bind f) k↔W x fun a=>W (f a) k:=by
 cases x with
 |ok a=>exact⟨fun h=>⟨a,rfl,h⟩,fun⟨b,e,h⟩=>by cases e;exact h⟩
 |ex c ρ=>exact⟨fun⟨_,e,_⟩=>(nomatch e),fun⟨_,e,_⟩=>(nomatch e)⟩
 |no=>exact⟨fun⟨_,e,_⟩=>(nomatch e),fun⟨_,e,_⟩=>(nomatch e)⟩
theorem Qnn {a:α}:W (Rs.of (some a)) k↔k a:=JK
theorem Qaz {c:Prop}[Decidable c]{x y:Rs α}(h1:c->W x k)(h2:¬c->W y k):W (if c then x else y) k:=by
 by_cases h:c
 ·rw[if_pos h];exact h1 h
 ·rw[if_neg h];exact h2 h
theorem W.mono {r:Rs α}{k':α->Prop}(h:W r k)(m:∀a,k a->k' a):W r k':=by obtain⟨a,e,h⟩:=h;exact⟨a,e,m a h⟩
theorem W.eq {r:Rs α}{a:α}(h:W r fun b=>b=a):r=.ok a:=by obtain⟨b,e,rfl⟩:=h;exact e
end
def FW (r:Fr)(P:D->List D->Prop):Prop:=∃d os,r=.ok d os/\P d os
theorem QK {io:List Bool}{n:Nat}{mb:MS}{ds:List D}{P:D->List D->Prop}(h:W (mb (Qji io n ds)) fun q=>∃d os,q.1=.rt d/\outs io q.2=some os/\P d os):FW (Qx io n mb ds) P:=by
 obtain⟨⟨f,ρ⟩,e,d,os,rfl,ho,p⟩:=h
 refine⟨d,os,?_,p⟩
 unfold Qx
 rw[e]
 dsimp only at ho ⊢
 rw[ho]
theorem Qez {io:List Bool}{n:Nat}{mb:MS}{ds:List D}{P:D->List D->Prop}(h:W (mb (Qji io n ds)) fun q=>∃os,q.1=.nx/\outs io q.2=some os/\P .non os):FW (Qx io n mb ds) P:=by
 obtain⟨⟨f,ρ⟩,e,os,rfl,ho,p⟩:=h
 refine⟨.non,os,?_,p⟩
 unfold Qx
 rw[e]
 dsimp only at ho ⊢
 rw[ho]
theorem Qkd {par:Bool}{as:List (Option Nat)}{f:List D->Fr}{mr:MA}{ρ ρ1:Rho}{args dis:List D}{P:D->List D->Prop}{k:D×Rho->Prop}(h1:mr ρ=.ok (args,ρ1))(h2:Yp par ρ1 (as.filterMap id)=some dis)(h3:FW (f (Qhm as args dis)) P)
  (h4:∀d os,P d os->k (d,YA par ρ1 (as.filterMap id) os)):W (QdJ par as f mr ρ) k:=by
 obtain⟨d,os,e,p⟩:=h3
 refine⟨_,?_,h4 d os p⟩
 unfold QdJ
 rw[h1]
 show((Rs.of (Yp par ρ1 (as.filterMap id))).bind _)=_
 rw[h2]
 show(match f (Qhm as args dis) with|.ok d outs=>_|.ex c=>_|.no=>_)=_
 rw[e]
theorem Qlc {rk:Kd}{f:List D->Fr}{mr:MA}{ρ ρ1:Rho}{args:List D}{P:D->List D->Prop}{k:D×Rho->Prop}(h1:mr ρ=.ok (args,ρ1))(h3:FW (f args) P)(h4:∀d os,P d os->(rk=.V->d.imm=true)/\k (d,ρ1)):W (VM rk f mr ρ) k:=by
 obtain⟨d,os,e,p⟩:=h3
 refine⟨_,?_,(h4 d os p).2⟩
 unfold VM
 rw[h1]
 show(match f args with|.ok d _=>_|.ex c=>_|.no=>_)=_
 rw[e]
 cases rk with
 |V=>show(if d.imm=true then _ else _)=_;rw[if_pos ((h4 d os p).1 rfl)]
 |O=>rfl
 |B=>rfl
 |S i=>rfl
theorem JO {m u:MS}{ρ:Rho}{k:Fl×Rho->Prop}(J:Rho->Prop)(h1:W (m ρ) fun r=>r.1=.nx/\J r.2)(h2:∀ρ,J ρ->W (u ρ) k):W (Qm2 m u ρ) k:=by
 obtain⟨⟨f,ρ1⟩,e,e2,hj⟩:=h1
 obtain⟨a,e3,h3⟩:=h2 ρ1 hj
 refine⟨a,?_,h3⟩
 have e2':f=.nx:=e2
 subst e2'
 unfold Qm2
 rw[e]
 exact e3
theorem QhR {mr:MA}{ρ ρ1:Rho}{n:Int}(h:mr ρ=.ok ([.int n],ρ1))(b1 : -(2 ^ 62)<=n)(b2:n<2 ^ 62):QgF mr ρ=.ok ((z63 n.toNat).map fun j=>.int ((0:Int)+(j:Nat)),ρ1):=by
 unfold QgF
 rw[h]
 have e:Qe5 [.int n]=some n:=if_pos ⟨b1,b2⟩
 show((Rs.of (Qe5 [.int n])).bind _)=_
 rw[e]
 rfl
inductive Fa2 (P:D->D->Prop):List D->List D->Prop
 |nil:Fa2 P [] []
 |cons {x y:D} {xs ys:List D} (h:P x y) (r:Fa2 P xs ys):Fa2 P (x::xs) (y::ys)
theorem Fa2.length {P:D->D->Prop}:∀{xs ys:List D},Fa2 P xs ys->ys.length=xs.length
 |_,_,.nil=>rfl
 |_,_,.cons _ r=>by simp[r.length]
theorem QhS {j:Nat}{tc:MT}{te:ME}{Inv:Rho->Prop}{Pd:D->D->Prop}:∀{ds:List D} {ρ:Rho} {acc:List D},(∀d∈ds,∀ρ,Inv ρ->∃ρ0,V7 ρ j d=some ρ0/\W (tc ρ0) fun c=>c.1=true/\W (te c.2) fun r=>Inv (r.2.set j none)/\Pd d r.1)->Inv ρ->acc.length+ds.length<=z18->
  W (Qa2 j tc te ds ρ acc) fun q=>Inv q.2/\∃ys,q.1=acc++ys/\Fa2 Pd ds ys
 | [],ρ,acc,h,i,l=>JK.mpr ⟨i,[],by simp,.nil⟩
 |d::ds,ρ,acc,h,i,l=>by
  obtain⟨ρ0,e0,h1⟩:=h d z07 ρ i
  unfold Qa2
  rw[e0]
  refine Qh.mpr (Qnn.mpr (Qh.mpr (h1.mono fun c hz=>?_)))
  obtain⟨hc,h2⟩:=hz
  rw[if_pos hc]
  refine Qh.mpr (h2.mono fun r hz=>?_)
  obtain⟨h3,h4⟩:=hz
  rw[if_pos (by simp at l;lia)]
  refine(QhS (acc:=acc++[r.1]) (fun d' hd'=>h d' (z08 _ hd')) h3 (by simp at l ⊢;lia)).mono fun q ⟨h5,ys,e,f⟩=>⟨h5,r.1::ys,by rw[e];simp,.cons h4 f⟩
theorem Qke {par:Bool}{cs:List Cp}{j:Nat}{mi:MA}{tc:MT}{te:ME}{ρ ρ1 ρb:Rho}{ds di:List D}{k:D×Rho->Prop}{Inv:Rho->Prop}{Pd:D->D->Prop}(h1:mi ρ=.ok (ds,ρ1))(h2:Yp par ρ1 @16=some di)(h3:QaS ρ1 cs di=some ρb)
  (hs:∀d∈ds,∀ρ,Inv ρ->∃ρ0,V7 ρ j d=some ρ0/\W (tc ρ0) fun c=>c.1=true/\W (te c.2) fun r=>Inv (r.2.set j none)/\Pd d r.1) (i:Inv ρb) (l:ds.length<=z18)
  (hk:∀ys ρ2,Inv ρ2->Fa2 Pd ds ys->∃os,outs (ioB cs) ρ2=some os/\k (.lst ys,YA par ρ1 @16 os)):W (Yq par cs j mi tc te ρ) k:=by
 obtain⟨⟨q1,q2⟩,e,h4,ys,eq,h5⟩:=QhS (acc:=[]) hs i (by simpa using l)
 have eq':ys=q1:=eq.symm
 subst eq'
 obtain⟨os,ho,h6⟩:=hk ys q2 h4 h5
 refine⟨_,?_,h6⟩
 unfold Yq
 rw[h1]
 show((Rs.of (Yp par ρ1 @16)).bind _)=_
 rw[h2]
 show((Rs.of (QaS ρ1 cs di)).bind _)=_
 rw[h3]
 show(match Qa2 j tc te ds ρb [] with|.ok q=>_|_=>_)=_
 rw[e]
 show((Rs.of (outs (ioB cs) q2)).bind _)=_
 rw[ho]
 rfl
theorem Qa3 {j:Nat}{tc:MT}{te:ME}{f:D->Bool}{g:D->D}{ρ:Rho}:∀{ds:List D} {acc:List D},(∀d∈ds,∃ρ0,V7 ρ j d=some ρ0/\tc ρ0=.ok (f d,ρ0)/\(f d=true->te ρ0=.ok (g d,ρ0))/\ρ0.set j none=ρ)->acc.length+ds.length<=z18->
  Qa2 j tc te ds ρ acc=.ok (acc++(ds.filter f).map g,ρ)
 | [],acc,h,l=>by simp[Qa2]
 |d::ds,acc,h,l=>by
  obtain⟨ρ0,e0,e1,e2,e3⟩:=h d z07
  unfold Qa2
  rw[e0]
  show((tc ρ0).bind _)=_
  rw[e1]
  by_cases hf:f d=true
  ·show(if f d=true then _ else _)=_
   rw[if_pos hf,e2 hf]
   show(if acc.length<z18 then _ else _)=_
   rw[if_pos (by simp at l;lia),e3,Qa3 (fun d' hd'=>h d' (z08 _ hd')) (by simp at l ⊢;lia),z54,if_pos hf]
   simp
  ·show(if f d=true then _ else _)=_
   rw[if_neg hf,e3,Qa3 (fun d' hd'=>h d' (z08 _ hd')) (by simp at l ⊢;lia),z54,if_neg hf]
theorem QeA {par:Bool}{cs:List Cp}{j:Nat}{mi:MA}{tc:MT}{te:ME}{ρ ρ1 ρb:Rho}{ds di os:List D}{f:D->Bool}{g:D->D}(h1:mi ρ=.ok (ds,ρ1))(h2:Yp par ρ1 @16=some di)(h3:QaS ρ1 cs di=some ρb)
  (hs:∀d∈ds,∃ρ0,V7 ρb j d=some ρ0/\tc ρ0=.ok (f d,ρ0)/\(f d=true->te ρ0=.ok (g d,ρ0))/\ρ0.set j none=ρb) (l:ds.length<=z18) (ho:outs (ioB cs) ρb=some os) (hp:YA par ρ1 @16 os=ρ1):Yq par cs j mi tc te ρ=.ok (.lst ((ds.filter f).map g),ρ1):=by
 unfold Yq
 rw[h1]
 show((Rs.of (Yp par ρ1 @16)).bind _)=_
 rw[h2]
 show((Rs.of (QaS ρ1 cs di)).bind _)=_
 rw[h3]
 show(match Qa2 j tc te ds ρb [] with|.ok q=>_|_=>_)=_
 rw[Qa3 hs (by simpa using l)]
 show((Rs.of (outs (ioB cs) ρb)).bind _)=_
 rw[ho]
 show Rs.ok _=_
 rw[hp]
 simp
theorem comp_map {par:Bool}{cs:List Cp}{j:Nat}{mi:MA}{te:ME}{ρ ρ1 ρb:Rho}{ds di os:List D}{g:D->D}(h1:mi ρ=.ok (ds,ρ1))(h2:Yp par ρ1 @16=some di)(h3:QaS ρ1 cs di=some ρb)
  (hs:∀d∈ds,∃ρ0,V7 ρb j d=some ρ0/\te ρ0=.ok (g d,ρ0)/\ρ0.set j none=ρb) (l:ds.length<=z18) (ho:outs (ioB cs) ρb=some os) (hp:YA par ρ1 @16 os=ρ1):Yq par cs j mi Qe7 te ρ=.ok (.lst (ds.map g),ρ1):=by
 rw[QeA (f:=fun _=>true) (g:=g) h1 h2 h3 (fun d hd=>by obtain⟨ρ0,e1,e2,e3⟩:=hs d hd;exact⟨ρ0,e1,rfl,fun _=>e2,e3⟩) l ho hp,zm6.mpr fun _ _=>rfl]
theorem Qkf {tg:D->Rho->Option Rho}{mb:MS}{k:Fl×Rho->Prop}(Inv:Nat->Rho->Prop){ds:List D}(step:∀i d ρ,ds[i]? = some d->Inv i ρ->∃ρ1,tg d ρ=some ρ1/\W (mb ρ1) fun r=>r.1=.nx/\Inv (i+1) r.2) :
  ∀(n i:Nat) (ρ:Rho),ds.length - i=n->i<=ds.length->Inv i ρ->(∀ρ',Inv ds.length ρ'->k (.nx,ρ'))->W (forL tg mb (ds.drop i) ρ) k
 |0,i,ρ,hn,hi,h,hk=>by
  have:i=ds.length:=by lia
  subst this
  rw[zp8]
  exact JK.mpr (hk _ h)
 |n+1,i,ρ,hn,hi,h,hk=>by
  have hlt:i<ds.length:=by lia
  rw[zb3 hlt]
  obtain⟨ρ1,e1,h1⟩:=step i ds[i] ρ (z05 hlt) h
  unfold forL
  rw[e1]
  refine Qh.mpr (Qnn.mpr (Qh.mpr (h1.mono fun r hz=>?_)))
  obtain⟨e2,h2⟩:=hz
  rw[e2]
  exact Qkf Inv step n (i+1) r.2 @1 @1 h2 hk
theorem Qcj {a b:Int}:gEq (.int a) (.int b)=some (.bl (decide (a=b))):=by
 show(eqS (.int a) (.int b)).map D.bl=_
 unfold eqS
 rw[if_pos (by rfl)]
 show some _=some _
 congr 2
 by_cases h:a=b<;>simp[h]
theorem QhT {a b:Int}:gNe (.int a) (.int b)=some (.bl (decide (a≠b))):=by
 have:=Qcj (a:=a) (b:=b)
 unfold gEq at this
 unfold gNe
 cases h:eqb 30 (.int a) (.int b) with
 |none=>rw[h] at this;cases this
 |some c=>
  rw[h] at this
  cases this
  show some _=some _
  by_cases h:a=b<;>simp[h]
theorem QrA {a b c:Int}:gIn (.int a) (.nd .tup [.int b,.int c])=some (.bl (decide (b=a\/c=a))):=by
 have h1:=Qcj (a:=b) (b:=a)
 have h2:=Qcj (a:=c) (b:=a)
 obtain⟨x,e1,e1'⟩:=z03.mp h1
 obtain⟨y,e2,e2'⟩:=z03.mp h2
 show((inL (eqb 30) (.int a) [.int b,.int c])).map D.bl=_
 unfold inL inL inL
 rw[e1,e2]
 cases e1';cases e2'
 show some _=some _
 by_cases q:b=a<;>by_cases r:c=a<;>simp[q,r]
theorem Fa2.all {P:D->Prop}:∀{xs ys:List D},Fa2 (fun _ y=>P y) xs ys->∀y∈ys,P y
 |_,_,.nil,_,h=>nomatch h
 |_,_,.cons h r,y,hy=>by
  rcases z19.mp hy with rfl|hy
  ·exact h
  ·exact r.all y hy
section
variable {s:Option Sl}{ρ ρ1 ρ2:Rho}{k:D×Rho->Prop}{kt:Bool×Rho->Prop}{ka:List D×Rho->Prop}{kf:Fl×Rho->Prop}{a b m u:ME}{mt mu:MT}{mr:MA}{ms mv:MS}{d x y:D}{xs ys:List D}{i:Nat}{g:D->D->Option D}{c:Bool}
def vK (o:Option (Option Sl))(i:Nat)(ρ:Rho):Rs (D×Rho):=match o with
 |some (some (.frz d))=>.ok (d,ρ)
 |some (some (.own d))=>.ok (d,ρ.set i (some (.frz d)))
 |_=>.no
theorem Qno:vK (some (some (.frz d))) i ρ=.ok (d,ρ):=rfl
theorem Qnp:vK (some (some (.own d))) i ρ=.ok (d,ρ.set i (some (.frz d))):=rfl
theorem w_V:W (mV i (s::ρ)) k↔W (vK ((s::ρ)[i]?) i (s::ρ)) k:=zx7
def bK (o:Option (Option Sl))(ρ:Rho):Rs (D×Rho):=match o with
 |some (some (.frz d))=>.ok (d,ρ)
 |some (some (.own d))=>.ok (d,ρ)
 |some (some (.par d))=>.ok (d,ρ)
 |_=>.no
theorem Qnq:bK (some (some (.frz d))) ρ=.ok (d,ρ):=rfl
theorem Qnr:bK (some (some (.own d))) ρ=.ok (d,ρ):=rfl
theorem Qns:bK (some (some (.par d))) ρ=.ok (d,ρ):=rfl
theorem w_B:W (mB i (s::ρ)) k↔W (bK ((s::ρ)[i]?) (s::ρ)) k:=zx7
def oK (o:Option (Option Sl))(i:Nat)(ρ:Rho):Rs (D×Rho):=match o with
 |some (some (.own d))=>.ok (d,ρ.set i none)
 |_=>.no
theorem Qnt:oK (some (some (.own d))) i ρ=.ok (d,ρ.set i none):=rfl
theorem w_O:W (mO i (s::ρ)) k↔W (oK ((s::ρ)[i]?) i (s::ρ)) k:=zx7
def sK (o:Option (Option Sl))(ρ:Rho):Rs (D×Rho):=match o with
 |some (some (.own d))=>.ok (d,ρ)
 |some (some (.par d))=>.ok (d,ρ)
 |_=>.no
theorem Qnu:sK (some (some (.own d))) ρ=.ok (d,ρ):=rfl
theorem Qnv:sK (some (some (.par d))) ρ=.ok (d,ρ):=rfl
theorem w_S:W (mS i (s::ρ)) k↔W (sK ((s::ρ)[i]?) (s::ρ)) k:=zx7
theorem w_C:W (mC d (s::ρ)) k↔k (d,s::ρ):=JK
def iK (r:D×Rho):Rs (D×Rho):=if r.1.imm=true then .ok r else .no
theorem Qp1:iK (d,ρ)=if d.imm=true then .ok (d,ρ) else .no:=rfl
theorem w_I:W (mI m (s::ρ)) k↔W (m (s::ρ)) fun r=>W (iK r) k:=Qh
def opK (g:D->D->Option D)(r1 r2:D×Rho):Rs (D×Rho):=Rs.of ((g r1.1 r2.1).map fun d=>(d,r2.2))
theorem Qnw:opK g (x,ρ1) (y,ρ2)=Rs.of ((g x y).map fun d=>(d,ρ2)):=rfl
theorem QrB:W (mOp g a b (s::ρ)) k↔W (a (s::ρ)) fun r1=>W (b r1.2) fun r2=>W (opK g r1 r2) k:=by simp only[mOp,Qh,opK]
def tK (r:D×Rho):Rs (Bool×Rho):=Rs.of ((asB r.1).map fun b=>(b,r.2))
theorem Qp2:tK (.bl c,ρ)=.ok (c,ρ):=rfl
theorem Qnx:W (Qb9 m (s::ρ)) kt↔W (m (s::ρ)) fun r=>W (tK r) kt:=Qh
def nK (r:Bool×Rho):Rs (Bool×Rho):=.ok (!r.1,r.2)
theorem Qp3:nK (c,ρ)=.ok (!c,ρ):=rfl
theorem Qp4:W (Qpc mt (s::ρ)) kt↔W (mt (s::ρ)) fun r=>W (nK r) kt:=Qh
def anK (u:MT)(r:Bool×Rho):Rs (Bool×Rho):=if r.1=true then u r.2 else .ok (false,r.2)
theorem Qny:anK mu (c,ρ)=if c=true then mu ρ else .ok (false,ρ):=rfl
theorem Qp5:W (QqQ mt mu (s::ρ)) kt↔W (mt (s::ρ)) fun r=>W (anK mu r) kt:=Qh
def orK (u:MT)(r:Bool×Rho):Rs (Bool×Rho):=if r.1=true then .ok (true,r.2) else u r.2
theorem Qnz:orK mu (c,ρ)=if c=true then .ok (true,ρ) else mu ρ:=rfl
theorem QrC:W (mOr mt mu (s::ρ)) kt↔W (mt (s::ρ)) fun r=>W (orK mu r) kt:=Qh
def feK (a b:ME)(r:Bool×Rho):Rs (D×Rho):=if r.1=true then a r.2 else b r.2
theorem QnA:feK a b (c,ρ)=if c=true then a ρ else b ρ:=rfl
theorem Qp6:W (Qrp mt a b (s::ρ)) k↔W (mt (s::ρ)) fun r=>W (feK a b r) k:=Qh
theorem Qp7:W (QcT (s::ρ)) ka↔ka ([],s::ρ):=JK
def coK (r:D×Rho)(q:List D×Rho):Rs (List D×Rho):=.ok (r.1::q.1,q.2)
theorem QnB:coK (d,ρ1) (xs,ρ2)=.ok (d::xs,ρ2):=rfl
theorem QnC:W (Q2 m mr (s::ρ)) ka↔W (m (s::ρ)) fun r=>W (mr r.2) fun q=>W (coK r q) ka:=by simp only[Q2,Qh,coK]
def cbK (g:List D->Option D)(r:List D×Rho):Rs (D×Rho):=Rs.of ((g r.1).map fun d=>(d,r.2))
theorem QnD {g:List D->Option D}:cbK g (xs,ρ)=Rs.of ((g xs).map fun d=>(d,ρ)):=rfl
theorem Qld {g:List D->Option D}:W (Qek g mr (s::ρ)) k↔W (mr (s::ρ)) fun r=>W (cbK g r) k:=Qh
def lsK (r:List D×Rho):Rs (D×Rho):=if r.1.length<=z18 then .ok (.lst r.1,r.2) else .no
theorem QnE:lsK (xs,ρ)=if xs.length<=z18 then .ok (.lst xs,ρ) else .no:=rfl
theorem Qp8:W (QpF mr (s::ρ)) k↔W (mr (s::ρ)) fun r=>W (lsK r) k:=Qh
def tuK (r:List D×Rho):Rs (D×Rho):=if r.1.length<=z18 then .ok (.tup r.1,r.2) else .no
theorem QnF:tuK (xs,ρ)=if xs.length<=z18 then .ok (.tup xs,ρ) else .no:=rfl
theorem Qp9:W (Qpd mr (s::ρ)) k↔W (mr (s::ρ)) fun r=>W (tuK r) k:=Qh
def loK (r:List D×Rho):Rs (D×Rho):=if r.1.length<=z18 then(if D.QI r.1=true then .ok (.lst r.1,r.2) else .no) else .no
theorem QnG:loK (xs,ρ)=if xs.length<=z18 then(if D.QI xs=true then .ok (.lst xs,ρ) else .no) else .no:=rfl
theorem QnH:W (QmZ mr (s::ρ)) k↔W (mr (s::ρ)) fun r=>W (loK r) k:=Qh
def liK (r:List D×Rho):Rs (D×Rho):=(Rs.of (QgE r.1)).bind fun ds=>if D.QI ds=true then .ok (.lst ds,r.2) else .no
theorem QnI:liK ([.nd .lst xs],ρ)=if D.QI xs=true then .ok (.lst xs,ρ) else .no:=rfl
theorem Qle:W (QfC mr (s::ρ)) k↔W (mr (s::ρ)) fun r=>W (liK r) k:=Qh
theorem QnJ:W (QkV (s::ρ)) kf↔kf (.nx,s::ρ):=JK
def sqK (u:MS)(r:Fl×Rho):Rs (Fl×Rho):=match r.1 with
 |.nx=>u r.2
 |f=>.ok (f,r.2)
theorem QnK:sqK mv (.nx,ρ)=mv ρ:=rfl
theorem QnL:sqK mv (.rt d,ρ)=.ok (.rt d,ρ):=rfl
theorem Qqa:W (Qm2 ms mv (s::ρ)) kf↔W (ms (s::ρ)) fun r=>W (sqK mv r) kf:=Qh
def rtK (r:D×Rho):Rs (Fl×Rho):=.ok (.rt r.1,r.2)
theorem QnM:rtK (d,ρ)=.ok (.rt d,ρ):=rfl
theorem Qqb:W (QpG m (s::ρ)) kf↔W (m (s::ρ)) fun r=>W (rtK r) kf:=Qh
def ifK (a b:MS)(r:Bool×Rho):Rs (Fl×Rho):=if r.1=true then a r.2 else b r.2
theorem QnN:ifK ms mv (c,ρ)=if c=true then ms ρ else mv ρ:=rfl
theorem QrD:W (mIf mt ms mv (s::ρ)) kf↔W (mt (s::ρ)) fun r=>W (ifK ms mv r) kf:=Qh
def svK (i:Nat)(r:D×Rho):Rs (Fl×Rho):=(Rs.of (V7 r.2 i r.1)).bind fun ρ'=>.ok (.nx,ρ')
theorem QnO:svK i (d,ρ)=(Rs.of (V7 ρ i d)).bind fun ρ'=>.ok (.nx,ρ'):=rfl
theorem QnP:W (Qje i m (s::ρ)) kf↔W (m (s::ρ)) fun r=>W (svK i r) kf:=Qh
theorem QnQ:W (Qjn i m (s::ρ)) kf↔W (m (s::ρ)) fun r=>W (svK i r) kf:=Qh
def soK (i:Nat)(r:D×Rho):Rs (Fl×Rho):=(Rs.of (Qj3 r.2 i r.1)).bind fun ρ'=>.ok (.nx,ρ')
theorem QnR:soK i (d,ρ)=(Rs.of (Qj3 ρ i d)).bind fun ρ'=>.ok (.nx,ρ'):=rfl
theorem QnS:W (Qjf i m (s::ρ)) kf↔W (m (s::ρ)) fun r=>W (soK i r) kf:=Qh
def unK (g:D->Option D)(r:D×Rho):Rs (D×Rho):=Rs.of ((g r.1).map fun d=>(d,r.2))
theorem QnT {g:D->Option D}:unK g (d,ρ)=Rs.of ((g d).map fun d=>(d,ρ)):=rfl
theorem QrE {g:D->Option D}:W (mUn g m (s::ρ)) k↔W (m (s::ρ)) fun r=>W (unK g r) k:=Qh
def ixK (i:Nat)(m:ME)(r:D×Rho):Rs (Fl×Rho):=(Rs.of (VJ r.2 i)).bind fun _=>(m r.2).bind fun s=>(Rs.of (VJ s.2 i)).bind fun q=>(Rs.of ((asI s.1).bind fun n=>ixN q.2.length n)).bind fun j=>
 .ok (.nx,s.2.set i (some (mkS q.1 (.lst (q.2.set j r.1)))))
def Qqc (i:Nat)(d:D)(t:D×Rho):Rs (Fl×Rho):=(Rs.of (VJ t.2 i)).bind fun q=>(Rs.of ((asI t.1).bind fun n=>ixN q.2.length n)).bind fun j=>
 .ok (.nx,t.2.set i (some (mkS q.1 (.lst (q.2.set j d)))))
theorem Qlf:Qqc i d (x,ρ)=(Rs.of (VJ ρ i)).bind fun q=>(Rs.of ((asI x).bind fun n=>ixN q.2.length n)).bind fun j=>.ok (.nx,ρ.set i (some (mkS q.1 (.lst (q.2.set j d))))):=rfl
theorem QnU:W (ixK i m (d,s::ρ)) kf↔W (Rs.of (VJ (s::ρ) i)) fun _=>W (m (s::ρ)) fun t=>W (Qqc i d t) kf:=by simp only[ixK,Qh,Qqc]
theorem Qlg:W (Qj8 i a m (s::ρ)) kf↔W (a (s::ρ)) fun r=>W (ixK i m r) kf:=Qh
def apK (i:Nat)(r:D×Rho):Rs (Fl×Rho):=(Rs.of (VJ r.2 i)).bind fun q=>if q.2.length<z18 then .ok (.nx,r.2.set i (some (mkS q.1 (.lst (q.2++[r.1]))))) else .no
theorem QnV:apK i (d,ρ)=(Rs.of (VJ ρ i)).bind fun q=>if q.2.length<z18 then .ok (.nx,ρ.set i (some (mkS q.1 (.lst (q.2++[d]))))) else .no:=rfl
theorem Qqd:W (QpU i m (s::ρ)) kf↔W (Rs.of (VJ (s::ρ) i)) fun _=>W (m (s::ρ)) fun r=>W (apK i r) kf:=by simp only[QpU,Qh,apK]
def ctK (r1 r2:D×Rho):Rs (D×Rho):=(Rs.of (asL r1.1)).bind fun xs=>(Rs.of (asL r2.1)).bind fun ys=>if xs.length+ys.length<=z18 then .ok (.lst (xs++ys),r2.2) else .no
theorem QnW:ctK (.nd .lst xs,ρ1) (.nd .lst ys,ρ2)=if xs.length+ys.length<=z18 then .ok (.lst (xs++ys),ρ2) else .no:=rfl
theorem QnX:W (Qk6 a b (s::ρ)) k↔W (a (s::ρ)) fun r1=>W (b r1.2) fun r2=>W (ctK r1 r2) k:=by simp only[Qk6,Qh,ctK]
def cuK (r1 r2:D×Rho):Rs (D×Rho):=(Rs.of (asL r1.1)).bind fun xs=>(Rs.of (asL r2.1)).bind fun ys=>if xs.length+ys.length<=z18 then(if D.QI (xs++ys)=true then .ok (.lst (xs++ys),r2.2) else .no) else .no
theorem QnY:cuK (.nd .lst xs,ρ1) (.nd .lst ys,ρ2)=if xs.length+ys.length<=z18 then(if D.QI (xs++ys)=true then .ok (.lst (xs++ys),ρ2) else .no) else .no:=rfl
theorem QnZ:W (Qnf a b (s::ρ)) k↔W (a (s::ρ)) fun r1=>W (b r1.2) fun r2=>W (cuK r1 r2) k:=by simp only[Qnf,Qh,cuK]
def avK (b:ME)(r:D×Rho):Rs (D×Rho):=(Rs.of (asB r.1)).bind fun c=>if c=true then b r.2 else .ok (.bl false,r.2)
theorem Qn0:avK b (.bl c,ρ)=if c=true then b ρ else .ok (.bl false,ρ):=rfl
theorem Qn1:W (QmV a b (s::ρ)) k↔W (a (s::ρ)) fun r=>W (avK b r) k:=Qh
def chK (g g':D->D->Option D)(mc:ME)(r1 r2:D×Rho):Rs (D×Rho):=(Rs.of ((g r1.1 r2.1).bind asB)).bind fun q=>if q=true then(mc r2.2).bind fun r3=>Rs.of ((g' r2.1 r3.1).map fun d=>(d,r3.2)) else .ok (.bl false,r2.2)
theorem Qn2 {g':D->D->Option D}:chK g g' u (x,ρ1) (y,ρ2)=(Rs.of ((g x y).bind asB)).bind fun q=>if q=true then(u ρ2).bind fun r3=>Rs.of ((g' y r3.1).map fun d=>(d,r3.2)) else .ok (.bl false,ρ2):=rfl
theorem Qlh {g':D->D->Option D}:W (Qer g g' a b u (s::ρ)) k↔W (a (s::ρ)) fun r1=>W (b r1.2) fun r2=>W (chK g g' u r1 r2) k:=by simp only[Qer,Qh,chK]
end
section
variable {os:List D}{d:D}{ρ ρ1:Rho}
theorem Jl {rk:Kd}{f:List D->Fr}{mr:MA}{args:List D}(h1:mr ρ=.ok (args,ρ1))(h2:f args=.ok d os)(h3:rk=.V->d.imm=true):VM rk f mr ρ=.ok (d,ρ1):=by
 have:=Qlc (rk:=rk) (k:=fun r=>r=(d,ρ1)) (P:=fun d' _=>d'=d) h1 ⟨d,os,h2,rfl⟩ fun d' os' e=>⟨fun z=>e▸h3 z,by rw[e]⟩
 exact this.eq
end
def Qq5 (t:Tag):Prop:=t=.lst\/t=.tup
theorem Qn3 {t:Tag}{ds:List D}{i:Nat}{d:D}(h:Qq5 t)(e:ds[i]? = some d):gIx (.nd t ds) (.int i)=some d:=by
 have:atI ds (i:Int)=some d:=by
  unfold atI ixN
  have:=(z28.mp e).1
  rw[if_pos (Int.natCast_nonneg i),if_pos @1]
  exact e
 rcases h with rfl|rfl<;>exact this
theorem op_eq {g:D->D->Option D}{a b:ME}{ρ ρ1 ρ2:Rho}{x y d:D}(h1:a ρ=.ok (x,ρ1))(h2:b ρ1=.ok (y,ρ2))(hg:g x y=some d):mOp g a b ρ=.ok (d,ρ2):=by
 unfold mOp;rw[h1]
 show((b ρ1).bind _)=_
 rw[h2]
 show Rs.of ((g x y).map _)=_
 rw[hg];rfl
theorem QO {m:ME}{mr:MA}{ρ ρ1 ρ2:Rho}{d:D}{ds:List D}(h1:m ρ=.ok (d,ρ1))(h2:mr ρ1=.ok (ds,ρ2)):Q2 m mr ρ=.ok (d::ds,ρ2):=by
 unfold Q2;rw[h1]
 show((mr ρ1).bind _)=_
 rw[h2];rfl
theorem Qa4 {m:ME}{ρ ρ1:Rho}{b:Bool}(h:m ρ=.ok (.bl b,ρ1)):Qb9 m ρ=.ok (b,ρ1):=by unfold Qb9;rw[h];rfl
theorem not_eq {m:MT}{ρ ρ1:Rho}{b:Bool}(h:m ρ=.ok (b,ρ1)):Qpc m ρ=.ok (!b,ρ1):=by unfold Qpc;rw[h];rfl
theorem or_eq {m u:MT}{ρ ρ1 ρ2:Rho}{b c:Bool}(h:m ρ=.ok (b,ρ1))(h2:b=false->u ρ1=.ok (c,ρ2))(h3:b=true->ρ2=ρ1):mOr m u ρ=.ok (b || c,ρ2):=by
 unfold mOr;rw[h]
 cases b with
 |true=>rw[h3 rfl];rfl
 |false=>show u ρ1=_;rw[h2 rfl];rfl
theorem Qli {bs:List Bool}:Qpe [.lst (bs.map .bl)]=some (.bl (bs.all fun b=>b)):=by
 have:Qj7 (bs.map .bl)=some bs:=by
  induction bs with
  |nil=>rfl
  |cons b bs ih=>rw[z33,Qj7,ih];rfl
 show(Qj7 (bs.map .bl)).map _=_
 rw[this];rfl
theorem Qlj {mr:MA}{ρ ρ1:Rho}{t:Tag}{ds:List D}(ht:Qq5 t)(h:mr ρ=.ok ([.nd t ds],ρ1)):Qhh mr ρ=.ok (.tup ds,ρ1):=by
 unfold Qhh;rw[h]
 rcases ht with rfl|rfl<;>rfl
def pl (q:Int×Int):D:=.tup [.int q.1,.int q.2]
theorem eq_int (n:Nat){a b:Int}:eqb (n+1) (.int a) (.int b)=some (decide (a=b)):=by
 show eqS (.int a) (.int b)=_
 unfold eqS
 rw[if_pos (by rfl)]
 show some _=some _
 congr 1
 by_cases h:a=b<;>simp[h]
theorem Qn4 (n:Nat){p q:Int×Int}:eqb (n+2) (pl p) (pl q)=some (decide (p=q)):=by
 have e:eqb (n+2) (pl p) (pl q)=Qbm (eqb (n+1)) [.int p.1,.int p.2] [.int q.1,.int q.2]:=rfl
 rw[e]
 unfold Qbm Qbm Qbm
 rw[eq_int,eq_int]
 obtain⟨a,b⟩:=p
 obtain⟨c,d⟩:=q
 show some _=some _
 congr 1
 by_cases h1:a=c<;>by_cases h2:b=d<;>simp[h1,h2]
theorem Qn5 {q:Int×Int}:∀{U:List (Int×Int)},inL (eqb 30) (pl q) (U.map pl)=some (decide (q∈U))
 | []=>by simp[inL]
 |u::U=>by
  rw[z33,inL,Qn4 28,Qn5]
  show some _=some _
  congr 1
  by_cases h1:u=q
  ·subst h1;simp
  ·by_cases h2:q∈U
   ·simp[h1,h2]
   ·have h3:¬ q=u:=fun h=>h1 h.symm
    simp[h1,h2,h3]
theorem Qkg {q:Int×Int}{U:List (Int×Int)}:gNi (pl q) (.lst (U.map pl))=some (.bl (!decide (q∈U))):=by
 show(inL (eqb 30) (pl q) (U.map pl)).map _=_
 rw[Qn5];rfl
section
variable {X:Cx}{C:Cn}{E:XE}{pa pb:Bool}{o e:Expr}{es:List Expr}{mo:ME}{mr:MA}{ks:List Kd}
def asS:D->Option Str
 |.str s=>some s
 |_=>none
theorem QhU {d:D}{z:Str}(h:asS d=some z):d=.str z:=by
 cases d<;>first|cases h;done|(cases h;rfl)
theorem R.str {K:z01}{F:Hp}{v:L2.V}{z:Str}(r:R K F v (.str z)):v=.str z:=by
 cases r with|sc e=>cases e;rfl
theorem R.int {K:z01}{F:Hp}{v:L2.V}{z:Int}(r:R K F v (.int z)):v=.int z:=by
 cases r with|sc e=>cases e;rfl
theorem R.bl {K:z01}{F:Hp}{v:L2.V}{z:Bool}(r:R K F v (.bl z)):v=.bl z:=by
 cases r with|sc e=>cases e;rfl
def MtD (K:z01)(r:L2.V->List L2.V->Hp->VK->Prop)(g:Str->List D->Option D):Prop:=∀H z vs ds res,RL K H vs ds->g z ds=some res->∃w,res.sc=some w/\∀Q:VK,Q w H->r (.str z) vs H Q
def mBM (g:Str->List D->Option D)(mo:ME)(mr:MA):ME:=fun ρ=>(mo ρ).bind fun r1=>(Rs.of (asS r1.1)).bind fun z=>(mr r1.2).bind fun r2=>Rs.of ((g z r2.1).map fun d=>(d,r2.2))
theorem Qlk {name:Str}{id:String}{r:L2.V->List L2.V->Hp->VK->Prop}{g:Str->List D->Option D}{apos cpos:Pos}(slot:Slot "str" name id)(hty:typeOf (.builtin id)=pure (.type "method_descriptor"))(hm:MtR X id r)(hg:MtD C.K r g)
  (ho:PE X o (tX .V C pa E mo)) (ha:PA X (e::es) (tA ks C pb E mr)) (ok:rdL ks=true:=by rfl) (hbase:attributeBase o name X.env (eval o X.env)=eval o X.env:=by rfl)
  (hfew:((backTo cpos (starEach (e::es) X.env)).all (fun x=>!x.1) && (backToKw cpos (keywordEach [] X.env)).all (fun x=>x.1.isSome)
   && decide ((e::es).length+([]:List Keyword).length+(if([]:List Keyword).isEmpty then 0 else 1)<30))=true:=by rfl)
  (hline:(apos.endLine == cpos.line)=true:=by rfl) (hs:starEach (e::es) X.env=@15::starEach es X.env:=by rfl) (hplain:(backTo cpos (starEach es X.env)).any (·.1)=false:=by rfl) :
  PE X (.Call (.Attribute o name apos) (e::es) [] cpos) (tX .V C (pa && pb) E (mBM g mo mr)):=
 Ql (pe_bm zs2 slot hty hm ho ha hbase hfew hline hs hplain) fun σ H Q ⟨F,ρ,τ,fp,I,h⟩=>by
  refine⟨F,ρ,τ,fp,I,h.split.mono fun r1 h1 F1 H1 fp1 v I1 n1 f1=>?_⟩
  obtain⟨z,ez,h2⟩:=h1.split.of
  obtain⟨d,ρ1⟩:=r1
  obtain rfl:=QhU ez
  obtain rfl:=R.str f1
  refine⟨rfl,F1,ρ1,τ,fp1,I1,h2.split.mono fun r2 h3 F2 H2 fp2 vs I2 n2 f2=>?_⟩
  rw[JD ok] at I2
  obtain⟨q,eq,h4⟩:=h3.of
  obtain⟨res,eg,rfl⟩:=z03.mp eq
  obtain⟨w,ew,hw⟩:=hg H2 z vs _ _ (RL.same (Yd I2.fh) (f2.rd I2 ok)) eg
  exact hw _ (h4 F2 H2 fp2 w I2 (n1.trans n2) (.sc ew))
def Qll:List D->Option (List Str)
 | []=>some []
 |.str s::r=>(Qll r).map (s::·)
 |_=>none
theorem QhV {K:z01}{F:Hp}:∀{vs:List L2.V} {ds:List D} {ys:List Str},RL K F vs ds->Qll ds=some ys->vs=ys.map L2.V.str
 |_,_,_,.nil,h=>by cases h;rfl
 |_,_,_,.cons (d:=d) r q,h=>by
  cases d with
  |str s=>
   obtain⟨ys,e,rfl⟩:=z03.mp (show(Qll _).map (s::·)=some _ from h)
   rw[R.str r,QhV q e];rfl
  |_=>cases h
def Qlm (sep:Str):List D->Option D
 | [.nd .lst ds]=>(Qll ds).bind fun ys=>if JoinOk sep ys=true then some (.str (ze7 sep ys)) else none
 |_=>none
theorem Qn6 (hK:C.K=X.K):MtD C.K (rJoin X.K) Qlm:=fun H z vs ds res r eg=>by
 unfold Qlm at eg
 split at eg
 ·obtain⟨ys,e1,e2⟩:=z25.mp eg
  split at e2
  ·rename_i ok
   cases e2
   obtain⟨v,rfl,r1⟩:=r.one
   obtain⟨q,us,rfl,ha,rl⟩:=r1.inv
   refine⟨_,rfl,fun Q h=>⟨z,q,ys,rfl,rfl,?_,ok,h⟩⟩
   have:us=ys.map L2.V.str:=QhV rl e1
   rw[← this,← hK];exact ha
  ·cases e2
 ·cases eg
def JL (z:Str):List D->Option D
 | [.str y]=>some (.bl (PySem.Txt.startswith z y))
 |_=>none
theorem Qln:MtD C.K QgQ JL:=fun H z vs ds res r eg=>by
 unfold JL at eg
 split at eg
 ·cases eg
  obtain⟨v,rfl,r1⟩:=r.one
  obtain rfl:=R.str r1
  exact⟨_,rfl,fun Q h=>⟨z,_,rfl,rfl,h⟩⟩
 ·cases eg
def QhW (mo:ME)(mr:MA):ME:=fun ρ=>(mo ρ).bind fun r1=>(Rs.of (asS r1.1)).bind fun z=>(mr r1.2).bind fun r2=>(Rs.of (match r2.1 with|[.str y]=>if(y.length == 0)=false/\z.length+2<=z18/\(zc4 z y).length<=z18 then some (zc4 z y) else none|_=>none)).bind fun ys=>.ok (.lst (ys.map D.str),r2.2)
theorem QeB:∀ys:List Str,D.QI (ys.map D.str)=true
 | []=>rfl
 |y::ys=>by rw[z33];show(true && D.QI (ys.map D.str))=true;rw[QeB ys];rfl
theorem QhX {K:z01}{F:Hp}:∀ys:List Str,RL K F (ys.map L2.V.str) (ys.map D.str)
 | []=>.nil
 |y::ys=>.cons (.sc rfl) (QhX ys)
theorem QfQ {apos cpos:Pos}(ho:PE X o (tX .V C pa E mo))(ha:PA X [e] (tA ks C pb E mr))(ok:rdL ks=true:=by rfl)(hbase:attributeBase o "split" X.env (eval o X.env)=eval o X.env:=by rfl)
  (hfew:((backTo cpos (starEach [e] X.env)).all (fun x=>!x.1) && (backToKw cpos (keywordEach [] X.env)).all (fun x=>x.1.isSome)
   && decide ([e].length+([]:List Keyword).length+(if([]:List Keyword).isEmpty then 0 else 1)<30))=true:=by rfl)
  (hline:(apos.endLine == cpos.line)=true:=by rfl) (hs:starEach [e] X.env=@15::starEach [] X.env:=by rfl) (hplain:(backTo cpos (starEach [] X.env)).any (·.1)=false:=by rfl) :
  PE X (.Call (.Attribute o "split" apos) [e] [] cpos) (tX .O C (pa && pb) E (QhW mo mr)):=
 Ql (pe_bm zs2 PySem.F.slot_str_split PySem.F.type_str_split QiX ho ha hbase hfew hline hs hplain) fun σ H Q ⟨F,ρ,τ,fp,I,h⟩=>by
  refine⟨F,ρ,τ,fp,I,h.split.mono fun r1 h1 F1 H1 fp1 v I1 n1 f1=>?_⟩
  obtain⟨z,ez,h2⟩:=h1.split.of
  obtain⟨d,ρ1⟩:=r1
  obtain rfl:=QhU ez
  obtain rfl:=R.str f1
  refine⟨rfl,F1,ρ1,τ,fp1,I1,h2.split.mono fun r2 h3 F2 H2 fp2 vs I2 n2 f2=>?_⟩
  rw[JD ok] at I2
  obtain⟨ys,eq,h4⟩:=h3.split.of
  have rl:=f2.rd I2 ok
  obtain⟨ds,ρ2⟩:=r2
  dsimp only at eq rl
  split at eq
  ·split at eq
   ·rename_i y cnd
    cases eq
    obtain⟨v,rfl,r1⟩:=rl.one
    obtain rfl:=R.str r1
    refine⟨z,y,rfl,rfl,cnd.1,cnd.2.1,cnd.2.2,fun l hl=>?_⟩
    exact h4 _ _ _ _ (I2.newList hl (QhX _) (QeB _)) ((n1.trans n2).trans (q:=true) ⟨Same.refl _,fun _=>Qcb I2 hl⟩ |>.weak fun z=>by simpa using z) z50
   ·cases eq
  ·cases eq
end
section
variable {X:Cx}{C:Cn}{E:XE}{p:Bool}{e c:Expr}{m:ME}{k:Kd}
def Qq6 (x y:Str):Bool:=!(z77 y x 0 y.length 1).isEmpty
def Qqe (f:Bool->Bool):D->D->Option D
 |.str x,.str y=>some (.bl (f (Qq6 x y)))
 |_,_=>none
theorem QrF {K:z01}:OpD K (fun x y H Q=>∃i j,x=.str i/\y=.str j/\Q (.bl (!(z77 j i 0 j.length 1).isEmpty)) H) (Qqe id):=fun H v u d e res r q eg=>by
 unfold Qqe at eg
 split at eg
 ·cases eg
  obtain rfl:=R.str r
  obtain rfl:=R.str q
  exact⟨_,rfl,fun Q h=>⟨_,_,rfl,rfl,h⟩⟩
 ·cases eg
def signs (z:Str):List D:=z.cps.toList.map fun c=>.str ⟨#[c]⟩
theorem Qlo {K:z01}{F:Hp}{z:Str}:ItD K F (signs z) (Its z):=by
 refine⟨fun{C F' H σ ρ τ fp i d} hk I s e=>?_,fun{C F' H σ ρ τ fp} hk I s=>?_⟩
 ·unfold signs at e
  rw[z29] at e
  obtain⟨c,ec,rfl⟩:=z03.mp e
  rw[zd1] at ec
  refine⟨(ze1.mp ec).1,fun x H' ⟨e1,c',e2,e3⟩=>?_⟩
  subst e1
  rw[ec] at e2;cases e2
  subst e3
  exact⟨F',I,.refl,.sc rfl⟩
 ·show z.cps.size<=(signs z).length
  unfold signs
  rw[z00,z47]
  exact z32 _
def Qn7 (m:ME):MA:=fun ρ=>(m ρ).bind fun r=>(Rs.of (asS r.1)).bind fun z=>.ok (signs z,r.2)
theorem Qn8 {tg l:Expr}(hl:PE X l (tX .V C p E m)):PI X tg l (tI C p E (Qn7 m)):=Qcd (QmD hl) fun σ H RR ⟨F,ρ,τ,fp,I,h⟩=>by
 refine⟨F,ρ,τ,fp,I,h.split.mono fun r hr F1 H1 fp1 v I1 n1 f1=>?_⟩
 obtain⟨z,ez,h2⟩:=hr.split.of
 obtain⟨d,ρ1⟩:=r
 obtain rfl:=QhU ez
 obtain rfl:=R.str f1
 exact⟨z,rfl,h2 F1 H1 fp1 _ I1 n1 Qlo⟩
def QgL:List D->Option D
 | [.int i]=>some (.int i)
 | [.bl k]=>some (.int (if k then 1 else 0))
 | [.str x]=>if x.length<=640 then(ze4 x).map D.int else none
 |_=>none
theorem QhY:CallR X (.type "int") (fun xs H Q=>(∃i,xs=[.int i]/\Q (.int i) H)\/(∃k,xs=[.bl k]/\Q (.int (if k then 1 else 0)) H)\/(∃(x:Str) (n:Int),xs=[.str x]/\ze4 x=some n/\x.length<=640/\Q (.int n) H)):=fun pins s σ H xs us Q I r h=>by
 rcases h with h|h|h
 ·exact call_int1 pins s σ H xs us Q I r (.inl h)
 ·exact call_int1 pins s σ H xs us Q I r (.inr h)
 ·exact QdC pins s σ H xs us Q I r h
theorem QrG {K:z01}:CallD K (fun xs H Q=>(∃i,xs=[.int i]/\Q (.int i) H)\/(∃k,xs=[.bl k]/\Q (.int (if k then 1 else 0)) H)\/(∃(x:Str) (n:Int),xs=[.str x]/\ze4 x=some n/\x.length<=640/\Q (.int n) H)) QgL:=fun H vs ds res r eg=>by
 unfold QgL at eg
 split at eg
 ·cases eg
  obtain⟨v,rfl,r1⟩:=r.one
  obtain rfl:=R.int r1
  exact⟨_,rfl,fun Q h=>.inl ⟨_,rfl,h⟩⟩
 ·cases eg
  obtain⟨v,rfl,r1⟩:=r.one
  obtain rfl:=R.bl r1
  exact⟨_,rfl,fun Q h=>.inr (.inl ⟨_,rfl,h⟩)⟩
 ·split at eg
  ·rename_i hz
   obtain⟨n,e1,rfl⟩:=z03.mp eg
   obtain⟨v,rfl,r1⟩:=r.one
   obtain rfl:=R.str r1
   exact⟨_,rfl,fun Q h=>.inr (.inr ⟨_,_,rfl,e1,hz,h⟩)⟩
  ·cases eg
 ·cases eg
end
section
variable {X:Cx}{C:Cn}{E:XE}{e:Expr}{rk:Kd}
def QgM:List D->Option D
 | [.int i]=>if i.natAbs.log2<1920 then some (.str (toString i)) else none
 | [.str x]=>some (.str x)
 |_=>none
def Qn9:List L2.V->Hp->VK->Prop:=fun xs H Q=>(∃i,xs=[.int i]/\i.natAbs.log2<1920/\Q (.str (toString i)) H)\/∃x,xs=[.str x]/\Q (.str x) H
theorem QhZ:CallR X (.type "str") Qn9:=fun pins s σ H xs us Q I r h=>by
 rcases h with h|⟨x,rfl,q⟩
 ·exact call_str_int pins s σ H xs us Q I r h
 ·obtain⟨u,rfl,t,rfl⟩:=vals1 r
  exact PySem.P.str_of_str ⟨.str x,H,I,⟨_,rfl⟩,q⟩
theorem QrH {K:z01}:CallD K Qn9 QgM:=fun H vs ds res r eg=>by
 unfold QgM at eg
 split at eg
 ·split at eg
  ·rename_i hz
   cases eg
   obtain⟨v,rfl,r1⟩:=r.one
   obtain rfl:=R.int r1
   exact⟨_,rfl,fun Q h=>.inl ⟨_,rfl,hz,h⟩⟩
  ·cases eg
 ·cases eg
  obtain⟨v,rfl,r1⟩:=r.one
  obtain rfl:=R.str r1
  exact⟨_,rfl,fun Q h=>.inr ⟨_,rfl,h⟩⟩
 ·cases eg
def isN:D->Bool
 |.non=>true
 |_=>false
def Qph (f:Bool->Bool):D->D->Option D
 |d,.non=>some (.bl (f (isN d)))
 |_,_=>none
theorem Qqf {K:z01}{F:Hp}{v:L2.V}{d:D}(r:R K F v d):decide (v=.non)=isN d:=by
 cases r with
 |sc e=>cases d<;>first|(cases e;rfl)|(cases e;simp[isN])|cases e
 |nd h q=>simp[isN]
theorem Qq7 {K:z01}:OpD K (fun x y H Q=>y=.non/\Q (.bl (decide (x=.non))) H) (Qph id):=fun H v u d e res r q eg=>by
 unfold Qph at eg
 split at eg
 ·cases eg
  obtain rfl:=q.Qu (w:=.non) rfl
  exact⟨_,rfl,fun Q h=>⟨rfl,by rw[Qqf r];exact h⟩⟩
 ·cases eg
def Qqg:MS:=fun _=>.no
theorem QaA {st:Stmt}:PS X st (tS rk C E Qqg):=fun pins s σ H D I ⟨F,ρ,fp,_,h⟩=>h.elim
end
section
variable {s:Option Sl}{ρ ρ1:Rho}{k:D×Rho->Prop}{ka:List D×Rho->Prop}{kf:Fl×Rho->Prop}{m:ME}{mr:MA}{d x y:D}{xs ys:List D}{i:Nat}{c:Bool}
def clK (rk:Kd)(f:List D->Fr)(r:List D×Rho):Rs (D×Rho):=match f r.1 with
 |.ok d _=>match rk with
  |.V=>if d.imm=true then .ok (d,r.2) else .no
  |_=>.ok (d,r.2)
 |.ex c=>.ex c r.2
 |.no=>.no
theorem Qlp {rk:Kd}{f:List D->Fr}:W (VM rk f mr (s::ρ)) k↔W (mr (s::ρ)) fun r=>W (clK rk f r) k:=Qh
theorem QF {f:List D->Fr}{os:List D}(h:f xs=.ok d os):W (clK .V f (xs,ρ)) k↔d.imm=true/\k (d,ρ):=by
 show W (match f xs with|.ok d _=>_|.ex c=>_|.no=>_) k↔_
 rw[h]
 show W (if d.imm=true then _ else _) k↔_
 by_cases hd:d.imm=true
 ·rw[if_pos hd];exact⟨fun z=>⟨hd,JK.mp z⟩,fun z=>JK.mpr z.2⟩
 ·rw[if_neg hd];exact⟨fun⟨_,e,_⟩=>(nomatch e),fun z=>absurd z.1 hd⟩
theorem QcY {f:List D->Fr}{os:List D}(h:f xs=.ok d os):W (clK .O f (xs,ρ)) k↔k (d,ρ):=by
 show W (match f xs with|.ok d _=>_|.ex c=>_|.no=>_) k↔_
 rw[h];exact JK
def bmK (g:Str->List D->Option D)(r1:D×Rho)(z:Str)(r2:List D×Rho):Rs (D×Rho):=Rs.of ((g z r2.1).map fun d=>(d,r2.2))
theorem VN {g:Str->List D->Option D}{z:Str}{r1:D×Rho}:bmK g r1 z (xs,ρ)=Rs.of ((g z xs).map fun d=>(d,ρ)):=rfl
theorem QiS {g:Str->List D->Option D}:W (mBM g m mr (s::ρ)) k↔W (m (s::ρ)) fun r1=>W (Rs.of (asS r1.1)) fun z=>W (mr r1.2) fun r2=>W (bmK g r1 z r2) k:=by simp only[mBM,Qh,bmK]
def tvK (r:List D×Rho):Rs (D×Rho):=(Rs.of (QgE r.1)).bind fun ds=>.ok (.tup ds,r.2)
theorem Qlq:tvK ([.nd .lst xs],ρ)=.ok (.tup xs,ρ):=rfl
theorem Qlr:tvK ([.nd .tup xs],ρ)=.ok (.tup xs,ρ):=rfl
theorem Qoa:W (Qhh mr (s::ρ)) k↔W (mr (s::ρ)) fun r=>W (tvK r) k:=Qh
def exK (i:Nat)(r:D×Rho):Rs (Fl×Rho):=(Rs.of (VJ r.2 i)).bind fun q=>(Rs.of (asL r.1)).bind fun ds=>if q.2.length+ds.length<=z18 then .ok (.nx,r.2.set i (some (mkS q.1 (.lst (q.2++ds))))) else .no
theorem Qob:exK i (d,ρ)=(Rs.of (VJ ρ i)).bind fun q=>(Rs.of (asL d)).bind fun ds=>if q.2.length+ds.length<=z18 then .ok (.nx,ρ.set i (some (mkS q.1 (.lst (q.2++ds))))) else .no:=rfl
theorem Qqh:W (QpV i m (s::ρ)) kf↔W (Rs.of (VJ (s::ρ) i)) fun _=>W (m (s::ρ)) fun r=>W (exK i r) kf:=by simp only[QpV,Qh,exK]
def cK (par:Bool)(as:List (Option Nat))(f:List D->Fr)(r:List D×Rho):Rs (D×Rho):=(Rs.of (Yp par r.2 (as.filterMap id))).bind fun dis=>match f (Qhm as r.1 dis) with
 |.ok d outs=>.ok (d,YA par r.2 (as.filterMap id) outs)
 |.ex c=>if(as.filterMap id).isEmpty=true then .ex c r.2 else .no
 |.no=>.no
theorem Qoc {par:Bool}{as:List (Option Nat)}{f:List D->Fr}:W (QdJ par as f mr (s::ρ)) k↔W (mr (s::ρ)) fun r=>W (cK par as f r) k:=Qh
theorem Qod {par:Bool}{as:List (Option Nat)}{f:List D->Fr}{args dis:List D}{P:D->List D->Prop}(h2:Yp par ρ (as.filterMap id)=some dis)(h3:FW (f (Qhm as args dis)) P)(h4:∀d os,P d os->k (d,YA par ρ (as.filterMap id) os)):W (cK par as f (args,ρ)) k:=by
 obtain⟨d,os,e,p⟩:=h3
 refine⟨_,?_,h4 d os p⟩
 unfold cK
 rw[h2]
 show(match f (Qhm as args dis) with|.ok d outs=>_|.ex c=>_|.no=>_)=_
 rw[e]
theorem Qjo {par:Bool}{i:Nat}{f:List D->Fr}{p0 p:D}{P:D->List D->Prop}(hi:ρ[i]? = some (some (mkS par p)))(h3:FW (f [p]) P)(h4:∀d os,P d os->∃q,os=[q]/\k (d,ρ.set i (some (mkS par q)))):W (cK par [some i] f ([p0],ρ)) k:=by
 refine Qod (dis:=[p]) ?_ h3 fun d os h=>?_
 ·show Yp par ρ [i]=_
  unfold Yp Yp;rw[hi];cases par<;>rfl
 ·obtain⟨q,rfl,h5⟩:=h4 d os h;exact h5
theorem Jo {par:Bool}{i:Nat}{f:List D->Fr}{p0 p x:D}{P:D->List D->Prop}(hi:ρ[i]? = some (some (mkS par p)))(h3:FW (f [p,x]) P)(h4:∀d os,P d os->∃q,os=[q]/\k (d,ρ.set i (some (mkS par q)))):W (cK par [some i,none] f ([p0,x],ρ)) k:=by
 refine Qod (dis:=[p]) ?_ h3 fun d os h=>?_
 ·show Yp par ρ [i]=_
  unfold Yp Yp;rw[hi];cases par<;>rfl
 ·obtain⟨q,rfl,h5⟩:=h4 d os h;exact h5
theorem Qjp {rk:Kd}{f:List D->Fr}{P:D->List D->Prop}(h3:FW (f xs) P)(h4:∀d os,P d os->(rk=.V->d.imm=true)/\k (d,ρ)):W (clK rk f (xs,ρ)) k:=by
 obtain⟨d,os,e,p⟩:=h3
 refine⟨_,?_,(h4 d os p).2⟩
 unfold clK
 dsimp only
 rw[e]
 cases rk with
 |V=>show(if d.imm=true then _ else _)=_;rw[if_pos ((h4 d os p).1 rfl)]
 |O=>rfl
 |B=>rfl
 |S i=>rfl
def flK (tg:D->Rho->Option Rho)(mb:MS)(r:List D×Rho):Rs (Fl×Rho):=forL tg mb r.1 r.2
theorem Qqi {mi:MA}{tg:D->Rho->Option Rho}{mb:MS}:W (QqR mi tg mb (s::ρ)) kf↔W (mi (s::ρ)) fun r=>W (flK tg mb r) kf:=Qh
theorem Qa5 {tg:D->Rho->Option Rho}{mb:MS}{ds:List D}(Inv:Nat->Rho->Prop)(i:Inv 0 ρ)(step:∀i d ρ,ds[i]? = some d->Inv i ρ->∃ρ1,tg d ρ=some ρ1/\W (mb ρ1) fun r=>r.1=.nx/\Inv (i+1) r.2)
  (hk:∀ρ',Inv ds.length ρ'->kf (.nx,ρ')):W (flK tg mb (ds,ρ)) kf:=by
 have:=Qkf Inv step ds.length 0 ρ @9 (z67 _) i hk
 rw[zm4] at this
 exact this
def fnK (tg:D->Rho->Option Rho)(mb:MS)(ds:List D)(r:Fl×Rho):Rs (Fl×Rho):=match r.1 with
  |.nx=>forL tg mb ds r.2
  |.ct=>forL tg mb ds r.2
  |.bk=>.ok (.nx,r.2)
  |.rt d=>.ok (.rt d,r.2)
theorem Qoe {tg:D->Rho->Option Rho}{mb:MS}:fnK tg mb xs (.nx,ρ)=flK tg mb (xs,ρ):=rfl
theorem Qof {tg:D->Rho->Option Rho}{mb:MS}:fnK tg mb xs (.rt d,ρ)=.ok (.rt d,ρ):=rfl
def rgK (r:List D×Rho):Rs (List D×Rho):=(Rs.of (Qe5 r.1)).bind fun n=>.ok ((z63 n.toNat).map fun j=>.int ((0:Int)+(j:Nat)),r.2)
theorem Qog {n:Int}:rgK ([.int n],ρ)=if -4611686018427387904<=n/\n<4611686018427387904 then .ok ((z63 n.toNat).map fun j=>.int ((0:Int)+(j:Nat)),ρ) else .no:=by
 have e:(2:Int) ^ 62=4611686018427387904:=by decide
 show(Rs.of (if -(2 ^ 62)<=n/\n<2 ^ 62 then some n else none)).bind _=_
 rw[e]
 split<;>rfl
theorem Qls:liK ([.nd .tup xs],ρ)=if D.QI xs=true then .ok (.lst xs,ρ) else .no:=rfl
def spK (z:Str)(r2:List D×Rho):Rs (D×Rho):=(Rs.of (match r2.1 with|[.str y]=>if(y.length == 0)=false/\z.length+2<=z18/\(zc4 z y).length<=z18 then some (zc4 z y) else none|_=>none)).bind fun ys=>.ok (.lst (ys.map D.str),r2.2)
theorem Qkh {z y:Str}{ws:List Str}(h:zc4 z y=ws)(h1:(y.length == 0)=false)(h2:z.length+2<=z18)(h3:ws.length<=z18):spK z ([.str y],ρ)=.ok (.lst (ws.map D.str),ρ):=by
 show(Rs.of (if(y.length == 0)=false/\z.length+2<=z18/\(zc4 z y).length<=z18 then some (zc4 z y) else none)).bind _=_
 rw[h,if_pos ⟨h1,h2,h3⟩];rfl
theorem Yr:W (QhW m mr (s::ρ)) k↔W (m (s::ρ)) fun r1=>W (Rs.of (asS r1.1)) fun z=>W (mr r1.2) fun r2=>W (spK z r2) k:=by simp only[QhW,Qh,spK];try exact zx7
theorem Qoh:W (QgF mr (s::ρ)) ka↔W (mr (s::ρ)) fun r=>W (rgK r) ka:=Qh
def siK (r:D×Rho):Rs (List D×Rho):=(Rs.of (QgE [r.1])).bind fun ds=>.ok (ds,r.2)
theorem Qlt:siK (.nd .lst xs,ρ)=.ok (xs,ρ):=rfl
theorem Qlu:siK (.nd .tup xs,ρ)=.ok (xs,ρ):=rfl
theorem Qoi:W (Qce m (s::ρ)) ka↔W (m (s::ρ)) fun r=>W (siK r) ka:=Qh
def enK (r:List D×Rho):Rs (List D×Rho):=(Rs.of (QgE r.1)).bind fun ds=>.ok (Vf ds,r.2)
theorem Qh0:enK ([.nd .lst xs],ρ)=.ok (Vf xs,ρ):=rfl
theorem Qlv:enK ([.nd .tup xs],ρ)=.ok (Vf xs,ρ):=rfl
theorem Qoj:W (Qne mr (s::ρ)) ka↔W (mr (s::ρ)) fun r=>W (enK r) ka:=Qh
def stK (r:D×Rho):Rs (List D×Rho):=(Rs.of (asS r.1)).bind fun z=>.ok (signs z,r.2)
theorem VO {z:Str}:stK (.str z,ρ)=.ok (signs z,ρ):=rfl
theorem VP:W (Qn7 m (s::ρ)) ka↔W (m (s::ρ)) fun r=>W (stK r) ka:=Qh
def cmK (par:Bool)(cs:List Cp)(j:Nat)(tc:MT)(te:ME)(r:List D×Rho):Rs (D×Rho):=(Rs.of (Yp par r.2 @16)).bind fun di=>(Rs.of (QaS r.2 cs di)).bind fun ρb=>
 match Qa2 j tc te r.1 ρb [] with
 |.ok q=>(Rs.of (outs (ioB cs) q.2)).bind fun os=>.ok (.lst q.1,YA par r.2 @16 os)
 |_=>.no
theorem Qok {par:Bool}{cs:List Cp}{j:Nat}{mi:MA}{tc:MT}{te:ME}:W (Yq par cs j mi tc te (s::ρ)) k↔W (mi (s::ρ)) fun r=>W (cmK par cs j tc te r) k:=Qh
theorem Qlw {par:Bool}{cs:List Cp}{j:Nat}{tc:MT}{te:ME}{ρb:Rho}{ds di os:List D}{f:D->Bool}{g:D->D}(h2:Yp par ρ @16=some di)(h3:QaS ρ cs di=some ρb)
  (hs:∀d∈ds,∃ρ0,V7 ρb j d=some ρ0/\tc ρ0=.ok (f d,ρ0)/\(f d=true->te ρ0=.ok (g d,ρ0))/\ρ0.set j none=ρb) (l:ds.length<=z18) (ho:outs (ioB cs) ρb=some os) (hp:YA par ρ @16 os=ρ) (hk:k (.lst ((ds.filter f).map g),ρ)):W (cmK par cs j tc te (ds,ρ)) k:=by
 have:=QeA (par:=par) (cs:=cs) (j:=j) (mi:=fun ρ=>.ok (ds,ρ)) (ρ:=ρ) rfl h2 h3 hs l ho hp
 exact⟨_,this,hk⟩
theorem Qa6 {par:Bool}{cs:List Cp}{j:Nat}{te:ME}{ρb:Rho}{ds di os:List D}{g:D->D}(h2:Yp par ρ @16=some di)(h3:QaS ρ cs di=some ρb)
  (hs:∀d∈ds,∃ρ0,V7 ρb j d=some ρ0/\te ρ0=.ok (g d,ρ0)/\ρ0.set j none=ρb) (l:ds.length<=z18) (ho:outs (ioB cs) ρb=some os) (hp:YA par ρ @16 os=ρ) (hk:k (.lst (ds.map g),ρ)):W (cmK par cs j Qe7 te (ds,ρ)) k:=by
 have:=comp_map (par:=par) (cs:=cs) (j:=j) (mi:=fun ρ=>.ok (ds,ρ)) (ρ:=ρ) rfl h2 h3 hs l ho hp
 exact⟨_,this,hk⟩
theorem Qck {f:D->D->Option Bool}:∀{ds:List D},(∀d∈ds,f d d=some true)->Qbm f ds ds=some true
 | [],_=>rfl
 |d::ds,h=>by
  rw[Qbm,h d z07,Qck fun x hx=>h x (z08 _ hx)];rfl
def D.pln:Nat->D->Bool
 |0,_=>false
 |n+1,.nd .lst ds=>ds.all (D.pln n)
 |n+1,.nd .tup ds=>ds.all (D.pln n)
 |_+1,.int _=>true
 |_+1,.str _=>true
 |_+1,.bl _=>true
 |_+1,.non=>true
 |_,_=>false
theorem QbY:∀(n:Nat) (d:D),d.pln n=true->eqb n d d=some true
 |0,_,h=>by rw[D.pln] at h;cases h
 |n+1,.nd .lst ds,h=>by
  show(if ds.length=ds.length then Qbm (eqb n) ds ds else _)=_
  rw[if_pos rfl]
  exact Qck fun d hd=>QbY n d (z72.mp h d hd)
 |n+1,.nd .tup ds,h=>by
  show(if ds.length=ds.length then Qbm (eqb n) ds ds else _)=_
  rw[if_pos rfl]
  exact Qck fun d hd=>QbY n d (z72.mp h d hd)
 |n+1,.int i,_=>by show eqS (V.int i) (V.int i)=_;unfold eqS;rw[if_pos (by rfl)];simp
 |n+1,.str i,_=>by show eqS (V.str i) (V.str i)=_;unfold eqS;rw[if_pos (by rfl)];simp
 |n+1,.bl i,_=>by show eqS (V.bl i) (V.bl i)=_;unfold eqS;rw[if_pos (by cases i<;>rfl)];simp
 |n+1,.non,_=>by show eqS (V.non) (V.non)=_;unfold eqS;rw[if_pos (by rfl)];simp
 |n+1,.nd (.ins _ _) _,h=>by simp[D.pln] at h
 |n+1,.nd (.dT _) _,h=>by simp[D.pln] at h
 |n+1,.nd (.dK _) _,h=>by simp[D.pln] at h
 |n+1,.nd (.exc _) _,h=>by simp[D.pln] at h
 |n+1,.ty _,h=>by simp[D.pln] at h
 |n+1,.cls _,h=>by simp[D.pln] at h
theorem QdR {d:D}(h:d.pln 30=true):gEq d d=some (.bl true):=by
 show(eqb 30 d d).map _=_
 rw[QbY 30 d h];rfl
theorem QdS {d:D}(h:d.pln 30=true):gNe d d=some (.bl false):=by
 show(eqb 30 d d).map _=_
 rw[QbY 30 d h];rfl
end
section
variable {X:Cx}{C:Cn}{E:XE}{p pa pb:Bool}{o e a c:Expr}{es:List Expr}{m mo:ME}{mr:MA}{pos apos:Pos}{ka rk:Kd}{ks:List Kd}{n:Nat}{ps:List Str}{sp:Sp}{x nm f:Str}{t:TA}{ta:TE}{k:Addr}
def Qh1:List Str->List D->Str->Option D
 |n::ns,d::ds,f=>if(f == n)=true then some d else Qh1 ns ds f
 |_,_,_=>none
theorem QfR {K:z01}{F:Hp}:∀{ns:List Str} {vs:List L2.V} {ds:List D} {f:Str} {d:D},RL K F vs ds->Qh1 ns ds f=some d->∃v,(ns.zip vs).lookup f=some v/\R K F v d
 | [],_,_,_,_,_,h=>by cases h
 |_::_,_,_,_,_,.nil,h=>by cases h
 |n::ns,v::vs,d::ds,f,y,.cons r q,h=>by
  rw[z82,z65]
  rw[Qh1] at h
  by_cases e:(f == n)=true
  ·rw[if_pos e] at h;cases h
   rw[e];exact⟨v,rfl,r⟩
  ·rw[if_neg e] at h
   obtain⟨w,h1,h2⟩:=QfR q h
   have e':(f == n)=false:=by simpa using e
   rw[e'];exact⟨w,h1,h2⟩
def Qol (k:Addr)(f:Str):D->Option D
 |.nd (.ins k' ns) ds=>if k'=k then Qh1 ns ds f else none
 |_=>none
theorem Qlx {K:z01}{F:Hp}{v:L2.V}{d y:D}(r:R K F v d)(g:Qol k f d=some y):∃a dx fs w,v=.ref a/\F a=some (.ins k dx fs)/\fs.lookup f=some w/\R K F w y:=by
 unfold Qol at g
 split at g
 ·split at g
  ·rename_i hk
   subst hk
   obtain⟨a,vs,rfl,⟨hl,dx,ha,_⟩,rl⟩:=r.inv
   obtain⟨w,hw,rw'⟩:=QfR rl g
   exact⟨a,dx,_,w,rfl,ha,hw,rw'⟩
  ·cases g
 ·cases g
theorem Qda (c:Cls X.K k)(na:NoAttr X.K k f)(he:PE X e (tX .V C p E m))(hb:attributeBase e f X.env (eval e X.env)=eval e X.env:=by rfl):PE X (.Attribute e f pos) (tX .V C p E (mUn (Qol k f) m)):=Ql (pe_fld he hb) fun σ H Q ⟨F,ρ,τ,fp,I,h⟩=>
 ⟨F,ρ,τ,fp,I,h.split.mono fun r1 h1 F1 H1 fp1 v I1 n1 f1=>by
  obtain⟨z,ez,h3⟩:=h1.of
  obtain⟨res,eg,rfl⟩:=z03.mp ez
  obtain⟨a,dx,fs,w,rfl,ha,hw,rw'⟩:=Qlx f1 eg
  exact⟨a,k,dx,fs,w,rfl,I1.fh _ _ ha,c,na,hw,h3 F1 H1 fp1 w I1 n1 rw'⟩⟩
def Qh2 (C:Addr)(m:Str)(sp:Sp)(E:XE)(ta:TE)(t:TA):TE:=fun σ H Q=>ta σ H fun x H1=>∃a dx fs,x=.ref a/\H1 a=some (.ins C dx fs)/\fs.lookup m=none/\
 t σ H1 fun vs H2=>sp (x::vs) H2 Q (E σ)
theorem Qqj {pl:Sem Bool}(he:PE X o ta)(c:Cls X.K k)(D:QH X.prog X.w X.K X.mg X.base k n nm ps sp)(hx:Qav X E)(hr:Room n X.A)(ha:PA X (e::es) t)
  (hst:starEach (e::es) X.env=@15::starEach es X.env:=by rfl) (hpl:(backTo pos (starEach es X.env)).any (·.1)=false:=by rfl)
  (ht:eval (.Call (.Attribute o nm apos) (e::es) [] pos) X.env=(do
   let ov ← eval o X.env
   standAt apos.atName
   let (f,first) ← holding [ov] (getMethod ov nm pl)
   callWith pos f first (backTo pos (starEach (e::es) X.env)) (backToKw pos (keywordEach [] X.env))):=by rfl) :
  PE X (.Call (.Attribute o nm apos) (e::es) [] pos) (Qh2 k nm sp E ta t):=by
 obtain⟨f,fd,F,hm,hb⟩:=D.ex
 intro pins s σ H Q I h
 refine zs7 (pl:=pl) (thn (he pins s σ H _ I h) fun u s1 hz=>?_) ht
 obtain⟨x,H1,I1,rx,a,dx,fs,ex,ea,l,q⟩:=hz
 subst ex
 obtain rfl:u=z24 a:=rx
 refine getmeth_ok I1 ea c hm l ?_
 refine zm1 (first:=[.ref a]) (h₀:=X.base) I.ok.mod.kin hm.kp (thn (ha pos pins s1 σ H1 _ I1 q) fun us s2 hz=>?_) hst hpl
 obtain⟨vs,H2,I2,r,q2⟩:=hz
 refine⟨I2.kIn,?_⟩
 exact Qe6 (us:=.ref a::us) (vs:=.ref a::vs) F hr hb hx I2 (.cons rfl r) q2
theorem Qom {pl:Sem Bool}(he:PE X o ta)(c:Cls X.K k)(D:QH X.prog X.w X.K X.mg X.base k n nm ps sp)(hx:Qav X E)(hr:Room n X.A)
  (ht:eval (.Call (.Attribute o nm apos) [] [] pos) X.env=(do
   let ov ← eval o X.env
   standAt apos.atName
   let (f,first) ← holding [ov] (getMethod ov nm pl)
   callWith pos f first (backTo pos (starEach [] X.env)) (backToKw pos (keywordEach [] X.env))):=by rfl) :
  PE X (.Call (.Attribute o nm apos) [] [] pos) (Qh2 k nm sp E ta tNil):=by
 obtain⟨f,fd,F,hm,hb⟩:=D.ex
 intro pins s σ H Q I h
 refine zs7 (pl:=pl) (thn (he pins s σ H _ I h) fun u s1 hz=>?_) ht
 obtain⟨x,H1,I1,rx,a,dx,fs,ex,ea,l,q⟩:=hz
 subst ex
 obtain rfl:u=z24 a:=rx
 refine getmeth_ok I1 ea c hm l ?_
 exact PySem.W.callWith_K0 (first:=[.ref a]) I1.kIn hm.kp (Qe6 (us:=[.ref a]) (vs:=[.ref a]) F hr hb hx I1 (.cons rfl .nil) q)
def QeC (k:Addr)(nm:Str):D->Bool
 |.nd (.ins k' ns) _=>decide (k'=k) && ns.all (fun n=>!(nm == n))
 |_=>false
theorem Qjq {K:z01}{F:Hp}{v:L2.V}{d:D}(r:R K F v d)(g:QeC k nm d=true):∃a dx fs,v=.ref a/\F a=some (.ins k dx fs)/\fs.lookup nm=none:=by
 unfold QeC at g
 split at g
 ·rename_i k' ns ds
  obtain⟨g1,g2⟩:=z58.mp g
  have hk:k'=k:=of_decide_eq_true g1
  subst hk
  obtain⟨a,vs,rfl,⟨hl,dx,ha,_⟩,rl⟩:=r.inv
  refine⟨a,dx,_,rfl,ha,?_⟩
  clear ha hl rl g g1 r
  induction ns generalizing vs with
  |nil=>rfl
  |cons n ns ih=>
   obtain⟨h1,h2⟩:=z58.mp (show((!(nm == n)) && ns.all (fun n=>!(nm == n)))=true from g2)
   cases vs with
   |nil=>rfl
   |cons v vs=>
    rw[z82,z65]
    have:(nm == n)=false:=by simpa using h1
    rw[this]
    exact ih h2 vs
 ·cases g
def Qms (k:Addr)(nm:Str)(m:ME):ME:=fun ρ=>(m ρ).bind fun r=>if QeC k nm r.1=true then .ok r else .no
theorem QfS {f:List D->Fr}{io:List Bool}(hio:(false::io).all (!·)=true)(hl:io.length=ks.length)(hrk:rk=.V\/rk=.O)(ok:rdL (ka::ks)=true)(oka:ka.ona pb=true){σ:L2.St}{H:Hp}{Q:VK}(h:tX rk C (pa && pb) E (VM rk f (Q2 (Qms k nm mo) mr)) σ H Q) :
  Qh2 k nm (spF C.K (false::io) rk f) E (tX ka C pa E mo) (tA ks C pb E mr) σ H Q:=by
 have q:=Qeo (ks:=ka::ks) (pa:=pa && pb) hio (by rw[z30,z30,hl]) hrk ok h
 obtain⟨F,ρ,τ,fp,I,h⟩:=q
 refine⟨F,ρ,τ,fp,I,?_⟩
 have h':Run C E σ ((Qms k nm mo ρ).bind fun r=>(mr r.2).bind fun q=>.ok (r.1::q.1,q.2)) _:=h
 have h2:Run C E σ ((mo ρ).bind fun r=>if QeC k nm r.1=true then .ok r else .no) _:=h'.split
 refine h2.split.mono fun r0 h3 F1 H1 fp1 v I1 n1 f1=>?_
 by_cases hk:QeC k nm r0.1=true
 ·rw[if_pos hk] at h3
  have okr:ka.on true=true:=by
   cases ka with
   |V=>rfl
   |B=>rfl
   |O=>cases ok
   |S i=>cases ok
  have I1':=I1
  rw[Kd.JH okr] at I1'
  obtain⟨a,dx,fs,rfl,ha,hf⟩:=Qjq (R.top I1' (Kd.stay okr f1 .refl I1')) hk
  refine⟨a,dx,fs,rfl,ha,hf,F1,r0.2,τ,fp1,I1',h3.split.mono fun r2 h4 F2 H2 fp2 vs I2 n2 f2=>?_⟩
  have I2':SI C F2 H2 σ r2.2 (tkL (ka::ks) (.ref a::vs) (r0.1::r2.1) τ) fp2:=by
   show SI C F2 H2 σ r2.2 (tkL ks vs r2.1 (ka.tk (.ref a) r0.1 τ)) fp2
   rw[Kd.JH okr];exact I2
  exact h4 F2 H2 fp2 (.ref a::vs) I2' (n1.trans n2) (.cons (Kd.QmY oka f1 n2) f2)
 ·rw[if_neg hk] at h3;exact h3.elim
theorem x_m {pl:Sem Bool}{f:List D->Fr}{io:List Bool}(D:QH X.prog X.w X.K X.mg X.base k n nm ps (spF C.K (false::io) rk f))(c:Cls X.K k)(hx:Qav X E)(hr:Room n X.A)(ho:PE X o (tX ka C pa E mo))(ha:PA X (e::es) (tA ks C pb E mr))(hio:(false::io).all (!·)=true:=by rfl)(hl:io.length=ks.length:=by rfl)(hrk:rk=.V\/rk=.O:=by first|exact .inl rfl|exact .inr rfl)(ok:rdL (ka::ks)=true:=by rfl)(oka:ka.ona pb=true:=by rfl)
  (hst:starEach (e::es) X.env=@15::starEach es X.env:=by rfl) (hpl:(backTo pos (starEach es X.env)).any (·.1)=false:=by rfl)
  (ht:eval (.Call (.Attribute o nm apos) (e::es) [] pos) X.env=(do
   let ov ← eval o X.env
   standAt apos.atName
   let (f,first) ← holding [ov] (getMethod ov nm pl)
   callWith pos f first (backTo pos (starEach (e::es) X.env)) (backToKw pos (keywordEach [] X.env))):=by rfl) :
  PE X (.Call (.Attribute o nm apos) (e::es) [] pos) (tX rk C (pa && pb) E (VM rk f (Q2 (Qms k nm mo) mr))):=Ql (Qqj (pl:=pl) ho c D hx hr ha hst hpl ht) fun _ _ _ h=>QfS hio hl hrk ok oka h
theorem Qly {σ:L2.St}{H:Hp}{Q:List L2.V->Hp->Prop}(h:tA [] C true E QcT σ H Q):tNil σ H Q:=by
 obtain⟨F,ρ,τ,fp,I,h⟩:=h
 exact h F H fp [] I .refl .nil
theorem Qlz {pl:Sem Bool}{f:List D->Fr}(D:QH X.prog X.w X.K X.mg X.base k n nm ps (spF C.K [false] rk f))(c:Cls X.K k)(hx:Qav X E)(hr:Room n X.A)(ho:PE X o (tX ka C pa E mo))(hrk:rk=.V\/rk=.O:=by first|exact .inl rfl|exact .inr rfl)(ok:rdL [ka]=true:=by rfl)(oka:ka.ona true=true:=by rfl)
  (ht:eval (.Call (.Attribute o nm apos) [] [] pos) X.env=(do
   let ov ← eval o X.env
   standAt apos.atName
   let (f,first) ← holding [ov] (getMethod ov nm pl)
   callWith pos f first (backTo pos (starEach [] X.env)) (backToKw pos (keywordEach [] X.env))):=by rfl) :
  PE X (.Call (.Attribute o nm apos) [] [] pos) (tX rk C (pa && true) E (VM rk f (Q2 (Qms k nm mo) QcT))):=Ql (Qom (pl:=pl) ho c D hx hr ht) fun σ H Q h=>by
 have q:=QfS (io:=[]) (ks:=[]) (pb:=true) rfl rfl hrk ok oka h
 obtain⟨F,ρ,τ,fp,I,q⟩:=q
 exact⟨F,ρ,τ,fp,I,q.mono fun r z F1 H1 fp1 v I1 n1 f1=>by
  obtain⟨a,dx,fs,h1,h2,h3,h4⟩:=z F1 H1 fp1 v I1 n1 f1
  exact⟨a,dx,fs,h1,h2,h3,Qly h4⟩⟩
end
def spI (K:z01)(k:Addr)(m:Addr->D->Fr):Sp:=fun vs H Q E=>∃x dx v,vs=[.ref x,v]/\H x=some (.ins k dx [])/\H dx=some (.own x)/\∃F d,R K F v d/\Same F H/\F x=none/\match m x d with
 |.ok r _=>∀F' H' ns us ds,r=.nd (.ins k ns) ds->Same F F'->Same F' H'->F' x=none->(∀b o,F' b=some o->F b=some o\/Nw H b o)->(∀b o,b≠x->H b=some o->H' b=some o)->(∀b,H' b=none->H b=none)->RL K F' us ds->ns.length=us.length->H' x=some (.ins k dx (ns.zip us))->Q .non H'
 |.ex c=>∀H',(∀b o,b≠x->H b=some o->H' b=some o)->(∀b,H' b=none->H b=none)->E (.ref c) none H'
 |.no=>False
open Classical in
noncomputable def Qki (f:Addr->D->Fr)(d:D):Fr:=if ∀x,f x d=f 0 d then f 0 d else .no
theorem QlA {f:Addr->D->Fr}{d:D}{r:Fr}(h:∀x,f x d=r):Qki f d=r:=by
 unfold Qki
 rw[if_pos fun x=>(h x).trans (h 0).symm]
 exact h 0
theorem Qh3 {f:Addr->D->Fr}{d:D}(h:Qki f d≠.no):∀x,f x d=Qki f d:=by
 unfold Qki at h ⊢
 by_cases c:∀x,f x d=f 0 d
 ·rw[if_pos c];exact c
 ·rw[if_neg c] at h;exact absurd rfl h
def Qq8:List D->Option D
 | [d]=>some d
 |_=>none
def QgH (k:Addr):D->Bool
 |.nd (.ins k' ns) ds=>decide (k'=k) && ns.length == ds.length
 |_=>false
noncomputable def Qmt (k:Addr)(f:Addr->D->Fr)(mr:MA):ME:=fun ρ=>(mr ρ).bind fun r=>(Rs.of (Qq8 r.1)).bind fun d=>match Qki f d with
 |.ok i _=>if(QgH k i && i.imm)=true then .ok (i,r.2) else .no
 |.ex c=>.ex c r.2
 |.no=>.no
def Qkj (k:Addr)(sp:Sp)(E:XE)(t:TA):TE:=fun σ H Q=>t σ H fun vs H1=>∀x dx,H1 x=none->H1 dx=none->dx≠x->
 sp (.ref x::vs) (upd (upd H1 dx (.own x)) x (.ins k dx [])) (fun v H2=>v=.non/\Q (.ref x) H2) (E σ)
section
variable {X:Cx}{C:Cn}{E:XE}{pa:Bool}{o e a b c:Expr}{es:List Expr}{mr:MA}{pos px:Pos}{ks:List Kd}{n:Nat}{ps:List Str}{sp:Sp}{x f:Str}{t:TA}{k:Addr}
theorem Qh4 {f:Addr}{fd:FuncData}{pins:List @12}{σ:L2.St}{H:Hp}{s:Shared}{Q:VK}{us:List Value}{vs:List L2.V}(M:Mk X.K k f)(F:FnOk X.prog X.w X.K X.mg X.base (CXe X.prog X.w) n f fd ps sp)(hr:Room (n+1) X.A)(hb:Binds X.K fd ps [])
  (hx:Qav X E) (I:Inv X pins σ H s) (r:Vals vs us)
  (h:∀x dx,H x=none->H dx=none->dx≠x->sp (.ref x::vs) (upd (upd H dx (.own x)) x (.ins k dx [])) (fun v H2=>v=.non/\Q (.ref x) H2) (E σ)) :
  wpAny @7 X.A (call (.ref k) us) (EP X pins σ Q) X.xe s:=by
 have hq:=h @14 s.heap.objs.size (I.hok.fresh (z93 _)) (I.hok.fresh (z32 _)) (z37 (zq4 _))
 have I2:=Inv.made (C:=k) I
 have r2:Vals (L2.V.ref @14::vs) (z24 @14::us):=.cons rfl r
 have hl:(z24 @14::us++[]).length=ps.length:=by
  have e:=r2.length
  rw[F.len _ _ _ _ hq] at e
  rw[z71]
  exact e.symm
 have hb':=hb _ (z24 @14::us) I2.kIn hl
 rw[z71] at hb'
 refine wpAny_call (make_map (f:=f) I.kIn M.makes M.init (beq_iff_eq.mp M.fn) (zn3 (F.run _ X.stack _ _ ⟨z24 @14::us,[]⟩ (z24 @14::us) _ _ (E σ) (hr.make k us []) (I2.env0.make k us []) hb' r2 hq) fun r s' hq'=>?_))
 cases r with
 |error e=>exact hx pins σ _ _ e s' I2 hq'
 |ok fl=>
  cases fl with
  |ret u=>
   obtain⟨v,H',I3,rv,ev,q3⟩:=I2.after hq'
   subst ev
   exact⟨rv,⟨L2.V.ref @14,H',I3,rfl,q3⟩⟩
  |next=>exact zb7 hq'
  |brk=>exact zb7 hq'
  |cont=>exact zb7 hq'
theorem QlB (D:Qar X.prog X.w X.K X.mg X.base k n x ps sp)(hx:Qav X E)(hr:Room (n+1) X.A)(ha:PA X (e::es) t)(hg:Gl X x:=by rfl)
  (hdb:@6=false:=by decide) (he:starEach (e::es) X.env=@15::starEach es X.env:=by rfl) (hpl:(backTo pos (starEach es X.env)).any (·.1)=false:=by rfl) :
  PE X (.Call (.Name x px) (e::es) [] pos) (Qkj k sp E t):=by
 obtain⟨f,fd,F,M,hm,hb⟩:=D.ex
 intro pins s σ H Q I h
 refine z76 (ld_glob I hg hm ?_ hdb)
 refine zm1 (h₀:=X.base) I.ok.mod.kin M.kp (thn (ha pos pins s σ H _ I h) fun us s1 hz=>?_) he hpl
 obtain⟨vs,H1,I1,r,q⟩:=hz
 refine⟨I1.kIn,?_⟩
 exact Qh4 M F hr hb hx I1 r q
theorem Qjr {f:Addr->D->Fr}(ok:rdL ks=true){σ:L2.St}{H:Hp}{Q:VK}(h:tX .V C pa E (Qmt k f mr) σ H Q):Qkj k (spI C.K k f) E (tA ks C pa E mr) σ H Q:=by
 obtain⟨F,ρ,τ,fp,I,h⟩:=h
 refine⟨F,ρ,τ,fp,I,h.split.mono fun r hr F1 H1 fp1 vs I1 n1 f1=>?_⟩
 rw[JD ok] at I1
 have rl:=f1.rd I1 ok
 obtain⟨d,ed,h2⟩:=hr.split.of
 have e1:r.1=[d]:=by
  unfold Qq8 at ed
  split at ed
  ·rename_i q;cases ed;exact q
  ·cases ed
 rw[e1] at rl
 obtain⟨v,rfl,rv⟩:=rl.one
 intro x dx hx hdx ne
 have up:Same H1 (upd (upd H1 dx (.own x)) x (.ins k dx [])):=(Same.upd hdx).trans (Same.upd (by rw[upd_ne (zd8 ne)];exact hx))
 have kx:∀b o,H1 b=some o->b≠x/\b≠dx:=fun b o e=>⟨ne_of_none e hx,ne_of_none e hdx⟩
 have up0:∀b,upd (upd H1 dx (.own x)) x (.ins k dx []) b=none->H1 b=none:=fun b e=>up.free e
 refine⟨x,dx,v,rfl,upd_same,by rw[upd_ne ne,upd_same],jn F1 H1 fp1,d,rv,(Yd I1.fh).trans up,(Yd I1.fh).free hx,?_⟩
 have hmt:∀{F':Hp},Same (jn F1 H1 fp1) F'->∀b∈fp1,∀o,F' b=some o->Mbl o:=fun{F'} s b hb o e=>by
  obtain⟨o',e',z⟩:=I1.mem b hb
  have q:=s b o' (by rw[JB hb];exact e')
  rw[e] at q;cases q
  exact z
 cases ef:Qki f d with
 |no=>rw[ef] at h2;exact h2.elim
 |ex c=>
  rw[ef] at h2
  rw[Qh3 (f:=f) (d:=d) (by rw[ef];exact fun z=>nomatch z) x,ef]
  dsimp only at h2 ⊢
  intro H' kp' dm'
  have kp1:∀b o,H1 b=some o->H' b=some o:=fun b o e=>kp' b o (kx b o e).1 (up b o e)
  have J:SI C F1 H' σ r.2 τ fp1:=I1.step (Same.refl _) (fun b o e=>kp1 b o (I1.fh b o e)) (fun a ha=>by
   obtain⟨o,e,_⟩:=I1.mem a ha
   rw[e,kp1 a o e]) I1.ap (fun _ _ z=>.inl z) (fun b o _ _ e=>kp1 b o e) (fun b e=>up0 b (dm' b e))
  obtain⟨fp2,J2⟩:=J.drop
  exact h2 F1 H' fp2 J2
 |ok i os=>
  rw[ef] at h2
  rw[Qh3 (f:=f) (d:=d) (by rw[ef];exact fun z=>nomatch z) x,ef]
  dsimp only at h2 ⊢
  intro F' H' ns us ds er sF fh' fx fn' kp' dm' rl' hlen hx'
  subst er
  refine⟨rfl,?_⟩
  by_cases ci:(QgH k (.nd (.ins k ns) ds) && (D.nd (.ins k ns) ds).imm)=true
  ·rw[if_pos ci] at h2
   obtain⟨_,im⟩:=z58.mp ci
   have kp1:∀b o,H1 b=some o->H' b=some o:=fun b o e=>kp' b o (kx b o e).1 (up b o e)
   have Qq9:H' dx=some (.own x):=kp' dx _ ne (by rw[upd_ne ne,upd_same])
   have sN:Same F1 (lo F' fp1):=fun b o e=>by
    have nb:b∉fp1:=fun z=>by rw[I1.ap b z] at e;cases e
    rw[Yz nb]
    exact sF b o (by rw[QG nb];exact e)
   have nx:∀a∈fp1,a≠x/\a≠dx:=fun a ha=>by
    obtain⟨o,e,_⟩:=I1.mem a ha
    exact kx a o e
   let G:Hp:=upd (upd (lo F' fp1) dx (.own x)) x (.ins k dx (ns.zip us))
   have sG:Same (lo F' fp1) G:=fun b o e=>by
    have e2:F' b=some o:=lo_le b o e
    have nb:b≠x:=fun z=>by subst z;rw[fx] at e2;cases e2
    show upd (upd (lo F' fp1) dx (.own x)) x _ b=_
    rw[upd_ne nb]
    by_cases hd:b=dx
    ·subst hd
     rw[upd_same]
     have:=fh' b o e2
     rw[Qq9] at this
     exact this
    ·rw[upd_ne hd];exact e
   have GH:Same G H':=fun b o e=>by
    have e:upd (upd (lo F' fp1) dx (.own x)) x (.ins k dx (ns.zip us)) b=some o:=e
    by_cases hb:b=x
    ·subst hb;rw[upd_same] at e;rw[hx'];exact e
    ·rw[upd_ne hb] at e
     by_cases hd:b=dx
     ·subst hd;rw[upd_same] at e;rw[Qq9];exact e
     ·rw[upd_ne hd] at e;exact fh' b o (lo_le b o e)
   have J:SI C G H' σ r.2 τ fp1:=by
    refine I1.step (sN.trans sG) GH (fun a ha=>?_) (fun a ha=>?_) (fun b o e=>?_) (fun b o _ _ e=>kp1 b o e) (fun b e=>up0 b (dm' b e))
    ·obtain⟨o,e,_⟩:=I1.mem a ha
     rw[e,kp1 a o e]
    ·show upd (upd (lo F' fp1) dx (.own x)) x _ a=none
     rw[upd_ne (nx a ha).1,upd_ne (nx a ha).2];exact Qej ha
    ·have e:upd (upd (lo F' fp1) dx (.own x)) x (.ins k dx (ns.zip us)) b=some o:=e
     by_cases hb:b=x
     ·subst hb;exact .inr (.inl (I1.dm _ hx))
     ·rw[upd_ne hb] at e
      by_cases hd:b=dx
      ·subst hd;exact .inr (.inl (I1.dm _ hdx))
      ·rw[upd_ne hd] at e
       have nb:b∉fp1:=fun z=>by rw[Qej z] at e;cases e
       rw[Yz nb] at e
       rcases fn' b o e with z|z
       ·rw[QG nb] at z;exact .inl z
       ·exact .inr (z.up fun y=>I1.dm b (up0 b y))
   have rd:R C.K G (.ref x) (.nd (.ins k ns) ds):=by
    refine .nd (t:=.ins k ns) ⟨hlen,dx,upd_same,?_⟩ ((RL.lo (hmt sF) rl' (Qb5 im).2).same sG)
    show upd (upd (lo F' fp1) dx (.own x)) x _ dx=_
    rw[upd_ne ne,upd_same]
   refine h2 G H' fp1 (.ref x) J ((n1.trans (q:=true) ⟨sN.trans sG,fun _ b o e=>?_⟩).weak fun z=>by simp[z]) rd
   by_cases hb:b∈fp1
   ·rw[JB hb] at e
    rw[JB hb]
    exact kp1 b o e
   ·rw[QG hb] at e
    rw[QG hb]
    exact(sN.trans sG) b o e
  ·rw[if_neg ci] at h2;exact h2.elim
theorem Qjs {f:Addr->D->Fr}(D:Qar X.prog X.w X.K X.mg X.base k n x ps (spI C.K k f))(hx:Qav X E)(hr:Room (n+1) X.A)(ha:PA X (e::es) (tA ks C pa E mr))(ok:rdL ks=true:=by rfl)(hg:Gl X x:=by rfl)
  (hdb:@6=false:=by decide) (he:starEach (e::es) X.env=@15::starEach es X.env:=by rfl) (hpl:(backTo pos (starEach es X.env)).any (·.1)=false:=by rfl) :
  PE X (.Call (.Name x px) (e::es) [] pos) (tX .V C pa E (Qmt k f mr)):=Ql (QlB D hx hr ha hg hdb he hpl) fun _ _ _ h=>Qjr ok h
end
def selfAt:Option (Option Sl)->Option Addr
 |some (some (.frz (.cls y)))=>some y
 |_=>none
def Qdb (x:Addr)(ρ:Rho):Bool:=decide (selfAt ρ[0]? = some x)
theorem Qh5 {x:Addr}{ρ:Rho}(h:Qdb x ρ=true):ρ[0]? = some (some (.frz (.cls x))):=by
 have h:selfAt ρ[0]? = some x:=of_decide_eq_true h
 unfold selfAt at h
 split at h
 ·next e=>rw[e,z35 h]
 ·cases h
def Qon (k:Addr)(n:Nat)(f:Str)(me:ME)(x:Addr)(d:D):Fr:=match me (Qji [false,false] n [.cls x,d]) with
 |.ok (r,ρ)=>if Qdb x ρ=true then .ok (.nd (.ins k [f]) [r]) [] else .no
 |.ex c _=>.ex c
 |.no=>.no
def QlC (ms:MS)(me:ME):ME:=fun ρ=>(ms ρ).bind fun r=>match r.1 with
 |.nx=>me r.2
 |_=>.no
def Qpi (C:Cn)(E:XE)(f:Str)(x:Addr)(me:ME):TS:=fun D σ H=>∃F ρ fp,SI C F H σ ρ [] fp/\Qem C E (me ρ) fun r=>Qdb x r.2=true/\∀F' H' σ' fp' v,Same F F'->SI C F' H' σ' r.2 [] fp'->R C.K F' v r.1->∃k dx,H' x=some (.ins k dx [])/\Cls C.K k/\NoAttr C.K k f/\D.nx σ' (upd H' x (.ins k dx [(f,v)]))
section
variable {X:Cx}{C:Cn}{E:XE}{p:Bool}{e:Expr}{me:ME}{ms:MS}{pos p1 p2:Pos}{f:Str}{x:Addr}{st:Stmt}{rest:List Stmt}
theorem Qqk (hK:C.K=X.K)(hN:X.N[0]? = some ("self" : Str))(hv:Vis X.env.scope "self")(he:PE X e (tX .V C p E me))(hs:swapsWith e (some (.Attribute (.Name "self" p1) f p2)) pos.line X.env=pure false:=by rfl):PSs X [.Assign [.Attribute (.Name "self" p1) f p2] e pos] (Qpi C E f x me):=
 QbW (pss_one (ps_fld (pe_var hN hv @3 @3) he hs)) fun D σ H ⟨F,ρ,fp,I,h⟩=>by
  refine⟨F,ρ,[],fp,I,h.run.mono fun r ⟨h1,h2⟩ F1 H1 fp1 v I1 n1 f1=>?_⟩
  have e0:=Qh5 h1
  obtain⟨y,f0,g0,rest,ey,s1,_⟩:=I1.cut e0
  cases s1 with
  |frz hr=>
   obtain rfl:=hr.Qu (w:=.ref x) rfl
   obtain⟨k,dx,a1,a2,a3,a4⟩:=h2 F1 H1 σ fp1 v n1.f I1 f1
   exact⟨_,ey,x,k,dx,[],rfl,a1,hK▸a2,hK▸a3,by decide,a4⟩
theorem Qkk (h1:PS X st (tS .V C E ms))(h2:PSs X rest (Qpi C E f x me)):PSs X (st::rest) (Qpi C E f x (QlC ms me)):=QbW (pss_cons h1 h2) fun D σ H ⟨F,ρ,fp,I,h⟩=>by
 refine⟨F,ρ,fp,I,h.split.mono fun r hr=>?_⟩
 obtain⟨fl,ρ1⟩:=r
 cases fl with
 |nx=>exact fun F1 H1 σ1 fp1 s1 I1=>⟨F1,ρ1,fp1,I1,hr.mono fun q z=>⟨z.1,fun F' H' σ' fp' v s2=>z.2 F' H' σ' fp' v (s1.trans s2)⟩⟩
 |rt d=>exact hr.elim
 |bk=>exact hr.elim
 |ct=>exact hr.elim
end
theorem fnI {P:Program}{w:World}{K:z01}{mg:Str->Option Value}{base:Heap}{x qual y fl:Str}{st:Stmt}{f k:Addr}{fd:FuncData}{N:List Str}{n:Nat}{me:ME}(Fn:Fun K x qual st f fd)(S:FnScope N ["self",y] (defScope st))(c:Cls K k)(na:NoAttr K k fl)
  (hbody:∀(cdv:Value) (A:Around) (outer:List Env) (s:Shared) (H:Hp) (E:XK) (C:Cn) (x:Addr),C.K=K->Room n (A.deeper (zd3 qual (defScope st) s.heap.objs.size f cdv))->A.handled=none->
   PSs (cxOf (CXe P w) P w K mg base N qual (defScope st) f cdv A outer s H E) (defBody st) (Qpi C (fun _=>E) fl x me)):FnOk P w K mg base (CXe P w) (n+1) f fd ["self",y] (spI K k (Qon k N.length fl me)):=by
 refine Fn.okE S (fun vs H Q E h=>?_) (fun cdv A outer s H vs Q E hr hd h=>?_)
 ·obtain⟨_,_,_,rfl,_⟩:=h;rfl
 ·obtain⟨x,dx,v,rfl,hx,hdx,F,d,rv,fh,fx,h⟩:=h
  let C:Cn:=⟨K,H,F,[],[]⟩
  refine⟨_,hbody cdv A outer s H E C x rfl hr hd,?_⟩
  have al:AL K F H [false,false] [.ref x,v] [.cls x,d] []:=.val (.sc rfl) (.val rv .nil)
  have I:SI C F H (L2.start N [.ref x,v]) (Qji [false,false] N.length [.cls x,d]) [] []:=by
   refine⟨⟨[],[],[],QfI (N:=N) (r:=N.length - 2) al,.nil,.refl _,@5,@5,@5⟩,za2,@5,fh,Same.refl F,fun b o e=>.inl e,fun b o e _=>e,fun b e=>e,fun j v hj=>nomatch hj⟩
  refine⟨F,_,[],I,?_⟩
  unfold Qon at h
  cases em:me (Qji [false,false] N.length [.cls x,d]) with
  |no=>rw[em] at h;exact h.elim
  |ex c ρ=>
   rw[em] at h
   exact fun F' H' σ' fp' J=>h H' (fun b o _ e=>J.kp b o e (by simp[C])) J.dm
  |ok q=>
   obtain⟨r,ρ⟩:=q
   rw[em] at h
   dsimp only at h
   by_cases hs:Qdb x ρ=true
   ·rw[if_pos hs] at h
    refine⟨hs,fun F' H' σ' fp' u s' J ru=>?_⟩
    have hx':H' x=some (.ins k dx []):=J.kp x _ hx (by simp[C])
    refine⟨k,dx,hx',c,na,?_⟩
    have fx':F' x=none:=by
     cases e:F' x with
     |none=>rfl
     |some o=>
      rcases J.fn x o e with z|z
      ·have z:F x=some o:=z
       rw[fx] at z;cases z
      ·rcases z with z|z
       ·have z:H x=none:=z
        rw[hx] at z;cases z
       ·have e3:=J.fh x o e
        rw[hx'] at e3;cases e3;exact z.elim
    refine h F' _ [fl] [u] [r] rfl J.f0 (fun b o e=>?_) fx' J.fn (fun b o hb e=>?_) (fun b e=>?_) (.cons ru .nil) rfl upd_same
    ·by_cases hb:b=x
     ·subst hb;rw[fx'] at e;cases e
     ·rw[upd_ne hb];exact J.fh b o e
    ·rw[upd_ne hb];exact J.kp b o e (by simp[C])
    ·by_cases hb:b=x
     ·subst hb;rw[upd_same] at e;cases e
     ·rw[upd_ne hb] at e;exact J.dm b e
   ·rw[if_neg hs] at h;exact h.elim
section
variable {X:Cx}{C:Cn}{E:XE}{p pa:Bool}{o e a b c:Expr}{es:List Expr}{m:ME}{mr:MA}{pos apos cpos px np:Pos}{rk:Kd}{ks:List Kd}{n:Nat}{ps:List Str}{x f:Str}{t:TA}
def Qql (i:Nat):ME:=fun ρ=>(Rs.of (VJ ρ i)).bind fun q=>(Rs.of (q.2[q.2.length - 1]?)).bind fun d=>if D.QI q.2=true then .ok (d,ρ.set i (some (mkS q.1 (.lst q.2.dropLast)))) else .no
theorem RL.dropLast {K:z01}{F:Hp}{vs:List L2.V}{ds:List D}(r:RL K F vs ds):RL K F vs.dropLast ds.dropLast:=by
 rw[zu9,zu9,r.length]
 exact r.take _
theorem QdT {ds:List D}(h:D.QI ds=true):D.QI ds.dropLast=true:=Qb6 fun d hd=>VA h d (List.dropLast_subset _ hd)
theorem Qoo {i:Nat}(hN:X.N[i]? = some x)(hv:Vis X.env.scope x)(hbase:attributeBase (.Name x np) "pop" X.env (eval (.Name x np) X.env)=eval (.Name x np) X.env:=by rfl)(hline:(apos.endLine == cpos.line)=true:=by rfl)(hd:@6=false:=by decide)(hcd:(x == ("__classdict__" : Str))=false:=by decide) :
  PE X (.Call (.Attribute (.Name x np) "pop" apos) [] [] cpos) (tX .V C false E (Qql i)):=
 Ql (pe_bm0 zf1 PySem.F.slot_list_pop PySem.F.type_list_pop mt_pop (pe_var hN hv hd hcd) hbase hline) fun σ H Q ⟨F,ρ,τ,fp,I,h⟩=>by
  obtain⟨q,eq,h⟩:=h.split.of
  obtain⟨d,ed,h⟩:=h.split.of
  obtain⟨l,vs,f,rest,ex,hl,ol,pm,w,cl⟩:=I.Qew (JI eq)
  by_cases hi:D.QI q.2=true
  ·rw[if_pos hi] at h
   have rl:=ol.rl hi
   have ef:f=[]:=ol.Qpb hi
   subst ef
   obtain⟨v,ev,rv⟩:=rl.get ed
   refine⟨_,ex,.inl ⟨rfl,vs,SqL.of hl⟩,l,vs,v,rfl,rfl,hl,by rw[rl.length];exact ev,?_⟩
   have J:=cl (f':=[]) (rl.dropLast.o (QdT hi)) (pm.nodup_iff.mp I.nd) @5
   exact h F _ _ v J ⟨Same.refl _,fun z=>nomatch z⟩ rv
  ·rw[if_neg hi] at h;exact h.elim
def QlD:L2.V->List L2.V->Hp->VK->Prop:=fun x vs H Q=>∃l xs i y,x=.ref l/\vs=[.int i,y]/\H l=some (.lst xs)/\0<=i/\i<=xs.length/\xs.length<z18/\Q .non (upd H l (.lst (xs.take i.toNat++y::xs.drop i.toNat)))
theorem Qh6:MtM X "list.insert" QlD:=by
 intro pins s σ H x vs v us Q I rx rv h
 obtain⟨l,xs,i,y,rfl,rfl,hH,h0,h1,hz,q⟩:=h
 cases rx
 obtain⟨u,u2,rfl,⟨t,rfl⟩,ru⟩:=Vals.two rv
 obtain⟨z,its,n,r,hl,e⟩:=I.lstM hH
 have hfit:zn9 i=true:=fitsIndex_both @1 (by rw[z34] at hz;lia)
 refine call_meets F.slot_list_insert ⟨_,e,rfl⟩ F.entry_list_insert (F.args_list_insert_3 _ _ _) (AutoSeq1.list_insert_list_int_val_1 l its.toArray n i t u2 (by rw[hfit];decide) (by rw[z16];lia)) ⟨e,?_⟩
 refine⟨.non,_,I.lset (its':=its.take i.toNat++u2::its.drop i.toNat) hH e ?_ ((r.take _).append (.cons ru (r.drop _))) ?_,rfl,q⟩
 ·have hk:(if i<0 then(i+(its.toArray.size:Int)).toNat else min i.toNat its.toArray.size)=i.toNat:=by
   rw[if_neg @1,z16];lia
  show(its.toArray.extract 0 (if i<0 then(i+(its.toArray.size:Int)).toNat else min i.toNat its.toArray.size)).push u2++its.toArray.extract (if i<0 then(i+(its.toArray.size:Int)).toNat else min i.toNat its.toArray.size)=_
  rw[hk]
  apply zz5.mp
  simp[List.extract_eq_take_drop,zu0]
 ·simp only[z49,za7,z30,ze6];lia
def Qqm:List D->Option (Int×D)
 | [.int j,d]=>some (j,d)
 |_=>none
theorem QlE {ds:List D}{q:Int×D}(h:Qqm ds=some q):ds=[.int q.1,q.2]:=by
 unfold Qqm at h
 split at h
 ·cases h;rfl
 ·cases h
def Qpj (i:Nat)(mr:MA):MS:=fun ρ=>(Rs.of (VJ ρ i)).bind fun _=>(mr ρ).bind fun r=>(Rs.of (Qqm r.1)).bind fun y=>(Rs.of (VJ r.2 i)).bind fun q=>
 if 0<=y.1/\y.1<=q.2.length/\q.2.length<z18/\(D.QI q.2 && y.2.imm)=true then .ok (.nx,r.2.set i (some (mkS q.1 (.lst (q.2.take y.1.toNat++y.2::q.2.drop y.1.toNat))))) else .no
theorem Qqn {i:Nat}(hN:X.N[i]? = some x)(hv:Vis X.env.scope x)(ha:PA X [a,e] (tA ks C p E mr))(ok:knL ks=true:=by rfl)(hs:swapsWith (.Call (.Attribute (.Name x np) "insert" apos) [a,e] [] cpos) none pos.line X.env=pure false:=by rfl)
  (hbase:attributeBase (.Name x np) "insert" X.env (eval (.Name x np) X.env)=eval (.Name x np) X.env:=by rfl) (hfew:((backTo cpos (starEach [a,e] X.env)).all (fun x=>!x.1) && (backToKw cpos (keywordEach [] X.env)).all (fun x=>x.1.isSome) && decide ([a,e].length+([]:List Keyword).length+(if([]:List Keyword).isEmpty then 0 else 1)<30))=true:=by rfl)
  (hline:(apos.endLine == cpos.line)=true:=by rfl) (hst:starEach [a,e] X.env=(false,eval a X.env)::starEach [e] X.env:=by rfl) (hplain:(backTo cpos (starEach [e] X.env)).any (·.1)=false:=by rfl) (hd:@6=false:=by decide) (hcd:(x == ("__classdict__" : Str))=false:=by decide) :
  PS X (.Expr (.Call (.Attribute (.Name x np) "insert" apos) [a,e] [] cpos) pos) (tS rk C E (Qpj i mr)):=
 QT (ps_expr (pe_bm zf1 PySem.F.slot_list_insert PySem.F.type_list_insert Qh6 (pe_var hN hv hd hcd) ha hbase hfew hline hst hplain) hs) fun DD σ H ⟨F,ρ,fp,I,h⟩=>by
 obtain⟨q0,e0,h⟩:=h.split.of
 obtain⟨l0,vs0,f0,Qe3,ex0,hl0,_⟩:=I.Qci (JI e0)
 refine⟨_,ex0,.inl ⟨rfl,vs0,SqL.of hl0⟩,F,ρ,[],fp,I,h.split.run.mono fun r hr F1 H1 fp1 vs1 I1 n1 f1=>?_⟩
 rw[JD (YL ok)] at I1
 have rl1:=f1.kn ok
 obtain⟨y,ey,h2⟩:=hr.split.of
 obtain⟨q,eq,h3⟩:=h2.split.of
 rw[QlE ey] at rl1
 obtain⟨u1,u2,rfl,ru1,ru2⟩:=rl1.two
 obtain rfl:=R.int ru1
 obtain⟨l,vs,f,rest,ex,hl,ol,pm,w,cl⟩:=I1.Qew (JI eq)
 have el:l=l0:=by rw[ex0] at ex;cases ex;rfl
 subst el
 by_cases hz:0<=y.1/\y.1<=q.2.length/\q.2.length<z18/\(D.QI q.2 && y.2.imm)=true
 ·rw[if_pos hz] at h3
  obtain⟨z0,z1,z2,z3⟩:=hz
  obtain⟨i1,i2⟩:=z58.mp z3
  have rl:=ol.rl i1
  have ef:f=[]:=ol.Qpb i1
  subst ef
  refine⟨l,vs,y.1,u2,rfl,rfl,hl,z0,by rw[rl.length];exact z1,by rw[rl.length];exact z2,?_⟩
  have rl':RL C.K F1 (vs.take y.1.toNat++u2::vs.drop y.1.toNat) (q.2.take y.1.toNat++y.2::q.2.drop y.1.toNat):=(rl.take _).app (.cons ru2 (rl.drop _))
  have im':D.QI (q.2.take y.1.toNat++y.2::q.2.drop y.1.toNat)=true:=Qb6 fun d hd=>by
   rcases z14.mp hd with hd|hd
   ·exact VA i1 d (zw1 hd)
   ·rcases z19.mp hd with rfl|hd
    ·exact i2
    ·exact VA i1 d (zl9 hd)
  exact h3 F1 _ σ _ n1.f (cl (f':=[]) (rl'.o im') (pm.nodup_iff.mp I1.nd) @5)
 ·rw[if_neg hz] at h3;exact h3.elim
def QrI (tg:D->Rho->Option Rho)(m:ME):MS:=fun ρ=>(m ρ).bind fun r=>(Rs.of (tg r.1 r.2)).bind fun ρ'=>.ok (.nx,ρ')
def QfT (rk:Kd)(f:List D->Fr)(mr:MA):ME:=fun ρ=>(mr ρ).bind fun r=>match f r.1 with
 |.ok d _=>.ok (d,r.2)
 |.ex _=>.no
 |.no=>.no
theorem Qop {v:L2.V}{d:D}{vs:List L2.V}{ds:List D}{τ:List (L2.V×D)}(ok:knL ks=true):tkL (.O::ks) (v::vs) (d::ds) τ=(v,d)::τ:=by
 show tkL ks vs ds ((v,d)::τ)=_
 exact JD (YL ok)
theorem Qh7 {f:List D->Fr}{io:List Bool}(hio:io.all (!·)=true)(hl:io.length=ks.length)(hrk:rk=.V\/rk=.O)(ok:knL ks=true){σ:L2.St}{H:Hp}{Q:VK}(h:tX rk C (pa && false) E (QfT rk f mr) σ H Q):QfH (spF C.K (true::io) rk f) E (tA (.O::ks) C pa E mr) σ H Q:=by
 obtain⟨F,ρ,τ,fp,I,h⟩:=h
 refine⟨F,ρ,τ,fp,I,h.split.mono fun r hr F1 H1 fp1 vs I1 n1 f1=>?_⟩
 obtain⟨dr,ρ1⟩:=r
 cases f1 with
 | @cons _ v d _ vs ds _ f2=>
  have I1':SI C F1 H1 σ ρ1 ((v,d)::τ) fp1:=by
   have:=I1
   rw[Qop ok] at this
   exact this
  obtain⟨fl,rest,ov,pm,J,z1,z2,nd⟩:=I1'.pop
  have rl:=f2.kn ok
  have hlen:vs.length=ks.length:=by
   have:∀{ks:List Kd} {vs:List L2.V} {ds:List D},FcL C F1 H1 fp1 σ ks vs ds->vs.length=ks.length:=by
    intro ks vs ds z
    induction z with
    |nil=>rfl
    |cons _ _ ih=>rw[z30,z30,ih]
   exact this f2
  have eio:io=vs.map fun _=>false:=by
   have:∀{io:List Bool} {n:Nat},io.all (!·)=true->io.length=n->io=z40 n false:=by
    intro io
    induction io with
    |nil=>intro n _ e;subst e;rfl
    |cons x io ih=>
     intro n h e
     subst e
     rw[zt5,z99] at h
     rw[z30,z91,← ih h.2 rfl]
     have:x=false:=by simpa using h.1
     rw[this]
   rw[this hio (hl.trans hlen.symm)]
   exact(List.map_const' ..).symm
  have al:AL C.K F1 H1 (true::io) (v::vs) (d::ds) fl:=by
   have:=AL.io (K:=C.K) (F:=F1) (H:=H1) ov (QkY (H:=H1) rl)
   rw[z71,← eio] at this
   exact this
  have dis:∀a∈rest,a∉fl:=fun a ha hf=>(z17.mp nd).2.2 a hf a ha rfl
  refine⟨F1,_,fl,al,(z17.mp nd).1,z2,J.fh,?_⟩
  cases ef:f (d::ds) with
  |no=>rw[ef] at hr;exact hr.elim
  |ex c=>rw[ef] at hr;exact hr.elim
  |ok res outs=>
   rw[ef] at hr
   dsimp only at hr ⊢
   intro F' H' u fr fo sF fh' fn' kp' dm' rf ol' nd' ap' frn fon
   have hrest:∀a∈rest,H' a=H1 a:=fun a ha=>by
    obtain⟨o,e,_⟩:=J.mem a ha
    rw[e,kp' a o e (dis a ha)]
   have Qa1:∀a∈rest,H1 a≠none:=fun a ha z=>by
    obtain⟨o,e,_⟩:=J.mem a ha
    rw[z] at e;cases e
   have apr:∀a∈rest,F' a=none:=fun a ha=>by
    cases e:F' a with
    |none=>rfl
    |some o=>
     rcases fn' a o e with z|z
     ·rw[J.ap a ha] at z;cases z
     ·obtain⟨o2,e2,m2⟩:=J.mem a ha
      exact(z.not (Qa1 a ha) (fh' a o e) ((hrest a ha).trans e2) m2).elim
   have J':SI C F' H' σ ρ1 τ rest:=J.step sF fh' hrest apr (fun b o e=>(fn' b o e).imp id fun z=>z.up fun y=>J.dm b y) (fun b o e0 n e=>kp' b o e fun hb=>by rw[z1 b hb] at e0;cases e0) dm'
   have nxt:∀{fp':List Addr},Nx (pa && false) F H fp F' H' fp':=fun{fp'}=>⟨n1.f.trans sF,fun z=>by simp at z⟩
   rcases hrk with rfl|rfl
   ·obtain⟨rv,rfl⟩:=rf
    exact hr F' H' _ u J' nxt rv
   ·refine hr F' H' _ u (J'.push rf (fun a ha=>J.dm a (frn a ha)) (fun a ha=>ap' a (z15 _ ha)) (z17.mpr ⟨(z17.mp nd').1,J'.nd,fun a ha b hb z=>by subst z;exact Qa1 a hb (frn a ha)⟩)) nxt z50
theorem Qqo {f:List D->Fr}{io:List Bool}(D:Qm X.prog X.w X.K X.mg X.base n x ps (spF C.K (true::io) rk f))(hx:Qav X E)(hr:Room n X.A)(ha:PA X (e::es) (tA (.O::ks) C pa E mr))(hio:io.all (!·)=true:=by rfl)(hl:io.length=ks.length:=by rfl)(hrk:rk=.V\/rk=.O:=by first|exact .inl rfl|exact .inr rfl)(ok:knL ks=true:=by rfl)(hg:Gl X x:=by rfl)
  (hdb:@6=false:=by decide) (he:starEach (e::es) X.env=@15::starEach es X.env:=by rfl) (hpl:(backTo pos (starEach es X.env)).any (·.1)=false:=by rfl) :
  PE X (.Call (.Name x px) (e::es) [] pos) (tX rk C (pa && false) E (QfT rk f mr)):=Ql (Qhn D hx hr ha hg hdb he hpl) fun _ _ _ h=>Qh7 hio hl hrk ok h
end
end TL
namespace TL
open PySem PySem.Spec L2 PyProof.Rows
def Qh8:List Int->Int
 | []=>0
 |n::r=>r.foldl (fun m x=>if m<x then x else m) n
def YN:List Int->Int
 | []=>0
 |n::r=>r.foldl (fun m x=>if x<m then x else m) n
theorem QfU:∀(r:List Int) (n:Int),(r.foldl (fun m x=>if m<x then x else m) n∈n::r)/\∀a∈n::r,a<=r.foldl (fun m x=>if m<x then x else m) n
 | [],n=>⟨z07,fun a ha=>by rw[z38.mp ha];exact zf2 _⟩
 |x::r,n=>by
  obtain⟨h1,h2⟩:=QfU r (if n<x then x else n)
  rw[zl0]
  refine⟨?_,fun a ha=>?_⟩
  ·rcases z19.mp h1 with h|h
   ·rw[h];split<;>simp
   ·simp[h]
  ·have h0:=h2 _ z07
   rcases z19.mp ha with rfl|ha
   ·refine z79 ?_ h0;split<;>lia
   ·rcases z19.mp ha with rfl|ha
    ·refine z79 ?_ h0;split<;>lia
    ·exact h2 a (z08 _ ha)
theorem QfV:∀(r:List Int) (n:Int),(r.foldl (fun m x=>if x<m then x else m) n∈n::r)/\∀a∈n::r,r.foldl (fun m x=>if x<m then x else m) n<=a
 | [],n=>⟨z07,fun a ha=>by rw[z38.mp ha];exact zf2 _⟩
 |x::r,n=>by
  obtain⟨h1,h2⟩:=QfV r (if x<n then x else n)
  rw[zl0]
  refine⟨?_,fun a ha=>?_⟩
  ·rcases z19.mp h1 with h|h
   ·rw[h];split<;>simp
   ·simp[h]
  ·have h0:=h2 _ z07
   rcases z19.mp ha with rfl|ha
   ·refine z79 h0 ?_;split<;>lia
   ·rcases z19.mp ha with rfl|ha
    ·refine z79 h0 ?_;split<;>lia
    ·exact h2 a (z08 _ ha)
theorem QeD {ns:List Int}(h:ns≠[]):Qh8 ns∈ns/\∀a∈ns,a<=Qh8 ns:=by
 cases ns with
 |nil=>exact absurd rfl h
 |cons n r=>exact QfU r n
theorem Qcl {ns:List Int}(h:ns≠[]):YN ns∈ns/\∀a∈ns,YN ns<=a:=by
 cases ns with
 |nil=>exact absurd rfl h
 |cons n r=>exact QfV r n
section
variable {X:Cx}{C:Cn}
theorem Qh9 (hc:X.calm=true):CallR X (.builtin "max") (fun xs H Q=>∃(p:Addr) (ns:List Int),xs=[.ref p]/\SqL X.K H p (ns.map L2.V.int)/\ns≠[]/\Q (.int (Qh8 ns)) H):=by
 intro pins s σ H xs us Q I r h
 obtain⟨p,ns,rfl,hp,hne,q⟩:=h
 obtain⟨u,rfl,ru⟩:=vals1 r
 cases ru
 obtain⟨its,rv,pl,hz⟩:=I.list hp
 have hi:IntsAre its ns:=intsAre_of rv
 obtain⟨zs,e⟩:=hi.allInts.items
 have hns:ns=zs.toList.map (·.1):=by rw[← hi.numsOf,← nums_intItems,← e]
 have hsz:0<zs.size:=by
  have:ns.length≠0:=by simpa using hne
  rw[hns,z00,z47] at this;lia
 have hl:=pl.isList
 rw[e] at hl
 refine max_intList (I.ok.hd hc) hl hsz fun v h' tk hv hk=>?_
 obtain⟨t,rfl⟩:=intItems_at hv
 obtain⟨h1,h2⟩:=argBest_gt (numAt zs) (zs.size - 1)
 have em:numAt zs (argBest (fun i j=>decide (numAt zs i > numAt zs j)) (zs.size - 1))=Qh8 ns:=by
  obtain⟨b1,b2⟩:=QeD hne
  refine zr7 (b2 _ ?_) ?_
  ·rw[hns,numAt_eq];exact getD_mem (by rw[z00,z47];lia)
  ·rw[hns] at b1
   obtain⟨j,hj,ej⟩:=mem_getD b1
   rw[z00,z47] at hj
   rw[← hns] at ej
   have e2:numAt zs j=Qh8 ns:=by rw[numAt_eq,← hns];exact ej
   rw[← e2];exact h2 j @1
 rw[em]
 exact⟨.int (Qh8 ns),H,I.kept (t':=tk) hk,⟨_,rfl⟩,q⟩
theorem QeE (hc:X.calm=true):CallR X (.builtin "min") (fun xs H Q=>∃(p:Addr) (ns:List Int),xs=[.ref p]/\SqL X.K H p (ns.map L2.V.int)/\ns≠[]/\Q (.int (YN ns)) H):=by
 intro pins s σ H xs us Q I r h
 obtain⟨p,ns,rfl,hp,hne,q⟩:=h
 obtain⟨u,rfl,ru⟩:=vals1 r
 cases ru
 obtain⟨its,rv,pl,hz⟩:=I.list hp
 have hi:IntsAre its ns:=intsAre_of rv
 obtain⟨zs,e⟩:=hi.allInts.items
 have hns:ns=zs.toList.map (·.1):=by rw[← hi.numsOf,← nums_intItems,← e]
 have hsz:0<zs.size:=by
  have:ns.length≠0:=by simpa using hne
  rw[hns,z00,z47] at this;lia
 have hl:=pl.isList
 rw[e] at hl
 refine min_intList (I.ok.hd hc) hl hsz fun v h' tk hv hk=>?_
 obtain⟨t,rfl⟩:=intItems_at hv
 obtain⟨h1,h2⟩:=argBest_lt (numAt zs) (zs.size - 1)
 have em:numAt zs (argBest (fun i j=>decide (numAt zs i<numAt zs j)) (zs.size - 1))=YN ns:=by
  obtain⟨b1,b2⟩:=Qcl hne
  refine zr7 ?_ (b2 _ ?_)
  ·rw[hns] at b1
   obtain⟨j,hj,ej⟩:=mem_getD b1
   rw[z00,z47] at hj
   rw[← hns] at ej
   have e2:numAt zs j=YN ns:=by rw[numAt_eq,← hns];exact ej
   rw[← e2];exact h2 j @1
  ·rw[hns,numAt_eq];exact getD_mem (by rw[z00,z47];lia)
 rw[em]
 exact⟨.int (YN ns),H,I.kept (t':=tk) hk,⟨_,rfl⟩,q⟩
def QfW:List D->Option @17
 | []=>some []
 |.int i::r=>(QfW r).map (i::·)
 |_=>none
theorem Qfb {K:z01}{F:Hp}:∀{vs:List L2.V} {ds:List D} {ns:List Int},RL K F vs ds->QfW ds=some ns->vs=ns.map L2.V.int
 |_,_,_,.nil,h=>by cases h;rfl
 |_,_,_,.cons (d:=d) r q,h=>by
  cases d with
  |int s=>
   obtain⟨ys,e,rfl⟩:=z03.mp (show(QfW _).map (s::·)=some _ from h)
   rw[R.int r,Qfb q e];rfl
  |_=>cases h
theorem VC:∀{ns:List Int},QfW (ns.map .int)=some ns
 | []=>rfl
 |n::ns=>by rw[z33,QfW,VC];rfl
def QlF:List D->Option D
 | [.nd .lst ds]=>(QfW ds).bind fun ns=>if ns=[] then none else some (.int (Qh8 ns))
 |_=>none
def Qjt:List D->Option D
 | [.nd .lst ds]=>(QfW ds).bind fun ns=>if ns=[] then none else some (.int (YN ns))
 |_=>none
theorem Qqp (hK:C.K=X.K):CallD C.K (fun xs H Q=>∃(p:Addr) (ns:List Int),xs=[.ref p]/\SqL X.K H p (ns.map L2.V.int)/\ns≠[]/\Q (.int (Qh8 ns)) H) QlF:=fun H vs ds res r eg=>by
 unfold QlF at eg
 split at eg
 ·obtain⟨ns,e1,e2⟩:=z25.mp eg
  split at e2
  ·cases e2
  ·rename_i hne
   cases e2
   obtain⟨v,rfl,r1⟩:=r.one
   obtain⟨a,us,rfl,ha,rl⟩:=r1.inv
   refine⟨_,rfl,fun Q h=>⟨a,ns,rfl,?_,hne,h⟩⟩
   rw[← Qfb rl e1,← hK];exact ha
 ·cases eg
theorem Qoq (hK:C.K=X.K):CallD C.K (fun xs H Q=>∃(p:Addr) (ns:List Int),xs=[.ref p]/\SqL X.K H p (ns.map L2.V.int)/\ns≠[]/\Q (.int (YN ns)) H) Qjt:=fun H vs ds res r eg=>by
 unfold Qjt at eg
 split at eg
 ·obtain⟨ns,e1,e2⟩:=z25.mp eg
  split at e2
  ·cases e2
  ·rename_i hne
   cases e2
   obtain⟨v,rfl,r1⟩:=r.one
   obtain⟨a,us,rfl,ha,rl⟩:=r1.inv
   refine⟨_,rfl,fun Q h=>⟨a,ns,rfl,?_,hne,h⟩⟩
   rw[← Qfb rl e1,← hK];exact ha
 ·cases eg
end
end TL
namespace TL
open PySem PySem.Spec L2 L2.Srt
section
variable {α:Type}{lt:α->α->Bool}
def Qmu (lt:α->α->Bool)(x:α):List α->List α
 | []=>[x]
 |y::ys=>if lt x y=true then x::y::ys else y::Qmu lt x ys
noncomputable def QcV (lt:α->α->Bool):List α->List α
 | []=>[]
 |x::xs=>Qmu lt x (QcV lt xs)
theorem Qcm (x:α):∀ys:List α,(Qmu lt x ys).Perm (x::ys)
 | []=>.refl _
 |y::ys=>by
  unfold Qmu
  split
  ·exact .refl _
  ·exact((Qcm x ys).cons y).trans (.swap x y ys)
theorem QV:∀xs:List α,(QcV lt xs).Perm xs
 | []=>.refl _
 |x::xs=>(Qcm x _).trans ((QV xs).cons x)
theorem Qia (L:Lin lt){x:α}:∀{ys:List α},ys.Pairwise (fun a b=>lt a b=true)->x∉ys->(Qmu lt x ys).Pairwise (fun a b=>lt a b=true)
 | [],_,_=>List.pairwise_singleton _ _
 |y::ys,h,hn=>by
  unfold Qmu
  obtain⟨h1,h2⟩:=zd0.mp h
  split
  ·rename_i hl
   exact zd0.mpr ⟨fun a ha=>by
    rcases z19.mp ha with rfl|ha
    ·exact hl
    ·exact L.tr _ _ _ hl (h1 a ha),h⟩
  ·rename_i hl
   have hyx:lt y x=true:=L.tot _ _ (fun e=>hn (e▸z07)) (by simpa using hl)
   refine zd0.mpr ⟨fun a ha=>?_,Qia L h2 fun hm=>hn (z08 _ hm)⟩
   rcases z19.mp ((Qcm x ys).mem_iff.mp ha) with rfl|ha
   ·exact hyx
   ·exact h1 a ha
theorem Qa7 (L:Lin lt):∀{xs:List α},xs.Nodup->(QcV lt xs).Pairwise (fun a b=>lt a b=true)
 | [],_=>.nil
 |x::xs,h=>by
  obtain⟨h1,h2⟩:=z60.mp h
  exact Qia L (Qa7 L h2) fun hm=>h1 ((QV xs).mem_iff.mp hm)
theorem QdU (L:Lin lt):∀{xs ys:List α},xs.Pairwise (fun a b=>lt a b=true)->ys.Pairwise (fun a b=>lt a b=true)->xs.Perm ys->xs=ys
 | [],ys,_,_,p=>(List.nil_perm.mp p).symm
 |x::xs,[],_,_,p=>absurd p.length_eq @9
 |x::xs,y::ys,h,h',p=>by
  obtain⟨a1,a2⟩:=zd0.mp h
  obtain⟨b1,b2⟩:=zd0.mp h'
  have e:x=y:=by
   rcases z19.mp (p.mem_iff.mp (z07 (a:=x) (l:=xs))) with e|hx
   ·exact e
   ·rcases z19.mp (p.mem_iff.mpr (z07 (a:=y) (l:=ys))) with e|hy
    ·exact e.symm
    ·have z1:=b1 x hx
     have z2:=a1 y hy
     have:=L.tr _ _ _ z1 z2
     rw[L.irr] at this;cases this
  subst e
  rw[QdU L a2 b2 (p.cons_inv)]
end
def npD (x:NP):D:=.tup [.int x.1,pl x.2]
def pnD (x:PN):D:=.tup [pl x.1,.int x.2]
def QlG:D->Option NP
 |.nd .tup [.int n,.nd .tup [.int a,.int b]]=>some (n,(a,b))
 |_=>none
theorem Qfc {d:D}{x:NP}(h:QlG d=some x):d=npD x:=by
 unfold QlG at h
 split at h
 ·cases h;rfl
 ·cases h
def npL:List D->Option (List NP)
 | []=>some []
 |d::ds=>(QlG d).bind fun x=>(npL ds).map (x::·)
theorem Qkl:∀{ds:List D} {xs:List NP},npL ds=some xs->ds=xs.map npD
 | [],_,h=>by cases h;rfl
 |d::ds,xs,h=>by
  obtain⟨x,e1,e2⟩:=z25.mp (show(QlG d).bind _=some xs from h)
  obtain⟨ys,e3,rfl⟩:=z03.mp e2
  rw[Qfc e1,Qkl e3];rfl
theorem Qib:∀{xs:List NP},npL (xs.map npD)=some xs
 | []=>rfl
 |x::xs=>by rw[z33,npL,Qib];rfl
theorem Qqq {K:z01}{F:Hp}{v:L2.V}{q:Int×Int}(r:R K F v (pl q)):∃a,v=.ref a/\F a=some (.tup [.int q.1,.int q.2]):=by
 obtain⟨a,vs,rfl,h1,h2⟩:=r.inv
 obtain⟨v1,v2,rfl,r1,r2⟩:=h2.two
 rw[R.int r1,R.int r2] at h1
 exact⟨a,rfl,h1⟩
theorem Qic {K:z01}{F:Hp}{v:L2.V}{x:NP}(r:R K F v (npD x)):∃a,v=.ref a/\PT1 K F a x:=by
 obtain⟨a,vs,rfl,h1,h2⟩:=r.inv
 obtain⟨v1,v2,rfl,r1,r2⟩:=h2.two
 obtain⟨b,rfl,hb⟩:=Qqq r2
 rw[R.int r1] at h1
 exact⟨a,rfl,b,SqT.of h1,SqT.of hb⟩
theorem Qid {K:z01}{F:Hp}:∀{vs:List L2.V} {xs:List NP},RL K F vs (xs.map npD)->∃qs:List Addr,vs=qs.map L2.V.ref/\Paired (PT1 K F) qs xs
 |_,[],.nil=>⟨[],rfl,.nil⟩
 |_,x::xs,.cons r t=>by
  obtain⟨a,rfl,h⟩:=Qic r
  obtain⟨qs,rfl,p⟩:=Qid t
  exact⟨a::qs,rfl,.cons h p⟩
theorem Qcn:∀xs:List NP,D.QI (xs.map npD)=true
 | []=>rfl
 |x::xs=>by rw[z33];show(true && D.QI (xs.map npD))=true;rw[Qcn xs];rfl
theorem Qco:∀xs:List PN,D.QI (xs.map pnD)=true
 | []=>rfl
 |x::xs=>by rw[z33];show(true && D.QI (xs.map pnD))=true;rw[Qco xs];rfl
section
variable {X:Cx}{C:Cn}{E:XE}{p:Bool}{o e a b:Expr}{m mb mo:ME}{mr:MA}{pos apos cpos px:Pos}{ka:Kd}{ks:List Kd}{x f:Str}
def Qra:D->D->Option D
 |x,y=>(QlG x).bind fun a=>(QlG y).map fun b=>.bl (YI a b)
def Qrb (K:z01):R2:=fun x y H Q=>∃a b q r,x=.ref q/\y=.ref r/\PT1 K H q a/\PT1 K H r b/\Q (.bl (YI a b)) H
theorem Qor (hu:X.A.units+1<cLine):OpR X (compareOp .Lt) (Qrb X.K):=by
 intro pins s σ H x y v u Q I rx ry h
 obtain⟨a,b,q,r,rfl,rfl,ha,hb,k⟩:=h
 cases rx
 cases ry
 exact Qpz hu (Qg7 I ha) (Qg7 I hb) ⟨.bl (YI a b),H,I,rfl,k⟩
theorem QrJ (hK:C.K=X.K):OpD C.K (Qrb X.K) Qra:=fun H v u d e res r q eg=>by
 obtain⟨a,e1,e2⟩:=z25.mp (show(QlG d).bind _=some res from eg)
 obtain⟨b,e3,rfl⟩:=z03.mp e2
 rw[Qfc e1] at r
 rw[Qfc e3] at q
 obtain⟨q1,rfl,h1⟩:=Qic r
 obtain⟨q2,rfl,h2⟩:=Qic q
 exact⟨_,rfl,fun Q h=>⟨a,b,q1,q2,rfl,rfl,hK▸h1,hK▸h2,h⟩⟩
def Qfd:List D->Option (List NP)
 | [.nd .lst ds]=>(npL ds).bind fun ps=>if ps.Nodup/\ps.length<64 then some (QcV YI ps) else none
 |_=>none
def Qkm (mr:MA):ME:=fun ρ=>(mr ρ).bind fun r=>(Rs.of (Qfd r.1)).bind fun ps=>.ok (.lst (ps.map npD),r.2)
theorem Qju (hu:X.A.units+3<cLine)(hK:C.K=X.K)(hm:X.mg x=none)(hv:z52 x=some (.builtin "sorted"))(ha:PA X [e] (tA ks C p E mr))(ok:rdL ks=true:=by rfl)(hgl:Gl X x:=by rfl)(hn:x ≠ "__name__" := by decide)(hdb:@6=false:=by decide)
  (he:starEach [e] X.env=@15::starEach [] X.env:=by rfl) (hpl:(backTo pos (starEach [] X.env)).any (·.1)=false:=by rfl):PE X (.Call (.Name x px) [e] [] pos) (tX .O C p E (Qkm mr)):=
 Ql (pe_callB (Qei hu) hgl hm hv ha hn hdb he hpl) fun σ H Q ⟨F,ρ,τ,fp,I,h⟩=>by
  refine⟨F,ρ,τ,fp,I,h.split.mono fun r1 h1 F1 H1 fp1 vs I1 n1 f1=>?_⟩
  rw[JD ok] at I1
  have rl:=f1.rd I1 ok
  obtain⟨ps',e1,h2⟩:=h1.split.of
  obtain⟨dr,ρ1⟩:=r1
  dsimp only at e1 rl h2
  unfold Qfd at e1
  split at e1
  ·rename_i ds
   obtain⟨ps,e2,e3⟩:=z25.mp e1
   split at e3
   ·rename_i cnd
    cases e3
    rw[Qkl e2] at rl
    obtain⟨v,rfl,r1⟩:=rl.one
    obtain⟨a,us,rfl,h3,h4⟩:=r1.inv
    have rlF:=I1.loL h4 (Qcn ps)
    obtain⟨qs,rfl,pr⟩:=Qid h4
    have up:∀{q:Addr} {y:NP},PT1 C.K (jn F1 H1 fp1) q y->PT1 X.K H1 q y:=fun{q y} ⟨r,z1,z2⟩=>by
     have s:=Yd I1.fh (fp:=fp1)
     rw[← hK]
     exact⟨r,z1.imp (fun z=>z.imp (fun z=>s _ _ z) fun⟨o,z⟩=>⟨o,s _ _ z⟩) id,z2.imp (fun z=>z.imp (fun z=>s _ _ z) fun⟨o,z⟩=>⟨o,s _ _ z⟩) id⟩
    refine⟨a,qs,ps,rfl,?_,Paired.imp' (fun _ _ z=>up z) pr,cnd.1,cnd.2,fun l is hl pm pw=>?_⟩
    ·rw[← hK];exact(At.same h3 (Yd I1.fh)).sql
    ·have ilt:∀i∈is,i<ps.length:=fun i hi=>za3.mp (pm.mem_iff.mp hi)
     have eq:is.map (fun i=>ps.getD i (0,(0,0)))=QcV YI ps:=by
      refine QdU Qat pw (Qa7 Qat cnd.1) ?_
      have z:=pm.map fun i=>ps.getD i (0,(0,0))
      rw[range_getD] at z
      exact z.trans (QV ps).symm
     have rl':∀js:List Nat,(∀i∈js,i<ps.length)->RL C.K F1 ((js.map fun i=>qs.getD i 0).map L2.V.ref) ((js.map fun i=>ps.getD i (0,(0,0))).map npD):=by
      intro js
      induction js with
      |nil=>intro _;exact .nil
      |cons i js ih=>
       intro hj
       have hi:=hj i z07
       obtain⟨v,ev,rv⟩:=rlF.get (show(ps.map npD)[i]? = some (npD (ps.getD i (0,(0,0)))) by rw[z29,z05 hi,z09,z05 hi];rfl)
       have ev':v=.ref (qs.getD i 0):=by
        rw[z29] at ev
        obtain⟨q,eq,rfl⟩:=z03.mp ev
        rw[z09,eq];rfl
       subst ev'
       exact .cons rv (ih fun j h=>hj j (z08 _ h))
     have rr:=rl' is ilt
     rw[eq] at rr
     exact h2 _ _ _ _ (I1.newList hl rr (Qcn _)) ((n1.trans (q:=true) ⟨Same.refl _,fun _=>Qcb I1 hl⟩).weak fun z=>by simp[z]) z50
   ·cases e3
  ·cases e1
def Qpk:List Key->Option (Int×Int)
 | [.inl a,.inl b]=>some (a,b)
 |_=>none
theorem QlH {k:List Key}{q:Int×Int}(h:Qpk k=some q):k=Qbl q:=by
 unfold Qpk at h
 split at h
 ·cases h;rfl
 ·cases h
noncomputable def Qcp:List (List Key)->List D->Option (List PN)
 | [],[]=>some []
 |k::ks,.int n::ds=>(Qpk k).bind fun q=>(Qcp ks ds).map ((q,n)::·)
 |_,_=>none
theorem QeF {K:z01}{F:Hp}:∀{ks:List (List Key)} {vs:List L2.V} {ds:List D} {ps:List PN},RL K F vs ds->Qcp ks ds=some ps->ks.zip vs=ps.map fun p=>(Qbl p.1,L2.V.int p.2)
 | [],_,_,_,.nil,h=>by cases h;rfl
 | [],_,_,_,.cons _ _,h=>by cases h
 |_::_,_,_,_,.nil,h=>by cases h
 |k::ks,v::vs,d::ds,ps,.cons r q,h=>by
  cases d with
  |int n=>
   obtain⟨y,e1,e2⟩:=z25.mp (show(Qpk k).bind (fun q=>(Qcp ks ds).map ((q,n)::·))=some ps from h)
   obtain⟨ys,e3,rfl⟩:=z03.mp e2
   rw[z82,QeF q e3,QlH e1,R.int r];rfl
  |_=>cases h
theorem Qdc:∀{ps:List PN},Qcp (ps.map fun p=>Qbl p.1) (ps.map fun p=>.int p.2)=some ps
 | []=>rfl
 |p::ps=>by rw[z33,z33,Qcp,Qdc];rfl
def Qfe:D->Option (List PN)
 |.nd (.dT ks) ds=>Qcp ks ds
 |_=>none
def Qkn (m:ME):ME:=fun ρ=>(m ρ).bind fun r=>(Rs.of (Qfe r.1)).bind fun ps=>if ps.length<64 then .ok (.lst ((QcV QcS ps).map pnD),r.2) else .no
theorem Qjv (hc:X.calm=true)(hu:X.A.units+3<cLine)(hm:X.mg x=none)(hv:z52 x=some (.builtin "sorted"))(ho:PE X o (tX ka C p E mo))(ok:ka.on true=true:=by rfl)(hg:Gl X x:=by rfl)(hnm:x ≠ "__name__" := by decide)(hdb:@6=false:=by decide)
  (hbase:attributeBase o "items" X.env (eval o X.env)=eval o X.env:=by rfl) (hline:(apos.endLine == cpos.line)=true:=by rfl) (hst:starEach [.Call (.Attribute o "items" apos) [] [] cpos] X.env=[(false,eval (.Call (.Attribute o "items" apos) [] [] cpos) X.env)]:=by rfl) :
  PE X (.Call (.Name x px) [.Call (.Attribute o "items" apos) [] [] cpos] [] pos) (tX .O C p E (Qkn mo)):=Ql (Qja hc hu hm hv ho hg hnm hdb hbase hline hst) fun σ H Q ⟨F,ρ,τ,fp,I,h⟩=>by
 refine⟨F,ρ,τ,fp,I,h.split.mono fun r1 h1 F1 H1 fp1 v I1 n1 f1=>?_⟩
 rw[Kd.JH ok] at I1
 have rr:=Kd.stay ok f1 .refl I1
 obtain⟨ps,e1,h2⟩:=h1.split.of
 obtain⟨dd,ρ1⟩:=r1
 dsimp only at e1 rr h2 I1
 unfold Qfe at e1
 split at e1
 ·rename_i ks ds
  obtain⟨d,vs,rfl,⟨hl,hd⟩,rl⟩:=rr.inv
  rw[QeF rl e1] at hd
  have hd1:H1 d=some (.dT (ps.map fun p=>(Qbl p.1,L2.V.int p.2))):=Yd I1.fh _ _ hd
  by_cases l64:ps.length<64
  ·rw[if_pos l64] at h2
   refine⟨d,ps,rfl,hd1,l64,fun L as qs ps' H' sH hL ha hLa pm pw hL' hb la lq hj=>?_⟩
   have ndp:ps.Nodup:=by
    have:ps'.Nodup:=pw.imp fun{a b} h e=>by rw[e,Qb4.irr] at h;cases h
    exact pm.nodup_iff.mp this
   have eps:ps'=QcV QcS ps:=QdU Qb4 pw (Qa7 Qb4 ndp) (pm.trans (QV ps).symm)
   have qf:∀q∈qs,∃p:PN,H1 q=some (.tup [.int p.1.1,.int p.1.2]):=fun q hq=>by
    obtain⟨j,hjq⟩:=zb6 hq
    have hlt:=(z28.mp hjq).1
    obtain⟨_,z⟩:=hj j _ q _ (z05 @1) hjq (z05 @1)
    exact⟨_,z⟩
   have af:∀a∈as,∃q n,H' a=some (.tup [.ref q,.int n]):=fun a haa=>by
    obtain⟨j,hja⟩:=zb6 haa
    have hlt:=(z28.mp hja).1
    obtain⟨z,_⟩:=hj j a _ _ hja (z05 @1) (z05 @1)
    exact⟨_,_,z⟩
   let G:Hp:=fun b=>if b∈as then H' b else if b∈qs then H1 b else F1 b
   have Ga:∀b,b∈as->G b=H' b:=fun b z=>if_pos z
   have Gq:∀b,b∉as->b∈qs->G b=H1 b:=fun b z y=>by show(if b∈as then _ else if b∈qs then _ else _)=_;rw[if_neg z,if_pos y]
   have Go:∀b,b∉as->b∉qs->G b=F1 b:=fun b z y=>by show(if b∈as then _ else if b∈qs then _ else _)=_;rw[if_neg z,if_neg y]
   have nas:∀b o,H1 b=some o->b∉as:=fun b o e z=>by rw[ha b z] at e;cases e
   have sG:Same F1 G:=fun b o e=>by
    have z:=nas b o (I1.fh b o e)
    by_cases y:b∈qs
    ·rw[Gq b z y];exact I1.fh b o e
    ·rw[Go b z y];exact e
   have GH:Same G H':=fun b o e=>by
    by_cases z:b∈as
    ·rw[Ga b z] at e;exact e
    ·by_cases y:b∈qs
     ·rw[Gq b z y] at e;exact sH b o e
     ·rw[Go b z y] at e;exact sH b o (I1.fh b o e)
   have mb:∀a∈fp1,a∉as/\a∉qs/\a≠L:=fun a haf=>by
    obtain⟨o,e,m⟩:=I1.mem a haf
    refine⟨nas a o e,fun y=>?_,ne_of_none e hL⟩
    obtain⟨p,e2⟩:=qf a y
    rw[e] at e2;cases e2;exact m
   have J:SI C G H' σ ρ1 τ fp1:=by
    refine I1.step sG GH (fun a haf=>?_) (fun a haf=>?_) (fun b o e=>?_) (fun b o _ _ e=>sH b o e) (fun b e=>sH.free e)
    ·obtain⟨z,_,y⟩:=mb a haf
     obtain⟨o,e,_⟩:=I1.mem a haf
     rcases hb a y z with w|w
     ·exact w
     ·rw[w] at e;cases e
    ·obtain⟨z,y,_⟩:=mb a haf
     rw[Go a z y];exact I1.ap a haf
    ·by_cases z:b∈as
     ·exact .inr (.inl (I1.dm b (ha b z)))
     ·by_cases y:b∈qs
      ·rw[Gq b z y] at e
       obtain⟨p,e2⟩:=qf b y
       rw[e] at e2;cases e2
       exact .inr (.inr z50)
      ·rw[Go b z y] at e;exact .inl e
   have GL:G L=none:=by
    have y:L∉qs:=fun y=>by obtain⟨p,e2⟩:=qf L y;rw[hL] at e2;cases e2
    rw[Go L hLa y];exact I1.fh.free hL
   have rl':∀(bs rs:List Addr) (ys:List PN),bs.length=ys.length->rs.length=ys.length->(∀(j:Nat) (a q:Addr) (p:PN),bs[j]? = some a->rs[j]? = some q->ys[j]? = some p->a∈as/\q∈qs/\H' a=some (.tup [.ref q,.int p.2])/\H1 q=some (.tup [.int p.1.1,.int p.1.2]))->RL C.K G (bs.map L2.V.ref) (ys.map pnD):=by
    intro bs
    induction bs with
    |nil=>intro rs ys l1 _ _;cases ys with
     |nil=>exact .nil
     |cons _ _=>cases l1
    |cons b bs ih=>intro rs ys l1 l2 hh;cases ys with
     |nil=>cases l1
     |cons y ys=>cases rs with
      |nil=>cases l2
      |cons q rs=>
       obtain⟨z1,z2,z3,z4⟩:=hh 0 b q y rfl rfl rfl
       refine .cons (.nd (t:=.tup) (show G b=_ by rw[Ga b z1];exact z3) (.cons (.nd (t:=.tup) (show G q=_ by rw[Gq q (nas q _ z4) z2];exact z4) (.cons (.sc rfl) (.cons (.sc rfl) .nil))) (.cons (.sc rfl) .nil))) (ih rs ys (by simpa using l1) (by simpa using l2) fun j a q p e1 e2 e3=>hh (j+1) a q p (by simpa using e1) (by simpa using e2) (by simpa using e3))
   have rr':=rl' as qs ps' la lq fun j a q p e1 e2 e3=>⟨z42 e1,z42 e2,hj j a q p e1 e2 e3⟩
   rw[eps] at rr'
   have nL:L∉fp1:=fun z=>(mb L z).2.2 rfl
   have J2:=J.push (v:=.ref L) (d:=.lst ((QcV QcS ps).map pnD)) (f:=[L]) (.mt (t:=.lst) hL' (rr'.o (Qco _))) (fun a haL=>by rw[z38.mp haL];exact I1.dm L hL) (fun a haL=>by rw[z38.mp haL];exact GL) (by simpa using⟨nL,I1.nd⟩)
   refine h2 G H' _ _ J2 ((n1.trans (q:=true) ⟨sG,fun _ b o e=>?_⟩).weak fun z=>by simp[z]) z50
   by_cases hbf:b∈fp1
   ·rw[JB hbf] at e
    rw[JB (z04 _ hbf)];exact sH b o e
   ·rw[QG hbf] at e
    have:b∉[L]++fp1:=fun z=>by
     rcases z14.mp z with z|z
     ·rw[z38.mp z] at e;rw[I1.fh.free hL] at e;cases e
     ·exact hbf z
    rw[QG this];exact sG b o e
  ·rw[if_neg l64] at h2;exact h2.elim
 ·cases e1
end
end TL
namespace TL
open PySem PySem.Spec L2
section
variable {C:Cn}{rk:Kd}
theorem Qdd {P:Program}{w:World}{K:z01}{mg:Str->Option Value}{base:Heap}{k:Addr}{n:Nat}{x:Str}{ps:List Str}{io:List Bool}{f:List D->Fr}(D:QH P w K mg base k n x ps (spF K io rk f))(hC:C.K=K):QH P w K mg base k n x ps (spF C.K io rk f):=by rw[hC];exact D
theorem Qpl {P:Program}{w:World}{K:z01}{mg:Str->Option Value}{base:Heap}{k:Addr}{n:Nat}{x:Str}{ps:List Str}{f:Addr->D->Fr}(D:Qar P w K mg base k n x ps (spI K k f))(hC:C.K=K):Qar P w K mg base k n x ps (spI C.K k f):=by rw[hC];exact D
theorem hu3 {A:Around}{k:Nat}(hr:Room k A):A.units+3<cLine:=by have:=hr.units;lia
theorem Qbp:z52 "sorted" = some (.builtin "sorted"):=by decide +kernel
end
section
variable {X:Cx}{C:Cn}{E:XE}{p pa pb:Bool}{a b:Expr}{ma mb:ME}{pos:Pos}{k ka kb:Kd}
def Qqr (K:z01):R2:=fun x y H Q=>∃l k xs,x=.ref l/\y=.int k/\SqL K H l xs/\-(2 ^ 63)<=k/\k<2 ^ 63/\xs.length * k.toNat<=z18/\
 ∀p,H p=none->Q (.ref p) (upd H p (.lst (z40 k.toNat xs).flatten))
theorem QlI:OpR X (binaryOp .Mult) (Qqr X.K):=by
 intro pins s σ H x y v u Q I rx ry h
 obtain⟨l,k,xs,rfl,rfl,hH,h1,h2,hz,q⟩:=h
 cases rx
 obtain⟨t,rfl⟩:=ry
 obtain⟨its,r,pl,z⟩:=I.list hH
 obtain⟨⟨cls,dd,data,sl⟩,n,ho,hc,hdd,hd⟩:=pl
 cases hc;cases hd
 have hl:=r.length
 have hlen:its.toArray.size * k.toNat<=z18:=by rw[z16,← hl];exact hz
 refine wpAny_binaryOp_repeat_ref (T := "list") (U := "int") @3 ⟨_,ho,rfl⟩ (fun s'=>typeIs_int s' k t) noFill_list_mul F.fills_int_mul F.slot_int_rmul repeat_list F.slot_int_index.lookup
  (call_meets F.slot_int_rmul (typeIs_int s k t) F.entry_int_rmul (F.args_int_rmul_2 _ _) (PySem.lm_int_rmul_list_any k t l its.toArray n dd sl)
   ⟨ho,rfl,⟨_,ho,rfl⟩,call_meets F.slot_list_mul ⟨_,ho,rfl⟩ F.entry_list_mul (F.args_list_mul_2 _ _)
    (PySem.lm_list_mul_any l its.toArray n dd sl k t (by simp[zn9];lia) (by rw[z34] at hlen;lia) (by rw[z34] at hlen;simp[zd6,z18] at *;lia))
    ⟨ho,?_⟩⟩)
 rw[PyProof.Rows.listMul_foldl_if]
 exact⟨.ref _,_,I.lnew (t':=s.toks) (r.rep k.toNat) (by rw[len_rep,Nat.mul_comm];exact hz),rfl,q _ I.fresh⟩
def Qjw (n:Int)(xs:List D):List D:=(z40 n.toNat xs).flatten
def QlJ (ma mb:ME):ME:=fun ρ=>(ma ρ).bind fun r1=>(mb r1.2).bind fun r2=>(Rs.of (asL r1.1)).bind fun xs=>(Rs.of (asI r2.1)).bind fun n=>if -(2 ^ 63)<=n/\n<2 ^ 63/\xs.length * n.toNat<=z18/\D.QI (Qjw n xs)=true then .ok (.lst (Qjw n xs),r2.2) else .no
theorem RL.rep {K:z01}{F:Hp}{us:List L2.V}{xs:List D}(h:RL K F us xs):∀n:Nat,RL K F (z40 n us).flatten (z40 n xs).flatten
 |0=>.nil
 |n+1=>by rw[z91,z91,ze0,ze0];exact h.app (RL.rep h n)
theorem Qos (hK:C.K=X.K)(ha:PE X a (tX ka C pa E ma))(hb:PE X b (tX kb C pb E mb))(ok:ka.on pb=true:=by rfl)(ok2:kb.on true=true:=by rfl):PE X (.BinOp a .Mult b pos) (tX .O C (pa && pb) E (QlJ ma mb)):=Ql (pe_op QlI ha hb) fun σ H Q ⟨F,ρ,τ,fp,I,h⟩=>by
 refine⟨F,ρ,τ,fp,I,h.split.mono fun r1 h1 F1 H1 fp1 v1 I1 n1 f1=>?_⟩
 rw[Kd.JH ok] at I1
 refine⟨F1,r1.2,τ,fp1,I1,h1.split.mono fun r2 h2 F2 H2 fp2 v2 I2 n2 f2=>?_⟩
 rw[Kd.JH ok2] at I2
 obtain⟨xs,e1,h3⟩:=h2.split.of
 obtain⟨n,e2,h4⟩:=h3.split.of
 have g1:R C.K (jn F2 H2 fp2) v1 (.nd .lst xs):=by rw[← Qbo e1];exact Kd.stay ok f1 n2 I2
 have g2:R C.K (jn F2 H2 fp2) v2 (.int n):=by rw[← Qex e2];exact Kd.stay ok2 f2 .refl I2
 obtain⟨l1,us,rfl,a1,rl1⟩:=g1.inv
 obtain rfl:=g2.Qu (w:=.int n) rfl
 by_cases hz : -(2 ^ 63)<=n/\n<2 ^ 63/\xs.length * n.toNat<=z18/\D.QI (Qjw n xs)=true
 ·rw[if_pos hz] at h4
  obtain⟨z1,z2,z3,hi⟩:=hz
  refine⟨l1,n,us,rfl,rfl,hK▸At.same a1 (Yd I2.fh),z1,z2,by rw[rl1.length];exact z3,fun q hq=>?_⟩
  exact h4 _ _ _ _ (I2.newList hq (I2.loL (rl1.rep n.toNat) hi) hi) (((n1.trans n2).trans (q:=true) ⟨Same.refl _,fun _=>Qcb I2 hq⟩).weak fun z=>by simpa using z) z50
 ·rw[if_neg hz] at h4;exact h4.elim
end
def tIB (C:Cn)(p:Bool)(E:XE)(mi:MA):TI:=fun σ H R=>∃F ρ τ fp,SI C F H σ ρ τ fp/\Run C E σ (mi ρ) fun r=>∀F' H' fp' J,SI C F' H' σ r.2 τ fp'->Nx p F H fp F' H' fp'->(∀Cb:Cn,Cb.K=C.K->Cb.H₀=H'->Cb.F₀=F'->Cb.A=[]->ItC Cb F' r.1 J)->R J H'
def Qot (m:ME):MA:=fun ρ=>(m ρ).bind fun r=>(Rs.of (QgE [r.1])).bind fun ds=>if D.QI ds=true then .ok (ds,r.2) else .no
theorem Qie {C:Cn}{F H:Hp}{a:Addr}{kd:Bool}{vs:List L2.V}{ds:List D}(h0:C.H₀=H)(hA:C.A=[])(h:At C.K H a (if kd then .lst else .tup) vs)(r:RL C.K F vs ds):ItC C F ds (Itb kd C.K a):=by
 have up:∀{F' H':Hp} {σ:L2.St} {ρ:Rho} {τ:List (L2.V×D)} {fp:List Addr},SI C F' H' σ ρ τ fp->SqB kd C.K H' a vs:=fun{F' H' σ ρ τ fp} I=>by
  have s:Same H H':=fun b o e=>I.kp b o (by rw[h0];exact e) (by rw[hA];exact zc3)
  cases kd with
  |true=>exact(At.same (t:=.lst) h s).sql
  |false=>exact(At.same (t:=.tup) h s).sqt
 refine⟨fun{F' H σ ρ τ fp i d} I s e=>?_,fun{F' H σ ρ τ fp} I s=>?_⟩
 ·obtain⟨v,ev,rv⟩:=r.get e
  have q:=up I
  cases kd with
  |true=>exact⟨⟨vs,v,q,ev⟩,fun x H' ⟨e1,y⟩=>by
    subst e1
    have z:=y vs q
    rw[ev] at z;cases z
    exact⟨F',I,.refl,rv.same s⟩⟩
  |false=>exact⟨⟨vs,v,q,ev⟩,fun x H' ⟨e1,y⟩=>by
    subst e1
    have z:=y vs q
    rw[ev] at z;cases z
    exact⟨F',I,.refl,rv.same s⟩⟩
 ·have q:=up I
  have l:=r.length
  cases kd with
  |true=>exact⟨vs,q,by lia⟩
  |false=>exact⟨vs,q,by lia⟩
section
variable {X:Cx}{C:Cn}{E:XE}{p:Bool}{m:ME}
theorem QlK {tg l:Expr}(hK:C.K=X.K)(hl:PE X l (tX .B C p E m)):PI X tg l (tIB C p E (Qot m)):=Qcd (QjS hl) fun σ H RR ⟨F,ρ,τ,fp,I,h⟩=>by
 refine⟨F,ρ,τ,fp,I,h.split.mono fun r hr F1 H1 fp1 v I1 n1 f1=>?_⟩
 obtain⟨ds,eg,h2⟩:=hr.split.of
 by_cases hi:D.QI ds=true
 ·rw[if_pos hi] at h2
  obtain⟨q,us,eq,hs,rl⟩:=Qel (.cons f1 .nil) eg
  cases eq
  have rl':=I1.loL rl hi
  rcases hs with hs|hs
  ·have a1:=At.same hs (Yd I1.fh)
   refine⟨q,true,rfl,⟨us,by rw[← hK];exact a1.sql⟩,h2 F1 H1 fp1 _ I1 n1 fun Cb k1 k2 k3 k4=>?_⟩
   have:=Qie (C:=Cb) (F:=F1) (kd:=true) k2 k4 (by rw[k1];exact a1) (by rw[k1];exact rl')
   rw[k1,hK] at this
   exact this
  ·have a1:=At.same hs (Yd I1.fh)
   refine⟨q,false,rfl,⟨us,by rw[← hK];exact a1.sqt⟩,h2 F1 H1 fp1 _ I1 n1 fun Cb k1 k2 k3 k4=>?_⟩
   have:=Qie (C:=Cb) (F:=F1) (kd:=false) k2 k4 (by rw[k1];exact a1) (by rw[k1];exact rl')
   rw[k1,hK] at this
   exact this
 ·rw[if_neg hi] at h2;exact h2.elim
end
section
variable {X:Cx}{C:Cn}{E:XE}{p pa pc pe:Bool}{me:ME}{mt:MT}{mi:MA}{pos:Pos}{elt iter:Expr}{x:Str}{px:Pos}{ifs:List Expr}{scope:Scope}{N:List Str}{cs:List Cp}{j:Nat}{par:Bool}
theorem Qif (hK:C.K=X.K)(hj:cs[j]? = some .me)(hio:cs.filterMap Cp.is=[]){σ:L2.St}{H:Hp}{Q:VK}(h:tX .O C (pa && p) E (Yq par cs j mi mt me) σ H Q):Qc1 (tIB C pa E mi) (cs.map Cp.ix) (gName j) (exT X.K pc mt) (exX .O X.K pe me) σ H Q:=by
 obtain⟨F,ρ,τ,fp,I,h⟩:=h
 rw[Qhw] at h
 exact⟨F,ρ,τ,fp,I,h.split.mono fun r hr F1 H1 fp1 J I1 n1 it=>QdL hK (by rw[hio];exact za2) (fun _=>hio) (Qhx hj) I1 n1 (fun Cb h1 h2 h3 h4=>it Cb h1 h2 h3 (h4 hio)) hr⟩
theorem Qjx (hK:C.K=X.K)(hc:X.calm=true)(B:Blk X scope N (cs.map Cp.ix))(hjN:N[j]? = some x)(hj:cs[j]? = some .me)(hx:scope.names.lookup x=some .local)(hi:PI X (.Name x px) iter (tIB C pa E mi))
  (ht:∀pins c s H ex,PIf (X.blk scope N pins c s H ex) ifs (exT X.K pc mt)) (he:∀pins c s H ex,PE (X.blk scope N pins c s H ex) elt (exX .O X.K pe me)) (hio:cs.filterMap Cp.is=[]:=by decide)
  (hs:∀x,foldedSetIterable iter X.env x=pure x:=by intro _;rfl):PE X (.ListComp elt [⟨.Name x px,iter,ifs,0⟩] scope pos) (tX .O C (pa && p) E (Yq par cs j mi mt me)):=
 Ql (QdA hc B hi (fun _ _ _ _ _=>pg_name (i:=j) B.nd hjN (.inl (lookup_relabel_local hx)) (.inr (lookup_relabel_local hx))) ht he hs) fun _ _ _ h=>Qif hK hj hio h
end
def JX (tc:MT)(te:ME):List D->Rho->List D->Rs (List D×Rho)
 | [],ρ,acc=>.ok (acc,ρ)
 |d::ds,ρ,acc=>(Rs.of (Qhj 0 1 d ρ)).bind fun ρ0=>(tc ρ0).bind fun c=>if c.1=true then(te c.2).bind fun r=>if acc.length<z18 then JX tc te ds ((r.2.set 1 none).set 0 none) (acc++[r.1]) else .no
  else JX tc te ds ((c.2.set 1 none).set 0 none) acc
def Qbq (par:Bool)(cs:List Cp)(mi:MA)(tc:MT)(te:ME):ME:=fun ρ=>(mi ρ).bind fun r=>(Rs.of (Yp par r.2 @16)).bind fun di=>(Rs.of (QaS r.2 cs di)).bind fun ρb=>
 match JX tc te r.1 ρb [] with
 |.ok q=>(Rs.of (outs (ioB cs) q.2)).bind fun os=>.ok (.lst q.1,YA par r.2 @16 os)
 |_=>.no
theorem QlL {X:Cx}{C:Cn}{F H:Hp}{σ:L2.St}{ρ ρ':Rho}{τ:List (L2.V×D)}{fp:List Addr}{x:L2.V}{d:D}(hK:C.K=X.K)(I:SI C F H σ ρ τ fp)(r:R X.K F x d)(h:Qhj 0 1 d ρ=some ρ') :
  ∃v1 v2 fp',SI C F H ((σ.set 0 (some v1)).set 1 (some v2)) ρ' τ fp'/\∀Q:L2.St->Hp->Prop,Q ((σ.set 0 (some v1)).set 1 (some v2)) H->gTup X.K 2 (gCons (gName 0) (gCons (gName 1) gNil)) x σ H Q:=by
 unfold Qhj at h
 split at h
 ·next a b=>
  rw[← hK] at r
  obtain⟨q,vs,rfl,h1,h2⟩:=r.inv
  obtain⟨v1,v2,rfl,r1,r2⟩:=h2.two
  obtain⟨ρ1,e1,e2⟩:=z25.mp h
  obtain⟨fp1,J1,s1⟩:=SI.V7 I r1 e1
  obtain⟨fp2,J2,s2⟩:=SI.V7 J1 r2 e2
  exact⟨v1,v2,fp2,J2,fun Q hq=>⟨q,[v1,v2],rfl,by rw[← hK];exact(At.same h1 I.fh).sqt,rfl,v1,[v2],rfl,v2,[],rfl,rfl,hq⟩⟩
 ·cases h
theorem ext2 {σ:L2.St}{y0 y1:Option L2.V}(h0:σ[0]? = some none)(h1:σ[1]? = some none):Ext σ ((σ.set 0 y0).set 1 y1):=by
 refine⟨by rw[zb8,zb8],fun i v e=>?_⟩
 have n0:i≠0:=fun z=>by subst z;rw[h0] at e;cases e
 have n1:i≠1:=fun z=>by subst z;rw[h1] at e;cases e
 rw[z57 (zd8 n1),z57 (zd8 n0)]
 exact e
theorem QrK {C:Cn}{F H:Hp}{σ:L2.St}{ρ:Rho}{τ:List (L2.V×D)}{fp:List Addr}{v1 v2:L2.V}(I:SI C F H ((σ.set 0 (some v1)).set 1 (some v2)) ρ τ fp)(h0:σ[0]? = some none)(h1:σ[1]? = some none)(n0:∀v,(0,v)∉C.Qe2)(n1:∀v,(1,v)∉C.Qe2):∃fp',SI C F H σ ((ρ.set 1 none).set 0 none) τ fp':=by
 obtain⟨fp1,J⟩:=SI.clr (j:=1) (x:=v2) I (by rw[z57 @3];exact h1) n1
 exact SI.clr (j:=0) (x:=v1) J h0 n0
section
variable {X:Cx}{C:Cn}{E:XE}{p pa pc pe:Bool}{me:ME}{mt:MT}{mi:MA}{pos:Pos}{k rk:Kd}{elt iter:Expr}{x:Str}{ifs:List Expr}{scope:Scope}{N:List Str}{cs:List Cp}{par:Bool}
theorem Qcq {tc:MT}{te:ME}:∀{ds:List D} {ρ:Rho} {acc:List D},JX tc te ds ρ acc=Y4 (Qhj 0 1) (fun ρ=>(ρ.set 1 none).set 0 none) tc te ds ρ acc
 | [],ρ,acc=>rfl
 |d::ds,ρ,acc=>by
  unfold JX Y4
  congr 1;funext ρ0;congr 1;funext c
  split
  ·congr 1;funext r;split
   ·exact Qcq
   ·rfl
  ·exact Qcq
theorem Qjy {ρ:Rho}:Qbq par cs mi mt me ρ=(mi ρ).bind (QgG par cs (Qhj 0 1) (fun ρ=>(ρ.set 1 none).set 0 none) mt me):=by
 unfold Qbq QgG
 simp only[Qcq]<;>rfl
theorem QlM {σ:L2.St}(hj:cs[0]? = some .me)(hj1:cs[1]? = some .me):QpM X.K cs (Q0 (cs.map Cp.ix) σ) (Qhj 0 1) (fun ρ=>(ρ.set 1 none).set 0 none) (gTup X.K 2 (gCons (gName 0) (gCons (gName 1) gNil))):=fun{Cb F H ρ ρ' τ fp x d} hK np I r e=>by
 have hb:∀k:Nat,cs[k]? = some Cp.me->(Q0 (cs.map Cp.ix) σ)[k]? = some none:=fun k hk=>by
  unfold Q0
  rw[z29,z29,hk]
  rfl
 obtain⟨v1,v2,fp4,I4,gq⟩:=QlL (C:=Cb) hK I (by rw[← hK];exact r) e
 exact⟨_,fp4,I4,ext2 (hb 0 hj) (hb 1 hj1),gq,fun I3=>QrK I3 (hb 0 hj) (hb 1 hj1) (np 0 hj) (np 1 hj1)⟩
theorem QeG (hK:C.K=X.K)(hj:cs[0]? = some .me)(hj1:cs[1]? = some .me)(nd:(cs.filterMap Cp.is).Nodup)(hp:p=true->cs.filterMap Cp.is=[]){σ:L2.St}{H:Hp}{Q:VK}(h:tX .O C (pa && p) E (Qbq par cs mi mt me) σ H Q):Qc1 (tI C pa E mi) (cs.map Cp.ix) (gTup X.K 2 (gCons (gName 0) (gCons (gName 1) gNil))) (exT X.K pc mt) (exX .O X.K pe me) σ H Q:=by
 obtain⟨F,ρ,τ,fp,I,h⟩:=h
 rw[Qjy] at h
 exact⟨F,ρ,τ,fp,I,h.split.mono fun r hr F1 H1 fp1 J I1 n1 it=>QdL hK nd hp (QlM hj hj1) I1 n1 (fun Cb h1 _ _ _=>⟨fun I s e=>h1▸it.go h1 I s e,fun I s=>it.stop h1 I s⟩) hr⟩
theorem QdV {tg:Expr}(hK:C.K=X.K)(hc:X.calm=true)(B:Blk X scope N (cs.map Cp.ix))(hj:cs[0]? = some .me)(hj1:cs[1]? = some .me)(hi:PI X tg iter (tI C pa E mi))(hg:∀pins c s H ex,PG (X.blk scope N pins c s H ex) tg (gTup X.K 2 (gCons (gName 0) (gCons (gName 1) gNil))))
  (ht:∀pins c s H ex,PIf (X.blk scope N pins c s H ex) ifs (exT X.K pc mt)) (he:∀pins c s H ex,PE (X.blk scope N pins c s H ex) elt (exX .O X.K pe me)) (nd:(cs.filterMap Cp.is).Nodup:=by decide) (hp:p=true->cs.filterMap Cp.is=[]:=by decide)
  (hs:∀x,foldedSetIterable iter X.env x=pure x:=by intro _;rfl):PE X (.ListComp elt [⟨tg,iter,ifs,0⟩] scope pos) (tX .O C (pa && p) E (Qbq par cs mi mt me)):=
 Ql (QdA hc B hi hg ht he hs) fun _ _ _ h=>QeG hK hj hj1 nd hp h
theorem Qjz {tg:Expr}{y:Str}{py spos:Pos}{i0:Nat}(hK:C.K=X.K)(hc:X.calm=true)(hXN:X.N.Nodup)(hi0:X.N[i0]? = some y)(hy:Loc X.env.scope y)(B:Blk X scope N (cs.map Cp.ix))(hj:cs[0]? = some .me)(hj1:cs[1]? = some .me)(hi:PI X tg iter (tI C pa E mi))(hg:∀pins c s H ex,PG (X.blk scope N pins c s H ex) tg (gTup X.K 2 (gCons (gName 0) (gCons (gName 1) gNil))))
  (ht:∀pins c s H ex,PIf (X.blk scope N pins c s H ex) ifs (exT X.K pc mt)) (he:∀pins c s H ex,PE (X.blk scope N pins c s H ex) elt (exX .O X.K pe me)) (nd:(cs.filterMap Cp.is).Nodup:=by decide)
  (hsw:swapsWith (.ListComp elt [⟨tg,iter,ifs,0⟩] scope pos) (some (.Name y py)) spos.line X.env=pure true:=by rfl)
  (hf:X.fn y=true\/X.env.scope.names.lookup y=some .local:=by first|exact .inl rfl|exact .inr rfl|assumption)
  (hs:∀x,foldedSetIterable iter X.env x=pure x:=by intro _;rfl):PS X (.Assign [.Name y py] (.ListComp elt [⟨tg,iter,ifs,0⟩] scope pos) spos) (tS rk C E (Qjn i0 (Qbq par cs mi mt me))):=
 QT (QbS hc hXN hi0 hy B hi hg ht he hsw hf hs) fun D σ H h=>by
  have q:=QdI (p:=pa && false) h
  refine QeG (p:=false) (par:=par) hK hj hj1 nd (fun z=>nomatch z) ?_
  obtain⟨F,ρ,τ,fp,I,r⟩:=q
  exact⟨F,ρ,τ,fp,I,r.mono fun a z F' H' fp' v I' n f=>by
   obtain⟨F2,rest,J,sf,rr,je⟩:=SI.freeze (show SI C F' H' σ a.2 ((v,a.1)::τ) fp' from I')
   exact z F2 H' rest v J ⟨n.f.trans sf,fun hp=>by rw[je];exact n.g hp⟩ rr⟩
end
end TL
namespace TL
open PySem PySem.Spec L2 PyProof.Rows
section
variable {m:ME}{mr:MA}
def Qou (mr:MA):ME:=fun ρ=>(mr ρ).bind fun r=>(Rs.of (Qe5 r.1)).bind fun n=>if n.toNat<=2 ^ 24 then .ok (.lst (Qq4 0 n.toNat),r.2) else .no
theorem Qig {K:z01}{F:Hp}:∀{vs:List L2.V} {ds:List D},RL K F vs ds->RL K F vs.reverse ds.reverse
 |_,_,.nil=>.nil
 |_,_,.cons (v:=v) (d:=d) r q=>by
  rw[zd9,zd9]
  exact(Qig q).app (.cons r .nil)
def QlN (m:ME):ME:=fun ρ=>(m ρ).bind fun r=>(Rs.of (asL r.1)).bind fun xs=>if D.QI xs.reverse=true then .ok (.lst xs.reverse,r.2) else .no
end
end TL
namespace TL
open PySem PySem.Spec L2
section
variable {X:Cx}{C:Cn}{E:XE}{p:Bool}{e o a:Expr}{es:List Expr}{mr:MA}{pos:Pos}{ks:List Kd}
def Qov (ks:List Kd)(mr:MA):ME:=fun ρ=>(mr ρ).bind fun r=>(Rs.of (Qax ks r.1 r.2)).bind fun q=>if q.1.length<=z18 then .ok (.lst q.1,q.2) else .no
theorem QlO (h:PA X es (tA ks C p E mr)):PE X (.List es pos) (tX .O C false E (Qov ks mr)):=Ql (pe_lst h) fun σ H Q ⟨F,ρ,τ,fp,I,h⟩=>by
 refine⟨F,ρ,τ,fp,I,h.split.mono fun r1 h1 F1 H1 fp1 vs I1 n1 f1=>?_⟩
 obtain⟨q,eq,h2⟩:=h1.split.of
 obtain⟨f,rest,ol,pm,J,w1,w2⟩:=collect f1 I1 (show Qax ks r1.1 r1.2=some (q.1,q.2) from eq)
 by_cases hz:q.1.length<=z18
 ·rw[if_pos hz] at h2
  refine⟨by rw[ol.length];exact hz,fun t ht=>?_⟩
  have J2:=J.lay0 (o:=.lst vs) ht
  have nd:=pm.nodup_iff.mp I1.nd
  have nt:∀a∈f,a≠t:=fun a ha=>by
   obtain⟨o,e,_⟩:=ol.mem a ha
   exact ne_of_none e ht
  have ntr:t∉f++rest:=fun z=>by
   obtain⟨o,e,_⟩:=I1.mem t (pm.mem_iff.mpr z)
   rw[ht] at e;cases e
  have ol2:=ol.keep (Same.refl F1) (H':=upd H1 t (.lst vs)) fun a ha=>upd_ne (nt a ha)
  exact h2 _ _ _ (.ref t) (J2.push (f:=t::f) (.mt (t:=.lst) upd_same ol2) (fun a ha=>(z19.mp ha).elim (fun z=>by rw[z];exact I1.dm t ht) fun z=>w1 a z) (fun a ha=>(z19.mp ha).elim (fun z=>by rw[z];exact I1.fh.free ht) fun z=>w2 a z) (z60.mpr ⟨ntr,nd⟩)) ⟨n1.f,fun z=>nomatch z⟩ z50
 ·rw[if_neg hz] at h2;exact h2.elim
end
section
variable {X:Cx}{C:Cn}{E:XE}{p:Bool}{e:Expr}{m:ME}{pos px py pos2:Pos}{k:Kd}
theorem QlP (hK:C.K=X.K)(hc:X.calm=true)(hml:X.mg "list" = none)(hmr:X.mg "reversed" = none)(he:PE X e (tX k C p E m))(ok:k.on true=true:=by rfl)(hgl:Gl X "list" := by rfl)(hgr:Gl X "reversed" := by rfl)(s1:starEach [e] X.env=@15::starEach [] X.env:=by rfl)(p1:(backTo pos2 (starEach [] X.env)).any (·.1)=false:=by rfl)
  (s2:starEach [.Call (.Name "reversed" py) [e] [] pos2] X.env=(false,eval (.Call (.Name "reversed" py) [e] [] pos2) X.env)::starEach [] X.env:=by rfl) (p2:(backTo pos (starEach [] X.env)).any (·.1)=false:=by rfl) :
  PE X (.Call (.Name "list" px) [.Call (.Name "reversed" py) [e] [] pos2] [] pos) (tX .O C p E (QlN m)):=Ql (QkQ hc he hml hmr hgl hgr s1 p1 s2 p2) fun σ H Q ⟨F,ρ,τ,fp,I,h⟩=>by
 refine⟨F,ρ,τ,fp,I,h.split.mono fun r1 h1 F1 H1 fp1 v1 I1 n1 f1=>?_⟩
 rw[Kd.JH ok] at I1
 obtain⟨xs,e1,h4⟩:=h1.split.of
 have g1:R C.K (jn F1 H1 fp1) v1 (.nd .lst xs):=by rw[← Qbo e1];exact Kd.stay ok f1 .refl I1
 obtain⟨l1,us,rfl,a1,rl1⟩:=g1.inv
 refine⟨l1,us,rfl,by rw[← hK];exact(At.same a1 (Yd I1.fh)).sql,fun q hq=>?_⟩
 by_cases hi:D.QI xs.reverse=true
 ·rw[if_pos hi] at h4
  exact h4 _ _ _ _ (I1.newList hq (I1.loL (Qig rl1) hi) hi) ((n1.trans (q:=true) ⟨Same.refl _,fun _=>Qcb I1 hq⟩).weak fun z=>by simp[z]) z50
 ·rw[if_neg hi] at h4;exact h4.elim
end
noncomputable def QrL:Option Sl->Option Sl
 |some (.own d)=>some (.frz d)
 |some (.par d)=>some (.frz d)
 |s=>s
abbrev QgI (ρ:Rho):Rho:=ρ.map QrL
def lent (C:Cn)(F H:Hp)(fp:List Addr):Cn:=⟨C.K,H,jn F H fp,[],[]⟩
section
variable {K:z01}{F F' H F2 H2:Hp}{C:Cn}{σ σ2:L2.St}{ρ ρ2:Rho}{τ τ2:List (L2.V×D)}{fp fp2:List Addr}
theorem SL.lend {f g:List Addr}(sf:Same F F')(s:SL K F H σ ρ f g):(∀a∈f++g,F' a=H a)->SL K F' H σ (QgI ρ) [] []:=by
 induction s with
 |nil=>exact fun _=>.nil
 | @cons x s σ ρ f0 g0 f g h r ih=>
  intro k
  refine .cons (f0:=[]) (g0:=[]) (f:=[]) (g:=[]) ?_ (ih fun a ha=>k a (by simp at ha ⊢;rcases ha with z|z<;>simp[z]))
  cases h with
  |non=>exact .non
  |frz h=>exact .frz (h.same sf)
  |own h=>exact .frz (h.r sf fun a ha=>k a (by simp[ha]))
  |par h=>exact .frz (h.r sf fun a ha=>k a (by simp[ha]))
theorem SI.Qih (I:SI C F H σ ρ τ fp):SI (lent C F H fp) (jn F H fp) H σ (QgI ρ) [] []:=by
 obtain⟨f,g,t,s,o,q,_⟩:=I.sl
 refine⟨⟨[],[],[],s.lend (QgC I.ap) (fun a ha=>JB (q.mem_iff.mpr ?_)),.nil,.refl _,@5,@5,@5⟩,za2,@5,Yd I.fh,Same.refl _,fun b o e=>.inl e,fun b o e _=>e,fun b e=>e,(fun _ _ z=>nomatch z)⟩
 simp at ha ⊢
 rcases ha with z|z<;>simp[z]
theorem SI.QrM (I:SI C F H σ ρ τ fp)(J:SI (lent C F H fp) F2 H2 σ2 ρ2 τ2 fp2):∀b∈fp,∀o,F2 b=some o->Mbl o:=fun b hb o e=>by
 obtain⟨o',e',m⟩:=I.mem b hb
 have:F2 b=some o':=J.f0 b o' ((JB hb).trans e')
 rw[this] at e;cases e
 exact m
theorem SI.Qii (I:SI C F H σ ρ τ fp)(J:SI (lent C F H fp) F2 H2 σ2 ρ2 τ2 fp2):Same F (TL.lo F2 fp):=fun b o e=>by
 have nb:b∉fp:=fun z=>by rw[I.ap b z] at e;cases e
 rw[Yz nb]
 exact J.f0 b o ((QG nb).trans e)
theorem SI.back (I:SI C F H σ ρ τ fp)(J:SI (lent C F H fp) F2 H2 σ2 ρ2 τ2 fp2):SI C (TL.lo F2 fp) H2 σ ρ τ fp:=by
 have up:∀b o,H b=some o->H2 b=some o:=fun b o e=>J.kp b o e zc3
 refine I.step (I.Qii J) (lo_le.trans J.fh) (fun a ha=>?_) (fun a ha=>Qej ha) (fun b o e=>?_) (fun b o _ _ e=>up b o e) (fun b e=>J.dm b e)
 ·obtain⟨o,e,_⟩:=I.mem a ha
  rw[e,up a o e]
 ·have nb:b∉fp:=fun z=>by rw[Qej z] at e;cases e
  rw[Yz nb] at e
  rcases J.fn b o e with z|z
  ·exact .inl ((QG nb).symm.trans z)
  ·exact .inr (z.imp (I.dm b) id)
theorem SI.Qqs {v:L2.V}{d:D}(I:SI C F H σ ρ τ fp)(J:SI (lent C F H fp) F2 H2 σ2 ρ2 ((v,d)::τ2) fp2):∃f,SI C (TL.lo F2 fp) H2 σ ρ ((v,d)::τ) (f++fp)/\Nx true F H fp (TL.lo F2 fp) H2 (f++fp):=by
 obtain⟨f,rest,o,p,J2,h0,ap,nd⟩:=J.pop
 have h0':∀a∈f,H a=none:=h0
 have dis:∀a∈f,a∉fp:=fun a ha hb=>by
  obtain⟨o,e,_⟩:=I.mem a hb
  rw[h0' a ha] at e;cases e
 have apf:∀a∈f,TL.lo F2 fp a=none:=fun a ha=>(Yz (dis a ha)).trans (ap a ha)
 refine⟨f,(I.back J).push (o.lo (I.QrM J)) (fun a ha=>I.dm a (h0' a ha)) apf (z17.mpr ⟨(z17.mp nd).1,I.nd,fun a ha b hb e=>dis a ha (e▸hb)⟩),I.Qii J,fun _ b ob e=>?_⟩
 by_cases hb:b∈fp
 ·rw[JB hb] at e
  rw[JB (z04 _ hb)]
  exact J.kp b ob e zc3
 ·rw[QG hb] at e
  have z:=I.Qii J b ob e
  have nf:b∉f:=fun w=>by rw[apf b w] at z;cases z
  rw[QG (fun w=>(z14.mp w).elim nf hb)]
  exact z
theorem SI.Qqt (I:SI C F H σ ρ τ fp)(J:SI (lent C F H fp) F2 H2 σ2 ρ2 τ2 fp2):Nx true F H fp (TL.lo F2 fp) H2 fp:=⟨I.Qii J,fun _ b ob e=>by
 by_cases hb:b∈fp
 ·rw[JB hb] at e ⊢
  exact J.kp b ob e zc3
 ·rw[QG hb] at e ⊢
  exact I.Qii J b ob e⟩
end
section
variable {X:Cx}{C:Cn}{E:XE}{p:Bool}{e:Expr}{m:ME}{mt:MT}
def Qij (m:ME):ME:=fun ρ=>match m (QgI ρ) with
 |.ok r=>.ok (r.1,ρ)
 |_=>.no
def QfX (m:MT):MT:=fun ρ=>match m (QgI ρ) with
 |.ok r=>.ok (r.1,ρ)
 |_=>.no
theorem QlQ {σ:L2.St}{H:Hp}{Q:VK}(q:tX .O C true E (Qij m) σ H Q):∃C',C'.K=C.K/\tX .O C' p E m σ H Q:=by
 obtain⟨F,ρ,τ,fp,J,z⟩:=q
 refine⟨lent C F H fp,rfl,jn F H fp,QgI ρ,[],[],J.Qih,?_⟩
 unfold Qij at z
 cases q:m (QgI ρ) with
 |ok r=>
  rw[q] at z
  intro F2 H2 fp2 v J2 _ _
  obtain⟨f,J3,n⟩:=J.Qqs J2
  exact z _ H2 _ v J3 n z50
 |ex c ρ'=>rw[q] at z;exact z.elim
 |no=>rw[q] at z;exact z.elim
theorem Qik (hK:C.K=X.K)(h:∀C',C'.K=X.K->PT X e (tT C' p E mt)):PT X e (tT C true E (QfX mt)):=fun pins s σ H Q I q=>by
 obtain⟨F,ρ,τ,fp,J,z⟩:=q
 refine h (lent C F H fp) hK pins s σ H Q I ⟨jn F H fp,QgI ρ,[],[],J.Qih,?_⟩
 unfold QfX at z
 cases q:mt (QgI ρ) with
 |ok r=>
  rw[q] at z
  intro F2 H2 fp2 J2 _
  exact z _ H2 _ (J.back J2) (J.Qqt J2)
 |ex c ρ'=>rw[q] at z;exact z.elim
 |no=>rw[q] at z;exact z.elim
theorem lend_eq {ρ:Rho}{d:D}{ρ1:Rho}(h:m (QgI ρ)=.ok (d,ρ1)):Qij m ρ=.ok (d,ρ):=by unfold Qij;rw[h]
theorem QfY {ρ:Rho}{b:Bool}{ρ1:Rho}(h:mt (QgI ρ)=.ok (b,ρ1)):QfX mt ρ=.ok (b,ρ):=by unfold QfX;rw[h]
theorem QjA {rk:Kd}{pa:Bool}{elt iter:Expr}{x y:Str}{px py pos spos:Pos}{ifs:List Expr}{scope:Scope}{N:List Str}{cs:List Cp}{j i0:Nat}{par:Bool}{mi:MA}{mt:MT}{me:ME}{pc pe:Bool}(hK:C.K=X.K)(hc:X.calm=true)(hXN:X.N.Nodup)(hi0:X.N[i0]? = some y)(hy:Loc X.env.scope y)(B:Blk X scope N (cs.map Cp.ix))(hjN:N[j]? = some x)(hj:cs[j]? = some .me)(hx:scope.names.lookup x=some .local)(hi:∀C',C'.K=X.K->PI X (.Name x px) iter (tI C' pa E mi))
  (ht:∀pins c s H ex,PIf (X.blk scope N pins c s H ex) ifs (exT X.K pc mt)) (he:∀pins c s H ex,PE (X.blk scope N pins c s H ex) elt (exX .O X.K pe me)) (nd:(cs.filterMap Cp.is).Nodup:=by decide)
  (hsw:swapsWith (.ListComp elt [⟨.Name x px,iter,ifs,0⟩] scope pos) (some (.Name y py)) spos.line X.env=pure true:=by rfl)
  (hf:X.fn y=true\/X.env.scope.names.lookup y=some .local:=by first|exact .inl rfl|exact .inr rfl|assumption)
  (hs:∀x,foldedSetIterable iter X.env x=pure x:=by intro _;rfl):PS X (.Assign [.Name y py] (.ListComp elt [⟨.Name x px,iter,ifs,0⟩] scope pos) spos) (tS rk C E (Qjn i0 (Qij (Yq par cs j mi mt me)))):=
 QT (QbS (wi:=fun σ H R=>∃C',C'.K=X.K/\tI C' pa E mi σ H R) hc hXN hi0 hy B (fun pins s σ H R I z=>by obtain⟨C',k,z⟩:=z;exact hi C' k pins s σ H R I z) (fun _ _ _ _ _=>pg_name (i:=j) B.nd hjN (.inl (lookup_relabel_local hx)) (.inr (lookup_relabel_local hx))) ht he hsw hf hs) fun D σ H h=>by
  obtain⟨F,ρ,τ,fp,I,r⟩:=QdI (p:=true) h
  obtain⟨C',k,q⟩:=QlQ (p:=pa && false) (C:=C) ⟨F,ρ,τ,fp,I,r.mono fun a z F' H' fp' v I' n f=>by
   obtain⟨F2,rest,J,sf,rr,je⟩:=SI.freeze (show SI C F' H' σ a.2 ((v,a.1)::τ) fp' from I')
   exact z F2 H' rest v J ⟨n.f.trans sf,fun hp=>by rw[je];exact n.g hp⟩ rr⟩
  exact⟨C',k.trans hK,Qaw (p:=false) (par:=par) (k.trans hK) hj nd (fun z=>nomatch z) q⟩
end
section
variable {P:Program}{w:World}{K:z01}{mg:Str->Option Value}{base:Heap}{x qual:Str}{st:Stmt}{f:Addr}{fd:FuncData}{N ps:List Str}{k:Nat}
theorem fnU {io:List Bool}{rk:Kd}{mb:MS}(Fn:Fun K x qual st f fd)(S:FnScope N ps (defScope st))(hio:io.length=ps.length)(hrk:rk=.V\/rk=.O)
  (hbody:∀{cdv:Value} {A:Around} {outer:List Env} {s:Shared} {H:Hp} {E:XK} {C:Cn},C.K=K->Room k (A.deeper (zd3 qual (defScope st) s.heap.objs.size f cdv))->A.handled=none->N.Nodup->PassesOwn (model P w) (A.deeper (zd3 qual (defScope st) s.heap.objs.size f cdv)) (zd3 qual (defScope st) s.heap.objs.size f cdv) (cxOf (CXe P w) P w K mg base N qual (defScope st) f cdv A outer s H E).xe->
   PSs (cxOf (CXe P w) P w K mg base N qual (defScope st) f cdv A outer s H E) (defBody st) (tS rk C (fun _=>E) mb)):FnOk P w K mg base (CXe P w) (k+1) f fd ps (spF K io rk (Qx io N.length mb)):=
 fnT Fn S hio hrk fun _ _ _ _ _ _ _ hC hr hd=>hbody hC hr hd S.nd QqN
end
section
variable {X:Cx}{C:Cn}{E:XE}{p:Bool}{e:Expr}{m:ME}{px py pos pos2:Pos}
def Qqu (m:ME):ME:=fun ρ=>(m ρ).bind fun r=>(Rs.of (asL r.1)).bind fun xs=>.ok (.tup xs.reverse,r.2)
theorem QlR (hK:C.K=X.K)(hc:X.calm=true)(hml:X.mg "tuple" = none)(hmr:X.mg "reversed" = none)(he:PE X e (tX .V C p E m))(hgl:Gl X "tuple" := by rfl)(hgr:Gl X "reversed" := by rfl)(s1:starEach [e] X.env=@15::starEach [] X.env:=by rfl)(p1:(backTo pos2 (starEach [] X.env)).any (·.1)=false:=by rfl)
  (s2:starEach [.Call (.Name "reversed" py) [e] [] pos2] X.env=(false,eval (.Call (.Name "reversed" py) [e] [] pos2) X.env)::starEach [] X.env:=by rfl) (p2:(backTo pos (starEach [] X.env)).any (·.1)=false:=by rfl) :
  PE X (.Call (.Name "tuple" px) [.Call (.Name "reversed" py) [e] [] pos2] [] pos) (tX .V C p E (Qqu m)):=Ql (QkR hc he hml hmr hgl hgr s1 p1 s2 p2) fun σ H Q z=>by
 obtain⟨F,ρ,τ,fp,I,h⟩:=z
 refine⟨F,ρ,τ,fp,I,h.split.mono fun r1 h1 F1 H1 fp1 v1 I1 n1 f1=>?_⟩
 obtain⟨xs,e1,h4⟩:=h1.split.of
 have g1:R C.K F1 v1 (.nd .lst xs):=by rw[← Qbo e1];exact f1
 obtain⟨l1,us,rfl,a1,rl1⟩:=g1.inv
 refine⟨l1,us,rfl,by rw[← hK];exact(At.same a1 I1.fh).sql,fun q hq=>?_⟩
 have s:=Same.upd (o:=HO.tup us.reverse) (I1.fh.free hq)
 exact h4 _ _ fp1 _ (I1.lay hq) ((n1.trans (q:=true) ⟨s,fun _=>Qca I1 hq⟩).weak fun z=>by simp[z]) (.nd (t:=.tup) upd_same ((Qig rl1).same s))
end
end TL
namespace TL
open PySem PySem.Spec L2 L2.Srt
section
variable {s:Option Sl}{ρ ρ1 ρ2:Rho}{k:D×Rho->Prop}{kf:Fl×Rho->Prop}{a b m:ME}{mt:MT}{mr:MA}{mb:MS}{d x y:D}{xs ys:List D}{i:Nat}{c:Bool}
theorem Yy {α:Type}{r:Rs α}{x:α}:W r (fun a=>a=x)↔r=.ok x:=⟨fun⟨a,e,h⟩=>by rw[e,h],fun h=>⟨x,h,rfl⟩⟩
theorem QS {r:Fr}{d:D}{os:List D}(h:FW r fun a b=>a=d/\b=os):r=.ok d os:=by obtain⟨a,b,e,rfl,rfl⟩:=h;exact e
theorem Qow:W (Qm3 m (s::ρ)) kf↔W (m (s::ρ)) fun r=>kf (.nx,r.2):=by
 show W ((m (s::ρ)).bind fun r=>.ok (.nx,r.2)) kf↔_
 simp only[Qh,JK]
def nvK (r:D×Rho):Rs (D×Rho):=Rs.of ((asB r.1).map fun b=>(.bl (!b),r.2))
theorem Qox:nvK (.bl c,ρ)=.ok (.bl (!c),ρ):=rfl
theorem Qoy:W (QmW m (s::ρ)) k↔W (m (s::ρ)) fun r=>W (nvK r) k:=Qh
theorem Qqv {tg:D->Rho->Option Rho}:W (QrI tg m (s::ρ)) kf↔W (m (s::ρ)) fun r=>W (Rs.of (tg r.1 r.2)) fun ρ'=>kf (.nx,ρ'):=by
 show W ((m (s::ρ)).bind fun r=>(Rs.of (tg r.1 r.2)).bind fun ρ'=>.ok (.nx,ρ')) kf↔_
 simp only[Qh,JK]
theorem QlS {i j:Nat}:Qhj i j (.nd .tup [x,y]) ρ=(V7 ρ i x).bind fun ρ1=>V7 ρ1 j y:=rfl
def Qrc (k:Addr)(nm:Str)(r:D×Rho):Rs (D×Rho):=if QeC k nm r.1=true then .ok r else .no
theorem QlT {a:Addr}{nm:Str}:Qrc a nm (d,ρ)=if QeC a nm d=true then .ok (d,ρ) else .no:=rfl
theorem Qqw {a:Addr}{nm:Str}:W (Qms a nm m (s::ρ)) k↔W (m (s::ρ)) fun r=>W (Qrc a nm r) k:=Qh
theorem Qoz {a:Addr}{f:Str}:Qol a f (.nd (.ins a [f]) [d])=some d:=by
 show(if a=a then Qh1 [f] [d] f else none)=_
 rw[if_pos rfl]
 show(if(f == f)=true then some d else _)=_
 rw[if_pos @9]
theorem Qqx {par:Bool}(hi:ρ[i]? = some (some (mkS par (.lst (xs++[d])))))(hm:D.QI (xs++[d])=true)(h:k (d,ρ.set i (some (mkS par (.lst xs))))):W (Qql i ρ) k:=by
 have e1:VJ ρ i=some (par,xs++[d]):=by unfold VJ;rw[hi];cases par<;>rfl
 refine⟨_,?_,h⟩
 unfold Qql
 rw[e1]
 show((Rs.of ((xs++[d])[(xs++[d]).length - 1]?)).bind fun y=>if D.QI (xs++[d])=true then .ok (y,ρ.set i (some (mkS par (.lst (xs++[d]).dropLast)))) else .no)=_
 have e2:(xs++[d])[(xs++[d]).length - 1]? = some d:=by simp
 rw[e2]
 show(if D.QI (xs++[d])=true then Rs.ok (d,ρ.set i (some (mkS par (.lst (xs++[d]).dropLast)))) else .no)=_
 rw[if_pos hm,List.dropLast_concat]
theorem Qqy {par:Bool}{n:Int}(hi:ρ[i]? = some (some (mkS par (.lst xs))))(hr:mr ρ=.ok ([.int n,d],ρ))(h0:0<=n)(h1:n<=xs.length)(h2:xs.length<z18)(hm:(D.QI xs && d.imm)=true)(h:kf (.nx,ρ.set i (some (mkS par (.lst (xs.take n.toNat++d::xs.drop n.toNat)))))):W (Qpj i mr ρ) kf:=by
 have e1:VJ ρ i=some (par,xs):=by unfold VJ;rw[hi];cases par<;>rfl
 refine⟨_,?_,h⟩
 unfold Qpj
 rw[e1,hr]
 show((Rs.of (VJ ρ i)).bind fun q=>if 0<=n/\n<=q.2.length/\q.2.length<z18/\(D.QI q.2 && d.imm)=true then Rs.ok (Fl.nx,ρ.set i (some (mkS q.1 (.lst (q.2.take n.toNat++d::q.2.drop n.toNat))))) else .no)=_
 rw[e1]
 show(if 0<=n/\n<=xs.length/\xs.length<z18/\(D.QI xs && d.imm)=true then Rs.ok (Fl.nx,ρ.set i (some (mkS par (.lst (xs.take n.toNat++d::xs.drop n.toNat))))) else .no)=_
 rw[if_pos ⟨h0,h1,h2,hm⟩]
theorem QjB {par:Bool}{n j:Int}{mi mj:ME}{p q:Nat}{ρ1:Rho}(hi:ρ1[i]? = some (some (mkS par (.lst ys))))(hv:m ρ=.ok (d,ρ1))(h1:mi ρ1=.ok (.int n,ρ1))(h2:mj ρ1=.ok (.int j,ρ1))(e1:ixN ys.length n=some p)(e2:ys[p]? = some (.lst xs))(e3:ixN xs.length j=some q)
  (h:kf (.nx,ρ1.set i (some (mkS par (.lst (ys.set p (.lst (xs.set q d)))))))):W (Vg i m mi mj ρ) kf:=by
 have el:VJ ρ1 i=some (par,ys):=by unfold VJ;rw[hi];cases par<;>rfl
 refine⟨_,?_,h⟩
 unfold Vg
 simp only[hv,h1,h2,el,e1,e2,e3,Rs.bind,Rs.of,asI,asL,zg5]
theorem QaB {par:Bool}{n j:Int}{mi mj:ME}{p q:Nat}(hi:ρ[i]? = some (some (mkS par (.lst ys))))(hv:m ρ=.ok (d,ρ))(h1:mi ρ=.ok (.int n,ρ))(h2:mj ρ=.ok (.int j,ρ))(e1:ixN ys.length n=some p)(e2:ys[p]? = some (.lst xs))(e3:ixN xs.length j=some q)
  (h:kf (.nx,ρ.set i (some (mkS par (.lst (ys.set p (.lst (xs.set q d)))))))):W (Vg i m mi mj ρ) kf:=QjB hi hv h1 h2 e1 e2 e3 h
theorem Qil {N n:Nat}(Inv:Nat->Rho->Prop)(step:∀n ρ,Inv n ρ->W (mt ρ) fun c=>(c.1=true->W (mb c.2) fun r=>r.1=.nx/\∃n',n' < n/\Inv n' r.2)/\(c.1=false->kf (.nx,c.2)))(h:Inv n ρ)(hn:n<N):W (Qj4 N mt mb ρ) kf:=by
 show W (whl mt mb N ρ) kf
 induction N generalizing n ρ with
 |zero=>lia
 |succ N ih=>
  obtain⟨⟨c,ρ1⟩,e,h1,h2⟩:=step n ρ h
  unfold whl
  rw[e]
  show W (if c=true then _ else _) kf
  cases c with
  |false=>rw[if_neg @3];exact JK.mpr (h2 rfl)
  |true=>
   rw[if_pos rfl]
   obtain⟨⟨f,ρ2⟩,e2,e3,n',hn',hi⟩:=h1 rfl
   have e3:f=.nx:=e3
   subst e3
   rw[e2]
   exact ih hi @1
theorem QlU {rk:Kd}{f:List D->Fr}{os:List D}(h:mr ρ=.ok (xs,ρ1))(hf:f xs=.ok d os):QfT rk f mr ρ=.ok (d,ρ1):=by
 unfold QfT;rw[h];show(match f xs with|.ok d _=>_|.ex _=>_|.no=>_)=_;rw[hf]
theorem QjC {a:Addr}{f:Addr->D->Fr}(h:mr ρ=.ok ([x],ρ1))(hf:∀y,f y x=.ok d [])(hi:(QgH a d && d.imm)=true):Qmt a f mr ρ=.ok (d,ρ1):=by
 unfold Qmt;rw[h]
 show(match Qki f x with|.ok i _=>_|.ex c=>_|.no=>_)=_
 rw[QlA hf]
 show(if(QgH a d && d.imm)=true then Rs.ok (d,ρ1) else .no)=_
 rw[if_pos hi]
def Qrd (r:D×Rho):Rs (D×Rho):=(Rs.of (Qfe r.1)).bind fun ps=>if ps.length<64 then .ok (.lst ((QcV QcS ps).map pnD),r.2) else .no
theorem QlV:W (Qkn m (s::ρ)) k↔W (m (s::ρ)) fun r=>W (Qrd r) k:=Qh
def Qre (r:List D×Rho):Rs (D×Rho):=(Rs.of (Qfd r.1)).bind fun ps=>.ok (.lst (ps.map npD),r.2)
theorem QlW:W (Qkm mr (s::ρ)) k↔W (mr (s::ρ)) fun r=>W (Qre r) k:=Qh
theorem QlX {ps:List NP}(h:ps.Nodup)(hl:ps.length<64):Qre ([.lst (ps.map npD)],ρ)=.ok (.lst ((QcV YI ps).map npD),ρ):=by
 show(Rs.of ((npL (ps.map npD)).bind fun ps=>if ps.Nodup/\ps.length<64 then some (QcV YI ps) else none)).bind _=_
 rw[Qib]
 show(Rs.of (if ps.Nodup/\ps.length<64 then some (QcV YI ps) else none)).bind _=_
 rw[if_pos ⟨h,hl⟩];rfl
end
def sbK (r:D×Rho):Rs (List D×Rho):=(Rs.of (QgE [r.1])).bind fun ds=>if D.QI ds=true then .ok (ds,r.2) else .no
theorem QlY {xs:List D}{ρ:Rho}(h:D.QI xs=true):sbK (.nd .lst xs,ρ)=.ok (xs,ρ):=by
 show(if D.QI xs=true then Rs.ok (xs,ρ) else .no)=_
 rw[if_pos h]
theorem QoA {m:ME}{s:Option Sl}{ρ:Rho}{ka:List D×Rho->Prop}:W (Qot m (s::ρ)) ka↔W (m (s::ρ)) fun r=>W (sbK r) ka:=Qh
theorem QrN {xs:List D}{i:Int}:gIx (.nd .lst xs) (.int i)=atI xs i:=rfl
theorem QrO {xs:List D}{i:Int}:gIx (.nd .tup xs) (.int i)=atI xs i:=rfl
theorem Qqz {xs:List D}:QaT [.nd .lst xs]=some (.int xs.length):=rfl
theorem QqA {xs:List D}:QaT [.nd .tup xs]=some (.int xs.length):=rfl
def atL (L:List @17)(p:Int×Int):Int:=(L.getD p.1.toNat []).getD p.2.toNat 0
def Qz (L:List @17)(p:Int×Int)(v:Int):List @17:=L.set p.1.toNat ((L.getD p.1.toNat []).set p.2.toNat v)
structure Rc (h w:Nat)(L:List @17):Prop where
 hi:L.length=h
 wi:∀r∈L,r.length=w
def inR (h w:Nat)(p:Int×Int):Prop:=0<=p.1/\p.1<h/\0<=p.2/\p.2<w
instance {h w:Nat} {p:Int×Int}:Decidable (inR h w p):=inferInstanceAs (Decidable (_/\_/\_/\_))
def rwI (r:List Int):D:=.lst (r.map .int)
def rD (L:List @17):D:=.lst (L.map rwI)
def tuI (r:List Int):D:=.tup (r.map .int)
def tuD (L:List @17):D:=.tup (L.map tuI)
theorem Vh {n:Nat}{i:Int}(h0:0<=i)(h1:i<n):ixN n i=some i.toNat:=by
 unfold ixN
 simp only[h0,h1]
 simp
theorem Qa8 {α:Type}(f:α->D)(d:α){xs:List α}{i:Int}(h0:0<=i)(h1:i<xs.length):atI (xs.map f) i=some (f (xs.getD i.toNat d)):=by
 unfold atI
 rw[z00,Vh h0 h1]
 show(xs.map f)[i.toNat]? = _
 have:i.toNat<xs.length:=by lia
 rw[z29,z05 this,z09,z05 this];rfl
theorem Rc.row {h w:Nat}{L:List @17}(r:Rc h w L){i:Int}(h0:0<=i)(h1:i<h):(L.getD i.toNat []).length=w:=by
 have:i.toNat<L.length:=by rw[r.hi];lia
 rw[z09,z05 this]
 exact r.wi _ (z97 this)
theorem Qa9 {h w:Nat}{L:List @17}(r:Rc h w L){i:Int}(h0:0<=i)(h1:i<h):gIx (rD L) (.int i)=some (rwI (L.getD i.toNat [])):=Qa8 rwI [] h0 (by rw[r.hi];exact h1)
theorem QlZ {h w:Nat}{L:List @17}(r:Rc h w L){i:Int}(h0:0<=i)(h1:i<h):gIx (tuD L) (.int i)=some (tuI (L.getD i.toNat [])):=Qa8 tuI [] h0 (by rw[r.hi];exact h1)
theorem QoB {l:List Int}{j:Int}(h0:0<=j)(h1:j<l.length):gIx (rwI l) (.int j)=some (.int (l.getD j.toNat 0)):=Qa8 D.int 0 h0 h1
theorem QqB {l:List Int}{j:Int}(h0:0<=j)(h1:j<l.length):gIx (tuI l) (.int j)=some (.int (l.getD j.toNat 0)):=Qa8 D.int 0 h0 h1
theorem QeH {h w:Nat}{L:List @17}(r:Rc h w L){p:Int×Int}(hp:inR h w p):gIx (rwI (L.getD p.1.toNat [])) (.int p.2)=some (.int (atL L p)):=QoB hp.2.2.1 (by rw[r.row hp.1 hp.2.1];exact hp.2.2.2)
theorem QoC {h w:Nat}{L:List @17}(r:Rc h w L){p:Int×Int}(hp:inR h w p):gIx (tuI (L.getD p.1.toNat [])) (.int p.2)=some (.int (atL L p)):=QqB hp.2.2.1 (by rw[r.row hp.1 hp.2.1];exact hp.2.2.2)
theorem Rc.set {h w:Nat}{L:List @17}(r:Rc h w L){p:Int×Int}(hp:inR h w p){v:Int}:Rc h w (Qz L p v):=by
 refine⟨by unfold Qz;rw[zb8];exact r.hi,fun l hl=>?_⟩
 rcases zi4 hl with hl|rfl
 ·exact r.wi _ hl
 ·rw[zb8];exact r.row hp.1 hp.2.1
theorem QdW {h w:Nat}{L:List @17}(r:Rc h w L){p q:Int×Int}(hp:inR h w p)(hq:inR h w q){v:Int}:atL (Qz L p v) q=if q=p then v else atL L q:=by
 obtain⟨a,b⟩:=p
 obtain⟨c,d⟩:=q
 obtain⟨p1,p2,p3,p4⟩:=hp
 obtain⟨q1,q2,q3,q4⟩:=hq
 have hl:=r.row p1 p2
 have e1:=r.hi
 dsimp only at p1 p2 p3 p4 q1 q2 q3 q4 hl
 unfold atL Qz
 dsimp only
 simp only[z09,zy7] at hl ⊢
 by_cases h1:a=c
 ·subst h1
  rw[if_pos rfl,if_pos @1]
  simp only[zx3,zy7]
  by_cases h2:b=d
  ·subst h2
   rw[if_pos rfl,if_pos @1,if_pos rfl];rfl
  ·rw[if_neg @1,if_neg (by intro z;exact h2 (by rw[zm2] at z;exact z.2.symm))]
 ·rw[if_neg @1,if_neg (by intro z;exact h1 (by rw[zm2] at z;exact z.1.symm))]
theorem Qko {h w:Nat}{L:List @17}(r:Rc h w L){p:Int×Int}(hp:inR h w p){v:Int}:(L.map rwI).set p.1.toNat (.lst (((L.getD p.1.toNat []).map D.int).set p.2.toNat (.int v)))=(Qz L p v).map rwI:=by
 unfold Qz
 rw[zp2]
 show _=(L.map rwI).set p.1.toNat (D.lst (((L.getD p.1.toNat []).set p.2.toNat v).map D.int))
 rw[zp2]
theorem JP:∀(l:List Int),D.QI (l.map .int)=true
 | []=>rfl
 |_::l=>JP l
def arL (p:Int×Int):List (Int×Int):=[(p.1 - 1,p.2),(p.1,p.2 - 1),(p.1,p.2+1),(p.1+1,p.2)]
def okN (h w:Nat)(F:List @17)(p:Int×Int):Bool:=decide (inR h w p) && !decide (atL F p=0)
def nbL (h w:Nat)(F:List @17)(p:Int×Int):List (Int×Int):=(arL p).filter (okN h w F)
section
variable {h w:Nat}{F R R' R0:List @17}{e y:NP}{wt wt' wt0:List NP}{ns:List (Int×Int)}{u v p:Int×Int}{least:Int}{dn:Int×Int->Bool}
theorem Q9 (k:okN h w F p=true):inR h w p/\atL F p≠0:=by
 unfold okN at k
 simpa using k
theorem QeI (k:v∈nbL h w F p):okN h w F v=true:=(z69.mp k).2
def Nn (h w:Nat)(F:List @17):Prop:=∀p,inR h w p->0<=atL F p
theorem QjD (p:Int×Int):(nbL h w F p).length<=4:=z70 _ _
theorem QqC (k:YI e y=true):e.1<=y.1:=by
 unfold YI at k
 simp at k
 lia
structure Gv (h w:Nat)(F:List @17)(e:NP)(R0:List @17)(wt0:List NP)(ns:List (Int×Int))(R:List @17)(wt:List NP):Prop where
 rc:Rc h w R
 up:∀p,inR h w p->atL R0 p<=atL R p
 ch:∀p,inR h w p->atL R p=atL R0 p\/(p∈ns/\atL R p=e.1 - atL F p/\(atL R p,p)∈wt)
 ge:∀p∈ns,inR h w p->e.1 - atL F p<=atL R p
 pw:wt.Pairwise (fun a b=>YI a b=true)
 i1:∀x∈wt,okN h w F x.2=true/\x.1<=atL R x.2
 sb:∀x∈wt0,x∈wt
 nw:∀x∈wt,x∈wt0\/(x.1=e.1 - atL F x.2/\atL R0 x.2<x.1/\x.2∈ns)
 ln:wt.length<=wt0.length+ns.length
theorem Gv.start (rc:Rc h w R)(pw:wt.Pairwise (fun a b=>YI a b=true))(i1:∀x∈wt,okN h w F x.2=true/\x.1<=atL R x.2):Gv h w F e R wt [] R wt:=
 ⟨rc,fun _ _=>zf2 _,fun _ _=>.inl rfl,@5,pw,i1,fun _ z=>z,fun _ z=>.inl z,by simp⟩
theorem Gv.skip (g:Gv h w F e R0 wt0 ns R wt)(k:¬ e.1 - atL F v > atL R v):Gv h w F e R0 wt0 (ns++[v]) R wt where
 rc:=g.rc
 up:=g.up
 ch:=fun p hp=>(g.ch p hp).imp id fun⟨a,b⟩=>⟨z15 _ a,b⟩
 ge:=fun p hp ip=>by
  rcases z14.mp hp with hp|hp
  ·exact g.ge p hp ip
  ·rw[z38.mp hp];lia
 pw:=g.pw
 i1:=g.i1
 sb:=g.sb
 nw:=fun x hx=>(g.nw x hx).imp id fun⟨a,b,c⟩=>⟨a,b,z15 _ c⟩
 ln:=by have:=g.ln;rw[z49];lia
theorem Gv.put (g:Gv h w F e R0 wt0 ns R wt)(hv:okN h w F v=true)(k:e.1 - atL F v > atL R v)(hw:wt'.Perm ((e.1 - atL F v,v)::wt))(pw:wt'.Pairwise (fun a b=>YI a b=true)):Gv h w F e R0 wt0 (ns++[v]) (Qz R v (e.1 - atL F v)) wt':=by
 have iv:=(Q9 hv).1
 have as:∀p,inR h w p->atL (Qz R v (e.1 - atL F v)) p=if p=v then e.1 - atL F v else atL R p:=fun p hp=>QdW g.rc iv hp
 have up1:∀p,inR h w p->atL R p<=atL (Qz R v (e.1 - atL F v)) p:=fun p hp=>by
  rw[as p hp]
  split
  ·rename_i e;subst e;lia
  ·exact zf2 _
 refine⟨g.rc.set iv,fun p hp=>z79 (g.up p hp) (up1 p hp),fun p hp=>?_,fun p hp ip=>?_,pw,fun x hx=>?_,fun x hx=>hw.mem_iff.mpr (z08 _ (g.sb x hx)),fun x hx=>?_,?_⟩
 ·rw[as p hp]
  split
  ·rename_i e1
   subst e1
   exact .inr ⟨z04 _ z07,rfl,hw.mem_iff.mpr z07⟩
  ·exact(g.ch p hp).imp id fun⟨a,b,c⟩=>⟨z15 _ a,b,hw.mem_iff.mpr (z08 _ c)⟩
 ·rcases z14.mp hp with hp|hp
  ·exact z79 (g.ge p hp ip) (up1 p ip)
  ·rw[z38.mp hp,as v iv,if_pos rfl];exact zf2 _
 ·rcases z19.mp (hw.mem_iff.mp hx) with rfl|hx
  ·exact⟨hv,by rw[as v iv,if_pos rfl];exact zf2 _⟩
  ·exact⟨(g.i1 x hx).1,z79 (g.i1 x hx).2 (up1 _ (Q9 (g.i1 x hx).1).1)⟩
 ·rcases z19.mp (hw.mem_iff.mp hx) with rfl|hx
  ·exact .inr ⟨rfl,by have:=g.up v iv;dsimp only;lia,z04 _ z07⟩
  ·exact(g.nw x hx).imp id fun⟨a,b,c⟩=>⟨a,b,z15 _ c⟩
 ·have:=g.ln
  rw[hw.length_eq,z49]
  simp
  lia
structure Jv (h w:Nat)(F R0:List @17)(least:Int)(dn:Int×Int->Bool)(R:List @17)(wt:List NP):Prop where
 rc:Rc h w R
 pw:wt.Pairwise (fun a b=>YI a b=true)
 i1:∀x∈wt,okN h w F x.2=true/\x.1<=atL R x.2
 up:∀p,inR h w p->atL R0 p<=atL R p
 i2:∀u,okN h w F u=true->least<atL R u->(atL R u,u)∈wt\/dn u=true
 d1:∀u,dn u=true->okN h w F u=true/\(∀v∈nbL h w F u,atL R u - atL F v<=atL R v)/\(∀x∈wt,x.1<=atL R u)/\(atL R u,u)∉wt
 so:∀p,inR h w p->atL R p=atL R0 p\/∃u,dn u=true/\p∈nbL h w F u/\atL R p=atL R u - atL F p
theorem Jv.stale (j:Jv h w F R0 least dn R (wt++[e]))(ne:atL R e.2≠e.1):Jv h w F R0 least dn R wt where
 rc:=j.rc
 pw:=(zh0.mp j.pw).1
 i1:=fun x hx=>j.i1 x (z15 _ hx)
 up:=j.up
 i2:=fun u hu hl=>(j.i2 u hu hl).imp (fun hm=>by
  rcases z14.mp hm with hm|hm
  ·exact hm
  ·have q:=z38.mp hm
   rw[← q] at ne
   exact absurd rfl ne) id
 d1:=fun u hu=>by
  obtain⟨a,b,c,d⟩:=j.d1 u hu
  exact⟨a,b,fun x hx=>c x (z15 _ hx),fun hm=>d (z15 _ hm)⟩
 so:=j.so
theorem Jv.give (hF:Nn h w F)(j:Jv h w F R0 least dn R (wt++[e]))(eq:atL R e.2=e.1)(g:Gv h w F e R wt (nbL h w F e.2) R' wt') :
  Jv h w F R0 least (fun p=>dn p || decide (p=e.2)) R' wt'/\dn e.2=false/\okN h w F e.2=true:=by
 obtain⟨pw1,_,pw3⟩:=zh0.mp j.pw
 have le:∀x∈wt,x.1<=e.1:=fun x hx=>QqC (pw3 x hx e z07)
 have ne:e∉wt:=fun hm=>by have:=pw3 e hm e z07;rw[Qat.irr] at this;cases this
 have oke:okN h w F e.2=true:=(j.i1 e (z04 _ z07)).1
 have ie:=(Q9 oke).1
 have nd:dn e.2=false:=by
  cases q:dn e.2 with
  |false=>rfl
  |true=>exact absurd (by rw[eq];exact z04 _ z07) (j.d1 _ q).2.2.2
 have lo:∀v,v∈nbL h w F e.2->0<=atL F v:=fun v hv=>hF v (Q9 (QeI hv)).1
 -- high cells stay
 have st:∀u,inR h w u->e.1<=atL R u->atL R' u=atL R u:=fun u iu hu=>by
  rcases g.ch u iu with q|⟨a,b,c⟩
  ·exact q
  ·have:=lo u a
   have:=g.up u iu
   lia
 have dhi:∀u,dn u=true->e.1<=atL R u:=fun u hu=>(j.d1 u hu).2.2.1 e (z04 _ z07)
 have din:∀u,dn u=true->inR h w u:=fun u hu=>(Q9 (j.d1 u hu).1).1
 have ste:atL R' e.2=e.1:=by rw[st e.2 ie @1,eq]
 have wle:∀x∈wt',x.1<=e.1:=fun x hx=>by
  rcases g.nw x hx with q|⟨a,b,c⟩
  ·exact le x q
  ·have:=lo _ c;lia
 refine⟨⟨g.rc,g.pw,g.i1,fun p hp=>z79 (j.up p hp) (g.up p hp),fun u hu hl=>?_,fun u hu=>?_,fun p hp=>?_⟩,nd,oke⟩
 ·have iu:=(Q9 hu).1
  rcases g.ch u iu with q|⟨a,b,c⟩
  ·rw[q] at hl ⊢
   rcases j.i2 u hu hl with hm|hd
   ·rcases z14.mp hm with hm|hm
    ·exact .inl (g.sb _ hm)
    ·have q2:=z38.mp hm
     exact .inr (by rw[← q2];simp)
   ·exact .inr (by rw[hd];rfl)
  ·exact .inl c
 ·rcases zm8.mp hu with hu|hu
  ·obtain⟨a,b,c,d⟩:=j.d1 u hu
   have eu:=st u (din u hu) (dhi u hu)
   rw[eu]
   refine⟨a,fun v hv=>z79 (b v hv) (g.up v (Q9 (QeI hv)).1),fun x hx=>z79 (wle x hx) (dhi u hu),fun hm=>?_⟩
   rcases g.nw _ hm with q|⟨a1,b1,c1⟩
   ·exact d (z15 _ q)
   ·dsimp only at b1;lia
  ·have hu:u=e.2:=of_decide_eq_true hu
   subst hu
   rw[ste]
   refine⟨oke,fun v hv=>g.ge v hv (Q9 (QeI hv)).1,wle,fun hm=>?_⟩
   rcases g.nw _ hm with q|⟨a1,b1,c1⟩
   ·exact ne q
   ·dsimp only at b1;lia
 ·rcases g.ch p hp with q|⟨a,b,c⟩
  ·rw[q]
   rcases j.so p hp with q2|⟨u,hu,hn,hv⟩
   ·exact .inl q2
   ·exact .inr ⟨u,by rw[hu];rfl,hn,by rw[st u (din u hu) (dhi u hu)];exact hv⟩
  ·exact .inr ⟨e.2,by simp,a,by rw[ste];exact b⟩
theorem Jv.fin (hF:Nn h w F)(hl:∀p,inR h w p->least<=atL R0 p)(j:Jv h w F R0 least dn R []):∀u,okN h w F u=true->∀v∈nbL h w F u,atL R u - atL F v<=atL R v:=fun u hu v hv=>by
 by_cases q:least<atL R u
 ·rcases j.i2 u hu q with hm|hd
  ·cases hm
  ·exact(j.d1 u hd).2.1 v hv
 ·have iv:=(Q9 (QeI hv)).1
  have:=j.up v iv
  have:=hl v iv
  have:=hF v iv
  lia
def Qcr (ps:List (Int×Int))(dn:Int×Int->Bool):Nat:=(ps.filter fun p=>!dn p).length
theorem QjE (ps:List (Int×Int))(dn:Int×Int->Bool):Qcr ps dn<=ps.length:=z70 _ _
theorem QgJ {ps:List (Int×Int)}:Qcr ps (fun p=>dn p || decide (p=u))<=Qcr ps dn:=by
 unfold Qcr
 induction ps with
 |nil=>exact z32 _
 |cons a ps ih=>
  rw[z54,z54]
  cases qd:dn a with
  |true=>simpa[qd] using ih
  |false=>
   by_cases q:a=u
   ·simp[q,qd];simp at ih;lia
   ·simpa[q,qd] using ih
theorem QdX:∀{ps:List (Int×Int)},u∈ps->dn u=false->Qcr ps (fun p=>dn p || decide (p=u))+1<=Qcr ps dn
 |a::ps,hm,hd=>by
  by_cases q:a=u
  ·subst q
   have:=QgJ (dn:=dn) (u:=a) (ps:=ps)
   unfold Qcr at this ⊢
   rw[z54,z54]
   simp[hd]
   simpa using this
  ·have hm:u∈ps:=(z19.mp hm).resolve_left (fun z=>q z.symm)
   have ih:=QdX hm hd
   unfold Qcr at ih ⊢
   rw[z54,z54]
   cases qd:dn a with
   |true=>simpa[qd] using ih
   |false=>simpa[q,qd] using ih
end
end TL
namespace TL
open PySem PySem.Spec L2
section
variable {s:Option Sl}{ρ:Rho}{k:D×Rho->Prop}{m:ME}{mr:MA}
def QqD (par:Bool)(cs:List Cp)(tc:MT)(te:ME)(r:List D×Rho):Rs (D×Rho):=(Rs.of (Yp par r.2 @16)).bind fun di=>(Rs.of (QaS r.2 cs di)).bind fun ρb=>
 match JX tc te r.1 ρb [] with
 |.ok q=>(Rs.of (outs (ioB cs) q.2)).bind fun os=>.ok (.lst q.1,YA par r.2 @16 os)
 |_=>.no
theorem Qff {par:Bool}{cs:List Cp}{mi:MA}{tc:MT}{te:ME}:W (Qbq par cs mi tc te (s::ρ)) k↔W (mi (s::ρ)) fun r=>W (QqD par cs tc te r) k:=Qh
theorem V8 {tc:MT}{te:ME}{f:D->Bool}{g:D->D}{ρ:Rho}:∀{ds:List D} {acc:List D},(∀d∈ds,∃ρ0,Qhj 0 1 d ρ=some ρ0/\tc ρ0=.ok (f d,ρ0)/\(f d=true->te ρ0=.ok (g d,ρ0))/\(ρ0.set 1 none).set 0 none=ρ)->acc.length+ds.length<=z18->
  JX tc te ds ρ acc=.ok (acc++(ds.filter f).map g,ρ)
 | [],acc,h,l=>by simp[JX]
 |d::ds,acc,h,l=>by
  obtain⟨ρ0,e0,e1,e2,e3⟩:=h d z07
  unfold JX
  rw[e0]
  show(tc ρ0).bind _=_
  rw[e1]
  show(if f d=true then _ else _)=_
  by_cases hf:f d=true
  ·rw[if_pos hf,e2 hf]
   show(if acc.length<z18 then _ else _)=_
   rw[if_pos (by simp at l;lia),e3,V8 (fun d' hd'=>h d' (z08 _ hd')) (by simp at l ⊢;lia),z54,if_pos hf]
   simp
  ·rw[if_neg hf,e3,V8 (fun d' hd'=>h d' (z08 _ hd')) (by simp at l ⊢;lia),z54,if_neg hf]
theorem Qim {par:Bool}{cs:List Cp}{tc:MT}{te:ME}{ρb:Rho}{ds di os:List D}{f:D->Bool}{g:D->D}(h2:Yp par ρ @16=some di)(h3:QaS ρ cs di=some ρb)
  (hs:∀d∈ds,∃ρ0,Qhj 0 1 d ρb=some ρ0/\tc ρ0=.ok (f d,ρ0)/\(f d=true->te ρ0=.ok (g d,ρ0))/\(ρ0.set 1 none).set 0 none=ρb) (l:ds.length<=z18) (ho:outs (ioB cs) ρb=some os) (hp:YA par ρ @16 os=ρ) (hk:k (.lst ((ds.filter f).map g),ρ)):W (QqD par cs tc te (ds,ρ)) k:=by
 refine⟨_,?_,hk⟩
 unfold QqD
 show(Rs.of (Yp par ρ _)).bind _=_
 rw[h2]
 show(Rs.of (QaS ρ cs di)).bind _=_
 rw[h3]
 show(match JX tc te ds ρb [] with|.ok q=>_|_=>_)=_
 rw[V8 hs (by simpa using l)]
 show(Rs.of (outs (ioB cs) ρb)).bind _=_
 rw[ho]
 show Rs.ok (D.lst _,YA par ρ @16 os)=_
 rw[hp,List.nil_append]
def rvK (r:D×Rho):Rs (D×Rho):=(Rs.of (asL r.1)).bind fun xs=>if D.QI xs.reverse=true then .ok (.lst xs.reverse,r.2) else .no
theorem QoD {xs:List D}:rvK (.nd .lst xs,ρ)=if D.QI xs.reverse=true then .ok (.lst xs.reverse,ρ) else .no:=rfl
theorem QoE:W (QlN m (s::ρ)) k↔W (m (s::ρ)) fun r=>W (rvK r) k:=Qh
def lrK (r:List D×Rho):Rs (D×Rho):=(Rs.of (Qe5 r.1)).bind fun n=>if n.toNat<=2 ^ 24 then .ok (.lst (Qq4 0 n.toNat),r.2) else .no
theorem Ql0:W (Qou mr (s::ρ)) k↔W (mr (s::ρ)) fun r=>W (lrK r) k:=Qh
def tpK (ks:List Kd)(r:List D×Rho):Rs (D×Rho):=(Rs.of (Qax ks r.1 r.2)).bind fun q=>if q.1.length<=z18 then .ok (.tup q.1,q.2) else .no
theorem QoF {ks:List Kd}:W (Qp0 ks mr (s::ρ)) k↔W (mr (s::ρ)) fun r=>W (tpK ks r) k:=Qh
def pD:D->Int×Int
 |.nd .tup [.int a,.int b]=>(a,b)
 |_=>(0,0)
def Qmv:D->D
 |.nd .tup [a,_]=>a
 |d=>d
def QqE:D->D
 |.nd .tup [_,s]=>s
 |d=>d
def l2t:D->D
 |.nd .lst xs=>.tup xs
 |d=>d
def t2l:D->D
 |.nd .tup xs=>.lst xs
 |d=>d
def Qrf:D->D
 |.nd .lst xs=>.int (YN ((QfW xs).getD []))
 |d=>d
end
end TL
namespace TL
open PySem PySem.Spec L2 L2.Srt
def sq (b:Bool)(xs:List D):D:=.nd (bif b then .tup else .lst) xs
def rwB (b:Bool)(r:List Int):D:=sq b (r.map .int)
def rB (a b:Bool)(L:List @17):D:=sq a (L.map (rwB b))
section
variable {b:Bool}{xs:List D}{ρ:Rho}{i:Int}
theorem QeJ:siK (sq b xs,ρ)=.ok (xs,ρ):=by cases b<;>rfl
theorem QoG:tvK ([sq b xs],ρ)=.ok (.tup xs,ρ):=by cases b<;>rfl
theorem Qfg:QaT [sq b xs]=some (.int xs.length):=by cases b<;>rfl
theorem QoH:gIx (sq b xs) (.int i)=atI xs i:=by cases b<;>rfl
theorem QqF {a:Bool}{h w:Nat}{L:List @17}(r:Rc h w L)(h0:0<=i)(h1:i<h):gIx (rB a b L) (.int i)=some (rwB b (L.getD i.toNat [])):=QoH.trans (Qa8 (rwB b) [] h0 (by rw[r.hi];exact h1))
end
end TL
namespace G22
open PySem PySem.Spec L2 TL
structure Z where
 K:z01
 Qj:Addr
 QaC:Tok
 JQ:Tok
 QfZ:Tok
 Jt:Tok
 YO:Tok
 YQ:Tok
 YR:Tok
 YS:Tok
def top (i:Nat):Stmt:=PySem.Challenge.pw_glowcells_k22_whole_lights.main.body.getD i (.Pass ⟨0,0,0,0⟩)
structure Txt (mg:Str->Option Value):Prop where
 QrP:mg "all" = none
 bool:mg "bool" = none
 enumerate:mg "enumerate" = none
 int_:mg "int" = none
 isinstance:mg "isinstance" = none
 len:mg "len" = none
 QdY:mg "list" = none
 QoI:mg "max" = none
 QqG:mg "min" = none
 range:mg "range" = none
 reversed:mg "reversed" = none
 sorted:mg "sorted" = none
 str_:mg "str" = none
 tuple:mg "tuple" = none
structure Con (mg:Str->Option Value)(z:Z):Prop where
 Qcs:mg "Floor" = some (.ref z.Qj)
 QaD:mg "FIGURES" = some (.str "0123456789" z.QaC)
 JR:mg "LEAST_GLASS" = some (.int 2 z.JQ)
 Qde:mg "MOST" = some (.int 30 z.QfZ)
 Ju:mg "MOST_FIGURES" = some (.int 60 z.Jt)
 JY:mg "OPEN_LOSS" = some (.int 1 z.YO)
 JZ:mg "OPEN_WORD" = some (.str "." z.YQ)
 Jp:mg "WALL_LOSS" = some (.int 0 z.YR)
 J0:mg "WALL_WORD" = some (.str "#" z.YS)
 Qr:Cls z.K z.Qj
 Qs:NoAttr z.K z.Qj "losses"
 dummy:True
noncomputable section
local macro_rules
 | `(~~~$x)=>`(⟨rfl,rfl,rfl,by decide +kernel,rfl,by decide +kernel,by decide +kernel⟩)
local macro_rules
 | `($x^^^$y)=>`(Room.mono $x @3)
abbrev Qdf:Stmt:=top 10
def Qdg (z:Z):{m:MS // ∀{P w mg base f fd} (T:Txt mg) (con:Con mg z) (F:Fun z.K "is_whole" "is_whole" Qdf f fd) ,FnOk P w z.K mg base (CXe P w) 1 f fd ["value"] (spF z.K [false] .V (Qx [false] 1 m))}:=
 ⟨_,fun T con F  => fnU (N:=["value"]) F (~~~0) rfl (.inl rfl) fun hC hr hd S hown=>(Qi (Qp (Qhf (Qn YB (Qmq hC) T.isinstance VB (Qa (xv 0) (Qa (V5 T.int_ Qch) Qb))) (Qhe (QpE (Qn YB (Qmq hC) T.isinstance VB (Qa (xv 0) (Qa (V5 T.bool Qc9) Qb))))))))⟩
def Qdh (z:Z):List D->Fr:=Qx [false] 1 (Qdg z).1
abbrev Qba (P:Program)(w:World)(mg:Str->Option Value)(base:Heap)(z:Z):=Qm P w z.K mg base 1 "is_whole" ["value"] (spF z.K [false] .V (Qdh z))
abbrev Qct:Stmt:=top 11
def Qcu (z:Z):{m:MS // ∀{P w mg base f fd} (T:Txt mg) (con:Con mg z) (F:Fun z.K "is_listed" "is_listed" Qct f fd) ,FnOk P w z.K mg base (CXe P w) 1 f fd ["value"] (spF z.K [false] .V (Qx [false] 1 m))}:=
 ⟨_,fun T con F  => fnU (N:=["value"]) F (~~~0) rfl (.inl rfl) fun hC hr hd S hown=>(Qi (Qp (Qn YB (Qmq hC) T.isinstance VB (Qa (xv 0) (Qa (Q8 (Qa (V5 T.QdY TL.boot_list) (Qa (V5 T.tuple TL.boot_tuple) Qb))) Qb)))))⟩
def Qcv (z:Z):List D->Fr:=Qx [false] 1 (Qcu z).1
abbrev V9 (P:Program)(w:World)(mg:Str->Option Value)(base:Heap)(z:Z):=Qm P w z.K mg base 1 "is_listed" ["value"] (spF z.K [false] .V (Qcv z))
abbrev Qdi:Stmt:=top 15
def Qbb (z:Z):{m:MS // ∀{P w mg base f fd} (T:Txt mg) (con:Con mg z) (F:Fun z.K "in_order" "in_order" Qdi f fd) ,FnOk P w z.K mg base (CXe P w) 1 f fd ["strengths"] (spF z.K [false] .O (Qx [false] 1 m))}:=
 ⟨_,fun T con F  => fnU (N:=["strengths"]) F (~~~0) rfl (.inr rfl) fun hC hr hd S hown=>(Qi (Qp (Qjv rfl (hu3 hr) T.sorted Qbp (xv 0))))⟩
def Qdj (z:Z):List D->Fr:=Qx [false] 1 (Qbb z).1
abbrev Qdk (P:Program)(w:World)(mg:Str->Option Value)(base:Heap)(z:Z):=Qm P w z.K mg base 1 "in_order" ["strengths"] (spF z.K [false] .O (Qdj z))
abbrev Qbr:Stmt:=inClass (top 24) 1
def Vi (z:Z):{m:MS // ∀{P w mg base f fd} (T:Txt mg) (con:Con mg z) (F:Fun z.K "high" "Floor.high" Qbr f fd) ,FnOk P w z.K mg base (CXe P w) 1 f fd ["self"] (spF z.K [false] .V (Qx [false] 1 m))}:=
 ⟨_,fun T con F  => fnU (N:=["self"]) F (~~~0) rfl (.inl rfl) fun hC hr hd S hown=>(Qi (Qp (Qn call_len (Qbn hC) T.len z44 (Qa (Qda con.Qr con.Qs (xv 0)) Qb))))⟩
def Qbs (z:Z):List D->Fr:=Qx [false] 1 (Vi z).1
abbrev Vj (P:Program)(w:World)(mg:Str->Option Value)(base:Heap)(z:Z):=QH P w z.K mg base z.Qj 1 "high" ["self"] (spF z.K [false] .V (Qbs z))
abbrev Qbt:Stmt:=inClass (top 24) 2
def Vk (z:Z):{m:MS // ∀{P w mg base f fd} (T:Txt mg) (con:Con mg z) (F:Fun z.K "wide" "Floor.wide" Qbt f fd) ,FnOk P w z.K mg base (CXe P w) 1 f fd ["self"] (spF z.K [false] .V (Qx [false] 1 m))}:=
 ⟨_,fun T con F  => fnU (N:=["self"]) F (~~~0) rfl (.inl rfl) fun hC hr hd S hown=>(Qi (Qp (Qn call_len (Qbn hC) T.len z44 (Qa (Qw hC (Qda con.Qr con.Qs (xv 0)) Qc) Qb))))⟩
def Vl (z:Z):List D->Fr:=Qx [false] 1 (Vk z).1
abbrev Vm (P:Program)(w:World)(mg:Str->Option Value)(base:Heap)(z:Z):=QH P w z.K mg base z.Qj 1 "wide" ["self"] (spF z.K [false] .V (Vl z))
abbrev Qbu:Stmt:=inClass (top 24) 3
def Vn (z:Z):{m:MS // ∀{P w mg base f fd} (T:Txt mg) (con:Con mg z) (F:Fun z.K "rows" "Floor.rows" Qbu f fd) ,FnOk P w z.K mg base (CXe P w) 1 f fd ["self"] (spF z.K [false] .O (Qx [false] 1 m))}:=
 ⟨_,fun T con F  => fnU (N:=["self"]) F (~~~0) rfl (.inr rfl) fun hC hr hd S hown=>(Qi (Qp (QU (p:=true) (par:=false) (cs:=[.me]) (N:=["row"]) (j:=0) hC rfl Blk.of rfl rfl rfl (QJ hC (Qda con.Qr con.Qs (xv 0))) (fun _ _ _ _ _=>QR) (fun _ _ _ _ _=>Jn fun Cb hb=>(QaZ (x := "") T.QdY hb (Qa (xv 0) Qb))))))⟩
def Qbv (z:Z):List D->Fr:=Qx [false] 1 (Vn z).1
abbrev Vo (P:Program)(w:World)(mg:Str->Option Value)(base:Heap)(z:Z):=QH P w z.K mg base z.Qj 1 "rows" ["self"] (spF z.K [false] .O (Qbv z))
abbrev Vp:Stmt:=inClass (top 24) 8
def J4 (z:Z):{m:MS // ∀{P w mg base f fd} (T:Txt mg) (con:Con mg z) (F:Fun z.K "is_wall" "Floor.is_wall" Vp f fd) ,FnOk P w z.K mg base (CXe P w) 1 f fd ["self","place"] (spF z.K [false,false] .V (Qx [false,false] 2 m))}:=
 ⟨_,fun T con F  => fnU (N:=["self","place"]) F (~~~0) rfl (.inl rfl) fun hC hr hd S hown=>(Qi (Qp (Qjd (Q6 (QaU hr)) (QcU hC) (Qw hC (Qw hC (Qda con.Qr con.Qs (xv 0)) (Qw hC (xv 1) Qc)) (Qw hC (xv 1) Qc)) (Jc (d:=.int 0) rfl ⟨_,rfl⟩ con.Jp) (nomark _))))⟩
def Vq (z:Z):List D->Fr:=Qx [false,false] 2 (J4 z).1
abbrev QW (P:Program)(w:World)(mg:Str->Option Value)(base:Heap)(z:Z):=QH P w z.K mg base z.Qj 1 "is_wall" ["self","place"] (spF z.K [false,false] .V (Vq z))
abbrev Qf0:Stmt:=top 25
def Qf1 (z:Z):{m:MS // ∀{P w mg base f fd} (T:Txt mg) (con:Con mg z) (F:Fun z.K "around" "around" Qf0 f fd) ,FnOk P w z.K mg base (CXe P w) 1 f fd ["place"] (spF z.K [false] .O (Qx [false] 3 m))}:=
 ⟨_,fun T con F  => fnU (N:=["place","row","column"]) F (~~~0) rfl (.inr rfl) fun hC hr hd S hown=>(Qe (Qv (i:=1) S rfl (z39 rfl) (Qw hC (xv 0) Qc))
  (Qe (Qv (i:=2) S rfl (z39 rfl) (Qw hC (xv 0) Qc))
  (Qi (Qp (Qcc (Qa (Q8 (Qa (JG op_sub Qk0 (xv 1) Qc) (Qa (xv 2) Qb))) (Qa (Q8 (Qa (xv 1) (Qa (JG op_sub Qk0 (xv 2) Qc) Qb))) (Qa (Q8 (Qa (xv 1) (Qa (JG op_add QbQ (xv 2) Qc) Qb))) (Qa (Q8 (Qa (JG op_add QbQ (xv 1) Qc) (Qa (xv 2) Qb))) Qb)))))))))⟩
def Qf2 (z:Z):List D->Fr:=Qx [false] 3 (Qf1 z).1
abbrev Qf3 (P:Program)(w:World)(mg:Str->Option Value)(base:Heap)(z:Z):=Qm P w z.K mg base 1 "around" ["place"] (spF z.K [false] .O (Qf2 z))
abbrev Qcw:Stmt:=top 26
def Qaa (z:Z):{m:MS // ∀{P w mg base f fd} (T:Txt mg) (con:Con mg z) (F:Fun z.K "places_of" "places_of" Qcw f fd) ,FnOk P w z.K mg base (CXe P w) 1 f fd ["rows"] (spF z.K [false] .O (Qx [false] 4 m))}:=
 ⟨_,fun T con F  => fnU (N:=["rows","places","number","row"]) F (~~~0) rfl (.inr rfl) fun hC hr hd S hown=>(Qe (Vc (i:=1) S rfl (z39 rfl) (Qcc Qb))
  (Qe (Qa0 hown rfl (QhI T.enumerate hC (Qa (xv 0) Qb)) (pg_tup rfl (pgs_cons (pg_name (i:=2) S rfl (z56 rfl)) (pgs_cons (pg_name (i:=3) S rfl (z39 rfl)) pgs_nil))) (Qe4 hC) (Qi (QpW (i:=1) hC rfl @8 (QU (p:=true) (par:=false) (cs:=[.me,.fz 2]) (N:=["column","number"]) (j:=0) hC rfl Blk.of rfl rfl rfl (Yo T.range (Qa (Qn call_len (Qbn hC) T.len z44 (Qa (xv 3) Qb)) Qb)) (fun _ _ _ _ _=>QR) (fun _ _ _ _ _=>Jn fun Cb hb=>(Q7 (Q8 (Qa (xv 1) (Qa (xv 0) Qb)))))))))
  (Qi (Qp (xo 1)))))⟩
def Qcx (z:Z):List D->Fr:=Qx [false] 4 (Qaa z).1
abbrev Qcy (P:Program)(w:World)(mg:Str->Option Value)(base:Heap)(z:Z):=Qm P w z.K mg base 1 "places_of" ["rows"] (spF z.K [false] .O (Qcx z))
abbrev YC:Stmt:=top 37
def Jq (z:Z):{m:MS // ∀{P w mg base f fd} (T:Txt mg) (con:Con mg z) (F:Fun z.K "insert_in_order" "insert_in_order" YC f fd) ,FnOk P w z.K mg base (CXe P w) 1 f fd ["waiting","entry"] (spF z.K [true,false] .V (Qx [true,false] 5 m))}:=
 ⟨_,fun T con F  => fnU (N:=["waiting","entry","low","high","middle"]) F (~~~0) rfl (.inl rfl) fun hC hr hd S hown=>(Qe (Qv (i:=2) S rfl (z39 rfl) Qc)
  (Qe (Qv (i:=3) S rfl (z39 rfl) (Qn call_len (Qbn hC) T.len z44 (Qa (xb 0) Qb)))
  (Qe (Qhl (n:=1000000) hown (Qo op_lt dLt (xv 2) (xv 3) (nomark _)) (Qe (Qv (i:=4) S rfl (z39 rfl) (JG Qdz QpQ (JG op_add QbQ (xv 2) (xv 3)) Qc))
  (Qi (JN (Qo (Qor (hu_of hr)) (QrJ hC) (V6 hC (xb 0) (xv 4)) (xv 1) (nomark _)) (Qi (Qv (i:=2) S rfl (z39 rfl) (JG op_add QbQ (xv 4) Qc))) (Qi (Qv (i:=3) S rfl (z39 rfl) (xv 4)))))))
  (Qi (Qqn (i:=0) rfl @8 (Qa (xv 2) (Qa (xv 1) Qb)))))))⟩
def Jr (z:Z):List D->Fr:=Qx [true,false] 5 (Jq z).1
abbrev YD (P:Program)(w:World)(mg:Str->Option Value)(base:Heap)(z:Z):=Qm P w z.K mg base 1 "insert_in_order" ["waiting","entry"] (spF z.K [true,false] .V (Jr z))
abbrev Qcz:Stmt:=top 38
def Qab (z:Z):{m:MS // ∀{P w mg base f fd} (T:Txt mg) (con:Con mg z) (F:Fun z.K "number_at" "number_at" Qcz f fd) ,FnOk P w z.K mg base (CXe P w) 1 f fd ["rows","place"] (spF z.K [false,false] .V (Qx [false,false] 2 m))}:=
 ⟨_,fun T con F  => fnU (N:=["rows","place"]) F (~~~0) rfl (.inl rfl) fun hC hr hd S hown=>(Qi (Qp (Qw hC (Qw hC (xv 0) (Qw hC (xv 1) Qc)) (Qw hC (xv 1) Qc))))⟩
def QcA (z:Z):List D->Fr:=Qx [false,false] 2 (Qab z).1
abbrev J5 (P:Program)(w:World)(mg:Str->Option Value)(base:Heap)(z:Z):=Qm P w z.K mg base 1 "number_at" ["rows","place"] (spF z.K [false,false] .V (QcA z))
abbrev Qbw:Stmt:=top 49
def Vr (z:Z):{m:MS // ∀{P w mg base f fd} (T:Txt mg) (con:Con mg z) (F:Fun z.K "write_loss" "write_loss" Qbw f fd) ,FnOk P w z.K mg base (CXe P w) 1 f fd ["loss"] (spF z.K [false] .V (Qx [false] 1 m))}:=
 ⟨_,fun T con F  => fnU (N:=["loss"]) F (~~~0) rfl (.inl rfl) fun hC hr hd S hown=>(Qe (JN (Qo (Q6 (QaU hr)) (QcU hC) (xv 0) (Jc (d:=.int 0) rfl ⟨_,rfl⟩ con.Jp) (nomark _)) (Qi (Qp (Jc (d:=.str "#") rfl ⟨_,rfl⟩ con.J0))) QC)
  (Qe (JN (Qo (Q6 (QaU hr)) (QcU hC) (xv 0) (Jc (d:=.int 1) rfl ⟨_,rfl⟩ con.JY) (nomark _)) (Qi (Qp (Jc (d:=.str ".") rfl ⟨_,rfl⟩ con.JZ))) QC)
  (Qi (Qp (QfB QhZ QrH T.str_ QhE (Qa (xv 0) Qb))))))⟩
def Qbx (z:Z):List D->Fr:=Qx [false] 1 (Vr z).1
abbrev Qby (P:Program)(w:World)(mg:Str->Option Value)(base:Heap)(z:Z):=Qm P w z.K mg base 1 "write_loss" ["loss"] (spF z.K [false] .V (Qbx z))
abbrev QaE:Stmt:=top 53
def YT (z:Z):{m:MS // ∀{P w mg base f fd} (T:Txt mg) (con:Con mg z) (F:Fun z.K "read_number" "read_number" QaE f fd) ,FnOk P w z.K mg base (CXe P w) 1 f fd ["word","most"] (spF z.K [false,false] .V (Qx [false,false] 2 m))}:=
 ⟨_,fun T con F  => fnU (N:=["word","most"]) F (~~~0) rfl (.inl rfl) fun hC hr hd S hown=>(Qe (JN (PW.pt (VL (Jg (QfL op_le op_le dLe dLe Qc (Qn call_len (Qbn hC) T.len z44 (Qa (xv 0) Qb)) (xv 1))) (VI (Jg (Q5 (Qn (QcW rfl) (Qrv hC) T.QrP boot_all (Qa (Qaq (QU (p:=true) (par:=false) (cs:=[.me]) (N:=["sign"]) (j:=0) hC rfl Blk.of rfl rfl rfl (Qn8 (xv 0)) (fun _ _ _ _ _=>QR) (fun _ _ _ _ _=>Jn fun Cb hb=>(Q7 (Qjd op_in_str QrF (xv 0) (Jc (d:=.str "0123456789") rfl ⟨_,rfl⟩ con.QaD) (by with_unfolding_all rfl)))))) Qb))))))) (Qi (Qp Qb8)) QC)
  (Qe (JN (PW.pt (YK (Q5 (Qlk PySem.F.slot_str_startswith PySem.F.type_str_startswith QgR Qln (xv 0) (Qa Qc4 Qb))) (VI (Qo (Qc8 (QaU hr)) (Qmr hC) (xv 0) Qc4 (nomark _))))) (Qi (Qp Qb8)) QC)
  (Qi (Qp (QfB QhY QrG T.int_ Qch (Qa (xv 0) Qb))))))⟩
def QaF (z:Z):List D->Fr:=Qx [false,false] 2 (YT z).1
abbrev QaG (P:Program)(w:World)(mg:Str->Option Value)(base:Heap)(z:Z):=Qm P w z.K mg base 1 "read_number" ["word","most"] (spF z.K [false,false] .V (QaF z))
abbrev VQ:Stmt:=top 55
def Ys (z:Z):{m:MS // ∀{P w mg base f fd} (T:Txt mg) (con:Con mg z) (F:Fun z.K "_law_cell_at" "_law_cell_at" VQ f fd) ,FnOk P w z.K mg base (CXe P w) 1 f fd ["_law_script","_law_k"] (spF z.K [false,false] .V (Qx [false,false] 2 m))}:=
 ⟨_,fun T con F  => fnU (N:=["_law_script","_law_k"]) F (~~~0) rfl (.inl rfl) fun hC hr hd S hown=>(Qe (JN (Qo op_lt dLt (xv 1) (Qn call_len (Qbn hC) T.len z44 (Qa (xv 0) Qb)) (nomark _)) (Qi (Qp (Qw hC (xv 0) (xv 1)))) QC)
  (Qi (Qp Qc)))⟩
def Yt (z:Z):List D->Fr:=Qx [false,false] 2 (Ys z).1
abbrev VR (P:Program)(w:World)(mg:Str->Option Value)(base:Heap)(z:Z):=Qm P w z.K mg base 1 "_law_cell_at" ["_law_script","_law_k"] (spF z.K [false,false] .V (Yt z))
abbrev QcB:Stmt:=top 57
def Qac (z:Z):{m:MS // ∀{P w mg base f fd} (T:Txt mg) (con:Con mg z) (F:Fun z.K "_law_take" "_law_take" QcB f fd) ,FnOk P w z.K mg base (CXe P w) 1 f fd ["_law_pot_here","_law_many"] (spF z.K [true,false] .V (Qx [true,false] 3 m))}:=
 ⟨_,fun T con F  => fnU (N:=["_law_pot_here","_law_many","_law_digit"]) F (~~~0) rfl (.inl rfl) fun hC hr hd S hown=>(Qe (JN (PW.pt (YK (Qo (Q6 (QaU hr)) (QcU hC) (V6 hC (xb 0) Qc) Qc (nomark _)) (VI (Qo (Qj5 (Qpg hr)) (Qq2 hC) (V6 hC (xb 0) Qc) (Q8 (Qa Qc (Qa (Qj6 Qc) Qb))) rfl)))) (Qe (QdQ (i:=0) hC rfl @8 (Q7 Qc) Qc (hg:=pg_sub (pv 0) Qc set_list))
  (Qi (QdQ (i:=0) hC rfl @8 (Q7 (JG op_add QbQ (JG op_mul Qk1 (V6 hC (xb 0) Qc) Qc) Qc)) Qc (hg:=pg_sub (pv 0) Qc set_list)))) QC)
  (Qe (JN (Qo (Q6 (QaU hr)) (QcU hC) (V6 hC (xb 0) Qc) Qc (nomark _)) (Qe (Qv (i:=2) S rfl (z39 rfl) (JG op_mod Qm9 (V6 hC (xb 0) Qc) (xv 1)))
  (Qe (QdQ (i:=0) hC rfl @8 (Q7 (JG Qdz QpQ (V6 hC (xb 0) Qc) (xv 1))) Qc (hg:=pg_sub (pv 0) Qc set_list))
  (Qi (Qp (xv 2))))) QC)
  (Qe (QdQ (i:=0) hC rfl @8 (Q7 (JG op_mod Qm9 (JG op_add QbQ (JG op_mul Qk1 (V6 hC (xb 0) Qc) Qc) Qc) Qc)) Qc (hg:=pg_sub (pv 0) Qc set_list))
  (Qi (Qp (JG op_mod Qm9 (JG Qdz QpQ (JG op_mod Qm9 (JG op_mul Qk1 (JG op_mod Qm9 (JG op_mul Qk1 (V6 hC (xb 0) Qc) (V6 hC (xb 0) Qc)) Qc) Qc) Qc) Qc) (xv 1)))))))⟩
def YU (z:Z):List D->Fr:=Qx [true,false] 3 (Qac z).1
abbrev Jd (P:Program)(w:World)(mg:Str->Option Value)(base:Heap)(z:Z):=Qm P w z.K mg base 1 "_law_take" ["_law_pot_here","_law_many"] (spF z.K [true,false] .V (YU z))
abbrev QaH:Stmt:=top 63
def YV (z:Z):{m:MS // ∀{P w mg base f fd} (T:Txt mg) (con:Con mg z) (F:Fun z.K "_law_beside" "_law_beside" QaH f fd) ,FnOk P w z.K mg base (CXe P w) 1 f fd ["_law_rows_here","_law_row","_law_column"] (spF z.K [false,false,false] .O (Qx [false,false,false] 6 m))}:=
 ⟨_,fun T con F  => fnU (N:=["_law_rows_here","_law_row","_law_column","_law_found","_law_other","_law_beyond"]) F (~~~0) rfl (.inr rfl) fun hC hr hd S hown=>(Qe (Vc (i:=3) S rfl (z39 rfl) (Qcc Qb))
  (Qe (Qa0 hown rfl (QJ hC (Q8 (Qa (Q8 (Qa (JG op_sub Qk0 (xv 1) Qc) (Qa (xv 2) Qb))) (Qa (Q8 (Qa (xv 1) (Qa (JG op_sub Qk0 (xv 2) Qc) Qb))) (Qa (Q8 (Qa (xv 1) (Qa (JG op_add QbQ (xv 2) Qc) Qb))) (Qa (Q8 (Qa (JG op_add QbQ (xv 1) Qc) (Qa (xv 2) Qb))) Qb)))))) (pg_tup rfl (pgs_cons (pg_name (i:=4) S rfl (z39 rfl)) (pgs_cons (pg_name (i:=5) S rfl (z39 rfl)) pgs_nil))) (Qe4 hC) (Qi (JN (PW.pt (YK (Qo op_le dLe Qc (xv 4) (nomark _)) (YK (Qo op_lt dLt (xv 4) (Qn call_len (Qbn hC) T.len z44 (Qa (xv 0) Qb)) (nomark _)) (YK (Qo op_le dLe Qc (xv 5) (nomark _)) (YK (Qo op_lt dLt (xv 5) (Qn call_len (Qbn hC) T.len z44 (Qa (Qw hC (xv 0) Qc) Qb)) (nomark _)) (VI (Qo op_gt dGt (Qw hC (Qw hC (xv 0) (xv 4)) (xv 5)) Qc (nomark _)))))))) (Qi (Qk4 (i:=3) hC rfl @8 (Q7 (Q8 (Qa (xv 4) (Qa (xv 5) Qb)))))) QC)))
  (Qi (Qp (xo 3)))))⟩
def QaI (z:Z):List D->Fr:=Qx [false,false,false] 6 (YV z).1
abbrev QaJ (P:Program)(w:World)(mg:Str->Option Value)(base:Heap)(z:Z):=Qm P w z.K mg base 1 "_law_beside" ["_law_rows_here","_law_row","_law_column"] (spF z.K [false,false,false] .O (QaI z))
abbrev QeK:Stmt:=top 12
def QeL (z:Z):{m:MS // ∀{P w mg base f fd} (T:Txt mg) (con:Con mg z) (F:Fun z.K "is_pair" "is_pair" QeK f fd) (QX:V9 P w mg base z),FnOk P w z.K mg base (CXe P w) 2 f fd ["value"] (spF z.K [false] .V (Qx [false] 1 m))}:=
 ⟨_,fun T con F QX=>fnU (N:=["value"]) F (~~~0) rfl (.inl rfl) fun hC hr hd S hown=>(Qi (Qp (Qhf (QB (spk QX hC) Qf @19 (Qa (xv 0) Qb)) (Qhe (Qjd (Q6 (QaU hr)) (QcU hC) (Qn call_len (Qbn hC) T.len z44 (Qa (xv 0) Qb)) Qc (nomark _))))))⟩
def QcC (z:Z):List D->Fr:=Qx [false] 1 (QeL z).1
abbrev QcD (P:Program)(w:World)(mg:Str->Option Value)(base:Heap)(z:Z):=Qm P w z.K mg base 2 "is_pair" ["value"] (spF z.K [false] .V (QcC z))
abbrev Y5:Stmt:=top 17
def JM (z:Z):{m:MS // ∀{P w mg base f fd} (T:Txt mg) (con:Con mg z) (F:Fun z.K "check_strength" "check_strength" Y5 f fd) (Jh:Qba P w mg base z),FnOk P w z.K mg base (CXe P w) 2 f fd ["value"] (spF z.K [false] .V (Qx [false] 1 m))}:=
 ⟨_,fun T con F Jh=>fnU (N:=["value"]) F (~~~0) rfl (.inl rfl) fun hC hr hd S hown=>(Qi (JN (PW.pt (VL (Jg (Q5 (QB (spk Jh hC) Qf @19 (Qa (xv 0) Qb)))) (VI (Jg (QfL op_le op_lt dLe dLt Qc (xv 0) (JG op_pow Qna Qc Qc)))))) (Qi QaA) QC))⟩
def Y6 (z:Z):List D->Fr:=Qx [false] 1 (JM z).1
abbrev Y7 (P:Program)(w:World)(mg:Str->Option Value)(base:Heap)(z:Z):=Qm P w z.K mg base 2 "check_strength" ["value"] (spF z.K [false] .V (Y6 z))
abbrev Qbz:Stmt:=top 18
def Vs (z:Z):{m:MS // ∀{P w mg base f fd} (T:Txt mg) (con:Con mg z) (F:Fun z.K "check_free" "check_free" Qbz f fd) (Qk:QW P w mg base z),FnOk P w z.K mg base (CXe P w) 2 f fd ["floor","strengths","place"] (spF z.K [false,false,false] .V (Qx [false,false,false] 3 m))}:=
 ⟨_,fun T con F Qk=>fnU (N:=["floor","strengths","place"]) F (~~~0) rfl (.inl rfl) fun hC hr hd S hown=>(Qe (JN (Q5 (x_m (Qdd Qk hC) con.Qr Qf @19 (xv 0) (Qa (xv 2) Qb))) (Qi QaA) QC)
  (Qi (JN (Qnj (hu_of hr) (xv 2) (xv 1)) (Qi QaA) QC)))⟩
def QbA (z:Z):List D->Fr:=Qx [false,false,false] 3 (Vs z).1
abbrev QbB (P:Program)(w:World)(mg:Str->Option Value)(base:Heap)(z:Z):=Qm P w z.K mg base 2 "check_free" ["floor","strengths","place"] (spF z.K [false,false,false] .V (QbA z))
abbrev VS:Stmt:=inClass (top 24) 7
def Yu (z:Z):{m:MS // ∀{P w mg base f fd} (T:Txt mg) (con:Con mg z) (F:Fun z.K "places" "Floor.places" VS f fd) (YW:Qcy P w mg base z),FnOk P w z.K mg base (CXe P w) 2 f fd ["self"] (spF z.K [false] .O (Qx [false] 1 m))}:=
 ⟨_,fun T con F YW=>fnU (N:=["self"]) F (~~~0) rfl (.inr rfl) fun hC hr hd S hown=>(Qi (Qp (QB (spk YW hC) Qf @19 (Qa (Qda con.Qr con.Qs (xv 0)) Qb))))⟩
def VT (z:Z):List D->Fr:=Qx [false] 1 (Yu z).1
abbrev VU (P:Program)(w:World)(mg:Str->Option Value)(base:Heap)(z:Z):=QH P w z.K mg base z.Qj 2 "places" ["self"] (spF z.K [false] .O (VT z))
abbrev QcE:Stmt:=top 27
def Qad (z:Z):{m:MS // ∀{P w mg base f fd} (T:Txt mg) (con:Con mg z) (F:Fun z.K "is_within" "is_within" QcE f fd) (Jh:Qba P w mg base z),FnOk P w z.K mg base (CXe P w) 2 f fd ["value","end"] (spF z.K [false,false] .V (Qx [false,false] 2 m))}:=
 ⟨_,fun T con F Jh=>fnU (N:=["value","end"]) F (~~~0) rfl (.inl rfl) fun hC hr hd S hown=>(Qi (Qp (Qhf (QB (spk Jh hC) Qf @19 (Qa (xv 0) Qb)) (Qhe (QhD op_le op_lt dLe dLt Qc (xv 0) (xv 1))))))⟩
def QcF (z:Z):List D->Fr:=Qx [false,false] 2 (Qad z).1
abbrev Qae (P:Program)(w:World)(mg:Str->Option Value)(base:Heap)(z:Z):=Qm P w z.K mg base 2 "is_within" ["value","end"] (spF z.K [false,false] .V (QcF z))
abbrev Qdl:Stmt:=top 29
def Qbc (z:Z):{m:MS // ∀{P w mg base f fd} (T:Txt mg) (con:Con mg z) (F:Fun z.K "is_sized" "is_sized" Qdl f fd) (QX:V9 P w mg base z),FnOk P w z.K mg base (CXe P w) 2 f fd ["listed"] (spF z.K [false] .V (Qx [false] 1 m))}:=
 ⟨_,fun T con F QX=>fnU (N:=["listed"]) F (~~~0) rfl (.inl rfl) fun hC hr hd S hown=>(Qi (Qp (Qhf (QB (spk QX hC) Qf @19 (Qa (xv 0) Qb)) (Qhe (QhD op_le op_le dLe dLe Qc (Qn call_len (Qbn hC) T.len z44 (Qa (xv 0) Qb)) (Jc (d:=.int 30) rfl ⟨_,rfl⟩ con.Qde))))))⟩
def VD (z:Z):List D->Fr:=Qx [false] 1 (Qbc z).1
abbrev Qdm (P:Program)(w:World)(mg:Str->Option Value)(base:Heap)(z:Z):=Qm P w z.K mg base 2 "is_sized" ["listed"] (spF z.K [false] .V (VD z))
abbrev Qkp:Stmt:=top 34
def Qin (z:Z):{m:MS // ∀{P w mg base f fd} (T:Txt mg) (con:Con mg z) (F:Fun z.K "lift" "lift" Qkp f fd) (Qk:QW P w mg base z) (Qq:J5 P w mg base z),FnOk P w z.K mg base (CXe P w) 2 f fd ["floor","rows","start"] (spF z.K [false,true,false] .V (Qx [false,true,false] 4 m))}:=
 ⟨_,fun T con F Qk Qq=>fnU (N:=["floor","rows","start","place"]) F (~~~0) rfl (.inl rfl) fun hC hr hd S hown=>(Qe (Qv (i:=3) S rfl (z39 rfl) (Qw hC (xv 2) Qc))
  (Qi (JN (Jg (Q5 (x_m (Qdd Qk hC) con.Qr Qf @19 (xv 0) (Qa (xv 3) Qb)))) (Qi (Qay (i:=1) hC (Q7 (Qn (call_max2 rfl) dI2 T.QoI Ve (Qa (Qw hC (xv 2) Qc) (Qa (QB (spk Qq hC) Qf @19 (Qa (xb 1) (Qa (xv 3) Qb))) Qb)))) (hg:=pg_sub (pe_ix ix_list (pv 1) (Qw hC (xv 3) Qc) (fun _ _=>rfl)) (Qw hC (xv 3) Qc) set_list))) QC)))⟩
def Qkq (z:Z):List D->Fr:=Qx [false,true,false] 4 (Qin z).1
abbrev Qkr (P:Program)(w:World)(mg:Str->Option Value)(base:Heap)(z:Z):=Qm P w z.K mg base 2 "lift" ["floor","rows","start"] (spF z.K [false,true,false] .V (Qkq z))
abbrev QcG:Stmt:=top 48
def Qaf (z:Z):{m:MS // ∀{P w mg base f fd} (T:Txt mg) (con:Con mg z) (F:Fun z.K "write_row" "write_row" QcG f fd) (Ye:Qby P w mg base z),FnOk P w z.K mg base (CXe P w) 2 f fd ["row"] (spF z.K [false] .V (Qx [false] 1 m))}:=
 ⟨_,fun T con F Ye=>fnU (N:=["row"]) F (~~~0) rfl (.inl rfl) fun hC hr hd S hown=>(Qi (Qp (Qlk zs9 zs8 QgP (Qn6 hC) Qc4 (Qa (Qaq (QU (p:=true) (par:=false) (cs:=[.me]) (N:=["loss"]) (j:=0) hC rfl Blk.of rfl rfl rfl (QJ hC (xv 0)) (fun _ _ _ _ _=>QR) (fun _ _ _ _ _=>Jn fun Cb hb=>(Q7 (QB (spk Ye hb) Y3 @19 (Qa (xv 0) Qb)))))) Qb))))⟩
def QcH (z:Z):List D->Fr:=Qx [false] 1 (Qaf z).1
abbrev QcI (P:Program)(w:World)(mg:Str->Option Value)(base:Heap)(z:Z):=Qm P w z.K mg base 2 "write_row" ["row"] (spF z.K [false] .V (QcH z))
abbrev QcJ:Stmt:=top 52
def Qag (z:Z):{m:MS // ∀{P w mg base f fd} (T:Txt mg) (con:Con mg z) (F:Fun z.K "read_loss" "read_loss" QcJ f fd) (JS:QaG P w mg base z),FnOk P w z.K mg base (CXe P w) 2 f fd ["word"] (spF z.K [false] .V (Qx [false] 2 m))}:=
 ⟨_,fun T con F JS=>fnU (N:=["word","loss"]) F (~~~0) rfl (.inl rfl) fun hC hr hd S hown=>(Qe (JN (Qo (Q6 (QaU hr)) (QcU hC) (xv 0) (Jc (d:=.str "#") rfl ⟨_,rfl⟩ con.J0) (nomark _)) (Qi (Qp (Jc (d:=.int 0) rfl ⟨_,rfl⟩ con.Jp))) QC)
  (Qe (JN (Qo (Q6 (QaU hr)) (QcU hC) (xv 0) (Jc (d:=.str ".") rfl ⟨_,rfl⟩ con.JZ) (nomark _)) (Qi (Qp (Jc (d:=.int 1) rfl ⟨_,rfl⟩ con.JY))) QC)
  (Qe (Qv (i:=1) S rfl (z39 rfl) (QB (spk JS hC) Qf @19 (Qa (xv 0) (Qa (Jc (d:=.int 60) rfl ⟨_,rfl⟩ con.Ju) Qb))))
  (Qe (JN (PW.pt (VL (Qo op_isN Qq7 (xv 1) Qb8 (nomark _)) (VI (Qo op_lt dLt (xv 1) (Jc (d:=.int 2) rfl ⟨_,rfl⟩ con.JR) (nomark _))))) (Qi (Qp Qb8)) QC)
  (Qi (Qp (xv 1)))))))⟩
def J6 (z:Z):List D->Fr:=Qx [false] 2 (Qag z).1
abbrev QcK (P:Program)(w:World)(mg:Str->Option Value)(base:Heap)(z:Z):=Qm P w z.K mg base 2 "read_loss" ["word"] (spF z.K [false] .V (J6 z))
abbrev Qdn:Stmt:=top 56
def Qbd (z:Z):{m:MS // ∀{P w mg base f fd} (T:Txt mg) (con:Con mg z) (F:Fun z.K "_law_pot" "_law_pot" Qdn f fd) (Jw:VR P w mg base z),FnOk P w z.K mg base (CXe P w) 2 f fd ["_law_script","_law_k"] (spF z.K [false,false] .O (Qx [false,false] 3 m))}:=
 ⟨_,fun T con F Jw=>fnU (N:=["_law_script","_law_k","_law_cell"]) F (~~~0) rfl (.inr rfl) fun hC hr hd S hown=>(Qe (Qv (i:=2) S rfl (z39 rfl) (QB (spk Jw hC) Qf @19 (Qa (xv 0) (Qa (xv 1) Qb))))
  (Qe (JN (PW.pt (VL (Qo op_ge dGe (xv 2) (JG op_pow Qna Qc Qc) (nomark _)) (VI (Qo op_le dLe (xv 2) (Qj6 (JG op_pow Qna Qc Qc)) (nomark _))))) (Qi (Qp (Qcc (Qa Qc (Qa (xv 2) (Qa (JG op_add QbQ (xv 1) Qc) Qb)))))) QC)
  (Qi (Qp (Qcc (Qa Qc (Qa (JG op_add QbQ (JG op_mul Qk1 (xv 2) Qc) (JG op_mul Qk1 Qc (JG op_add QbQ (xv 1) Qc))) (Qa (JG op_add QbQ (xv 1) Qc) Qb))))))))⟩
def Qbe (z:Z):List D->Fr:=Qx [false,false] 3 (Qbd z).1
abbrev Qdo (P:Program)(w:World)(mg:Str->Option Value)(base:Heap)(z:Z):=Qm P w z.K mg base 2 "_law_pot" ["_law_script","_law_k"] (spF z.K [false,false] .O (Qbe z))
abbrev Qdp:Stmt:=top 58
def Qbf (z:Z):{m:MS // ∀{P w mg base f fd} (T:Txt mg) (con:Con mg z) (F:Fun z.K "_law_far" "_law_far" Qdp f fd) (Qd:Jd P w mg base z),FnOk P w z.K mg base (CXe P w) 2 f fd ["_law_pot_here"] (spF z.K [true] .V (Qx [true] 3 m))}:=
 ⟨_,fun T con F Qd=>fnU (N:=["_law_pot_here","_law_found","_law_k"]) F (~~~0) rfl (.inl rfl) fun hC hr hd S hown=>(Qe (Qv (i:=1) S rfl (z39 rfl) Qc)
  (Qe (Qa0 hown rfl (Yo T.range (Qa Qc Qb)) (pg_name (i:=2) S rfl (z39 rfl)) Yn (Qi (Qv (i:=1) S rfl (z39 rfl) (JG op_add QbQ (JG op_mul Qk1 (xv 1) Qc) @0))))
  (Qi (Qp (xv 1)))))⟩
def Qbg (z:Z):List D->Fr:=Qx [true] 3 (Qbf z).1
abbrev Qbh (P:Program)(w:World)(mg:Str->Option Value)(base:Heap)(z:Z):=Qm P w z.K mg base 2 "_law_far" ["_law_pot_here"] (spF z.K [true] .V (Qbg z))
abbrev Qdq:Stmt:=top 64
def Qbi (z:Z):{m:MS // ∀{P w mg base f fd} (T:Txt mg) (con:Con mg z) (F:Fun z.K "_law_due" "_law_due" Qdq f fd) (JT:QaJ P w mg base z),FnOk P w z.K mg base (CXe P w) 2 f fd ["_law_rows_here","_law_lamps_here","_law_numbers","_law_row","_law_column"] (spF z.K [false,false,false,false,false] .V (Qx [false,false,false,false,false] 6 m))}:=
 ⟨_,fun T con F JT=>fnU (N:=["_law_rows_here","_law_lamps_here","_law_numbers","_law_row","_law_column","_law_some"]) F (~~~0) rfl (.inl rfl) fun hC hr hd S hown=>(Qe (JN (Qo (Q6 (QaU hr)) (QcU hC) (Qw hC (Qw hC (xv 0) (xv 3)) (xv 4)) Qc (nomark _)) (Qi (Qp Qc)) QC)
  (Qe (Qv (i:=5) S rfl (z39 rfl) (Qka hC (Qhg (Qa Qc Qb)) (Qaq (QdV (p:=true) (par:=false) (cs:=[.me,.me,.fz 3,.fz 4]) (N:=["_law_place","_law_strength_here","_law_row","_law_column"]) hC rfl Blk.of rfl rfl (QJ hC (xv 1)) (fun _ _ _ _ _=>pg_tup rfl (pgs_cons (pg_name (i:=0) (show(["_law_place","_law_strength_here","_law_row","_law_column"]:List Str).Nodup by decide) rfl (by first|exact z39 rfl|exact z56 rfl)) (pgs_cons (pg_name (i:=1) (show(["_law_place","_law_strength_here","_law_row","_law_column"]:List Str).Nodup by decide) rfl (by first|exact z39 rfl|exact z56 rfl)) pgs_nil))) (fun _ _ _ _ _=>QfJ fun Cb hb=>(Qo (Q6 (QaU hr)) (QcU hb) (xv 0) (Q8 (Qa (xv 2) (Qa (xv 3) Qb))) (nomark _))) (fun _ _ _ _ _=>Jn fun Cb hb=>(Q7 (xv 1)))))))
  (Qi (Qp (Qn (Qh9 rfl) (Qqp hC) T.QoI Ve (Qa (Qka hC (xv 5) (Qaq (QdV (p:=true) (par:=false) (cs:=[.me,.me,.fz 2,.fz 0,.fz 3,.fz 4]) (N:=["_law_r","_law_c","_law_numbers","_law_rows_here","_law_row","_law_column"]) hC rfl Blk.of rfl rfl (QJ hC (Qaq (QB (spk JT hC) Qf @19 (Qa (xv 0) (Qa (xv 3) (Qa (xv 4) Qb)))))) (fun _ _ _ _ _=>pg_tup rfl (pgs_cons (pg_name (i:=0) (show(["_law_r","_law_c","_law_numbers","_law_rows_here","_law_row","_law_column"]:List Str).Nodup by decide) rfl (by first|exact z39 rfl|exact z56 rfl)) (pgs_cons (pg_name (i:=1) (show(["_law_r","_law_c","_law_numbers","_law_rows_here","_law_row","_law_column"]:List Str).Nodup by decide) rfl (by first|exact z39 rfl|exact z56 rfl)) pgs_nil))) (fun _ _ _ _ _=>QR) (fun _ _ _ _ _=>Jn fun Cb hb=>(Q7 (JG op_sub Qk0 (Qw hb (Qw hb (xv 2) (xv 0)) (xv 1)) (Qw hb (Qw hb (xv 3) (xv 4)) (xv 5)))))))) Qb))))))⟩
def Qdr (z:Z):List D->Fr:=Qx [false,false,false,false,false] 6 (Qbi z).1
abbrev Qds (P:Program)(w:World)(mg:Str->Option Value)(base:Heap)(z:Z):=Qm P w z.K mg base 2 "_law_due" ["_law_rows_here","_law_lamps_here","_law_numbers","_law_row","_law_column"] (spF z.K [false,false,false,false,false] .V (Qdr z))
abbrev QcL:Stmt:=inClass (top 24) 9
def Qah (z:Z):{m:MS // ∀{P w mg base f fd} (T:Txt mg) (con:Con mg z) (F:Fun z.K "has" "Floor.has" QcL f fd) (QL:Vj P w mg base z) (QM:Vm P w mg base z) (JE:QcD P w mg base z) (QP:Qae P w mg base z),FnOk P w z.K mg base (CXe P w) 3 f fd ["self","place"] (spF z.K [false,false] .V (Qx [false,false] 2 m))}:=
 ⟨_,fun T con F QL QM JE QP=>fnU (N:=["self","place"]) F (~~~0) rfl (.inl rfl) fun hC hr hd S hown=>(Qe (JN (Jg (Q5 (QB (spk JE hC) Qf @19 (Qa (xv 1) Qb)))) (Qi (Qp QbP)) QC)
  (Qi (Qp (Qhf (QB (spk QP hC) Qf @19 (Qa (Qw hC (xv 1) Qc) (Qa (Qlz (Qdd QL hC) con.Qr Qf @19 (xv 0)) Qb))) (Qhe (QB (spk QP hC) Qf @19 (Qa (Qw hC (xv 1) Qc) (Qa (Qlz (Qdd QM hC) con.Qr Qf @19 (xv 0)) Qb))))))))⟩
def Qai (z:Z):List D->Fr:=Qx [false,false] 2 (Qah z).1
abbrev Qaj (P:Program)(w:World)(mg:Str->Option Value)(base:Heap)(z:Z):=QH P w z.K mg base z.Qj 3 "has" ["self","place"] (spF z.K [false,false] .V (Qai z))
abbrev VV:Stmt:=top 28
def Yv (z:Z):{m:MS // ∀{P w mg base f fd} (T:Txt mg) (con:Con mg z) (F:Fun z.K "is_rectangle" "is_rectangle" VV f fd) (YE:Qdm P w mg base z),FnOk P w z.K mg base (CXe P w) 3 f fd ["rows"] (spF z.K [false] .V (Qx [false] 2 m))}:=
 ⟨_,fun T con F YE=>fnU (N:=["rows","row"]) F (~~~0) rfl (.inl rfl) fun hC hr hd S hown=>(Qe (JN (Jg (Q5 (QB (spk YE hC) Qf @19 (Qa (xv 0) Qb)))) (Qi (Qp QbP)) QC)
  (Qe (Qa0 hown rfl (QJ hC (xv 0)) (pg_name (i:=1) S rfl (z39 rfl)) Yn (Qi (JN (PW.pt (VL (Jg (Q5 (QB (spk YE hC) Qf @19 (Qa (xv 1) Qb)))) (VI (Qo (Qc8 (QaU hr)) (Qmr hC) (Qn call_len (Qbn hC) T.len z44 (Qa (xv 1) Qb)) (Qn call_len (Qbn hC) T.len z44 (Qa (Qw hC (xv 0) Qc) Qb)) (nomark _))))) (Qi (Qp QbP)) QC)))
  (Qi (Qp QbP))))⟩
def VW (z:Z):List D->Fr:=Qx [false] 2 (Yv z).1
abbrev VX (P:Program)(w:World)(mg:Str->Option Value)(base:Heap)(z:Z):=Qm P w z.K mg base 3 "is_rectangle" ["rows"] (spF z.K [false] .V (VW z))
abbrev QeM:Stmt:=top 31
def QcM (z:Z):{m:MS // ∀{P w mg base f fd} (T:Txt mg) (con:Con mg z) (F:Fun z.K "is_loss" "is_loss" QeM f fd) (QP:Qae P w mg base z),FnOk P w z.K mg base (CXe P w) 3 f fd ["value"] (spF z.K [false] .V (Qx [false] 1 m))}:=
 ⟨_,fun T con F QP=>fnU (N:=["value"]) F (~~~0) rfl (.inl rfl) fun hC hr hd S hown=>(Qi (Qp (QB (spk QP hC) Qf @19 (Qa (xv 0) (Qa (JG op_pow Qna Qc Qc) Qb)))))⟩
def QeN (z:Z):List D->Fr:=Qx [false] 1 (QcM z).1
abbrev QeO (P:Program)(w:World)(mg:Str->Option Value)(base:Heap)(z:Z):=Qm P w z.K mg base 3 "is_loss" ["value"] (spF z.K [false] .V (QeN z))
abbrev Qf4:Stmt:=top 35
def QdZ (z:Z):{m:MS // ∀{P w mg base f fd} (T:Txt mg) (con:Con mg z) (F:Fun z.K "givers" "givers" Qf4 f fd) (Qk:QW P w mg base z) (Qq:J5 P w mg base z) (Jx:VU P w mg base z),FnOk P w z.K mg base (CXe P w) 3 f fd ["floor","rows"] (spF z.K [false,false] .O (Qx [false,false] 4 m))}:=
 ⟨_,fun T con F Qk Qq Jx=>fnU (N:=["floor","rows","least","places"]) F (~~~0) rfl (.inr rfl) fun hC hr hd S hown=>(Qe (Qv (i:=2) S rfl (z56 rfl) (Qn (QeE rfl) (Qoq hC) T.QqG Qcg (Qa (Qaq (QU (p:=true) (par:=false) (cs:=[.me]) (N:=["row"]) (j:=0) hC rfl Blk.of rfl rfl rfl (QJ hC (xv 1)) (fun _ _ _ _ _=>QR) (fun _ _ _ _ _=>Jn fun Cb hb=>(Q7 (Qn (QeE rfl) (Qoq hb) T.QqG Qcg (Qa (xv 0) Qb)))))) Qb)))
  (Qe (QhQ (i0:=3) (par:=false) (cs:=[.me,.fz 0]) (N:=["place","floor"]) (j:=0) hC rfl S rfl (z39 rfl) Blk.of rfl rfl rfl (QJ hC (Qaq (Qlz (Qdd Jx hC) con.Qr Qf @19 (xv 0)))) (fun _ _ _ _ _=>QfJ fun Cb hb=>(Jg (Q5 (x_m (Qdd Qk hb) con.Qr Y3 @19 (xv 1) (Qa (xv 0) Qb))))) (fun _ _ _ _ _=>Jn fun Cb hb=>(Q7 (xv 0))))
  (Qi (Qp (Qju (hu3 hr) hC T.sorted Qbp (Qa (Qaq (QU (p:=true) (par:=false) (cs:=[.me,.fz 1,.fz 2]) (N:=["place","rows","least"]) (j:=0) hC rfl Blk.of rfl rfl rfl (QJ hC (xv 3)) (fun _ _ _ _ _=>QfJ fun Cb hb=>(Qo op_gt dGt (QB (spk Qq hb) Y3 @19 (Qa (xv 1) (Qa (xv 0) Qb))) (xv 2) (nomark _))) (fun _ _ _ _ _=>Jn fun Cb hb=>(Q7 (Q8 (Qa (QB (spk Qq hb) Y3 @19 (Qa (xv 1) (Qa (xv 0) Qb))) (Qa (xv 0) Qb))))))) Qb))))))⟩
def Qf5 (z:Z):List D->Fr:=Qx [false,false] 4 (QdZ z).1
abbrev Qf6 (P:Program)(w:World)(mg:Str->Option Value)(base:Heap)(z:Z):=Qm P w z.K mg base 3 "givers" ["floor","rows"] (spF z.K [false,false] .O (Qf5 z))
abbrev QaK:Stmt:=top 47
def YX (z:Z):{m:MS // ∀{P w mg base f fd} (T:Txt mg) (con:Con mg z) (F:Fun z.K "write_floor" "write_floor" QaK f fd) (QN:Vo P w mg base z) (YY:QcI P w mg base z),FnOk P w z.K mg base (CXe P w) 3 f fd ["floor"] (spF z.K [false] .V (Qx [false] 1 m))}:=
 ⟨_,fun T con F QN YY=>fnU (N:=["floor"]) F (~~~0) rfl (.inl rfl) fun hC hr hd S hown=>(Qi (Qp (Qlk zs9 zs8 QgP (Qn6 hC) Qc4 (Qa (Qaq (QU (p:=true) (par:=false) (cs:=[.me]) (N:=["row"]) (j:=0) hC rfl Blk.of rfl rfl rfl (QJ hC (Qaq (Qlz (Qdd QN hC) con.Qr Qf @19 (xv 0)))) (fun _ _ _ _ _=>QR) (fun _ _ _ _ _=>Jn fun Cb hb=>(Q7 (QB (spk YY hb) Y3 @19 (Qa (xv 0) Qb)))))) Qb))))⟩
def QaL (z:Z):List D->Fr:=Qx [false] 1 (YX z).1
abbrev QaM (P:Program)(w:World)(mg:Str->Option Value)(base:Heap)(z:Z):=Qm P w z.K mg base 3 "write_floor" ["floor"] (spF z.K [false] .V (QaL z))
abbrev Qdt:Stmt:=top 51
def Qbj (z:Z):{m:MS // ∀{P w mg base f fd} (T:Txt mg) (con:Con mg z) (F:Fun z.K "read_row" "read_row" Qdt f fd) (YZ:QcK P w mg base z),FnOk P w z.K mg base (CXe P w) 3 f fd ["line"] (spF z.K [false] .O (Qx [false] 2 m))}:=
 ⟨_,fun T con F YZ=>fnU (N:=["line","row"]) F (~~~0) rfl (.inr rfl) fun hC hr hd S hown=>(Qe (Qhy (i0:=1) (par:=false) (cs:=[.me]) (N:=["word"]) (j:=0) hC rfl S rfl (z39 rfl) Blk.of rfl rfl rfl (QJ hC (Qaq (QfQ (xv 0) (Qa Qc4 Qb)))) (fun _ _ _ _ _=>QR) (fun _ _ _ _ _=>Jn fun Cb hb=>(Q7 (QB (spk YZ hb) Y3 @19 (Qa (xv 0) Qb)))))
  (Qe (JN (PW.pt (VL (Qo op_gt dGt (Qn call_len (Qbn hC) T.len z44 (Qa (xb 1) Qb)) (Jc (d:=.int 30) rfl ⟨_,rfl⟩ con.Qde) (nomark _)) (VI (Qo (Qj5 (Qpg hr)) (Qq2 hC) Qb8 (xb 1) rfl)))) (Qi (Qp (Q7 Qb8))) QC)
  (Qi (Qp (xo 1)))))⟩
def Qdu (z:Z):List D->Fr:=Qx [false] 2 (Qbj z).1
abbrev Qdv (P:Program)(w:World)(mg:Str->Option Value)(base:Heap)(z:Z):=Qm P w z.K mg base 3 "read_row" ["line"] (spF z.K [false] .O (Qdu z))
abbrev QcN:Stmt:=top 59
def Qak (z:Z):{m:MS // ∀{P w mg base f fd} (T:Txt mg) (con:Con mg z) (F:Fun z.K "_law_loss" "_law_loss" QcN f fd) (Qd:Jd P w mg base z) (Ji:Qbh P w mg base z),FnOk P w z.K mg base (CXe P w) 3 f fd ["_law_pot_here"] (spF z.K [true] .V (Qx [true] 2 m))}:=
 ⟨_,fun T con F Qd Ji=>fnU (N:=["_law_pot_here","_law_way"]) F (~~~0) rfl (.inl rfl) fun hC hr hd S hown=>(Qe (Qv (i:=1) S rfl (z39 rfl) @0)
  (Qe (JN (Qo op_lt dLt (xv 1) Qc (nomark _)) (Qi (Qp Qc)) QC)
  (Qe (JN (Qo op_lt dLt (xv 1) Qc (nomark _)) (Qi (Qp Qc)) QC)
  (Qe (JN (Qo (Q6 (QaU hr)) (QcU hC) (xv 1) Qc (nomark _)) (Qi (Qp (JG op_add QbQ Qc @0))) QC)
  (Qi (Qp (Qn (call_max2 rfl) dI2 T.QoI Ve (Qa Qc (Qa (Y8 (par:=true) (as:=[some 0]) (p:=false) (spk Ji hC) Qf @19 (Qa (xs 0) Qb)) Qb)))))))))⟩
def Y0 (z:Z):List D->Fr:=Qx [true] 2 (Qak z).1
abbrev Qal (P:Program)(w:World)(mg:Str->Option Value)(base:Heap)(z:Z):=Qm P w z.K mg base 3 "_law_loss" ["_law_pot_here"] (spF z.K [true] .V (Y0 z))
abbrev Vt:Stmt:=top 61
def J7 (z:Z):{m:MS // ∀{P w mg base f fd} (T:Txt mg) (con:Con mg z) (F:Fun z.K "_law_strength" "_law_strength" Vt f fd) (Qd:Jd P w mg base z) (Ji:Qbh P w mg base z),FnOk P w z.K mg base (CXe P w) 3 f fd ["_law_pot_here","_law_rows_here"] (spF z.K [true,false] .V (Qx [true,false] 4 m))}:=
 ⟨_,fun T con F Qd Ji=>fnU (N:=["_law_pot_here","_law_rows_here","_law_way","_law_row"]) F (~~~0) rfl (.inl rfl) fun hC hr hd S hown=>(Qe (Qv (i:=2) S rfl (z39 rfl) @0)
  (Qe (JN (Qo (Q6 (QaU hr)) (QcU hC) (xv 2) Qc (nomark _)) (Qi (Qp (JG op_add QbQ Qc @0))) QC)
  (Qe (JN (Qo (Q6 (QaU hr)) (QcU hC) (xv 2) Qc (nomark _)) (Qi (Qp (JG op_add QbQ Qc @0))) QC)
  (Qe (JN (Qo (Q6 (QaU hr)) (QcU hC) (xv 2) Qc (nomark _)) (Qi (Qp (Qn (call_max2 rfl) dI2 T.QoI Ve (Qa Qc (Qa (Y8 (par:=true) (as:=[some 0]) (p:=false) (spk Ji hC) Qf @19 (Qa (xs 0) Qb)) Qb))))) QC)
  (Qe (Qv (i:=3) S rfl (z39 rfl) (Qw hC (xv 1) (Y8 (par:=true) (as:=[some 0,none]) (p:=false) (spk Qd hC) Qf @19 (Qa (xs 0) (Qa (Qn call_len (Qbn hC) T.len z44 (Qa (xv 1) Qb)) Qb)))))
  (Qi (Qp (Qn (call_min2 rfl) dI2 T.QqG Qcg (Qa (JG op_sub Qk0 (JG op_pow Qna Qc Qc) Qc) (Qa (Qn (call_max2 rfl) dI2 T.QoI Ve (Qa Qc (Qa (JG op_add QbQ (Qw hC (xv 3) (Y8 (par:=true) (as:=[some 0,none]) (p:=false) (spk Qd hC) Qf @19 (Qa (xs 0) (Qa (Qn call_len (Qbn hC) T.len z44 (Qa (xv 3) Qb)) Qb)))) @0) Qb))) Qb))))))))))⟩
def J8 (z:Z):List D->Fr:=Qx [true,false] 4 (J7 z).1
abbrev J9 (P:Program)(w:World)(mg:Str->Option Value)(base:Heap)(z:Z):=Qm P w z.K mg base 3 "_law_strength" ["_law_pot_here","_law_rows_here"] (spF z.K [true,false] .V (J8 z))
abbrev Vu:Stmt:=top 65
def Ya (z:Z):{m:MS // ∀{P w mg base f fd} (T:Txt mg) (con:Con mg z) (F:Fun z.K "_law_is_right" "_law_is_right" Vu f fd) (VE:Qds P w mg base z),FnOk P w z.K mg base (CXe P w) 3 f fd ["_law_rows_here","_law_lamps_here","_law_told"] (spF z.K [false,false,false] .V (Qx [false,false,false] 6 m))}:=
 ⟨_,fun T con F VE=>fnU (N:=["_law_rows_here","_law_lamps_here","_law_told","_law_row","_law_column","_law_number"]) F (~~~0) rfl (.inl rfl) fun hC hr hd S hown=>(Qe (JN (PW.pt (VL (Jg (Q5 (Qn YB (Qmq hC) T.isinstance VB (Qa (xv 2) (Qa (V5 T.QdY TL.boot_list) Qb))))) (VI (Qo (Qc8 (QaU hr)) (Qmr hC) (Qaq (QU (p:=true) (par:=false) (cs:=[.me]) (N:=["_law_row"]) (j:=0) hC rfl Blk.of rfl rfl rfl (QJ hC (xv 2)) (fun _ _ _ _ _=>QR) (fun _ _ _ _ _=>Jn fun Cb hb=>(Q7 (Qn call_len (Qbn hb) T.len z44 (Qa (xv 0) Qb)))))) (Qaq (QU (p:=true) (par:=false) (cs:=[.me]) (N:=["_law_row"]) (j:=0) hC rfl Blk.of rfl rfl rfl (QJ hC (xv 0)) (fun _ _ _ _ _=>QR) (fun _ _ _ _ _=>Jn fun Cb hb=>(Q7 (Qn call_len (Qbn hb) T.len z44 (Qa (xv 0) Qb)))))) (nomark _))))) (Qi (Qp QbP)) QC)
  (Qe (Qa0 hown rfl (Yo T.range (Qa (Qn call_len (Qbn hC) T.len z44 (Qa (xv 0) Qb)) Qb)) (pg_name (i:=3) S rfl (z39 rfl)) Yn (Qi (Qa0 hown rfl (Yo T.range (Qa (Qn call_len (Qbn hC) T.len z44 (Qa (Qw hC (xv 0) Qc) Qb)) Qb)) (pg_name (i:=4) S rfl (z39 rfl)) Yn (Qe (Qv (i:=5) S rfl (z39 rfl) (Qw hC (Qw hC (xv 2) (xv 3)) (xv 4)))
  (Qe (JN (PW.pt (VL (Jg (Q5 (Qn YB (Qmq hC) T.isinstance VB (Qa (xv 5) (Qa (V5 T.int_ Qch) Qb))))) (VI (Q5 (Qn YB (Qmq hC) T.isinstance VB (Qa (xv 5) (Qa (V5 T.bool Qc9) Qb))))))) (Qi (Qp QbP)) QC)
  (Qi (JN (Qo (Qc8 (QaU hr)) (Qmr hC) (xv 5) (QB (spk VE hC) Qf @19 (Qa (xv 0) (Qa (xv 1) (Qa (xv 2) (Qa (xv 3) (Qa (xv 4) Qb)))))) (nomark _)) (Qi (Qp QbP)) QC)))))))
  (Qi (Qp QbP))))⟩
def Yb (z:Z):List D->Fr:=Qx [false,false,false] 6 (Ya z).1
abbrev Vv (P:Program)(w:World)(mg:Str->Option Value)(base:Heap)(z:Z):=Qm P w z.K mg base 3 "_law_is_right" ["_law_rows_here","_law_lamps_here","_law_told"] (spF z.K [false,false,false] .V (Yb z))
abbrev Yc:Stmt:=inClass (top 24) 10
def Je (z:Z):{m:MS // ∀{P w mg base f fd} (T:Txt mg) (con:Con mg z) (F:Fun z.K "check_place" "Floor.check_place" Yc f fd) (QY:Qaj P w mg base z),FnOk P w z.K mg base (CXe P w) 4 f fd ["self","place"] (spF z.K [false,false] .V (Qx [false,false] 2 m))}:=
 ⟨_,fun T con F QY=>fnU (N:=["self","place"]) F (~~~0) rfl (.inl rfl) fun hC hr hd S hown=>(Qi (JN (Jg (Q5 (x_m (Qdd QY hC) con.Qr Qf @19 (xv 0) (Qa (xv 1) Qb)))) (Qi QaA) QC))⟩
def Jf (z:Z):List D->Fr:=Qx [false,false] 2 (Je z).1
abbrev QD (P:Program)(w:World)(mg:Str->Option Value)(base:Heap)(z:Z):=QH P w z.K mg base z.Qj 4 "check_place" ["self","place"] (spF z.K [false,false] .V (Jf z))
abbrev VY:Stmt:=top 30
def Yw (z:Z):{m:MS // ∀{P w mg base f fd} (T:Txt mg) (con:Con mg z) (F:Fun z.K "check_losses" "check_losses" VY f fd) (QaN:QeO P w mg base z),FnOk P w z.K mg base (CXe P w) 4 f fd ["row"] (spF z.K [false] .V (Qx [false] 2 m))}:=
 ⟨_,fun T con F QaN=>fnU (N:=["row","value"]) F (~~~0) rfl (.inl rfl) fun hC hr hd S hown=>(Qi (Qa0 hown rfl (QJ hC (xv 0)) (pg_name (i:=1) S rfl (z39 rfl)) Yn (Qi (JN (Jg (Q5 (QB (spk QaN hC) Qf @19 (Qa (xv 1) Qb)))) (Qi QaA) QC))))⟩
def VZ (z:Z):List D->Fr:=Qx [false] 2 (Yw z).1
abbrev V0 (P:Program)(w:World)(mg:Str->Option Value)(base:Heap)(z:Z):=Qm P w z.K mg base 4 "check_losses" ["row"] (spF z.K [false] .V (VZ z))
abbrev QcO:Stmt:=top 60
def Qam (z:Z):{m:MS // ∀{P w mg base f fd} (T:Txt mg) (con:Con mg z) (F:Fun z.K "_law_rows" "_law_rows" QcO f fd) (Qd:Jd P w mg base z) (QZ:Qal P w mg base z),FnOk P w z.K mg base (CXe P w) 4 f fd ["_law_pot_here"] (spF z.K [true] .O (Qx [true] 4 m))}:=
 ⟨_,fun T con F Qd QZ=>fnU (N:=["_law_pot_here","_law_high","_law_wide","_law_way"]) F (~~~0) rfl (.inr rfl) fun hC hr hd S hown=>(Qe (Qv (i:=1) S rfl (z39 rfl) (JG op_add QbQ Qc @0))
  (Qe (Qv (i:=2) S rfl (z56 rfl) (JG op_add QbQ Qc @0))
  (Qe (Qv (i:=3) S rfl (z39 rfl) @0)
  (Qe (JN (Qo (Q6 (QaU hr)) (QcU hC) (xv 3) Qc (nomark _)) (Qe (Qv (i:=1) S rfl (z39 rfl) (JG op_add QbQ Qc @0))
  (Qi (Qv (i:=2) S rfl (z56 rfl) (JG op_add QbQ Qc @0)))) QC)
  (Qe (JN (Qo (Q6 (QaU hr)) (QcU hC) (xv 3) Qc (nomark _)) (Qe (Qv (i:=1) S rfl (z39 rfl) (JG op_add QbQ Qc @0))
  (Qi (Qv (i:=2) S rfl (z56 rfl) (JG op_add QbQ Qc @0)))) QC)
  (Qe (JN (Qo (Q6 (QaU hr)) (QcU hC) @0 Qc (nomark _)) (Qi (Qp (QU (p:=false) (par:=true) (cs:=[.me,.fz 2,.io 0]) (N:=["_law_row","_law_wide","_law_pot_here"]) (j:=0) hC rfl Blk.of rfl rfl rfl (Yo T.range (Qa (xv 1) Qb)) (fun _ _ _ _ _=>QR) (fun _ _ _ _ _=>Jn fun Cb hb=>(QU (p:=false) (par:=true) (cs:=[.me,.io 2]) (N:=["_law_column","_law_pot_here"]) (j:=0) hb rfl Blk.of rfl rfl rfl (Yo T.range (Qa (xv 1) Qb)) (fun _ _ _ _ _=>QR) (fun _ _ _ _ _=>Jn fun Cb hb=>(Q7 (Y8 (par:=true) (as:=[some 1]) (p:=false) (spk QZ hb) Y3 @19 (Qa (xs 1) Qb))))))))) QC)
  (Qi (Qp (QU (p:=false) (par:=true) (cs:=[.me,.fz 2,.io 0]) (N:=["_law_row","_law_wide","_law_pot_here"]) (j:=0) hC rfl Blk.of rfl rfl rfl (Yo T.range (Qa (xv 1) Qb)) (fun _ _ _ _ _=>QR) (fun _ _ _ _ _=>Jn fun Cb hb=>(QU (p:=false) (par:=true) (cs:=[.me,.io 2]) (N:=["_law_column","_law_pot_here"]) (j:=0) hb rfl Blk.of rfl rfl rfl (Yo T.range (Qa (xv 1) Qb)) (fun _ _ _ _ _=>QR) (fun _ _ _ _ _=>Jn fun Cb hb=>(Q7 (Qw hb (Qhg (Qa Qc (Qa Qc (Qa Qc (Qa Qc (Qa Qc Qb)))))) (Y8 (par:=true) (as:=[some 1,none]) (p:=false) (spk Qd hb) Y3 @19 (Qa (xs 1) (Qa Qc Qb)))))))))))))))))⟩
def Qan (z:Z):List D->Fr:=Qx [true] 4 (Qam z).1
abbrev QcP (P:Program)(w:World)(mg:Str->Option Value)(base:Heap)(z:Z):=Qm P w z.K mg base 4 "_law_rows" ["_law_pot_here"] (spF z.K [true] .O (Qan z))
abbrev QbC:Stmt:=top 62
def Vw (z:Z):{m:MS // ∀{P w mg base f fd} (T:Txt mg) (con:Con mg z) (F:Fun z.K "_law_lamps" "_law_lamps" QbC f fd) (Qd:Jd P w mg base z) (Qy:J9 P w mg base z),FnOk P w z.K mg base (CXe P w) 4 f fd ["_law_pot_here","_law_rows_here","_law_most"] (spF z.K [true,false,false] .O (Qx [true,false,false] 7 m))}:=
 ⟨_,fun T con F Qd Qy=>fnU (N:=["_law_pot_here","_law_rows_here","_law_most","_law_found","_law_k","_law_place","_law_strength_here"]) F (~~~0) rfl (.inr rfl) fun hC hr hd S hown=>(Qe (Vc (i:=3) S rfl (z39 rfl) (Qcc Qb))
  (Qe (Qa0 hown rfl (Yo T.range (Qa (Y8 (par:=true) (as:=[some 0,none]) (p:=false) (spk Qd hC) Qf @19 (Qa (xs 0) (Qa (JG op_add QbQ (xv 2) Qc) Qb))) Qb)) (pg_name (i:=4) S rfl (z39 rfl)) Yn (Qe (Qv (i:=5) S rfl (z39 rfl) (Q8 (Qa (Y8 (par:=true) (as:=[some 0,none]) (p:=false) (spk Qd hC) Qf @19 (Qa (xs 0) (Qa (Qn call_len (Qbn hC) T.len z44 (Qa (xv 1) Qb)) Qb))) (Qa (Y8 (par:=true) (as:=[some 0,none]) (p:=false) (spk Qd hC) Qf @19 (Qa (xs 0) (Qa (Qn call_len (Qbn hC) T.len z44 (Qa (Qw hC (xv 1) Qc) Qb)) Qb))) Qb))))
  (Qe (Qv (i:=6) S rfl (z39 rfl) (Y8 (par:=true) (as:=[some 0,none]) (p:=false) (spk Qy hC) Qf @19 (Qa (xs 0) (Qa (xv 1) Qb))))
  (Qi (JN (PW.pt (YK (Qo op_gt dGt (Qw hC (Qw hC (xv 1) (Qw hC (xv 5) Qc)) (Qw hC (xv 5) Qc)) Qc (nomark _)) (VI (Qo (Qeq (Qpg hr)) (Qq3 hC) (xv 5) (Qaq (Qjx (p:=true) (par:=false) (cs:=[.me]) (N:=["_law_lamp"]) (j:=0) hC rfl Blk.of rfl rfl rfl (QlK hC (xb 3)) (fun _ _ _ _ _=>QR) (fun _ _ _ _ _=>Jn fun Cb hb=>(Q7 (Qw hb (xv 0) Qc))))) rfl)))) (Qi (Qk4 (i:=3) hC rfl @8 (Q7 (Q8 (Qa (xv 5) (Qa (xv 6) Qb)))))) QC)))))
  (Qi (Qp (xo 3)))))⟩
def QbD (z:Z):List D->Fr:=Qx [true,false,false] 7 (Vw z).1
abbrev QbE (P:Program)(w:World)(mg:Str->Option Value)(base:Heap)(z:Z):=Qm P w z.K mg base 4 "_law_lamps" ["_law_pot_here","_law_rows_here","_law_most"] (spF z.K [true,false,false] .O (QbD z))
abbrev QbF:Stmt:=top 16
def Vx (z:Z):{m:MS // ∀{P w mg base f fd} (T:Txt mg) (con:Con mg z) (F:Fun z.K "check_lamp" "check_lamp" QbF f fd) (JE:QcD P w mg base z) (Jb:Y7 P w mg base z) (Qg:QD P w mg base z),FnOk P w z.K mg base (CXe P w) 5 f fd ["floor","lamp"] (spF z.K [false,false] .V (Qx [false,false] 2 m))}:=
 ⟨_,fun T con F JE Jb Qg=>fnU (N:=["floor","lamp"]) F (~~~0) rfl (.inl rfl) fun hC hr hd S hown=>(Qe (JN (Jg (Q5 (QB (spk JE hC) Qf @19 (Qa (xv 1) Qb)))) (Qi QaA) QC)
  (Qe (Vb (x_m (Qdd Qg hC) con.Qr Qf @19 (xv 0) (Qa (Qw hC (xv 1) Qc) Qb)))
  (Qi (Vb (QB (spk Jb hC) Qf @19 (Qa (Qw hC (xv 1) Qc) Qb))))))⟩
def QbG (z:Z):List D->Fr:=Qx [false,false] 2 (Vx z).1
abbrev QbH (P:Program)(w:World)(mg:Str->Option Value)(base:Heap)(z:Z):=Qm P w z.K mg base 5 "check_lamp" ["floor","lamp"] (spF z.K [false,false] .V (QbG z))
abbrev Yf:Stmt:=inClass (top 24) 0
def JF (z:Z):{m:ME // ∀{P w mg base f fd} (T:Txt mg) (con:Con mg z) (F:Fun z.K "__init__" "Floor.__init__" Yf f fd) (Jy:VX P w mg base z) (Jz:V0 P w mg base z),FnOk P w z.K mg base (CXe P w) 5 f fd ["self","rows"] (spI z.K z.Qj (Qon z.Qj 3 "losses" m))}:=
 ⟨_,fun{P w mg base f fd} T con F Jy Jz=>have S:FnScope ["self","rows","row"] ["self","rows"] (defScope Yf):= ~~~0;fnI F S con.Qr con.Qs fun cdv A outer s H E C x hC hr hd=>have hown:=@QqN P w z.K mg base ["self","rows","row"] "Floor.__init__" (defScope Yf) f cdv A outer s H E;(Qkk (JN (Jg (Q5 (QB (spk Jy hC) Qf @19 (Qa (xv 1) Qb)))) (Qi QaA) QC)
  (Qkk (Qa0 hown rfl (QJ hC (xv 1)) (pg_name (i:=2) S.nd rfl (z39 rfl)) Yn (Qi (Vb (QB (spk Jz hC) Qf @19 (Qa (xv 2) Qb)))))
  (Qqk hC rfl @8 (Qau T.tuple hC (Qa (Qaq (QU (p:=true) (par:=false) (cs:=[.me]) (N:=["row"]) (j:=0) hC rfl Blk.of rfl rfl rfl (QJ hC (xv 1)) (fun _ _ _ _ _=>QR) (fun _ _ _ _ _=>Jn fun Cb hb=>(Q7 (Qau T.tuple hb (Qa (xv 0) Qb)))))) Qb)))))⟩
def Jj (z:Z):Addr->D->Fr:=Qon z.Qj 3 "losses" (JF z).1
abbrev Yg (P:Program)(w:World)(mg:Str->Option Value)(base:Heap)(z:Z):=Qar P w z.K mg base z.Qj 5 "Floor" ["self","rows"] (spI z.K z.Qj (Jj z))
abbrev QbI:Stmt:=inClass (top 24) 4
def Vy (z:Z):{m:MS // ∀{P w mg base f fd} (T:Txt mg) (con:Con mg z) (F:Fun z.K "loss" "Floor.loss" QbI f fd) (Qg:QD P w mg base z),FnOk P w z.K mg base (CXe P w) 5 f fd ["self","place"] (spF z.K [false,false] .V (Qx [false,false] 2 m))}:=
 ⟨_,fun T con F Qg=>fnU (N:=["self","place"]) F (~~~0) rfl (.inl rfl) fun hC hr hd S hown=>(Qe (Vb (x_m (Qdd Qg hC) con.Qr Qf @19 (xv 0) (Qa (xv 1) Qb)))
  (Qi (Qp (Qw hC (Qw hC (Qda con.Qr con.Qs (xv 0)) (Qw hC (xv 1) Qc)) (Qw hC (xv 1) Qc)))))⟩
def QbJ (z:Z):List D->Fr:=Qx [false,false] 2 (Vy z).1
abbrev QbK (P:Program)(w:World)(mg:Str->Option Value)(base:Heap)(z:Z):=QH P w z.K mg base z.Qj 5 "loss" ["self","place"] (spF z.K [false,false] .V (QbJ z))
abbrev V1:Stmt:=inClass (top 24) 5
def Yx (z:Z):{m:MS // ∀{P w mg base f fd} (T:Txt mg) (con:Con mg z) (F:Fun z.K "beside" "Floor.beside" V1 f fd) (Qk:QW P w mg base z) (QbZ:Qf3 P w mg base z) (QY:Qaj P w mg base z) (Qg:QD P w mg base z),FnOk P w z.K mg base (CXe P w) 5 f fd ["self","place"] (spF z.K [false,false] .O (Qx [false,false] 2 m))}:=
 ⟨_,fun T con F Qk QbZ QY Qg=>fnU (N:=["self","place"]) F (~~~0) rfl (.inr rfl) fun hC hr hd S hown=>(Qe (Vb (x_m (Qdd Qg hC) con.Qr Qf @19 (xv 0) (Qa (xv 1) Qb)))
  (Qi (Qp (QU (p:=true) (par:=false) (cs:=[.me,.fz 0]) (N:=["near","self"]) (j:=0) hC rfl Blk.of rfl rfl rfl (QJ hC (Qaq (Y8 (par:=false) (as:=[none]) (p:=true) (spk QbZ hC) Qf @19 (Qa (xv 1) Qb)))) (fun _ _ _ _ _=>QfJ fun Cb hb=>(PW.pt (YK (Q5 (x_m (Qdd QY hb) con.Qr Y3 @19 (xv 1) (Qa (xv 0) Qb))) (VI (Jg (Q5 (x_m (Qdd Qk hb) con.Qr Y3 @19 (xv 1) (Qa (xv 0) Qb)))))))) (fun _ _ _ _ _=>Jn fun Cb hb=>(Q7 (xv 0)))))))⟩
def V2 (z:Z):List D->Fr:=Qx [false,false] 2 (Yx z).1
abbrev V3 (P:Program)(w:World)(mg:Str->Option Value)(base:Heap)(z:Z):=QH P w z.K mg base z.Qj 5 "beside" ["self","place"] (spF z.K [false,false] .O (V2 z))
abbrev QaO:Stmt:=top 14
def Y1 (z:Z):{m:MS // ∀{P w mg base f fd} (T:Txt mg) (con:Con mg z) (F:Fun z.K "looked_over" "looked_over" QaO f fd) (VF:Qdk P w mg base z) (Yh:QbB P w mg base z) (Yi:QbH P w mg base z),FnOk P w z.K mg base (CXe P w) 6 f fd ["floor","lamps"] (spF z.K [false,false] .O (Qx [false,false] 5 m))}:=
 ⟨_,fun T con F VF Yh Yi=>fnU (N:=["floor","lamps","strengths","lamp","place"]) F (~~~0) rfl (.inr rfl) fun hC hr hd S hown=>(Qe (Vc (i:=2) S rfl (z39 rfl) Qk7)
  (Qe (Qa0 hown rfl (QJ hC (xv 1)) (pg_name (i:=3) S rfl (z39 rfl)) Yn (Qe (Vb (QB (spk Yi hC) Qf @19 (Qa (xv 0) (Qa (xv 3) Qb))))
  (Qe (Qv (i:=4) S rfl (z39 rfl) (Qau T.tuple hC (Qa (Qw hC (xv 3) Qc) Qb)))
  (Qe (Vb (QB (spk Yh hC) Qf @19 (Qa (xv 0) (Qa (xb 2) (Qa (xv 4) Qb)))))
  (Qi (Qnl (i:=2) (hu_of hr) rfl @8 (Qw hC (xv 3) Qc) (xv 4)))))))
  (Qi (Qp (QB (spk VF hC) Qf @19 (Qa (xb 2) Qb))))))⟩
def QaP (z:Z):List D->Fr:=Qx [false,false] 5 (Y1 z).1
abbrev QaQ (P:Program)(w:World)(mg:Str->Option Value)(base:Heap)(z:Z):=Qm P w z.K mg base 6 "looked_over" ["floor","lamps"] (spF z.K [false,false] .O (QaP z))
abbrev Qks:Stmt:=top 36
def Qio (z:Z):{m:MS // ∀{P w mg base f fd} (T:Txt mg) (con:Con mg z) (F:Fun z.K "give" "give" Qks f fd) (Q3:YD P w mg base z) (Qq:J5 P w mg base z) (Yj:QbK P w mg base z) (JA:V3 P w mg base z),FnOk P w z.K mg base (CXe P w) 6 f fd ["floor","rows","waiting","entry"] (spF z.K [false,true,true,false] .V (Qx [false,true,true,false] 6 m))}:=
 ⟨_,fun T con F Q3 Qq Yj JA=>fnU (N:=["floor","rows","waiting","entry","near","number"]) F (~~~0) rfl (.inl rfl) fun hC hr hd S hown=>(Qi (Qa0 hown rfl (QJ hC (Qaq (x_m (Qdd JA hC) con.Qr Qf @19 (xv 0) (Qa (Qw hC (xv 3) Qc) Qb)))) (pg_name (i:=4) S rfl (z39 rfl)) Yn (Qe (Qv (i:=5) S rfl (z39 rfl) (JG op_sub Qk0 (Qw hC (xv 3) Qc) (x_m (Qdd Yj hC) con.Qr Qf @19 (xv 0) (Qa (xv 4) Qb))))
  (Qi (JN (Qo op_gt dGt (xv 5) (QB (spk Qq hC) Qf @19 (Qa (xb 1) (Qa (xv 4) Qb))) (nomark _)) (Qe (Qay (i:=1) hC (Q7 (xv 5)) (hg:=pg_sub (pe_ix ix_list (pv 1) (Qw hC (xv 4) Qc) (fun _ _=>rfl)) (Qw hC (xv 4) Qc) set_list))
  (Qi (Vb (Y8 (par:=true) (as:=[some 2,none]) (p:=false) (spk Q3 hC) Qf @19 (Qa (xs 2) (Qa (Q8 (Qa (xv 5) (Qa (xv 4) Qb))) Qb)))))) QC)))))⟩
def Qkt (z:Z):List D->Fr:=Qx [false,true,true,false] 6 (Qio z).1
abbrev Qku (P:Program)(w:World)(mg:Str->Option Value)(base:Heap)(z:Z):=Qm P w z.K mg base 6 "give" ["floor","rows","waiting","entry"] (spF z.K [false,true,true,false] .V (Qkt z))
abbrev YF:Stmt:=inClass (top 24) 6
def Js (z:Z):{m:MS // ∀{P w mg base f fd} (T:Txt mg) (con:Con mg z) (F:Fun z.K "with_loss" "Floor.with_loss" YF f fd) (QN:Vo P w mg base z) (Qg:QD P w mg base z) (Qt:Yg P w mg base z),FnOk P w z.K mg base (CXe P w) 7 f fd ["self","place","loss"] (spF z.K [false,false,false] .V (Qx [false,false,false] 4 m))}:=
 ⟨_,fun T con F QN Qg Qt=>fnU (N:=["self","place","loss","rows"]) F (~~~0) rfl (.inl rfl) fun hC hr hd S hown=>(Qe (Vb (x_m (Qdd Qg hC) con.Qr Qf @19 (xv 0) (Qa (xv 1) Qb)))
  (Qe (Vc (i:=3) S rfl (z39 rfl) (Qlz (Qdd QN hC) con.Qr Qf @19 (xv 0)))
  (Qe (Qay (i:=3) hC (Q7 (xv 2)) (hg:=pg_sub (pe_ix ix_list (pv 3) (Qw hC (xv 1) Qc) (fun _ _=>rfl)) (Qw hC (xv 1) Qc) set_list))
  (Qi (Qp (Qjs (Qpl Qt hC) Qf @19 (Qa (xb 3) Qb)))))))⟩
def YG (z:Z):List D->Fr:=Qx [false,false,false] 4 (Js z).1
abbrev YH (P:Program)(w:World)(mg:Str->Option Value)(base:Heap)(z:Z):=QH P w z.K mg base z.Qj 7 "with_loss" ["self","place","loss"] (spF z.K [false,false,false] .V (YG z))
abbrev Qf7:Stmt:=top 33
def Qd0 (z:Z):{m:MS // ∀{P w mg base f fd} (T:Txt mg) (con:Con mg z) (F:Fun z.K "spread" "spread" Qf7 f fd) (Qq:J5 P w mg base z) (Qf8:Qkr P w mg base z) (Qb0:Qf6 P w mg base z) (Qf9:Qku P w mg base z),FnOk P w z.K mg base (CXe P w) 7 f fd ["floor","rows","starts"] (spF z.K [false,false,false] .O (Qx [false,false,false] 7 m))}:=
 ⟨_,fun T con F Qq Qf8 Qb0 Qf9=>fnU (N:=["floor","rows","starts","behind","start","waiting","entry"]) F (~~~0) rfl (.inr rfl) fun hC hr hd S hown=>(Qe (Qhy (i0:=3) (par:=false) (cs:=[.me]) (N:=["row"]) (j:=0) hC rfl S rfl (z39 rfl) Blk.of rfl rfl rfl (QJ hC (xv 1)) (fun _ _ _ _ _=>QR) (fun _ _ _ _ _=>Jn fun Cb hb=>(QaZ (x := "") T.QdY hb (Qa (xv 0) Qb))))
  (Qe (Qa0 hown rfl (QJ hC (xv 2)) (pg_name (i:=4) S rfl (z39 rfl)) Yn (Qi (Vb (Y8 (par:=false) (as:=[none,some 3,none]) (p:=false) (spk Qf8 hC) Qf @19 (Qa (xv 0) (Qa (xs 3) (Qa (xv 4) Qb)))))))
  (Qe (Vc (i:=5) S rfl (z39 rfl) (QB (spk Qb0 hC) Qf @19 (Qa (xv 0) (Qa (xb 3) Qb))))
  (Qe (Qhl (n:=1000000) hown (Qo op_gt dGt (Qn call_len (Qbn hC) T.len z44 (Qa (xb 5) Qb)) Qc (nomark _)) (Qe (Qv (i:=6) S rfl (z39 rfl) (Qoo (i:=5) rfl @8))
  (Qi (JN (Qo (Q6 (QaU hr)) (QcU hC) (QB (spk Qq hC) Qf @19 (Qa (xb 3) (Qa (Qw hC (xv 6) Qc) Qb))) (Qw hC (xv 6) Qc) (nomark _)) (Qi (Vb (Y8 (par:=false) (as:=[none,some 3,some 5,none]) (p:=false) (spk Qf9 hC) Qf @19 (Qa (xv 0) (Qa (xs 3) (Qa (xs 5) (Qa (xv 6) Qb))))))) QC))))
  (Qi (Qp (xo 3)))))))⟩
def Qga (z:Z):List D->Fr:=Qx [false,false,false] 7 (Qd0 z).1
abbrev Qgb (P:Program)(w:World)(mg:Str->Option Value)(base:Heap)(z:Z):=Qm P w z.K mg base 7 "spread" ["floor","rows","starts"] (spF z.K [false,false,false] .O (Qga z))
abbrev QbL:Stmt:=top 50
def Vz (z:Z):{m:MS // ∀{P w mg base f fd} (T:Txt mg) (con:Con mg z) (F:Fun z.K "read_floor" "read_floor" QbL f fd) (VG:Qdv P w mg base z) (Qt:Yg P w mg base z),FnOk P w z.K mg base (CXe P w) 7 f fd ["text"] (spF z.K [false] .V (Qx [false] 5 m))}:=
 ⟨_,fun T con F VG Qt=>fnU (N:=["text","rows","number","line","row"]) F (~~~0) rfl (.inl rfl) fun hC hr hd S hown=>(Qe (Vc (i:=1) S rfl (z39 rfl) (Qcc Qb))
  (Qe (Qa0 hown rfl (QhI T.enumerate hC (Qa (Qaq (QfQ (xv 0) (Qa Qc4 Qb))) Qb)) (pg_tup rfl (pgs_cons (pg_name (i:=2) S rfl (z39 rfl)) (pgs_cons (pg_name (i:=3) S rfl (z39 rfl)) pgs_nil))) (Qe4 hC) (Qe (Vc (i:=4) S rfl (z39 rfl) (QB (spk VG hC) Qf @19 (Qa (xv 3) Qb)))
  (Qe (JN (PW.pt (VL (Qo (Q6 (QaU hr)) (QcU hC) (xv 2) (Jc (d:=.int 30) rfl ⟨_,rfl⟩ con.Qde) (nomark _)) (VI (Qo op_isN Qq7 (xb 4) Qb8 (nomark _))))) (Qi QaA) QC)
  (Qe (JN (PW.pt (YK (Qo op_gt dGt (xv 2) Qc (nomark _)) (VI (Qo (Qc8 (QaU hr)) (Qmr hC) (Qn call_len (Qbn hC) T.len z44 (Qa (xb 4) Qb)) (Qn call_len (Qbn hC) T.len z44 (Qa (V6 hC (xb 1) Qc) Qb)) (nomark _))))) (Qi QaA) QC)
  (Qi (Qk4 (i:=1) hC rfl @8 (xo 4)))))))
  (Qi (Qp (Qjs (Qpl Qt hC) Qf @19 (Qa (xb 1) Qb))))))⟩
def QbM (z:Z):List D->Fr:=Qx [false] 5 (Vz z).1
abbrev QbN (P:Program)(w:World)(mg:Str->Option Value)(base:Heap)(z:Z):=Qm P w z.K mg base 7 "read_floor" ["text"] (spF z.K [false] .V (QbM z))
abbrev QoJ:Stmt:=top 41
def Ql1 (z:Z):{m:MS // ∀{P w mg base f fd} (T:Txt mg) (con:Con mg z) (F:Fun z.K "lit" "lit" QoJ f fd) (QL:Vj P w mg base z) (QM:Vm P w mg base z) (Qb1:Qgb P w mg base z),FnOk P w z.K mg base (CXe P w) 8 f fd ["floor","lamps"] (spF z.K [false,false] .O (Qx [false,false] 3 m))}:=
 ⟨_,fun T con F QL QM Qb1=>fnU (N:=["floor","lamps","noughts"]) F (~~~0) rfl (.inr rfl) fun hC hr hd S hown=>(Qe (QhQ (i0:=2) (par:=false) (cs:=[.me,.fz 0]) (N:=["row","floor"]) (j:=0) hC rfl S rfl (z39 rfl) Blk.of rfl rfl rfl (Yo T.range (Qa (Qlz (Qdd QL hC) con.Qr Qf @19 (xv 0)) Qb)) (fun _ _ _ _ _=>QR) (fun _ _ _ _ _=>Jn fun Cb hb=>(Qos hb (Qhg (Qa Qc Qb)) (Qlz (Qdd QM hb) con.Qr Y3 @19 (xv 1)))))
  (Qi (Qp (QB (spk Qb1 hC) Qf @19 (Qa (xv 0) (Qa (xv 2) (Qa (xv 1) Qb)))))))⟩
def QoK (z:Z):List D->Fr:=Qx [false,false] 3 (Ql1 z).1
abbrev QoL (P:Program)(w:World)(mg:Str->Option Value)(base:Heap)(z:Z):=Qm P w z.K mg base 8 "lit" ["floor","lamps"] (spF z.K [false,false] .O (QoK z))
abbrev Qgc:Stmt:=top 40
def Qd1 (z:Z):{m:MS // ∀{P w mg base f fd} (T:Txt mg) (con:Con mg z) (F:Fun z.K "lights" "lights" Qgc f fd) (JU:QaQ P w mg base z) (QjF:QoL P w mg base z),FnOk P w z.K mg base (CXe P w) 9 f fd ["floor","lamps"] (spF z.K [false,false] .O (Qx [false,false] 2 m))}:=
 ⟨_,fun T con F JU QjF=>fnU (N:=["floor","lamps"]) F (~~~0) rfl (.inr rfl) fun hC hr hd S hown=>(Qi (Qp (QB (spk QjF hC) Qf @19 (Qa (xv 0) (Qa (Qaq (QB (spk JU hC) Qf @19 (Qa (xv 0) (Qa (xv 1) Qb)))) Qb)))))⟩
def Qd2 (z:Z):List D->Fr:=Qx [false,false] 2 (Qd1 z).1
abbrev Qgd (P:Program)(w:World)(mg:Str->Option Value)(base:Heap)(z:Z):=Qm P w z.K mg base 9 "lights" ["floor","lamps"] (spF z.K [false,false] .O (Qd2 z))
abbrev Qip:Stmt:=top 66
def Ql2 (z:Z):{m:MS // ∀{P w mg base f fd} (T:Txt mg) (con:Con mg z) (F:Fun z.K "law" "law" Qip f fd) (Qd:Jd P w mg base z) (JW:Qdo P w mg base z) (JV:QaM P w mg base z) (QZ:Qal P w mg base z) (Qy:J9 P w mg base z) (QE:Vv P w mg base z) (Y2:QcP P w mg base z) (Yk:QbE P w mg base z) (Qt:Yg P w mg base z) (Q4:YH P w mg base z) (Yl:QbN P w mg base z) (Ym:Qgd P w mg base z),FnOk P w z.K mg base (CXe P w) 10 f fd ["_law_script"] (spF z.K [false] .V (Qx [false] 13 m))}:=
 ⟨_,fun T con F Qd JW JV QZ Qy QE Y2 Yk Qt Q4 Yl Ym=>fnU (N:=["_law_script","_law_pot_here","_law_rows_here","_law_lamps_here","_law_others","_law_row","_law_column","_law_floor","_law_other","_law_handed","_law_told","_law_kept","_law_turned"]) F (~~~0) rfl (.inl rfl) fun hC hr hd S hown=>(Qe (Vc (i:=1) S rfl (z56 rfl) (QB (spk JW hC) Qf @19 (Qa (xv 0) (Qa Qc Qb))))
  (Qe (Qv (i:=2) S rfl (z56 rfl) (Qaq (Y8 (par:=false) (as:=[some 1]) (p:=false) (spk Y2 hC) Qf @19 (Qa (xs 1) Qb))))
  (Qe (Qv (i:=3) S rfl (z39 rfl) (Qaq (Qqo (spk Yk hC) Qf @19 (Qa (QB (spk JW hC) Qf @19 (Qa (xv 0) (Qa Qc Qb))) (Qa (xv 2) (Qa Qc Qb))))))
  (Qe (Qhy (i0:=4) (par:=false) (cs:=[.me]) (N:=["_law_row"]) (j:=0) hC rfl S rfl (z39 rfl) Blk.of rfl rfl rfl (QJ hC (xv 2)) (fun _ _ _ _ _=>QR) (fun _ _ _ _ _=>Jn fun Cb hb=>(QaZ (x := "") T.QdY hb (Qa (xv 0) Qb))))
  (Qe (Vc (i:=1) S rfl (z56 rfl) (QB (spk JW hC) Qf @19 (Qa (xv 0) (Qa Qc Qb))))
  (Qe (Qv (i:=5) S rfl (z39 rfl) (Y8 (par:=false) (as:=[some 1,none]) (p:=false) (spk Qd hC) Qf @19 (Qa (xs 1) (Qa (Qn call_len (Qbn hC) T.len z44 (Qa (xv 2) Qb)) Qb))))
  (Qe (Qv (i:=6) S rfl (z39 rfl) (Y8 (par:=false) (as:=[some 1,none]) (p:=false) (spk Qd hC) Qf @19 (Qa (xs 1) (Qa (Qn call_len (Qbn hC) T.len z44 (Qa (Qw hC (xv 2) Qc) Qb)) Qb))))
  (Qe (JN (Qo (Qeq (Qpg hr)) (Qq3 hC) (Q8 (Qa (xv 5) (Qa (xv 6) Qb))) (Qaq (QU (p:=true) (par:=false) (cs:=[.me]) (N:=["_law_lamp"]) (j:=0) hC rfl Blk.of rfl rfl rfl (QJ hC (xv 3)) (fun _ _ _ _ _=>QR) (fun _ _ _ _ _=>Jn fun Cb hb=>(Q7 (Qw hb (xv 0) Qc))))) rfl) (Qi (Qay (i:=4) hC (Q7 (Y8 (par:=false) (as:=[some 1]) (p:=false) (spk QZ hC) Qf @19 (Qa (xs 1) Qb))) (hg:=pg_sub (pe_ix ix_list (pv 4) (xv 5) (fun _ _=>rfl)) (xv 6) set_list))) QC)
  (Qe (Qv (i:=7) S rfl (z39 rfl) (Qjs (Qpl Qt hC) Qf @19 (Qa (xv 2) Qb)))
  (Qe (JN (Qo (Q6 (QaU hr)) (QcU hC) (Y8 (par:=false) (as:=[some 1,none]) (p:=false) (spk Qd hC) Qf @19 (Qa (xs 1) (Qa Qc Qb))) Qc (nomark _)) (Qi (Qv (i:=7) S rfl (z39 rfl) (QB (spk Yl hC) Qf @19 (Qa (QB (spk JV hC) Qf @19 (Qa (xv 7) Qb)) Qb)))) QC)
  (Qe (Qv (i:=8) S rfl (z39 rfl) (Qjs (Qpl Qt hC) Qf @19 (Qa (Qau T.tuple hC (Qa (Qaq (QU (p:=true) (par:=false) (cs:=[.me]) (N:=["_law_one"]) (j:=0) hC rfl Blk.of rfl rfl rfl (QJ hC (xv 4)) (fun _ _ _ _ _=>QR) (fun _ _ _ _ _=>Jn fun Cb hb=>(Q7 (Qau T.tuple hb (Qa (xv 0) Qb)))))) Qb)) Qb)))
  (Qe (Qv (i:=9) S rfl (z39 rfl) (Qaq (QaZ (x := "") T.QdY hC (Qa (xv 3) Qb))))
  (Qe (Vc (i:=10) S rfl (z39 rfl) (QB (spk Ym hC) Qf @19 (Qa (xv 7) (Qa (xv 9) Qb))))
  (Qe (JN (Qik hC fun Cb hb=>(PW.pt (VL (Jg (Q5 (QB (spk QE hb) Qf @19 (Qa (xv 2) (Qa (xv 3) (Qa (xv 10) Qb)))))) (VI (Qo (Qc8 (QaU hr)) (Qmr hb) (xv 9) (xv 3) (nomark _)))))) (Qi (Qp QbP)) QC)
  (Qe (QjA (i0:=11) (par:=false) (cs:=[.me]) (N:=["_law_one"]) (j:=0) hC rfl S rfl (z39 rfl) Blk.of rfl rfl rfl (fun Cb hb=>(QJ hb (xv 10))) (fun _ _ _ _ _=>QR) (fun _ _ _ _ _=>Jn fun Cb hb=>(QaZ (x := "") T.QdY hb (Qa (xv 0) Qb))))
  (Qe (Qay (i:=10) hC (Q7 (JG op_add QbQ (V6 hC (V6 hC (xb 10) (xv 5)) (xv 6)) Qc)) (hg:=pg_sub (pe_ix ix_list (pv 10) (xv 5) (fun _ _=>rfl)) (xv 6) set_list))
  (Qe (JN (Qo (Q6 (QaU hr)) (QcU hC) (Y8 (par:=false) (as:=[some 1,none]) (p:=false) (spk Qd hC) Qf @19 (Qa (xs 1) (Qa Qc Qb))) Qc (nomark _)) (Qi (Qv (i:=8) S rfl (z39 rfl) (x_m (Qdd Q4 hC) con.Qr Qf @19 (xv 7) (Qa (Q8 (Qa (xv 5) (Qa (xv 6) Qb))) (Qa (V6 hC (V6 hC (xb 4) (xv 5)) (xv 6)) Qb))))) QC)
  (Qe (JN (Qik hC fun Cb hb=>(Jg (Q5 (QB (spk QE hb) Qf @19 (Qa (xv 4) (Qa (xv 3) (Qa (Qaq (QB (spk Ym hb) Qf @19 (Qa (xv 8) (Qa (QlR hb rfl T.tuple T.reversed (xv 3)) Qb)))) Qb))))))) (Qi (Qp QbP)) QC)
  (Qe (Qjz (i0:=12) (par:=false) (cs:=[.me,.me,.io 1,.fz 2]) (N:=["_law_place","_law_strength_here","_law_pot_here","_law_rows_here"]) hC rfl S rfl (z39 rfl) Blk.of rfl rfl (QJ hC (xv 3)) (fun _ _ _ _ _=>pg_tup rfl (pgs_cons (pg_name (i:=0) (show(["_law_place","_law_strength_here","_law_pot_here","_law_rows_here"]:List Str).Nodup by decide) rfl (by first|exact z39 rfl|exact z56 rfl)) (pgs_cons (pg_name (i:=1) (show(["_law_place","_law_strength_here","_law_pot_here","_law_rows_here"]:List Str).Nodup by decide) rfl (by first|exact z39 rfl|exact z56 rfl)) pgs_nil))) (fun _ _ _ _ _=>QR) (fun _ _ _ _ _=>Jn fun Cb hb=>(Q7 (Q8 (Qa (xv 0) (Qa (Y8 (par:=true) (as:=[some 2,none]) (p:=false) (spk Qy hb) Y3 @19 (Qa (xs 2) (Qa (xv 3) Qb))) Qb))))))
  (Qe (JN (Jg (Q5 (QB (spk QE hC) Qf @19 (Qa (xv 2) (Qa (xv 12) (Qa (Qaq (QB (spk Ym hC) Qf @19 (Qa (xv 7) (Qa (Qaq (QdV (p:=true) (par:=false) (cs:=[.me,.me]) (N:=["_law_place","_law_strength_here"]) hC rfl Blk.of rfl rfl (QJ hC (xv 12)) (fun _ _ _ _ _=>pg_tup rfl (pgs_cons (pg_name (i:=0) (show(["_law_place","_law_strength_here"]:List Str).Nodup by decide) rfl (by first|exact z39 rfl|exact z56 rfl)) (pgs_cons (pg_name (i:=1) (show(["_law_place","_law_strength_here"]:List Str).Nodup by decide) rfl (by first|exact z39 rfl|exact z56 rfl)) pgs_nil))) (fun _ _ _ _ _=>QR) (fun _ _ _ _ _=>Jn fun Cb hb=>(QlO (Qa (QaZ (x := "") T.QdY hb (Qa (xv 0) Qb)) (Qa (Q7 (xv 1)) Qb)))))) Qb)))) Qb)))))) (Qi (Qp QbP)) QC)
  (Qe (JN (Jg (Q5 (QB (spk QE hC) Qf @19 (Qa (xv 2) (Qa (Qnh hC (xv 3) (QhM Qc) Qng) (Qa (Qaq (QB (spk Ym hC) Qf @19 (Qa (xv 7) (Qa (Qnh hC (xv 3) (QhM Qc) Qng) Qb)))) Qb)))))) (Qi (Qp QbP)) QC)
  (Qi (Qp (Qjd (Q6 (QaU hr)) (QcU hC) (Qaq (QB (spk Ym hC) Qf @19 (Qa (xv 7) (Qa (Qaq (QlP hC rfl T.QdY T.reversed (xv 3))) Qb)))) (xv 11) (nomark _)))))))))))))))))))))))))⟩
def Ql3 (z:Z):List D->Fr:=Qx [false] 13 (Ql2 z).1
end
end G22
open PySem PySem.Spec L2 L2.Srt TL
local macro_rules
 | `(~~~$x)=>`(some (TL.Sl.frz $x))
local macro_rules
 | `(tactic| simp? only[$xs,*])=>`(tactic| simp only[w_S,Qnu,Qnv,Qno,Qnp,w_V,Qnq,Qnr,Qns,w_B,Qnt,w_O,w_C,Qp1,w_I,Qnw,QrB,Qp2,Qnx,Qp3,Qp4,Qny,Qp5,Qnz,QrC,QnA,Qp6,Qp7,QnB,QnC,QnD,Qld,QnE,Qp8,QnF,Qp9,QnG,QnH,QnI,Qle,QnJ,QnK,QnL,Qqa,QnM,Qqb,QnN,QrD,QnO,QnP,QnQ,QnR,QnS,QnT,QrE,Qlf,QnU,Qlg,QnV,Qqd,QnW,QnX,QnY,QnZ,Qn0,Qn1,Qn2,Qlh,JK,Qh,Int.reduceEq,Qnn,V7,Qj3,QpT,VJ,mkS,asB,asI,asL,QrN,QrO,atI,ixN,QpP,TL.gSub,QqU,QqV,QqW,QqX,gLt,gLe,gGt,gGe,gI0,gIc,Qcj,QhT,Qrt,Qru,gI2,Qqz,QqA,Qji,slot0,zc6,List.zipWith_nil_left,List.zipWith_nil_right,z40,List.cons_append,List.nil_append,z71,z30,zh4,List.getElem?_cons_zero,List.getElem?_cons_succ,List.getElem?_nil,List.set_cons_zero,List.set_cons_succ,List.set_nil,zy1,Option.map_none,zg5,Option.bind_none,Nat.reduceAdd,Nat.reduceSub,z83,if_true,if_false,Nat.reduceLT,Nat.reduceLeDiff,Int.reduceLT,Int.reduceLE,z94,Int.reduceToNat,Int.toNat_one,Int.cast_ofNat_Int,Cp.is,zc0,YA,Yp,Qhm,outs,List.filterMap_cons_none,List.filterMap_cons_some,List.filterMap_nil,id,D.imm,D.QI,Bool.true_and,zt6,Tag.mut,Bool.not_false,Bool.not_true,decide_eq_true_eq,Bool.decide_eq_true,Int.reduceNeg,z34,Nat.reducePow,QrA,zv8,Nat.succ_eq_add_one,ite_true,ite_false,Bool.not_eq_true,decide_true,decide_false,Qlp,Qlq,Qlr,Qoa,Qob,Qqh,z33,zk7,Qqi,Qog,Qoh,Qlt,Qlu,Qoi,Qh0,Qlv,Qoj,Qok,Qoe,Qof,Qls,Qoc,Qow,Qox,Qoy,Qqv,QlS,QlT,Qqw,Qoz,QlV,QlW,QoA,Qff,QoD,QoE,Ql0,QoF,$xs,*])
namespace G22
open PySem PySem.Spec L2 L2.Srt TL
variable {z:Z}
theorem Ws {m u:MS}{ρ:Rho}{k:Fl×Rho->Prop}(ρ0:Rho)(h1:W (m ρ) fun r=>r.1=.nx/\r.2=ρ0)(h2:W (u ρ0) k):W (Qm2 m u ρ) k:=JO (fun ρ=>ρ=ρ0) h1 (by rintro _ rfl;exact h2)
def Pot (d:D):Prop:=∃f v k:Int,d=.lst [.int f,.int v,.int k]
def spT (n:Int)(d:D)(os:List D):Prop:=∃r p,d=.int r/\os=[p]/\Pot p/\0<=r/\r<n
theorem QA {p:D}{n:Int}(hp:Pot p)(h0:0<n)(h1:n<1000000):FW (YU z [p,.int n]) (spT n):=by
 obtain⟨f,v,k,rfl⟩:=hp
 unfold YU
 refine QK ?_
 dsimp only[Qac]
 have ck:CMul k 15485863:=.inr @3
 have cn:∀a,Qdy a n:=fun a=>⟨h0,by lia⟩
 have c1:∀v,CMul v 48271:=fun v=>.inr @3
 have hm:∀a:Int,0<=(a * 48271+11) % 2147483647/\(a * 48271+11) % 2147483647<2147483647:=fun a=>⟨zl7 _ @3,zi7 _ @3⟩
 have c2:∀v,CMul ((v * 48271+11) % 2147483647) ((v * 48271+11) % 2147483647):=fun v=>.inl ⟨by have:=(hm v).1;lia,by have:=(hm v).2;lia⟩
 have c3:∀a:Int,CMul a 16807:=fun a=>.inr @3
 have c4:∀a:Int,Qdy a 7:=fun a=>⟨by decide,by decide⟩
 have g1:(0:Int)<2147483647:=by decide
 have g2:(0:Int)<2147483629:=by decide
 have g3:(0:Int)<2147483587:=by decide
 by_cases hf:f=0
 ·subst hf
  by_cases hv:(0:Int)=v\/-1=v
  ·have n1:¬ ((1:Int)=0):=by decide
   simp? only[hv,ck,n1,c1,c2,c3,c4,g1,g2,g3,h0]
   exact⟨_,_,rfl,rfl,_,_,rfl,rfl,⟨_,_,_,rfl⟩,zl7 _ @1,zi7 _ h0⟩
  ·simp? only[hv,cn,h0]
   exact⟨_,_,rfl,rfl,_,_,rfl,rfl,⟨_,_,_,rfl⟩,zl7 _ @1,zi7 _ h0⟩
 ·simp? only[hf,c1,c2,c3,c4,g1,g2,g3,h0]
  exact⟨_,_,rfl,rfl,_,_,rfl,rfl,⟨_,_,_,rfl⟩,zl7 _ @1,zi7 _ h0⟩
theorem QoM {par:Bool}{i:Nat}{mN:ME}{ρ:Rho}{p:D}{n:Int}{k:D×Rho->Prop}(hp:Pot p)(h0:0<n)(h1:n<1000000)(hi:ρ[i]? = some (some (mkS par p)))(hn:mN ρ=.ok (.int n,ρ))
  (h:∀r q,Pot q->0<=r->r<n->k (.int r,ρ.set i (some (mkS par q)))):W (QdJ par [some i,none] (YU z) (Q2 (mS i) (Q2 mN QcT)) ρ) k:=by
 have e1:mS i ρ=.ok (p,ρ):=by unfold mS;rw[hi];cases par<;>rfl
 refine Qkd (args:=[p,.int n]) (dis:=[p]) (P:=spT n) (ρ1:=ρ) ?_ ?_ (QA hp h0 h1) ?_
 ·unfold Q2;rw[e1];show((Q2 mN QcT ρ).bind _)=_
  unfold Q2;rw[hn];rfl
 ·show Yp par ρ [i]=_
  unfold Yp Yp;rw[hi];cases par<;>rfl
 ·rintro d os ⟨r,q,rfl,rfl,hq,g0,g1⟩
  exact h r q hq g0 g1
def spP (Q:D->Prop)(d:D)(os:List D):Prop:=∃p,os=[p]/\Pot p/\Q d
def isInt (d:D):Prop:=∃r:Int,d=.int r
abbrev Jm:Int:=10 ^ 60
def Qd3 (d:D):Prop:=∃r:Int,d=.int r/\0<=r/\r<Jm
theorem QoN {par:Bool}{i:Nat}{f:List D->Fr}{ρ:Rho}{p:D}{Q:D->Prop}{k:D×Rho->Prop}(hp:Pot p)(hf:∀p,Pot p->FW (f [p]) (spP Q))(hi:ρ[i]? = some (some (mkS par p)))
  (h:∀d q,Pot q->Q d->k (d,ρ.set i (some (mkS par q)))):W (QdJ par [some i] f (Q2 (mS i) QcT) ρ) k:=by
 have e1:mS i ρ=.ok (p,ρ):=by unfold mS;rw[hi];cases par<;>rfl
 refine Qkd (args:=[p]) (dis:=[p]) (P:=spP Q) (ρ1:=ρ) ?_ ?_ (hf p hp) ?_
 ·unfold Q2;rw[e1];rfl
 ·show Yp par ρ [i]=_
  unfold Yp Yp;rw[hi];cases par<;>rfl
 ·rintro d os ⟨q,rfl,hq,g⟩
  exact h d q hq g
theorem Qkv {p:D}(hp:Pot p):FW (Qbg z [p]) (spP Qd3):=by
 unfold Qbg
 refine QK ?_
 dsimp only[Qbf]
 simp? only[and_self]
 refine Qa5 (fun i ρ=>∃q r s,Pot q/\0<=r/\r<(100000:Int) ^ i/\ρ=[some (.par q),~~~(.int r),s]/\(s=none\/∃d,s = ~~~d)) ⟨p,0,_,hp,by decide,by decide,rfl,.inl rfl⟩ ?_ ?_
 ·rintro i d ρ hd ⟨q,r,s,hq,r0,r1,rfl,hs⟩
  refine⟨[some (.par q),~~~(.int r),~~~d],?_,?_⟩
  ·rcases hs with rfl|⟨_,rfl⟩<;>rfl
  ·have c1:CMul r 100000:=.inr @3
   simp? only[c1]
   refine Jo (p:=q) (P:=spT 100000) rfl (QA hq @3 @3) fun d' os hz=>?_
   obtain⟨r',q',e1,e2,hq',g0,g1⟩:=hz
   refine⟨q',e2,?_⟩
   subst e1
   simp? only[]
   refine⟨trivial,q',_,_,hq',by lia,?_,rfl,.inr ⟨_,rfl⟩⟩
   rw[Int.pow_succ]
   generalize (100000:Int) ^ i=t at r1 ⊢
   lia
 ·rintro ρ ⟨q,r,s,hq,r0,r1,rfl,hs⟩
  simp? only[]
  refine⟨_,[q],rfl,?_,q,rfl,hq,_,rfl,r0,?_⟩
  ·rcases hs with rfl|⟨_,rfl⟩<;>rfl
  ·have e:(100000:Int) ^ 12=Jm:=by decide
   rw[← e];simpa using r1
theorem Qiq {p:D}(hp:Pot p):FW (Y0 z [p]) (spP Qd3):=by
 unfold Y0
 refine QK ?_
 dsimp only[Qak]
 simp? only[]
 refine Jo (p:=p) (P:=spT 8) rfl (QA hp @3 @3) fun _ _ ⟨r1,p1,e1,e2,hp1,_,_⟩=>⟨p1,e2,?_⟩;subst e1
 simp? only[]
 refine Qaz (fun h=>?_) (fun h=>?_)
 ·simp? only[]
  exact⟨_,_,rfl,rfl,_,rfl,hp1,_,rfl,by decide,by decide⟩
 simp? only[]
 refine Qaz (fun h=>?_) (fun h=>?_)
 ·simp? only[]
  exact⟨_,_,rfl,rfl,_,rfl,hp1,_,rfl,by decide,by decide⟩
 simp? only[]
 refine Qaz (fun h=>?_) (fun h=>?_)
 ·simp? only[]
  refine Jo (p:=p1) (P:=spT 4) rfl (QA hp1 @3 @3) fun _ _ ⟨r3,p3,e1,e2,hp3,g0,g1⟩=>⟨p3,e2,?_⟩;subst e1
  simp? only[]
  exact⟨_,_,rfl,rfl,_,rfl,hp3,_,rfl,by lia,Int.lt_of_lt_of_le (b:=10) @1 @3⟩
 ·simp? only[]
  refine Qjo (p:=p1) (P:=spP Qd3) rfl (Qkv hp1) fun d _ hz=>?_
  obtain⟨p2,e2,hp2,hd⟩:=hz
  refine⟨p2,e2,?_⟩
  obtain⟨r2,rfl,k0,k1⟩:=hd
  simp? only[]
  refine⟨_,_,rfl,rfl,_,rfl,hp2,_,rfl,?_⟩
  have:(2:Int)<Jm:=by decide
  constructor<;>split<;>lia
variable {z:Z}
def script (xs:List Int):D:=.lst (xs.map .int)
theorem Ql4 (xs:List Int)(k:Int)(hk:0<=k):FW (Yt z [script xs,.int k]) (fun d os=>os=[]/\isInt d):=by
 unfold Yt
 refine QK ?_
 dsimp only[Ys]
 unfold script
 simp? only[]
 refine Qaz (fun h=>?_) (fun h=>?_)
 ·have h':k.toNat<xs.length:=by simp at h;lia
  simp? only[hk,h,z29,z05 h']
  exact⟨_,_,rfl,rfl,rfl,_,rfl⟩
 ·simp? only[]
  exact⟨_,_,rfl,rfl,rfl,_,rfl⟩
theorem Qir (xs:List Int)(k:Int)(hk:0<=k):FW (Qbe z [script xs,.int k]) (fun d os=>os=[]/\Pot d):=by
 unfold Qbe
 refine QK ?_
 dsimp only[Qbd]
 simp? only[]
 refine Qjp (Ql4 xs k hk) fun d os hz=>?_
 obtain⟨_,r,e⟩:=hz
 subst e
 refine⟨fun _=>rfl,?_⟩
 have c1:CMul r 7919:=.inr @3
 have c2:CMul 104729 (k+1):=.inl @3
 have c3:CPow 10 18:=⟨by decide,by decide,by decide⟩
 simp? only[c3]
 refine Qaz (fun h=>?_) (fun h=>?_)
 ·simp? only[]
  exact⟨_,_,rfl,rfl,rfl,_,_,_,rfl⟩
 ·simp? only[c3]
  refine Qaz (fun h=>?_) (fun h=>?_)
  ·simp? only[]
   exact⟨_,_,rfl,rfl,rfl,_,_,_,rfl⟩
  ·simp? only[c1,c2]
   exact⟨_,_,rfl,rfl,rfl,_,_,_,rfl⟩
def Ql5 (w:Nat)(d:D):Prop:=∃r:List D,d=.lst r/\r.length=w/\∀x∈r,Qd3 x
def okL (L:List @17):Prop:=∀r∈L,∀x∈r,0<=x/\x<Jm
def Ql6 (h w:Nat)(d:D):Prop:=∃L:List @17,d=rD L/\Rc h w L/\okL L
theorem ints_of:∀{r:List D},(∀x∈r,Qd3 x)->∃l:List Int,r=l.map D.int/\∀x∈l,0<=x/\x<Jm
 | [],_=>⟨[],rfl,fun _ h=>nomatch h⟩
 |x::r,h=>by
  obtain⟨l,e,hl⟩:=ints_of fun y hy=>h y (z08 _ hy)
  obtain⟨n,rfl,h0,h1⟩:=h x z07
  refine⟨n::l,by rw[e];rfl,fun y hy=>?_⟩
  rcases z19.mp hy with rfl|hy
  ·exact⟨h0,h1⟩
  ·exact hl y hy
theorem Qis {w:Nat}:∀{ys:List D},(∀y∈ys,Ql5 w y)->∃L:List @17,ys=L.map rwI/\(∀r∈L,r.length=w)/\okL L
 | [],_=>⟨[],rfl,(fun _ h=>nomatch h),fun _ h=>nomatch h⟩
 |y::ys,h=>by
  obtain⟨L,e,h1,h2⟩:=Qis fun y' hy'=>h y' (z08 _ hy')
  obtain⟨r,rfl,hl,hr⟩:=h y z07
  obtain⟨l,e2,h3⟩:=ints_of hr
  subst e2
  refine⟨l::L,by rw[e];rfl,fun r' hr'=>?_,fun r' hr'=>?_⟩
  ·rcases z19.mp hr' with rfl|hr'
   ·rw[z00] at hl;exact hl
   ·exact h1 r' hr'
  ·rcases z19.mp hr' with rfl|hr'
   ·exact h3
   ·exact h2 r' hr'
theorem QoO {h w:Nat}{ds ys:List D}(f:Fa2 (fun _ y=>Ql5 w y) ds ys)(e:ds.length=h):Ql6 h w (.lst ys):=by
 obtain⟨L,e1,h1,h2⟩:=Qis f.all
 refine⟨L,by rw[e1];rfl,⟨?_,h1⟩,h2⟩
 have:=f.length
 rw[e1,z00] at this
 lia
theorem QeP {p x:D}{h w:Nat}{me:ME}(hp:Pot p)(hh:h<=30)(hw:w<=30)(he:∀d q,Pot q->W (me [~~~d,some (.par q)]) fun r=>∃q',Pot q'/\r.2=[~~~d,some (.par q')]/\Qd3 r.1) :
  W (QpG (Yq true [.me,.fz 2,.io 0] 0 (QgF (Q2 (mV 1) QcT)) Qe7 (Yq true [.me,.io 2] 0 (QgF (Q2 (mV 1) QcT)) Qe7 me)) [some (.par p),~~~(.int h),~~~(.int w),~~~x]) fun q=>∃d os,q.1=.rt d/\outs [true] q.2=some os/\spP (fun d=>Ql6 h w d) d os:=by
 refine Qh.mpr ?_
 refine Qke (Inv:=fun ρ=>∃q,Pot q/\ρ=[none,~~~(.int w),some (.par q)]) (Pd:=fun _ y=>Ql5 w y) (di:=[p]) (ρb:=[none,~~~(.int w),some (.par p)]) (QhR (n:=h) rfl @1 @1) rfl rfl ?_ ⟨p,hp,rfl⟩ ?_ ?_
 ·rintro d hd ρ ⟨q,hq,rfl⟩
  refine⟨[~~~d,~~~(.int w),some (.par q)],rfl,JK.mpr ⟨rfl,?_⟩⟩
  refine Qke (Inv:=fun ρ=>∃q,Pot q/\ρ=[none,some (.par q)]) (Pd:=fun _ y=>Qd3 y) (di:=[q]) (ρb:=[none,some (.par q)]) (QhR (n:=w) rfl @1 @1) rfl rfl ?_ ⟨q,hq,rfl⟩ ?_ ?_
  ·rintro d' hd' ρ' ⟨q',hq',rfl⟩
   refine⟨[~~~d',some (.par q')],rfl,JK.mpr ⟨rfl,(he d' q' hq').mono ?_⟩⟩
   rintro⟨r1,r2⟩ ⟨q2,hq2,e,hr⟩
   dsimp only at e
   subst e
   exact⟨⟨q2,hq2,rfl⟩,hr⟩
  ·simp[z34];lia
  ·rintro ys ρ2 ⟨q2,hq2,rfl⟩ f
   refine⟨[q2],rfl,⟨q2,hq2,rfl⟩,ys,rfl,?_,f.all⟩
   rw[f.length];simp
 ·simp[z34];lia
 ·rintro ys ρ2 ⟨q2,hq2,rfl⟩ f
  exact⟨[q2],rfl,JK.mpr ⟨_,[q2],rfl,rfl,q2,rfl,hq2,QoO f @9⟩⟩
def Qkw (d:D):Prop:=∃h w:Nat,1<=h/\h<=30/\1<=w/\w<=30/\h * w<=60/\Ql6 h w d
theorem Ql7 {p:D}(hp:Pot p):FW (Qan z [p]) (spP Qkw):=by
 unfold Qan
 refine QK ?_
 dsimp only[Qam]
 refine JO (fun ρ=>∃(p:D) (h:Nat),Pot p/\1<=h/\h<=5/\ρ=[some (.par p),~~~(.int h),none,none]) ?_ ?_
 ·simp? only[]
  refine Jo (p:=p) (P:=spT 5) rfl (QA hp @3 @3) fun _ _ ⟨r1,p1,e1,e2,hp1,g0,g1⟩=>⟨p1,e2,?_⟩;subst e1
  simp? only[]
  exact⟨trivial,p1,(1+r1).toNat,hp1,by lia,by lia,by rw[zc2 @1]⟩
 rintro ρ ⟨p,h,hp,h1,h2,rfl⟩
 refine JO (fun ρ=>∃(p:D) (w:Nat),Pot p/\1<=w/\w<=5/\ρ=[some (.par p),~~~(.int h),~~~(.int w),none]) ?_ ?_
 ·simp? only[]
  refine Jo (p:=p) (P:=spT 5) rfl (QA hp @3 @3) fun _ _ ⟨r1,p1,e1,e2,hp1,g0,g1⟩=>⟨p1,e2,?_⟩;subst e1
  simp? only[]
  exact⟨trivial,p1,(1+r1).toNat,hp1,by lia,by lia,by rw[zc2 @1]⟩
 rintro ρ ⟨p,w,hp,w1,w2,rfl⟩
 refine JO (fun ρ=>∃(p:D) (x:Int),Pot p/\ρ=[some (.par p),~~~(.int h),~~~(.int w),~~~(.int x)]) ?_ ?_
 ·simp? only[]
  refine Jo (p:=p) (P:=spT 9) rfl (QA hp @3 @3) fun _ _ ⟨r1,p1,e1,e2,hp1,g0,g1⟩=>⟨p1,e2,?_⟩;subst e1
  simp? only[]
  exact⟨trivial,p1,r1,hp1,rfl⟩
 rintro ρ ⟨p,x,hp,rfl⟩
 have fits:∀(a b:Int) (k:Nat),0<=a->a<2->0<=b->b<30->k=(1+a).toNat * (1+b).toNat->k<=60:=fun a b k a0 a1 b0 b1 e=>by
  have a:(1+a).toNat<=2:=by lia
  have b:(1+b).toNat<=30:=by lia
  rw[e]
  exact z66 (zt0 a b) @3
 refine JO (fun ρ=>∃(p:D) (h w:Nat),Pot p/\1<=h/\h<=30/\1<=w/\w<=30/\h * w<=60/\ρ=[some (.par p),~~~(.int h),~~~(.int w),~~~(.int x)]) ?_ ?_
 ·simp? only[]
  refine Qaz (fun hc=>?_) (fun hc=>?_)
  ·simp? only[]
   refine Jo (p:=p) (P:=spT 2) rfl (QA hp @3 @3) fun _ _ ⟨r1,p2,e1,e2,hp2,g0,g1⟩=>⟨p2,e2,?_⟩;subst e1
   simp? only[]
   refine Jo (p:=p2) (P:=spT 30) rfl (QA hp2 @3 @3) fun _ _ ⟨r2,p3,e1,e2,hp3,g2,g3⟩=>⟨p3,e2,?_⟩;subst e1
   simp? only[]
   exact⟨trivial,p3,(1+r1).toNat,(1+r2).toNat,hp3,by lia,by lia,by lia,by lia,fits r1 r2 _ g0 g1 g2 g3 rfl,by rw[zc2 @1,zc2 @1]⟩
  ·exact JK.mpr ⟨rfl,p,h,w,hp,h1,by lia,w1,by lia,z66 (zt0 h2 w2) @3,rfl⟩
 clear h1 h2 w1 w2 hp
 rintro ρ ⟨p,h,w,hp,h1,h2,w1,w2,hw,rfl⟩
 refine JO (fun ρ=>∃(p:D) (h w:Nat),Pot p/\1<=h/\h<=30/\1<=w/\w<=30/\h * w<=60/\ρ=[some (.par p),~~~(.int h),~~~(.int w),~~~(.int x)]) ?_ ?_
 ·simp? only[]
  refine Qaz (fun hc=>?_) (fun hc=>?_)
  ·simp? only[]
   refine Jo (p:=p) (P:=spT 30) rfl (QA hp @3 @3) fun _ _ ⟨r1,p2,e1,e2,hp2,g0,g1⟩=>⟨p2,e2,?_⟩;subst e1
   simp? only[]
   refine Jo (p:=p2) (P:=spT 2) rfl (QA hp2 @3 @3) fun _ _ ⟨r2,p3,e1,e2,hp3,g2,g3⟩=>⟨p3,e2,?_⟩;subst e1
   simp? only[]
   exact⟨trivial,p3,(1+r1).toNat,(1+r2).toNat,hp3,by lia,by lia,by lia,by lia,fits r2 r1 _ g2 g3 g0 g1 (Nat.mul_comm _ _),by rw[zc2 @1,zc2 @1]⟩
  ·exact JK.mpr ⟨rfl,p,h,w,hp,h1,h2,w1,w2,hw,rfl⟩
 clear h1 h2 w1 w2 hw hp
 rintro ρ ⟨p,h,w,hp,h1,h2,w1,w2,hw,rfl⟩
 refine Qh.mpr ?_
 unfold mIf Qb9 mOp
 simp only[Qh]
 refine QoM (p:=p) (n:=2) (par:=true) hp @3 @3 rfl rfl fun r1 p1 hp1 _ _=>?_
 simp only[mC,JK,Qcj,zy1,Qnn,asB]
 refine Qaz (fun hc=>?_) (fun hc=>?_)
 ·refine(QeP (p:=p1) (h:=h) (w:=w) hp1 h2 w2 ?_).mono ?_
  ·intro d q hq
   unfold mI
   refine Qh.mpr (QoN (par:=true) (Q:=Qd3) hq (fun p hp=>Qiq hp) rfl fun d2 p2 hp2 hd2=>?_)
   obtain⟨r2,rfl,k⟩:=hd2
   exact JK.mpr ⟨p2,hp2,rfl,_,rfl,k⟩
  ·rintro⟨f,ρ'⟩ ⟨d,os,e1,e2,p,e3,hp,hd⟩
   have e1:f=.rt d:=e1
   subst e1
   exact JK.mpr ⟨d,os,rfl,e2,p,e3,hp,h,w,h1,h2,w1,w2,hw,hd⟩
 ·refine JK.mpr ?_
  refine(QeP (p:=p1) (h:=h) (w:=w) hp1 h2 w2 ?_).mono fun q ⟨d,os,e1,e2,p,e3,hp,hd⟩=>⟨d,os,e1,e2,p,e3,hp,h,w,h1,h2,w1,w2,hw,hd⟩
  intro d q hq
  simp? only[]
  refine Jo (p:=q) (P:=spT 5) rfl (QA hq @3 @3) fun _ _ ⟨r1,p1,e1,e2,hp1,g0,g1⟩=>⟨p1,e2,?_⟩;subst e1
  have:r1=0\/r1=1\/r1=2\/r1=3\/r1=4:=by lia
  rcases this with rfl|rfl|rfl|rfl|rfl
  all_goals
   simp? only[]
   exact⟨p1,hp1,rfl,_,rfl,by decide,by decide⟩
variable {z:Z}
def flD (z:Z)(F:List @17):D:=.nd (.ins z.Qj ["losses"]) [tuD F]
theorem Jk {F:List @17}{nm:Str}(h:(nm == ("losses" : Str))=false):QeC z.Qj nm (flD z F)=true:=by
 show(decide (z.Qj=z.Qj) && (["losses"]:List Str).all (fun n=>!(nm == n)))=true
 simp[h]
theorem Qdw {F:List @17}:Qol z.Qj "losses" (flD z F)=some (tuD F):=Qoz
def LT (t:Tag):Prop:=t=.lst\/t=.tup
def plS (u:Tag)(p:Int×Int):D:=.nd u [.int p.1,.int p.2]
section
variable {h w:Nat}{F R:List @17}{p:Int×Int}{u:Tag}
theorem QeQ (r:Rc h w R)(hp:inR h w p):QcA z [rD R,pl p]=.ok (.int (atL R p)) []:=QS (QK (by
 dsimp only[Qab]
 simp? only[pl,Qa9 r hp.1 hp.2.1,QeH r hp]
 exact⟨_,_,rfl,rfl,rfl,rfl⟩))
theorem Qd4 (r:Rc h w F)(hp:inR h w p):Vq z [flD z F,pl p]=.ok (.bl (decide (atL F p=0))) []:=QS (QK (by
 dsimp only[J4]
 simp? only[pl,Qdw,QlZ r hp.1 hp.2.1,QoC r hp]
 exact⟨_,_,rfl,rfl,rfl,rfl⟩))
theorem Qit (r:Rc h w F):Qbs z [flD z F]=.ok (.int h) []:=QS (QK (by
 dsimp only[Vi]
 have e:QaT [tuD F]=some (.int h):=by unfold tuD;simp[QaT,r.hi]
 simp? only[Qdw,e]
 exact⟨_,_,rfl,rfl,rfl,rfl⟩))
theorem Qfh (r:Rc h w F)(h1:1<=h):Vl z [flD z F]=.ok (.int w) []:=QS (QK (by
 dsimp only[Vk]
 have e:QaT [tuI (F.getD (0:Int).toNat [])]=some (.int w):=by
  have:=r.row (i:=0) @3 @1
  unfold tuI
  simp only[QaT,z00,this]
 simp only[z94] at e
 simp? only[Qdw,QlZ r (i:=0) @3 @1,e]
 exact⟨_,_,rfl,rfl,rfl,rfl⟩))
theorem Qge {i:Int}:Qdh z [.int i]=.ok (.bl true) []:=rfl
theorem Qiu {c:Bool}{xs:List D}:Qcv z [sq c xs]=.ok (.bl true) []:=by cases c<;>rfl
theorem QcQ {i n:Int}:QcF z [.int i,.int n]=.ok (.bl (decide (0<=i/\i<n))) []:=QS (QK (by
 dsimp only[Qad]
 simp? only[QF Qge,true_and]
 by_cases h0:0<=i
 ·simp? only[h0,true_and]
  exact⟨_,_,rfl,rfl,rfl,rfl⟩
 ·simp? only[h0,false_and]
  exact⟨_,_,rfl,rfl,rfl,rfl⟩))
theorem Qkx (hu:LT u)(r:Rc h w F)(h1:1<=h):Qai z [flD z F,plS u p]=.ok (.bl (decide (inR h w p))) []:=QS (QK (by
 dsimp only[Qah]
 have i1:=Jk (z:=z) (F:=F) (nm := "high") @3
 have i2:=Jk (z:=z) (F:=F) (nm := "wide") @3
 have e1:QcC z [plS u p]=.ok (.bl true) []:=by rcases hu with rfl|rfl<;>rfl
 have e2:gIx (plS u p) (.int 0)=some (.int p.1):=by rcases hu with rfl|rfl<;>rfl
 have e3:gIx (plS u p) (.int 1)=some (.int p.2):=by rcases hu with rfl|rfl<;>rfl
 simp? only[QF e1,e2,e3,true_and,i1,i2,QF (Qit r),QF (Qfh r h1),QF QcQ]
 by_cases c:0<=p.1/\p.1<(h:Int)
 ·simp? only[c,and_self,e3,i2,QF (Qfh r h1),QF QcQ]
  have:decide (inR h w p)=decide (0<=p.2/\p.2<(w:Int)):=by unfold inR;simp[c]
  rw[this]
  exact⟨trivial,trivial,_,_,rfl,rfl,rfl,rfl⟩
 ·simp? only[c]
  have:decide (inR h w p)=false:=by unfold inR;apply decide_eq_false;intro q;exact c ⟨q.1,q.2.1⟩
  rw[this]
  exact⟨_,_,rfl,rfl,rfl,rfl⟩))
theorem Qky (r:Rc h w F)(h1:1<=h):Qai z [flD z F,pl p]=.ok (.bl (decide (inR h w p))) []:=Qkx (.inr rfl) r h1
theorem Qgf (hu:LT u)(r:Rc h w F)(h1:1<=h)(hp:inR h w p):Jf z [flD z F,plS u p]=.ok .non []:=QS (Qez (by
 dsimp only[Je]
 have i1:=Jk (z:=z) (F:=F) (nm := "has") @3
 simp? only[i1,QF (Qkx hu r h1),hp,true_and]
 exact⟨_,rfl,rfl⟩))
theorem Qd5 (r:Rc h w F)(h1:1<=h)(hp:inR h w p):Jf z [flD z F,pl p]=.ok .non []:=Qgf (.inr rfl) r h1 hp
theorem Ql8 (r:Rc h w F)(h1:1<=h)(hp:inR h w p):QbJ z [flD z F,pl p]=.ok (.int (atL F p)) []:=QS (QK (by
 dsimp only[Vy]
 have i1:=Jk (z:=z) (F:=F) (nm := "check_place") @3
 simp? only[i1,QF (Qd5 r h1 hp),true_and]
 simp? only[pl,Qdw,QlZ r hp.1 hp.2.1,QoC r hp]
 exact⟨_,_,rfl,rfl,rfl,rfl⟩))
theorem Qiv:Qf2 z [pl p]=.ok (.lst ((arL p).map pl)) []:=rfl
theorem Qiw (r:Rc h w F)(h1:1<=h)(hp:inR h w p):V2 z [flD z F,pl p]=.ok (.lst ((nbL h w F p).map pl)) []:=QS (QK (by
 dsimp only[Yx]
 have i1:=Jk (z:=z) (F:=F) (nm := "check_place") @3
 have i2:=Jk (z:=z) (F:=F) (nm := "has") @3
 have i3:=Jk (z:=z) (F:=F) (nm := "is_wall") @3
 simp? only[i1,QF (Qd5 r h1 hp),true_and]
 refine Qod (dis:=[]) (P:=fun d os=>d=.lst ((arL p).map pl)/\os=[]) rfl ⟨_,_,Qiv,rfl,rfl⟩ fun d os hz=>?_
 obtain⟨e1,e2⟩:=hz
 subst e1;subst e2
 simp? only[]
 refine Qlw (f:=fun d=>okN h w F (pD d)) (g:=fun d=>d) (di:=[]) (ρb:=[none,~~~(flD z F)]) (os:=[]) rfl rfl ?_ (by rw[z34];simp[arL]) rfl rfl ?_
 ·intro d hd
  obtain⟨q,hq,rfl⟩:=z31.mp hd
  refine⟨[~~~(pl q),~~~(flD z F)],rfl,?_,fun _=>rfl,rfl⟩
  refine Yy.mp ?_
  show W _ fun a=>a=(okN h w F q,_)
  by_cases c:inR h w q
  ·simp? only[i2,i3,QF (Qky r h1),c,true_and,QF (Qd4 r c)]
   simp[okN,c]
  ·simp? only[i2,QF (Qky r h1),c,true_and]
   simp[okN,c]
 ·simp? only[]
  refine⟨_,_,rfl,rfl,?_,rfl⟩
  congr 1
  rw[zo1]
  ·rw[zl1];rfl
  ·intro _;rfl))
end
variable {z:Z}
section
variable {h w:Nat}{L:List @17}{a b:Bool}
theorem Qix {i:Int}(h0:0<=i)(h1:i<Jm):QeN z [.int i]=.ok (.bl true) []:=QS (QK (by
 dsimp only[QcM]
 have c3:CPow 10 60:=⟨by decide,by decide,by decide⟩
 have e:(10:Int) ^ (60:Int).toNat=Jm:=by decide
 have e2:(10:Int) ^ 60=Jm:=rfl
 have e3:decide (0<=i/\i<Jm)=true:=decide_eq_true ⟨h0,h1⟩
 simp? only[c3,e,e2,QF QcQ,e3]
 exact⟨trivial,_,_,rfl,rfl,rfl,rfl⟩))
theorem Qiy {l:List Int}(hl:∀x∈l,0<=x/\x<Jm):VZ z [rwB b l]=.ok .non []:=QS (Qez (by
 dsimp only[Yw]
 unfold rwB
 simp? only[QeJ]
 refine Qa5 (fun i ρ=>∃s,ρ=[~~~(sq b (l.map .int)),s]/\(s=none\/∃d,s = ~~~d)) ⟨_,rfl,.inl rfl⟩ ?_ ?_
 ·rintro i d ρ hd ⟨s,rfl,hs⟩
  refine⟨[~~~(sq b (l.map .int)),~~~d],?_,?_⟩
  ·rcases hs with rfl|⟨_,rfl⟩<;>rfl
  ·obtain⟨n,hn,rfl⟩:=z31.mp (z42 hd)
   obtain⟨u,v⟩:=hl n hn
   simp? only[QF (Qix u v),true_and]
   exact⟨_,rfl,.inr ⟨_,rfl⟩⟩
 ·rintro ρ ⟨s,rfl,hs⟩
  refine⟨[],rfl,?_,trivial,rfl⟩
  rcases hs with rfl|⟨_,rfl⟩<;>rfl))
theorem Qgg {xs:List D}(h1:1<=xs.length)(h2:xs.length<=30):VD z [sq a xs]=.ok (.bl true) []:=QS (QK (by
 dsimp only[Qbc]
 have e1:(1:Int)<=xs.length:=by lia
 have e2:(xs.length:Int)<=30:=by lia
 simp? only[QF Qiu,Qfg,true_and,e1,e2]
 exact⟨_,_,rfl,rfl,rfl,rfl⟩))
theorem Ql9 (r:Rc h w L)(h1:1<=h)(h2:h<=30)(w1:1<=w)(w2:w<=30):VW z [rB a b L]=.ok (.bl true) []:=QS (QK (by
 dsimp only[Yv]
 have e1:VD z [rB a b L]=.ok (.bl true) []:=Qgg (by rw[z00,r.hi];exact h1) (by rw[z00,r.hi];exact h2)
 have e3:siK (rB a b L,[~~~(rB a b L),none])=.ok (L.map (rwB b),[~~~(rB a b L),none]):=QeJ
 simp? only[QF e1,true_and,e3]
 refine Qa5 (fun i ρ=>∃s,ρ=[~~~(rB a b L),s]/\(s=none\/∃d,s = ~~~d)) ⟨_,rfl,.inl rfl⟩ ?_ ?_
 ·rintro i d ρ hd ⟨s,rfl,hs⟩
  refine⟨[~~~(rB a b L),~~~d],?_,?_⟩
  ·rcases hs with rfl|⟨_,rfl⟩<;>rfl
  ·obtain⟨l,hl,rfl⟩:=z31.mp (z42 hd)
   have el:=r.wi l hl
   have e2:VD z [rwB b l]=.ok (.bl true) []:=Qgg (by rw[z00,el];exact w1) (by rw[z00,el];exact w2)
   have g1:QaT [rwB b l]=some (.int w):=by unfold rwB;rw[Qfg,z00,el]
   have g2:QaT [rwB b (L.getD (0:Int).toNat [])]=some (.int w):=by
    have:=r.row (i:=0) @3 @1
    unfold rwB
    rw[Qfg,z00,this]
   simp only[z94] at g2
   simp? only[QF e2,true_and,g1,g2,QqF r (i:=0) @3 @1,QhT]
   simp
   exact JK.mpr ⟨rfl,_,rfl,.inr ⟨_,rfl⟩⟩
 ·rintro ρ ⟨s,rfl,hs⟩
  simp? only[]
  refine⟨_,[],rfl,?_,rfl,rfl⟩
  rcases hs with rfl|⟨_,rfl⟩<;>rfl))
theorem Qkz {s:Option Sl}{ρ:Rho}{ms:MS}{me:ME}{k:D×Rho->Prop}(h:W (ms (s::ρ)) fun r=>r.1=.nx/\W (me r.2) k):W (QlC ms me (s::ρ)) k:=by
 obtain⟨⟨f,ρ1⟩,e,e1,h1⟩:=h
 have e1:f=.nx:=e1
 subst e1
 unfold QlC
 rw[e]
 exact h1
def s2t:D->D
 |.nd _ xs=>.tup xs
 |d=>d
theorem Qgh {x:Addr}(r:Rc h w L)(h1:1<=h)(h2:h<=30)(w1:1<=w)(w2:w<=30)(ok:okL L):Jj z x (rB a b L)=.ok (flD z L) []:=by
 have key:W ((JF z).1 [~~~(.cls x),~~~(rB a b L),none]) fun q=>q.1=tuD L/\∃s,q.2=[~~~(.cls x),~~~(rB a b L),s]:=by
  dsimp only[JF]
  refine Qkz ?_
  simp? only[QF (Ql9 (z:=z) r h1 h2 w1 w2),true_and]
  refine Qkz ?_
  have e3:siK (rB a b L,[~~~(.cls x),~~~(rB a b L),none])=.ok (L.map (rwB b),[~~~(.cls x),~~~(rB a b L),none]):=QeJ
  simp? only[e3]
  refine Qa5 (fun i ρ=>∃s,ρ=[~~~(.cls x),~~~(rB a b L),s]/\(s=none\/∃d,s = ~~~d)) ⟨_,rfl,.inl rfl⟩ ?_ ?_
  ·rintro i d ρ hd ⟨s,rfl,hs⟩
   refine⟨[~~~(.cls x),~~~(rB a b L),~~~d],?_,?_⟩
   ·rcases hs with rfl|⟨_,rfl⟩<;>rfl
   ·obtain⟨l,hl,rfl⟩:=z31.mp (z42 hd)
    simp? only[QF (Qiy (z:=z) (ok l hl)),true_and]
    exact⟨_,rfl,.inr ⟨_,rfl⟩⟩
  ·rintro ρ ⟨s,rfl,hs⟩
   refine⟨rfl,?_⟩
   have e4:siK (rB a b L,[~~~(.cls x),~~~(rB a b L),s])=.ok (L.map (rwB b),[~~~(.cls x),~~~(rB a b L),s]):=QeJ
   simp? only[e4]
   refine Qa6 (g:=s2t) (di:=[]) (ρb:=[none]) (os:=[]) rfl rfl ?_ (by rw[z34,z00,r.hi];lia) rfl rfl ?_
   ·intro d hd
    obtain⟨l,hl,rfl⟩:=z31.mp hd
    have e5:D.imm (.nd .tup (l.map D.int))=true:=JP l
    have e6:tvK ([rwB b l],[~~~(rwB b l)])=.ok (.tup (l.map D.int),[~~~(rwB b l)]):=QoG
    refine⟨[~~~(rwB b l)],rfl,Yy.mp ?_,rfl⟩
    simp? only[e6]
    show W (if D.imm (.nd .tup (l.map D.int))=true then _ else _) _
    rw[if_pos e5]
    exact JK.mpr rfl
   ·simp? only[]
    refine⟨?_,s,rfl⟩
    show D.tup _=D.tup _
    rw[z43];rfl
 obtain⟨⟨d,ρ⟩,e,e1,s,e2⟩:=key
 have e1:d=tuD L:=e1
 have e2:ρ=[~~~(.cls x),~~~(rB a b L),s]:=e2
 subst e1;subst e2
 unfold Jj Qon
 show(match (JF z).1 [~~~(.cls x),~~~(rB a b L),none] with|.ok (r,ρ)=>_|.ex c _=>_|.no=>_)=_
 rw[e]
 show(if Qdb x _=true then _ else _)=_
 rw[if_pos (show Qdb x [~~~(.cls x),~~~(rB a b L),s]=true from decide_eq_true rfl)]
 rfl
theorem Qfi {x:Addr}(r:Rc h w L)(h1:1<=h)(h2:h<=30)(w1:1<=w)(w2:w<=30)(ok:okL L):Jj z x (rD L)=.ok (flD z L) []:=Qgh (a:=false) (b:=false) r h1 h2 w1 w2 ok
end
variable {z:Z}
def cel (w:Nat):Nat->List (Int×Int)
 |0=>[]
 |i+1=>cel w i++(z63 w).map fun b=>((i:Int),((b:Nat):Int))
section
variable {h w:Nat}{F R:List @17}{p:Int×Int}
theorem Qao:∀{h:Nat},p∈cel w h↔inR h w p
 |0=>by
  unfold cel inR
  constructor
  ·intro h;cases h
  ·intro h;lia
 |h+1=>by
  unfold cel
  rw[z14,Qao,z31]
  unfold inR
  constructor
  ·rintro(⟨a,b,c,d⟩|⟨b,hb,rfl⟩)
   ·exact⟨a,by lia,c,d⟩
   ·have:=za3.mp hb
    dsimp only
    lia
  ·rintro⟨a,b,c,d⟩
   by_cases e:p.1<(h:Int)
   ·exact .inl ⟨a,e,c,d⟩
   ·refine .inr ⟨p.2.toNat,za3.mpr @1,?_⟩
    apply zq3
    ·dsimp only;lia
    ·dsimp only;lia
theorem Qap:∀{h:Nat},(cel w h).length=h * w
 |0=>by unfold cel;simp
 |h+1=>by unfold cel;rw[z49,Qap,z00,z92,Nat.succ_mul]
theorem QaR {α β:Type}{f:α->β}(hf:∀a b,f a=f b->a=b):∀{l:List α},l.Nodup->(l.map f).Nodup
 | [],_=>za2
 |a::l,h=>by
  obtain⟨h1,h2⟩:=z60.mp h
  rw[z33]
  refine z60.mpr ⟨fun hm=>?_,QaR hf h2⟩
  obtain⟨b,hb,e⟩:=z31.mp hm
  rw[hf _ _ e] at hb
  exact h1 hb
theorem QcR:∀{h:Nat},(cel w h).Nodup
 |0=>za2
 |h+1=>by
  unfold cel
  refine z17.mpr ⟨QcR,QaR (fun a b e=>?_) List.nodup_range,fun a ha b hb e=>?_⟩
  ·rw[zm2] at e;lia
  ·subst e
   have h1:=(Qao.mp ha).2.1
   obtain⟨c,_,rfl⟩:=z31.mp hb
   dsimp only at h1
   lia
theorem Qfj (r:Rc h w F)(hh:h<=30)(hw:w<=30):Qcx z [tuD F]=.ok (.lst ((cel w h).map pl)) []:=QS (QK (by
 dsimp only[Qaa]
 have e3:enK ([tuD F],[~~~(tuD F),some (.own (.lst [])),none,none])=.ok (Vf (F.map tuI),[~~~(tuD F),some (.own (.lst [])),none,none]):=rfl
 simp? only[e3]
 refine Qa5 (fun i ρ=>∃s t,ρ=[~~~(tuD F),some (.own (.lst ((cel w i).map pl))),s,t]/\(s=none\/∃d,s = ~~~d)/\(t=none\/∃d,t = ~~~d)) ⟨_,_,rfl,.inl rfl,.inl rfl⟩ ?_ ?_
 ·rintro i d ρ hd ⟨s,t,rfl,hs,ht⟩
  have hd':∃l,l∈F/\d=.tup [.int i,tuI l]:=by
   unfold Vf at hd
   rw[z29,zm0,z29] at hd
   cases q:F[i]? with
   |none=>rw[q] at hd;cases hd
   |some l=>
    rw[q] at hd
    simp at hd
    exact⟨l,z42 q,hd.symm⟩
  obtain⟨l,hl,rfl⟩:=hd'
  have el:=r.wi l hl
  refine⟨[~~~(tuD F),some (.own (.lst ((cel w i).map pl))),~~~(.int i),~~~(tuI l)],?_,?_⟩
  ·rcases hs with rfl|⟨_,rfl⟩<;>rcases ht with rfl|⟨_,rfl⟩<;>rfl
  ·have g1:QaT [tuI l]=some (.int w):=by show some (D.int ((l.map D.int).length:Nat))=_;rw[z00,el]
   have b1:(-4611686018427387904:Int)<=w/\(w:Int)<4611686018427387904:=by lia
   simp? only[g1,b1,and_self,z59]
   refine Qa6 (g:=fun d=>.tup [.int i,d]) (di:=[]) (ρb:=[none,~~~(.int i)]) (os:=[]) rfl rfl ?_ (by rw[z34,z00,z92];lia) rfl rfl ?_
   ·intro d hd
    obtain⟨n,hn,rfl⟩:=z31.mp hd
    exact⟨[~~~(.int (0+(n:Nat))),~~~(.int i)],rfl,Yy.mp (by simp? only[]),rfl⟩
   ·have hi:i<h:=by
     have:=(z28.mp hd).1
     unfold Vf at this
     rw[z00,zi2,z00,r.hi] at this
     exact this
    have hc:(cel w i).length<=900:=by rw[Qap];exact z66 (zt0 @1 hw) (by decide:30 * 30<=900)
    have hz:(zq5 pl (cel w i)).length+(zq5 (fun d=>D.tup [D.int ↑i,d]) (zq5 (fun j=>D.int (0 + ↑j)) (z63 w))).length<=16777216:=by
     simp;lia
    simp? only[]
    rw[if_pos (by simpa using hz)]
    refine JK.mpr ⟨rfl,~~~(.int i),~~~(tuI l),?_,.inr ⟨_,rfl⟩,.inr ⟨_,rfl⟩⟩
    rw[cel,z73,z43,z43]
    have:∀(n:Nat),((fun d=>D.tup [D.int ↑i,d])∘fun(j:Nat)=>D.int (0 + ↑j)) n=(pl∘fun(b:Nat)=>((i:Int),(b:Int))) n:=fun n=>by
     show D.tup [D.int i,D.int (0+(n:Int))]=D.tup [D.int i,D.int n]
     rw[Int.zero_add]
    rw[show((fun d=>D.tup [D.int ↑i,d])∘fun(j:Nat)=>D.int (0 + ↑j))=(pl∘fun(b:Nat)=>((i:Int),(b:Int))) from funext this]
 ·rintro ρ ⟨s,t,rfl,hs,ht⟩
  have e:(Vf (F.map tuI)).length=h:=by unfold Vf;rw[z00,zi2,z00,r.hi]
  rw[e]
  simp? only[]
  refine⟨_,[],rfl,?_,rfl,rfl⟩
  rcases hs with rfl|⟨_,rfl⟩<;>rcases ht with rfl|⟨_,rfl⟩<;>rfl))
theorem places_eq (r:Rc h w F)(hh:h<=30)(hw:w<=30):VT z [flD z F]=.ok (.lst ((cel w h).map pl)) []:=QS (QK (by
 dsimp only[Yu]
 simp? only[Qdw,QcY (Qfj r hh hw)]
 exact⟨_,_,rfl,rfl,rfl,rfl⟩))
theorem QoP (r:Rc h w R)(hh:1<=h)(hw:1<=w)(hp:inR h w p):YN (R.map YN)<=atL R p:=by
 have hne:R.map YN≠[]:=fun e=>by have:=congrArg zr0 e;rw[z00,r.hi] at this;simp at this;lia
 have hl:p.1.toNat<R.length:=by rw[r.hi];have:=hp.1;have:=hp.2.1;lia
 have e:R.getD p.1.toNat []=R[p.1.toNat]:=by rw[z09,z05 hl];rfl
 have hm:R.getD p.1.toNat []∈R:=by rw[e];exact z97 hl
 have hr:=r.wi _ hm
 have hk:p.2.toNat<(R.getD p.1.toNat []).length:=by rw[hr];have:=hp.2.2.1;have:=hp.2.2.2;lia
 have QrQ:R.getD p.1.toNat []≠[]:=fun e=>by rw[e] at hr;simp at hr;lia
 have hm2:atL R p∈R.getD p.1.toNat []:=by unfold atL;rw[z09 (l:=R.getD p.1.toNat []),z05 hk];exact z97 hk
 exact z79 ((Qcl hne).2 _ (z31.mpr ⟨_,hm,rfl⟩)) ((Qcl QrQ).2 _ hm2)
def gvL (h w:Nat)(F R:List @17)(least:Int):List NP:=(((cel w h).filter (okN h w F)).filter fun p=>decide (atL R p > least)).map fun p=>(atL R p,p)
theorem QoQ {q:Int×Int}:D.imm (pl q)=true:=rfl
theorem Qiz (rf:Rc h w F)(r:Rc h w R)(h1:1<=h)(hh:h<=30)(w1:1<=w)(hw:w<=30)(hz:h * w<=60):Qf5 z [flD z F,rD R]=.ok (.lst ((QcV YI (gvL h w F R (YN (R.map YN)))).map npD)) []:=QS (QK (by
 dsimp only[QdZ]
 have e3:siK (rD R,[~~~(flD z F),~~~(rD R),none,none])=.ok (R.map rwI,[~~~(flD z F),~~~(rD R),none,none]):=rfl
 simp? only[e3]
 refine Qa6 (g:=Qrf) (di:=[]) (ρb:=[none]) (os:=[]) rfl rfl ?_ (by rw[z34,z00,r.hi];lia) rfl rfl ?_
 ·intro d hd
  obtain⟨l,hl,rfl⟩:=z31.mp hd
  have hne:l≠[]:=fun e=>by have:=r.wi l hl;rw[e] at this;simp at this;lia
  have e5:Qjt [rwI l]=some (.int (YN l)):=by
   show(QfW (l.map D.int)).bind _=_
   rw[VC]
   show(if l=[] then none else some (D.int (YN l)))=_
   rw[if_neg hne]
  refine⟨[~~~(rwI l)],rfl,Yy.mp ?_,rfl⟩
  have e6:YN ((QfW (l.map D.int)).getD [])=YN l:=by rw[VC];rfl
  simp? only[e5]
  show(D.int (YN l),_)=(D.int (YN ((QfW (l.map D.int)).getD [])),_)
  rw[e6]
 have e7:(R.map rwI).map (Qrf)=(R.map YN).map D.int:=by
  rw[z43,z43]
  refine zb9 fun l _=>?_
  show D.int (YN ((QfW (l.map D.int)).getD []))=D.int (YN l)
  rw[VC];rfl
 rw[e7]
 have hne:R.map YN≠[]:=fun e=>by have:=congrArg zr0 e;rw[z00,r.hi] at this;simp at this;lia
 have e8:Qjt [.nd .lst ((R.map YN).map D.int)]=some (.int (YN (R.map YN))):=by
  show(QfW ((R.map YN).map D.int)).bind _=_
  rw[VC]
  show(if R.map YN=[] then none else some (D.int (YN (R.map YN))))=_
  rw[if_neg hne]
 have i1:=Jk (z:=z) (F:=F) (nm := "places") @3
 have i2:=Jk (z:=z) (F:=F) (nm := "is_wall") @3
 generalize YN (R.map YN)=least at *
 simp? only[e8,i1,QcY (places_eq rf hh hw)]
 refine Qlw (f:=fun d=>okN h w F (pD d)) (g:=fun d=>d) (di:=[]) (ρb:=[none,~~~(flD z F)]) (os:=[]) rfl rfl ?_ (by rw[z34,z00,Qap];lia) rfl rfl ?_
 ·intro d hd
  obtain⟨q,hq,rfl⟩:=z31.mp hd
  have c:=Qao.mp hq
  refine⟨[~~~(pl q),~~~(flD z F)],rfl,?_,fun _=>rfl,rfl⟩
  refine Yy.mp ?_
  show W _ fun a=>a=(okN h w F q,_)
  simp? only[i2,QF (Qd4 rf c),true_and]
  simp[okN,c]
 have e9:(((cel w h).map pl).filter (fun d=>okN h w F (pD d))).map (fun d=>d)=((cel w h).filter (okN h w F)).map pl:=by
  rw[zo1 (fun _=>rfl),zl1];rfl
 rw[e9]
 simp? only[]
 refine Qlw (f:=fun d=>decide (atL R (pD d) > least)) (g:=fun d=>npD (atL R (pD d),(pD d))) (di:=[]) (ρb:=[none,~~~(rD R),~~~(.int least)]) (os:=[]) rfl rfl ?_ (by rw[z34,z00];have:=z70 (okN h w F) (cel w h);rw[Qap] at this;lia) rfl rfl ?_
 ·intro d hd
  obtain⟨q,hq,rfl⟩:=z31.mp hd
  have c:=Qao.mp (z69.mp hq).1
  refine⟨[~~~(pl q),~~~(rD R),~~~(.int least)],rfl,Yy.mp ?_,fun _=>Yy.mp ?_,rfl⟩
  ·simp? only[QF (QeQ r c),true_and]
   rfl
  ·simp? only[QF (QeQ r c),true_and,QoQ]
   rfl
 have eA:((((cel w h).filter (okN h w F)).map pl).filter (fun d=>decide (atL R (pD d) > least))).map (fun d=>npD (atL R (pD d),(pD d)))=((((cel w h).filter (okN h w F)).filter fun p=>decide (atL R p > least)).map fun p=>(atL R p,p)).map npD:=by
  rw[zl1,z43,z43];rfl
 rw[eA]
 have nd:((((cel w h).filter (okN h w F)).filter fun p=>decide (atL R p > least)).map fun p=>(atL R p,p)).Nodup:=QaR (fun a b e=>(Prod.mk.inj e).2) ((QcR.filter _).filter _)
 have ln:((((cel w h).filter (okN h w F)).filter fun p=>decide (atL R p > least)).map fun p=>(atL R p,p)).length<64:=by
  rw[z00]
  have a:=z70 (fun p=>decide (atL R p > least)) ((cel w h).filter (okN h w F))
  have b:=z70 (okN h w F) (cel w h)
  rw[Qap] at b
  lia
 simp? only[QlX nd ln]
 exact⟨_,_,rfl,rfl,rfl,rfl⟩))
end
variable {z:Z}
section
variable {h w:Nat}{F R:List @17}{p:Int×Int}{wt:List NP}{e:NP}
abbrev Pw (wt:List NP):Prop:=wt.Pairwise (fun a b=>YI a b=true)
def isIn (wt:List NP)(e:NP)(d:D)(os:List D):Prop:=d=.non/\∃wt',os=[.lst (wt'.map npD)]/\wt'.Perm (e::wt)/\Pw wt'
theorem QiA (pw:Pw wt)(ne:e∉wt)(hl:wt.length<1000):FW (Jr z [.lst (wt.map npD),npD e]) (isIn wt e):=Qez (by
 dsimp only[Jq]
 simp? only[]
 refine Qil (fun n ρ=>∃(lo hi:Nat) (s:Option Sl),ρ=[some (.par (.lst (wt.map npD))),~~~(npD e),~~~(.int lo),~~~(.int hi),s]/\(s=none\/∃d,s = ~~~d)/\lo<=hi/\hi<=wt.length/\n=hi - lo/\
  (∀j (hj:j<wt.length),j<lo->YI wt[j] e=true)/\(∀j (hj:j<wt.length),hi<=j->YI e wt[j]=true)) (n:=wt.length) ?_ ?_ @1
 ·rintro n ρ ⟨lo,hi,s,rfl,hs,h1,h2,rfl,h3,h4⟩
  refine⟨(decide ((lo:Int)<hi),[some (.par (.lst (wt.map npD))),~~~(npD e),~~~(.int lo),~~~(.int hi),s]),Yy.mp (by simp? only[]),?_⟩
  by_cases c:(lo:Int)<(hi:Int)
  ·refine⟨fun _=>?_,fun q=>absurd c (of_decide_eq_false q)⟩
   dsimp only
   have c2:Qdy ((lo:Int)+hi) 2:=⟨by decide,by decide⟩
   have em:((lo:Int)+hi) / 2=((lo+hi) / 2:Nat):=by lia
   have hm:(lo+hi) / 2<wt.length:=by lia
   have eg:atI (wt.map npD) (((lo+hi) / 2:Nat):Int)=some (npD wt[(lo+hi) / 2]):=by
    rw[Qa8 npD (0,(0,0)) @1 @1]
    congr 2
    rw[z59,z09,z05 @1]
    rfl
   have el:Qra (npD wt[(lo+hi) / 2]) (npD e)=some (.bl (YI wt[(lo+hi) / 2] e)):=rfl
   refine JO (fun ρ=>ρ=[some (.par (.lst (wt.map npD))),~~~(npD e),~~~(.int lo),~~~(.int hi),~~~(.int (((lo+hi) / 2:Nat)))]) ?_ ?_
   ·rcases hs with rfl|⟨_,rfl⟩<;>simp? only[c2,em]<;>exact⟨trivial,trivial⟩
   ·rintro ρ rfl
    refine Qh.mpr ⟨(YI wt[(lo+hi) / 2] e,[some (.par (.lst (wt.map npD))),~~~(npD e),~~~(.int lo),~~~(.int hi),~~~(.int (((lo+hi) / 2:Nat)))]),Yy.mp (by simp only[atI,ixN] at eg;simp? only[eg,el]),?_⟩
    dsimp only
    cases q:YI wt[(lo+hi) / 2] e with
    |true=>
     simp? only[]
     refine⟨trivial,hi - ((lo+hi) / 2+1),?_,(lo+hi) / 2+1,hi,~~~(.int (((lo+hi) / 2:Nat))),?_,.inr ⟨_,rfl⟩,by lia,h2,rfl,fun j hj hl=>?_,h4⟩
     ·lia
     ·rfl
     ·by_cases e1:j=(lo+hi) / 2
      ·subst e1;exact q
      ·exact Qat.tr _ _ _ (zb2.mp pw j ((lo+hi) / 2) hj hm @1) q
    |false=>
     simp? only[]
     have q2:YI e wt[(lo+hi) / 2]=true:=Qat.tot _ _ (fun z=>ne (z▸z97 hm)) q
     refine⟨trivial,_,?_,lo,(lo+hi) / 2,_,rfl,.inr ⟨_,rfl⟩,by lia,by lia,rfl,h3,fun j hj hl=>?_⟩
     ·lia
     ·by_cases e1:j=(lo+hi) / 2
      ·subst e1;exact q2
      ·exact Qat.tr _ _ _ q2 (zb2.mp pw ((lo+hi) / 2) j hm hj @1)
  ·refine⟨fun q=>absurd (of_decide_eq_true q) c,fun _=>?_⟩
   have ee:hi=lo:=by lia
   subst ee
   show W (Qpj 0 _ _) _
   refine Qqy (par:=true) (xs:=wt.map npD) (n:=(hi:Nat)) (d:=npD e) rfl (Yy.mp (by simp? only[])) @1 (by rw[z00];lia) (by rw[z00,z34];lia) ?_ ?_
   ·rw[Qcn];rfl
   ·refine⟨[.lst ((wt.take hi++e::wt.drop hi).map npD)],rfl,?_,rfl,wt.take hi++e::wt.drop hi,rfl,?_,?_⟩
    ·rw[z73,z33,List.map_take,zt4,z59]
     rcases hs with rfl|⟨_,rfl⟩<;>rfl
    ·refine List.perm_middle.trans (List.Perm.cons _ ?_)
     rw[List.take_append_drop]
    ·refine zh0.mpr ⟨pw.sublist (zy3 _ _),zd0.mpr ⟨fun x hx=>?_,pw.sublist (zy8 _ _)⟩,fun a ha b hb=>?_⟩
     ·obtain⟨j,hj,rfl⟩:=zh5 hx
      rw[zy6]
      rw[ze6] at hj
      exact h4 _ @1 @1
     ·obtain⟨j,hj,rfl⟩:=zh5 ha
      rw[za7] at hj
      rw[zy5]
      have aj:=h3 j @1 @1
      rcases z19.mp hb with rfl|hb
      ·exact aj
      ·obtain⟨i,hi',rfl⟩:=zh5 hb
       rw[ze6] at hi'
       rw[zy6]
       exact Qat.tr _ _ _ aj (h4 _ @1 @1)
 ·exact⟨0,wt.length,none,by simp,.inl rfl,by lia,z32 _,by lia,fun j hj h=>absurd h @1,fun j hj h=>absurd h @1⟩)
def lft (R:List @17)(x:PN):List @17:=Qz R x.1 (if atL R x.1 > x.2 then atL R x.1 else x.2)
theorem Qma {s:Int}(rf:Rc h w F)(r:Rc h w R)(h1:1<=h)(hp:okN h w F p=true):Qkq z [flD z F,rD R,pnD (p,s)]=.ok .non [rD (lft R (p,s))]:=QS (Qez (by
 dsimp only[Qin]
 obtain⟨ip,nw⟩:=Q9 hp
 have i2:=Jk (z:=z) (F:=F) (nm := "is_wall") @3
 refine Ws [~~~(flD z F),some (.par (rD R)),~~~(pnD (p,s)),~~~(pl p)] ?_ ?_
 ·simp? only[pnD]
  exact⟨trivial,trivial⟩
 refine Qh.mpr ⟨(true,[~~~(flD z F),some (.par (rD R)),~~~(pnD (p,s)),~~~(pl p)]),Yy.mp ?_,?_⟩
 ·simp? only[i2,QF (Qd4 rf ip),true_and,nw]
 dsimp only
 rw[if_pos rfl]
 refine QaB (par:=true) (ys:=R.map rwI) (xs:=(R.getD p.1.toNat []).map D.int) (d:=.int (if atL R p > s then atL R p else s)) (n:=p.1) (j:=p.2) (p:=p.1.toNat) (q:=p.2.toNat) rfl (Yy.mp ?_) (Yy.mp ?_) (Yy.mp ?_) ?_ ?_ ?_ ?_
 ·simp? only[pnD,QF (QeQ r ip),true_and]
 ·simp? only[pl]
 ·simp? only[pl]
 ·exact Vh ip.1 (by rw[z00,r.hi];exact ip.2.1)
 ·have hl:p.1.toNat<R.length:=by rw[r.hi];have:=ip.1;have:=ip.2.1;lia
  rw[z29,z09,z05 hl];rfl
 ·exact Vh ip.2.2.1 (by rw[z00,r.row ip.1 ip.2.1];exact ip.2.2.2)
 ·refine⟨_,rfl,rfl,rfl,?_⟩
  rw[Qko r ip];rfl))
def Qrg (h w:Nat)(F:List @17)(e:NP)(R:List @17)(wt:List NP)(d:D)(os:List D):Prop:=d=.non/\∃R' wt',os=[rD R',.lst (wt'.map npD)]/\Gv h w F e R wt (nbL h w F e.2) R' wt'
def frO (s:Option Sl):Prop:=s=none\/∃d,s = ~~~d
theorem Qmb (rf:Rc h w F)(r:Rc h w R)(h1:1<=h)(pw:Pw wt)(i1:∀x∈wt,okN h w F x.2=true/\x.1<=atL R x.2)(hl:wt.length<=900)(ie:inR h w e.2):FW (Qkt z [flD z F,rD R,.lst (wt.map npD),npD e]) (Qrg h w F e R wt):=Qez (by
 dsimp only[Qio]
 have i2:=Jk (z:=z) (F:=F) (nm := "beside") @3
 have i3:=Jk (z:=z) (F:=F) (nm := "loss") @3
 simp? only[npD,i2,QcY (Qiw rf h1 ie)]
 refine Qa5 (fun i ρ=>∃R' wt' s t,ρ=[~~~(flD z F),some (.par (rD R')),some (.par (.lst (wt'.map npD))),~~~(npD e),s,t]/\frO s/\frO t/\Gv h w F e R wt ((nbL h w F e.2).take i) R' wt') ⟨R,wt,none,none,rfl,.inl rfl,.inl rfl,by rw[zm3];exact Gv.start r pw i1⟩ ?_ ?_
 ·rintro i d ρ hd ⟨R',wt',s,t,rfl,hs,ht,g⟩
  rw[z29] at hd
  obtain⟨v,hv,rfl⟩:=z03.mp hd
  have okv:=QeI (z42 hv)
  have iv:=(Q9 okv).1
  have et:(nbL h w F e.2).take (i+1)=(nbL h w F e.2).take i++[v]:=by rw[zg2,hv];rfl
  rw[et]
  refine⟨[~~~(flD z F),some (.par (rD R')),some (.par (.lst (wt'.map npD))),~~~(npD e),~~~(pl v),t],?_,?_⟩
  ·rcases hs with rfl|⟨_,rfl⟩<;>rfl
  refine Ws [~~~(flD z F),some (.par (rD R')),some (.par (.lst (wt'.map npD))),~~~(npD e),~~~(pl v),~~~(.int (e.1 - atL F v))] ?_ ?_
  ·rcases ht with rfl|⟨_,rfl⟩<;>simp? only[npD,i3,QF (Ql8 rf h1 iv),true_and]
  refine Qh.mpr ⟨(decide (e.1 - atL F v > atL R' v),[~~~(flD z F),some (.par (rD R')),some (.par (.lst (wt'.map npD))),~~~(npD e),~~~(pl v),~~~(.int (e.1 - atL F v))]),Yy.mp ?_,?_⟩
  ·simp? only[QF (QeQ g.rc iv),true_and]
  dsimp only
  by_cases c:e.1 - atL F v > atL R' v
  ·rw[decide_eq_true c,if_pos rfl]
   refine Ws [~~~(flD z F),some (.par (rD (Qz R' v (e.1 - atL F v)))),some (.par (.lst (wt'.map npD))),~~~(npD e),~~~(pl v),~~~(.int (e.1 - atL F v))] ?_ ?_
   ·refine QaB (par:=true) (ys:=R'.map rwI) (xs:=(R'.getD v.1.toNat []).map D.int) (d:=.int (e.1 - atL F v)) (n:=v.1) (j:=v.2) (p:=v.1.toNat) (q:=v.2.toNat) rfl (Yy.mp ?_) (Yy.mp ?_) (Yy.mp ?_) ?_ ?_ ?_ ?_
    ·simp? only[]
    ·simp? only[pl]
    ·simp? only[pl]
    ·exact Vh iv.1 (by rw[z00,g.rc.hi];exact iv.2.1)
    ·have hl:v.1.toNat<R'.length:=by rw[g.rc.hi];have:=iv.1;have:=iv.2.1;lia
     rw[z29,z09,z05 hl];rfl
    ·exact Vh iv.2.2.1 (by rw[z00,g.rc.row iv.1 iv.2.1];exact iv.2.2.2)
    ·refine⟨rfl,?_⟩
     show[_,some (Sl.par (D.lst _)),_,_,_,_]=_
     rw[Qko g.rc iv];rfl
   have hn:(e.1 - atL F v,v)∉wt':=fun hm=>by have:=(g.i1 _ hm).2;dsimp only at this;lia
   have hln:wt'.length<1000:=by
    have:=g.ln
    have:=QjD (h:=h) (w:=w) (F:=F) e.2
    rw[za7] at *
    lia
   have hin:=QiA (z:=z) g.pw hn hln
   have en:npD (e.1 - atL F v,v)=.tup [.int (e.1 - atL F v),pl v]:=rfl
   rw[en] at hin
   simp? only[]
   refine Jo (par:=true) (i:=2) (p:=.lst (wt'.map npD)) (x:=.tup [.int (e.1 - atL F v),pl v]) (f:=Jr z) rfl hin ?_
   rintro d os ⟨e1,wt2,e2,pm,pw2⟩
   refine⟨.lst (wt2.map npD),e2,?_⟩
   exact⟨trivial,Qz R' v (e.1 - atL F v),wt2,~~~(pl v),~~~(.int (e.1 - atL F v)),rfl,.inr ⟨_,rfl⟩,.inr ⟨_,rfl⟩,g.put okv c pm pw2⟩
  ·rw[decide_eq_false c,if_neg @3]
   exact JK.mpr ⟨rfl,R',wt',_,_,rfl,.inr ⟨_,rfl⟩,.inr ⟨_,rfl⟩,g.skip c⟩
 ·rintro ρ ⟨R',wt',s,t,rfl,hs,ht,g⟩
  rw[z00,zk0] at g
  refine⟨[rD R',.lst (wt'.map npD)],rfl,?_,rfl,R',wt',rfl,g⟩
  rcases hs with rfl|⟨_,rfl⟩<;>rcases ht with rfl|⟨_,rfl⟩<;>rfl)
end
variable {z:Z}
section
variable {h w:Nat}{F R N:List @17}{p:Int×Int}{wt:List NP}{e:NP}{ls:List PN}
theorem Qgi (r:Rc h w R){x:PN}(hp:inR h w x.1):Rc h w (lft R x):=r.set hp
theorem QiB (r:Rc h w R){x:PN}(hp:inR h w x.1){q:Int×Int}(hq:inR h w q):atL (lft R x) q=if q=x.1 then(if atL R x.1 > x.2 then atL R x.1 else x.2) else atL R q:=QdW r hp hq
theorem Qfk:∀{ls:List PN} {R:List @17},Rc h w R->(∀x∈ls,inR h w x.1)->Rc h w (ls.foldl lft R)
 | [],_,r,_=>r
 |x::ls,R,r,hl=>Qfk (ls:=ls) (R:=lft R x) (Qgi r (hl x z07)) fun y hy=>hl y (z08 _ hy)
theorem Qfl:∀{ls:List PN} {R:List @17},Rc h w R->(∀x∈ls,inR h w x.1)->∀q,inR h w q->atL R q<=atL (ls.foldl lft R) q
 | [],_,_,_,_,_=>zf2 _
 |x::ls,R,r,hl,q,hq=>by
  refine z79 ?_ (Qfl (Qgi r (hl x z07)) (fun y hy=>hl y (z08 _ hy)) q hq)
  rw[QiB r (hl x z07) hq]
  split
  ·rename_i e;subst e;split<;>lia
  ·exact zf2 _
theorem QeR:∀{ls:List PN} {R:List @17},Rc h w R->(∀x∈ls,inR h w x.1)->∀x∈ls,x.2<=atL (ls.foldl lft R) x.1
 |y::ls,R,r,hl,x,hx=>by
  have r1:=Qgi r (hl y z07)
  have hl1:∀y∈ls,inR h w y.1:=fun y hy=>hl y (z08 _ hy)
  rcases z19.mp hx with rfl|hx
  ·refine z79 ?_ (Qfl r1 hl1 x.1 (hl x z07))
   rw[QiB r (hl x z07) (hl x z07),if_pos rfl]
   split<;>lia
  ·exact QeR r1 hl1 x hx
structure QqH (h w:Nat)(F N:List @17)(ls:List PN)(R:List @17):Prop where
 rc:Rc h w R
 up:∀q,inR h w q->atL (ls.foldl lft N) q<=atL R q
 cl:∀u,okN h w F u=true->∀v∈nbL h w F u,atL R u - atL F v<=atL R v
 so:∀q,inR h w q->atL R q=atL (ls.foldl lft N) q\/∃u,okN h w F u=true/\q∈nbL h w F u/\atL R q=atL R u - atL F q
theorem QoR {least:Int}{x:NP}(hx:x∈gvL h w F R least):okN h w F x.2=true/\x.1=atL R x.2:=by
 obtain⟨q,hq,rfl⟩:=z31.mp hx
 exact⟨(z69.mp (z69.mp hq).1).2,rfl⟩
theorem QqI {least:Int}{u:Int×Int}(hu:okN h w F u=true)(hl:least<atL R u):(atL R u,u)∈gvL h w F R least:=
 z31.mpr ⟨u,z69.mpr ⟨z69.mpr ⟨Qao.mpr (Q9 hu).1,hu⟩,decide_eq_true hl⟩,rfl⟩
theorem QoS {least:Int}:(gvL h w F R least).length<=h * w:=by
 unfold gvL
 rw[z00]
 have a:=z70 (fun p=>decide (atL R p > least)) ((cel w h).filter (okN h w F))
 have b:=z70 (okN h w F) (cel w h)
 rw[Qap] at b
 lia
theorem QjG {least:Int}:(gvL h w F R least).Nodup:=QaR (fun a b e=>(Prod.mk.inj e).2) ((QcR.filter _).filter _)
theorem QjH (r:Rc h w R)(least:Int):Jv h w F R least (fun _=>false) R (QcV YI (gvL h w F R least)) where
 rc:=r
 pw:=Qa7 Qat QjG
 i1:=fun x hx=>by obtain⟨a,b⟩:=QoR ((QV _).mem_iff.mp hx);exact⟨a,by lia⟩
 up:=fun _ _=>zf2 _
 i2:=fun u hu hl=>.inl ((QV _).mem_iff.mpr (QqI hu hl))
 d1:=fun u hu=>nomatch hu
 so:=fun _ _=>.inl rfl
theorem QiC (rf:Rc h w F)(nf:Nn h w F)(rn:Rc h w N)(h1:1<=h)(hh:h<=30)(w1:1<=w)(hw:w<=30)(hz:h * w<=60)(hl:∀x∈ls,okN h w F x.1=true):FW (Qga z [flD z F,rD N,.lst (ls.map pnD)]) (fun d os=>os=[]/\∃R,d=rD R/\QqH h w F N ls R):=QK (by
 dsimp only[Qd0]
 have hl':∀x∈ls,inR h w x.1:=fun x hx=>(Q9 (hl x hx)).1
 refine Ws [~~~(flD z F),~~~(rD N),~~~@10,some (.own (rD N)),none,none,none] ?_ ?_
 ·have e3:siK (rD N,[~~~(flD z F),~~~(rD N),~~~@10,none,none,none,none])=.ok (N.map rwI,[~~~(flD z F),~~~(rD N),~~~@10,none,none,none,none]):=rfl
  simp? only[e3]
  refine Qa6 (g:=fun d=>d) (di:=[]) (ρb:=[none]) (os:=[]) rfl rfl ?_ (by rw[z34,z00,rn.hi];lia) rfl rfl ?_
  ·intro d hd
   obtain⟨l,hl,rfl⟩:=z31.mp hd
   have e6:liK ([rwI l],[~~~(rwI l)])=.ok (rwI l,[~~~(rwI l)]):=by
    show(if D.QI (l.map D.int)=true then _ else _)=_
    rw[if_pos (JP l)];rfl
   refine⟨[~~~(rwI l)],rfl,Yy.mp ?_,rfl⟩
   simp? only[e6]
  ·simp? only[]
   refine⟨trivial,?_⟩
   rw[zo1 (fun _=>rfl)];rfl
 refine JO (fun ρ=>∃s,frO s/\ρ=[~~~(flD z F),~~~(rD N),~~~@10,some (.own (rD (ls.foldl lft N))),s,none,none]) ?_ ?_
 ·simp? only[]
  refine Qa5 (fun i ρ=>∃s,frO s/\ρ=[~~~(flD z F),~~~(rD N),~~~@10,some (.own (rD ((ls.take i).foldl lft N))),s,none,none]) ⟨none,.inl rfl,by rw[zm3];rfl⟩ ?_ ?_
  ·rintro i d ρ hd ⟨s,hs,rfl⟩
   rw[z29] at hd
   obtain⟨x,hx,rfl⟩:=z03.mp hd
   have hm:=z42 hx
   have ri:Rc h w ((ls.take i).foldl lft N):=Qfk rn fun y hy=>hl' y (zw1 hy)
   refine⟨[~~~(flD z F),~~~(rD N),~~~@10,some (.own (rD ((ls.take i).foldl lft N))),~~~(pnD x),none,none],?_,?_⟩
   ·rcases hs with rfl|⟨_,rfl⟩<;>rfl
   simp? only[]
   have el:=Qma (z:=z) (s:=x.2) (p:=x.1) rf ri h1 (hl x hm)
   refine Qod (dis:=[rD ((ls.take i).foldl lft N)]) (P:=fun d os=>d=.non/\os=[rD (lft ((ls.take i).foldl lft N) (x.1,x.2))]) rfl ⟨_,_,el,rfl,rfl⟩ ?_
   rintro d os ⟨_,rfl⟩
   refine⟨trivial,~~~(pnD x),.inr ⟨_,rfl⟩,?_⟩
   have et:ls.take (i+1)=ls.take i++[x]:=by rw[zg2,hx];rfl
   rw[et,List.foldl_append]
   rfl
  ·rintro ρ ⟨s,hs,rfl⟩
   rw[z00,zk0]
   exact⟨rfl,s,hs,rfl⟩
 rintro ρ ⟨s,hs,rfl⟩
 have r0:Rc h w (ls.foldl lft N):=Qfk rn hl'
 generalize e0:ls.foldl lft N=R0 at r0
 refine Ws [~~~(flD z F),~~~(rD N),~~~@10,some (.own (rD R0)),s,some (.own (.lst ((QcV YI (gvL h w F R0 (YN (R0.map YN)))).map npD))),none] ?_ ?_
 ·simp? only[QcY (Qiz rf r0 h1 hh w1 hw hz)]
  exact⟨trivial,trivial⟩
 have hlow:∀q,inR h w q->YN (R0.map YN)<=atL R0 q:=fun q hq=>QoP r0 h1 w1 hq
 generalize YN (R0.map YN)=least at hlow
 refine JO (fun ρ=>∃R t dn,frO t/\Jv h w F R0 least dn R []/\ρ=[~~~(flD z F),~~~(rD N),~~~@10,some (.own (rD R)),s,some (.own (.lst [])),t]) ?_ ?_
 ·refine Qil (fun n ρ=>∃R wt t dn,frO t/\Jv h w F R0 least dn R wt/\wt.length+5 * Qcr (cel w h) dn<=n/\n<=400/\ρ=[~~~(flD z F),~~~(rD N),~~~@10,some (.own (rD R)),s,some (.own (.lst (wt.map npD))),t]) (n:=360) ?_ ?_ @3
  ·rintro n ρ ⟨R,wt,t,dn,ht,j,hn,hn4,rfl⟩
   refine⟨(decide ((wt.length:Int) > 0),[~~~(flD z F),~~~(rD N),~~~@10,some (.own (rD R)),s,some (.own (.lst (wt.map npD))),t]),Yy.mp (by simp? only[z00]),?_⟩
   dsimp only
   rcases List.eq_nil_or_concat wt with rfl|⟨wt0,e,rfl⟩
   ·exact⟨fun q=>absurd q @9,fun _=>⟨rfl,R,t,dn,ht,j,rfl⟩⟩
   refine⟨fun _=>?_,fun q=>absurd q @9⟩
   rw[List.concat_eq_append] at j hn ⊢
   refine Ws [~~~(flD z F),~~~(rD N),~~~@10,some (.own (rD R)),s,some (.own (.lst (wt0.map npD))),~~~(npD e)] ?_ ?_
   ·refine Qh.mpr ?_
    refine Qqx (par:=false) (xs:=wt0.map npD) (d:=npD e) (by rw[z73];rfl) (by have:=Qcn (wt0++[e]);rw[z73] at this;exact this) ?_
    rcases ht with rfl|⟨_,rfl⟩<;>exact JK.mpr ⟨rfl,rfl⟩
   have oke:=(j.i1 e (z04 _ z07)).1
   have ie:=(Q9 oke).1
   refine Qh.mpr ⟨(decide (atL R e.2=e.1),[~~~(flD z F),~~~(rD N),~~~@10,some (.own (rD R)),s,some (.own (.lst (wt0.map npD))),~~~(npD e)]),Yy.mp ?_,?_⟩
   ·simp? only[npD,QF (QeQ j.rc ie),true_and]
   dsimp only
   rw[z49] at hn
   simp only[z30,zh4] at hn
   by_cases c:atL R e.2=e.1
   ·rw[decide_eq_true c,if_pos rfl]
    have pw0:=(zh0.mp j.pw).1
    have hg:=Qmb (z:=z) (e:=e) rf j.rc h1 pw0 (fun x hx=>j.i1 x (z15 _ hx)) @1 ie
    simp? only[]
    refine Qod (dis:=[rD R,.lst (wt0.map npD)]) (P:=Qrg h w F e R wt0) rfl hg ?_
    rintro d os ⟨_,R',wt',rfl,g⟩
    obtain⟨j',nd,_⟩:=j.give nf c g
    refine⟨trivial,wt'.length+5 * Qcr (cel w h) (fun p=>dn p || decide (p=e.2)),?_,R',wt',~~~(npD e),_,.inr ⟨_,rfl⟩,j',z32 _,?_,rfl⟩
    ·have a:=QdX (Qao.mpr ie) nd
     have b:=g.ln
     have c:=QjD (h:=h) (w:=w) (F:=F) e.2
     lia
    ·have a:=QdX (Qao.mpr ie) nd
     have b:=g.ln
     have c:=QjD (h:=h) (w:=w) (F:=F) e.2
     lia
   ·rw[decide_eq_false c,if_neg @3]
    exact JK.mpr ⟨rfl,wt0.length+5 * Qcr (cel w h) dn,by lia,R,wt0,~~~(npD e),dn,.inr ⟨_,rfl⟩,j.stale c,z32 _,by lia,rfl⟩
  ·refine⟨R0,QcV YI (gvL h w F R0 least),none,fun _=>false,.inl rfl,QjH r0 least,?_,by decide,rfl⟩
   have a:=QoS (h:=h) (w:=w) (F:=F) (R:=R0) (least:=least)
   have b:=QjE (cel w h) (fun _=>false)
   rw[Qap] at b
   rw[(QV (lt:=YI) (gvL h w F R0 least)).length_eq]
   lia
 rintro ρ ⟨R,t,dn,ht,j,rfl⟩
 simp? only[]
 refine⟨_,[],rfl,?_,rfl,R,rfl,?_⟩
 ·rcases hs with rfl|⟨_,rfl⟩<;>rcases ht with rfl|⟨_,rfl⟩<;>rfl
 ·subst e0
  refine⟨j.rc,j.up,j.fin nf hlow,fun q hq=>(j.so q hq).imp id fun⟨u,hu,hn,hv⟩=>⟨u,(j.d1 u hu).1,hn,hv⟩⟩)
end
variable {z:Z}
section
variable {h w:Nat}{F R:List @17}{p:Int×Int}{ls:List PN}{ρ:Rho}
theorem QoT {ma mb:ME}{xs:List D}{n:Int}(h1:ma ρ=.ok (.lst xs,ρ))(h2:mb ρ=.ok (.int n,ρ))(hc : -(2 ^ 63)<=n/\n<2 ^ 63/\xs.length * n.toNat<=z18/\D.QI (Qjw n xs)=true):QlJ ma mb ρ=.ok (.lst (Qjw n xs),ρ):=by
 unfold QlJ
 rw[h1]
 show((mb ρ).bind _)=_
 rw[h2]
 show(if -(2 ^ 63)<=n/\n<2 ^ 63/\xs.length * n.toNat<=z18/\D.QI (Qjw n xs)=true then Rs.ok (D.lst (Qjw n xs),ρ) else .no)=_
 rw[if_pos hc]
theorem QiD {α:Type}(x:α):∀n:Nat,(z40 n [x]).flatten=z40 n x
 |0=>rfl
 |n+1=>by rw[z91,ze0,QiD x n];rfl
theorem QoU {my md:ME}{y d:D}{b:Bool}{f:Bool->Bool}(h1:my ρ=.ok (y,ρ))(h2:md ρ=.ok (d,ρ))(h3:Qk8 y d=some b):QpZ f my md ρ=.ok (.bl (f b),ρ):=by
 unfold QpZ
 rw[h1]
 show((md ρ).bind _)=_
 rw[h2]
 show Rs.of ((Qk8 y d).map _)=_
 rw[h3];rfl
theorem QoV {par:Bool}{i:Nat}{mv mk:ME}{ks:List (List Key)}{ds:List D}{d:D}{q:Int×Int}{kf:Fl×Rho->Prop}(hi:ρ[i]? = some (some (mkS par (.nd (.dT ks) ds))))(h1:mv ρ=.ok (d,ρ))(h2:mk ρ=.ok (pl q,ρ))(hn:(ks.any fun x=>decide (x=Qbl q))=false)(hl:ks.length<z18)(hm:(d.imm && D.QI ds)=true)
  (h:kf (.nx,ρ.set i (some (mkS par (.nd (.dT (ks++[Qbl q])) (ds++[d])))))):W (Qla i mv mk ρ) kf:=by
 have e1:Qkc ρ i=some (par,ks,ds):=by unfold Qkc;rw[hi];cases par<;>rfl
 refine⟨_,?_,h⟩
 unfold Qla
 rw[h1]
 show((Rs.of (Qkc ρ i)).bind _)=_
 rw[e1]
 show((mk ρ).bind _)=_
 rw[h2]
 show((Rs.of (Qkc ρ i)).bind _)=_
 rw[e1]
 show(if ks.length<z18 then(if(d.imm && D.QI ds)=true then Rs.ok (Fl.nx,ρ.set i (some (mkS par (.nd (.dT (putD ks ds (Qbl q) d).1) (putD ks ds (Qbl q) d).2)))) else .no) else .no)=_
 rw[if_pos hl,if_pos hm]
 unfold putD
 rw[hn];rfl
def nts (h w:Nat):List @17:=z40 h (z40 w 0)
theorem QeS:Rc h w (nts h w):=⟨by simp[nts],fun r hr=>by rw[(List.mem_replicate.mp hr).2];simp⟩
theorem QiE:atL (nts h w) p=0:=by
 unfold atL nts
 rw[z09,z09,zj8]
 split
 ·simp only[zx3,zj8]
  split<;>rfl
 ·rfl
def isLit (h w:Nat)(F:List @17)(ls:List PN)(d:D)(os:List D):Prop:=os=[]/\∃R,d=rD R/\QqH h w F (nts h w) ls R
theorem QoW (rf:Rc h w F)(nf:Nn h w F)(h1:1<=h)(hh:h<=30)(w1:1<=w)(hw:w<=30)(hz:h * w<=60)(hl:∀x∈ls,okN h w F x.1=true):FW (QoK z [flD z F,.lst (ls.map pnD)]) (isLit h w F ls):=QK (by
 dsimp only[Ql1]
 have i1:=Jk (z:=z) (F:=F) (nm := "high") @3
 have i2:=Jk (z:=z) (F:=F) (nm := "wide") @3
 have b1:(-4611686018427387904:Int)<=h/\(h:Int)<4611686018427387904:=by lia
 simp? only[i1,QF (Qit rf),true_and,b1,and_self,z59]
 refine Qa6 (g:=fun _=>rwI (z40 w 0)) (di:=[]) (ρb:=[none,~~~(flD z F)]) (os:=[]) rfl rfl ?_ (by rw[z34,z00,z92];lia) rfl rfl ?_
 ·intro d hd
  refine⟨[~~~d,~~~(flD z F)],rfl,?_,rfl⟩
  have e1:Qjw (w:Int) [.int 0]=(z40 w (0:Int)).map D.int:=by
   unfold Qjw
   rw[z59,QiD,zx5]
  have:=QoT (ρ:=[~~~d,~~~(flD z F)]) (ma:=QpF (Q2 (mC (.int 0)) QcT)) (mb:=VM .V (Vl z) (Q2 (Qms z.Qj "wide" (mV 1)) QcT)) (xs:=[.int 0]) (n:=(w:Int)) (Yy.mp (by simp? only[])) (Yy.mp (by simp? only[i2,QF (Qfh rf h1),true_and])) ⟨by lia,by lia,by rw[z34,z59];simp;lia,by rw[e1];exact JP _⟩
  rw[e1] at this
  exact this
 have e2:D.lst (zq5 (fun _=>rwI (z40 w 0)) (zq5 (fun j=>D.int (0+((j:Nat):Int))) (z63 h)))=rD (nts h w):=by
  unfold nts rD
  congr 1
  rw[z43,zx5]
  have:∀n:Nat,(z63 n).map ((fun _=>rwI (z40 w 0))∘fun(j:Nat)=>D.int (0+(j:Int)))=z40 n (rwI (z40 w 0)):=fun n=>by
   rw[zu8]
   refine⟨by simp,fun b hb=>?_⟩
   obtain⟨_,_,rfl⟩:=z31.mp hb
   rfl
  exact this h
 rw[e2]
 simp? only[]
 refine Qjp (P:=isLit h w F ls) (QiC rf nf QeS h1 hh w1 hw hz hl) fun d os hz=>?_
 obtain⟨e1,R,e2,sp⟩:=hz
 refine⟨(fun q=>nomatch q),?_⟩
 subst e2
 simp? only[]
 exact⟨_,_,rfl,rfl,rfl,R,rfl,sp⟩)
theorem Qfm {s:Int}(h0:1<=s)(h1:s<Jm):Y6 z [.int s]=.ok .non []:=QS (Qez (by
 dsimp only[JM]
 have c3:CPow 10 60:=⟨by decide,by decide,by decide⟩
 have e2:(10:Int) ^ 60=Jm:=rfl
 simp? only[QF Qge,true_and,c3,e2,h0,h1]
 exact⟨_,rfl,rfl⟩))
def lmS (t u:Tag)(x:PN):D:=.nd t [plS u x.1,.int x.2]
theorem Qmc {x:PN}{t u:Tag}(ht:LT t)(hu:LT u)(rf:Rc h w F)(h1:1<=h)(hp:inR h w x.1)(h0:1<=x.2)(h2:x.2<Jm):QbG z [flD z F,lmS t u x]=.ok .non []:=QS (Qez (by
 dsimp only[Vx]
 have i1:=Jk (z:=z) (F:=F) (nm := "check_place") @3
 have e1:QcC z [lmS t u x]=.ok (.bl true) []:=by rcases ht with rfl|rfl<;>rfl
 have e2:gIx (lmS t u x) (.int 0)=some (plS u x.1):=by rcases ht with rfl|rfl<;>rfl
 have e3:gIx (lmS t u x) (.int 1)=some (.int x.2):=by rcases ht with rfl|rfl<;>rfl
 simp? only[QF e1,e2,e3,true_and,i1,QF (Qgf hu rf h1 hp),QF (Qfm h0 h2)]
 exact⟨_,rfl,rfl⟩))
theorem free_eq {ks:List (List Key)}{ds:List D}(rf:Rc h w F)(hp:okN h w F p=true)(hn:(ks.any fun x=>decide (x=Qbl p))=false):QbA z [flD z F,.nd (.dT ks) ds,pl p]=.ok .non []:=QS (Qez (by
 dsimp only[Vs]
 obtain⟨ip,nw⟩:=Q9 hp
 have i1:=Jk (z:=z) (F:=F) (nm := "is_wall") @3
 have e1:Qk8 (pl p) (.nd (.dT ks) ds)=some false:=by
  unfold Qk8
  show some (ks.any fun x=>decide (x=Qbl p))=_
  rw[hn]
 refine Ws [~~~(flD z F),~~~(.nd (.dT ks) ds),~~~(pl p)] ?_ ?_
 ·simp? only[i1,QF (Qd4 rf ip),true_and,nw]
 have e2:=QoU (ρ:=[~~~(flD z F),~~~(.nd (.dT ks) ds),~~~(pl p)]) (f:=id) (my:=mV 2) (md:=mV 1) rfl rfl e1
 refine Qh.mpr ⟨(false,[~~~(flD z F),~~~(.nd (.dT ks) ds),~~~(pl p)]),?_,?_⟩
 ·unfold Qb9;rw[e2];rfl
 ·exact JK.mpr ⟨[],rfl,rfl,rfl,rfl⟩))
def QgN (ls:List PN):D:=.nd (.dT (ls.map fun x=>Qbl x.1)) (ls.map fun x=>.int x.2)
theorem order_eq (hl:ls.length<64):Qdj z [QgN ls]=.ok (.lst ((QcV QcS ls).map pnD)) []:=QS (QK (by
 dsimp only[Qbb]
 have e1:Qrd (QgN ls,[~~~(QgN ls)])=.ok (.lst ((QcV QcS ls).map pnD),[~~~(QgN ls)]):=by
  show(Rs.of (Qcp (ls.map fun x=>Qbl x.1) (ls.map fun x=>.int x.2))).bind _=_
  rw[Qdc]
  show(if ls.length<64 then Rs.ok _ else .no)=_
  rw[if_pos hl]
 simp? only[e1]
 exact⟨_,_,rfl,rfl,rfl,rfl⟩))
theorem Qmd {a b:Int×Int}(e:Qbl a=Qbl b):a=b:=by
 unfold Qbl at e
 simp at e
 exact zq3 e.1 e.2
structure Lmp (h w:Nat)(F:List @17)(ls:List PN):Prop where
 ok:∀x∈ls,okN h w F x.1=true
 st:∀x∈ls,1<=x.2/\x.2<Jm
 nd:(ls.map (·.1)).Nodup
 ln:ls.length<=10
theorem Qme {c:Bool}{t u:Tag}(ht:LT t)(hu:LT u)(rf:Rc h w F)(h1:1<=h)(hl:Lmp h w F ls):QaP z [flD z F,sq c (ls.map (lmS t u))]=.ok (.lst ((QcV QcS ls).map pnD)) []:=QS (QK (by
 dsimp only[Y1]
 have hln:=hl.ln
 refine Ws [~~~(flD z F),~~~(sq c (ls.map (lmS t u))),some (.own (QgN [])),none,none] ?_ ?_
 ·exact JK.mpr ⟨rfl,rfl⟩
 refine JO (fun ρ=>∃s t',frO s/\frO t'/\ρ=[~~~(flD z F),~~~(sq c (ls.map (lmS t u))),some (.own (QgN ls)),s,t']) ?_ ?_
 ·simp? only[QeJ]
  refine Qa5 (fun i ρ=>∃s t',frO s/\frO t'/\ρ=[~~~(flD z F),~~~(sq c (ls.map (lmS t u))),some (.own (QgN (ls.take i))),s,t']) ⟨none,none,.inl rfl,.inl rfl,by rw[zm3]⟩ ?_ ?_
  ·rintro i d ρ hd ⟨s,t',hs,htt,rfl⟩
   rw[z29] at hd
   obtain⟨x,hx,rfl⟩:=z03.mp hd
   have hm:=z42 hx
   have okx:=hl.ok x hm
   have ix:=(Q9 okx).1
   obtain⟨s1,s2⟩:=hl.st x hm
   refine⟨[~~~(flD z F),~~~(sq c (ls.map (lmS t u))),some (.own (QgN (ls.take i))),~~~(lmS t u x),t'],?_,?_⟩
   ·rcases hs with rfl|⟨_,rfl⟩<;>rfl
   have et:ls.take (i+1)=ls.take i++[x]:=by rw[zg2,hx];rfl
   have hn:(((ls.take i).map fun x=>Qbl x.1).any fun y=>decide (y=Qbl x.1))=false:=by
    rw[zy9]
    intro y hy
    obtain⟨q,hq,rfl⟩:=z31.mp hy
    have nd:=hl.nd
    intro hc
    have e:=Qmd (of_decide_eq_true hc)
    obtain⟨j,hj,rfl⟩:=zh5 hq
    obtain⟨hi,ei⟩:=z28.mp hx
    rw[za7] at hj
    rw[zy5] at e
    have:=(zb2.mp nd) j i (by rw[z00];lia) (by rw[z00];lia) @1
    rw[List.getElem_map,List.getElem_map] at this
    exact this (by rw[e,ei])
   have el:=Qmc (z:=z) ht hu rf h1 ix s1 s2
   have ef:=free_eq (z:=z) (ds:=(ls.take i).map fun x=>.int x.2) rf okx hn
   refine Ws [~~~(flD z F),~~~(sq c (ls.map (lmS t u))),some (.own (QgN (ls.take i))),~~~(lmS t u x),t'] ?_ ?_
   ·simp? only[]
    exact(QF el).mpr ⟨rfl,trivial,rfl⟩
   refine Ws [~~~(flD z F),~~~(sq c (ls.map (lmS t u))),some (.own (QgN (ls.take i))),~~~(lmS t u x),~~~(pl x.1)] ?_ ?_
   ·rcases htt with rfl|⟨_,rfl⟩<;>rcases ht with rfl|rfl<;>rcases hu with rfl|rfl<;>exact JK.mpr ⟨rfl,rfl⟩
   refine Ws [~~~(flD z F),~~~(sq c (ls.map (lmS t u))),some (.own (QgN (ls.take i))),~~~(lmS t u x),~~~(pl x.1)] ?_ ?_
   ·simp? only[]
    exact(QF ef).mpr ⟨rfl,trivial,rfl⟩
   refine QoV (par:=false) (ks:=(ls.take i).map fun x=>Qbl x.1) (ds:=(ls.take i).map fun x=>.int x.2) (d:=.int x.2) (q:=x.1) rfl (by rcases ht with rfl|rfl<;>rfl) rfl hn (by rw[z34,z00,za7];lia) ?_ ?_
   ·have:=JP ((ls.take i).map (·.2))
    rw[z43] at this
    exact this
   ·refine⟨rfl,~~~(lmS t u x),~~~(pl x.1),.inr ⟨_,rfl⟩,.inr ⟨_,rfl⟩,?_⟩
    rw[et]
    unfold QgN
    rw[z73,z73]
    rfl
  ·rintro ρ ⟨s,t',hs,htt,rfl⟩
   rw[z00,zk0]
   exact⟨rfl,s,t',hs,htt,rfl⟩
 rintro ρ ⟨s,t',hs,htt,rfl⟩
 simp? only[QcY (order_eq (z:=z) (ls:=ls) @1)]
 refine⟨_,[],rfl,?_,rfl,rfl⟩
 rcases hs with rfl|⟨_,rfl⟩<;>rcases htt with rfl|⟨_,rfl⟩<;>rfl))
end
variable {z:Z}
section
variable {h w:Nat}{F:List @17}{p:Int×Int}{ls:List PN}{ρ:Rho}{q:D}
def isStr (d:D):Prop:=∃s:Int,d=.int s/\1<=s/\s<Jm
theorem QqJ (rf:Rc h w F)(ok:okL F)(hp:inR h w p):atL F p<Jm:=by
 have hl:p.1.toNat<F.length:=by rw[rf.hi];have:=hp.1;have:=hp.2.1;lia
 have e:F.getD p.1.toNat []=F[p.1.toNat]:=by rw[z09,z05 hl];rfl
 have hm:F.getD p.1.toNat []∈F:=by rw[e];exact z97 hl
 have hr:=rf.wi _ hm
 have hk:p.2.toNat<(F.getD p.1.toNat []).length:=by rw[hr];have:=hp.2.2.1;have:=hp.2.2.2;lia
 refine(ok _ hm _ ?_).2
 unfold atL;rw[z09 (l:=F.getD p.1.toNat []),z05 hk];exact z97 hk
theorem QjI (rf:Rc h w F)(ok:okL F):Nn h w F:=fun p hp=>by
 have hl:p.1.toNat<F.length:=by rw[rf.hi];have:=hp.1;have:=hp.2.1;lia
 have e:F.getD p.1.toNat []=F[p.1.toNat]:=by rw[z09,z05 hl];rfl
 have hm:F.getD p.1.toNat []∈F:=by rw[e];exact z97 hl
 have hr:=rf.wi _ hm
 have hk:p.2.toNat<(F.getD p.1.toNat []).length:=by rw[hr];have:=hp.2.2.1;have:=hp.2.2.2;lia
 refine(ok _ hm _ ?_).1
 unfold atL;rw[z09 (l:=F.getD p.1.toNat []),z05 hk];exact z97 hk
theorem QkA (rf:Rc h w F)(h1:1<=h)(hh:h<=30)(w1:1<=w)(hw:w<=30)(hq:Pot q):FW (J8 z [q,rD F]) (spP isStr):=QK (by
 dsimp only[J7]
 have big:(100:Int)<Jm:=by decide
 simp? only[]
 refine Jo (p:=q) (P:=spT 4) rfl (QA hq @3 @3) fun _ _ ⟨r1,p1,e1,e2,hp1,g0,g1⟩=>⟨p1,e2,?_⟩;subst e1
 simp? only[]
 refine Qaz (fun hc=>?_) (fun hc=>?_)
 ·simp? only[]
  refine Jo (p:=p1) (P:=spT 9) rfl (QA hp1 @3 @3) fun _ _ ⟨r2,p2,e1,e2,hp2,g2,g3⟩=>⟨p2,e2,?_⟩;subst e1
  simp? only[]
  exact⟨_,_,rfl,rfl,_,rfl,hp2,_,rfl,by lia,by lia⟩
 simp? only[]
 refine Qaz (fun hc=>?_) (fun hc=>?_)
 ·simp? only[]
  refine Jo (p:=p1) (P:=spT 40) rfl (QA hp1 @3 @3) fun _ _ ⟨r2,p2,e1,e2,hp2,g2,g3⟩=>⟨p2,e2,?_⟩;subst e1
  simp? only[]
  exact⟨_,_,rfl,rfl,_,rfl,hp2,_,rfl,by lia,by lia⟩
 simp? only[]
 refine Qaz (fun hc=>?_) (fun hc=>?_)
 ·simp? only[]
  refine Qjo (p:=p1) (P:=spP Qd3) rfl (Qkv hp1) fun d _ ⟨p2,e2,hp2,r2,e1,k0,k1⟩=>⟨p2,e2,?_⟩;subst e1
  simp? only[]
  refine⟨_,_,rfl,rfl,_,rfl,hp2,_,rfl,?_⟩
  constructor<;>split<;>lia
 have g1:QaT [rD F]=some (.int h):=by show some (D.int ((F.map rwI).length:Nat))=_;rw[z00,rf.hi]
 simp? only[g1]
 refine Jo (p:=p1) (P:=spT h) rfl (QA hp1 @1 @1) fun _ _ ⟨r2,p2,e1,e2,hp2,g2,g3⟩=>⟨p2,e2,?_⟩;subst e1
 have er:=rf.row g2 g3
 have g4:QaT [rwI (F.getD r2.toNat [])]=some (.int w):=by show some (D.int (((F.getD r2.toNat []).map D.int).length:Nat))=_;rw[z00,er]
 have c3:CPow 10 60:=⟨by decide,by decide,by decide⟩
 have e60:(10:Int) ^ 60=Jm:=rfl
 simp? only[Qa9 rf g2 g3,c3,e60,g4]
 refine Jo (p:=p2) (P:=spT w) rfl (QA hp2 @1 @1) fun _ _ ⟨r3,p3,e1,e2,hp3,g5,g6⟩=>⟨p3,e2,?_⟩;subst e1
 simp? only[QoB (l:=F.getD r2.toNat []) g5 (by rw[er];exact g6)]
 refine Jo (p:=p3) (P:=spT 3) rfl (QA hp3 @1 @1) fun _ _ ⟨r4,p4,e1,e2,hp4,g7,g8⟩=>⟨p4,e2,?_⟩;subst e1
 simp? only[]
 refine⟨_,_,rfl,rfl,_,rfl,hp4,_,rfl,?_⟩
 generalize (F.getD r2.toNat []).getD r3.toNat 0=x
 constructor
 ·split
  ·split<;>lia
  ·lia
 ·split
  ·split at *<;>lia
  ·lia)
def QqK (h w:Nat)(F:List @17)(d:D)(os:List D):Prop:=∃ls q,os=[q]/\d=.lst (ls.map pnD)/\Lmp h w F ls
theorem QjJ (rf:Rc h w F)(ok:okL F)(h1:1<=h)(hh:h<=30)(w1:1<=w)(hw:w<=30)(hq:Pot q):FW (QbD z [q,rD F,.int 5]) (QqK h w F):=QK (by
 dsimp only[Vw]
 have nf:=QjI rf ok
 have gh:QaT [rD F]=some (.int h):=by show some (D.int ((F.map rwI).length:Nat))=_;rw[z00,rf.hi]
 have er:=rf.row (i:=0) @3 @1
 simp only[z94] at er
 have gw:QaT [rwI (F.getD 0 [])]=some (.int w):=by show some (D.int (((F.getD 0 []).map D.int).length:Nat))=_;rw[z00,er]
 have ix0:=Qa9 rf (i:=0) @3 @1
 simp only[z94] at ix0
 simp? only[]
 refine Jo (p:=q) (P:=spT 6) rfl (QA hq @3 @3) fun _ _ ⟨n,q1,e1,e2,hq1,n0,n1⟩=>⟨q1,e2,?_⟩;subst e1
 have b1:(-4611686018427387904:Int)<=n/\(n:Int)<4611686018427387904:=by lia
 simp? only[b1,and_self]
 refine Qa5 (fun i ρ=>∃ls q s4 s5 s6,Pot q/\Lmp h w F ls/\ls.length<=i/\frO s4/\frO s5/\frO s6/\ρ=[some (.par q),~~~(rD F),~~~(.int 5),some (.own @10),s4,s5,s6]) ⟨[],q1,none,none,none,hq1,⟨(fun _ h=>nomatch h),(fun _ h=>nomatch h),za2,by decide⟩,by decide,.inl rfl,.inl rfl,.inl rfl,rfl⟩ ?_ ?_
 ·rintro i d ρ hd ⟨ls,q,s4,s5,s6,hq,hl,hln,h4,h5,h6,rfl⟩
  have hi6:i<6:=by
   have:=(z28.mp hd).1
   rw[z00,z92] at this
   lia
  refine⟨[some (.par q),~~~(rD F),~~~(.int 5),some (.own @10),~~~d,s5,s6],?_,?_⟩
  ·rcases h4 with rfl|⟨_,rfl⟩<;>rfl
  refine JO (fun ρ=>∃q p,Pot q/\inR h w p/\ρ=[some (.par q),~~~(rD F),~~~(.int 5),some (.own @10),~~~d,~~~(pl p),s6]) ?_ ?_
  ·simp? only[gh]
   refine Jo (p:=q) (P:=spT h) rfl (QA hq @1 @1) fun _ _ ⟨r1,q1,e1,e2,hq1,g0,g1⟩=>⟨q1,e2,?_⟩;subst e1
   simp? only[ix0,gw]
   refine Jo (p:=q1) (P:=spT w) rfl (QA hq1 @1 @1) fun _ _ ⟨r2,q2,e1,e2,hq2,g2,g3⟩=>⟨q2,e2,?_⟩;subst e1
   rcases h5 with rfl|⟨_,rfl⟩<;>simp? only[]<;>exact⟨trivial,q2,(r1,r2),hq2,⟨g0,g1,g2,g3⟩,rfl⟩
  rintro ρ ⟨q,p,hq,ip,rfl⟩
  refine JO (fun ρ=>∃q s,Pot q/\1<=s/\s<Jm/\ρ=[some (.par q),~~~(rD F),~~~(.int 5),some (.own @10),~~~d,~~~(pl p),~~~(.int s)]) ?_ ?_
  ·simp? only[]
   refine Jo (p:=q) (P:=spP isStr) rfl (QkA rf h1 hh w1 hw hq) fun _ _ ⟨q1,e2,hq1,s,e1,k0,k1⟩=>⟨q1,e2,?_⟩;subst e1
   rcases h6 with rfl|⟨_,rfl⟩<;>simp? only[]<;>exact⟨trivial,q1,s,hq1,k0,k1,rfl⟩
  rintro ρ ⟨q,s,hq,s0,s1,rfl⟩
  refine Qh.mpr ⟨(decide (atL F p > 0/\p∉ls.map (·.1)),[some (.par q),~~~(rD F),~~~(.int 5),some (.own @10),~~~d,~~~(pl p),~~~(.int s)]),Yy.mp ?_,?_⟩
  ·simp? only[pl,Qa9 rf ip.1 ip.2.1,QeH rf ip]
   by_cases c:atL F p > 0
   ·simp? only[c,QlY (Qco ls),true_and]
    refine Qa6 (g:=Qmv) (di:=[]) (ρb:=[none]) (os:=[]) rfl rfl ?_ (by rw[z34,z00];have:=hl.ln;lia) rfl rfl ?_
    ·intro d hd
     obtain⟨x,hx,rfl⟩:=z31.mp hd
     exact⟨[~~~(pnD x)],rfl,rfl,rfl⟩
    ·have e5:(ls.map pnD).map (Qmv)=(ls.map (·.1)).map pl:=by
      rw[z43,z43];rfl
     rw[e5]
     have e6:=Qkg (q:=p) (U:=ls.map (·.1))
     have e7:gNi (D.tup [.int p.1,.int p.2]) (.lst ((ls.map (·.1)).map pl))=some (.bl (!decide (p∈ls.map (·.1)))):=e6
     simp? only[e7]
     simp
   ·simp? only[c,false_and]
  ·dsimp only
   by_cases c:atL F p > 0/\p∉ls.map (·.1)
   ·rw[decide_eq_true c,if_pos rfl]
    have hz:(ls.map pnD).length<16777216:=by rw[z00];have:=hl.ln;lia
    have im:D.imm (pl p)=true:=rfl
    simp? only[im,hz]
    refine⟨trivial,ls++[(p,s)],q,~~~d,~~~(pl p),~~~(.int s),hq,⟨fun x hx=>?_,fun x hx=>?_,?_,?_⟩,?_,.inr ⟨_,rfl⟩,.inr ⟨_,rfl⟩,.inr ⟨_,rfl⟩,?_⟩
    ·rcases z14.mp hx with hx|hx
     ·exact hl.ok x hx
     ·rw[z38.mp hx]
      unfold okN
      simp[ip]
      lia
    ·rcases z14.mp hx with hx|hx
     ·exact hl.st x hx
     ·rw[z38.mp hx];exact⟨s0,s1⟩
    ·rw[z73]
     refine z17.mpr ⟨hl.nd,z60.mpr ⟨zc3,za2⟩,fun a ha b hb e=>?_⟩
     subst e
     rw[z38.mp hb] at ha
     exact c.2 ha
    ·rw[z49];simp;lia
    ·rw[z49];simp;lia
    ·rw[z73];rfl
   ·rw[decide_eq_false c,if_neg @3]
    exact JK.mpr ⟨rfl,ls,q,_,_,_,hq,hl,by lia,.inr ⟨_,rfl⟩,.inr ⟨_,rfl⟩,.inr ⟨_,rfl⟩,rfl⟩
 ·rintro ρ ⟨ls,q,s4,s5,s6,hq,hl,hln,h4,h5,h6,rfl⟩
  simp? only[]
  refine⟨_,[q],rfl,?_,ls,q,rfl,rfl,hl⟩
  rcases h4 with rfl|⟨_,rfl⟩<;>rcases h5 with rfl|⟨_,rfl⟩<;>rcases h6 with rfl|⟨_,rfl⟩<;>rfl)
theorem QgK (rf:Rc h w F)(nf:Nn h w F)(h1:1<=h):QaI z [rD F,.int p.1,.int p.2]=.ok (.lst ((nbL h w F p).map pl)) []:=QS (QK (by
 dsimp only[YV]
 have gh:QaT [rD F]=some (.int h):=by show some (D.int ((F.map rwI).length:Nat))=_;rw[z00,rf.hi]
 have er:=rf.row (i:=0) @3 @1
 simp only[z94] at er
 have gw:QaT [rwI (F.getD 0 [])]=some (.int w):=by show some (D.int (((F.getD 0 []).map D.int).length:Nat))=_;rw[z00,er]
 have ix0:=Qa9 rf (i:=0) @3 @1
 simp only[z94] at ix0
 simp? only[]
 refine Qa5 (ds:=(arL p).map pl) (fun i ρ=>∃s t,frO s/\frO t/\ρ=[~~~(rD F),~~~(.int p.1),~~~(.int p.2),some (.own (.lst ((((arL p).take i).filter (okN h w F)).map pl))),s,t]) ⟨none,none,.inl rfl,.inl rfl,rfl⟩ ?_ ?_
 ·rintro i d ρ hd ⟨s,t,hs,ht,rfl⟩
  rw[z29] at hd
  obtain⟨v,hv,rfl⟩:=z03.mp hd
  have et:(arL p).take (i+1)=(arL p).take i++[v]:=by rw[zg2,hv];rfl
  refine⟨[~~~(rD F),~~~(.int p.1),~~~(.int p.2),some (.own (.lst ((((arL p).take i).filter (okN h w F)).map pl))),~~~(.int v.1),~~~(.int v.2)],?_,?_⟩
  ·rcases hs with rfl|⟨_,rfl⟩<;>rcases ht with rfl|⟨_,rfl⟩<;>rfl
  rw[et,List.filter_append]
  refine Qh.mpr ⟨(okN h w F v,[~~~(rD F),~~~(.int p.1),~~~(.int p.2),some (.own (.lst ((((arL p).take i).filter (okN h w F)).map pl))),~~~(.int v.1),~~~(.int v.2)]),Yy.mp ?_,?_⟩
  ·by_cases c1:0<=v.1
   ·by_cases c2:v.1<h
    ·by_cases c3:0<=v.2
     ·by_cases c4:v.2<w
      ·have iv:inR h w v:=⟨c1,c2,c3,c4⟩
       simp? only[gh,ix0,gw,c1,c2,c3,c4,Qa9 rf c1 c2,QeH rf iv]
       have:=nf v iv
       unfold okN
       by_cases q:atL F v=0
       ·simp[iv,q]
       ·have q2:0<atL F v:=by lia
        simp[iv,q,q2]
      ·have iv:¬ inR h w v:=fun q=>c4 q.2.2.2
       simp? only[gh,ix0,gw,c1,c2,c3,c4]
       simp[okN,iv]
     ·have iv:¬ inR h w v:=fun q=>c3 q.2.2.1
      simp? only[gh,c1,c2,c3]
      simp[okN,iv]
    ·have iv:¬ inR h w v:=fun q=>c2 q.2.1
     simp? only[gh,c1,c2]
     simp[okN,iv]
   ·have iv:¬ inR h w v:=fun q=>c1 q.1
    simp? only[c1]
    simp[okN,iv]
  ·dsimp only
   cases c:okN h w F v with
   |true=>
    rw[if_pos rfl]
    have hz:((((arL p).take i).filter (okN h w F)).map pl).length<16777216:=by
     rw[z00]
     have a:=z70 (okN h w F) ((arL p).take i)
     have b:=List.length_take_le i (arL p)
     have c:(arL p).length=4:=rfl
     have d:=List.length_take_le' i (arL p)
     lia
    simp? only[hz]
    refine⟨trivial,~~~(.int v.1),~~~(.int v.2),.inr ⟨_,rfl⟩,.inr ⟨_,rfl⟩,?_⟩
    rw[z54,if_pos c,z73]
    rfl
   |false=>
    rw[if_neg @3]
    refine JK.mpr ⟨rfl,~~~(.int v.1),~~~(.int v.2),.inr ⟨_,rfl⟩,.inr ⟨_,rfl⟩,?_⟩
    rw[z54,if_neg (by rw[c];decide),List.filter_nil,z71]
 ·rintro ρ ⟨s,t,hs,ht,rfl⟩
  simp? only[]
  refine⟨_,[],rfl,?_,rfl,rfl⟩
  rcases hs with rfl|⟨_,rfl⟩<;>rcases ht with rfl|⟨_,rfl⟩<;>rfl))
end
variable {z:Z}
section
variable {h w:Nat}{F L:List @17}{l:List Int}{n:Int}
theorem QiF:∀(L:List @17),D.QI (L.map tuI)=true
 | []=>rfl
 |l::L=>by
  show(D.imm (tuI l) && D.QI (L.map tuI))=true
  rw[QiF L,zt6]
  exact JP l
theorem QiG {L:List @17}:(flD z L).imm=true:=by
 show(D.imm (tuD L) && true)=true
 rw[zt6]
 exact QiF L
theorem Qgj {L:List @17}:(QgH z.Qj (flD z L) && (flD z L).imm)=true:=by
 have a:QgH z.Qj (flD z L)=true:=by show(decide (z.Qj=z.Qj) && _)=true;simp
 rw[a,QiG];rfl
theorem QiH (r:Rc h w F)(hh:h<=30):Qbv z [flD z F]=.ok (rD F) []:=QS (QK (by
 dsimp only[Vn]
 have e3:siK (tuD F,[~~~(flD z F)])=.ok (F.map tuI,[~~~(flD z F)]):=rfl
 simp? only[Qdw,e3]
 refine Qa6 (g:=t2l) (di:=[]) (ρb:=[none]) (os:=[]) rfl rfl ?_ (by rw[z34,z00,r.hi];lia) rfl rfl ?_
 ·intro d hd
  obtain⟨l,hl,rfl⟩:=z31.mp hd
  have e6:liK ([tuI l],[~~~(tuI l)])=.ok (rwI l,[~~~(tuI l)]):=by
   show(if D.QI (l.map D.int)=true then _ else _)=_
   rw[if_pos (JP l)];rfl
  refine⟨[~~~(tuI l)],rfl,Yy.mp ?_,rfl⟩
  simp? only[e6]
  rfl
 ·simp? only[]
  refine⟨_,_,rfl,rfl,?_,rfl⟩
  show D.lst _=D.lst _
  rw[z43];rfl))
theorem QiI {x y:Str}:gEq (.str x) (.str y)=some (.bl (decide (x=y))):=by
 show(eqS (.str x) (.str y)).map D.bl=_
 unfold eqS
 rw[if_pos (by rfl)]
 show some _=some _
 congr 2
 by_cases h:x=y<;>simp[h]
theorem QiJ {ds:List D}:Qpe [.lst (ds.map fun _=>.bl true)]=some (.bl true):=by
 have e:ds.map (fun _=>D.bl true)=(ds.map fun _=>true).map .bl:=by rw[z43];rfl
 rw[e,Qli]
 simp
theorem QjK {s:Str}(h:s.length<=16777216):QaT [.str s]=some (.int s.length):=by
 show(if s.length<=z18 then _ else _)=_
 rw[z34,if_pos h]
theorem QiK (s:Str):(signs s).length=s.length:=by unfold signs;rw[z00,z47];rfl
theorem Qmf:∀{ns:List Int},gIn .non (.lst (ns.map .int))=some (.bl false):=fun{ns}=>by
 have e:inL (eqb 30) .non (ns.map .int)=some false:=by
  induction ns with
  |nil=>rfl
  |cons n ns ih=>
   rw[z33,inL,ih]
   rfl
 show(inL (eqb 30) .non (ns.map .int)).map _=_
 rw[e];rfl
theorem Qdx {sep:Str}{ys:List Str}(h:JoinOk sep ys=true):Qlm sep [.lst (ys.map D.str)]=some (.str (ze7 sep ys)):=by
 have e:Qll (ys.map D.str)=some ys:=by
  clear h
  induction ys with
  |nil=>rfl
  |cons y ys ih=>rw[z33,Qll,ih];rfl
 show(Qll (ys.map D.str)).bind _=_
 rw[e]
 exact if_pos h
theorem QkB:(" " : Str)=⟨#[32]⟩:=by decide +kernel
theorem QoX:("\n" : Str)=⟨#[10]⟩:=by decide +kernel
theorem QoY (h0:0<=n)(h1:n<Jm):n.natAbs.log2<1920:=by
 refine PySem.Spec.log2_small (z41 (m:=10 ^ 60) ?_ (by decide +kernel))
 have:(10:Nat) ^ 60=1000000000000000000000000000000000000000000000000000000000000:=by decide
 have e:(Jm:Int)=1000000000000000000000000000000000000000000000000000000000000:=by decide
 lia
theorem Qmg (h0:0<=n)(h1:n<Jm):Qbx z [.int n]=.ok (.str (wordOf n)) []:=QS (QK (by
 dsimp only[Vr]
 have lg:=QoY h0 h1
 by_cases c0:n=0
 ·subst c0
  simp? only[]
  exact⟨_,_,rfl,rfl,rfl,rfl⟩
 by_cases c1:n=1
 ·subst c1
  simp? only[]
  exact⟨_,_,rfl,rfl,rfl,rfl⟩
 simp? only[QiS,VN,asS,Yr,VP,VO,JL,QgM,QgL,c0,c1,lg]
 refine⟨_,_,rfl,rfl,?_,rfl⟩
 unfold wordOf
 rw[if_neg c0,if_neg c1];rfl))
def okR (l:List Int):Prop:=∀x∈l,0<=x/\x<Jm
def QbR (l:List Int):Str:=ze7 " " (l.map wordOf)
def flS (F:List @17):Str:=ze7 "\n" (F.map QbR)
def intD:D->Int
 |.int i=>i
 |_=>0
theorem Qd6:∀l:List Int,(l.map D.int).map intD=l
 | []=>rfl
 |x::l=>by rw[z33,z33,Qd6 l];rfl
theorem QqL (ok:okR l)(hl:l.length<=30):QcH z [rwI l]=.ok (.str (QbR l)) []:=QS (QK (by
 dsimp only[Qaf]
 have e3:∀ρ,siK (rwI l,ρ)=.ok (l.map D.int,ρ):=fun _=>rfl
 simp? only[QiS,VN,asS,Yr,VP,VO,JL,QgM,QgL,e3]
 refine Qa6 (g:=fun d=>.str (wordOf (intD d))) (di:=[]) (ρb:=[none]) (os:=[]) rfl rfl ?_ (by rw[z34,z00];lia) rfl rfl ?_
 ·intro d hd
  obtain⟨x,hx,rfl⟩:=z31.mp hd
  refine⟨[~~~(.int x)],rfl,Yy.mp ?_,rfl⟩
  simp? only[QF (Qmg (z:=z) (ok x hx).1 (ok x hx).2),true_and]
  rfl
 ·have e7:(l.map D.int).map (fun d=>D.str (wordOf (intD d)))=(l.map wordOf).map D.str:=by rw[z43,z43];rfl
  rw[e7]
  simp? only[QiS,VN,asS,Yr,VP,VO,JL,QgM,QgL,Qdx (QjW (sep := " ") (B:=60) (fun y hy=>by obtain⟨x,hx,rfl⟩:=z31.mp hy;exact Qfx (ok x hx).1 (ok x hx).2) (by decide +kernel) (by rw[z00];lia))]
  exact⟨_,_,rfl,rfl,rfl,rfl⟩))
theorem Qd7 (ok:okR l)(hl:l.length<=30):(QbR l).length<=1830:=by
 have:=Qfw (sep := " ") (ws:=l.map wordOf) (B:=60) (fun y hy=>by obtain⟨x,hx,rfl⟩:=z31.mp hy;exact Qfx (ok x hx).1 (ok x hx).2) (by decide +kernel)
 rw[z00] at this
 unfold QbR
 lia
theorem Qmh (rf:Rc h w F)(ok:okL F)(hh:h<=30)(hw:w<=30):QaL z [flD z F]=.ok (.str (flS F)) []:=QS (QK (by
 dsimp only[YX]
 have i1:=Jk (z:=z) (F:=F) (nm := "rows") @3
 have e3:∀ρ,siK (rD F,ρ)=.ok (F.map rwI,ρ):=fun _=>rfl
 simp? only[QiS,VN,asS,Yr,VP,VO,JL,QgM,QgL,i1,QcY (QiH rf hh),e3]
 refine Qa6 (g:=fun d=>match d with|.nd _ xs=>.str (QbR (xs.map intD))|d=>d) (di:=[]) (ρb:=[none]) (os:=[]) rfl rfl ?_ (by rw[z34,z00,rf.hi];lia) rfl rfl ?_
 ·intro d hd
  obtain⟨l,hl,rfl⟩:=z31.mp hd
  have e4:=Qd6 l
  refine⟨[~~~(rwI l)],rfl,Yy.mp ?_,rfl⟩
  simp? only[QF (QqL (z:=z) (ok l hl) (by rw[rf.wi l hl];exact hw)),true_and]
  show _=(D.str (QbR ((l.map D.int).map intD)),_)
  rw[e4]
 ·have e7:(F.map rwI).map (fun d=>match d with|.nd _ xs=>D.str (QbR (xs.map intD))|d=>d)=(F.map QbR).map D.str:=by
   rw[z43,z43]
   refine zb9 fun l _=>?_
   show D.str (QbR ((l.map D.int).map intD))=_
   rw[Qd6];rfl
  rw[e7]
  simp? only[QiS,VN,asS,Yr,VP,VO,JL,QgM,QgL,Qdx (QjW (sep := "\n") (B:=1830) (fun y hy=>by obtain⟨l,hl,rfl⟩:=z31.mp hy;exact Qd7 (ok l hl) (by rw[rf.wi l hl];exact hw)) (by decide +kernel) (by rw[z00,rf.hi];lia))]
  exact⟨_,_,rfl,rfl,rfl,rfl⟩))
theorem QjL {m:Nat}(h:(m:Int)<Jm):QaF z [.str (Qbk m),.int 60]=.ok (.int m) []:=QS (QK (by
 dsimp only[YT]
 obtain⟨hl0,hl⟩:=QdE (m:=m) (k:=60) @3 h
 have l1:(1:Int)<=((Qbk m).length:Int):=by lia
 have l2:((Qbk m).length:Int)<=60:=by lia
 have l3:(Qbk m).length<=640:=by lia
 have rd:intText? (Qbk (m:Int))=some (m:Int):=QaX h
 refine Ws [~~~(.str (Qbk m)),~~~(.int 60)] ?_ ?_
 ·simp? only[QiS,VN,asS,Yr,VP,VO,JL,QgM,QgL,QjK (s:=Qbk m) @1,l1,l2]
  refine Qa6 (ρb:=[none]) (di:=[]) (os:=[]) (g:=fun _=>.bl true) rfl rfl (fun d hd=>?_) (by rw[z34,QiK];lia) rfl rfl ?_
  ·refine⟨[~~~d],rfl,?_,rfl⟩
   obtain⟨c,hc,rfl⟩:=z31.mp hd
   have hh:Qq6 ⟨#[c]⟩ "0123456789" = true:=QmE (QdD c hc)
   refine Yy.mp ?_
   simp? only[Qqe,hh,id]
  ·simp? only[QiJ]
   exact⟨trivial,trivial⟩
 by_cases h0:0<m
 ·simp? only[QiS,VN,asS,Yr,VP,VO,JL,QgM,QgL,QgW h0,rd,l3]
  exact⟨_,[],rfl,rfl,rfl,rfl⟩
 ·have hm:m=0:=by lia
  subst hm
  have e0:Qbk ((0:Nat):Int) = "0" := by decide +kernel
  have rd0:intText? "0" = some 0:=by rw[← e0];exact rd
  have l0:("0" : Str).length<=640:=by rw[← e0];exact l3
  rw[e0]
  have s0:Txt.startswith ("0" : Str) "0" = true:=by decide +kernel
  simp? only[QiS,VN,asS,Yr,VP,VO,JL,QgM,QgL,s0,QdS (d:=.str "0") rfl,rd0,l0]
  exact⟨_,[],rfl,rfl,rfl,rfl⟩))
theorem QkC (h0:0<=n)(h1:n<Jm):J6 z [.str (wordOf n)]=.ok (.int n) []:=QS (QK (by
 dsimp only[Qag]
 by_cases c0:n=0
 ·subst c0
  have e:wordOf 0 = "#" := rfl
  rw[e]
  simp? only[QdR (d:=.str "#") rfl]
  exact⟨_,_,rfl,rfl,rfl,rfl⟩
 by_cases c1:n=1
 ·subst c1
  have e:wordOf 1 = "." := rfl
  have e1:gEq (.str ".") (.str "#")=some (.bl false):=by rw[QiI,show decide (("." : Str) = "#")=false from by decide +kernel]
  rw[e]
  simp? only[e1,QdR (d:=.str ".") rfl]
  exact⟨_,_,rfl,rfl,rfl,rfl⟩
 obtain⟨m,rfl,h2⟩:=QjX h0 c0 c1
 have e:wordOf (m:Int)=Qbk m:=by unfold wordOf;rw[if_neg c0,if_neg c1]
 have l2:¬ (m:Int)<2:=by lia
 have g3:Qph id (.int (m:Int)) .non=some (.bl false):=rfl
 rw[e]
 simp? only[QiI,QgZ h1,Qi1 h1,QF (QjL (z:=z) h1),true_and,g3,l2]
 exact⟨_,_,rfl,rfl,rfl,rfl⟩))
end
variable {z:Z}
section
variable {h w:Nat}{F:List @17}{p:Int×Int}{l:List Int}{n:Int}
def outD:Fr->D
 |.ok d _=>d
 |_=>.non
theorem Qmi {d:D}{os:List D}:outD (.ok d os)=d:=rfl
theorem QqM (ok:okR l)(h1:1<=l.length)(hl:l.length<=30):Qdu z [.str (QbR l)]=.ok (rwI l) []:=QS (QK (by
 dsimp only[Qbj]
 have e1:Txt.split (QbR l) " " = l.map wordOf:=by
  unfold QbR
  rw[QkB]
  refine Qc2 (fun e=>?_) (fun y hy=>?_)
  ·rw[zw5] at e
   subst e
   exact absurd h1 @3
  ·obtain⟨x,hx,rfl⟩:=z31.mp hy
   exact QgY (ok x hx).1 (.inr rfl)
 have e2:∀ρ,spK (QbR l) ([.str " "],ρ)=.ok (.lst ((l.map wordOf).map D.str),ρ):=fun _=>Qkh e1 (by decide +kernel) (by rw[z34];have:=Qd7 ok hl;lia) (by rw[z34,z00];lia)
 have g1:QaT [rwI l]=some (.int l.length):=by show some (D.int ((l.map D.int).length:Nat))=_;rw[z00]
 have c1:¬ ((l.length:Int) > 30):=by lia
 refine Ws [~~~(.str (QbR l)),some (.own (rwI l))] ?_ ?_
 ·simp? only[QiS,VN,asS,Yr,VP,VO,JL,QgM,QgL,e2]
  refine Qa6 (g:=fun d=>outD (J6 z [d])) (di:=[]) (ρb:=[none]) (os:=[]) rfl rfl ?_ (by rw[z34,z00,z00];lia) rfl rfl ?_
  ·intro d hd
   obtain⟨s,hs,rfl⟩:=z31.mp hd
   obtain⟨x,hx,rfl⟩:=z31.mp hs
   have e:=QkC (z:=z) (ok x hx).1 (ok x hx).2
   refine⟨[~~~(.str (wordOf x))],rfl,Yy.mp ?_,rfl⟩
   simp? only[QF e,true_and,e,Qmi]
  ·have e7:((l.map wordOf).map D.str).map (fun d=>outD (J6 z [d]))=l.map D.int:=by
    rw[z43,z43]
    refine zb9 fun x hx=>?_
    show outD (J6 z [.str (wordOf x)])=_
    rw[QkC (ok x hx).1 (ok x hx).2];rfl
   rw[e7]
   simp? only[]
   exact⟨trivial,rfl⟩
 have g2:=Qmf (ns:=l)
 have g3:gIn .non (rwI l)=some (.bl false):=g2
 simp? only[g1,c1,g3]
 exact⟨_,_,rfl,rfl,rfl,rfl⟩))
theorem Qmj (rf:Rc h w F)(ok:okL F)(h1:1<=h)(hh:h<=30)(w1:1<=w)(hw:w<=30):QbM z [.str (flS F)]=.ok (flD z F) []:=QS (QK (by
 dsimp only[Vz]
 have rl:∀l∈F,1<=l.length/\l.length<=30:=fun l hl=>by rw[rf.wi l hl];exact⟨w1,hw⟩
 have e1:Txt.split (flS F) "\n" = F.map QbR:=by
  unfold flS
  rw[QoX]
  refine Qc2 (fun e=>?_) (fun y hy=>?_)
  ·rw[zw5] at e
   have:=rf.hi
   rw[e] at this
   simp at this
   lia
  ·obtain⟨l,hl,rfl⟩:=z31.mp hy
   unfold QbR
   rw[QkB]
   refine Qfv (fun y hy=>?_) @3
   obtain⟨x,hx,rfl⟩:=z31.mp hy
   exact QgY (ok l hl x hx).1 (.inl rfl)
 have fl:(flS F).length<=60000:=by
  have:=Qfw (sep := "\n") (ws:=F.map QbR) (B:=1830) (fun y hy=>by obtain⟨l,hl,rfl⟩:=z31.mp hy;exact Qd7 (ok l hl) (rl l hl).2) (by decide +kernel)
  rw[z00,rf.hi] at this
  unfold flS
  lia
 have e2:∀ρ,spK (flS F) ([.str "\n"],ρ)=.ok (.lst ((F.map QbR).map D.str),ρ):=fun _=>Qkh e1 (by decide +kernel) (by rw[z34];lia) (by rw[z34,z00,rf.hi];lia)
 refine Ws [~~~(.str (flS F)),some (.own (rD [])),none,none,none] ?_ ?_
 ·simp? only[]
  exact⟨trivial,rfl⟩
 refine JO (fun ρ=>∃s t,frO s/\frO t/\ρ=[~~~(.str (flS F)),some (.own (rD F)),s,t,none]) ?_ ?_
 ·simp? only[QiS,VN,asS,Yr,VP,VO,JL,QgM,QgL,e2,Qh0]
  refine Qa5 (fun i ρ=>∃s t,frO s/\frO t/\ρ=[~~~(.str (flS F)),some (.own (rD (F.take i))),s,t,none]) ⟨none,none,.inl rfl,.inl rfl,rfl⟩ ?_ ?_
  ·rintro i d ρ hd ⟨s,t,hs,ht,rfl⟩
   have hd':∃l,F[i]? = some l/\d=.tup [.int i,.str (QbR l)]:=by
    unfold Vf at hd
    rw[z29,zm0,z29,z29] at hd
    cases q:F[i]? with
    |none=>rw[q] at hd;cases hd
    |some l=>
     rw[q] at hd
     simp at hd
     exact⟨l,rfl,hd.symm⟩
   obtain⟨l,hx,rfl⟩:=hd'
   have hl:=z42 hx
   have hi:i<h:=by have:=(z28.mp hx).1;rw[rf.hi] at this;exact this
   have et:F.take (i+1)=F.take i++[l]:=by rw[zg2,hx];rfl
   refine⟨[~~~(.str (flS F)),some (.own (rD (F.take i))),~~~(.int i),~~~(.str (QbR l)),none],?_,?_⟩
   ·rcases hs with rfl|⟨_,rfl⟩<;>rcases ht with rfl|⟨_,rfl⟩<;>rfl
   refine Ws [~~~(.str (flS F)),some (.own (rD (F.take i))),~~~(.int i),~~~(.str (QbR l)),some (.own (rwI l))] ?_ ?_
   ·simp? only[QcY (QqM (z:=z) (ok l hl) (rl l hl).1 (rl l hl).2)]
    exact⟨trivial,trivial⟩
   refine Ws [~~~(.str (flS F)),some (.own (rD (F.take i))),~~~(.int i),~~~(.str (QbR l)),some (.own (rwI l))] ?_ ?_
   ·have c1:¬ ((i:Int)=30):=by lia
    have c2:Qph id (rwI l) .non=some (.bl false):=rfl
    simp? only[c1,c2,and_self]
   refine Ws [~~~(.str (flS F)),some (.own (rD (F.take i))),~~~(.int i),~~~(.str (QbR l)),some (.own (rwI l))] ?_ ?_
   ·by_cases c:(i:Int) > 0
    ·have g1:QaT [rwI l]=some (.int w):=by show some (D.int ((l.map D.int).length:Nat))=_;rw[z00,rf.wi l hl]
     obtain⟨l0,L0,e0⟩:∃l0 L0,F=l0::L0:=by
      cases hF:F with
      |nil=>rw[hF] at hl;exact nomatch hl
      |cons a b=>exact⟨a,b,rfl⟩
     have w0:l0.length=w:=rf.wi l0 (by rw[e0];exact z07)
     obtain⟨k,rfl⟩:∃k,i=k+1:=⟨i - 1,by lia⟩
     have g2:gIx (rD (F.take (k+1))) (.int 0)=some (rwI l0):=by
      rw[e0]
      exact Qn3 (i:=0) (.inl rfl) rfl
     have g3:QaT [rwI l0]=some (.int w):=by show some (D.int ((l0.map D.int).length:Nat))=_;rw[z00,w0]
     simp? only[c,g1,g2,g3,ne_eq,not_true_eq_false,and_self]
    ·simp? only[c,and_self]
   have hz:((F.take i).map rwI).length<16777216:=by rw[z00,za7];lia
   unfold rD
   simp? only[hz]
   refine⟨trivial,~~~(.int i),~~~(.str (QbR l)),.inr ⟨_,rfl⟩,.inr ⟨_,rfl⟩,?_⟩
   rw[et,z73]
   rfl
  ·rintro ρ ⟨s,t,hs,ht,rfl⟩
   have e:(Vf ((F.map QbR).map D.str)).length=F.length:=by unfold Vf;rw[z00,zi2,z00,z00]
   rw[e,zk0]
   exact⟨rfl,s,t,hs,ht,rfl⟩
 rintro ρ ⟨s,t,hs,ht,rfl⟩
 have e5:Qmt z.Qj (Jj z) (Q2 (mB 1) QcT) [~~~(.str (flS F)),some (.own (rD F)),s,t,none]=.ok (flD z F,[~~~(.str (flS F)),some (.own (rD F)),s,t,none]):=
  QjC (x:=rD F) (Yy.mp (by simp? only[])) (fun y=>Qfi rf h1 hh w1 hw ok) Qgj
 refine Qh.mpr ⟨_,e5,JK.mpr ⟨_,[],rfl,?_,rfl,rfl⟩⟩
 rcases hs with rfl|⟨_,rfl⟩<;>rcases ht with rfl|⟨_,rfl⟩<;>rfl))
theorem QiL (ok:okL F){x:Int}(h0:0<=x)(h1:x<Jm):okL (Qz F p x):=by
 intro l hl y hy
 unfold Qz at hl
 rcases zi4 hl with hl|rfl
 ·exact ok l hl y hy
 ·rcases zi4 hy with hy|rfl
  ·rw[z09] at hy
   cases e:F[p.1.toNat]? with
   |none=>rw[e] at hy;exact nomatch hy
   |some l=>rw[e] at hy;exact ok l (z42 e) y hy
  ·exact⟨h0,h1⟩
theorem QiM (r:Rc h w F)(hp:inR h w p){x:Int}:(F.map rwI).set p.1.toNat (.lst (((F.getD p.1.toNat []).map D.int).set p.2.toNat (.int x)))=(Qz F p x).map rwI:=by
 unfold Qz
 rw[zp2]
 unfold rwI
 rw[zp2]
theorem QiN (r:Rc h w F)(hp:inR h w p):(F.map rwI)[p.1.toNat]? = some (.lst ((F.getD p.1.toNat []).map D.int)):=by
 have hl:p.1.toNat<F.length:=by rw[r.hi];have:=hp.1;have:=hp.2.1;lia
 rw[z29,z05 hl,z09,z05 hl];rfl
theorem QjM {x:Int}(r:Rc h w F)(ok:okL F)(h1:1<=h)(hh:h<=30)(w1:1<=w)(hw:w<=30)(hp:inR h w p)(x0:0<=x)(x1:x<Jm):YG z [flD z F,pl p,.int x]=.ok (flD z (Qz F p x)) []:=QS (QK (by
 dsimp only[Js]
 have i1:=Jk (z:=z) (F:=F) (nm := "check_place") @3
 have i2:=Jk (z:=z) (F:=F) (nm := "rows") @3
 refine Ws [~~~(flD z F),~~~(pl p),~~~(.int x),none] ?_ ?_
 ·simp? only[i1,QF (Qd5 r h1 hp),true_and]
 refine Ws [~~~(flD z F),~~~(pl p),~~~(.int x),some (.own (rD F))] ?_ ?_
 ·simp? only[i2,QcY (QiH r hh)]
  exact⟨trivial,trivial⟩
 refine Ws [~~~(flD z F),~~~(pl p),~~~(.int x),some (.own (rD (Qz F p x)))] ?_ ?_
 ·refine QaB (par:=false) (ys:=F.map rwI) (xs:=(F.getD p.1.toNat []).map D.int) (d:=.int x) (n:=p.1) (j:=p.2) rfl rfl rfl rfl (Vh hp.1 (by rw[z00,r.hi];exact hp.2.1)) (QiN r hp) (Vh hp.2.2.1 (by rw[z00,r.row hp.1 hp.2.1];exact hp.2.2.2)) ⟨rfl,?_⟩
  rw[QiM r hp];rfl
 have e5:Qmt z.Qj (Jj z) (Q2 (mB 3) QcT) [~~~(flD z F),~~~(pl p),~~~(.int x),some (.own (rD (Qz F p x)))]=.ok (flD z (Qz F p x),[~~~(flD z F),~~~(pl p),~~~(.int x),some (.own (rD (Qz F p x)))]):=
  QjC (x:=rD (Qz F p x)) (Yy.mp (by simp? only[])) (fun y=>Qfi (r.set hp) h1 hh w1 hw (QiL ok x0 x1)) Qgj
 refine Qh.mpr ⟨_,e5,JK.mpr ⟨_,[],rfl,rfl,rfl,rfl⟩⟩))
end
variable {z:Z}
section
variable {h w:Nat}{F N R:List @17}{p u v:Int×Int}{ls ls':List PN}{ρ:Rho}{q:D}
theorem QoZ (k:v∈arL u):u∈arL v:=by
 obtain⟨a,b⟩:=u
 obtain⟨c,d⟩:=v
 simp only[arL,z19,zc3,or_false,zm2] at k ⊢
 rcases k with⟨rfl,rfl⟩|⟨rfl,rfl⟩|⟨rfl,rfl⟩|⟨rfl,rfl⟩
 ·exact .inr (.inr (.inr ⟨(zz0 ..).symm,rfl⟩))
 ·exact .inr (.inr (.inl ⟨rfl,(zz0 ..).symm⟩))
 ·exact .inr (.inl ⟨rfl,(zz1 ..).symm⟩)
 ·exact .inl ⟨(zz1 ..).symm,rfl⟩
theorem QkD (hu:okN h w F u=true)(k:v∈nbL h w F u):u∈nbL h w F v:=z69.mpr ⟨QoZ (z69.mp k).1,hu⟩
theorem Qfn:∀{ls:List PN} {R:List @17},Rc h w R->(∀x∈ls,inR h w x.1)->∀q,inR h w q->atL (ls.foldl lft R) q=atL R q\/∃x∈ls,x.1=q/\atL (ls.foldl lft R) q=x.2
 | [],_,_,_,_,_=>.inl rfl
 |x::ls,R,r,hl,q,hq=>by
  have ix:=hl x z07
  rcases Qfn (ls:=ls) (Qgi r ix) (fun y hy=>hl y (z08 _ hy)) q hq with e|⟨y,hy,e1,e2⟩
  ·rw[QiB r ix hq] at e
   by_cases c:q=x.1
   ·rw[if_pos c] at e
    split at e
    ·left;rw[c];rw[c] at e;exact e
    ·exact .inr ⟨x,z07,c.symm,e⟩
   ·rw[if_neg c] at e;exact .inl e
  ·exact .inr ⟨y,z08 _ hy,e1,e2⟩
theorem max_eq {l:List Int}(h:l≠[]):QlF [rwI l]=some (.int (Qh8 l)):=by
 cases l with
 |nil=>exact absurd rfl h
 |cons x l=>
  show(QfW ((x::l).map D.int)).bind _=_
  rw[VC]
  rfl
theorem Qo0 {q p:Int×Int}:gEq (.nd .tup [.int q.1,.int q.2]) (.nd .tup [.int p.1,.int p.2])=some (.bl (decide (q=p))):=by
 show(eqb 30 (pl q) (pl p)).map _=_
 rw[Qn4 28];rfl
theorem QkE {n i:Nat}{d:D}(h:((z63 n).map fun j=>D.int ((0:Int)+(j:Nat)))[i]? = some d):d=.int i/\i<n:=by
 rw[z29] at h
 obtain⟨a,e,rfl⟩:=z03.mp h
 obtain⟨h1,h2⟩:=z28.mp e
 rw[zx6] at h2
 rw[z92] at h1
 subst h2
 exact⟨by rw[Int.zero_add],h1⟩
def stL (ls:List PN)(p:Int×Int):List Int:=(ls.filter fun x=>decide (x.1=p)).map (·.2)
def QjN (h w:Nat)(F:List @17)(ls:List PN)(N:List @17)(p:Int×Int):List Int:=0::(stL ls p++(nbL h w F p).map fun q=>atL N q - atL F p)
def Qo1 (h w:Nat)(F:List @17)(ls:List PN)(N:List @17)(p:Int×Int):Int:=if atL F p=0 then 0 else Qh8 (QjN h w F ls N p)
theorem Qo2 {x:PN}(hx:x∈ls):x.2∈stL ls x.1:=z31.mpr ⟨x,z69.mpr ⟨hx,by simp⟩,rfl⟩
theorem right_of (hl:Lmp h w F ls)(hm:∀x,x∈ls'↔x∈ls)(s:QqH h w F (nts h w) ls' R)(ip:inR h w p):atL R p=Qo1 h w F ls R p:=by
 have hi:∀x∈ls',inR h w x.1:=fun x hx=>(Q9 (hl.ok x ((hm x).mp hx))).1
 have n0:0<=atL R p:=by
  have a:=Qfl QeS hi p ip
  rw[QiE] at a
  exact z79 a (s.up p ip)
 unfold Qo1
 by_cases c0:atL F p=0
 ·rw[if_pos c0]
  rcases s.so p ip with e|⟨u,hu,hn,_⟩
  ·rcases Qfn QeS hi p ip with e1|⟨x,hx,e1,_⟩
   ·rw[e,e1,QiE]
   ·have:=(Q9 (hl.ok x ((hm x).mp hx))).2
    rw[e1] at this
    exact absurd c0 this
  ·exact absurd c0 (Q9 (QeI hn)).2
 rw[if_neg c0]
 have okp:okN h w F p=true:=by unfold okN;simp[ip,c0]
 obtain⟨b1,b2⟩:=QeD (ns:=QjN h w F ls R p) (by simp[QjN])
 refine zr7 (b2 _ ?_) ?_
 ·unfold QjN
  rcases s.so p ip with e|⟨u,hu,hn,e⟩
  ·rcases Qfn QeS hi p ip with e1|⟨x,hx,e1,e2⟩
   ·rw[e,e1,QiE];exact z07
   ·rw[e,e2,← e1]
    exact z08 _ (z15 _ (Qo2 ((hm x).mp hx)))
  ·rw[e]
   exact z08 _ (z04 _ (z31.mpr ⟨u,QkD hu hn,rfl⟩))
 ·generalize Qh8 (QjN h w F ls R p)=b at b1
  unfold QjN at b1
  rcases z19.mp b1 with e|e
  ·rw[e];exact n0
  ·rcases z14.mp e with e|e
   ·obtain⟨x,hx,e2⟩:=z31.mp e
    obtain⟨hx1,hx2⟩:=z69.mp hx
    have e3:=of_decide_eq_true hx2
    have hx':=(hm x).mpr hx1
    rw[← e2,← e3]
    exact z79 (QeR QeS hi x hx') (s.up x.1 (hi x hx'))
   ·obtain⟨v,hv,rfl⟩:=z31.mp e
    exact s.cl v (QeI hv) p (QkD okp hv)
theorem Qo3 (rf:Rc h w F)(rn:Rc h w N)(nf:Nn h w F)(h1:1<=h)(hp:inR h w p)(ln:ls.length<=10):Qdr z [rD F,.lst (ls.map pnD),rD N,.int p.1,.int p.2]=.ok (.int (Qo1 h w F ls N p)) []:=QS (QK (by
 dsimp only[Qbi]
 unfold Qo1
 have g1:=Qa9 rf hp.1 hp.2.1
 have g2:=QeH rf hp
 by_cases c:atL F p=0
 ·rw[if_pos c]
  simp? only[g1,g2,c]
  exact⟨_,_,rfl,rfl,rfl,rfl⟩
 rw[if_neg c]
 have l1:(stL ls p).length<=10:=by
  unfold stL
  rw[z00]
  have:=z70 (fun x:PN=>decide (x.1=p)) ls
  lia
 have l2:=QjD (h:=h) (w:=w) (F:=F) p
 refine Ws [~~~(rD F),~~~@10,~~~(rD N),~~~(.int p.1),~~~(.int p.2),none] ?_ ?_
 ·simp? only[g1,g2,c,and_self]
 refine Ws [~~~(rD F),~~~@10,~~~(rD N),~~~(.int p.1),~~~(.int p.2),~~~(rwI (0::stL ls p))] ?_ ?_
 ·simp? only[Qff]
  refine Qim (f:=fun d=>decide (pD (Qmv d)=p)) (g:=QqE) (di:=[]) (ρb:=[none,none,~~~(.int p.1),~~~(.int p.2)]) (os:=[]) rfl rfl ?_ (by rw[z34,z00];lia) rfl rfl ?_
  ·intro d hd
   obtain⟨x,hx,rfl⟩:=z31.mp hd
   refine⟨[~~~(pl x.1),~~~(.int x.2),~~~(.int p.1),~~~(.int p.2)],rfl,Yy.mp ?_,fun _=>rfl,rfl⟩
   simp? only[pl,Qo0]
   rfl
  ·have e1:((ls.map pnD).filter (fun d=>decide (pD (Qmv d)=p))).map (QqE)=(stL ls p).map D.int:=by
    unfold stL
    rw[zl1,z43,z43];rfl
   have e2:1+((stL ls p).map D.int).length<=16777216:=by
    rw[z00];lia
   simp? only[e1,rwI,z33,zk7,e2]
   trivial
 have eb:=QgK (z:=z) (p:=p) rf nf h1
 simp? only[Qff,QcY eb]
 refine Qim (f:=fun _=>true) (g:=fun d=>.int (atL N (pD d) - atL F p)) (di:=[]) (ρb:=[none,none,~~~(rD N),~~~(rD F),~~~(.int p.1),~~~(.int p.2)]) (os:=[]) rfl rfl ?_ (by rw[z34,z00];lia) rfl rfl ?_
 ·intro d hd
  obtain⟨q,hq,rfl⟩:=z31.mp hd
  have iq:=(Q9 (QeI hq)).1
  refine⟨[~~~(.int q.1),~~~(.int q.2),~~~(rD N),~~~(rD F),~~~(.int p.1),~~~(.int p.2)],rfl,rfl,fun _=>Yy.mp ?_,rfl⟩
  simp? only[g1,g2,Qa9 rn iq.1 iq.2.1,QeH rn iq]
  rfl
 ·have e1:(((nbL h w F p).map pl).filter (fun _=>true)).map (fun d=>D.int (atL N (pD d) - atL F p))=((nbL h w F p).map fun q=>atL N q - atL F p).map D.int:=by
   rw[zm6.mpr fun _ _=>rfl,z43,z43];rfl
  have e2:(stL ls p).length+1+(nbL h w F p).length<=16777216:=by lia
  have em:=max_eq (l:=QjN h w F ls N p) (by simp[QjN])
  unfold QjN rwI at em
  rw[z33,z73] at em
  simp? only[e1,rwI,z33,z00,e2,em]
  exact⟨_,_,rfl,rfl,rfl,rfl⟩))
theorem Qgk (r:Rc h w R):(R.map rwI).map (fun _=>D.int w)=z40 h (D.int w):=by
 rw[z43,zu8]
 refine⟨by rw[z00];exact r.hi,fun b hb=>?_⟩
 obtain⟨_,_,rfl⟩:=z31.mp hb
 rfl
theorem QjO (rf:Rc h w F)(rn:Rc h w N)(nf:Nn h w F)(h1:1<=h)(hh:h<=30)(hw:w<=30)(ln:ls.length<=10)(ri:∀p,inR h w p->atL N p=Qo1 h w F ls N p):Yb z [rD F,.lst (ls.map pnD),rD N]=.ok (.bl true) []:=QS (QK (by
 dsimp only[Ya]
 have gh:QaT [rD F]=some (.int h):=by show some (D.int ((F.map rwI).length:Nat))=_;rw[z00,rf.hi]
 have er:=rf.row (i:=0) @3 @1
 simp only[z94] at er
 have gw:QaT [rwI (F.getD 0 [])]=some (.int w):=by show some (D.int (((F.getD 0 []).map D.int).length:Nat))=_;rw[z00,er]
 have ix0:=Qa9 rf (i:=0) @3 @1
 simp only[z94] at ix0
 have b1:(-4611686018427387904:Int)<=h/\(h:Int)<4611686018427387904:=by lia
 have b2:(-4611686018427387904:Int)<=w/\(w:Int)<4611686018427387904:=by lia
 have len:∀{R:List @17},Rc h w R->∀d∈R.map rwI,∃ρ0,V7 [none] 0 d=some ρ0/\mI (Qek QaT (Q2 (mV 0) QcT)) ρ0=.ok (.int w,ρ0)/\ρ0.set 0 none=[none]:=fun r d hd=>by
  obtain⟨l,hl,rfl⟩:=z31.mp hd
  have g1:QaT [rwI l]=some (.int w):=by show some (D.int ((l.map D.int).length:Nat))=_;rw[z00,r.wi l hl]
  refine⟨[~~~(rwI l)],rfl,Yy.mp ?_,rfl⟩
  simp? only[g1]
 refine Ws [~~~(rD F),~~~@10,~~~(rD N),none,none,none] ?_ ?_
 ·have e1:Qk2 [rD N,.ty "list"]=some (.bl true):=rfl
  have e3:∀(R:List @17) ρ,siK (rD R,ρ)=.ok (R.map rwI,ρ):=fun _ _=>rfl
  have QrR:(D.lst (z40 h (D.int w))).pln 30=true:=by
   show(z40 h (D.int w)).all (D.pln 29)=true
   exact z72.mpr fun x hx=>by rw[List.eq_of_mem_replicate hx];rfl
  simp? only[e1,e3]
  refine Qa6 (g:=fun _=>.int w) (di:=[]) (ρb:=[none]) (os:=[]) rfl rfl (len rn) (by rw[z34,z00,rn.hi];lia) rfl rfl ?_
  rw[Qgk rn]
  simp? only[e3]
  refine Qa6 (g:=fun _=>.int w) (di:=[]) (ρb:=[none]) (os:=[]) rfl rfl (len rf) (by rw[z34,z00,rf.hi];lia) rfl rfl ?_
  rw[Qgk rf]
  simp? only[QdS QrR,and_self]
 refine JO (fun ρ=>∃s3 s4 s5,frO s3/\frO s4/\frO s5/\ρ=[~~~(rD F),~~~@10,~~~(rD N),s3,s4,s5]) ?_ ?_
 ·simp? only[gh,b1,and_self,z59]
  refine Qa5 (fun i ρ=>∃s3 s4 s5,frO s3/\frO s4/\frO s5/\ρ=[~~~(rD F),~~~@10,~~~(rD N),s3,s4,s5]) ⟨none,none,none,.inl rfl,.inl rfl,.inl rfl,rfl⟩ ?_ ?_
  ·rintro i d ρ hd ⟨s3,s4,s5,h3,h4,h5,rfl⟩
   obtain⟨rfl,hi⟩:=QkE hd
   refine⟨[~~~(rD F),~~~@10,~~~(rD N),~~~(.int i),s4,s5],?_,?_⟩
   ·rcases h3 with rfl|⟨_,rfl⟩<;>rfl
   simp? only[ix0,gw,b2,and_self,z59]
   refine Qa5 (fun j ρ=>∃s4 s5,frO s4/\frO s5/\ρ=[~~~(rD F),~~~@10,~~~(rD N),~~~(.int i),s4,s5]) ⟨s4,s5,h4,h5,rfl⟩ ?_ ?_
   ·rintro j d ρ hd ⟨s4,s5,h4,h5,rfl⟩
    obtain⟨rfl,hj⟩:=QkE hd
    have ip:inR h w ((i:Int),(j:Int)):=⟨by dsimp only;lia,by dsimp only;lia,by dsimp only;lia,by dsimp only;lia⟩
    have g1:=Qa9 rn ip.1 ip.2.1
    have g2:=QeH rn ip
    have ed:=Qo3 (z:=z) rf rn nf h1 ip ln
    rw[← ri _ ip] at ed
    dsimp only at g1 g2 ed
    have i1:Qk2 [.int (atL N (i,j)),.ty "int"]=some (.bl true):=rfl
    have i2:Qk2 [.int (atL N (i,j)),.ty "bool"]=some (.bl false):=rfl
    refine⟨[~~~(rD F),~~~@10,~~~(rD N),~~~(.int i),~~~(.int j),s5],?_,?_⟩
    ·rcases h4 with rfl|⟨_,rfl⟩<;>rfl
    refine Ws [~~~(rD F),~~~@10,~~~(rD N),~~~(.int i),~~~(.int j),~~~(.int (atL N (i,j)))] ?_ ?_
    ·rcases h5 with rfl|⟨_,rfl⟩<;>simp? only[g1,g2,and_self]
    simp? only[i1,i2,QF ed,ne_eq,not_true_eq_false,true_and]
    exact⟨~~~(.int j),~~~(.int (atL N (i,j))),.inr ⟨_,rfl⟩,.inr ⟨_,rfl⟩,rfl⟩
   ·rintro ρ ⟨s4,s5,h4,h5,rfl⟩
    exact⟨rfl,~~~(.int i),s4,s5,.inr ⟨_,rfl⟩,h4,h5,rfl⟩
  ·rintro ρ ⟨s3,s4,s5,h3,h4,h5,rfl⟩
   exact⟨rfl,s3,s4,s5,h3,h4,h5,rfl⟩
 rintro ρ ⟨s3,s4,s5,h3,h4,h5,rfl⟩
 simp? only[]
 refine⟨_,[],rfl,?_,rfl,rfl⟩
 rcases h3 with rfl|⟨_,rfl⟩<;>rcases h4 with rfl|⟨_,rfl⟩<;>rcases h5 with rfl|⟨_,rfl⟩<;>rfl))
end
variable {z:Z}
section
variable {h w:Nat}{F N R:List @17}{p u:Int×Int}{ls ls' ms:List PN}{ρ ρ1:Rho}{q:D}{x:Int}
theorem Qd8 {m:ME}{xs:List D}(e:m ρ=.ok (.lst xs,ρ)):Qce m ρ=.ok (xs,ρ):=by unfold Qce;rw[e];rfl
theorem Qmk (rn:Rc h w N)(hh:h<=30){i:Nat}{ρ1:Rho}(e:mV i ρ=.ok (rD N,ρ1)):Yq false [.me] 0 (Qce (mV i)) Qe7 (mI (Qhh (Q2 (mV 0) QcT))) ρ=.ok (rB false true N,ρ1):=by
 refine(comp_map (g:=l2t) (di:=[]) (ρb:=[none]) (os:=[]) (by unfold Qce;rw[e];rfl) rfl rfl ?_ (by rw[z34,z00,rn.hi];lia) rfl rfl).trans ?_
 ·intro d hd
  obtain⟨l,hl,rfl⟩:=z31.mp hd
  have e5:D.imm (.nd .tup (l.map D.int))=true:=JP l
  have e6:tvK ([rwI l],[~~~(rwI l)])=.ok (.tup (l.map D.int),[~~~(rwI l)]):=rfl
  refine⟨[~~~(rwI l)],rfl,Yy.mp ?_,rfl⟩
  simp? only[e6]
  show W (if D.imm (.nd .tup (l.map D.int))=true then _ else _) _
  rw[if_pos e5]
  exact JK.mpr rfl
 ·rw[z43];rfl
theorem QjP (ln:ls.length<=10){i:Nat}(e:mV i ρ=.ok (.lst (ls.map pnD),ρ)):Qbq false [.me,.me] (Qce (mV i)) Qe7 (Qov [.O,.O] (Q2 (QfC (Q2 (mV 0) QcT)) (Q2 (mI (mV 1)) QcT))) ρ=.ok (.lst (ls.map (lmS .lst .lst)),ρ):=by
 refine Yy.mp (Qh.mpr ⟨_,Qd8 e,?_⟩)
 refine Qim (f:=fun _=>true) (g:=fun d=>.lst [t2l (Qmv d),QqE d]) (di:=[]) (ρb:=[none,none]) (os:=[]) rfl rfl ?_ (by rw[z34,z00];lia) rfl rfl ?_
 ·intro d hd
  obtain⟨x,hx,rfl⟩:=z31.mp hd
  exact⟨[~~~(pl x.1),~~~(.int x.2)],rfl,rfl,fun _=>rfl,rfl⟩
 ·rw[zm6.mpr fun _ _=>rfl,z43];rfl
theorem QiO (ln:ls.length<=10)(e:mV 3 ρ=.ok (.lst (ls.map pnD),ρ)):Yq false [.me] 0 (Qce (mV 3)) Qe7 (mI (mOp gIx (mV 0) (mC (.int 0)))) ρ=.ok (.lst ((ls.map (·.1)).map pl),ρ):=by
 refine(comp_map (g:=Qmv) (di:=[]) (ρb:=[none]) (os:=[]) (Qd8 e) rfl rfl ?_ (by rw[z34,z00];lia) rfl rfl).trans ?_
 ·intro d hd
  obtain⟨x,hx,rfl⟩:=z31.mp hd
  exact⟨[~~~(pnD x)],rfl,rfl,rfl⟩
 ·rw[z43,z43];rfl
theorem QeT (r:Rc h w F)(hh:h<=30){i:Nat}(e:mV i ρ=.ok (rD F,ρ)):Yq false [.me] 0 (Qce (mV i)) Qe7 (QfC (Q2 (mV 0) QcT)) ρ=.ok (rD F,ρ):=by
 refine(comp_map (g:=fun d=>d) (di:=[]) (ρb:=[none]) (os:=[]) (Qd8 e) rfl rfl ?_ (by rw[z34,z00,r.hi];lia) rfl rfl).trans ?_
 ·intro d hd
  obtain⟨l,hl,rfl⟩:=z31.mp hd
  have e6:liK ([rwI l],[~~~(rwI l)])=.ok (rwI l,[~~~(rwI l)]):=by
   show(if D.QI (l.map D.int)=true then _ else _)=_
   rw[if_pos (JP l)];rfl
  refine⟨[~~~(rwI l)],rfl,Yy.mp ?_,rfl⟩
  simp? only[e6]
 ·rw[zo1 (fun _=>rfl)];rfl
theorem Qml {x:Int}(r:Rc h w F)(hp:inR h w p)(hl:Lmp h w F ls)(np:p∉ls.map (·.1)):Lmp h w (Qz F p x) ls:=
 ⟨fun y hy=>by
  have o:=hl.ok y hy
  obtain⟨a,b⟩:=Q9 o
  have e:atL (Qz F p x) y.1=atL F y.1:=by rw[QdW r hp a,if_neg fun e=>np (by rw[← e];exact z31.mpr ⟨y,hy,rfl⟩)]
  unfold okN
  rw[e]
  exact o,hl.st,hl.nd,hl.ln⟩
theorem Qpm {mt:MT}{m:MS}{kf:Fl×Rho->Prop}(h:mt ρ=.ok (false,ρ))(k:kf (.nx,ρ)):W (mIf mt m QkV ρ) kf:=Qh.mpr ⟨_,h,JK.mpr k⟩
theorem QeU (r:Rc h w F)(hp:inR h w p):Qz F p (atL F p)=F:=by
 have hl:p.1.toNat<F.length:=by rw[r.hi];have:=hp.1;have:=hp.2.1;lia
 have e:F.getD p.1.toNat []=F[p.1.toNat]:=by rw[z09,z05 hl];rfl
 have hk:p.2.toNat<(F.getD p.1.toNat []).length:=by rw[r.row hp.1 hp.2.1];have:=hp.2.2.1;have:=hp.2.2.2;lia
 have e2:atL F p=(F.getD p.1.toNat [])[p.2.toNat]:=by unfold atL;rw[z09 (l:=F.getD p.1.toNat []),z05 hk];rfl
 unfold Qz
 rw[e2,zu5,e,zu5]
theorem QiP {m mi mj:ME}{i:Nat}{d:D}(hv:m ρ=.ok (d,ρ1)):Vg i m mi mj ρ=Vg i (fun ρ=>.ok (d,ρ)) mi mj ρ1:=by unfold Vg;rw[hv]
theorem Lmp.tail (hl:Lmp h w F ls):Lmp h w F (ls.drop 1):=⟨fun x hx=>hl.ok x (zl9 hx),fun x hx=>hl.st x (zl9 hx),by rw[zt4];exact hl.nd.sublist (zy8 _ _),by rw[ze6];have:=hl.ln;lia⟩
theorem Qo4 (nd:(ls.map (·.1)).Nodup):ls.Nodup:=(zj1.mp nd).imp fun h e=>h (by rw[e])
theorem QjQ (nd:(ls.map (·.1)).Nodup)(pm:ls'.Perm ls):QcV QcS ls'=QcV QcS ls:=
 QdU Qb4 (Qa7 Qb4 (Qo4 ((pm.map _).nodup_iff.mpr nd))) (Qa7 Qb4 (Qo4 nd)) ((QV ls').trans (pm.trans (QV ls).symm))
theorem VH (rf:Rc h w F)(ok:okL F)(h1:1<=h)(hh:h<=30)(w1:1<=w)(hw:w<=30)(hz:h * w<=60)(hl:Lmp h w F ls):∃R,Rc h w R/\Yb z [rD F,.lst (ls.map pnD),rD R]=.ok (.bl true) []/\∀(c:Bool) (t u:Tag) (ls':List PN),LT t->LT u->ls'.Perm ls->Qd2 z [flD z F,sq c (ls'.map (lmS t u))]=.ok (rD R) []:=by
 have nf:=QjI rf ok
 obtain⟨d,os,e,rfl,R,rfl,s⟩:=QoW (z:=z) rf nf h1 hh w1 hw hz (ls:=QcV QcS ls) fun x hx=>hl.ok x ((QV ls).mem_iff.mp hx)
 refine⟨R,s.rc,QjO rf s.rc nf h1 hh hw hl.ln fun p ip=>right_of hl (fun x=>(QV ls).mem_iff) s ip,fun c t u ls' ht hu pm=>QS (QK ?_)⟩
 have hl':Lmp h w F ls':=⟨fun x hx=>hl.ok x (pm.mem_iff.mp hx),fun x hx=>hl.st x (pm.mem_iff.mp hx),(pm.map _).nodup_iff.mpr hl.nd,by rw[pm.length_eq];exact hl.ln⟩
 have eo:=Qme (z:=z) (c:=c) ht hu rf h1 hl'
 rw[QjQ hl.nd pm] at eo
 dsimp only[Qd1]
 exact Qh.mpr ⟨_,Jl (rk:=.O) (QO rfl (QO (Jl (rk:=.O) rfl eo fun z=>nomatch z) rfl)) e (fun z=>nomatch z),JK.mpr ⟨_,[],rfl,rfl,rfl,rfl⟩⟩
def TE (z:Z):ME:=mI (Qpd (Q2 (mV 0) (Q2 (QdJ true [some 2,none] (J8 z) (Q2 (mS 2) (Q2 (mV 3) QcT))) QcT)))
theorem QiQ (rf:Rc h w F)(h1:1<=h)(hh:h<=30)(w1:1<=w)(hw:w<=30):∀(ls:List PN) (acc:List PN) (q:D),Pot q->acc.length+ls.length<=10->W (JX Qe7 (TE z) (ls.map pnD) [none,none,some (.par q),~~~(rD F)] (acc.map pnD)) fun r=>∃ms q',r.1=(acc++ms).map pnD/\ms.map (·.1)=ls.map (·.1)/\(∀x∈ms,1<=x.2/\x.2<Jm)/\Pot q'/\r.2=[none,none,some (.par q'),~~~(rD F)]
 | [],acc,q,hq,_=>JK.mpr ⟨[],q,by rw[z71],rfl,(fun _ h=>nomatch h),hq,rfl⟩
 |x::ls,acc,q,hq,l=>by
  rw[z33]
  unfold JX
  refine Qh.mpr (Qnn.mpr (Qh.mpr (JK.mpr ?_)))
  rw[if_pos rfl]
  refine Qh.mpr ?_
  obtain⟨d,os,e,q1,e2,hq1,s,e1,k0,k1⟩:=QkA (z:=z) rf h1 hh w1 hw hq
  subst e1 e2
  have te:TE z [~~~(pl x.1),~~~(.int x.2),some (.par q),~~~(rD F)]=.ok (pnD (x.1,s),[~~~(pl x.1),~~~(.int x.2),some (.par q1),~~~(rD F)]):=by
   unfold TE
   refine Yy.mp ?_
   simp? only[]
   refine Jo (p:=q) (P:=fun d os=>d=.int s/\os=[q1]) rfl ⟨_,_,e,rfl,rfl⟩ fun _ _ ⟨e1,e2⟩=>⟨q1,e2,?_⟩;subst e1
   have im:D.imm (pl x.1)=true:=rfl
   simp? only[im]
   rfl
  refine⟨_,te,?_⟩
  have la:(acc.map pnD).length<z18:=by rw[z34,z00];simp at l;lia
  dsimp only
  rw[if_pos la]
  have ea:acc.map pnD++[pnD (x.1,s)]=(acc++[(x.1,s)]).map pnD:=by rw[z73];rfl
  show W (JX Qe7 (TE z) (ls.map pnD) [none,none,some (.par q1),~~~(rD F)] (acc.map pnD++[pnD (x.1,s)])) _
  rw[ea]
  refine(QiQ rf h1 hh w1 hw ls (acc++[(x.1,s)]) q1 hq1 (by simp at l ⊢;lia)).mono ?_
  rintro r ⟨ms,q',a1,a2,a3,a4,a5⟩
  refine⟨(x.1,s)::ms,q',by rw[a1,z53];rfl,by rw[z33,z33,a2],fun y hy=>?_,a4,a5⟩
  rcases z19.mp hy with rfl|hy
  ·exact⟨k0,k1⟩
  ·exact a3 y hy
theorem Qo5:(rD N).pln 30=true:=by
 show(N.map rwI).all (D.pln 29)=true
 rw[zp3]
 refine z72.mpr fun l _=>?_
 show(l.map D.int).all (D.pln 28)=true
 rw[zp3]
 exact z72.mpr fun _ _=>rfl
theorem Qo6:(D.lst (ls.map pnD)).pln 30=true:=by
 show(ls.map pnD).all (D.pln 29)=true
 rw[zp3]
 exact z72.mpr fun _ _=>rfl
theorem QjR {α:Type}{xs:List α}{i:Int}{k:Nat}(hi:i=k)(hk:k<=xs.length):cutD xs (some i) none=xs.drop k:=by
 subst hi
 unfold cutD
 rw[HT.sIx_nat,HT.sIx_none,Nat.min_eq_left hk,zu0 (by rw[ze6];exact z32 _)]
def stt (ns:List Int)(q:D)(F:List @17)(ls:List PN)(s4 s5 s6 s7 s8 s9 s10 s11 s12:Option Sl):Rho:=[~~~(script ns),some (.own q),~~~(rD F),~~~@10,s4,s5,s6,s7,s8,s9,s10,s11,s12]
structure Zok (z:Z):Prop where
 dummy:True
end
theorem Qo7 (ns:List Int):FW (Ql3 z [script ns]) (fun d os=>d=.bl true/\os=[]):=QK (by
 dsimp only[Ql2]
 refine JO (fun ρ=>∃q,Pot q/\ρ=[~~~(script ns),some (.own q),none,none,none,none,none,none,none,none,none,none,none]) ?_ ?_
 ·simp? only[]
  refine Qjp (Qir ns 0 @3) fun d os hz=>?_
  obtain⟨_,hd⟩:=hz
  refine⟨(fun q=>nomatch q),?_⟩
  simp? only[]
  exact⟨trivial,d,hd,rfl⟩
 rintro ρ ⟨q,hq,rfl⟩
 refine JO (fun ρ=>∃q h w F,Pot q/\1<=h/\h<=30/\1<=w/\w<=30/\h * w<=60/\Rc h w F/\okL F/\ρ=[~~~(script ns),some (.own q),~~~(rD F),none,none,none,none,none,none,none,none,none,none]) ?_ ?_
 ·simp? only[]
  refine Qjo (p:=q) (P:=spP Qkw) rfl (Ql7 hq) fun d _ ⟨p2,e2,hp2,h,w,h1,hh,w1,hw,hz,F,e1,rf,ok⟩=>⟨p2,e2,?_⟩;subst e1
  simp? only[]
  exact⟨trivial,p2,h,w,F,hp2,h1,hh,w1,hw,hz,rf,ok,rfl⟩
 rintro ρ ⟨q,h,w,F,hq,h1,hh,w1,hw,hz,rf,ok,rfl⟩
 have nf:=QjI rf ok
 have gh:QaT [rD F]=some (.int h):=by show some (D.int ((F.map rwI).length:Nat))=_;rw[z00,rf.hi]
 have er:=rf.row (i:=0) @3 @1
 simp only[z94] at er
 have gw:QaT [rwI (F.getD 0 [])]=some (.int w):=by show some (D.int (((F.getD 0 []).map D.int).length:Nat))=_;rw[z00,er]
 have ix0:=Qa9 rf (i:=0) @3 @1
 simp only[z94] at ix0
 refine JO (fun ρ=>∃ls,Lmp h w F ls/\ρ=(stt ns q F ls none none none none none none none none none)) ?_ ?_
 ·obtain⟨p1,os1,e1,_,hp1⟩:=Qir (z:=z) ns 1 @3
  obtain⟨d2,os2,e2,ls,q2,_,e3,hl⟩:=QjJ (z:=z) rf ok h1 hh w1 hw hp1
  subst e3
  refine Qh.mpr ⟨_,QlU (xs:=[p1,rD F,.int 5]) (ρ1:=[~~~(script ns),some (.own q),~~~(rD F),none,none,none,none,none,none,none,none,none,none]) (Yy.mp (by simp? only[QcY e1])) e2,?_⟩
  exact JK.mpr ⟨rfl,ls,hl,rfl⟩
 rintro ρ ⟨ls,hl,rfl⟩
 refine Ws (stt ns q F ls (some (.own (rD F))) none none none none none none none none) (Qh.mpr ⟨_,QeT rf hh rfl,JK.mpr ⟨rfl,rfl⟩⟩) ?_
 refine JO (fun ρ=>∃q,Pot q/\ρ=(stt ns q F ls (some (.own (rD F))) none none none none none none none none)) ?_ ?_
 ·simp? only[stt]
  refine Qjp (Qir ns 2 @3) fun d os hz=>?_
  obtain⟨_,hd⟩:=hz
  refine⟨(fun q=>nomatch q),?_⟩
  simp? only[]
  exact⟨trivial,d,hd,rfl⟩
 clear hq q
 rintro ρ ⟨q,hq,rfl⟩
 refine JO (fun ρ=>∃q r,Pot q/\0<=r/\r<(h:Int)/\ρ=(stt ns q F ls (some (.own (rD F))) (~~~(.int r)) none none none none none none none)) ?_ ?_
 ·simp? only[stt,gh]
  refine Jo (p:=q) (P:=spT h) rfl (QA hq @1 @1) fun _ _ ⟨r1,q1,e1,e2,hq1,g0,g1⟩=>⟨q1,e2,?_⟩;subst e1
  simp? only[]
  exact⟨trivial,q1,r1,hq1,g0,g1,rfl⟩
 clear hq q
 rintro ρ ⟨q,r,hq,r0,r1,rfl⟩
 refine JO (fun ρ=>∃q p,Pot q/\inR h w p/\ρ=@13) ?_ ?_
 ·simp? only[stt,ix0,gw]
  refine Jo (p:=q) (P:=spT w) rfl (QA hq @1 @1) fun _ _ ⟨c,q1,e1,e2,hq1,g0,g1⟩=>⟨q1,e2,?_⟩;subst e1
  simp? only[]
  exact⟨trivial,q1,(r,c),hq1,⟨r0,r1,g0,g1⟩,rfl⟩
 clear hq q r0 r1 r
 rintro ρ ⟨q,p,hq,ip,rfl⟩
 refine JO (fun ρ=>∃q x,Pot q/\0<=x/\x<Jm/\Lmp h w (Qz F p x) ls/\ρ=(stt ns q F ls (some (.own (rD (Qz F p x)))) (~~~(.int p.1)) (~~~(.int p.2)) none none none none none none)) ?_ ?_
 ·have ef:=QiO (ρ:=@13) hl.ln rfl
  have et:Qb9 (mOp gNi (Qpd (Q2 (mV 5) (Q2 (mV 6) QcT))) (Yq false [.me] 0 (Qce (mV 3)) Qe7 (mI (mOp gIx (mV 0) (mC (.int 0)))))) @13=.ok (!decide (p∈ls.map (·.1)),@13):=Qa4 (op_eq (x:=pl p) rfl ef (Qkg (q:=p) (U:=ls.map (·.1))))
  refine Qh.mpr ⟨_,et,?_⟩
  by_cases c:p∈ls.map (·.1)
  ·rw[decide_eq_true c]
   have a:=QjI rf ok p ip
   have b:=QqJ rf ok ip
   refine JK.mpr ⟨rfl,q,atL F p,hq,a,b,?_,?_⟩
   ·rw[QeU rf ip];exact hl
   ·rw[QeU rf ip]
  ·rw[decide_eq_false c]
   obtain⟨d,os,e,q1,rfl,hq1,x,rfl,x0,x1⟩:=Qiq (z:=z) hq
   have ev:mI (QdJ false [some 1] (Y0 z) (Q2 (mS 1) QcT)) @13=.ok (.int x,(stt ns q1 F ls (some (.own (rD F))) (~~~(.int p.1)) (~~~(.int p.2)) none none none none none none)):=Yy.mp (by
    simp? only[stt]
    refine Qjo (p:=q) (P:=fun d os=>d=.int x/\os=[q1]) rfl ⟨_,_,e,rfl,rfl⟩ fun _ _ ⟨e1,e2⟩=>⟨q1,e2,?_⟩;subst e1
    simp? only[])
   show W (Vg 4 _ (mV 5) (mV 6) @13) _
   rw[QiP ev]
   refine QaB (par:=false) (ys:=F.map rwI) (xs:=(F.getD p.1.toNat []).map D.int) (d:=.int x) (n:=p.1) (j:=p.2) rfl rfl rfl rfl (Vh ip.1 (by rw[z00,rf.hi];exact ip.2.1)) (QiN rf ip) (Vh ip.2.2.1 (by rw[z00,rf.row ip.1 ip.2.1];exact ip.2.2.2)) ⟨rfl,q1,x,hq1,x0,x1,Qml rf ip hl c,?_⟩
   rw[QiM rf ip];rfl
 clear hq q
 rintro ρ ⟨q,x,hq,x0,x1,hg,rfl⟩
 have rg:Rc h w (Qz F p x):=rf.set ip
 have okg:okL (Qz F p x):=QiL ok x0 x1
 have agp:atL (Qz F p x) p=x:=by rw[QdW rf ip ip,if_pos rfl]
 refine Ws (stt ns q F ls (some (.own (rD (Qz F p x)))) (~~~(.int p.1)) (~~~(.int p.2)) (~~~(flD z F)) none none none none none) (Qh.mpr ⟨_,QjC (x:=rD F) (ρ1:=(stt ns q F ls (some (.own (rD (Qz F p x)))) (~~~(.int p.1)) (~~~(.int p.2)) none none none none none none)) rfl (fun y=>Qfi rf h1 hh w1 hw ok) Qgj,JK.mpr ⟨rfl,rfl⟩⟩) ?_
 refine JO (fun ρ=>∃q,Pot q/\ρ=(stt ns q F ls (some (.own (rD (Qz F p x)))) (~~~(.int p.1)) (~~~(.int p.2)) (~~~(flD z F)) none none none none none)) ?_ ?_
 ·simp? only[stt]
  refine Jo (p:=q) (P:=spT 4) rfl (QA hq @3 @3) fun _ _ ⟨r1,q1,e1,e2,hq1,k0,k1⟩=>⟨q1,e2,?_⟩;subst e1
  simp? only[]
  refine Qaz (fun _=>?_) (fun _=>?_)
  ·simp? only[QF (Qmh (z:=z) rf ok hh hw),QF (Qmj (z:=z) rf ok h1 hh w1 hw),true_and]
   exact⟨QiG,q1,hq1,rfl⟩
  ·exact JK.mpr ⟨rfl,q1,hq1,rfl⟩
 clear hq q
 rintro ρ ⟨q,hq,rfl⟩
 refine Ws (stt ns q F ls (~~~(rD (Qz F p x))) (~~~(.int p.1)) (~~~(.int p.2)) (~~~(flD z F)) (~~~(flD z (Qz F p x))) none none none none) ?_ ?_
 ·refine Qh.mpr ⟨_,QjC (x:=rB true true (Qz F p x)) (d:=flD z (Qz F p x)) (ρ1:=(stt ns q F ls (~~~(rD (Qz F p x))) (~~~(.int p.1)) (~~~(.int p.2)) (~~~(flD z F)) none none none none none)) (QO (Qlj (.inl rfl) (QO (Qmk (i:=4) (ρ:=(stt ns q F ls (some (.own (rD (Qz F p x)))) (~~~(.int p.1)) (~~~(.int p.2)) (~~~(flD z F)) none none none none none)) (ρ1:=(stt ns q F ls (~~~(rD (Qz F p x))) (~~~(.int p.1)) (~~~(.int p.2)) (~~~(flD z F)) none none none none none)) rg hh rfl) rfl)) rfl) (fun y=>Qgh rg h1 hh w1 hw okg) Qgj,JK.mpr ⟨rfl,rfl⟩⟩
 have im:=Qco ls
 refine Ws (stt ns q F ls (~~~(rD (Qz F p x))) (~~~(.int p.1)) (~~~(.int p.2)) (~~~(flD z F)) (~~~(flD z (Qz F p x))) (~~~@10) none none none) ?_ ?_
 ·have e6:liK ([.lst (ls.map pnD)],(stt ns q F ls (~~~(rD (Qz F p x))) (~~~(.int p.1)) (~~~(.int p.2)) (~~~(flD z F)) (~~~(flD z (Qz F p x))) none none none none))=.ok (.lst (ls.map pnD),(stt ns q F ls (~~~(rD (Qz F p x))) (~~~(.int p.1)) (~~~(.int p.2)) (~~~(flD z F)) (~~~(flD z (Qz F p x))) none none none none)):=by
   show(if D.QI (ls.map pnD)=true then _ else _)=_
   rw[if_pos im]
  unfold stt at e6 ⊢
  simp? only[e6,and_self]
 obtain⟨R,rr,ri,li⟩:=VH (z:=z) rf ok h1 hh w1 hw hz hl
 obtain⟨S,rs,si,lj⟩:=VH (z:=z) rg okg h1 hh w1 hw hz hg
 have tt:LT .tup:=.inr rfl
 refine Ws @18 (Qh.mpr ⟨_,Jl (rk:=.O) rfl (li false .tup .tup ls tt tt (.refl _)) (fun z=>nomatch z),JK.mpr ⟨rfl,rfl⟩⟩) ?_
 refine Ws @18 (Qpm (QfY (ρ1:=QgI @18) (or_eq (b:=false) (c:=false) (not_eq (b:=true) (Qa4 (Jl rfl ri fun _=>rfl))) (fun _=>Qa4 (op_eq rfl rfl (QdS Qo6))) (fun z=>nomatch z))) ⟨rfl,rfl⟩) ?_
 refine Ws (stt ns q F ls (~~~(rD (Qz F p x))) (~~~(.int p.1)) (~~~(.int p.2)) (~~~(flD z F)) (~~~(flD z (Qz F p x))) (~~~@10) (some (.own (rD R))) (~~~(rD R)) none) (Qh.mpr ⟨_,lend_eq (ρ1:=QgI @18) (QeT rr hh rfl),JK.mpr ⟨rfl,rfl⟩⟩) ?_
 refine Ws @4 ?_ ?_
 ·have ev:mI (mOp QpP (mOp gIx (mOp gIx (mB 10) (mV 5)) (mV 6)) (mC (.int 1))) (stt ns q F ls (~~~(rD (Qz F p x))) (~~~(.int p.1)) (~~~(.int p.2)) (~~~(flD z F)) (~~~(flD z (Qz F p x))) (~~~@10) (some (.own (rD R))) (~~~(rD R)) none)=.ok (.int (atL R p+1),(stt ns q F ls (~~~(rD (Qz F p x))) (~~~(.int p.1)) (~~~(.int p.2)) (~~~(flD z F)) (~~~(flD z (Qz F p x))) (~~~@10) (some (.own (rD R))) (~~~(rD R)) none)):=Yy.mp (by
   simp? only[stt,Qa9 rr ip.1 ip.2.1,QeH rr ip])
  refine QaB (par:=false) (ys:=R.map rwI) (xs:=(R.getD p.1.toNat []).map D.int) (d:=.int (atL R p+1)) (n:=p.1) (j:=p.2) rfl ev rfl rfl (Vh ip.1 (by rw[z00,rr.hi];exact ip.2.1)) (QiN rr ip) (Vh ip.2.2.1 (by rw[z00,rr.row ip.1 ip.2.1];exact ip.2.2.2)) ⟨rfl,?_⟩
  rw[QiM rr ip];rfl
 refine JO (fun ρ=>∃q,Pot q/\ρ=@4) ?_ ?_
 ·simp? only[stt]
  refine Jo (p:=q) (P:=spT 2) rfl (QA hq @3 @3) fun _ _ ⟨r1,q1,e1,e2,hq1,k0,k1⟩=>⟨q1,e2,?_⟩;subst e1
  simp? only[]
  refine Qaz (fun _=>?_) (fun _=>?_)
  ·have ew:=QjM (z:=z) (x:=x) rf ok h1 hh w1 hw ip x0 x1
   have i1:=Jk (z:=z) (F:=F) (nm := "with_loss") @3
   unfold pl at ew
   have g1:=QeH rg ip
   rw[agp] at g1
   simp? only[i1,Qa9 rg ip.1 ip.2.1,g1,QF ew,true_and]
   exact⟨QiG,q1,hq1,rfl⟩
  ·exact JK.mpr ⟨rfl,q1,hq1,rfl⟩
 clear hq q
 rintro ρ ⟨q,hq,rfl⟩
 have lr:Qd2 z [flD z (Qz F p x),.tup (ls.map pnD).reverse]=.ok (rD S) []:=by
  rw[← zg9]
  exact lj true .tup .tup ls.reverse tt tt (zy4 _)
 refine Ws @4 (Qpm (QfY (ρ1:=QgI @4) (not_eq (b:=true) (Qa4 (Jl (QO rfl (QO rfl (QO (Jl (args:=[flD z (Qz F p x),.tup (ls.map pnD).reverse]) rfl lr fun z=>nomatch z) rfl))) si fun _=>rfl)))) ⟨rfl,rfl⟩) ?_
 refine JO (fun ρ=>∃q ms,Lmp h w F ms/\ρ=@2) ?_ ?_
 ·obtain⟨⟨ds,ρ2⟩,et,ms,q1,e1,e2,e3,hq1,e4⟩:=QiQ (z:=z) rf h1 hh w1 hw ls [] q hq (by rw[zh4,zv8];exact hl.ln)
  have e1:ds=ms.map pnD:=e1
  have e4:ρ2=_:=e4
  subst e1 e4
  have hm:Lmp h w F ms:=by
   have ln:ms.length=ls.length:=by have:=congrArg zr0 e2;rwa[z00,z00] at this
   refine⟨fun y hy=>?_,e3,by rw[e2];exact hl.nd,by rw[ln];exact hl.ln⟩
   have:y.1∈ls.map (·.1):=by rw[← e2];exact z31.mpr ⟨y,hy,rfl⟩
   obtain⟨a,ha,e⟩:=z31.mp this
   rw[← e];exact hl.ok a ha
  have ec:Qbq false [.me,.me,.io 1,.fz 2] (Qce (mV 3)) Qe7 (TE z) @4=.ok (.lst (ms.map pnD),(stt ns q1 F ls (~~~(rD (Qz F p x))) (~~~(.int p.1)) (~~~(.int p.2)) (~~~(flD z F)) (~~~(flD z (Qz F p x))) (~~~@10) (some (.own (rD (Qz R p (atL R p+1))))) (~~~(rD R)) none)):=by
   show(match JX Qe7 (TE z) (ls.map pnD) [none,none,some (.par q),~~~(rD F)] [] with|.ok y=>(Rs.of (outs (ioB [.me,.me,.io 1,.fz 2]) y.2)).bind fun os=>Rs.ok (D.lst y.1,YA false @4 ([Cp.me,.me,.io 1,.fz 2].filterMap Cp.is) os)|_=>.no)=_
   have et':JX Qe7 (TE z) (ls.map pnD) [none,none,some (.par q),~~~(rD F)] []=_:=et
   rw[et'];rfl
  exact Qh.mpr ⟨_,ec,JK.mpr ⟨rfl,q1,ms,hm,rfl⟩⟩
 clear hq q
 rintro ρ ⟨q,ms,hm,rfl⟩
 obtain⟨R2,rr2,ri2,li2⟩:=VH (z:=z) rf ok h1 hh w1 hw hz hm
 refine Ws @2 (Qpm (not_eq (b:=true) (Qa4 (Jl (QO rfl (QO rfl (QO (Jl (rk:=.O) (QO rfl (QO (QjP hm.ln rfl) rfl)) (li2 false .lst .lst ms (.inl rfl) (.inl rfl) (.refl _)) fun z=>nomatch z) rfl))) ri2 fun _=>rfl))) ⟨rfl,rfl⟩) ?_
 obtain⟨R3,rr3,ri3,li3⟩:=VH (z:=z) rf ok h1 hh w1 hw hz hl.tail
 have cu:cutD (ls.map pnD) (some 1) none=(ls.drop 1).map pnD:=by
  cases ls with
  |nil=>rfl
  |cons a b=>exact(QjR (i:=1) (k:=1) rfl (by rw[z00,z30];lia)).trans (zt4 ..).symm
 have sl:Qq0 (mV 3) (QqZ (mC (.int 1))) QqY @2=.ok (.lst ((ls.drop 1).map pnD),@2):=by
  rw[← cu];rfl
 refine Ws @2 (Qpm (not_eq (b:=true) (Qa4 (Jl (QO rfl (QO sl (QO (Jl (rk:=.O) (QO rfl (QO sl rfl)) (li3 false .tup .tup _ tt tt (.refl _)) fun z=>nomatch z) rfl))) ri3 fun _=>rfl))) ⟨rfl,rfl⟩) ?_
 have rv:QlN (mV 3) @2=.ok (.lst (ls.reverse.map pnD),@2):=by
  have im2:D.QI (ls.map pnD).reverse=true:=by rw[← zg9];exact Qco _
  show(if D.QI (ls.map pnD).reverse=true then _ else _)=_
  rw[if_pos im2,zg9]
 exact Qh.mpr ⟨_,op_eq (Jl (rk:=.O) (QO rfl (QO rv rfl)) (li false .tup .tup ls.reverse tt tt (zy4 _)) (fun z=>nomatch z)) rfl (QdR Qo5),JK.mpr ⟨_,[],rfl,rfl,rfl,rfl⟩⟩)
theorem Qo8 (hz:Zok z)(ns:List Int):Ql3 z [script ns]=.ok (.bl true) []:=QS (Qo7 ns)
end G22
namespace G22
open PySem PySem.Spec L2 TL
def spLaw (K:z01):Sp:=fun vs H Q _=>∃(a:Addr) (ns:List Int),vs=[.ref a]/\SqL K H a (ns.map V.int)/\∀H',Q (.bl true) H'
theorem QiR {K:z01}{F:Hp}:∀(ns:List Int),RL K F (ns.map V.int) (ns.map D.int)
 | []=>.nil
 |a::l=>.cons (.sc rfl) (QiR l)
theorem Qo9 {z:Z}(hz:Zok z)(vs:List L2.V)(H:Hp)(Q:VK)(E:XK)(h:spLaw z.K vs H Q E):spF z.K [false] .V (Ql3 z) vs H Q E:=by
 obtain⟨a,ns,rfl,hs,hq⟩:=h
 refine⟨H,[script ns],[],.val (.nd (t:=.lst) hs (QiR ns)) .nil,za2,@5,Same.refl H,?_⟩
 rw[Qo8 hz ns]
 intro F' H' v fr fo _ _ _ _ _ r _ _ _ _ _
 obtain rfl:=r.1.Qu (w:=.bl true) rfl
 exact hq H'
theorem ar1 {P:List Value->Prop}(h:∀a0,P [a0]):∀us,us.length=1->P us:=fun us e=>by obtain⟨a,rfl⟩:=List.length_eq_one_iff.mp e;exact h a
theorem ar2 {P:List Value->Prop}(h:∀a0 a1,P [a0,a1]):∀us,us.length=2->P us:=fun us e=>by cases us with
 |nil=>cases e
 |cons a us=>exact ar1 (P:=fun t=>P (a::t)) (h a) us (zj7 e)
theorem ar3 {P:List Value->Prop}(h:∀a0 a1 a2,P [a0,a1,a2]):∀us,us.length=3->P us:=fun us e=>by cases us with
 |nil=>cases e
 |cons a us=>exact ar2 (P:=fun t=>P (a::t)) (h a) us (zj7 e)
theorem ar4 {P:List Value->Prop}(h:∀a0 a1 a2 a3,P [a0,a1,a2,a3]):∀us,us.length=4->P us:=fun us e=>by cases us with
 |nil=>cases e
 |cons a us=>exact ar3 (P:=fun t=>P (a::t)) (h a) us (zj7 e)
theorem ar5 {P:List Value->Prop}(h:∀a0 a1 a2 a3 a4,P [a0,a1,a2,a3,a4]):∀us,us.length=5->P us:=fun us e=>by cases us with
 |nil=>cases e
 |cons a us=>exact ar4 (P:=fun t=>P (a::t)) (h a) us (zj7 e)
theorem all_mk {l:zp0}{w:World}{K:z01}{h:Heap}{mg:Str->Option Value}{QaC JQ QfZ Jt YO YQ YR YS:Tok}{fa Qj f1 f2 f3 f4 f5 f6 f7 f8 f9 f10 f11 f12 f13 f14 f15 f16 f17 f18 f19 f20 f21 f22 f23 f24 f25 f26 f27 f28 f29 f30 f31 f32 f33 f34 f35 f36 f37 f38 f39 f40 f41 f42 f43 f44 f45 f46 f47 f48 f49 f50 f51 f52 f53:Addr}{fd1 fd2 fd3 fd4 fd5 fd6 fd7 fd8 fd9 QrS QrT QrU QrV QrW QrX QrY QrZ Qr0 Qr1 Qr2 Qr3 Qr4 Qr5 Qr6 Qr7 Qr8 Qr9 Qsa Qsb Qsc Qsd Qse Qsf Qsg Qsh Qsi Qsj Qsk Qsl Qsm Qsn Qso Qsp Qsq Qsr Qss Qst Qsu Qsv Qsw Qsx Qsy Qsz:FuncData}(X:K.In h)(G:h.Ns z20 mg)(hfa:mg "law" = some (.ref fa))
  (a1:z21 K z20 "is_whole" = some (some (.ref f1)))
  (F1:Fun K "is_whole" "is_whole" Qdf f1 fd1)
  (a2:z21 K z20 "is_listed" = some (some (.ref f2)))
  (F2:Fun K "is_listed" "is_listed" Qct f2 fd2)
  (a3:z21 K z20 "in_order" = some (some (.ref f3)))
  (F3:Fun K "in_order" "in_order" Qdi f3 fd3)
  (a4:z48 K (.ref Qj) "high" = some (some (.ref f4))) (i4:z81 K (.ref f4)=true)
  (F4:Fun K "high" "Floor.high" Qbr f4 fd4)
  (a5:z48 K (.ref Qj) "wide" = some (some (.ref f5))) (i5:z81 K (.ref f5)=true)
  (F5:Fun K "wide" "Floor.wide" Qbt f5 fd5)
  (a6:z48 K (.ref Qj) "rows" = some (some (.ref f6))) (i6:z81 K (.ref f6)=true)
  (F6:Fun K "rows" "Floor.rows" Qbu f6 fd6)
  (a7:z48 K (.ref Qj) "is_wall" = some (some (.ref f7))) (i7:z81 K (.ref f7)=true)
  (F7:Fun K "is_wall" "Floor.is_wall" Vp f7 fd7)
  (a8:z21 K z20 "around" = some (some (.ref f8)))
  (F8:Fun K "around" "around" Qf0 f8 fd8)
  (a9:z21 K z20 "places_of" = some (some (.ref f9)))
  (F9:Fun K "places_of" "places_of" Qcw f9 fd9)
  (a10:z21 K z20 "insert_in_order" = some (some (.ref f10)))
  (F10:Fun K "insert_in_order" "insert_in_order" YC f10 QrS)
  (a11:z21 K z20 "number_at" = some (some (.ref f11)))
  (F11:Fun K "number_at" "number_at" Qcz f11 QrT)
  (a12:z21 K z20 "write_loss" = some (some (.ref f12)))
  (F12:Fun K "write_loss" "write_loss" Qbw f12 QrU)
  (a13:z21 K z20 "read_number" = some (some (.ref f13)))
  (F13:Fun K "read_number" "read_number" QaE f13 QrV)
  (a14:z21 K z20 "_law_cell_at" = some (some (.ref f14)))
  (F14:Fun K "_law_cell_at" "_law_cell_at" VQ f14 QrW)
  (a15:z21 K z20 "_law_take" = some (some (.ref f15)))
  (F15:Fun K "_law_take" "_law_take" QcB f15 QrX)
  (a16:z21 K z20 "_law_beside" = some (some (.ref f16)))
  (F16:Fun K "_law_beside" "_law_beside" QaH f16 QrY)
  (a17:z21 K z20 "is_pair" = some (some (.ref f17)))
  (F17:Fun K "is_pair" "is_pair" QeK f17 QrZ)
  (a18:z21 K z20 "check_strength" = some (some (.ref f18)))
  (F18:Fun K "check_strength" "check_strength" Y5 f18 Qr0)
  (a19:z21 K z20 "check_free" = some (some (.ref f19)))
  (F19:Fun K "check_free" "check_free" Qbz f19 Qr1)
  (a20:z48 K (.ref Qj) "places" = some (some (.ref f20))) (i20:z81 K (.ref f20)=true)
  (F20:Fun K "places" "Floor.places" VS f20 Qr2)
  (a21:z21 K z20 "is_within" = some (some (.ref f21)))
  (F21:Fun K "is_within" "is_within" QcE f21 Qr3)
  (a22:z21 K z20 "is_sized" = some (some (.ref f22)))
  (F22:Fun K "is_sized" "is_sized" Qdl f22 Qr4)
  (a23:z21 K z20 "lift" = some (some (.ref f23)))
  (F23:Fun K "lift" "lift" Qkp f23 Qr5)
  (a24:z21 K z20 "write_row" = some (some (.ref f24)))
  (F24:Fun K "write_row" "write_row" QcG f24 Qr6)
  (a25:z21 K z20 "read_loss" = some (some (.ref f25)))
  (F25:Fun K "read_loss" "read_loss" QcJ f25 Qr7)
  (a26:z21 K z20 "_law_pot" = some (some (.ref f26)))
  (F26:Fun K "_law_pot" "_law_pot" Qdn f26 Qr8)
  (a27:z21 K z20 "_law_far" = some (some (.ref f27)))
  (F27:Fun K "_law_far" "_law_far" Qdp f27 Qr9)
  (a28:z21 K z20 "_law_due" = some (some (.ref f28)))
  (F28:Fun K "_law_due" "_law_due" Qdq f28 Qsa)
  (a29:z48 K (.ref Qj) "has" = some (some (.ref f29))) (i29:z81 K (.ref f29)=true)
  (F29:Fun K "has" "Floor.has" QcL f29 Qsb)
  (a30:z21 K z20 "is_rectangle" = some (some (.ref f30)))
  (F30:Fun K "is_rectangle" "is_rectangle" VV f30 Qsc)
  (a31:z21 K z20 "is_loss" = some (some (.ref f31)))
  (F31:Fun K "is_loss" "is_loss" QeM f31 Qsd)
  (a32:z21 K z20 "givers" = some (some (.ref f32)))
  (F32:Fun K "givers" "givers" Qf4 f32 Qse)
  (a33:z21 K z20 "write_floor" = some (some (.ref f33)))
  (F33:Fun K "write_floor" "write_floor" QaK f33 Qsf)
  (a34:z21 K z20 "read_row" = some (some (.ref f34)))
  (F34:Fun K "read_row" "read_row" Qdt f34 Qsg)
  (a35:z21 K z20 "_law_loss" = some (some (.ref f35)))
  (F35:Fun K "_law_loss" "_law_loss" QcN f35 Qsh)
  (a36:z21 K z20 "_law_strength" = some (some (.ref f36)))
  (F36:Fun K "_law_strength" "_law_strength" Vt f36 Qsi)
  (a37:z21 K z20 "_law_is_right" = some (some (.ref f37)))
  (F37:Fun K "_law_is_right" "_law_is_right" Vu f37 Qsj)
  (a38:z48 K (.ref Qj) "check_place" = some (some (.ref f38))) (i38:z81 K (.ref f38)=true)
  (F38:Fun K "check_place" "Floor.check_place" Yc f38 Qsk)
  (a39:z21 K z20 "check_losses" = some (some (.ref f39)))
  (F39:Fun K "check_losses" "check_losses" VY f39 Qsl)
  (a40:z21 K z20 "_law_rows" = some (some (.ref f40)))
  (F40:Fun K "_law_rows" "_law_rows" QcO f40 Qsm)
  (a41:z21 K z20 "_law_lamps" = some (some (.ref f41)))
  (F41:Fun K "_law_lamps" "_law_lamps" QbC f41 Qsn)
  (a42:z21 K z20 "check_lamp" = some (some (.ref f42)))
  (F42:Fun K "check_lamp" "check_lamp" QbF f42 Qso)
  (a43:z48 K (.ref Qj) "__init__" = some (some (.ref f43))) (i43:z81 K (.ref f43)=true)
  (F43:Fun K "__init__" "Floor.__init__" Yf f43 Qsp)
  (a44:z48 K (.ref Qj) "loss" = some (some (.ref f44))) (i44:z81 K (.ref f44)=true)
  (F44:Fun K "loss" "Floor.loss" QbI f44 Qsq)
  (a45:z48 K (.ref Qj) "beside" = some (some (.ref f45))) (i45:z81 K (.ref f45)=true)
  (F45:Fun K "beside" "Floor.beside" V1 f45 Qsr)
  (a46:z21 K z20 "looked_over" = some (some (.ref f46)))
  (F46:Fun K "looked_over" "looked_over" QaO f46 Qss)
  (a47:z21 K z20 "give" = some (some (.ref f47)))
  (F47:Fun K "give" "give" Qks f47 Qst)
  (a48:z48 K (.ref Qj) "with_loss" = some (some (.ref f48))) (i48:z81 K (.ref f48)=true)
  (F48:Fun K "with_loss" "Floor.with_loss" YF f48 Qsu)
  (a49:z21 K z20 "spread" = some (some (.ref f49)))
  (F49:Fun K "spread" "spread" Qf7 f49 Qsv)
  (a50:z21 K z20 "read_floor" = some (some (.ref f50)))
  (F50:Fun K "read_floor" "read_floor" QbL f50 Qsw)
  (a51:z21 K z20 "lit" = some (some (.ref f51)))
  (F51:Fun K "lit" "lit" QoJ f51 Qsx)
  (a52:z21 K z20 "lights" = some (some (.ref f52)))
  (F52:Fun K "lights" "lights" Qgc f52 Qsy)
  (a53:z21 K z20 "law" = some (some (.ref f53)))
  (F53:Fun K "law" "law" Qip f53 Qsz)
  (z0:z21 K z20 "all" = some none)
  (z1:z21 K z20 "bool" = some none)
  (z2:z21 K z20 "enumerate" = some none)
  (z3:z21 K z20 "int" = some none)
  (z4:z21 K z20 "isinstance" = some none)
  (z5:z21 K z20 "len" = some none)
  (z6:z21 K z20 "list" = some none)
  (z7:z21 K z20 "max" = some none)
  (z8:z21 K z20 "min" = some none)
  (z9:z21 K z20 "range" = some none)
  (z10:z21 K z20 "reversed" = some none)
  (z11:z21 K z20 "sorted" = some none)
  (z12:z21 K z20 "str" = some none)
  (z13:z21 K z20 "tuple" = some none)
  (Qcs:z21 K z20 "Floor" = some (some (.ref Qj)))
  (Qgl:zg4 K Qj Str.empty=true) (Qgm:zi1 K Qj=true) (Qgn:zn6 K Qj=true) (Qgo:z48 K (.ref Qj) "__setattr__" = some (some (.builtin "object.__setattr__"))) (Qgp:zo9 K Qj=true) (Qgq:zf7 K (.ref Qj)=true)
  (Qs:z48 K (.ref Qj) "losses" = some none)
  (QaD:z21 K z20 "FIGURES" = some (some (.str "0123456789" QaC)))
  (JR:z21 K z20 "LEAST_GLASS" = some (some (.int 2 JQ)))
  (Qde:z21 K z20 "MOST" = some (some (.int 30 QfZ)))
  (Ju:z21 K z20 "MOST_FIGURES" = some (some (.int 60 Jt)))
  (JY:z21 K z20 "OPEN_LOSS" = some (some (.int 1 YO)))
  (JZ:z21 K z20 "OPEN_WORD" = some (some (.str "." YQ)))
  (Jp:z21 K z20 "WALL_LOSS" = some (some (.int 0 YR)))
  (J0:z21 K z20 "WALL_WORD" = some (some (.str "#" YS)))
  :
  ∃fd:FuncData,(∀(s:Shared) (v:Value),BindsTo s fd ⟨[v],[]⟩ [("_law_script",v)])/\∀base:Heap,K.In base->base.Ns z20 mg->FnOk l.prog w K mg base (CXe l.prog w) 10 fa fd ["_law_script"] (spLaw K):=by
 have e:=hfa.symm.trans (z26 X G a53)
 cases e
 have T:Txt mg:=⟨z55 X G z0,z55 X G z1,z55 X G z2,z55 X G z3,z55 X G z4,z55 X G z5,z55 X G z6,z55 X G z7,z55 X G z8,z55 X G z9,z55 X G z10,z55 X G z11,z55 X G z12,z55 X G z13⟩
 let z:Z:=⟨K,Qj,QaC,JQ,QfZ,Jt,YO,YQ,YR,YS⟩
 have con:Con mg z:=⟨z26 X G Qcs,z26 X G QaD,z26 X G JR,z26 X G Qde,z26 X G Ju,z26 X G JY,z26 X G JZ,z26 X G Jp,z26 X G J0,⟨Qgl,Qgm,Qgn,Qgo⟩,Qs,z50⟩
 have hz:Zok z:=⟨z50⟩
 obtain⟨_,_,kV,dc,pm,an,cd,ct,_,rfl,_⟩:=F53.ex
 refine⟨zg0 "law" "law" (defArgs Qip) (defBody Qip) (defScope Qip) .none kV dc pm an cd ct,fun s v=>.of_eq rfl,fun base _ _=>?_⟩
 have Jh:Qba l.prog w mg base z:=⟨_,_,(Qdg z).2 T con F1 ,z26 X G a1,F1.kp,F1.binds fun _ _ _ _ _ _=>ar1 fun _=>rfl⟩
 have QX:V9 l.prog w mg base z:=⟨_,_,(Qcu z).2 T con F2 ,z26 X G a2,F2.kp,F2.binds fun _ _ _ _ _ _=>ar1 fun _=>rfl⟩
 have VF:Qdk l.prog w mg base z:=⟨_,_,(Qbb z).2 T con F3 ,z26 X G a3,F3.kp,F3.binds fun _ _ _ _ _ _=>ar1 fun _=>rfl⟩
 have QL:Vj l.prog w mg base z:=⟨_,_,(Vi z).2 T con F4 ,⟨a4,i4,F4.kp⟩,F4.binds fun _ _ _ _ _ _=>ar1 fun _=>rfl⟩
 have QM:Vm l.prog w mg base z:=⟨_,_,(Vk z).2 T con F5 ,⟨a5,i5,F5.kp⟩,F5.binds fun _ _ _ _ _ _=>ar1 fun _=>rfl⟩
 have QN:Vo l.prog w mg base z:=⟨_,_,(Vn z).2 T con F6 ,⟨a6,i6,F6.kp⟩,F6.binds fun _ _ _ _ _ _=>ar1 fun _=>rfl⟩
 have Qk:QW l.prog w mg base z:=⟨_,_,(J4 z).2 T con F7 ,⟨a7,i7,F7.kp⟩,F7.binds fun _ _ _ _ _ _=>ar2 fun _ _=>rfl⟩
 have QbZ:Qf3 l.prog w mg base z:=⟨_,_,(Qf1 z).2 T con F8 ,z26 X G a8,F8.kp,F8.binds fun _ _ _ _ _ _=>ar1 fun _=>rfl⟩
 have YW:Qcy l.prog w mg base z:=⟨_,_,(Qaa z).2 T con F9 ,z26 X G a9,F9.kp,F9.binds fun _ _ _ _ _ _=>ar1 fun _=>rfl⟩
 have Q3:YD l.prog w mg base z:=⟨_,_,(Jq z).2 T con F10 ,z26 X G a10,F10.kp,F10.binds fun _ _ _ _ _ _=>ar2 fun _ _=>rfl⟩
 have Qq:J5 l.prog w mg base z:=⟨_,_,(Qab z).2 T con F11 ,z26 X G a11,F11.kp,F11.binds fun _ _ _ _ _ _=>ar2 fun _ _=>rfl⟩
 have Ye:Qby l.prog w mg base z:=⟨_,_,(Vr z).2 T con F12 ,z26 X G a12,F12.kp,F12.binds fun _ _ _ _ _ _=>ar1 fun _=>rfl⟩
 have JS:QaG l.prog w mg base z:=⟨_,_,(YT z).2 T con F13 ,z26 X G a13,F13.kp,F13.binds fun _ _ _ _ _ _=>ar2 fun _ _=>rfl⟩
 have Jw:VR l.prog w mg base z:=⟨_,_,(Ys z).2 T con F14 ,z26 X G a14,F14.kp,F14.binds fun _ _ _ _ _ _=>ar2 fun _ _=>rfl⟩
 have Qd:Jd l.prog w mg base z:=⟨_,_,(Qac z).2 T con F15 ,z26 X G a15,F15.kp,F15.binds fun _ _ _ _ _ _=>ar2 fun _ _=>rfl⟩
 have JT:QaJ l.prog w mg base z:=⟨_,_,(YV z).2 T con F16 ,z26 X G a16,F16.kp,F16.binds fun _ _ _ _ _ _=>ar3 fun _ _ _=>rfl⟩
 have JE:QcD l.prog w mg base z:=⟨_,_,(QeL z).2 T con F17 QX,z26 X G a17,F17.kp,F17.binds fun _ _ _ _ _ _=>ar1 fun _=>rfl⟩
 have Jb:Y7 l.prog w mg base z:=⟨_,_,(JM z).2 T con F18 Jh,z26 X G a18,F18.kp,F18.binds fun _ _ _ _ _ _=>ar1 fun _=>rfl⟩
 have Yh:QbB l.prog w mg base z:=⟨_,_,(Vs z).2 T con F19 Qk,z26 X G a19,F19.kp,F19.binds fun _ _ _ _ _ _=>ar3 fun _ _ _=>rfl⟩
 have Jx:VU l.prog w mg base z:=⟨_,_,(Yu z).2 T con F20 YW,⟨a20,i20,F20.kp⟩,F20.binds fun _ _ _ _ _ _=>ar1 fun _=>rfl⟩
 have QP:Qae l.prog w mg base z:=⟨_,_,(Qad z).2 T con F21 Jh,z26 X G a21,F21.kp,F21.binds fun _ _ _ _ _ _=>ar2 fun _ _=>rfl⟩
 have YE:Qdm l.prog w mg base z:=⟨_,_,(Qbc z).2 T con F22 QX,z26 X G a22,F22.kp,F22.binds fun _ _ _ _ _ _=>ar1 fun _=>rfl⟩
 have Qf8:Qkr l.prog w mg base z:=⟨_,_,(Qin z).2 T con F23 Qk Qq,z26 X G a23,F23.kp,F23.binds fun _ _ _ _ _ _=>ar3 fun _ _ _=>rfl⟩
 have YY:QcI l.prog w mg base z:=⟨_,_,(Qaf z).2 T con F24 Ye,z26 X G a24,F24.kp,F24.binds fun _ _ _ _ _ _=>ar1 fun _=>rfl⟩
 have YZ:QcK l.prog w mg base z:=⟨_,_,(Qag z).2 T con F25 JS,z26 X G a25,F25.kp,F25.binds fun _ _ _ _ _ _=>ar1 fun _=>rfl⟩
 have JW:Qdo l.prog w mg base z:=⟨_,_,(Qbd z).2 T con F26 Jw,z26 X G a26,F26.kp,F26.binds fun _ _ _ _ _ _=>ar2 fun _ _=>rfl⟩
 have Ji:Qbh l.prog w mg base z:=⟨_,_,(Qbf z).2 T con F27 Qd,z26 X G a27,F27.kp,F27.binds fun _ _ _ _ _ _=>ar1 fun _=>rfl⟩
 have VE:Qds l.prog w mg base z:=⟨_,_,(Qbi z).2 T con F28 JT,z26 X G a28,F28.kp,F28.binds fun _ _ _ _ _ _=>ar5 fun _ _ _ _ _=>rfl⟩
 have QY:Qaj l.prog w mg base z:=⟨_,_,(Qah z).2 T con F29 QL QM JE QP,⟨a29,i29,F29.kp⟩,F29.binds fun _ _ _ _ _ _=>ar2 fun _ _=>rfl⟩
 have Jy:VX l.prog w mg base z:=⟨_,_,(Yv z).2 T con F30 YE,z26 X G a30,F30.kp,F30.binds fun _ _ _ _ _ _=>ar1 fun _=>rfl⟩
 have QaN:QeO l.prog w mg base z:=⟨_,_,(QcM z).2 T con F31 QP,z26 X G a31,F31.kp,F31.binds fun _ _ _ _ _ _=>ar1 fun _=>rfl⟩
 have Qb0:Qf6 l.prog w mg base z:=⟨_,_,(QdZ z).2 T con F32 Qk Qq Jx,z26 X G a32,F32.kp,F32.binds fun _ _ _ _ _ _=>ar2 fun _ _=>rfl⟩
 have JV:QaM l.prog w mg base z:=⟨_,_,(YX z).2 T con F33 QN YY,z26 X G a33,F33.kp,F33.binds fun _ _ _ _ _ _=>ar1 fun _=>rfl⟩
 have VG:Qdv l.prog w mg base z:=⟨_,_,(Qbj z).2 T con F34 YZ,z26 X G a34,F34.kp,F34.binds fun _ _ _ _ _ _=>ar1 fun _=>rfl⟩
 have QZ:Qal l.prog w mg base z:=⟨_,_,(Qak z).2 T con F35 Qd Ji,z26 X G a35,F35.kp,F35.binds fun _ _ _ _ _ _=>ar1 fun _=>rfl⟩
 have Qy:J9 l.prog w mg base z:=⟨_,_,(J7 z).2 T con F36 Qd Ji,z26 X G a36,F36.kp,F36.binds fun _ _ _ _ _ _=>ar2 fun _ _=>rfl⟩
 have QE:Vv l.prog w mg base z:=⟨_,_,(Ya z).2 T con F37 VE,z26 X G a37,F37.kp,F37.binds fun _ _ _ _ _ _=>ar3 fun _ _ _=>rfl⟩
 have Qg:QD l.prog w mg base z:=⟨_,_,(Je z).2 T con F38 QY,⟨a38,i38,F38.kp⟩,F38.binds fun _ _ _ _ _ _=>ar2 fun _ _=>rfl⟩
 have Jz:V0 l.prog w mg base z:=⟨_,_,(Yw z).2 T con F39 QaN,z26 X G a39,F39.kp,F39.binds fun _ _ _ _ _ _=>ar1 fun _=>rfl⟩
 have Y2:QcP l.prog w mg base z:=⟨_,_,(Qam z).2 T con F40 Qd QZ,z26 X G a40,F40.kp,F40.binds fun _ _ _ _ _ _=>ar1 fun _=>rfl⟩
 have Yk:QbE l.prog w mg base z:=⟨_,_,(Vw z).2 T con F41 Qd Qy,z26 X G a41,F41.kp,F41.binds fun _ _ _ _ _ _=>ar3 fun _ _ _=>rfl⟩
 have Yi:QbH l.prog w mg base z:=⟨_,_,(Vx z).2 T con F42 JE Jb Qg,z26 X G a42,F42.kp,F42.binds fun _ _ _ _ _ _=>ar2 fun _ _=>rfl⟩
 have Qt:Yg l.prog w mg base z:=⟨_,_,(JF z).2 T con F43 Jy Jz,⟨Qgp,a43,i43,Qgq⟩,z26 X G Qcs,F43.binds fun _ _ _ _ _ _=>ar2 fun _ _=>rfl⟩
 have Yj:QbK l.prog w mg base z:=⟨_,_,(Vy z).2 T con F44 Qg,⟨a44,i44,F44.kp⟩,F44.binds fun _ _ _ _ _ _=>ar2 fun _ _=>rfl⟩
 have JA:V3 l.prog w mg base z:=⟨_,_,(Yx z).2 T con F45 Qk QbZ QY Qg,⟨a45,i45,F45.kp⟩,F45.binds fun _ _ _ _ _ _=>ar2 fun _ _=>rfl⟩
 have JU:QaQ l.prog w mg base z:=⟨_,_,(Y1 z).2 T con F46 VF Yh Yi,z26 X G a46,F46.kp,F46.binds fun _ _ _ _ _ _=>ar2 fun _ _=>rfl⟩
 have Qf9:Qku l.prog w mg base z:=⟨_,_,(Qio z).2 T con F47 Q3 Qq Yj JA,z26 X G a47,F47.kp,F47.binds fun _ _ _ _ _ _=>ar4 fun _ _ _ _=>rfl⟩
 have Q4:YH l.prog w mg base z:=⟨_,_,(Js z).2 T con F48 QN Qg Qt,⟨a48,i48,F48.kp⟩,F48.binds fun _ _ _ _ _ _=>ar3 fun _ _ _=>rfl⟩
 have Qb1:Qgb l.prog w mg base z:=⟨_,_,(Qd0 z).2 T con F49 Qq Qf8 Qb0 Qf9,z26 X G a49,F49.kp,F49.binds fun _ _ _ _ _ _=>ar3 fun _ _ _=>rfl⟩
 have Yl:QbN l.prog w mg base z:=⟨_,_,(Vz z).2 T con F50 VG Qt,z26 X G a50,F50.kp,F50.binds fun _ _ _ _ _ _=>ar1 fun _=>rfl⟩
 have QjF:QoL l.prog w mg base z:=⟨_,_,(Ql1 z).2 T con F51 QL QM Qb1,z26 X G a51,F51.kp,F51.binds fun _ _ _ _ _ _=>ar2 fun _ _=>rfl⟩
 have Ym:Qgd l.prog w mg base z:=⟨_,_,(Qd1 z).2 T con F52 JU QjF,z26 X G a52,F52.kp,F52.binds fun _ _ _ _ _ _=>ar2 fun _ _=>rfl⟩
 exact((Ql2 z).2 T con F53 Qd JW JV QZ Qy QE Y2 Yk Qt Q4 Yl Ym).imp fun vs H Q E hh=>Qo9 hz vs H Q E hh
theorem walk {l:zp0}{q:Program}{loose:List Str}{XP:(Str->Option Value)->Heap->Prop}{YP:World->Heap->Prop}{d:DefRec}{K:Params->z01}(hn:l.most=some 63)(hdf:d.params.defaults=[])
  (hY:∀(w:World) (h:Heap),YP w h->(K w.params).In h)
  (F:∀(w:World) (mg:Str->Option Value) (fa:Addr) (h:Heap),(K w.params).In h->h.Ns z20 mg->mg d.name=some (.ref fa)->
   ∃fd:FuncData,(∀(s:Shared) (u:Value),BindsTo s fd ⟨[u],[]⟩ [("_law_script",u)])/\∀base:Heap,(K w.params).In base->base.Ns z20 mg->FnOk l.prog w (K w.params) mg base (CXe l.prog w) 10 fa fd ["_law_script"] (spLaw (K w.params))) :
  PySem.W.WalkO q loose XP YP l.row.toRowW d [] (fun f vs=>zx1 f vs):=
 L2.walk_of (n:=63) (k:=10) (x := "_law_script") (CX:=fun w=>CXe l.prog w) (sp:=fun w=>spLaw (K w.params)) hn @3 hdf ⟨rfl,by decide,by decide,rfl⟩ hY F (fun _ _ a ns hl _ hS=>⟨a,ns,rfl,hS,fun _=>rfl⟩) fun _ _ _ _ _ ⟨_,_,_,_,_,_,_,_,_,z⟩=>z
end G22
namespace PySem.W.Fast
def tw753744169044655156:=()
def tw11546513764894308208:=()
def tw6539788105848436959:=()
def tw6064805998573687010:=()
def tw17156137724913757230:=()
def tw13733226572191521840:=()
def tw1839386425519858642:=()
def tw6108660090240505368:=()
def tw4703570561114150568:=()
def tw12420636620596772825:=()
def tw1569547933410153955:=()
def tw12839150014513957420:=()
def tw11030911080610829438:=()
def tw5129902136287113745:=()
def tw12659546298454232310:=()
def tw84261945336688260:=()
def tw9898010829216466876:=()
def tw3262305353102794050:=()
def tw4677379495603193693:=()
def tw667005056156019397:=()
def tw15517680126925799832:=()
def tw10969120882638607904:=()
def tw14554644383383790745:=()
def tw13361856491810818748:=()
def tw18411143809978109852:=()
def tw13485559644818277450:=()
def tw17678760290156425730:=()
def tw17741742519836157385:=()
def tw203541831516990829:=()
def tw14688463595799455237:=()
def tw11673768267261438227:=()
def tw10524893415358130121:=()
def tw4413814061109262017:=()
def tw17025029417221273479:=()
def tw856838388404710839:=()
def tw9256316582239768799:=()
def tw15895907455794426348:=()
def tw3283479398869668205:=()
def tw6763018669611266072:=()
def tw3433767999874768540:=()
def tw15728350392223748912:=()
def tw1819451265266679852:=()
def tw16581205348154661157:=()
def tw10512533354235521088:=()
def tw6504844604116429618:=()
def tw18083343424365567418:=()
def tw7122385769445240907:=()
def tw5379669290475713612:=()
def tw14920700068337755245:=()
def tw4856256026675642639:=()
def tw11222911373011103229:=()
def tw11992128896462476909:=()
def tw16159227793423108826:=()
def tw5529043423884445938:=()
def tw10667803743140004062:=()
def tw9429816856483260121:=()
def tw6730277175690706813:=()
def tw13447218555021856258:=()
def tw3126407958784750551:=()
def tw14056854982623105079:=()
def tw2634947927338459897:=()
def tw17889570621383105871:=()
def tw5641054436091248732:=()
def tw6233508999716521932:=()
def tw10924642463141026275:=()
def tw6594211425572498085:=()
def tw5110282021534736287:=()
def tw2277932510024146776:=()
def tw17093791175277056289:=()
def tw17060783195103669497:=()
def tw5876401225914428786:=()
def tw483850625264475533:=()
def tw7581540563391114125:=()
def tw3164697545713636046:=()
def tw4725323443203546903:=()
def tw18048102433098165381:=()
def tw16824870282774210311:=()
def tw5572280047522697649:=()
def tw14029491552897033813:=()
def tw6944295227778203670:=()
def tw13933757308886911580:=()
def tw18329534782818802980:=()
def tw3624324824093683567:=()
def tw5463694219835067324:=()
def tw14025152527908913822:=()
def tw1732310637243717296:=()
def tw1807294442329257608:=()
def tw14847355727433396811:=()
def tw3097525321931313381:=()
def tw4461937964708360181:=()
def tw11244458149516878975:=()
def tw5085159555890490404:=()
def tw12107937654062348988:=()
def tw12091700329040429230:=()
def tw3283205943174495143:=()
def tw14089459650761943867:=()
def tw330037121496389557:=()
def tw17324082560099392120:=()
def tw8937577706628033493:=()
def tw8384960808039275664:=()
def tw11395123342293705758:=()
def tw1006875696173645063:=()
def tw12433470012519311488:=()
def tw7236745467801716111:=()
def tw1070046091801936171:=()
def tw13918616150778730748:=()
def tw10518067880352097548:=()
def tw2485323985012178479:=()
def tw2368385496566327180:=()
def tw9773923830048998355:=()
def tw16495445219859940180:=()
def tw4398186545333903406:=()
def tw12601103412160295319:=()
def tw11369946856412507284:=()
def tw908894701699545693:=()
def tw2841417666084065969:=()
def tw14196260505784885438:=()
def tw5280033052993375645:=()
def tw10698763371865134429:=()
def tw13212289238201011734:=()
def tw15162388285379347669:=()
def tw6827766515292562696:=()
def tw16693496421613596445:=()
def tw12746306043355719761:=()
def tw7403991789598517238:=()
def tw10375551726356856076:=()
def tw12091788217713008213:=()
def tw8567263074767096293:=()
def tw10778018099745327713:=()
def tw2482183855626677803:=()
def tw5538448918461429292:=()
def tw613052521194322787:=()
def tw9701433710915314628:=()
def tw17158027250079554259:=()
def tw14187821253793613087:=()
def tw4137804845915645432:=()
def tw17392167938728287668:=()
def tw11496648057159496326:=()
def tw9003350751392187460:=()
def tw5127385631682320461:=()
def tw17635117085277426866:=()
def tw1413991485384567050:=()
def tw7229983466473499411:=()
def tw4636109865388240521:=()
def tw6009334602991846195:=()
def tw9033154545526819877:=()
def tw7469918041198588002:=()
def tw13507808824821986960:=()
def tw10620458263887176282:=()
def tw7711420927530055899:=()
def tw2692876668692506815:=()
def tw1077470715264557629:=()
def tw8381271857195664762:=()
def tw4911662739000784404:=()
def tw13034825896390725018:=()
def tw9463088285385352865:=()
def tw12089814227516635177:=()
def tw7770907821411022730:=()
def tw4739278620442051441:=()
def tw10097378009513676131:=()
def tw8793939897492594348:=()
def tw7003543206473758129:=()
def tw5152295457715892470:=()
def tw13322946836322958322:=()
def tw8190871775540057455:=()
def tw17965950770777537273:=()
def tw946999113405795406:=()
def tw686729909643329401:=()
def tw783083981322657619:=()
def tw5537490809312339825:=()
def tw5231865997716190435:=()
def tw14021091460065256472:=()
def tw17773687913605461936:=()
def tw13365238460761161769:=()
def tw16166245878014283395:=()
def tw8049792097937292199:=()
def tw13997426923399488852:=()
def tw17377584065523048837:=()
def tw3765417864422763288:=()
def tw13004531993752333871:=()
def tw1059306782873062974:=()
def tw4183157610084737186:=()
def tw11455858757148995975:=()
def tw1962732992007729057:=()
def tw8819103118186491505:=()
def tw18152176983451838209:=()
def tw6914856680039926974:=()
def tw4377265451483573508:=()
def tw9295808829680214271:=()
def tw8467346924659619594:=()
def tw17775369506102320189:=()
def tw2369298260292006211:=()
def tw15673796574461218406:=()
def tw816763692193580609:=()
def tw14140346887985929344:=()
def tw8033023012454126935:=()
def tw4503255764073384771:=()
def tw1188516534167195699:=()
def tw9188831900498518366:=()
def tw13385441774393492844:=()
def tw7883096744032051492:=()
def tw7075997853743037659:=()
def tw5803637517856004310:=()
def tw11362285830426794953:=()
def tw16537824206613746829:=()
def tw14212674129577220604:=()
def tw7202750284734092837:=()
def tw17568883544949389002:=()
def tw6939281343614769564:=()
def tw15716967341070626298:=()
def tw4157447959999356566:=()
def tw10960907460636445960:=()
def tw8652996145405244252:=()
def tw9282715628129371127:=()
def tw15415737610342767598:=()
def tw2052057188647412922:=()
def tw5309150988299273224:=()
def tw12091166991507563946:=()
def tw4954096978659767882:=()
def tw6105204366738592869:=()
def tw9162682691649117778:=()
def tw4410502112620371081:=()
def tw17857667481347956596:=()
def tw15295150227939005378:=()
def tw18369120207905503924:=()
def tw15777793302422747970:=()
def tw2852350421196566901:=()
def tw16327275813618560590:=()
def tw540132181525791840:=()
def tw5858712848295505683:=()
def tw12296924306693880180:=()
def tw13939755289506742813:=()
def tw4230348211267121008:=()
def tw14056326356450420148:=()
def tw5927727446147529766:=()
def tw8393329230999942587:=()
def tw4321522456536906426:=()
def tw17298543119131240210:=()
def tw16069283418783120871:=()
def tw17266754546264734279:=()
def tw2803810806030745412:=()
def tw9218243611447198945:=()
def tw13621876535361049485:=()
def tw18248317255354723613:=()
def tw16802992474505945446:=()
def tw5675417504549896377:=()
def tw15054023689626615750:=()
def tw5234324702345275329:=()
def tw16790869248500057388:=()
def tw775210852183388577:=()
def tw8565553843641245766:=()
def tw10595864633476730032:=()
def tw1701112338947787829:=()
def tw6061410463044070505:=()
def tw832020348529950227:=()
def tw17138604670132239520:=()
end PySem.W.Fast
open PySem PySem.W PyProof.Rows
set_option maxRecDepth 100000 in
set_option maxHeartbeats 0 in
theorem PySem.Challenge.cw_glowcells_k22_whole_lights_holds : PySem.Challenge.rw_glowcells_k22_whole_lights.Holds := by
 w_on;o_law;k_head;(case hw=>w_witness2)
 k_fill
 refine _root_.G22.walk (l:=PySem.Challenge.rw_glowcells_k22_whole_lights) rfl rfl (fun w h Y=>PySem.W.kIn_of Y) ?F
 case F=>
  intro w mg fa h KX GG hmg
  refine' _root_.G22.all_mk KX GG hmg ?a1 ?F1 ?a2 ?F2 ?a3 ?F3 ?a4 ?i4 ?F4 ?a5 ?i5 ?F5 ?a6 ?i6 ?F6 ?a7 ?i7 ?F7 ?a8 ?F8 ?a9 ?F9 ?a10 ?F10 ?a11 ?F11 ?a12 ?F12 ?a13 ?F13 ?a14 ?F14 ?a15 ?F15 ?a16 ?F16 ?a17 ?F17 ?a18 ?F18 ?a19 ?F19 ?a20 ?i20 ?F20 ?a21 ?F21 ?a22 ?F22 ?a23 ?F23 ?a24 ?F24 ?a25 ?F25 ?a26 ?F26 ?a27 ?F27 ?a28 ?F28 ?a29 ?i29 ?F29 ?a30 ?F30 ?a31 ?F31 ?a32 ?F32 ?a33 ?F33 ?a34 ?F34 ?a35 ?F35 ?a36 ?F36 ?a37 ?F37 ?a38 ?i38 ?F38 ?a39 ?F39 ?a40 ?F40 ?a41 ?F41 ?a42 ?F42 ?a43 ?i43 ?F43 ?a44 ?i44 ?F44 ?a45 ?i45 ?F45 ?a46 ?F46 ?a47 ?F47 ?a48 ?i48 ?F48 ?a49 ?F49 ?a50 ?F50 ?a51 ?F51 ?a52 ?F52 ?a53 ?F53 ?z0 ?z1 ?z2 ?z3 ?z4 ?z5 ?z6 ?z7 ?z8 ?z9 ?z10 ?z11 ?z12 ?z13 ?Qcs ?Qgl ?Qgm ?Qgn ?Qgo ?Qgp ?Qgq ?Qs ?QaD ?JR ?Qde ?Ju ?JY ?JZ ?Jp ?J0
  (case Qcs=>k_is)
  all_goals try k_is
  all_goals try exact L2.fun_mk (by k_is) (by k_is) (by k_is)
