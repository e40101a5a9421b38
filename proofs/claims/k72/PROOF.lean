import PyProof.Rows.All
import Wide.All
import OpenK.AllK
import Wide.FinOn
import Lean
import PyProof.EqAt
import PyProof.EqKinds
import PyProof.TupleCall
import PyProof.NeKinds
import KE.KTryMore
import PyProof.ExcBaseAll.ValueError
import OpenK.KOwn
import PyProof.ConsumeWalk
import KE.KIntText
import PyProof.EnumFor
import PyProof.EnumMake
import PyProof.StrWalks
import KE.KRevSl
import PyProof.ReprRoads
import PyProof.ReprBulk
import PyProof.Draws
import PyProof.TupleIter
import PyProof.WalksMore
import KE.KIsAll
import PyProof.RulesAs
import PyProof.NsDelKeeps
import PyProof.Rows.SetFrom
import PyProof.SetRoads
import PyProof.ListRange
import KE.KItemsList
import KE.KSortTup
import PyProof.Rows.MinMaxN
import PyProof.WalkInts
import PyProof.Rows.ListMulArg
import PyProof.Rows.SumAny
import PyProof.MaxThree
import PyProof.AttrMissHeap
import KE.KDictOf
import KE.KRevIter
import PyProof.CollectIter
import KE.IntTextLaws
import PyProof.Rows.StrSub
import PyProof.Rows.StrMul
import PyProof.StrLawsReplace
import PyProof.Rows.StrClose3
import PySem.Challenge.RW_glowcells_k72_whole_shapes
open PySem renaming wpAny_bind→z00,wpAny_pure→z06,sizeLine→z20,sizeLine_eq→z55,mainGlobals→z67,wpAny_holding→z82,wpAny_dictEntries→z83,bootBuiltins→z84,wpAny_mono→z99,mem_of_lookup→za1,wpAny_setState_of→za5,wpAny_newObj_type→za6,wpAny_call_entry→zb2,wpAny_ite_split→zc4,codeAny_builtin→zc5,wpAny_typeNameOfWhole_keyiter→zd5,wpAny_passesOwn→ze9,wpAny_dictEpoch→zf0,wpAny_forIn_list→zg1,wpAny_typeNameOf_keyiter→zg6,wpAny_specialOf→zh2,wpAny_callSpecial?_slot→zh3,wpAny_fieldsOf→zh5,codeAny_mono→zh7,wpAny_isInstance→zi0,wpAny_askSetting→zi1,wpAny_truthy_bool→zk5,wpAny_attempt→zl4,wpAny_typeOf→zn0,wpAny_isOneOf_keyiter→zn1,wpAny_execs_nil→zn2,Builtin→zn4,wpAny_setEntries_of→zo9,wpAny_of_eq→zp0,wpAny_setField_rec→zq5,wpAny_Call_Name_kw→zq6,boot_len→zs5,wpAny_updateSeq→zu9,isSubtype_type→zw3,wpAny_rule→zx3,wpAny_standAt→zx5,wpAny_newList→zx6,call→zx8,wpAny_pyNext_range_end→zy9,wpAny_pyNext_list_item→zz0,wpAny_pyIter_rangeiter→zz1
open List renaming mem_append_right→z01,getElem?_eq_getElem→z03,mem_append→z04,nodup_append→z07,mem_append_left→z08,mem_cons_of_mem→z09,length_append→z10,mem_cons_self→z12,length_map→z14,append_assoc→z15,getElem?_eq_some_iff→z17,mem_singleton→z19,size_toArray→z21,getD_eq_getElem?_getD→z22,length_cons→z25,mem_cons→z26,map_cons→z30,getElem?_map→z31,getElem?_append_right→z35,pairwise_append→z36,length_take→z39,getElem?_append_left→z41,take_append_drop→z44,getElem?_toArray→z45,range→z47,map_append→z50,nodup_cons→z53,mem_of_getElem?→z56,getElem?_set_ne→z57,append_nil→z61,extract_eq_drop_take→z63,getElem?_set_self→z64,pairwise_cons→z66,length_range→z70,getElem?_of_mem→z75,take_of_length_le→z76,pairwise_iff_getElem→z77,lookup_cons→z78,perm_iff_count→z79,zip_cons_cons→z85,mem_map→z87,all_eq_true→z88,pairwise_map→z91,mem_range→z92,drop_eq_getElem_cons→z93,getElem?_take_of_lt→z95,length_drop→z96,length_reverse→za3,zipWith_cons_cons→za4,replicate→zb1,mem_of_mem_take→zb3,mem_of_mem_drop→zb4,count_append→zb5,zipWith→zb7,map_map→zb8,length_eq_zero_iff→zc0,flatten_append→zc1,filterMap_cons→zc2,take_length→zc8,mem_reverse→zc9,getElem_inj→zd0,count_eq_zero_of_not_mem→zd1,perm_append_comm→zd6,length_singleton→zd7,foldl_cons→zd8,reverse_perm→ze2,flatten_cons→ze3,ext_getElem?→ze4,map_congr_left→zf7,length→zf8,length_set→zg2,getElem?_cons_succ→zg3,find?_cons→zg4,any_cons→zg5,drop_of_length_le→zg8,range'_succ→zh4,getElem_of_mem→zh9,getElem_range→zi6,nodup_nil→zi9,take_add_one→zj3,map_fst_zip→zk0,filter_cons→zk1,nil_append→zl0,mem_filter→zl1,count_cons→zl2,drop_zero→zm1,reverse_append→zm6,range'→zm7,mem_map_of_mem→zm8,mem_filterMap→zn9,getElem?_drop→zo0,take_succ_eq_append_getElem→zo3,take_sublist→zo6,foldl_append→zo7,set_set→zp3,take_append_of_le_length→zq1,eq_nil_of_length_eq_zero→zq2,drop_length→zq3,any_eq_true→zq4,zip_append→zr6,of_mem_zip→zr7,length_zip→zr8,length_nil→zr9,forIn_cons→zs0,nodup_iff_pairwise_ne→zt0,take_zero→zt3,take_take→zt4,take_succ→zt5,length_erase_of_mem→zu2,eraseIdx_cons_succ→zu6,length_pos_of_mem→zv4,set_append_right→zv8,pairwise_reverse→zv9,map_nil→zw0,dropLast_eq_take→zw1,reverse_reverse→zw7,mem_erase_of_ne→zw8,map_eq_cons_iff→zw9,getElem?_take→zy3,reverse_cons→zz5,drop_sublist→zz6
open PySem.W renaming Frag→z02,mg_none_of→za7,nsIn→zf5,fnOf→zf6,OpenLaw→zj8,methodObj→zn3,keepIn→zq7,codeIn→zq8,cellsFrom_some→zt1
open Option renaming map_eq_some_iff→z05,bind_eq_some_iff→z28,bind_some→z69,getD_some→zf1,map_some→zf9,toList_some→zm5,isSome_map→zn8,map→zx4,getD_none→zy0
open Array renaming getElem?_eq_getElem→z11,getElem?_toList→z13,getD_eq_getD_getElem?→z24,toList_push→z40,length_toList→z42,toList_append→z52,size_push→z54,toList_extract→z74,getElem?_eq_none→zd3,size_append→ze1,getElem?_eq_some_iff→ze5,toList_reverse→ze8,getElem?_setIfInBounds_self_of_lt→zk7,forIn_toList→zn6,getElem?_setIfInBounds_ne→zo5,toList_setIfInBounds→zs2,toList_filterMap→zu8,toList→zv5,toList_filter→zx2,isEmpty_iff→zy8,toList_inj→zz7
open PySem.Heap renaming get?_push_of_some→z16,lt_size→z33,get?_push_size→z37,get?_update_self→z68,SameBut→zb0,get?_update_other→zd4,size_push→zt6,get?_none_of_le→zx0
open Nat renaming le_refl→z18,lt_of_lt_of_le→z34,zero_le→z49,ne_of_lt→z51,lt_or_ge→z62,le_trans→z71,zero_add→z89,add_sub_cancel_left→za0,lt_succ_self→za9,le_of_lt→zb9,lt_irrefl→zc6,not_lt_zero→zd9,lt_succ_of_lt→ze6,sub_self→zi7,add_sub_cancel→zi8,ne_of_gt→zl7,lt_trans→zl8,pow_le_pow_right→zm0,lt_trichotomy→zp1,le_of_lt_succ→zp2,succ_pos→zq0,min_eq_left→zs9,mod_lt→zu5,mul_assoc→zv2,add_assoc→zv3,sub_eq_zero_of_le→zw4,pow_succ→zw5,mul_comm→zw6,testBit_two_pow→zy1,mul_le_mul_left→zy2,lt_of_le_of_lt→zz4
open Bool renaming false_ne_true→z23,false_eq_true→z29,and_eq_true_iff→z48,and_eq_true→z72,not_true→zc3,true_and→zj7,eq_iff_iff→zl3,not_false→zm2,and_self→zu7,not_eq_false'→zy7
open Option.some renaming inj→z27
open PySem.Value renaming ref→z32,none→z43,int→z80
open PySem.NameKind renaming free→z38,cell→z90
open Or renaming inl→z46,inr→z58
open True renaming intro→z59
open PySem.Obj renaming mapSeq→z60,data_mapDictKeys→zf2,putSet→zh8,isFreed_of_dict→zi2
open PySem.Heap.SameBut renaming update→z65,refl→zt7
open PySem.Paired renaming length→z73,snoc→zv7
open PySem.F renaming slot_dict_keyiterator_next→z81,called_set→z94,plain_extend_loop→za8,plainAttrs_list→zb6,type_list_append→zi4,slot_list_append→zi5,slot_dict_iter→zj4,slot_dict_get→zj9,args_dict_keyiterator_next_1→zk9,entry_dict_keyiterator_next→zl6,entry_extend_loop→zq9,slot_dict_update→zr4,plain_list_iadd→zs6,plainAttrs_dict→zs7,args_dict_get_3→zs8,entry_dict_get→zt2,slot_set_iter→zu0,plain_set_new→zu1
open Std.Legacy.Range renaming forIn_eq_forIn_range'→z86,size→zf3
open PySem.Builtin.List renaming listLengthHint→z97,listTooLong→zh6,listExtendWith→zm9,listSameRef→zo4
open PySem.Around renaming under_plainId→z98
open Int renaming toNat_natCast→za2,eq_ofNat_of_zero_le→zc7,emod_lt_of_pos→zj0,emod_nonneg→zl9,toNat_of_nonneg→zy4
open List.Perm renaming append_left→zd2,refl→ze0,trans→zj5
open PySem.Builtin.Range renaming rangeSize→ze7,small→zr2
open PySem.SeqAt.EqAt renaming int_int→zf4,same→zj2,of_refs→zk8,str_int→zt8,int_str→zt9
open Ne renaming symm→zg0
open PySem.PyData renaming hasDict→zg7,leavesShortAll→zk4,showableAll→zm3,leavesShort→zm4,hasDictAll→zn7,showable→zp8,depthAll→zp9,bulkAll→zr5,depth→zu4,bulk→zv6
open False renaming elim→zg9
open PyProof.Rows renaming envOfC→zh0,callWith_type1→zh1
open Std.Legacy renaming Range→zi3
open PySem.Builtin.Dict renaming showsAll→zj1,updateFrom→zo8,mergeDict→zp6
open ForInStep renaming yield→zj6
open PySem.Calls renaming callWith_builtin→zk2,spliced_cons→zn5,Name_function_global→zs1,evalArgs_plain→zw2,spliced_nil→zy6
open PySem.Builtin.Dict_items renaming ownsTuple→zk3
open PyProof.Rows.F renaming plain_set_update_loop→zk6,entry_set_update_loop→zx1
open PySem.Str renaming ofString→zl5
open List.Pairwise renaming imp_of_mem→zo1
open PySem.SeqAt renaming EqAt→zo2,RcNeAt→zv0,RcAt→zx7
open PySem.DictEntry renaming hash→zp4,key→zr0
open Classical renaming byContradiction→zp5,propDecidable→zr1
open PySem.SetTable renaming grown→zp7,fill→zr3,fits→zz3
open Sum renaming inr→zs3,inl→zs4
open PySem.SeqAt.RcAt renaming tuples→zu3
open Prod.mk renaming inj→zv1
open Prod renaming ext→zx9
open Iff renaming rfl→zy5
open PySem.pickOrder renaming go→zz2
set_option compiler.extract_closed false
set_option hygiene false
set_option Elab.async false
set_option linter.all false
set_option maxRecDepth 100000
noncomputable section
namespace L2
open PySem PySem.Spec PyProof.Rows
abbrev Key:=Sum Int Str
def QdE:Key->Value->Bool
 |.inl k,v=>Value.isInt k v
 |.inr x,v=>Value.isStrOf x v
def QpO (w:World):Key->Int
 |.inl k=>hashInt k
 |.inr x=>hashStr w x
theorem QC:∀{k:Key} {v:Value},QdE k v=true->(∃i t,k=zs4 i/\v=z80 i t)\/(∃x t,k=zs3 x/\v=Value.str x t)
 |.inl i,v,h=>by
  obtain⟨t,e⟩:=Value.isInt_shape (k:=i) (v:=v) h
  exact .inl ⟨i,t,rfl,e⟩
 |.inr x,v,h=>by
  obtain⟨t,e⟩:=Value.isStrOf_shape (x:=x) (v:=v) h
  exact .inr ⟨x,t,rfl,e⟩
theorem Qeh (i:Int)(t:Tok):QdE (.inl i) (.int i t)=true:=by simp[QdE,Value.isInt]
theorem Qei (x:Str)(t:Tok):QdE (.inr x) (.str x t)=true:=by simp[QdE,Value.isStrOf]
theorem Qkh (a b:Int):decide ((zs4 a:Key)=zs4 b)=(a == b):=by
 by_cases e:a=b
 ·subst e;simp
 ·have h:¬ (zs4 a:Key)=zs4 b:=fun q=>e (Sum.inl.inj q)
  rw[decide_eq_false h]
  exact(beq_eq_false_iff_ne.mpr e).symm
theorem Qki (a b:Str):decide ((zs3 a:Key)=zs3 b)=decide (a=b):=by
 by_cases e:a=b
 ·subst e;simp
 ·have h:¬ (zs3 a:Key)=zs3 b:=fun q=>e (Sum.inr.inj q)
  rw[decide_eq_false h,decide_eq_false e]
theorem Qkj (a:Int)(b:Str):decide ((zs4 a:Key)=zs3 b)=false:=decide_eq_false (fun q=>nomatch q)
theorem Qkk (a:Str)(b:Int):decide ((zs3 a:Key)=zs4 b)=false:=decide_eq_false (fun q=>nomatch q)
def Qu (prog:Program)(w:World):PySem.KeyKind prog w Key where
 is:=QdE
 hash:=QpO w
 inj:=fun v a b ha hb=>by
  rcases QC ha with⟨i,t,rfl,rfl⟩|⟨x,t,rfl,rfl⟩
  ·rcases QC hb with⟨j,u,rfl,e⟩|⟨y,u,rfl,e⟩
   ·injection e with e1 _;rw[e1]
   ·exact nomatch e
  ·rcases QC hb with⟨j,u,rfl,e⟩|⟨y,u,rfl,e⟩
   ·exact nomatch e
   ·injection e with e1 _;rw[e1]
 byValue:=fun k v h=>by
  rcases QC h with⟨i,t,rfl,rfl⟩|⟨x,t,rfl,rfl⟩<;>rfl
 pyHash:=fun hv h=>by
  rcases QC hv with⟨i,t,rfl,rfl⟩|⟨x,t,rfl,rfl⟩
  ·exact wpAny_pyHash_int h
  ·exact wpAny_pyHash_str h
 eqBool:=fun hu hv h=>by
  rcases QC hu with⟨i,t,rfl,rfl⟩|⟨x,t,rfl,rfl⟩
  ·rcases QC hv with⟨j,u,rfl,rfl⟩|⟨y,u,rfl,rfl⟩
   ·rw[Qkh] at h;exact wpAny_eqBool_int h
   ·rw[Qkj] at h;exact zt9 i t y u _ _ _ _ h
  ·rcases QC hv with⟨j,u,rfl,rfl⟩|⟨y,u,rfl,rfl⟩
   ·rw[Qkk] at h;exact zt8 x t j u _ _ _ _ h
   ·rw[Qki] at h;exact wpAny_eqBool_str h
 «strs» := fun k x t v h=>by
  rcases QC h with⟨i,u,rfl,e⟩|⟨y,u,rfl,e⟩
  ·exact nomatch e
  ·injection e with e1 _
   subst e1
   cases v<;>rfl
theorem Qca (prog:Program)(w:World)(i:Int)(t:Tok):(Qu prog w).is (.inl i) (.int i t)=true:=Qeh i t
theorem Qcb (prog:Program)(w:World)(x:Str)(t:Tok):(Qu prog w).is (.inr x) (.str x t)=true:=Qei x t
inductive V where
 |non|bl (b:Bool)|int (i:Int)|str (x:Str)|byt (b:Array UInt8)|flt (b:UInt64)|ref (a:Addr)|ty (n:String)
 deriving DecidableEq
def RelV:V->Value->Prop
 |.non,u=>u=z43
 |.bl b,u=>u=Value.bool b
 |.int i,u=>∃t,u=z80 i t
 |.str x,u=>∃t,u=Value.str x t
 |.byt b,u=>∃t,u=Value.bytes b t
 |.flt b,u=>∃t,u=Value.float b t
 |.ref a,u=>u=z32 a
 |.ty n,u=>u=Value.type n
abbrev Vals:List V->List Value->Prop:=Paired RelV
theorem Vals.length {xs:List V}{us:List Value}(r:Vals xs us):xs.length=us.length:=z73 r
theorem Vals.get:∀{xs:List V} {us:List Value} {i:Nat} {x:V},Vals xs us->xs[i]? = some x->∃u,us[i]? = some u/\RelV x u
 |_,_,_,_,.nil,e=>by simp at e
 |_,_,0,_,.cons r _,e=>by simp at e;subst e;exact⟨_,rfl,r⟩
 |_,_,i+1,x,.cons _ t,e=>by
  obtain⟨u,h1,h2⟩:=Vals.get (i:=i) (x:=x) t (by simpa using e)
  exact⟨u,by simpa using h1,h2⟩
theorem Vals.set {x:V}{u:Value}(r:RelV x u):∀{xs:List V} {us:List Value} (i:Nat),Vals xs us->Vals (xs.set i x) (us.set i u)
 |_,_,_,.nil=>.nil
 |_,_,0,.cons _ t=>.cons r t
 |_,_,i+1,.cons q t=>.cons q (Vals.set r i t)
theorem Vals.append:∀{xs ys:List V} {us ws:List Value},Vals xs us->Vals ys ws->Vals (xs++ys) (us++ws)
 |_,_,_,_,.nil,s=>s
 |_,_,_,_,.cons r t,s=>.cons r (Vals.append t s)
theorem Vals.take:∀{xs:List V} {us:List Value} (n:Nat),Vals xs us->Vals (xs.take n) (us.take n)
 |_,_,0,_=>.nil
 |_,_,_+1,.nil=>.nil
 |_,_,n+1,.cons r t=>.cons r (Vals.take n t)
theorem Vals.drop:∀{xs:List V} {us:List Value} (n:Nat),Vals xs us->Vals (xs.drop n) (us.drop n)
 |_,_,0,r=>r
 |_,_,_+1,.nil=>.nil
 |_,_,n+1,.cons _ t=>Vals.drop n t
def QdF:Option V->Option Value->Prop
 |some v,some u=>RelV v u
 |none,none=>True
 |_,_=>False
def KV {κ:Type}:List (κ×V)->List (κ×Value)->Prop:=Paired fun(p:κ×V) (q:κ×Value)=>p.1=q.1/\RelV p.2 q.2
def kV:Key->V
 |.inl i=>.int i
 |.inr x=>.str x
inductive HO where
 |lst (xs:List V)
 |tup (xs:List V)
 |dK (kvs:List (Key×V))|dT (kvs:List (List Key×V))
 |set (S:Int->Bool) (n:Nat)
 |ins (C dx:Addr) (fs:List (Str×V))
 |own (x:Addr)
 |xd (fs:List (Str×V))
 |met (f x:Addr)
 |rng (lo hi:Int)
 |frz (o:Obj) (u:HO)
 |tbl (ps:Array Value)
 |ext (φ:Heap->Prop)
abbrev Hp:=Addr->Option HO
def upd (H:Hp)(a:Addr)(o:HO):Hp:=fun b=>if b=a then some o else H b
theorem Ql {H:Hp}{a:Addr}{o:HO}:upd H a o a=some o:=by unfold upd;rw[if_pos rfl]
theorem Qg {H:Hp}{a b:Addr}{o:HO}(h:b≠a):upd H a o b=H b:=by unfold upd;rw[if_neg h]
theorem Qej {H:Hp}{a:Addr}{o u:HO}:upd (upd H a o) a u=upd H a u:=by
 funext b;unfold upd;split<;>rfl
theorem Qek {H:Hp}{a b:Addr}{o u:HO}(h:H a=some o)(h':H b=some u)(d:o≠u):a≠b:=by
 intro e;subst e;rw[h] at h';exact d (z27 h')
theorem Qm {H:Hp}{a b:Addr}{o:HO}(h:H a=some o)(h':H b=none):a≠b:=by
 intro e;subst e;rw[h] at h';cases h'
section
variable (P:Program)(w:World)
def QV (H:Hp)(h:Heap)(a:Addr):HO->Prop
 |.lst xs=>xs.length<=z20/\∃(its:List Value) (n:Nat),Vals xs its/\h.get? a=some { cls:=.type "list",data:=.seq its.toArray n }
 |.tup xs=>xs.length<=z20/\∃its:List Value,Vals xs its/\IsTup h a its.toArray
 |.dK kvs=>kvs.length<=z20/\(a == sysModules)=false/\∃vs,KV kvs vs/\h.DictOf (Qu P w) a vs
 |.dT kvs=>kvs.length<=z20/\(a == sysModules)=false/\∃xs:List (List Key×Addr×Value),
   Paired (fun(p:List Key×V) (q:List Key×Addr×Value)=>p.1=q.1/\H q.2.1=some (.tup (p.1.map kV))/\RelV p.2 q.2.2) kvs xs/\
   ∃o es ep,h.get? a=some o/\o.ExactDict/\o.data=.dict es ep/\es.toList=xs.map (entryOfKey (tupleKind (Qu P w)))/\(xs.map (·.1)).Nodup
 |.set S n=>h.SetOf (intKind P w) a S n
 |.ins C dx fs=>H dx=some (.own a)/\fs.length<=1000/\dx≠a/\h.get? a=some (PySem.W.instObj C dx)/\
   ∃mA,h.Ns1 dx mA/\(∀f,QdF (fs.lookup f) (mA f))/\PySem.Within mA (fs.map (·.1))
 |.own _=>∃o,h.get? a=some o
 |.xd fs=>∃mA,h.Ns1 a mA/\∀f,QdF (fs.lookup f) (mA f)
 |.rng lo hi=>∃t u v,h.get? a=some { cls:=.type "range",data:=.fields #[.int lo t,.int hi u,.int 1 v]}
 |.frz o u=>h.get? a=some o/\QV H h a u
 |.tbl ps=>h.get? a=some { cls:=.none,data:=.fields ps }
 |.met f x=>h.get? a=some (zn3 (.ref f) (.ref x))
 |.ext φ=>φ h/\(∃o,h.get? a=some o)/\∀h1 h2:Heap,φ h1->(∀o,h1.get? a=some o->h2.get? a=some o)->φ h2
def HOk (H:Hp)(h:Heap):Prop:=∀a o,H a=some o->QV P w H h a o
end
section
variable {P:Program}{w:World}{H H':Hp}{h h':Heap}{a:Addr}{o:HO}
theorem QV.lt (x:QV P w H h a o):a<h.objs.size:=by
 cases o with
 |lst xs=>obtain⟨_,_,_,_,e⟩:=x;exact z33 e
 |tup xs=>obtain⟨_,_,_,p⟩:=x;exact p.lt
 |dK kvs=>obtain⟨_,_,_,_,o,_,_,e,_⟩:=x;exact z33 e
 |dT kvs=>obtain⟨_,_,_,_,o,_,_,e,_⟩:=x;exact z33 e
 |set S n=>obtain⟨o,_,_,_,e,_⟩:=x;exact z33 e
 |ins C dx fs=>obtain⟨_,_,_,e,_⟩:=x;exact z33 e
 |own y=>obtain⟨_,e⟩:=x;exact z33 e
 |xd fs=>obtain⟨_,⟨_,_,_,e,_⟩,_⟩:=x;exact z33 e
 |rng lo hi=>obtain⟨_,_,_,e⟩:=x;exact z33 e
 |frz ob u=>obtain⟨e,_⟩:=x;exact z33 e
 |tbl ps=>exact z33 (show h.get? a=some _ from x)
 |met f y=>exact z33 (show h.get? a=some _ from x)
 |ext φ=>obtain⟨_,⟨_,e⟩,_⟩:=x;exact z33 e
theorem Paired.Qng {α β:Type}{F G:α->β->Prop}:∀{l₁:List α} {l₂:List β},Paired F l₁ l₂->(∀a b,F a b->G a b)->Paired G l₁ l₂
 |_,_,.nil,_=>.nil
 |_,_,.cons r t,f=>.cons (f _ _ r) (Paired.Qng t f)
theorem Paired.imp' {α β:Type}{F G:α->β->Prop}(f:∀a b,F a b->G a b){l₁:List α}{l₂:List β}(r:Paired F l₁ l₂):Paired G l₁ l₂:=Paired.Qng r f
theorem QV.stay (x:QV P w H h a o)(k:∀b u,(b=a\/H b=some (.own a))->h.get? b=some u->h'.get? b=some u)
  (ho:∀b,H b=some (.own a)->H' b=some (.own a)) (ht:∀b xs,H b=some (.tup xs)->H' b=some (.tup xs)):QV P w H' h' a o:=by
 induction o with
 |lst xs=>obtain⟨z,its,n,r,e⟩:=x;exact⟨z,its,n,r,k _ _ (.inl rfl) e⟩
 |tup xs=>obtain⟨z,its,r,ob,e,c⟩:=x;exact⟨z,its,r,ob,k _ _ (.inl rfl) e,c⟩
 |dK kvs=>obtain⟨z,y,vs,r,ob,es,ep,e,c⟩:=x;exact⟨z,y,vs,r,ob,es,ep,k _ _ (.inl rfl) e,c⟩
 |dT kvs=>
  obtain⟨z,y,xs,r,ob,es,ep,e,c⟩:=x
  exact⟨z,y,xs,Paired.Qng r fun p q z=>⟨z.1,ht _ _ z.2.1,z.2.2⟩,ob,es,ep,k _ _ (.inl rfl) e,c⟩
 |set S n=>obtain⟨ob,es,ep,t,e,c⟩:=x;exact⟨ob,es,ep,t,k _ _ (.inl rfl) e,c⟩
 |ins C dx fs=>
  obtain⟨d,z,ne,e,mA,⟨od,es,ep,e2,c⟩,r⟩:=x
  exact⟨ho _ d,z,ne,k _ _ (.inl rfl) e,mA,⟨od,es,ep,k _ _ (.inr d) e2,c⟩,r⟩
 |own y=>obtain⟨ob,e⟩:=x;exact⟨ob,k _ _ (.inl rfl) e⟩
 |xd fs=>obtain⟨mA,⟨od,es,ep,e,c⟩,r⟩:=x;exact⟨mA,⟨od,es,ep,k _ _ (.inl rfl) e,c⟩,r⟩
 |rng lo hi=>obtain⟨t,u,v,e⟩:=x;exact⟨t,u,v,k _ _ (.inl rfl) e⟩
 |frz ob u ih=>obtain⟨e,q⟩:=x;exact⟨k _ _ (.inl rfl) e,ih q⟩
 |tbl ps=>
  have e:h.get? a=some { cls:=.none,data:=.fields ps }:=x
  show h'.get? a=some { cls:=.none,data:=.fields ps }
  exact k a _ (.inl rfl) e
 |met f y=>
  have e:h.get? a=some (zn3 (.ref f) (.ref y)):=x
  show h'.get? a=some (zn3 (.ref f) (.ref y))
  exact k a _ (.inl rfl) e
 |ext φ=>obtain⟨p,⟨o,e⟩,st⟩:=x;exact⟨st _ _ p fun o q=>k _ _ (.inl rfl) q,⟨o,k _ _ (.inl rfl) e⟩,st⟩
theorem HOk.lt (x:HOk P w H h)(e:H a=some o):a<h.objs.size:=(x a o e).lt
theorem HOk.fresh (x:HOk P w H h)(e:h.objs.size<=a):H a=none:=by
 cases q:H a with
 |none=>rfl
 |some u=>exact absurd (z34 (x.lt q) e) (zc6 _)
theorem HOk.kept (x:HOk P w H h)(k:∀b u,h.get? b=some u->h'.get? b=some u):HOk P w H h':=fun a o e=>
 (x a o e).stay (fun b u _ q=>k b u q) (fun _ q=>q) fun _ _ q=>q
theorem HOk.laid (x:HOk P w H h)(k:∀b u,h.get? b=some u->h'.get? b=some u)(hp:h.objs.size<=a)(new:QV P w (upd H a o) h' a o):HOk P w (upd H a o) h':=fun b u e=>by
 have hn:=x.fresh hp
 by_cases hb:b=a
 ·subst hb;rw[Ql] at e;cases e;exact new
 ·rw[Qg hb] at e
  exact(x b u e).stay (fun c v _ q=>k c v q) (fun c q=>by rw[Qg (Qm q hn)];exact q) fun c xs q=>by rw[Qg (Qm q hn)];exact q
end
def Rd (H:Hp)(a:Addr)(u:HO):Prop:=H a=some u\/∃o,H a=some (.frz o u)
theorem Rd.of {H:Hp}{a:Addr}{u:HO}(h:H a=some u):Rd H a u:=.inl h
theorem Rd.ok {P:Program}{w:World}{H:Hp}{h:Heap}{a:Addr}{u:HO}(r:Rd H a u)(x:HOk P w H h):QV P w H h a u:=by
 rcases r with r|⟨o,r⟩
 ·exact x a u r
 ·obtain⟨_,q⟩:=x a _ r
  exact q
def Mut:Option HO->Prop
 |some (.lst _)=>True
 |some (.dK _)=>True
 |some (.dT _)=>True
 |some (.set _ _)=>True
 |some (.ins _ _ _)=>True
 |some (.ext _)=>True
 |_=>False
section
variable {P:Program}{w:World}{H:Hp}{h h':Heap}{x e:Addr}{o':HO}
theorem HOk.write (ok:HOk P w H h)(mu:Mut (H x))(he:e=x\/H e=some (.own x))(k:∀b u,b≠e->h.get? b=some u->h'.get? b=some u)(heo:∃u,h'.get? e=some u)
  (new:QV P w (upd H x o') h' x o'):HOk P w (upd H x o') h':=fun b u q=>by
 have Qo9:∀c y,H c=some (.own y)->c≠x:=fun c y r z=>by subst z;rw[r] at mu;exact mu
 have QpP:∀c xs,H c=some (.tup xs)->c≠x:=fun c xs r z=>by subst z;rw[r] at mu;exact mu
 by_cases hb:b=x
 ·subst hb;rw[Ql] at q;cases q;exact new
 ·rw[Qg hb] at q
  by_cases hbe:b=e
  ·have q':H b=some (.own x):=by
    rcases he with z|z
    ·exact absurd (hbe.trans z) hb
    ·rw[hbe];exact z
   rw[q] at q';cases q'
   obtain⟨v,hv⟩:=heo
   exact⟨v,by rw[hbe];exact hv⟩
  ·refine(ok b u q).stay (fun c v hc r=>k c v ?_ r) (fun c r=>by rw[Qg (Qo9 c b r)];exact r) fun c xs r=>by rw[Qg (QpP c xs r)];exact r
   rcases hc with rfl|hc
   ·exact hbe
   ·rintro rfl
    rcases he with z|z
    ·exact Qo9 c b hc z
    ·rw[hc] at z;cases z;exact hb rfl
end
structure Un (fs ex:List Addr)(H H':Hp)(h h':Heap):Prop where
 keep:∀b o,h.get? b=some o->H b=none->b∉fs->b∉ex->h'.get? b=some o
 slot:∀b o,h.get? b=some o->H b=none->b∈fs->b∉ex->∃sl,h'.get? b=some { o with slots:=sl }
 free:∀b o,h.get? b=some o->H b=none->b∉ex->H' b=none
 there:∀b o,h.get? b=some o->b∉ex->∃o',h'.get? b=some o'
 tups:∀b xs,H b=some (.tup xs)->H' b=some (.tup xs)
 Qgk:∀b o u,H b=some (.frz o u)->H' b=some (.frz o u)
 Qgr:∀b ps,H b=some (.tbl ps)->∃more,H' b=some (.tbl (ps++more))
section
variable {fs ex:List Addr}{H H1:Hp}{h h1 h':Heap}{a x e:Addr}{o:HO}
theorem Un.any (u:Un fs ex H H1 h h1){b:Addr}{ob:Obj}(q:h.get? b=some ob)(n:H b=none)(hx:b∉ex):∃sl,h1.get? b=some { ob with slots:=sl }:=by
 by_cases hb:b∈fs
 ·exact u.slot b ob q n hb hx
 ·exact⟨ob.slots,u.keep b ob q n hb hx⟩
theorem Un.kept (k:∀b u,h.get? b=some u->h'.get? b=some u):Un fs ex H H h h':=
 ⟨fun b ob q _ _ _=>k b ob q,fun b ob q _ _ _=>⟨ob.slots,k b ob q⟩,fun _ _ _ n _=>n,fun b ob q _=>⟨ob,k b ob q⟩,fun _ _ q=>q,fun _ _ _ q=>q,fun _ ps q=>⟨#[],by rw[q];simp⟩⟩
theorem Un.refl:Un fs ex H H h h:=Un.kept fun _ _ q=>q
theorem Un.laid (k:∀b u,h.get? b=some u->h'.get? b=some u)(hp:h.objs.size<=a)(hn:H a=none):Un fs ex H (upd H a o) h h' where
 keep:=fun b u q _ _ _=>k b u q
 slot:=fun b u q _ _ _=>⟨u.slots,k b u q⟩
 free:=fun b u q n _=>by rw[Qg (z51 (z34 (z33 q) hp))];exact n
 there:=fun b u q _=>⟨u,k b u q⟩
 tups:=fun b xs q=>by rw[Qg (Qm q hn)];exact q
 Qgk:=fun b u xs q=>by rw[Qg (Qm q hn)];exact q
 Qgr:=fun b ps q=>⟨#[],by rw[Qg (Qm q hn),q];simp⟩
theorem Un.write (mu:Mut (H x))(he:e=x\/H e=some (.own x))(k:∀b u,b≠e->h.get? b=some u->h'.get? b=some u)(heo:∃u,h'.get? e=some u):Un fs ex H (upd H x o) h h':=by
 have hx:∀b,H b=none->b≠x:=fun b n z=>by subst z;rw[n] at mu;exact mu
 have hb:∀b,H b=none->b≠e:=fun b n z=>by
  subst z
  rcases he with r|r
  ·exact hx b n r
  ·rw[n] at r;cases r
 have hm:∀b u,H b=some u->¬ Mut (some u)->b≠x:=fun b u q nm z=>by subst z;rw[q] at mu;exact nm mu
 refine⟨fun b u q n _ _=>k b u (hb b n) q,fun b u q n _ _=>⟨u.slots,k b u (hb b n) q⟩,fun b u q n _=>by rw[Qg (hx b n)];exact n,fun b u q _=>?_,
  fun b xs q=>by rw[Qg (hm b _ q fun z=>z)];exact q,fun b u xs q=>by rw[Qg (hm b _ q fun z=>z)];exact q,fun b ps q=>⟨#[],by rw[Qg (hm b _ q fun z=>z),q];simp⟩⟩
 by_cases hbe:b=e
 ·subst hbe;exact heo
 ·exact⟨u,k b u hbe q⟩
end
def trk (h:Heap)(H:Hp):List Addr:=(z47 h.objs.size).filter fun a=>(H a).isSome
def Qgs (h:Heap)(H:Hp):Heap:=PySem.W.hideAll h (trk h H)
theorem Qel (h:Heap)(H:Hp):(Qgs h H).objs.size=h.objs.size:=PySem.W.hideAll_size _ _
theorem Qgt {h:Heap}{H:Hp}{b:Addr}{o:Obj}(e:h.get? b=some o)(n:H b=none):(Qgs h H).get? b=some o:=
 PySem.W.hideAll_get _ e fun hm=>by
  have q:(H b).isSome=true:=(zl1.mp hm).2
  rw[n] at q;simp at q
theorem Qh7 {h:Heap}{H:Hp}{b:Addr}{o:Obj}(e:(Qgs h H).get? b=some o):h.get? b=some o/\H b=none:=by
 have e':h.get? b=some o:=PySem.W.of_hideAll (trk h H) e
 refine⟨e',?_⟩
 cases q:H b with
 |none=>rfl
 |some x=>
  have hm:b∈trk h H:=zl1.mpr ⟨z92.mpr (z33 e'),by simp[q]⟩
  have z:(Qgs h H).get? b=none:=PySem.W.hideAll_none (trk h H) hm
  rw[z] at e;cases e
structure Mod (K:z02)(mg:Str->Option Value)(base:Heap):Prop where
 kin:K.In base
 glob:base.Ns z67 mg
 blt:∃mb,base.Ns builtinsNs mb/\∀x:Str,x ≠ "__name__" -> mb x=z84 x
 nolimit:base.NoLimit
structure Cx where
 prog:Program
 w:World
 K:z02
 mg:Str->Option Value
 base:Heap
 A:Around
 N:List Str
 s₀:Shared
 H₀:Hp
 env:Env
 outer:List Env
 stack:List Env
 ex:List Addr
 fn:Str->Bool
 calm:Bool
 pn:List (Addr×Obj)
 xe:Value->Shared->Prop
def frs (l:List Env):List Addr:=l.filterMap (·.frame)
abbrev Cx.fs (X:Cx):List Addr:=frs X.outer
def Vis (sc:Scope)(x:Str):Prop:=sc.names.lookup x=some .local\/sc.names.lookup x=some .cell\/sc.names.lookup x=some .free
def Loc (sc:Scope)(x:Str):Prop:=sc.names.lookup x=some .local\/sc.names.lookup x=some .cell
def Look (env:Env)(h:Heap)(m:Str->Option Value)(x:Str)(u:Value):Prop:=
 (env.kindOf x=some .local/\m x=some u)\/((env.kindOf x=some .cell\/env.kindOf x=some .free)/\∃c,env.cells.lookup x=some c/\h.IsCell c (some u))
structure Cx.Ok (X:Cx):Prop where
 mod:Mod X.K X.mg X.base
 kind:X.env.scope.kind=.function
 glob:X.env.globals=z67
 blt:X.env.builtins=builtinsNs
 above:X.s₀.heap.objs.size<=X.env.locals
 inj:∀x y c,X.env.cells.lookup x=some c->X.env.cells.lookup y=some c->x=y
 has:∀x,(X.env.kindOf x=some .cell\/X.env.kindOf x=some .free)->∃c,X.env.cells.lookup x=some c
 cab:∀x c,X.fn x=true->X.env.cells.lookup x=some c->X.s₀.heap.objs.size<=c
 hd:X.calm=true->X.A.handled=none
 frames:X.A.frames=some X.stack
 stk:X.stack=X.outer\/(X.stack=X.env::X.outer/\X.env.frame=some X.env.locals)
 exf:∀b∈X.ex,b≠X.env.locals/\∀x c,X.env.cells.lookup x=some c->c≠b
 bs:∀b o,X.base.get? b=some o->X.s₀.heap.get? b=some o/\X.H₀ b=none
 bsz:X.base.objs.size<=X.s₀.heap.objs.size
 Qny:∀b o,X.base.get? b=some o->b∉X.ex
 Qnz:∀b∈X.ex,b∉X.fs
 Qgu:X.s₀.heap.FunFrames X.base X.outer
 frf:∀b∈X.fs,X.H₀ b=none
structure Inv (X:Cx)(pins:List (Addr×Obj))(σ:List (Option V))(H:Hp)(s:Shared):Prop where
 ok:X.Ok
 os:s.os=X.s₀.os
 bare:AllBare s.gens
 base:Un X.fs X.ex X.H₀ H X.s₀.heap s.heap
 loc:∃m,s.heap.Ns X.env.locals m/\∀(i:Nat) (x:Str) (v:V),X.N[i]? = some x->σ[i]? = some (some v)->Vis X.env.scope x->∃u,RelV v u/\Look X.env s.heap m x u
 cell:∀x c,X.env.cells.lookup x=some c->∃v,s.heap.IsCell c v
 free:H X.env.locals=none
 QaC:∀x c,X.env.cells.lookup x=some c->H c=none
 pin:∀p∈X.pn++pins,s.heap.get? p.1=some p.2/\H p.1=none/\p.1≠X.env.locals/\p.1∉X.fs/\∀v,p.2.data≠.cell v
 hok:HOk X.prog X.w H s.heap
 len:σ.length=X.N.length
section
variable {X:Cx}{pins:List (Addr×Obj)}{σ:List (Option V)}{H H':Hp}{s:Shared}{h':Heap}
theorem Cx.Ok.QpQ (ok:X.Ok){b:Addr}{o:Obj}(e:X.base.get? b=some o):b∉X.fs:=fun hb=>by
 have:=(ok.Qgu.mem hb).1
 rw[e] at this;cases this
theorem Inv.bs (I:Inv X pins σ H s):∀b o,X.base.get? b=some o->s.heap.get? b=some o/\H b=none:=fun b o e=>
 ⟨I.base.keep b o (I.ok.bs b o e).1 (I.ok.bs b o e).2 (I.ok.QpQ e) (I.ok.Qny b o e),I.base.free b o (I.ok.bs b o e).1 (I.ok.bs b o e).2 (I.ok.Qny b o e)⟩
theorem Inv.bk (I:Inv X pins σ H s):∀b o,X.base.get? b=some o->s.heap.get? b=some o:=fun b o e=>(I.bs b o e).1
theorem Inv.mod (I:Inv X pins σ H s):Mod X.K X.mg X.base:=I.ok.mod
theorem Inv.kIn (I:Inv X pins σ H s):X.K.In s.heap:=I.ok.mod.kin.keeps I.bk
theorem Inv.fr (I:Inv X pins σ H s):∃m,Fr X.base X.env.locals s.heap m:=
 let ⟨m,hn,_⟩:=I.loc
 ⟨m,hn,I.bk,z71 I.ok.bsz I.ok.above⟩
theorem Inv.lt (I:Inv X pins σ H s):X.env.locals<s.heap.objs.size:=let ⟨_,hn,_⟩:=I.loc;hn.lt
theorem Inv.sz (I:Inv X pins σ H s):X.s₀.heap.objs.size<=s.heap.objs.size:=z71 I.ok.above (zb9 I.lt)
theorem Inv.Qpa (I:Inv X pins σ H s){a:Addr}(h:s.heap.objs.size<=a):a∉X.fs:=fun hb=>by
 obtain⟨_,o,ho,_⟩:=I.ok.Qgu.mem hb
 exact absurd (z34 (z33 ho) (z71 I.sz h)) (zc6 _)
theorem Inv.cne (I:Inv X pins σ H s):∀x c,X.env.cells.lookup x=some c->c≠X.env.locals:=fun x c e z=>by
 obtain⟨v,o,ho,hd⟩:=I.cell x c e
 obtain⟨m,⟨o',es,ep,ho',hd',_⟩,_⟩:=I.loc
 rw[z,ho'] at ho;cases ho;rw[hd'] at hd;cases hd
theorem Inv.Qgu (I:Inv X pins σ H s):s.heap.FunFrames X.base X.outer:=by
 have all:∀(l:List Env),(∀b∈frs l,b∈X.fs)->X.s₀.heap.FunFrames X.base l->s.heap.FunFrames X.base l:=by
  intro l
  induction l with
  |nil=>intro _ _;trivial
  |cons env r ih=>
   intro hs hl
   obtain⟨hk,⟨L,o,hf,hn,ho,hd⟩,hr⟩:=hl
   have hL:L∈X.fs:=hs L (by unfold frs;rw[zc2,hf];exact z12)
   obtain⟨sl,e⟩:=I.base.slot L o ho (I.ok.frf L hL) hL fun z=>I.ok.Qnz L z hL
   exact⟨hk,⟨L,_,hf,hn,e,hd⟩,ih (fun b hb=>hs b (by unfold frs;rw[zc2,hf];exact z09 _ hb)) hr⟩
 exact all X.outer (fun _ hb=>hb) I.ok.Qgu
theorem Inv.stack (I:Inv X pins σ H s):s.heap.FunFrames X.base X.stack:=by
 rcases I.ok.stk with e|⟨e,hf⟩
 ·rw[e];exact I.Qgu
 ·rw[e]
  obtain⟨m,hn,_⟩:=I.loc
  refine .cons (by rw[I.ok.kind];decide) hf hn ?_ I.Qgu
  exact zx0 (z71 I.ok.bsz I.ok.above)
theorem Inv.Qbm (I:Inv X pins σ H s):∀b∈frs X.stack,b∈X.env.locals::X.fs:=fun b hb=>by
 rcases I.ok.stk with e|⟨e,hf⟩
 ·rw[e] at hb;exact z09 _ hb
 ·rw[e] at hb
  unfold frs at hb
  rw[zc2,hf] at hb
  exact hb
theorem Inv.Qem (I:Inv X pins σ H s):∀b∈frs X.stack,H b=none:=fun b hb=>by
 rcases z26.mp (I.Qbm b hb) with e|hb
 ·rw[e];exact I.free
 ·obtain⟨_,o,ho,_⟩:=I.ok.Qgu.mem hb
  exact I.base.free b o ho (I.ok.frf b hb) fun z=>I.ok.Qnz b z hb
theorem Inv.step {g':Array GenState}{t':Nat}{d':Drawn}{ch:List Addr}(I:Inv X pins σ H s)
  (hch:∀b∈ch,(b∈X.ex\/X.s₀.heap.objs.size<=b)/\b≠X.env.locals/\(∀x c,X.env.cells.lookup x=some c->c≠b)/\∀p∈X.pn++pins,p.1≠b)
  (keep:∀b o,b≠X.env.locals->b∉X.fs->b∉ch->s.heap.get? b=some o->H b=none->h'.get? b=some o)
  (slot:∀b o,b≠X.env.locals->b∈X.fs->b∉ch->s.heap.get? b=some o->H b=none->∃sl,h'.get? b=some { o with slots:=sl }) (free:∀b o,b∉ch->s.heap.get? b=some o->H b=none->H' b=none)
  (there:∀b o,b∉ch->s.heap.get? b=some o->∃o',h'.get? b=some o')
  (tups:∀b xs,H b=some (.tup xs)->H' b=some (.tup xs)) (Qgk:∀b o u,H b=some (.frz o u)->H' b=some (.frz o u)) (Qgr:∀b ps,H b=some (.tbl ps)->∃more,H' b=some (.tbl (ps++more)))
  (ns:∀m,s.heap.Ns X.env.locals m->h'.Ns X.env.locals m) (hok:HOk X.prog X.w H' h') (hg:AllBare g') :
  Inv X pins σ H' { s with heap:=h',gens:=g',drawn:=d',toks:=t' }:=by
 have neL:∀b o,X.s₀.heap.get? b=some o->b≠X.env.locals:=fun b o e=>z51 (z34 (z33 e) I.ok.above)
 have neC:∀b o,X.s₀.heap.get? b=some o->b∉X.ex->b∉ch:=fun b o e hx hb=>by
  rcases(hch b hb).1 with z|z
  ·exact hx z
  ·exact absurd (z34 (z33 e) z) (zc6 _)
 have cellK:∀x c,X.env.cells.lookup x=some c->∀v,s.heap.IsCell c v->h'.IsCell c v:=fun x c e v ⟨o,ho,hd⟩=>by
  have nch:c∉ch:=fun z=>(hch c z).2.2.1 x c e rfl
  by_cases hc:c∈X.fs
  ·obtain⟨sl,q⟩:=slot c o (I.cne x c e) hc nch ho (I.QaC x c e)
   exact⟨_,q,hd⟩
  ·exact⟨o,keep c o (I.cne x c e) hc nch ho (I.QaC x c e),hd⟩
 refine⟨I.ok,I.os,hg,⟨fun b o e n hb hx=>?_,fun b o e n hb hx=>?_,fun b o e n hx=>?_,fun b o e hx=>?_,fun b xs e=>tups b xs (I.base.tups b xs e),fun b o xs e=>Qgk b o xs (I.base.Qgk b o xs e),fun b ps e=>?_⟩,?_,fun x c e=>?_,?_,fun x c e=>?_,fun p hp=>?_,hok,I.len⟩
 ·exact keep b o (neL b o e) hb (neC b o e hx) (I.base.keep b o e n hb hx) (I.base.free b o e n hx)
 ·obtain⟨sl,e1⟩:=I.base.slot b o e n hb hx
  obtain⟨sl',e2⟩:=slot b _ (neL b o e) hb (neC b o e hx) e1 (I.base.free b o e n hx)
  exact⟨sl',e2⟩
 ·obtain⟨o',e1⟩:=I.base.there b o e hx
  exact free b o' (neC b o e hx) e1 (I.base.free b o e n hx)
 ·obtain⟨o',e1⟩:=I.base.there b o e hx
  exact there b o' (neC b o e hx) e1
 ·obtain⟨m1,e1⟩:=I.base.Qgr b ps e
  obtain⟨m2,e2⟩:=Qgr b _ e1
  exact⟨m1++m2,by rw[e2,Array.append_assoc]⟩
 ·obtain⟨m,hn,hl⟩:=I.loc
  refine⟨m,ns m hn,fun i x v e1 e2 e3=>?_⟩
  obtain⟨u,r,l⟩:=hl i x v e1 e2 e3
  refine⟨u,r,?_⟩
  rcases l with l|⟨k,c,e,z⟩
  ·exact .inl l
  ·exact .inr ⟨k,c,e,cellK x c e _ z⟩
 ·obtain⟨v,z⟩:=I.cell x c e
  exact⟨v,cellK x c e v z⟩
 ·obtain⟨m,⟨o,_,_,ho,_⟩,_⟩:=I.loc
  exact free _ o (fun z=>(hch _ z).2.1 rfl) ho I.free
 ·obtain⟨v,o,ho,hd⟩:=I.cell x c e
  exact free c o (fun z=>(hch c z).2.2.1 x c e rfl) ho (I.QaC x c e)
 ·obtain⟨e,n,ne,nf,d⟩:=I.pin p hp
  have nch:p.1∉ch:=fun z=>(hch p.1 z).2.2.2 p hp rfl
  exact⟨keep p.1 p.2 ne nf nch e n,free p.1 p.2 nch e n,ne,nf,d⟩
theorem Inv.un {t':Nat}(I:Inv X pins σ H s)(u:Un X.fs [] H H' s.heap h')(hok:HOk X.prog X.w H' h'):Inv X pins σ H' { s with heap:=h',toks:=t' }:=by
 obtain⟨m,⟨o,es,ep,ho,r⟩,_⟩:=id I.loc
 obtain⟨sl,hL⟩:=u.any ho I.free (by simp)
 exact I.step (g':=s.gens) (d':=s.drawn) (ch:=[]) (fun _ z=>nomatch z) (fun b o _ hb _ e n=>u.keep b o e n hb (by simp)) (fun b o _ hb _ e n=>u.slot b o e n hb (by simp)) (fun b o _ e n=>u.free b o e n (by simp)) (fun b o _ e=>u.there b o e (by simp)) u.tups u.Qgk u.Qgr (fun m' hm=>by
  obtain⟨o',es',ep',ho',r'⟩:=hm
  rw[ho] at ho';cases ho'
  exact⟨_,es',ep',hL,r'⟩) hok I.bare
theorem Inv.call {g':Array GenState}{t':Nat}{d':Drawn}{ch:List Addr}(I:Inv X pins σ H s)(u:Un (frs X.stack) ch H H' s.heap h')(hok:HOk X.prog X.w H' h')(hg:AllBare g')
  (hch:∀b∈ch,(b∈X.ex\/X.s₀.heap.objs.size<=b)/\b≠X.env.locals/\(∀x c,X.env.cells.lookup x=some c->c≠b)/\∀p∈X.pn++pins,p.1≠b) :
  Inv X pins σ H' { s with heap:=h',gens:=g',drawn:=d',toks:=t' }:=by
 obtain⟨m,⟨o,es,ep,ho,r⟩,_⟩:=id I.loc
 obtain⟨sl,hL⟩:=u.any ho I.free fun z=>(hch _ z).2.1 rfl
 exact I.step (ch:=ch) hch (fun b o hL hb hc e n=>u.keep b o e n (fun z=>(z26.mp (I.Qbm b z)).elim hL hb) hc) (fun b o _ _ hc e n=>u.any e n hc) (fun b o hc e n=>u.free b o e n hc) (fun b o hc e=>u.there b o e hc) u.tups u.Qgk u.Qgr (fun m' hm=>by
  obtain⟨o',es',ep',ho',r'⟩:=hm
  rw[ho] at ho';cases ho'
  exact⟨_,es',ep',hL,r'⟩) hok hg
theorem Inv.turned {t':Nat}{it:Addr}(I:Inv X pins σ H s)(k:∀b o,b≠it->s.heap.get? b=some o->h'.get? b=some o)(hn:H it=none)(hL:it≠X.env.locals)
  (h1:it∈X.ex\/X.s₀.heap.objs.size<=it) (h2:∀x c,X.env.cells.lookup x=some c->c≠it) (h3:∀p∈X.pn++pins,p.1≠it):Inv X pins σ H { s with heap:=h',toks:=t' }:=by
 have nit:∀b u,H b=some u->b≠it:=fun b u e z=>by rw[z,hn] at e;cases e
 refine I.step (g':=s.gens) (d':=s.drawn) (ch:=[it]) (fun b hb=>?_) (fun b o _ _ hc e _=>k b o (fun z=>hc (by simp[z])) e) (fun b o _ _ hc e _=>⟨o.slots,k b o (fun z=>hc (by simp[z])) e⟩) (fun _ _ _ _ n=>n)
  (fun b o hc e=>⟨o,k b o (fun z=>hc (by simp[z])) e⟩) (fun _ _ e=>e) (fun _ _ _ e=>e) (fun b ps e=>⟨#[],by rw[e];simp⟩) (fun m hm=>?_) (fun b u e=>?_) I.bare
 ·have e:b=it:=by simpa using hb
  subst e
  exact⟨h1,hL,h2,h3⟩
 ·obtain⟨o,es,ep,ho,r⟩:=hm
  exact⟨o,es,ep,k _ o (zg0 hL) ho,r⟩
 ·refine(I.hok b u e).stay (fun c v hc q=>k c v ?_ q) (fun _ q=>q) fun _ _ q=>q
  rcases hc with z|z
  ·rw[z];exact nit b u e
  ·exact nit c _ z
theorem Inv.tok (I:Inv X pins σ H s)(t:Nat):Inv X pins σ H { s with toks:=t }:=I.un (h':=s.heap) (t':=t) Un.refl I.hok
theorem Inv.kept {t':Nat}(I:Inv X pins σ H s)(k:∀b u,s.heap.get? b=some u->h'.get? b=some u):Inv X pins σ H { s with heap:=h',toks:=t' }:=I.un (Un.kept k) (I.hok.kept k)
theorem Inv.laid {a:Addr}{o:HO}{t':Nat}(I:Inv X pins σ H s)(k:∀b u,s.heap.get? b=some u->h'.get? b=some u)(hp:s.heap.objs.size<=a)(new:QV X.prog X.w (upd H a o) h' a o) :
  Inv X pins σ (upd H a o) { s with heap:=h',toks:=t' }:=I.un (Un.laid k hp (I.hok.fresh hp)) (I.hok.laid k hp new)
theorem Inv.write {x e:Addr}{o:HO}{t':Nat}(I:Inv X pins σ H s)(mu:Mut (H x))(he:e=x\/H e=some (.own x))(k:∀b u,b≠e->s.heap.get? b=some u->h'.get? b=some u)(heo:∃u,h'.get? e=some u)
  (new:QV X.prog X.w (upd H x o) h' x o):Inv X pins σ (upd H x o) { s with heap:=h',toks:=t' }:=I.un (Un.write mu he k heo) (I.hok.write mu he k heo new)
theorem Inv.weak {σ':List (Option V)}(I:Inv X pins σ H s)(hl:σ'.length=σ.length)(w:∀(i:Nat) v,σ'[i]? = some (some v)->σ[i]? = some (some v)):Inv X pins σ' H s:=
 ⟨I.ok,I.os,I.bare,I.base,let ⟨m,hn,hl'⟩:=I.loc;⟨m,hn,fun i x v e1 e2 e3=>hl' i x v e1 (w i v e2) e3⟩,I.cell,I.free,I.QaC,I.pin,I.hok,hl.trans I.len⟩
theorem Inv.QaD {Qkl:List (Addr×Obj)}(I:Inv X pins σ H s)(h:∀p∈Qkl,s.heap.get? p.1=some p.2/\H p.1=none/\p.1≠X.env.locals/\p.1∉X.fs/\∀v,p.2.data≠.cell v):Inv X Qkl σ H s:=
 ⟨I.ok,I.os,I.bare,I.base,I.loc,I.cell,I.free,I.QaC,fun p hp=>(z04.mp hp).elim (fun z=>I.pin p (z08 _ z)) (h p),I.hok,I.len⟩
theorem QcQ {N:List Str}(hN:N.Nodup){i j:Nat}{x:Str}(a:N[i]? = some x)(b:N[j]? = some x):i=j:=by
 obtain⟨h1,e1⟩:=z17.mp a
 obtain⟨h2,e2⟩:=z17.mp b
 exact(zd0 hN).mp (e1.trans e2.symm)
theorem Qbn {M:Model}{A:Around}{E:Value->Shared->Prop}{i:Nat}{x:Str}{v:V}{u:Value}{Q:Unit->Shared->Prop}(I:Inv X pins σ H s)(hN:X.N.Nodup)(hi:X.N[i]? = some x)(hx:Loc X.env.scope x)(r:RelV v u)
  (h:∀s',Inv X pins (σ.set i (some v)) H s'->(∃a,zb0 a s.heap s'.heap/\(a=X.env.locals\/X.env.cells.lookup x=some a))->Q () s') (hf:X.fn x=true\/X.env.scope.names.lookup x=some .local:=by first|exact .inl rfl|exact .inr rfl|assumption):wpAny M A (storeName X.env x u) Q E s:=by
 obtain⟨m,hn,hl⟩:=id I.loc
 have hcls:(X.env.scope.kind == .class || (X.env.scope.kind == .module && X.env.locals != X.env.globals))=false:=by rw[I.ok.kind];rfl
 have hiσ:i<σ.length:=by rw[I.len];exact(z17.mp hi).1
 have cne:=I.cne
 have tracked:∀{a:Addr} {h':Heap},(∃o,s.heap.get? a=some o/\H a=none)->zb0 a s.heap h'->HOk X.prog X.w H h':=fun{a h'} ha hs b ob e=>by
  obtain⟨_,_,hfree⟩:=ha
  refine(I.hok b ob e).stay (fun c w' hc q=>(hs.2 c ?_).trans q) (fun _ q=>q) fun _ _ q=>q
  rintro rfl
  rcases hc with rfl|hc
  ·rw[hfree] at e;cases e
  ·rw[hfree] at hc;cases hc
 rcases hx with hk|hk
 ·refine wpAny_storeName_local hk hn (fun h' hn' hs=>?_) hcls
  obtain⟨oL,_,_,hoL,_⟩:=id hn
  refine h _ ⟨I.ok,I.os,I.bare,⟨fun b o e n hb hx=>?_,fun b o e n hb hx=>?_,I.base.free,fun b o e hx=>?_,I.base.tups,I.base.Qgk,I.base.Qgr⟩,⟨_,hn',fun j y v' e1 e2 e3=>?_⟩,fun y c e=>?_,I.free,I.QaC,fun p hp=>?_,tracked ⟨oL,hoL,I.free⟩ hs,by simpa using I.len⟩ ⟨_,hs,.inl rfl⟩
  ·exact(hs.2 b (z51 (z34 (z33 e) I.ok.above))).trans (I.base.keep b o e n hb hx)
  ·obtain⟨sl,e1⟩:=I.base.slot b o e n hb hx
   exact⟨sl,(hs.2 b (z51 (z34 (z33 e) I.ok.above))).trans e1⟩
  ·obtain⟨o',e1⟩:=I.base.there b o e hx
   exact⟨o',(hs.2 b (z51 (z34 (z33 e) I.ok.above))).trans e1⟩
  ·by_cases hj:j=i
   ·subst hj
    rw[hi] at e1;cases e1
    rw[z64 hiσ] at e2
    cases e2
    exact⟨u,r,.inl ⟨hk,by simp⟩⟩
   ·rw[z57 (zg0 hj)] at e2
    obtain⟨u',r',q⟩:=hl j y v' e1 e2 e3
    refine⟨u',r',?_⟩
    rcases q with⟨k,e⟩|⟨k,c,e,z⟩
    ·refine .inl ⟨k,?_⟩
     have:y≠x:=fun e=>hj (QcQ hN e1 (e▸hi))
     simp[this,e]
    ·exact .inr ⟨k,c,e,z.sameBut hs (cne y c e)⟩
  ·obtain⟨w',z⟩:=I.cell y c e
   exact⟨w',z.sameBut hs (cne y c e)⟩
  ·obtain⟨e,n,ne,nf,d⟩:=I.pin p hp
   exact⟨(hs.2 p.1 ne).trans e,n,ne,nf,d⟩
 ·have hfn:X.fn x=true:=by
   rcases hf with z|z
   ·exact z
   ·rw[z] at hk;cases hk
  obtain⟨c,hc⟩:=I.ok.has x (.inl hk)
  obtain⟨w',z⟩:=I.cell x c hc
  refine wpAny_storeName_cell I.ok.kind hk hc z (fun h' hc' hs=>?_)
  obtain⟨oc,hoc,QpR⟩:=id z
  refine h { s with heap:=h' } ⟨I.ok,I.os,I.bare,⟨fun b o e n hb hx=>?_,fun b o e n hb hx=>?_,I.base.free,fun b o e hx=>?_,I.base.tups,I.base.Qgk,I.base.Qgr⟩,⟨m,hn.sameBut hs (zg0 (cne x c hc)),fun j y v' e1 e2 e3=>?_⟩,fun y c' e=>?_,I.free,I.QaC,fun p hp=>?_,tracked ⟨oc,hoc,I.QaC x c hc⟩ hs,by simpa using I.len⟩ ⟨c,hs,.inr hc⟩
  ·exact(hs.2 b (z51 (z34 (z33 e) (I.ok.cab x c hfn hc)))).trans (I.base.keep b o e n hb hx)
  ·obtain⟨sl,e1⟩:=I.base.slot b o e n hb hx
   exact⟨sl,(hs.2 b (z51 (z34 (z33 e) (I.ok.cab x c hfn hc)))).trans e1⟩
  ·obtain⟨o',e1⟩:=I.base.there b o e hx
   exact⟨o',(hs.2 b (z51 (z34 (z33 e) (I.ok.cab x c hfn hc)))).trans e1⟩
  ·by_cases hj:j=i
   ·subst hj
    rw[hi] at e1;cases e1
    rw[z64 hiσ] at e2
    cases e2
    exact⟨u,r,.inr ⟨.inl hk,c,hc,hc'⟩⟩
   ·rw[z57 (zg0 hj)] at e2
    obtain⟨u',r',q⟩:=hl j y v' e1 e2 e3
    refine⟨u',r',?_⟩
    rcases q with q|⟨k,c',e,z'⟩
    ·exact .inl q
    ·refine .inr ⟨k,c',e,z'.sameBut hs ?_⟩
     rintro rfl
     exact hj (QcQ hN e1 (I.ok.inj _ _ _ e hc▸hi))
  ·by_cases hcc:c'=c
   ·subst hcc;exact⟨_,hc'⟩
   ·obtain⟨w2,z2⟩:=I.cell y c' e
    exact⟨w2,z2.sameBut hs hcc⟩
  ·obtain⟨e,n,ne,nf,d⟩:=I.pin p hp
   refine⟨(hs.2 p.1 ?_).trans e,n,ne,nf,d⟩
   intro q
   rw[q,hoc] at e
   have q':oc=p.2:=z27 e
   exact d w' (by rw[← q'];exact QpR)
theorem QaE {M:Model}{A:Around}{E:Value->Shared->Prop}{i:Nat}{x:Str}{v:V}{u:Value}{Q:Unit->Shared->Prop}(I:Inv X pins σ H s)(hN:X.N.Nodup)(hi:X.N[i]? = some x)(hx:Loc X.env.scope x)(r:RelV v u)
  (h:∀s',Inv X pins (σ.set i (some v)) H s'->Q () s') (hf:X.fn x=true\/X.env.scope.names.lookup x=some .local:=by first|exact .inl rfl|exact .inr rfl|assumption):wpAny M A (storeName X.env x u) Q E s:=
 Qbn I hN hi hx r (fun s' I' _=>h s' I') hf
theorem Inv.call' {s':Shared}{ch:List Addr}(I:Inv X pins σ H s)(ho:s'.os=s.os)(u:Un (frs X.stack) ch H H' s.heap s'.heap)(hok:HOk X.prog X.w H' s'.heap)(hg:AllBare s'.gens)
  (hch:∀b∈ch,(b∈X.ex\/X.s₀.heap.objs.size<=b)/\b≠X.env.locals/\(∀x c,X.env.cells.lookup x=some c->c≠b)/\∀p∈X.pn++pins,p.1≠b):Inv X pins σ H' s':=by
 obtain⟨h',g',d',t',o'⟩:=s'
 have e:o'=s.os:=ho
 subst e
 exact I.call (g':=g') (t':=t') (d':=d') u hok hg hch
end
abbrev XK:=Value->Option Addr->Hp->Prop
abbrev St:=List (Option V)
abbrev VK:=V->Hp->Prop
abbrev TE:=St->Hp->VK->Prop
abbrev TT:=St->Hp->(Bool->Hp->Prop)->Prop
abbrev TA:=St->Hp->(List V->Hp->Prop)->Prop
structure Ends where
 nx:St->Hp->Prop
 rt:VK
 bk:St->Hp->Prop:=fun _ _=>False
 ct:St->Hp->Prop:=fun _ _=>False
abbrev TS:=Ends->St->Hp->Prop
def EP (X:Cx)(pins:List (Addr×Obj))(σ:St)(Q:VK)(u:Value)(s':Shared):Prop:=∃v H',Inv X pins σ H' s'/\RelV v u/\Q v H'
def TP (X:Cx)(pins:List (Addr×Obj))(σ:St)(Q:Bool->Hp->Prop)(b:Bool)(s':Shared):Prop:=∃H',Inv X pins σ H' s'/\Q b H'
def AP (X:Cx)(pins:List (Addr×Obj))(σ:St)(Q:List V->Hp->Prop)(us:List Value)(s':Shared):Prop:=∃vs H',Inv X pins σ H' s'/\Vals vs us/\Q vs H'
def SP (X:Cx)(pins:List (Addr×Obj))(D:Ends)(f:Flow)(s':Shared):Prop:=
 match f with
 |.next=>∃σ' H',Inv X pins σ' H' s'/\D.nx σ' H'
 |.brk=>∃σ' H',Inv X pins σ' H' s'/\D.bk σ' H'
 |.cont=>∃σ' H',Inv X pins σ' H' s'/\D.ct σ' H'
 |.ret u=>∃v σ' H',Inv X pins σ' H' s'/\RelV v u/\D.rt v H'
def PE (X:Cx)(e:Expr)(t:TE):Prop:=
 ∀(pins:List (Addr×Obj)) (s:Shared) (σ:St) (H:Hp) (Q:VK),Inv X pins σ H s->t σ H Q->wpAny (model X.prog X.w) X.A (eval e X.env) (EP X pins σ Q) X.xe s
def PT (X:Cx)(e:Expr)(t:TT):Prop:=
 ∀(pins:List (Addr×Obj)) (s:Shared) (σ:St) (H:Hp) (Q:Bool->Hp->Prop),Inv X pins σ H s->t σ H Q->wpAny (model X.prog X.w) X.A (isTrue e X.env (eval e X.env)) (TP X pins σ Q) X.xe s
def PW (X:Cx)(e:Expr)(t:TT):Prop:=
 ∀(whole:Sem Value) (pins:List (Addr×Obj)) (s:Shared) (σ:St) (H:Hp) (Q:Bool->Hp->Prop),Inv X pins σ H s->t σ H Q->wpAny (model X.prog X.w) X.A (isTrue e X.env whole) (TP X pins σ Q) X.xe s
theorem PW.pt {X:Cx}{e:Expr}{t:TT}(h:PW X e t):PT X e t:=h _
def PA (X:Cx)(es:List Expr)(t:TA):Prop:=
 ∀(pos:Pos) (pins:List (Addr×Obj)) (s:Shared) (σ:St) (H:Hp) (Q:List V->Hp->Prop),Inv X pins σ H s->t σ H Q->wpAny (model X.prog X.w) X.A (spliced (backTo pos (starEach es X.env))) (AP X pins σ Q) X.xe s
def PS (X:Cx)(st:Stmt)(t:TS):Prop:=
 ∀(pins:List (Addr×Obj)) (s:Shared) (σ:St) (H:Hp) (D:Ends),Inv X pins σ H s->t D σ H->wpAny (model X.prog X.w) X.A (exec st X.env) (SP X pins D) X.xe s
def PSs (X:Cx)(st:List Stmt)(t:TS):Prop:=
 ∀(pins:List (Addr×Obj)) (s:Shared) (σ:St) (H:Hp) (D:Ends),Inv X pins σ H s->t D σ H->wpAny (model X.prog X.w) X.A (execs st X.env) (SP X pins D) X.xe s
theorem thn {α:Type}{t:Sem α}{Q Q':α->Shared->Prop}{M:Model}{A:Around}{E:Value->Shared->Prop}{s:Shared}(h:wpAny M A t Q E s)(hQ:∀a s,Q a s->Q' a s):wpAny M A t Q' E s:=z99 h hQ fun _ _ x=>x
section
variable {X:Cx}
def Qgl (i:Nat):TE:=fun σ H Q=>∃v,σ[i]? = some (some v)/\Q v H
def tC (v:V):TE:=fun _ H Q=>Q v H
theorem Yh {i:Nat}{x:Str}{pos:Pos}(hN:X.N[i]? = some x)(hv:Vis X.env.scope x)(hd:(x == ("__debug__" : Str))=false:=by decide)(hcd:(x == ("__classdict__" : Str))=false:=by decide):PE X (.Name x pos) (Qgl i):=by
 intro pins s σ H Q I h
 obtain⟨v,e,h⟩:=h
 obtain⟨m,hn,hl⟩:=I.loc
 obtain⟨u,r,l⟩:=hl i x v hN e hv
 have fin:EP X pins σ Q u s:=⟨v,H,I,r,h⟩
 rcases l with⟨hk,hm⟩|⟨hk,c,hc,hcell⟩
 ·exact wpAny_Name (wpAny_loadName_local I.ok.kind hk hn hm fin) hd
 ·rcases hk with hk|hk
  ·exact wpAny_Name (wpAny_loadName_cell I.ok.kind hk hc hcell fin) hd
  ·exact wpAny_Name (wpAny_loadName_free I.ok.kind hk hc hcell fin hcd) hd
theorem QcR {i j pos}:PE X (.Constant (.int i) j pos) (tC (.int i)):=fun _ _ _ H _ I h=>wpAny_Constant_int ⟨.int i,H,I.tok _,⟨_,rfl⟩,h⟩
theorem QnA {b j pos}:PE X (.Constant (.bool b) j pos) (tC (.bl b)):=fun _ _ _ H _ I h=>Constant_bool ⟨.bl b,H,I,rfl,h⟩
def Gl (X:Cx)(x:Str):Prop:=X.env.kindOf x=some .globalImplicit
theorem Qh8 {E:Value->Shared->Prop}{pins:List (Addr×Obj)}{s:Shared}{σ:St}{H:Hp}{x:Str}{u:Value}{pos:Pos}{Q:Value->Shared->Prop}(I:Inv X pins σ H s)(hg:Gl X x)(hm:X.mg x=some u)(h:Q u s)
  (hd:(x == ("__debug__" : Str))=false:=by decide):wpAny (model X.prog X.w) X.A (eval (.Name x pos) X.env) Q E s:=
 zs1 I.ok.kind hg (Calls.loadGlobal_global (by rw[I.ok.glob];exact I.mod.glob.keeps I.bk) hm h) hd
theorem QcS {E:Value->Shared->Prop}{pins:List (Addr×Obj)}{s:Shared}{σ:St}{H:Hp}{x:Str}{u:Value}{pos:Pos}{Q:Value->Shared->Prop}(I:Inv X pins σ H s)(hg:Gl X x)(hm:X.mg x=none)(hv:z84 x=some u)(h:Q u s)
  (hn:x ≠ "__name__" := by decide) (hd:(x == ("__debug__" : Str))=false:=by decide):wpAny (model X.prog X.w) X.A (eval (.Name x pos) X.env) Q E s:=by
 obtain⟨mb,h1,h2⟩:=I.mod.blt
 exact zs1 I.ok.kind hg (Calls.loadGlobal_builtin (by rw[I.ok.glob];exact I.mod.glob.keeps I.bk) hm (by rw[I.ok.blt];exact h1.keeps I.bk) ((h2 x hn).trans hv) h) hd
variable {a b:Expr}{ta tb:TE}{pos:Pos}
def PC (X:Cx)(op:CmpOp)(a b:Expr)(t:TE):Prop:=
 ∀(pins:List (Addr×Obj)) (s:Shared) (σ:St) (H:Hp) (Q:VK),Inv X pins σ H s->t σ H Q->
  wpAny (model X.prog X.w) X.A (eval a X.env) (fun v s₁=>wpAny (model X.prog X.w) X.A (eval b X.env) (fun u s₂=>wpAny (model X.prog X.w) X.A (compareOp op v u) (EP X pins σ Q) X.xe s₂) X.xe s₁) X.xe s
def tB (t:TE):TT:=fun σ H Q=>t σ H fun x H1=>∃c,x=.bl c/\Q c H1
theorem Qhs {op:CmpOp}{t:TE}(h:PC X op a b t)(h1:behindInMarks op b=false:=by first|exact Qnh _ (by decide) (by decide)|rfl):PT X (.Compare a [op] [b] pos) (tB t):=by
 intro pins s σ H Q I hw
 refine wpAny_isTrue_Compare1 (thn (h pins s σ H _ I hw) fun v s1 h1=>thn h1 fun u s2 h2=>thn h2 fun c s3 hz=>?_) h1
 obtain⟨x,H1,I1,r1,q1⟩:=hz
 obtain⟨d,rfl,q⟩:=q1
 cases r1
 exact zk5 ⟨H1,I1,q⟩
theorem Qkm {e:Expr}{t:TE}(h:PE X e t)(he:∀whole,isTrue e X.env whole=(do let v ← whole;standAt e.pos;holding [v] (truthy v)):=by intro _;rfl):PT X e (tB t):=by
 intro pins s σ H Q I hw
 refine isTrue_plain (thn (h pins s σ H _ I hw) fun v s1 hz=>?_) (he _)
 obtain⟨x,H1,I1,r1,q1⟩:=hz
 obtain⟨d,rfl,q⟩:=q1
 cases r1
 exact zk5 ⟨H1,I1,q⟩
variable {tA tB':TT}{rest:List Expr}
def QpS (t u:TT):TT:=fun σ H Q=>t σ H fun c H1=>if c=true then u σ H1 Q else Q false H1
def tOr (t u:TT):TT:=fun σ H Q=>t σ H fun c H1=>if c=true then Q true H1 else u σ H1 Q
theorem Qh9 (ha:PT X a tA):PW X (.BoolOp .And [a] pos) tA:=by
 intro wh pins s σ H Q I h
 refine isTrue_and (thn (ha pins s σ H Q I h) fun c s1 e=>?_)
 cases c with
 |true=>exact isTrue_and_nil e
 |false=>exact e
theorem Qkn (ha:PT X a tA):PW X (.BoolOp .Or [a] pos) tA:=by
 intro wh pins s σ H Q I h
 refine isTrue_or (thn (ha pins s σ H Q I h) fun c s1 e=>?_)
 cases c with
 |false=>exact isTrue_or_nil e
 |true=>exact e
theorem Qko (ha:PT X a tA)(hb:PW X (.BoolOp .And (b::rest) pos) tB'):PW X (.BoolOp .And (a::b::rest) pos) (QpS tA tB'):=by
 intro wh pins s σ H Q I h
 refine isTrue_and (thn (ha pins s σ H _ I h) fun c s1 hz=>?_)
 obtain⟨H1,I1,q1⟩:=hz
 cases c with
 |true=>exact hb wh pins s1 σ H1 Q I1 q1
 |false=>exact⟨H1,I1,q1⟩
theorem QnB (ha:PT X a tA)(hb:PW X (.BoolOp .Or (b::rest) pos) tB'):PW X (.BoolOp .Or (a::b::rest) pos) (tOr tA tB'):=by
 intro wh pins s σ H Q I h
 refine isTrue_or (thn (ha pins s σ H _ I h) fun c s1 hz=>?_)
 obtain⟨H1,I1,q1⟩:=hz
 cases c with
 |true=>exact⟨H1,I1,q1⟩
 |false=>exact hb wh pins s1 σ H1 Q I1 q1
def QnC (ta tb:TE):TE:=fun σ H Q=>ta σ H fun x H1=>∃c,x=.bl c/\if c=true then tb σ H1 Q else Q (.bl false) H1
theorem Qkp {op}{t:TE}(h:PE X a t):PE X (.BoolOp op [a] pos) t:=fun pins s σ H Q I hw=>BoolOp_one (h pins s σ H Q I hw)
theorem Qkq (ha:PE X a ta)(hb:PE X (.BoolOp .And (b::rest) pos) tb):PE X (.BoolOp .And (a::b::rest) pos) (QnC ta tb):=by
 intro pins s σ H Q I h
 refine BoolOp_and (thn (ha pins s σ H _ I h) fun v s1 hz=>?_)
 obtain⟨x,H1,I1,r1,q1⟩:=hz
 obtain⟨c,rfl,q1⟩:=q1
 cases r1
 refine zk5 ?_
 cases c with
 |true=>exact hb pins s1 σ H1 Q I1 q1
 |false=>exact⟨.bl false,H1,I1,rfl,q1⟩
def tIf (t:TT)(ta tb:TE):TE:=fun σ H Q=>t σ H fun c H1=>if c=true then ta σ H1 Q else tb σ H1 Q
theorem Qgv {c:Expr}(hc:PT X c tA)(ha:PE X a ta)(hb:PE X b tb):PE X (.IfExp c a b pos) (tIf tA ta tb):=by
 intro pins s σ H Q I h
 refine wpAny_IfExp (thn (hc pins s σ H _ I h) fun d s1 hz=>?_)
 obtain⟨H1,I1,q1⟩:=hz
 cases d with
 |true=>exact ha pins s1 σ H1 Q I1 q1
 |false=>exact hb pins s1 σ H1 Q I1 q1
end
def SqL (K:z02)(H:Hp)(a:Addr)(xs:List V):Prop:=
 Rd H a (.lst xs)\/
  ∃(o:Obj) (its:Array Value) (n:Nat),K.lookup a=some o/\o.cls=.type "list" /\ o.dict=none/\o.data=.seq its n/\its.size<=z20/\Vals xs its.toList
def SqT (K:z02)(H:Hp)(a:Addr)(xs:List V):Prop:=
 Rd H a (.tup xs)\/
  ∃(o:Obj) (its:Array Value) (n:Nat),K.lookup a=some o/\o.cls=.type "tuple" /\ o.data=.seq its n/\its.size<=z20/\Vals xs its.toList
def QpT:Value->Option V
 |.none=>some .non
 |.bool b=>some (.bl b)
 |.int i _=>some (.int i)
 |.str x _=>some (.str x)
 |.bytes b _=>some (.byt b)
 |.float b _=>some (.flt b)
 |.ref a=>some (.ref a)
 |.type n=>some (.ty n)
 |_=>none
theorem RelV.abs {x:V}{u:Value}(r:RelV x u):QpT u=some x:=by
 cases x with
 |non=>cases r;rfl
 |bl _=>cases r;rfl
 |int _=>obtain⟨t,rfl⟩:=r;rfl
 |str _=>obtain⟨t,rfl⟩:=r;rfl
 |byt _=>obtain⟨t,rfl⟩:=r;rfl
 |flt _=>obtain⟨t,rfl⟩:=r;rfl
 |ref _=>cases r;rfl
 |ty _=>cases r;rfl
theorem RelV.inj {x y:V}{u:Value}(r:RelV x u)(q:RelV y u):x=y:=z27 (r.abs.symm.trans q.abs)
theorem Vals.inj:∀{xs ys:List V} {us:List Value},Vals xs us->Vals ys us->xs=ys
 |_,_,_,.nil,.nil=>rfl
 |_,_,_,.cons r t,.cons r' t'=>by rw[r.inj r',Vals.inj t t']
section
variable {X:Cx}{pins:List (Addr×Obj)}{σ:St}{H:Hp}{s:Shared}{a:Addr}{xs ys:List V}
theorem SqL.of {K:z02}(h:H a=some (.lst xs)):SqL K H a xs:=.inl (.inl h)
theorem SqT.of {K:z02}(h:H a=some (.tup xs)):SqT K H a xs:=.inl (.inl h)
theorem Inv.list (I:Inv X pins σ H s)(h:SqL X.K H a xs):∃its:List Value,Vals xs its/\PlainL s.heap a its.toArray/\xs.length<=z20:=by
 rcases h with h|⟨o,its,n,hk,hc,hd,hs,hz,r⟩
 ·obtain⟨z,its,n,r,e⟩:=h.ok I.hok
  exact⟨its,r,⟨_,n,e,rfl,rfl,rfl⟩,z⟩
 ·refine⟨its.toList,r,⟨o,n,I.kIn a o hk,hc,hd,by simpa using hs⟩,?_⟩
  have e:=r.length
  simp only[z42] at e
  omega
theorem Inv.tuple (I:Inv X pins σ H s)(h:SqT X.K H a xs):∃its:List Value,Vals xs its/\IsTup s.heap a its.toArray/\xs.length<=z20:=by
 rcases h with h|⟨o,its,n,hk,hc,hs,hz,r⟩
 ·obtain⟨z,its,r,p⟩:=h.ok I.hok
  exact⟨its,r,p,z⟩
 ·refine⟨its.toList,r,⟨o,I.kIn a o hk,hc,n,by simpa using hs⟩,?_⟩
  have e:=r.length
  simp only[z42] at e
  omega
theorem Inv.QcT (I:Inv X pins σ H s)(h:SqL X.K H a xs)(h':SqL X.K H a ys):xs=ys:=by
 obtain⟨its,r,⟨o,n,e,_,_,d⟩,_⟩:=I.list h
 obtain⟨its',r',⟨o',n',e',_,_,d'⟩,_⟩:=I.list h'
 rw[e] at e';cases e'
 rw[d] at d'
 injection d' with d1 _
 have:its=its':=by simpa using congrArg zv5 d1
 subst this
 exact r.inj r'
theorem Inv.Qbo (I:Inv X pins σ H s)(h:SqT X.K H a xs)(h':SqT X.K H a ys):xs=ys:=by
 obtain⟨its,r,⟨o,e,_,n,d⟩,_⟩:=I.tuple h
 obtain⟨its',r',⟨o',e',_,n',d'⟩,_⟩:=I.tuple h'
 rw[e] at e';cases e'
 rw[d] at d'
 injection d' with d1 _
 have:its=its':=by simpa using congrArg zv5 d1
 subst this
 exact r.inj r'
end
section
variable {X:Cx}{st:Stmt}{rest:List Stmt}{t u:TS}{e:Expr}{te:TE}{pos:Pos}
def QnD:TS:=fun D σ H=>D.nx σ H
def QpU (t u:TS):TS:=fun D σ H=>t { D with nx:=u D } σ H
theorem Qia:PSs X [] QnD:=fun _ _ σ H _ I h=>zn2 ⟨σ,H,I,h⟩
theorem QaF (h1:PS X st t)(h2:PSs X rest u):PSs X (st::rest) (QpU t u):=by
 intro pins s σ H D I h
 refine wpAny_execs_cons (thn (h1 pins s σ H { D with nx:=u D } I h) fun f s1 q=>?_)
 cases f with
 |next=>
  obtain⟨σ',H',I',q⟩:=q
  exact h2 pins s1 σ' H' D I' q
 |ret v=>exact q
 |brk=>exact q
 |cont=>exact q
theorem Qen (h1:PS X st t):PSs X [st] t:=by
 intro pins s σ H D I h
 refine wpAny_execs_cons (thn (h1 pins s σ H D I h) fun f s1 q=>?_)
 cases f with
 |next=>exact zn2 q
 |ret v=>exact q
 |brk=>exact q
 |cont=>exact q
theorem Inv.quiet {pins:List (Addr×Obj)}{σ:St}{H:Hp}{s:Shared}(I:Inv X pins σ H s):interactive X.env=false:=by simp[interactive,I.ok.kind]
def Qgw (te:TE):TS:=fun D σ H=>te σ H fun _ H1=>D.nx σ H1
theorem VJ (he:PE X e te)(hs:swapsWith e none pos.line X.env=pure false:=by rfl):PS X (.Expr e pos) (Qgw te):=by
 intro pins s σ H D I h
 exact wpAny_Expr_any (thn (he pins s σ H _ I h) fun v s1 ⟨x,H1,I1,r1,q1⟩=>⟨σ,H1,I1,q1⟩) I.quiet hs
def QpV (te:TE):TS:=fun D σ H=>te σ H D.rt
theorem Qkr (he:PE X e te):PS X (.Return (some e) pos) (QpV te):=by
 intro pins s σ H D I h
 exact wpAny_Return_some (thn (he pins s σ H _ I h) fun v s1 ⟨x,H1,I1,r1,q1⟩=>⟨x,σ,H1,I1,r1,q1⟩)
def QpW (c:TT)(t u:TS):TS:=fun D σ H=>c σ H fun b H1=>if b=true then t D σ H1 else u D σ H1
theorem QnE {c:Expr}{a b:List Stmt}{tc:TT}(hc:PT X c tc)(ha:PSs X a t)(hb:PSs X b u):PS X (.If c a b pos) (QpW tc t u):=by
 intro pins s σ H D I h
 refine wpAny_If (thn (hc pins s σ H _ I h) fun d s1 hz=>?_)
 obtain⟨H1,I1,q1⟩:=hz
 cases d with
 |true=>exact ha pins s1 σ H1 D I1 q1
 |false=>exact hb pins s1 σ H1 D I1 q1
end
abbrev TG:=V->St->Hp->(St->Hp->Prop)->Prop
abbrev TGs:=List V->St->Hp->(St->Hp->Prop)->Prop
def PG (X:Cx)(target:Expr)(t:TG):Prop:=
 ∀(pins:List (Addr×Obj)) (s:Shared) (σ:St) (H:Hp) (v:V) (u:Value) (Q:St->Hp->Prop),Inv X pins σ H s->RelV v u->t v σ H Q->
  wpAny (model X.prog X.w) X.A (assign target X.env u) (fun _ s'=>∃σ' H',Inv X pins σ' H' s'/\Q σ' H') X.xe s
def PGs (X:Cx)(ts:List Expr)(t:TGs):Prop:=
 ∀(pins:List (Addr×Obj)) (s:Shared) (σ:St) (H:Hp) (vs:List V) (us:List Value) (Q:St->Hp->Prop),Inv X pins σ H s->Vals vs us->t vs σ H Q->
  wpAny (model X.prog X.w) X.A (assignInOrder ((assignEach ts X.env).map (·.2)) us) (fun _ s'=>∃σ' H',Inv X pins σ' H' s'/\Q σ' H') X.xe s
abbrev QnF:=V->V->V->Hp->(Hp->Prop)->Prop
def Qpb (X:Cx)(t:QnF):Prop:=
 ∀(pins:List (Addr×Obj)) (s:Shared) (σ:St) (H:Hp) (o i v:V) (ov iv u:Value) (Q:Hp->Prop),Inv X pins σ H s->RelV o ov->RelV i iv->RelV v u->t o i v H Q->
  wpAny (model X.prog X.w) X.A (setItem ov iv u) (fun _ s'=>∃H',Inv X pins σ H' s'/\Q H') X.xe s
abbrev TIp:=V->V->Hp->VK->Prop
def PIp (X:Cx)(op:Operator)(t:TIp):Prop:=
 ∀(pins:List (Addr×Obj)) (s:Shared) (σ:St) (H:Hp) (x y:V) (v u:Value) (Q:VK),Inv X pins σ H s->RelV x v->RelV y u->t x y H Q->
  wpAny (model X.prog X.w) X.A (inplaceOp op v u) (EP X pins σ Q) X.xe s
section
variable {X:Cx}{pos:Pos}
def VL (i:Nat):TG:=fun v σ H Q=>Q (σ.set i (some v)) H
theorem QW {i:Nat}{x:Str}(hN:X.N.Nodup)(hi:X.N[i]? = some x)(hx:Loc X.env.scope x)(hf:X.fn x=true\/X.env.scope.names.lookup x=some .local:=by first|exact .inl rfl|exact .inr rfl|assumption):PG X (.Name x pos) (VL i):=by
 intro pins s σ H v u Q I r h
 exact wpAny_assign_Name (QaE I hN hi hx r (fun s' I'=>⟨_,H,I',h⟩) hf)
def QnG:TGs:=fun vs σ H Q=>vs=[]/\Q σ H
def Qeo (t:TG)(u:TGs):TGs:=fun vs σ H Q=>∃v r,vs=v::r/\t v σ H fun σ' H'=>u r σ' H' Q
theorem Qep:PGs X [] QnG:=by
 intro pins s σ H vs us Q I r h
 obtain⟨e,h⟩:=h
 subst e
 cases r
 exact assignInOrder_nil ⟨σ,H,I,h⟩
theorem Vu {e:Expr}{es:List Expr}{t:TG}{u:TGs}(h1:PG X e t)(h2:PGs X es u)
  (hs:(assignEach (e::es) X.env).map (·.2)=assign e X.env::(assignEach es X.env).map (·.2):=by rfl):PGs X (e::es) (Qeo t u):=by
 intro pins s σ H vs us Q I r h
 obtain⟨v,vr,e1,h⟩:=h
 subst e1
 cases r with
 |cons r rr=>
  rw[hs]
  refine assignInOrder_cons (thn (h1 pins s σ H _ _ _ I r h) fun _ s1 hz=>?_)
  obtain⟨σ1,H1,I1,q1⟩:=hz
  exact h2 pins s1 σ1 H1 _ _ Q I1 rr q1
def QnH (K:z02)(n:Nat)(t:TGs):TG:=fun v σ H Q=>∃a xs,v=.ref a/\SqT K H a xs/\xs.length=n/\t xs σ H Q
theorem Qht {es:List Expr}{k:Nat}{t:TGs}{n:Nat}(hc:X.calm=true)(h:PGs X es t)
  (hn:(assignEach es X.env).length=n:=by rfl) (hst:(assignEach es X.env).findIdx? (·.1)=none:=by rfl):PG X (.Tuple es k pos) (QnH X.K n t):=by
 intro pins s σ H v u Q I r hw
 obtain⟨a,xs,e1,hq,hl,hw⟩:=hw
 subst e1
 cases r
 obtain⟨its,rv,ht,hz⟩:=I.tuple hq
 refine assign_Tuple_tuple (I.ok.hd hc) ht (by simp[hn,← hl,rv.length]) hst fun h' hx=>?_
 have I1:Inv X pins σ H { s with heap:=h' }:=I.kept (t':=s.toks) fun b o e=>hx b o (z51 (z33 e)) e
 exact h pins _ σ H xs _ Q I1 (by simpa using rv) hw
def Qib (to ti:TE)(t:QnF):TG:=fun v σ H Q=>to σ H fun o H1=>ti σ H1 fun i H2=>t o i v H2 fun H3=>Q σ H3
theorem Qbp {o i:Expr}{to ti:TE}{t:QnF}(ho:PE X o to)(hi:PE X i ti)(hs:Qpb X t)
  (ha:∀v,assign (.Subscript o i pos) X.env v=(do
   let ov ← holding [v] (eval o X.env)
   let iv ← holding [v,ov] (eval i X.env)
   standAt pos
   holding [v,ov,iv] (setItem ov iv v)
   release [v,ov,iv] []):=by intro _;rfl):PG X (.Subscript o i pos) (Qib to ti t):=by
 intro pins s σ H v u Q I r h
 rw[ha]
 refine z00 (z82 (thn (ho pins s σ H _ I h) fun ov s1 hz=>?_))
 obtain⟨x,H1,I1,r1,q1⟩:=hz
 refine z00 (z82 (thn (hi pins s1 σ H1 _ I1 q1) fun iv s2 hz=>?_))
 obtain⟨y,H2,I2,r2,q2⟩:=hz
 refine z00 (zx5 (z00 (z82 (thn (hs pins s2 σ H2 x y v ov iv u _ I2 r1 r2 r q2) fun _ s3 hz=>?_))))
 obtain⟨H3,I3,q3⟩:=hz
 exact wpAny_release ⟨σ,H3,I3,q3⟩
def Qks (te:TE)(g:TG):TS:=fun D σ H=>te σ H fun x H1=>g x σ H1 D.nx
theorem Qeq {tg e:Expr}{te:TE}{g:TG}(he:PE X e te)(hg:PG X tg g)(hs:swapsWithSole [tg] e pos.line X.env=pure false:=by rfl)(hw:swappedStores [tg] e X.env=pure none:=by rfl)
  (h1:(assignEach [tg] X.env).map (·.2)=[assign tg X.env]:=by rfl):PS X (.Assign [tg] e pos) (Qks te g):=by
 intro pins s σ H D I h
 refine wpAny_Assign_stores (thn (he pins s σ H _ I h) fun v s1 hz=>?_) hs hw
 obtain⟨x,H1,I1,r1,q1⟩:=hz
 rw[h1]
 exact thn (hg pins s1 σ H1 x v _ I1 r1 q1) fun _ s2 q=>q
theorem Qhu {i:Nat}{x:Str}{e:Expr}{te:TE}{pos':Pos}(hN:X.N.Nodup)(hi:X.N[i]? = some x)(hx:Loc X.env.scope x)(he:PE X e te)(hs:swapsWith e (some (.Name x pos')) pos.line X.env=pure false:=by rfl)(hf:X.fn x=true\/X.env.scope.names.lookup x=some .local:=by first|exact .inl rfl|exact .inr rfl|assumption) :
  PS X (.Assign [.Name x pos'] e pos) (Qks te (VL i)):=by
 intro pins s σ H D I h
 refine wpAny_Assign_Name (thn (he pins s σ H _ I h) fun v s1 hz=>?_) hs
 obtain⟨y,H1,I1,r1,q1⟩:=hz
 exact QaE I1 hN hi hx r1 (fun s2 I2=>⟨_,H1,I2,q1⟩) hf
def QpX (i:Nat)(te:TE)(ti:TIp):TS:=fun D σ H=>∃x,σ[i]? = some (some x)/\te σ H fun y H1=>ti x y H1 fun z H2=>D.nx (σ.set i (some z)) H2
theorem Qkt {i:Nat}{x:Str}{e:Expr}{te:TE}{op:Operator}{ti:TIp}{pos':Pos}(hN:X.N.Nodup)(hi:X.N[i]? = some x)(hx:Loc X.env.scope x)(he:PE X e te)(ho:PIp X op ti)(hf:X.fn x=true\/X.env.scope.names.lookup x=some .local:=by first|exact .inl rfl|exact .inr rfl|assumption) :
  PS X (.AugAssign (.Name x pos') op e pos) (QpX i te ti):=by
 intro pins s σ H D I h
 obtain⟨v,e1,h⟩:=h
 obtain⟨m,hn,hl⟩:=I.loc
 have vis:Vis X.env.scope x:=by rcases hx with k|k;exact .inl k;exact .inr (.inl k)
 obtain⟨u,r,l⟩:=hl i x v hi e1 vis
 refine wpAny_AugAssign_Name ?_
 have go:wpAny (model X.prog X.w) X.A (eval e X.env) (fun w s₂=>wpAny (model X.prog X.w) X.A (inplaceOp op u w) (fun r s₃=>wpAny (model X.prog X.w) X.A (storeName X.env x r) (fun _=>SP X pins D .next) X.xe s₃) X.xe s₂) X.xe s:=by
  refine thn (he pins s σ H _ I h) fun w s1 hz=>?_
  obtain⟨y,H1,I1,r1,q1⟩:=hz
  refine thn (ho pins s1 σ H1 v y u w _ I1 r r1 q1) fun z s2 hz=>?_
  obtain⟨zv,H2,I2,r2,q2⟩:=hz
  exact QaE I2 hN hi hx r2 (fun s3 I3=>⟨_,H2,I3,q2⟩) hf
 rcases l with⟨hk,hm⟩|⟨hk,c,hc,hcell⟩
 ·exact wpAny_loadName_local I.ok.kind hk hn hm go
 ·rcases hk with hk|hk
  ·exact wpAny_loadName_cell I.ok.kind hk hc hcell go
  ·rcases hx with k|k
   ·have:X.env.scope.names.lookup x=some .free:=hk
    rw[k] at this;cases this
   ·have:X.env.scope.names.lookup x=some .free:=hk
    rw[k] at this;cases this
def ipI (f:Int->Int->Int):TIp:=fun x y H Q=>∃i j,x=.int i/\y=.int j/\Q (.int (f i j)) H
theorem Qku:PIp X .Add (ipI fun i j=>i+j):=by
 intro pins s σ H x y v u Q I r1 r2 h
 obtain⟨i,j,e1,e2,q⟩:=h
 subst e1;subst e2
 obtain⟨t,rfl⟩:=r1
 obtain⟨t',rfl⟩:=r2
 exact iadd_int ⟨.int _,H,I.tok _,⟨_,rfl⟩,q⟩
end
section
variable {X:Cx}{pos:Pos}
def Qkv (c:TT)(tb:TS):TS:=fun D σ H=>∃W:Nat->St->Hp->Prop,(∃m,W m σ H)/\∀m σ H,W m σ H->
 c σ H fun b H1=>if b=true then ∃N:St->Hp->Prop,(∀σ' H',N σ' H'->∃m',m' < m/\W m' σ' H')/\tb { D with nx:=N,ct:=N,bk:=D.nx } σ H1 else D.nx σ H1
theorem Qgx {c:Expr}{body:List Stmt}{tc:TT}{tb:TS}(hp:PassesOwn (model X.prog X.w) X.A X.env X.xe)(hc:PT X c tc)(hb:PSs X body tb):PS X (.While c body [] pos) (Qkv tc tb):=by
 intro pins s σ H D I h
 obtain⟨W,⟨m0,w0⟩,turn⟩:=h
 refine wpAny_While (codeAny_whileLoop (fun n s'=>∃σ' H',Inv X pins σ' H' s'/\W n σ' H') ?_ m0 ⟨σ,H,I,w0⟩)
 rintro n s1 ⟨σ1,H1,I1,w1⟩
 refine ze9 hp (thn (hc pins s1 σ1 H1 _ I1 (turn n σ1 H1 w1)) fun b s2 hz=>?_)
 obtain⟨H2,I2,q2⟩:=hz
 cases b with
 |true=>
  obtain⟨N,hN,q2⟩:=q2
  rw[if_pos rfl]
  refine ze9 hp (thn (hb pins s2 σ1 H2 _ I2 q2) fun f s3 q3=>?_)
  cases f with
  |next=>
   obtain⟨σ3,H3,I3,n3⟩:=q3
   obtain⟨m',hm,w3⟩:=hN σ3 H3 n3
   exact⟨m',hm,σ3,H3,I3,w3⟩
  |cont=>
   obtain⟨σ3,H3,I3,n3⟩:=q3
   obtain⟨m',hm,w3⟩:=hN σ3 H3 n3
   exact⟨m',hm,σ3,H3,I3,w3⟩
  |brk=>exact q3
  |ret v=>exact q3
 |false=>
  rw[if_neg z23]
  exact zn2 ⟨σ1,H2,I2,q2⟩
end
structure It where
 go:Nat->Hp->Prop
 yld:Nat->Hp->V->Hp->Prop
 stop:Nat->Hp->Prop
def Qic (X:Cx)(pins:List (Addr×Obj))(H:Hp)(b:Addr):Prop:=
 H b=none/\b≠X.env.locals/\b∉X.fs/\(b∈X.ex\/X.s₀.heap.objs.size<=b)/\(∀x c,X.env.cells.lookup x=some c->c≠b)/\∀p∈X.pn++pins,p.1≠b
theorem Inv.Qni {X:Cx}{pins:List (Addr×Obj)}{σ:St}{H H':Hp}{s:Shared}{b:Addr}(I:Inv X pins σ H s)(hb:s.heap.objs.size<=b)(hn:H' b=none):Qic X pins H' b:=by
 refine⟨hn,zl7 (z34 I.lt hb),I.Qpa hb,.inr (z71 I.sz hb),fun x c e z=>?_,fun p hp z=>?_⟩
 ·obtain⟨v,q⟩:=I.cell x c e
  exact absurd (z34 q.lt (by rw[z];exact hb)) (zc6 _)
 ·exact absurd (z34 (z33 (I.pin p hp).1) (by rw[z];exact hb)) (zc6 _)
structure Turn (P:Program)(w:World)(K:z02)(tg:Expr)(J:It)(fp:List Addr)(it:Addr)(tn:Nat->Heap->Prop):Prop where
 mem:it∈fp
 obj:∀i h,tn i h->∀b∈fp,∃o,h.get? b=some o/\∀v,o.data≠.cell v
 keep:∀i h h',tn i h->(∀b∈fp,∀o,h.get? b=some o->h'.get? b=some o)->tn i h'
 item:∀(X:Cx),X.prog=P->X.w=w->X.K=K->X.calm=true->∀(i:Nat) (pins:List (Addr×Obj)) (s:Shared) (σ:St) (H:Hp) (E:Value->Shared->Prop),Inv X pins σ H s->(∀b∈fp,Qic X pins H b)->tn i s.heap->J.go i H->
  wpAny (model P w) X.A (pyNext (.ref it)) (fun r s1=>∃u,r=some u/\
   wpAny (model P w) X.A (letOwnedTupleGo tg (.ref it) u) (fun _ s2=>∃x H',Inv X pins σ H' s2/\RelV x u/\J.yld i H x H'/\tn (i+1) s2.heap/\∀b∈fp,H' b=none) E s1) E s
 done:∀(X:Cx),X.prog=P->X.w=w->X.K=K->X.calm=true->∀(i:Nat) (pins:List (Addr×Obj)) (s:Shared) (σ:St) (H:Hp) (E:Value->Shared->Prop),Inv X pins σ H s->(∀b∈fp,Qic X pins H b)->tn i s.heap->J.stop i H->
  wpAny (model P w) X.A (pyNext (.ref it)) (fun r s1=>r=none/\Inv X pins σ H s1) E s
 self:∀(A:Around) (i:Nat) (s:Shared) (Q:Value->Shared->Prop) (E:Value->Shared->Prop),tn i s.heap->Q (.ref it) s->wpAny (model P w) A (pyIter (.ref it)) Q E s
abbrev TI:=St->Hp->(It->Hp->Prop)->Prop
def PIE (X:Cx)(pins:List (Addr×Obj))(σ:St)(tg:Expr)(R:It->Hp->Prop)(itv:Value)(s2:Shared):Prop:=
 ∃(it:Addr) (fp:List Addr) (tn:Nat->Heap->Prop) (J:It) (H':Hp),itv=.ref it/\Inv X pins σ H' s2/\Turn X.prog X.w X.K tg J fp it tn/\tn 0 s2.heap/\(∀b∈fp,Qic X pins H' b)/\R J H'
def PI (X:Cx)(tg iter:Expr)(wi:TI):Prop:=
 ∀(pins:List (Addr×Obj)) (s:Shared) (σ:St) (H:Hp) (R:It->Hp->Prop),Inv X pins σ H s->wi σ H R->
  wpAny (model X.prog X.w) X.A (eval iter X.env) (fun v s1=>wpAny (model X.prog X.w) X.A (pyIter v) (PIE X pins σ tg R) X.xe s1) X.xe s
theorem Qgy {M:Model}{A:Around}{E:Value->Shared->Prop}{s:Shared}{tg:Expr}{it:Addr}{u:Value}{o:Obj}{n:String}{vs:Array Value}{Q:Unit->Shared->Prop}(ho:s.heap.get? it=some o)(hc:o.cls=.type n)(hd:o.data=.fields vs)
  (hn:["enumerate","zip","dict_itemiterator","dict_reverseitemiterator","odict_iterator","itertools.zip_longest","itertools.pairwise"].contains n=false) (hQ:Q () s):wpAny M A (letOwnedTupleGo tg (.ref it) u) Q E s:=by
 unfold letOwnedTupleGo
 cases tg<;>first
  |exact z06 hQ
  |(cases u<;>first
    |exact z06 hQ
    |(refine z00 (wpAny_load ho ?_);rw[hc,hd];show wpAny M A (if(["enumerate","zip","dict_itemiterator","dict_reverseitemiterator","odict_iterator","itertools.zip_longest","itertools.pairwise"].contains n && vs[0]? == some (rawInt _))=true then _ else _) Q E s;rw[if_neg (by intro h;rw[hn,Bool.false_and] at h;cases h)];exact z06 hQ))
def Itl (K:z02)(a:Addr):It:=
 ⟨fun i H=>∃xs x,SqL K H a xs/\xs[i]? = some x,fun i H x H'=>H'=H/\∀xs,SqL K H a xs->xs[i]? = some x,fun i H=>∃xs,SqL K H a xs/\xs.length<=i⟩
def Itt (K:z02)(a:Addr):It:=
 ⟨fun i H=>∃xs x,SqT K H a xs/\xs[i]? = some x,fun i H x H'=>H'=H/\∀xs,SqT K H a xs->xs[i]? = some x,fun i H=>∃xs,SqT K H a xs/\xs.length<=i⟩
def Itr (lo:Int)(n:Nat):It:=⟨fun i _=>i<n,fun i H x H'=>H'=H/\x=.int (lo+i),fun i _=>n<=i⟩
theorem Qer {P:Program}{w:World}{K:z02}{tg:Expr}(a it:Addr):Turn P w K tg (Itl K a) [it] it (fun i h=>h.IsListIter it a i) where
 mem:=by simp
 obj:=fun i h st b hb=>by
  have e:b=it:=by simpa using hb
  subst e
  obtain⟨o,e,c,d⟩:=st
  exact⟨o,e,fun v z=>by rw[d] at z;cases z⟩
 keep:=fun i h h' st k=>st.at fun o e=>k it (by simp) o e
 item:=by
  intro X hP hw hK hc i pins s σ H E I hf st hg
  subst hP hw hK
  obtain⟨xs,x,hq,hx⟩:=hg
  obtain⟨its,rv,p,hz⟩:=I.list hq
  obtain⟨u,hu,ru⟩:=rv.get hx
  obtain⟨f0,f1,f2,f3,f4,f5⟩:=hf it (by simp)
  refine zz0 st p.isList (x:=u) (by simpa using hu) fun h' st' sb=>?_
  have I1:Inv X pins σ H { s with heap:=h' }:=I.turned (t':=s.toks) (fun b o hb e=>(sb.2 b hb).trans e) f0 f1 f3 f4 f5
  obtain⟨o,e,c,d⟩:=id st'
  exact⟨u,rfl,Qgy (s:={ s with heap:=h' }) e c d (by decide) ⟨x,H,I1,ru,⟨rfl,fun ys hy=>by rw[I.QcT hy hq];exact hx⟩,st',fun b hb=>(hf b hb).1⟩⟩
 done:=by
  intro X hP hw hK hc i pins s σ H E I hf st hg
  subst hP hw hK
  obtain⟨xs,hq,hx⟩:=hg
  obtain⟨its,rv,p,hz⟩:=I.list hq
  obtain⟨f0,f1,f2,f3,f4,f5⟩:=hf it (by simp)
  have hl:=rv.length
  exact wpAny_pyNext_list_end (I.ok.hd hc) st p.isList (by simp;omega) fun h' eb=>⟨rfl,I.turned (t':=s.toks) (fun b o hb e=>eb b o hb e) f0 f1 f3 f4 f5⟩
 self:=fun _ _ _ _ _ st h=>wpAny_pyIter_listiter st h
theorem QdG {P:Program}{w:World}{K:z02}{tg:Expr}(a it:Addr):Turn P w K tg (Itt K a) [it] it (fun i h=>h.IsTupleIter it a i) where
 mem:=by simp
 obj:=fun i h st b hb=>by
  have e:b=it:=by simpa using hb
  subst e
  obtain⟨o,e,c,d⟩:=st
  exact⟨o,e,fun v z=>by rw[d] at z;cases z⟩
 keep:=fun i h h' st k=>st.at fun o e=>k it (by simp) o e
 item:=by
  intro X hP hw hK hc i pins s σ H E I hf st hg
  subst hP hw hK
  obtain⟨xs,x,hq,hx⟩:=hg
  obtain⟨its,rv,p,hz⟩:=I.tuple hq
  obtain⟨u,hu,ru⟩:=rv.get hx
  obtain⟨f0,f1,f2,f3,f4,f5⟩:=hf it (by simp)
  refine wpAny_pyNext_tuple_item st (show s.heap.IsTuple a its.toArray from p) (x:=u) (by simpa using hu) fun h' st' sb=>?_
  have I1:Inv X pins σ H { s with heap:=h' }:=I.turned (t':=s.toks) (fun b o hb e=>(sb.2 b hb).trans e) f0 f1 f3 f4 f5
  obtain⟨o,e,c,d⟩:=id st'
  exact⟨u,rfl,Qgy (s:={ s with heap:=h' }) e c d (by decide) ⟨x,H,I1,ru,⟨rfl,fun ys hy=>by rw[I.Qbo hy hq];exact hx⟩,st',fun b hb=>(hf b hb).1⟩⟩
 done:=by
  intro X hP hw hK hc i pins s σ H E I hf st hg
  subst hP hw hK
  obtain⟨xs,hq,hx⟩:=hg
  obtain⟨its,rv,p,hz⟩:=I.tuple hq
  obtain⟨f0,f1,f2,f3,f4,f5⟩:=hf it (by simp)
  have hl:=rv.length
  exact wpAny_pyNext_tuple_end (I.ok.hd hc) st (show s.heap.IsTuple a its.toArray from p) (by simp;omega) fun h' eb=>⟨rfl,I.turned (t':=s.toks) (fun b o hb e=>eb b o hb e) f0 f1 f3 f4 f5⟩
 self:=fun _ _ _ _ _ st h=>wpAny_pyIter_tupleiter st h
theorem QdH {P:Program}{w:World}{K:z02}{tg:Expr}(it:Addr)(lo:Int)(n:Nat):Turn P w K tg (Itr lo n) [it] it (fun i h=>IsRangeIter h it (lo+(i:Nat) * 1) ((n:Int) - (i:Nat)) 1) where
 mem:=by simp
 obj:=fun i h st b hb=>by
  have e:b=it:=by simpa using hb
  subst e
  exact⟨_,st,fun v z=>by
   have z':Data.fields _=Data.cell v:=z
   cases z'⟩
 keep:=fun i h h' st k=>k it (by simp) _ st
 item:=by
  intro X hP hw hK hc i pins s σ H E I hf st hg
  subst hP hw hK
  obtain⟨f0,f1,f2,f3,f4,f5⟩:=hf it (by simp)
  have W:=Walks.range (prog:=X.prog) (w:=X.w) (I.ok.hd hc) it lo 1 n
  refine W.item i s _ _ hg st fun v h' tk hv st' kk=>?_
  obtain⟨t,rfl⟩:=hv
  have I1:Inv X pins σ H { s with heap:=h',toks:=tk }:=I.turned (fun b o hb e=>kk b o (by simpa using hb) e) f0 f1 f3 f4 f5
  refine⟨_,rfl,Qgy (s:={ s with heap:=h',toks:=tk }) (n := "range_iterator") st' rfl rfl (by decide) ⟨.int (lo+i),H,I1,⟨t,?_⟩,⟨rfl,rfl⟩,st',fun b hb=>(hf b hb).1⟩⟩
  rw[Int.mul_one]
 done:=by
  intro X hP hw hK hc i pins s σ H E I hf st hg
  subst hP hw hK
  obtain⟨f0,f1,f2,f3,f4,f5⟩:=hf it (by simp)
  exact zy9 (I.ok.hd hc) st (by have:n<=i:=hg;omega) fun h' eb=>⟨rfl,I.turned (t':=s.toks) (fun b o hb e=>eb b o hb e) f0 f1 f3 f4 f5⟩
 self:=fun _ _ _ _ _ st h=>zz1 st h
section
variable {X:Cx}{tg:Expr}
theorem Qgz {pins:List (Addr×Obj)}{σ:St}{H:Hp}{s:Shared}{R:It->Hp->Prop}{E:Value->Shared->Prop}{lo hi:Int}{t u v:Tok}{tk:Nat}(I:Inv X pins σ H s)(h1 : -(2 ^ 62)<=lo)(h2:lo<2 ^ 62)(h3 : -(2 ^ 62)<=hi)(h4:hi<2 ^ 62)
  (q:R (Itr lo (hi - lo).toNat) H):wpAny (model X.prog X.w) X.A (pyIter (.ref s.heap.objs.size)) (PIE X pins σ tg R) E { s with heap:=s.heap.push { cls:=.type "range",data:=.fields #[.int lo t,.int hi u,.int 1 v]},toks:=tk }:=by
 refine wpAny_pyIter_range (IsRange.new ..) (small_one h1 h2 h3 h4) ?_
 have I1:Inv X pins σ H { s with heap:=s.heap.push { cls:=.type "range",data:=.fields #[.int lo t,.int hi u,.int 1 v]},toks:=tk }:=I.kept fun b o e=>z16 _ e
 refine⟨(s.heap.push { cls:=.type "range",data:=.fields #[.int lo t,.int hi u,.int 1 v]}).objs.size,[(s.heap.push { cls:=.type "range",data:=.fields #[.int lo t,.int hi u,.int 1 v]}).objs.size],_,_,H,rfl,
  I1.kept (t':=tk) fun b o e=>z16 _ e,QdH _ lo (hi - lo).toNat,?_,fun b hb=>?_,q⟩
 ·have e1:lo+((0:Nat):Int) * 1=lo:=by simp
  have e2:(((hi - lo).toNat:Nat):Int) - ((0:Nat):Int)=ze7 lo hi 1:=by rw[rangeSize_one];split<;>omega
  show IsRangeIter _ _ (lo+((0:Nat):Int) * 1) ((((hi - lo).toNat:Nat):Int) - ((0:Nat):Int)) 1
  rw[e1,e2]
  exact z37 _ rfl
 ·have e:b=(s.heap.push { cls:=.type "range",data:=.fields #[.int lo t,.int hi u,.int 1 v]}).objs.size:=by simpa using hb
  subst e
  exact I1.Qni (z18 _) (I1.hok.fresh (z18 _))
def QnI (ta:TA):TI:=fun σ H R=>ta σ H fun vs H1=>∃j:Int,vs=[.int j]/\-(2 ^ 62)<=j/\j<2 ^ 62/\R (Itr 0 j.toNat) H1
theorem Qes {a:Expr}{ta:TA}{p pos:Pos}(hg:Gl X "range")(hm:X.mg "range" = none)(ha:PA X [a] ta)(hs:starEach [a] X.env=[(false,eval a X.env)]:=by rfl):PI X tg (.Call (.Name "range" p) [a] [] pos) (QnI ta):=by
 intro pins s σ H R I h
 refine Call_ (QcS I hg hm boot_range (zh1 (thn (ha pos pins s σ H _ I h) fun us s1 hz=>?_) hs rfl))
 obtain⟨vs,H1,I1,r1,q1⟩:=hz
 obtain⟨j,e,q1,q2,q⟩:=q1
 subst e
 cases r1 with
 |cons r rr=>
  cases rr
  obtain⟨t,rfl⟩:=r
  exact call_range_1 (Qgz I1 (by omega) (by omega) q1 q2 (by simpa using q))
def QpY (wi:TI)(g:TG)(tb:TS):TS:=fun D σ H=>wi σ H fun J H1=>∃W:Nat->Nat->St->Hp->Prop,(∃m,W 0 m σ H1)/\∀i m σ H,W i m σ H->
 (J.stop i H/\D.nx σ H)\/(J.go i H/\∃N:St->Hp->Prop,(∀σ' H',N σ' H'->∃m',m' < m/\W (i+1) m' σ' H')/\∀x H',J.yld i H x H'->g x σ H' fun σ2 H2=>tb { D with nx:=N,ct:=N,bk:=D.nx } σ2 H2)
def YD (fp:List Addr)(h:Heap):List (Addr×Obj):=fp.filterMap fun b=>(h.get? b).map fun o=>(b,o)
theorem J8 {fp:List Addr}{h:Heap}{b:Addr}{o:Obj}(hb:b∈fp)(e:h.get? b=some o):(b,o)∈YD fp h:=zn9.mpr ⟨b,hb,by rw[e];rfl⟩
theorem Qbq {fp:List Addr}{h:Heap}{p:Addr×Obj}(hp:p∈YD fp h):p.1∈fp/\h.get? p.1=some p.2:=by
 obtain⟨b,hb,e⟩:=zn9.mp hp
 cases q:h.get? b with
 |none=>rw[q] at e;cases e
 |some o=>
  rw[q] at e
  have e':(b,o)=p:=z27 e
  subst e'
  exact⟨hb,q⟩
theorem Inv.pinned {pins:List (Addr×Obj)}{σ:St}{H:Hp}{s:Shared}{fp:List Addr}(I:Inv X pins σ H s)(hf:∀b∈fp,Qic X pins H b)(ho:∀b∈fp,∃o,s.heap.get? b=some o/\∀v,o.data≠.cell v):Inv X (pins++YD fp s.heap) σ H s:=
 I.QaD fun p hp=>(z04.mp hp).elim (fun z=>I.pin p (z01 _ z)) fun z=>by
  obtain⟨hb,e⟩:=Qbq z
  obtain⟨f0,f1,f2,_⟩:=hf p.1 hb
  obtain⟨o,e',d⟩:=ho p.1 hb
  rw[e] at e';cases e'
  exact⟨e,f0,f1,f2,d⟩
theorem Inv.Vv {pins pl:List (Addr×Obj)}{σ:St}{H:Hp}{s:Shared}(I:Inv X (pins++pl) σ H s):Inv X pins σ H s:=I.QaD fun p hp=>I.pin p (z01 _ (z08 _ hp))
theorem Qhv {iter:Expr}{body:List Stmt}{wi:TI}{g:TG}{tb:TS}{pos:Pos}(hp:PassesOwn (model X.prog X.w) X.A X.env X.xe)(hc:X.calm=true)(hi:PI X tg iter wi)(hg:PG X tg g)(hb:PSs X body tb)
  (hs:∀x,foldedSetIterable iter X.env x=pure x:=by intro _;rfl):PS X (.For tg iter body [] pos) (QpY wi g tb):=by
 intro pins s σ H D I h
 refine wpAny_For (thn (hi pins s σ H _ I h) fun v s1 h1=>thn h1 fun itv s2 h2=>?_) hs
 obtain⟨it,fp,tn,J,H2,e,I2,T,st2,f2,W,⟨m0,w0⟩,turn⟩:=h2
 subst e
 -- what stays true of the iterator's objects through the loop
 have stat:∀{H':Hp},(∀b∈fp,H' b=none)->∀b∈fp,Qic X pins H' b:=fun hn b hb=>⟨hn b hb,(f2 b hb).2⟩
 refine codeAny_forLoop_any (fun n s'=>∃i σ' H',Inv X pins σ' H' s'/\tn i s'.heap/\(∀b∈fp,H' b=none)/\W i n σ' H') ?_ m0 ⟨0,σ,H2,I2,st2,fun b hb=>(f2 b hb).1,w0⟩
 rintro n s3 ⟨i,σ3,H3,I3,st3,fr3,w3⟩
 rcases turn i n σ3 H3 w3 with⟨stop,qn⟩|⟨go,N,hN,step⟩
 ·refine ze9 hp (thn (T.done X rfl rfl rfl hc i pins s3 σ3 H3 X.xe I3 (stat fr3) st3 stop) fun r s4 hz=>?_)
  obtain⟨hr,I4⟩:=hz
  subst hr
  exact zn2 ⟨σ3,H3,I4,qn⟩
 ·refine ze9 hp (thn (T.item X rfl rfl rfl hc i pins s3 σ3 H3 X.xe I3 (stat fr3) st3 go) fun r s4 hz=>?_)
  obtain⟨u,hr,h4⟩:=hz
  subst hr
  refine ze9 hp (thn h4 fun _ s5 hz=>?_)
  obtain⟨x,H5,I5,r5,y5,st5,fr5⟩:=hz
  have I5':=I5.pinned (stat fr5) (T.obj _ _ st5)
  refine ze9 hp (thn (hg _ s5 σ3 H5 x u _ I5' r5 (step x H5 y5)) fun _ s6 hz=>?_)
  obtain⟨σ6,H6,I6,q6⟩:=hz
  refine ze9 hp (thn (hb _ s6 σ6 H6 _ I6 q6) fun f s7 q7=>?_)
  have again:∀{σ7:St} {H7:Hp},Inv X (pins++YD fp s5.heap) σ7 H7 s7->N σ7 H7->∃m,m<n/\∃i σ' H',Inv X pins σ' H' s7/\tn i s7.heap/\(∀b∈fp,H' b=none)/\W i m σ' H':=fun{σ7 H7} I7 n7=>by
   obtain⟨m',hm,w7⟩:=hN σ7 H7 n7
   refine⟨m',hm,i+1,σ7,H7,I7.Vv,T.keep _ _ _ st5 fun b hb o e=>(I7.pin (b,o) (z01 _ (z01 _ (J8 hb e)))).1,fun b hb=>?_,w7⟩
   obtain⟨o,e,d⟩:=T.obj _ _ st5 b hb
   exact(I7.pin (b,o) (z01 _ (z01 _ (J8 hb e)))).2.1
  cases f with
  |next=>obtain⟨σ7,H7,I7,n7⟩:=q7;exact again I7 n7
  |cont=>obtain⟨σ7,H7,I7,n7⟩:=q7;exact again I7 n7
  |brk=>obtain⟨σ7,H7,I7,q7⟩:=q7;exact⟨σ7,H7,I7.Vv,q7⟩
  |ret v=>obtain⟨x7,σ7,H7,I7,r7,q7⟩:=q7;exact⟨x7,σ7,H7,I7.Vv,r7,q7⟩
end
abbrev R2:=V->V->Hp->VK->Prop
def OpR (X:Cx)(f:Value->Value->Sem Value)(r:R2):Prop:=
 ∀(pins:List (Addr×Obj)) (s:Shared) (σ:St) (H:Hp) (x y:V) (v u:Value) (Q:VK),Inv X pins σ H s->RelV x v->RelV y u->r x y H Q->
  wpAny (model X.prog X.w) X.A (f v u) (EP X pins σ Q) X.xe s
def UnR (X:Cx)(f:Value->Sem Value)(r:V->Hp->VK->Prop):Prop:=
 ∀(pins:List (Addr×Obj)) (s:Shared) (σ:St) (H:Hp) (x:V) (v:Value) (Q:VK),Inv X pins σ H s->RelV x v->r x H Q->
  wpAny (model X.prog X.w) X.A (f v) (EP X pins σ Q) X.xe s
def VM (X:Cx)(f:Value)(r:List V->Hp->VK->Prop):Prop:=
 ∀(pins:List (Addr×Obj)) (s:Shared) (σ:St) (H:Hp) (xs:List V) (us:List Value) (Q:VK),Inv X pins σ H s->Vals xs us->r xs H Q->
  wpAny (model X.prog X.w) X.A (call f us) (EP X pins σ Q) X.xe s
def tOp (r:R2)(ta tb:TE):TE:=fun σ H Q=>ta σ H fun x H1=>tb σ H1 fun y H2=>r x y H2 Q
def tUn (r:V->Hp->VK->Prop)(ta:TE):TE:=fun σ H Q=>ta σ H fun x H1=>r x H1 Q
def rI (C:Int->Int->Prop)(g:Int->Int->V):R2:=fun x y H Q=>∃i j,x=.int i/\y=.int j/\C i j/\Q (g i j) H
def rI0 (g:Int->Int->V):R2:=fun x y H Q=>∃i j,x=.int i/\y=.int j/\Q (g i j) H
def rU (g:Int->V):V->Hp->VK->Prop:=fun x H Q=>∃i,x=.int i/\Q (g i) H
section
variable {X:Cx}{a b:Expr}{ta tb:TE}{pos:Pos}
theorem QnJ (ha:PE X a ta)(hb:PE X b tb){pins:List (Addr×Obj)}{s:Shared}{σ:St}{H:Hp}{R:V->V->Hp->Prop}(I:Inv X pins σ H s)
  (h:ta σ H fun x H1=>tb σ H1 fun y H2=>R x y H2) {Q:Value->Shared->Prop} {f:Value->Value->Sem Value}
  (hf:∀v u s2 x y H2,Inv X pins σ H2 s2->RelV x v->RelV y u->R x y H2->wpAny (model X.prog X.w) X.A (f v u) Q X.xe s2) :
  wpAny (model X.prog X.w) X.A (eval a X.env) (fun v s₁=>wpAny (model X.prog X.w) X.A (eval b X.env) (fun u s₂=>wpAny (model X.prog X.w) X.A (f v u) Q X.xe s₂) X.xe s₁) X.xe s:=by
 refine thn (ha pins s σ H _ I h) fun v s1 hz=>?_
 obtain⟨x,H1,I1,r1,q1⟩:=hz
 refine thn (hb pins s1 σ H1 _ I1 q1) fun u s2 hz=>?_
 obtain⟨y,H2,I2,r2,q2⟩:=hz
 exact hf v u s2 x y H2 I2 r1 r2 q2
theorem Qkw {op:Operator}{r:R2}(ho:OpR X (binaryOp op) r)(ha:PE X a ta)(hb:PE X b tb):PE X (.BinOp a op b pos) (tOp r ta tb):=by
 intro pins s σ H Q I h
 exact wpAny_BinOp (QnJ ha hb I h fun v u s2 x y H2 I2 rx ry q=>ho pins s2 σ H2 x y v u Q I2 rx ry q)
theorem QnK {op:UnaryOp}{r:V->Hp->VK->Prop}(ho:UnR X (unaryOp op) r)(ha:PE X a ta):PE X (.UnaryOp op a pos) (tUn r ta):=by
 intro pins s σ H Q I h
 exact UnaryOp_ (thn (ha pins s σ H _ I h) fun v s1 ⟨x,H1,I1,r1,q1⟩=>ho pins s1 σ H1 x v Q I1 r1 q1)
theorem opI {f:Value->Value->Sem Value}{C:Int->Int->Prop}{g:Int->Int->Int}
  (rule:∀(i j:Int) (t u:Tok) (s:Shared) (Q:Value->Shared->Prop) (E:Value->Shared->Prop),C i j->Q (.int (g i j) s.toks) { s with toks:=s.toks+1 }->wpAny (model X.prog X.w) X.A (f (.int i t) (.int j u)) Q E s) :
  OpR X f (rI C fun i j=>.int (g i j)):=by
 intro pins s σ H x y v u Q I rx ry h
 obtain⟨i,j,rfl,rfl,hc,q⟩:=h
 obtain⟨t,rfl⟩:=rx
 obtain⟨t',rfl⟩:=ry
 exact rule i j t t' s _ _ hc ⟨.int (g i j),H,I.tok _,⟨_,rfl⟩,q⟩
theorem Qpc {f:Value->Value->Sem Value}{g:Int->Int->Int}
  (rule:∀(i j:Int) (t u:Tok) (s:Shared) (Q:Value->Shared->Prop) (E:Value->Shared->Prop),Q (.int (g i j) s.toks) { s with toks:=s.toks+1 }->wpAny (model X.prog X.w) X.A (f (.int i t) (.int j u)) Q E s) :
  OpR X f (rI0 fun i j=>.int (g i j)):=by
 intro pins s σ H x y v u Q I rx ry h
 obtain⟨i,j,rfl,rfl,q⟩:=h
 obtain⟨t,rfl⟩:=rx
 obtain⟨t',rfl⟩:=ry
 exact rule i j t t' s _ _ ⟨.int (g i j),H,I.tok _,⟨_,rfl⟩,q⟩
theorem QpZ {f:Value->Value->Sem Value}{g:Int->Int->Bool}
  (rule:∀(i j:Int) (t u:Tok) (s:Shared) (Q:Value->Shared->Prop) (E:Value->Shared->Prop),Q (.bool (g i j)) s->wpAny (model X.prog X.w) X.A (f (.int i t) (.int j u)) Q E s) :
  OpR X f (rI0 fun i j=>.bl (g i j)):=by
 intro pins s σ H x y v u Q I rx ry h
 obtain⟨i,j,rfl,rfl,q⟩:=h
 obtain⟨t,rfl⟩:=rx
 obtain⟨t',rfl⟩:=ry
 exact rule i j t t' s _ _ ⟨.bl (g i j),H,I,rfl,q⟩
def Qka (i j:Int):Prop:=0<=j/\j<=1000000/\i.natAbs<2 ^ 64
def Qcc (i j:Int):Prop:=(-(2 ^ 64)<i/\i<2 ^ 64)\/(-(2 ^ 64)<j/\j<2 ^ 64)
theorem Qcc.ok {i j:Int}(h:Qcc i j):IntMulOk i j:=by
 rcases h with⟨h1,h2⟩|⟨h1,h2⟩
 ·exact .of_left (intBits_le_64 h1 h2)
 ·exact .of_right (intBits_le_64 h1 h2)
theorem Q3:OpR X (binaryOp .Add) (rI0 fun i j=>.int (i+j)):=Qpc fun _ _ _ _ _ _ _ q=>add_int q
theorem Qbr:OpR X (binaryOp .Sub) (rI0 fun i j=>.int (i - j)):=Qpc fun _ _ _ _ _ _ _ q=>sub_int q
theorem Vm:OpR X (binaryOp .Mult) (rI Qcc fun i j=>.int (i * j)):=opI fun _ _ _ _ _ _ _ hc q=>mul_int q hc.ok
theorem QcU:OpR X (binaryOp .Mod) (rI (fun _ j=>0<j) fun i j=>.int (i % j)):=opI fun i j _ _ _ _ _ hc q=>by
 have h1:(0:Int)<j:=hc
 exact mod_int' (by omega) (by rw[Int.fmod_eq_emod_of_nonneg i (by omega)];exact q)
theorem Qkx:OpR X (binaryOp .Pow) (rI Qka fun i j=>.int (i ^ j.toNat)):=opI fun _ _ _ _ _ _ _ hc q=>pow_int_small hc.1 hc.2.1 hc.2.2 q
theorem unI {f:Value->Sem Value}{g:Int->Int}
  (rule:∀(i:Int) (t:Tok) (s:Shared) (Q:Value->Shared->Prop) (E:Value->Shared->Prop),Q (.int (g i) s.toks) { s with toks:=s.toks+1 }->wpAny (model X.prog X.w) X.A (f (.int i t)) Q E s) :
  UnR X f (rU fun i=>.int (g i)):=by
 intro pins s σ H x v Q I rx h
 obtain⟨i,rfl,q⟩:=h
 obtain⟨t,rfl⟩:=rx
 exact rule i t s _ _ ⟨.int (g i),H,I.tok _,⟨_,rfl⟩,q⟩
theorem Qky:UnR X (unaryOp .USub) (rU fun i=>.int (-i)):=unI fun _ _ _ _ _ q=>neg_int q
end
def Qkz:V->V->Bool
 |.non,.non=>true|.non,.int _=>true|.int _,.non=>true|.non,.bl _=>true|.bl _,.non=>true|.non,.str _=>true|.str _,.non=>true
 |.int _,.int _=>true|.bl _,.bl _=>true|.str _,.str _=>true|.byt _,.byt _=>true
 |.int _,.str _=>true|.str _,.int _=>true|.bl _,.str _=>true|.str _,.bl _=>true
 |_,_=>false
def rEq:R2:=fun x y H Q=>Qkz x y=true/\Q (.bl (decide (x=y))) H
def rNe:R2:=fun x y H Q=>Qkz x y=true/\Q (.bl (!decide (x=y))) H
theorem Qcd {i j:Int}:decide (V.int i=V.int j)=(i == j):=by
 rw[zl3]
 simp
theorem Qet {i j:Bool}:decide (V.bl i=V.bl j)=(i == j):=by
 rw[zl3]
 simp
theorem Qce {i j:Str}:decide (V.str i=V.str j)=(i == j):=by
 rw[zl3]
 simp
theorem Qeu {i j:Array UInt8}:decide (V.byt i=V.byt j)=(i.toList == j.toList):=by
 rw[zl3]
 cases i
 cases j
 simp
section
variable {X:Cx}{a b c:Expr}{ta tb:TE}{pos:Pos}
theorem Qx {pins:List (Addr×Obj)}{σ:St}{H:Hp}{s:Shared}{Q:VK}{k k':Bool}(I:Inv X pins σ H s)(q:Q (.bl k) H)(e:k=k'):EP X pins σ Q (.bool k') s:=by
 subst e
 exact⟨.bl k,H,I,rfl,q⟩
theorem Jo:OpR X (compareOp .Eq) rEq:=by
 intro pins s σ H x y v u Q I rx ry h
 obtain⟨hs,q⟩:=h
 cases x with
 |non=>
  cases rx
  cases y with
  |non=>cases ry;exact PySem.EqNone.eq_none_none (Qx I q (by simp))
  |bl j=>cases ry;exact PySem.EqNone.eq_none_bool (Qx I q (by simp))
  |int j=>obtain⟨t',rfl⟩:=ry;exact PySem.EqNone.eq_none_int (Qx I q (by simp))
  |str j=>obtain⟨t',rfl⟩:=ry;exact PySem.EqNone.eq_none_str (Qx I q (by simp))
  |_=>exact absurd (show false=true from hs) z23
 |bl i=>
  cases rx
  cases y with
  |non=>cases ry;exact PySem.EqNone.eq_bool_none (Qx I q (by simp))
  |bl j=>cases ry;exact eq_bool (Qx I q Qet)
  |str j=>obtain⟨t',rfl⟩:=ry;exact PySem.EqMixed.eq_bool_str (Qx I q (by simp))
  |_=>exact absurd (show false=true from hs) z23
 |int i=>
  obtain⟨t,rfl⟩:=rx
  cases y with
  |non=>cases ry;exact PySem.EqNone.eq_int_none (Qx I q (by simp))
  |int j=>obtain⟨t',rfl⟩:=ry;exact eq_int (Qx I q Qcd)
  |str j=>obtain⟨t',rfl⟩:=ry;exact PySem.EqMixed.eq_int_str (Qx I q (by simp))
  |_=>exact absurd (show false=true from hs) z23
 |str i=>
  obtain⟨t,rfl⟩:=rx
  cases y with
  |non=>cases ry;exact PySem.EqNone.eq_str_none (Qx I q (by simp))
  |bl j=>cases ry;exact PySem.EqMixed.eq_str_bool (Qx I q (by simp))
  |int j=>obtain⟨t',rfl⟩:=ry;exact PySem.EqMixed.eq_str_int (Qx I q (by simp))
  |str j=>obtain⟨t',rfl⟩:=ry;exact eq_str (Qx I q Qce)
  |_=>exact absurd (show false=true from hs) z23
 |byt i=>
  obtain⟨t,rfl⟩:=rx
  cases y with
  |byt j=>obtain⟨t',rfl⟩:=ry;exact PySem.W.eq_bytes (Qx I q Qeu)
  |_=>exact absurd (show false=true from hs) z23
 |_=>cases y<;>exact absurd (show false=true from hs) z23
theorem QnL:OpR X (compareOp .NotEq) rNe:=by
 intro pins s σ H x y v u Q I rx ry h
 obtain⟨hs,q⟩:=h
 cases x with
 |non=>
  cases rx
  cases y with
  |non=>cases ry;exact PySem.EqNone.ne_none_none (Qx I q (by simp))
  |bl j=>cases ry;exact PySem.EqNone.ne_none_bool (Qx I q (by simp))
  |int j=>obtain⟨t',rfl⟩:=ry;exact PySem.EqNone.ne_none_int (Qx I q (by simp))
  |str j=>obtain⟨t',rfl⟩:=ry;exact PySem.EqNone.ne_none_str (Qx I q (by simp))
  |_=>exact absurd (show false=true from hs) z23
 |bl i=>
  cases rx
  cases y with
  |non=>cases ry;exact PySem.EqNone.ne_bool_none (Qx I q (by simp))
  |bl j=>cases ry;exact ne_bool (Qx I q (congrArg not Qet))
  |str j=>obtain⟨t',rfl⟩:=ry;exact PySem.EqMixed.ne_bool_str (Qx I q (by simp))
  |_=>exact absurd (show false=true from hs) z23
 |int i=>
  obtain⟨t,rfl⟩:=rx
  cases y with
  |non=>cases ry;exact PySem.EqNone.ne_int_none (Qx I q (by simp))
  |int j=>obtain⟨t',rfl⟩:=ry;exact ne_int (Qx I q (congrArg not Qcd))
  |str j=>obtain⟨t',rfl⟩:=ry;exact PySem.EqMixed.ne_int_str (Qx I q (by simp))
  |_=>exact absurd (show false=true from hs) z23
 |str i=>
  obtain⟨t,rfl⟩:=rx
  cases y with
  |non=>cases ry;exact PySem.EqNone.ne_str_none (Qx I q (by simp))
  |bl j=>cases ry;exact PySem.EqMixed.ne_str_bool (Qx I q (by simp))
  |int j=>obtain⟨t',rfl⟩:=ry;exact PySem.EqMixed.ne_str_int (Qx I q (by simp))
  |str j=>obtain⟨t',rfl⟩:=ry;exact ne_str (Qx I q (congrArg not Qce))
  |_=>exact absurd (show false=true from hs) z23
 |byt i=>
  obtain⟨t,rfl⟩:=rx
  cases y with
  |byt j=>obtain⟨t',rfl⟩:=ry;exact PySem.W.ne_bytes (Qx I q (congrArg not Qeu))
  |_=>exact absurd (show false=true from hs) z23
 |_=>cases y<;>exact absurd (show false=true from hs) z23
theorem QgA:OpR X (compareOp .Lt) (rI0 fun i j=>.bl (decide (i<j))):=QpZ fun _ _ _ _ _ _ _ q=>lt_int q
theorem Jc (b:Expr){op:CmpOp}(h:op≠.In:=by decide)(h2:op≠.NotIn:=by decide):behindInMarks op b=false:=by
 have e1:(op == CmpOp.In)=false:=by cases op<;>first|rfl|exact absurd rfl h
 have e2:(op == CmpOp.NotIn)=false:=by cases op<;>first|rfl|exact absurd rfl h2
 cases b<;>simp[behindInMarks,e1,e2]
theorem Qid {op:CmpOp}{r:R2}(ho:OpR X (compareOp op) r)(ha:PE X a ta)(hb:PE X b tb)(hm:behindInMarks op b=false):PE X (.Compare a [op] [b] pos) (tOp r ta tb):=by
 intro pins s σ H Q I h
 exact wpAny_Compare1 (QnJ ha hb I h fun v u s2 x y H2 I2 rx ry q=>ho pins s2 σ H2 x y v u Q I2 rx ry q) hm
def QkA (t:TE):TT:=fun σ H Q=>t σ H fun x H'=>∃k,x=.bl k/\Q k H'
theorem Qie {op:CmpOp}{r:R2}(ho:OpR X (compareOp op) r)(ha:PE X a ta)(hb:PE X b tb)(hm:behindInMarks op b=false):PT X (.Compare a [op] [b] pos) (QkA (tOp r ta tb)):=by
 intro pins s σ H Q I h
 refine wpAny_isTrue_Compare1 (thn (ha pins s σ H _ I h) fun v s1 hz=>?_) hm
 obtain⟨x,H1,I1,r1,q1⟩:=hz
 refine thn (hb pins s1 σ H1 _ I1 q1) fun u s2 hz=>?_
 obtain⟨y,H2,I2,r2,q2⟩:=hz
 refine thn (ho pins s2 σ H2 x y v u _ I2 r1 r2 q2) fun c s3 hz=>?_
 obtain⟨z,H3,I3,r3,k,e,q3⟩:=hz
 subst e
 cases r3
 exact zk5 ⟨H3,I3,q3⟩
theorem Qbs:(z20:Nat)<2 ^ 63:=by rw[z55];decide
theorem vals1 {x:V}{us:List Value}(r:Vals [x] us):∃u,us=[u]/\RelV x u:=by
 cases r with
 |cons r1 r2=>cases r2;exact⟨_,rfl,r1⟩
def Qpd (K:z02)(x:V)(H:Hp)(n:Nat):Prop:=
 match x with
 |.str y=>y.length<=z20/\n=y.length
 |.byt y=>y.size<=z20/\n=y.size
 |.ref p=>(∃xs,SqL K H p xs/\n=xs.length)\/∃xs,SqT K H p xs/\n=xs.length
 |_=>False
theorem QaG:VM X (.builtin "len") (fun xs H Q=>∃x n,xs=[x]/\Qpd X.K x H n/\Q (.int n) H):=by
 intro pins s σ H xs us Q I r h
 obtain⟨x,n,rfl,e,q⟩:=h
 obtain⟨u,rfl,rx⟩:=vals1 r
 have hl:=Qbs
 have hs:z20=16777216:=z55
 cases x with
 |str y=>
  obtain⟨t,rfl⟩:=rx
  obtain⟨hy,e'⟩:y.length<=z20/\n=y.length:=e
  subst e'
  exact len_str (by omega) ⟨.int _,H,I.tok _,⟨_,rfl⟩,q⟩
 |byt y=>
  obtain⟨t,rfl⟩:=rx
  obtain⟨hy,e'⟩:y.size<=z20/\n=y.size:=e
  subst e'
  exact PySem.W.len_bytes (by omega) ⟨.int _,H,I.tok _,⟨_,rfl⟩,q⟩
 |ref p=>
  cases rx
  have e':(∃xs,SqL X.K H p xs/\n=xs.length)\/∃xs,SqT X.K H p xs/\n=xs.length:=e
  rcases e' with⟨xs,hx,e'⟩|⟨xs,hx,e'⟩
  ·subst e'
   obtain⟨its,r',pl,hz⟩:=I.list hx
   have hlen:=r'.length
   exact Calls.call_len_list pl.isList (by simp only[z21];omega) ⟨.int xs.length,H,I.tok _,⟨_,by simp only[z21];rw[hlen]⟩,q⟩
  ·subst e'
   obtain⟨its,r',pl,hz⟩:=I.tuple hx
   have hlen:=r'.length
   exact len_tuple pl (by simp only[z21];omega) ⟨.int xs.length,H,I.tok _,⟨_,by simp only[z21];rw[hlen]⟩,q⟩
 |_=>exact(show False from e).elim
end
theorem QdF.some_of {v:V}{o:Option Value}(r:QdF (some v) o):∃u,o=some u/\RelV v u:=by
 cases o with
 |none=>exact(show False from r).elim
 |some u=>exact⟨u,rfl,r⟩
structure Y7 (k:Nat)(A:Around):Prop where
 hd:A.handled=none
 dp:A.depth+3 * k+5<recursionLimit
 un:A.units+16 * k+200<cLine
 gd:A.guards=some []
theorem Y7.mono {j k:Nat}{A:Around}(r:Y7 k A)(h:j<=k):Y7 j A:=⟨r.hd,by have:=r.dp;omega,by have:=r.un;omega,r.gd⟩
theorem Y7.deeper {k:Nat}{A:Around}(r:Y7 (k+1) A)(env:Env):Y7 k (A.deeper env):=
 ⟨r.hd,by have:=r.dp;show A.depth+1+3 * k+5<_;omega,by have:=r.un;show A.units+3+16 * k+200<_;omega,r.gd⟩
theorem Y7.depth {k:Nat}{A:Around}(r:Y7 k A):A.depth<recursionLimit:=by have:=r.dp;omega
theorem Y7.units {k:Nat}{A:Around}(r:Y7 k A):A.units+64<cLine:=by have:=r.un;omega
def QkB:TA:=fun _ H Q=>Q [] H
def Qev (ta:TE)(tr:TA):TA:=fun σ H Q=>ta σ H fun x H1=>tr σ H1 fun xs H2=>Q (x::xs) H2
section
variable {X:Cx}{e:Expr}{es:List Expr}{te:TE}{t:TA}{pos:Pos}
theorem YF:PA X [] QkB:=fun _ _ _ _ H Q I h=>zy6 ⟨[],H,I,.nil,h⟩
theorem Jp (ha:PE X e te)(hr:PA X es t)(hs:starEach (e::es) X.env=(false,eval e X.env)::starEach es X.env:=by rfl):PA X (e::es) (Qev te t):=by
 intro pos pins s σ H Q I h
 rw[hs]
 show wpAny _ _ (spliced ((false,eval e X.env)::backTo pos (starEach es X.env))) _ _ s
 refine zn5 (thn (ha pins s σ H _ I h) fun u s1 hz=>?_)
 obtain⟨x,H1,I1,r1,q1⟩:=hz
 exact thn (hr pos pins s1 σ H1 _ I1 q1) fun us s2 ⟨xs,H2,I2,r2,q2⟩=>⟨x::xs,H2,I2,.cons r1 r2,q2⟩
def Qpe (t:TA):TE:=fun σ H Q=>t σ H fun xs H1=>xs.length<=z20/\∀p,H1 p=none->Q (.ref p) (upd H1 p (.tup xs))
def Qpf (t:TA):TE:=fun σ H Q=>t σ H fun xs H1=>xs.length<=z20/\∀p,H1 p=none->Q (.ref p) (upd H1 p (.lst xs))
theorem Qhw {x1}(h:PA X es t):PE X (.Tuple es x1 pos) (Qpe t):=by
 intro pins s σ H Q I hq
 refine wpAny_Tuple_spliced (thn (h pos pins s σ H _ I hq) fun us s1 ⟨xs,H1,I1,r,z,q⟩=>⟨by rw[← r.length];exact z,?_⟩)
 have hf:H1 s1.heap.objs.size=none:=I1.hok.fresh (z18 _)
 refine⟨.ref s1.heap.objs.size,upd H1 s1.heap.objs.size (.tup xs),I1.laid (t':=s1.toks) (fun b u e=>z16 _ e) (z18 _) ?_,rfl,q _ hf⟩
 exact⟨z,us,r,⟨_,z37 _ rfl,rfl,_,rfl⟩⟩
theorem Qew (h:PA X es t):PE X (.List es pos) (Qpf t):=by
 intro pins s σ H Q I hq
 refine wpAny_List_spliced (thn (h pos pins s σ H _ I hq) fun us s1 ⟨xs,H1,I1,r,z,q⟩=>⟨by rw[← r.length];exact z,?_⟩)
 have hf:H1 s1.heap.objs.size=none:=I1.hok.fresh (z18 _)
 refine⟨.ref s1.heap.objs.size,upd H1 s1.heap.objs.size (.lst xs),I1.laid (t':=s1.toks) (fun b u e=>z16 _ e) (z18 _) ?_,rfl,q _ hf⟩
 exact⟨z,us,0,r,z37 _ rfl⟩
end
abbrev Sp:=List V->Hp->VK->XK->Prop
abbrev CXT:=List Env->Hp->Shared->XK->Value->Shared->Prop
structure Qnj (P:Program)(w:World)(K:z02)(mg:Str->Option Value)(base:Heap)(A:Around)(outer:List Env)(s:Shared)(H:Hp):Prop where
 frames:A.frames=some outer
 mod:Mod K mg base
 bs:∀b o,base.get? b=some o->s.heap.get? b=some o/\H b=none
 bsz:base.objs.size<=s.heap.objs.size
 Qgu:s.heap.FunFrames base outer
 frf:∀b∈frs outer,H b=none
 hok:HOk P w H s.heap
 bare:AllBare s.gens
def CE (outer:List Env)(P:Program)(w:World)(H:Hp)(s:Shared)(Q:VK)(u:Value)(s':Shared):Prop:=
 ∃v H',s'.os=s.os/\AllBare s'.gens/\Un (frs outer) [] H H' s.heap s'.heap/\HOk P w H' s'.heap/\RelV v u/\Q v H'
def CR (CX:CXT)(outer:List Env)(P:Program)(w:World)(H:Hp)(s:Shared)(Q:VK)(E:XK)(r:Result)(s':Shared):Prop:=
 match r with
 |.ok (.ret u)=>CE outer P w H s Q u s'
 |.ok _=>False
 |.error e=>CX outer H s E e s'
structure Qcf (P:Program)(w:World)(K:z02)(mg:Str->Option Value)(base:Heap)(CX:CXT)(k:Nat)(f:Addr)(fd:FuncData)(ps:List Str)(sp:Sp):Prop where
 len:∀vs H Q E,sp vs H Q E->vs.length=ps.length
 run:∀(A:Around) (outer:List Env) (s:Shared) (H:Hp) (args:Args) (us:List Value) (vs:List V) (Q:VK) (E:XK),Y7 k A->Qnj P w K mg base A outer s H->BindsTo s fd args (ps.zip us)->Vals vs us->sp vs H Q E->
  codeAny (model P w) A (.call (.ref f) args) (CR CX outer P w H s Q E) s
theorem Qcf.imp {P:Program}{w:World}{K:z02}{mg:Str->Option Value}{base:Heap}{CX:CXT}{k:Nat}{f:Addr}{fd:FuncData}{ps:List Str}{sp sp':Sp}(F:Qcf P w K mg base CX k f fd ps sp)
  (h:∀vs H Q E,sp' vs H Q E->sp vs H Q E):Qcf P w K mg base CX k f fd ps sp':=
 ⟨fun vs H Q E q=>F.len vs H Q E (h _ _ _ _ q),fun A outer s H args us vs Q E hr he hb hv hs=>F.run A outer s H args us vs Q E hr he hb hv (h _ _ _ _ hs)⟩
section
variable {X:Cx}{pins:List (Addr×Obj)}{σ:St}{H:Hp}{s s':Shared}
theorem Inv.env0 (I:Inv X pins σ H s):Qnj X.prog X.w X.K X.mg X.base X.A X.stack s H:=
 ⟨I.ok.frames,I.ok.mod,I.bs,z71 I.ok.bsz I.sz,I.stack,I.Qem,I.hok,I.bare⟩
theorem Inv.after {Q:VK}{u:Value}(I:Inv X pins σ H s)(h:CE X.stack X.prog X.w H s Q u s'):EP X pins σ Q u s':=by
 obtain⟨v,H',os,bare,un,hok,r,q⟩:=h
 obtain⟨hh,g,d,t,os'⟩:=s'
 obtain rfl:os'=s.os:=os
 exact⟨v,H',I.call (h':=hh) (g':=g) (d':=d) (t':=t) (ch:=[]) un hok bare (fun b z=>absurd z (by simp)),r,q⟩
end
def Binds (K:z02)(fd:FuncData)(ps:List Str)(ds:List Value):Prop:=
 ∀(s:Shared) (us:List Value),K.In s.heap->(us++ds).length=ps.length->BindsTo s fd ⟨us,[]⟩ (ps.zip (us++ds))
theorem Binds.all {K:z02}{fd:FuncData}{ps:List Str}(h:∀us:List Value,us.length=ps.length->bindArgs fd ⟨us,[]⟩=pure (ps.zip us)):Binds K fd ps []:=fun s us _ hl=>by
 rw[z61] at hl ⊢
 exact .of_eq (h us hl)
structure VN (N P:List Str)(sc:Scope):Prop where
 kind:sc.kind=.function
 co:sc.isCoroutine=false
 gen:sc.isGenerator=false
 nd:N.Nodup
 pre:N.take P.length=P
 par:∀x∈P,sc.names.lookup x=some .local\/sc.names.lookup x=some .cell
 QkC:∀y∈sc.names,y.2≠.free
theorem Qbt {kindOf:Str->Option NameKind}{x:Str}:∀{binds:List (Str×Value)} {m:Str->Option Value},(∀v,(x,v)∉binds)->bindL kindOf binds m x=m x
 | [],_,_=>rfl
 |(n,v)::r,m,h=>by
  unfold bindL
  rw[Qbt fun w hw=>h w (z09 _ hw)]
  split
  ·have:x≠n:=by rintro rfl;exact h v z12
   simp[this]
  ·rfl
theorem Qbu {kindOf:Str->Option NameKind}{x:Str}:∀{binds:List (Str×Value)} {m:Str->Option Value},(∀v,(x,v)∉binds)->bindC kindOf binds m x=m x
 | [],_,_=>rfl
 |(n,v)::r,m,h=>by
  unfold bindC
  rw[Qbu fun w hw=>h w (z09 _ hw)]
  split
  ·rfl
  ·have:x≠n:=by rintro rfl;exact h v z12
   simp[this]
theorem Qbv {kindOf:Str->Option NameKind}{x:Str}{v:Value}:∀{P:List Str} {vs:List Value} {i:Nat} {m:Str->Option Value},P.Nodup->P[i]? = some x->vs[i]? = some v->kindOf x=some .local->
  bindL kindOf (P.zip vs) m x=some v
 | [],_,_,_,_,h,_,_=>by simp at h
 |_::_,[],_,_,_,_,h,_=>by simp at h
 |p::P,w::vs,0,m,nd,h1,h2,hk=>by
  simp at h1 h2;subst h1;subst h2
  show bindL kindOf ((p,w)::P.zip vs) m p=_
  unfold bindL
  rw[Qbt fun v hv=>(z53.mp nd).1 (zr7 hv).1,if_pos hk]
  simp
 |p::P,w::vs,i+1,m,nd,h1,h2,hk=>by
  show bindL kindOf ((p,w)::P.zip vs) m x=_
  unfold bindL
  exact Qbv (i:=i) (z53.mp nd).2 (by simpa using h1) (by simpa using h2) hk
theorem Qbw {kindOf:Str->Option NameKind}{x:Str}{v:Value}:∀{P:List Str} {vs:List Value} {i:Nat} {m:Str->Option Value},P.Nodup->P[i]? = some x->vs[i]? = some v->kindOf x≠some .local->
  bindC kindOf (P.zip vs) m x=some v
 | [],_,_,_,_,h,_,_=>by simp at h
 |_::_,[],_,_,_,_,h,_=>by simp at h
 |p::P,w::vs,0,m,nd,h1,h2,hk=>by
  simp at h1 h2;subst h1;subst h2
  show bindC kindOf ((p,w)::P.zip vs) m p=_
  unfold bindC
  rw[Qbu fun v hv=>(z53.mp nd).1 (zr7 hv).1,if_neg hk]
  simp
 |p::P,w::vs,i+1,m,nd,h1,h2,hk=>by
  show bindC kindOf ((p,w)::P.zip vs) m x=_
  unfold bindC
  exact Qbw (i:=i) (z53.mp nd).2 (by simpa using h1) (by simpa using h2) hk
def start (N:List Str)(vs:List V):St:=vs.map some++zb1 (N.length - vs.length) none
def Qgm (CX:CXT)(P:Program)(w:World)(K:z02)(mg:Str->Option Value)(base:Heap)(N:List Str)(qual:Str)(scope:Scope)(f:Addr)(cd:Value)(A:Around)(outer:List Env)(s:Shared)(H:Hp)(E:XK):Cx where
 prog:=P
 w:=w
 K:=K
 mg:=mg
 base:=base
 A:=A.deeper (envOfC qual scope s.heap.objs.size f cd)
 N:=N
 s₀:=s
 H₀:=H
 env:=envOfC qual scope s.heap.objs.size f cd
 outer:=outer
 stack:=envOfC qual scope s.heap.objs.size f cd::outer
 ex:=[]
 calm:=true
 fn:=fun _=>true
 pn:=[]
 xe:=fun e s'=>wpAny (model P w) (A.deeper (envOfC qual scope s.heap.objs.size f cd)) (leaving (envOfC qual scope s.heap.objs.size f cd) e) (fun _ s''=>CX outer H s E e s'') (fun e' s''=>CX outer H s E e' s'') s'
theorem QcV {sc:Scope}{n:Nat}{x:Str}(h:sc.names.lookup x=some .cell):∃c,(cellsFrom n sc.names []).lookup x=some c:=by
 have q:=zt1 sc.names n [] (.inl h)
 exact Option.isSome_iff_exists.mp q
theorem Qex {CX:CXT}{P:Program}{w:World}{K:z02}{mg:Str->Option Value}{base:Heap}{N ps:List Str}{qual:Str}{scope:Scope}{f:Addr}{cd:Value}{A:Around}{outer:List Env}{s s1:Shared}{H:Hp}{E:XK}{us:List Value}{vs:List V}
  (S:VN N ps scope) (hd:A.handled=none) (e0:Qnj P w K mg base A outer s H) (hl:vs.length=ps.length) (r:Vals vs us)
  (x:InCallC s s.heap.objs.size (bindL (envOfC qual scope s.heap.objs.size f cd).kindOf (ps.zip us) fun _=>none) (cellsFrom (s.heap.objs.size+1) scope.names []) (bindC (envOfC qual scope s.heap.objs.size f cd).kindOf (ps.zip us) fun _=>none) s1) :
  Inv (Qgm CX P w K mg base N qual scope f cd A outer s H E) [] (start N vs) H s1:=by
 have hpl:ps.length<=N.length:=by have:=congrArg zf8 S.pre;rw[z39] at this;omega
 obtain⟨h1,tk,rfl,hk⟩:=x.done
 have noA:∀b:Addr,b∉(Qgm CX P w K mg base N qual scope f cd A outer s H E).ex:=fun b z=>absurd (show b∈([]:List Addr) from z) (by simp)
 refine⟨⟨e0.mod,S.kind,rfl,rfl,z18 _,fun y z c h1 h2=>?_,fun y hy=>?_,fun y c _ h=>?_,fun _=>hd,Around.frames_deeper e0.frames,.inr ⟨rfl,rfl⟩,fun b z=>absurd z (noA b),e0.bs,e0.bsz,fun b _ _=>noA b,fun b z=>absurd z (noA b),e0.Qgu,e0.frf⟩,
  rfl,e0.bare,Un.kept hk,⟨_,x.toInCall.ns,fun i y v h1 h2 h3=>?_⟩,fun y c h=>⟨_,x.cell y c h⟩,e0.hok.fresh (z18 _),fun y c h=>?_,fun p hp=>absurd (show p∈([]:List (Addr×Obj)) from hp) (by simp),e0.hok.kept hk,?_⟩
 ·exact name_of_addr x.apart (za1 h1) (za1 h2)
 ·have hy:scope.names.lookup y=some .cell\/scope.names.lookup y=some .free:=hy
  rcases hy with hy|hy
  ·exact QcV hy
  ·exact absurd rfl (S.QkC _ (za1 hy))
 ·exact zb9 (x.above y c (za1 h))
 ·have hi:i<vs.length:=by
   unfold start at h2
   by_cases hi:i<vs.length
   ·exact hi
   ·rw[z35 (by simpa using hi)] at h2
    rw[List.getElem?_replicate] at h2
    split at h2<;>cases h2
  have ha:vs[i]? = some v:=by
   unfold start at h2
   rw[z41 (by simpa using hi),z31] at h2
   cases e:vs[i]? with
   |none=>rw[e] at h2;cases h2
   |some a=>rw[e] at h2;cases h2;rfl
  obtain⟨u,hu,rv⟩:=r.get ha
  have hp:ps[i]? = some y:=by
   rw[← S.pre,z95 (by omega)];exact h1
  have ndP:ps.Nodup:=by rw[← S.pre];exact S.nd.sublist (zo6 _ _)
  refine⟨u,rv,?_⟩
  rcases S.par y (z56 hp) with k|k
  ·exact .inl ⟨k,Qbv ndP hp hu k⟩
  ·obtain⟨c,e⟩:=QcV (n:=s.heap.objs.size+1) k
   refine .inr ⟨.inl k,c,e,?_⟩
   have q:=x.cell y c e
   rw[Qbw ndP hp hu (by show scope.names.lookup y≠_;rw[k];decide)] at q
   exact q
 ·exact e0.hok.fresh (zb9 (x.above y c (za1 h)))
 ·unfold start
  show _=N.length
  rw[z10,z14,List.length_replicate]
  omega
theorem QnM {CX:CXT}{P:Program}{w:World}{K:z02}{mg:Str->Option Value}{base:Heap}{k:Nat}{f:Addr}{name qual:Str}{params:Arguments}{body:List Stmt}{scope:Scope}{dV kV doc pm cdv ct oc:Value}{an od:Option Addr}
  {osl:Array (Option Value)} {N ps:List Str} {sp:Sp} (lk:K.lookup f=some ⟨oc,od,.func (zf6 name qual params body scope dV kV doc pm an cdv ct),osl⟩) (hcd:zq8 K cdv qual=true) (S:VN N ps scope)
  (len:∀vs H Q E,sp vs H Q E->vs.length=ps.length)
  (hbody:∀(A:Around) (outer:List Env) (s:Shared) (H:Hp) (vs:List V) (Q:VK) (E:XK),Y7 k (A.deeper (envOfC qual scope s.heap.objs.size f cdv))->sp vs H Q E->
   ∃t,PSs (Qgm CX P w K mg base N qual scope f cdv A outer s H E) body t/\t { nx:=fun _ H'=>Q .non H',rt:=Q } (start N vs) H) :
  Qcf P w K mg base CX (k+1) f (zf6 name qual params body scope dV kV doc pm an cdv ct) ps sp:=by
 refine⟨len,fun A outer s H args us vs Q E hr e0 hb r hsp=>?_⟩
 have hl:=len _ _ _ _ hsp
 have KX:K.In s.heap:=e0.mod.kin.keeps fun b o e=>(e0.bs b o e).1
 have lim:s.heap.NoLimit:=e0.mod.nolimit.keeps fun b o e=>(e0.bs b o e).1
 have hkind:∀y∈ps.zip us,scope.names.lookup y.1=some .local\/(scope.names.lookup y.1=some .cell/\((cellsFrom (s.heap.objs.size+1) scope.names []).lookup y.1).isSome=true):=fun⟨n,v⟩ hy=>by
  rcases S.par n (zr7 hy).1 with q|q
  ·exact .inl q
  ·exact .inr ⟨q,zt1 _ _ _ (.inl q)⟩
 refine codeAny_call_function hr.depth (KX _ _ lk) rfl S.co S.gen rfl (PySem.W.codeRec_of KX hcd) (hb _ _ _ _ ?_)
 refine wpAny_newFunctionEnv_cells S.kind hkind fun env he s1 x=>?_
 subst he
 refine⟨lim.keeps x.toInCall.keep,codeAny_func ?_⟩
 obtain⟨t,ht,hq⟩:=hbody A outer s H vs Q E (hr.deeper _) hsp
 have I:Inv (Qgm CX P w K mg base N qual scope f cdv A outer s H E) [] (start N vs) H s1:=Qex S hr.hd e0 hl r x
 refine z99 (ht [] s1 (start N vs) H _ I hq) (fun fl s' hs=>?_) fun e s' hs=>hs
 have fin:∀{σ':St} {H':Hp} {v:V} {u:Value},Inv (Qgm CX P w K mg base N qual scope f cdv A outer s H E) [] σ' H' s'->RelV v u->Q v H'->CE outer P w H s Q u s':=
  fun{σ' H' v u} J rv q=>⟨v,H',J.os,J.bare,J.base,J.hok,rv,q⟩
 cases fl with
 |ret u=>
  obtain⟨v,σ',H',J,rv,q⟩:=hs
  exact fin J rv q
 |next=>
  obtain⟨σ',H',J,q⟩:=hs
  exact fin (v:=V.non) (u:=z43) J rfl q
 |brk=>
  obtain⟨_,_,_,q⟩:=hs
  exact zg9 q
 |cont=>
  obtain⟨_,_,_,q⟩:=hs
  exact zg9 q
section
variable {X:Cx}{x:Str}{p pos:Pos}{e:Expr}{es:List Expr}{t:TA}{id T:String}{r:List V->Hp->VK->Prop}
def tCB (r:List V->Hp->VK->Prop)(t:TA):TE:=fun σ H Q=>t σ H fun vs H1=>r vs H1 Q
theorem Vw (hc:VM X (.builtin id) r)(hg:Gl X x)(hm:X.mg x=none)(hv:z84 x=some (.builtin id))(ha:PA X (e::es) t)(hn:x ≠ "__name__" := by decide)(hdb:(x == ("__debug__" : Str))=false:=by decide)
  (he:starEach (e::es) X.env=(false,eval e X.env)::starEach es X.env:=by rfl) (hpl:(backTo pos (starEach es X.env)).any (·.1)=false:=by rfl):PE X (.Call (.Name x p) (e::es) [] pos) (tCB r t):=by
 intro pins s σ H Q I h
 refine zq6 (QcS I hg hm hv ?_ hn hdb)
 exact PyProof.Rows.callWith_builtin1 (thn (ha pos pins s σ H _ I h) fun us s1 ⟨vs,H1,I1,r1,q1⟩=>hc pins s1 σ H1 vs us Q I1 r1 q1) he hpl
theorem VP (hc:VM X (.type T) r)(hg:Gl X x)(hm:X.mg x=none)(hv:z84 x=some (.type T))(ha:PA X (e::es) t)(hn:x ≠ "__name__" := by decide)(hdb:(x == ("__debug__" : Str))=false:=by decide)
  (he:starEach (e::es) X.env=(false,eval e X.env)::starEach es X.env:=by rfl) (hpl:(backTo pos (starEach es X.env)).any (·.1)=false:=by rfl):PE X (.Call (.Name x p) (e::es) [] pos) (tCB r t):=by
 intro pins s σ H Q I h
 refine zq6 (QcS I hg hm hv ?_ hn hdb)
 exact zh1 (thn (ha pos pins s σ H _ I h) fun us s1 ⟨vs,H1,I1,r1,q1⟩=>hc pins s1 σ H1 vs us Q I1 r1 q1) he hpl
end
section
variable {κ:Type}[DecidableEq κ]
def Qcg (kvs:List (κ×V))(k:κ):Option V:=(kvs.find? fun kv=>decide (kv.1=k)).map (·.2)
def putK (kvs:List (κ×V))(k:κ)(v:V):List (κ×V):=
 if(kvs.any fun kv=>decide (kv.1=k))=true then kvs.map (fun kv=>if kv.1=k then(kv.1,v) else kv) else kvs++[(k,v)]
theorem J9 {p:κ×V}{r:List (κ×V)}{k:κ}(e:p.1=k):Qcg (p::r) k=some p.2:=by simp[Qcg,zg4,e]
theorem Jq {p:κ×V}{r:List (κ×V)}{k:κ}(e:¬ p.1=k):Qcg (p::r) k=Qcg r k:=by simp[Qcg,zg4,e]
theorem QcW (k:κ):∀kvs:List (κ×V),(kvs.any fun kv=>decide (kv.1=k))=(Qcg kvs k).isSome
 | []=>rfl
 |p::r=>by
  rw[zg5]
  by_cases e:p.1=k
  ·simp only[J9 e,decide_eq_true e,Bool.true_or,Option.isSome_some]
  ·rw[Jq e,decide_eq_false e,Bool.false_or];exact QcW k r
theorem Jr (kvs:List (κ×V))(k:κ)(v:V):(putK kvs k v).length<=kvs.length+1:=by
 unfold putK
 split
 ·rw[z14];omega
 ·rw[z10,z25,zr9];omega
theorem QdF.JQ {o:Option V}{u:Option Value}(r:QdF o u):o.isSome=u.isSome:=by
 cases o with
 |none=>cases u with
  |none=>rfl
  |some _=>exact(show False from r).elim
 |some _=>cases u with
  |none=>exact(show False from r).elim
  |some _=>rfl
theorem QdF.getD {o:Option V}{u:Option Value}{d:V}{d':Value}(r:QdF o u)(rd:RelV d d'):RelV (o.getD d) (u.getD d'):=by
 cases o with
 |none=>cases u with
  |none=>exact rd
  |some _=>exact(show False from r).elim
 |some _=>cases u with
  |none=>exact(show False from r).elim
  |some _=>exact r
theorem KV.val {kvs:List (κ×V)}{vs:List (κ×Value)}(r:KV kvs vs)(k:κ):QdF (Qcg kvs k) (valueAt vs k):=by
 unfold KV at r
 induction r with
 |nil=>exact z59
 | @cons p q ps qs h t ih=>
  obtain⟨h1,h2⟩:=h
  by_cases e:p.1=k
  ·have e':q.1=k:=h1.symm.trans e
   have b:valueAt (q::qs) k=some q.2:=by simp[valueAt,zg4,e']
   rw[J9 e,b];exact h2
  ·have e':¬ q.1=k:=fun z=>e (h1.trans z)
   have b:valueAt (q::qs) k=valueAt qs k:=by simp[valueAt,zg4,e']
   rw[Jq e,b];exact ih
theorem KV.any {kvs:List (κ×V)}{vs:List (κ×Value)}(r:KV kvs vs)(k:κ):(kvs.any fun kv=>decide (kv.1=k))=vs.any fun kv=>decide (kv.1=k):=by
 unfold KV at r
 induction r with
 |nil=>rfl
 |cons h t ih=>rw[zg5,zg5,ih,h.1]
theorem KV.repl {kvs:List (κ×V)}{vs:List (κ×Value)}(r:KV kvs vs)(k:κ){y:V}{u:Value}(ry:RelV y u) :
  KV (kvs.map fun kv=>if kv.1=k then(kv.1,y) else kv) (vs.map fun kv=>if kv.1=k then(kv.1,u) else kv):=by
 unfold KV at r ⊢
 induction r with
 |nil=>exact .nil
 | @cons p q ps qs h t ih=>
  rw[z30,z30]
  refine .cons ?_ ih
  obtain⟨h1,h2⟩:=h
  by_cases e:p.1=k
  ·rw[if_pos e,if_pos (h1.symm.trans e)];exact⟨h1,ry⟩
  ·rw[if_neg e,if_neg (fun z=>e (h1.trans z))];exact⟨h1,h2⟩
theorem KV.put {kvs:List (κ×V)}{vs:List (κ×Value)}(r:KV kvs vs)(k:κ){y:V}{u:Value}(ry:RelV y u):KV (putK kvs k y) (stored vs k u):=by
 unfold putK stored
 rw[r.any k]
 by_cases e:(vs.any fun kv=>decide (kv.1=k))=true
 ·rw[if_pos e,if_pos e];exact r.repl k ry
 ·rw[if_neg e,if_neg e];exact zv7 r ⟨rfl,ry⟩
theorem KV.length {kvs:List (κ×V)}{vs:List (κ×Value)}(r:KV kvs vs):kvs.length=vs.length:=z73 r
end
theorem QdI {P:Program}{w:World}{k:Key}{u:Value}(r:RelV (kV k) u):(Qu P w).is k u=true:=by
 cases k with
 |inl i=>obtain⟨t,e⟩:=(show ∃t,u=z80 i t from r);subst e;exact Qca P w i t
 |inr x=>obtain⟨t,e⟩:=(show ∃t,u=Value.str x t from r);subst e;exact Qcb P w x t
theorem Qbx {P:Program}{w:World}:∀{ks:List Key} {us:List Value},Vals (ks.map kV) us->ItemsAre (Qu P w) ks us
 | [],_,r=>by rw[zw0] at r;cases r;exact .nil
 |k::ks,_,r=>by
  rw[z30] at r
  cases r with
  |cons h t=>exact .cons (QdI h) (Qbx t)
abbrev KT (H:Hp):List (List Key×V)->List (List Key×Addr×Value)->Prop:=Paired fun p q=>p.1=q.1/\H q.2.1=some (.tup (p.1.map kV))/\RelV p.2 q.2.2
theorem KT.val {H:Hp}{kvs:List (List Key×V)}{xs:List (List Key×Addr×Value)}(r:KT H kvs xs)(k:List Key):QdF (Qcg kvs k) ((atKey xs k).map (·.2)):=by
 induction r with
 |nil=>exact z59
 | @cons p q ps qs h t ih=>
  obtain⟨h1,_,h2⟩:=h
  by_cases e:p.1=k
  ·have e':q.1=k:=h1.symm.trans e
   have b:atKey (q::qs) k=some q.2:=by simp[atKey,zg4,e']
   rw[J9 e,b];exact h2
  ·have e':¬ q.1=k:=fun z=>e (h1.trans z)
   have b:atKey (q::qs) k=atKey qs k:=by simp[atKey,zg4,e']
   rw[Jq e,b];exact ih
theorem KT.repl {H:Hp}{kvs:List (List Key×V)}{xs:List (List Key×Addr×Value)}(r:KT H kvs xs)(k:List Key){y:V}{u:Value}(ry:RelV y u) :
  KT H (kvs.map fun kv=>if kv.1=k then(kv.1,y) else kv) (xs.map (putAt k u)):=by
 induction r with
 |nil=>exact .nil
 | @cons p q ps qs h t ih=>
  rw[z30,z30]
  refine .cons ?_ ih
  obtain⟨h1,h2,h3⟩:=h
  unfold putAt
  by_cases e:p.1=k
  ·rw[if_pos e,if_pos (h1.symm.trans e)];exact⟨h1,h2,ry⟩
  ·rw[if_neg e,if_neg (fun z=>e (h1.trans z))];exact⟨h1,h2,h3⟩
theorem KT.put {H:Hp}{kvs:List (List Key×V)}{xs:List (List Key×Addr×Value)}(r:KT H kvs xs)(k:List Key){b:Addr}{y:V}{u:Value}(hb:H b=some (.tup (k.map kV)))(ry:RelV y u) :
  KT H (putK kvs k y) (storedH xs k b u):=by
 have e:(kvs.any fun kv=>decide (kv.1=k))=(atKey xs k).isSome:=by
  rw[QcW,(r.val k).JQ,zn8]
 unfold putK storedH
 rw[e]
 by_cases q:(atKey xs k).isSome=true
 ·rw[if_pos q,if_pos q];exact r.repl k ry
 ·rw[if_neg q,if_neg q];exact zv7 r ⟨rfl,hb,ry⟩
theorem KT.keeps {H H':Hp}{kvs:List (List Key×V)}{xs:List (List Key×Addr×Value)}(r:KT H kvs xs)(ht:∀b ys,H b=some (.tup ys)->H' b=some (.tup ys)):KT H' kvs xs:=
 Paired.Qng r fun _ _ z=>⟨z.1,ht _ _ z.2.1,z.2.2⟩
section
variable {P:Program}{w:World}{H:Hp}{h:Heap}{a:Addr}
theorem QkD {u:HO}(ok:HOk P w H h)(e:Rd H a u):QV P w H h a u:=e.ok ok
theorem Qch {kvs:List (Key×V)}(ok:HOk P w H h)(e:Rd H a (.dK kvs)):kvs.length<=z20/\(a == sysModules)=false/\∃vs,KV kvs vs/\h.DictOf (Qu P w) a vs:=
 show QV P w H h a (.dK kvs) from QkD ok e
theorem QnN {kvs:List (Key×V)}(ok:HOk P w H h)(e:H a=some (.dK kvs)):kvs.length<=z20/\(a == sysModules)=false/\∃vs,KV kvs vs/\h.DictOf (Qu P w) a vs:=Qch ok (.inl e)
theorem Vn {ks:List Key}(ok:HOk P w H h)(e:H a=some (.tup (ks.map kV))):(tupleKind (Qu P w)).is h ks a:=by
 obtain⟨_,its,r,o,h1,h2,n,h3⟩:=(show QV P w H h a (.tup (ks.map kV)) from ok a _ e)
 exact⟨o,its.toArray,n,h1,h2,h3,by simpa using Qbx r⟩
theorem Qci {kvs:List (List Key×V)}(ok:HOk P w H h)(e:Rd H a (.dT kvs)):kvs.length<=z20/\(a == sysModules)=false/\
  ∃xs,KT H kvs xs/\h.DictOfH (tupleKind (Qu P w)) a xs:=by
 obtain⟨z,y,xs,r,o,es,ep,h1,h2,h3,h4,h5⟩:=(show QV P w H h a (.dT kvs) from QkD ok e)
 refine⟨z,y,xs,r,o,es,ep,h1,h2,h3,h4,fun x hx=>?_,h5⟩
 have all:∀{l:List (List Key×V)} {m:List (List Key×Addr×Value)},KT H l m->∀x∈m,(tupleKind (Qu P w)).is h x.1 x.2.1:=by
  intro l m q
  induction q with
  |nil=>intro x hx;exact nomatch hx
  | @cons p q ps qs hq t ih=>
   intro x hx
   rcases z26.mp hx with e|hx
   ·subst e
    exact Vn ok (by rw[← hq.1];exact hq.2.1)
   ·exact ih x hx
 exact all r x hx
theorem Qif {kvs:List (List Key×V)}(ok:HOk P w H h)(e:H a=some (.dT kvs)):kvs.length<=z20/\(a == sysModules)=false/\
  ∃xs,KT H kvs xs/\h.DictOfH (tupleKind (Qu P w)) a xs:=Qci ok (.inl e)
end
def Qcj (H:Hp)(a:Addr)(y:V)(r:Option V):Prop:=
 (∃kvs k,Rd H a (.dK kvs)/\y=kV k/\r=Qcg kvs k)\/∃kvs k b,Rd H a (.dT kvs)/\y=.ref b/\H b=some (.tup (k.map kV))/\r=Qcg kvs k
def QkE (H:Hp)(a:Addr)(y v:V)(H':Hp):Prop:=
 (∃kvs k,H a=some (.dK kvs)/\y=kV k/\kvs.length<z20/\H'=upd H a (.dK (putK kvs k v)))\/
 ∃kvs k b,H a=some (.dT kvs)/\y=.ref b/\H b=some (.tup (k.map kV))/\kvs.length<z20/\H'=upd H a (.dT (putK kvs k v))
theorem Qcj.t {H:Hp}{a b:Addr}{kvs:List (List Key×V)}{k:List Key}(e:H a=some (.dT kvs))(eb:H b=some (.tup (k.map kV))):Qcj H a (.ref b) (Qcg kvs k):=.inr ⟨kvs,k,b,.inl e,rfl,eb,rfl⟩
theorem QkE.t {H:Hp}{a b:Addr}{kvs:List (List Key×V)}{k:List Key}{v:V}(e:H a=some (.dT kvs))(eb:H b=some (.tup (k.map kV)))(hl:kvs.length<z20) :
  QkE H a (.ref b) v (upd H a (.dT (putK kvs k v))):=.inr ⟨kvs,k,b,e,rfl,eb,hl,rfl⟩
section
variable {X:Cx}{pins:List (Addr×Obj)}{σ:St}{H:Hp}{s:Shared}{a:Addr}{y v:V}{u r:Value}{o:Option V}{A:Around}{E:Value->Shared->Prop}
theorem Inv.big (I:Inv X pins σ H s):sysModules<s.heap.objs.size:=by
 have h:z67<s.heap.objs.size:=(I.mod.glob.keeps I.bk).lt
 exact zl8 (by decide) h
theorem Qey {Q:Value->Shared->Prop}(hu:A.units+1<cLine)(I:Inv X pins σ H s)(g:Qcj H a y (some v))(ry:RelV y u)(h:∀w' s',Inv X pins σ H s'->RelV v w'->Q w' s') :
  wpAny (model X.prog X.w) A (getItem (.ref a) u) Q E s:=by
 rcases g with⟨kvs,k,e,ey,l⟩|⟨kvs,k,b,e,ey,eb,l⟩
 ·subst ey
  obtain⟨z,hd,vs,rel,dd⟩:=Qch I.hok e
  obtain⟨w',hw,rw'⟩:=QdF.some_of (v:=v) (o:=valueAt vs k) (by rw[l];exact rel.val k)
  exact wpAny_getItem_of (QdI ry) dd.mapOf hw (h w' _ (I.tok _) rw')
 ·subst ey
  cases(show u=z32 b from ry)
  obtain⟨z,hd,xs,rel,dd⟩:=Qci I.hok e
  obtain⟨w',hw,rw'⟩:=QdF.some_of (v:=v) (o:=(atKey xs k).map (·.2)) (by rw[l];exact rel.val k)
  obtain⟨p,hp,hp2⟩:=z05.mp hw
  refine wpAny_getItem_heap (tupleKind_room_in1 hu) (Vn I.hok eb) dd hp ?_
  rw[hp2]
  exact h w' _ (I.tok _) rw'
theorem Qp0 {Q:Value->Shared->Prop}(hu:A.units+1<cLine)(I:Inv X pins σ H s)(g:Qcj H a y o)(ry:RelV y u)(h:∀s',Inv X pins σ H s'->Q (.bool o.isSome) s') :
  wpAny (model X.prog X.w) A (compareOp .In u (.ref a)) Q E s:=by
 rcases g with⟨kvs,k,e,ey,l⟩|⟨kvs,k,b,e,ey,eb,l⟩
 ·subst ey
  obtain⟨z,hd,vs,rel,dd⟩:=Qch I.hok e
  refine wpAny_in_of (QdI ry) hd dd.mapOf ?_
  rw[← (rel.val k).JQ,← l]
  exact h _ (I.tok _)
 ·subst ey
  cases(show u=z32 b from ry)
  obtain⟨z,hd,xs,rel,dd⟩:=Qci I.hok e
  refine wpAny_in_heap (tupleKind_room_in1 hu) (Vn I.hok eb) hd dd ?_
  have q:=(rel.val k).JQ
  rw[zn8] at q
  rw[← q,← l]
  exact h _ (I.tok _)
theorem Qig {Q:Value->Shared->Prop}(hu:A.units+1<cLine)(I:Inv X pins σ H s)(g:Qcj H a y o)(ry:RelV y u)(h:∀s',Inv X pins σ H s'->Q (.bool (!o.isSome)) s') :
  wpAny (model X.prog X.w) A (compareOp .NotIn u (.ref a)) Q E s:=by
 rcases g with⟨kvs,k,e,ey,l⟩|⟨kvs,k,b,e,ey,eb,l⟩
 ·subst ey
  obtain⟨z,hd,vs,rel,dd⟩:=Qch I.hok e
  refine wpAny_notIn_of (QdI ry) hd dd.mapOf ?_
  rw[← (rel.val k).JQ,← l]
  exact h _ (I.tok _)
 ·subst ey
  cases(show u=z32 b from ry)
  obtain⟨z,hd,xs,rel,dd⟩:=Qci I.hok e
  refine wpAny_notIn_heap (tupleKind_room_in1 hu) (Vn I.hok eb) hd dd ?_
  have q:=(rel.val k).JQ
  rw[zn8] at q
  rw[← q,← l]
  exact h _ (I.tok _)
theorem VR {h':Heap}{t':Nat}{ob:HO}(I:Inv X pins σ H s)(mu:Mut (H a))(hs:zb0 a s.heap h')(he:∃q,h'.get? a=some q)(new:QV X.prog X.w (upd H a ob) h' a ob) :
  Inv X pins σ (upd H a ob) { s with heap:=h',toks:=t' }:=
 I.write (x:=a) (e:=a) mu (.inl rfl) (fun b q hb z=>(hs.2 b hb).trans z) he new
theorem QkF {P:Program}{w:World}{H':Hp}{h':Heap}{kvs:List (Key×V)}{vs:List (Key×Value)}(z:kvs.length<=z20)(hd:(a == sysModules)=false)(rel:KV kvs vs)(dd:h'.DictOf (Qu P w) a vs) :
  QV P w H' h' a (.dK kvs):=⟨z,hd,vs,rel,dd⟩
theorem Qez {H':Hp}{Q:Unit->Shared->Prop}(hu:A.units+1<cLine)(I:Inv X pins σ H s)(g:QkE H a y v H')(ry:RelV y u)(rv:RelV v r)(h:∀s',Inv X pins σ H' s'->Q () s') :
  wpAny (model X.prog X.w) A (setItem (.ref a) u r) Q E s:=by
 rcases g with⟨kvs,k,e,ey,l,eH⟩|⟨kvs,k,b,e,ey,eb,l,eH⟩
 ·subst ey eH
  obtain⟨z,hd,vs,rel,dd⟩:=QnN I.hok e
  have hz:vs.length<=z20:=by rw[← rel.length];exact z
  have hl:(putK kvs k v).length<=z20:=by have:=Jr kvs k v;omega
  refine wpAny_setItem_pairs (hsz:=hz) (QdI ry) dd fun h' dd' hs=>h _ ?_
  have he:∃q,h'.get? a=some q:=let ⟨q,_,_,hq,_⟩:=dd';⟨q,hq⟩
  exact VR I (by rw[e];exact z59) hs he (QkF hl hd (rel.put k rv) dd')
 ·subst ey eH
  cases(show u=z32 b from ry)
  obtain⟨z,hd,xs,rel,dd⟩:=Qif I.hok e
  have hz:xs.length<=z20:=by rw[← z73 rel];exact z
  have hl:(putK kvs k v).length<=z20:=by have:=Jr kvs k v;omega
  refine wpAny_setItem_heap (hsz:=hz) (tupleKind_room_in1 hu) (Vn I.hok eb) dd fun h' dd' hs=>h _ ?_
  obtain⟨q,es,ep,hq,h2,h3,h4,_,h5⟩:=dd'
  refine VR I (by rw[e];exact z59) hs ⟨q,hq⟩ ⟨hl,hd,_,(rel.put k eb rv).keeps fun c ys ec=>?_,q,es,ep,hq,h2,h3,h4,h5⟩
  rw[Qg (Qek ec e (fun z=>nomatch z))]
  exact ec
end
def QnO (i:Expr):Prop:=∀ov iv,subscripted i false ov iv=operate [ov,iv] (getItem ov iv)
theorem Qih {prog:Program}{w:World}{A:Around}{E:Value->Shared->Prop}{s:Shared}{env:Env}{value slice:Expr}{pos:Pos}{T id:String}{Q:Value->Shared->Prop}
  (hl:typeLookup (.type T) "__getitem__" = pure (some (.builtin id))) (hs:QnO slice)
  (h:wpAny (model prog w) A (eval value env) (fun o s₁=>wpAny (model prog w) A (eval slice env) (fun i s₂=>s₂.TypeIs o T/\wpAny (model prog w) A (getItem o i) Q E s₂) E s₁) E s) :
  wpAny (model prog w) A (eval (.Subscript value slice pos) env) Q E s:=by
 refine Subscript_ (z99 h (fun o s₁ h₁=>z99 h₁ (fun i s₂ h₂=>?_) fun _ _ x=>x) fun _ _ x=>x)
 obtain⟨hT,h₂⟩:=h₂
 unfold subscriptTail
 refine z00 ?_
 rw[getitemInPython_of_ne hT.not_modules]
 refine z00 (zh2 hT hl ?_)
 have fin:wpAny (model prog w) A (subscripted slice false o i) (fun r s₃=>wpAny (model prog w) A (letTemporaryGo value o r >>= fun _=>pure r) Q E s₃) E s₂:=by
  rw[hs o i]
  exact wpAny_operating (z99 h₂ (fun r s₃ h₃=>z00 (wpAny_letTemporaryGo (z06 h₃))) fun _ _ x=>x)
 first
  |exact z06 (z00 fin)
  |exact z00 (z06 (z00 fin))
  |exact z00 fin
theorem Qck {X:Cx}{pins:List (Addr×Obj)}{σ:St}{H:Hp}{s:Shared}{a:Addr}{y:V}{o:Option V}(I:Inv X pins σ H s)(g:Qcj H a y o):s.TypeIs (.ref a) "dict" := by
 rcases g with⟨kvs,k,e,_,_⟩|⟨kvs,k,b,e,_,_,_⟩
 ·obtain⟨_,_,vs,_,dd⟩:=Qch I.hok e
  exact dd.typeIs
 ·obtain⟨_,_,xs,_,dd⟩:=Qci I.hok e
  exact dd.typeIs
def QnP (td ty:TE):TE:=fun σ H Q=>td σ H fun x H1=>ty σ H1 fun y H2=>∃a v,x=.ref a/\Qcj H2 a y (some v)/\Q v H2
def Qp1 (ty td:TE):TE:=fun σ H Q=>ty σ H fun y H1=>td σ H1 fun x H2=>∃a o,x=.ref a/\Qcj H2 a y o/\Q (.bl o.isSome) H2
def Qii (ty td:TE):TE:=fun σ H Q=>ty σ H fun y H1=>td σ H1 fun x H2=>∃a o,x=.ref a/\Qcj H2 a y o/\Q (.bl (!o.isSome)) H2
def QnQ (td ty tv:TE):TS:=fun D σ H=>tv σ H fun v H1=>td σ H1 fun x H2=>ty σ H2 fun y H3=>∃a H4,x=.ref a/\QkE H3 a y v H4/\D.nx σ H4
section
variable {X:Cx}{o i value:Expr}{pos pos':Pos}{td ty tv:TE}
theorem Qij (hu:X.A.units+1<cLine)(ho:PE X o td)(hi:PE X i ty)(hs:QnO i):PE X (.Subscript o i pos) (QnP td ty):=by
 intro pins s σ H Q I h
 refine Qih PySem.F.slot_dict_getitem.lookup hs (thn (ho pins s σ H _ I h) fun u s1 hz=>?_)
 obtain⟨x,H1,I1,rx,q1⟩:=hz
 refine thn (hi pins s1 σ H1 _ I1 q1) fun iv s2 hz=>?_
 obtain⟨y,H2,I2,ry,a,v,ex,g,q2⟩:=hz
 subst ex
 obtain rfl:u=z32 a:=rx
 exact⟨Qck I2 g,Qey hu I2 g ry fun w' s3 I3 rw'=>⟨v,H2,I3,rw',q2⟩⟩
theorem QkG (hu:X.A.units+1<cLine)(hi:PE X i ty)(ho:PE X o td):PC X .In i o (Qp1 ty td):=by
 intro pins s σ H Q I h
 refine thn (hi pins s σ H _ I h) fun iv s1 hz=>?_
 obtain⟨y,H1,I1,ry,q1⟩:=hz
 refine thn (ho pins s1 σ H1 _ I1 q1) fun u s2 hz=>?_
 obtain⟨x,H2,I2,rx,a,ov,ex,g,q2⟩:=hz
 subst ex
 obtain rfl:u=z32 a:=rx
 exact Qp0 hu I2 g ry fun s3 I3=>⟨.bl ov.isSome,H2,I3,rfl,q2⟩
theorem QeA (hu:X.A.units+1<cLine)(hi:PE X i ty)(ho:PE X o td):PC X .NotIn i o (Qii ty td):=by
 intro pins s σ H Q I h
 refine thn (hi pins s σ H _ I h) fun iv s1 hz=>?_
 obtain⟨y,H1,I1,ry,q1⟩:=hz
 refine thn (ho pins s1 σ H1 _ I1 q1) fun u s2 hz=>?_
 obtain⟨x,H2,I2,rx,a,ov,ex,g,q2⟩:=hz
 subst ex
 obtain rfl:u=z32 a:=rx
 exact Qig hu I2 g ry fun s3 I3=>⟨.bl (!ov.isSome),H2,I3,rfl,q2⟩
theorem Qik (hu:X.A.units+1<cLine)(ho:PE X o td)(hi:PE X i ty)(hv:PE X value tv)(hs:swapsWith value (some (.Subscript o i pos')) pos.line X.env=pure false) :
  PS X (.Assign [.Subscript o i pos'] value pos) (QnQ td ty tv):=by
 intro pins s σ H D I h
 refine wpAny_Assign_Subscript (thn (hv pins s σ H _ I h) fun r s1 hz=>?_) hs
 obtain⟨v,H1,I1,rv,q1⟩:=hz
 refine thn (ho pins s1 σ H1 _ I1 q1) fun u s2 hz=>?_
 obtain⟨x,H2,I2,rx,q2⟩:=hz
 refine thn (hi pins s2 σ H2 _ I2 q2) fun iv s3 hz=>?_
 obtain⟨y,H3,I3,ry,a,H4,ex,g,q3⟩:=hz
 subst ex
 obtain rfl:u=z32 a:=rx
 exact Qez hu I3 g ry rv fun s4 I4=>⟨σ,H4,I4,q3⟩
end
theorem QcX {P:Program}{w:World}{H:Hp}(h:Heap)(hb:sysModules<h.objs.size):QV P w H (h.push { cls:=.type "dict",data:=.dict #[]}) h.objs.size (.dT []):=
 ⟨z49 _,beq_eq_false_iff_ne.mpr (zg0 (z51 hb)),[],.nil,_,#[],0,z37 _ rfl,⟨rfl,rfl,rfl⟩,rfl,rfl,zi9⟩
def QkH:TE:=fun _ H Q=>∀p,H p=none->Q (.ref p) (upd H p (.dT []))
section
variable {X:Cx}{pos:Pos}
theorem QgB:PE X (.Dict [] [] pos) QkH:=fun pins s σ H Q I h=>
 wpAny_Dict_empty ⟨.ref s.heap.objs.size,_,I.laid (a:=s.heap.objs.size) (o:=.dT []) (t':=s.toks) (fun _ _ q=>z16 _ q) (z18 _) (QcX s.heap I.big),rfl,h _ (I.hok.fresh (z18 _))⟩
end
structure M2 (X:Cx)(o:Expr)(m:Str)(apos:Pos)(e f:Expr)(cpos:Pos):Prop where
 base:attributeBase o m X.env (eval o X.env)=eval o X.env
 few:((backTo cpos (starEach [e,f] X.env)).all (fun x=>!x.1) && (backToKw cpos (keywordEach [] X.env)).all (fun x=>x.1.isSome)
  && decide (([e,f]:List Expr).length+([]:List Keyword).length+(if([]:List Keyword).isEmpty then 0 else 1)<30))=true
 line:(apos.endLine == cpos.line)=true
 trees:backTo cpos (starEach [e,f] X.env)=[(false,eval e X.env),(false,eval f X.env)]
def IsD (H:Hp)(a:Addr):Prop:=(∃kvs,Rd H a (.dK kvs))\/∃kvs,Rd H a (.dT kvs)
theorem QkI {X:Cx}{pins:List (Addr×Obj)}{σ:St}{H:Hp}{s:Shared}{a:Addr}(I:Inv X pins σ H s)(d:IsD H a) :
  s.TypeIs (.ref a) "dict" /\ (∀b,z32 a=.ref b->∃ob,s.heap.get? b=some ob/\ob.dict=none)/\(a == sysModules)=false:=by
 rcases d with⟨kvs,e⟩|⟨kvs,e⟩
 ·obtain⟨_,hd,vs,_,dd⟩:=Qch I.hok e
  refine⟨dd.typeIs,fun b q=>?_,hd⟩
  cases q
  obtain⟨ob,_,_,h1,h2,_⟩:=dd
  exact⟨ob,h1,h2.2.1⟩
 ·obtain⟨_,hd,xs,_,dd⟩:=Qci I.hok e
  refine⟨dd.typeIs,fun b q=>?_,hd⟩
  cases q
  obtain⟨ob,_,_,h1,h2,_⟩:=dd
  exact⟨ob,h1,h2.2.1⟩
section
variable {X:Cx}{pins:List (Addr×Obj)}{σ:St}{H:Hp}{s:Shared}{a:Addr}{y d:V}{u r:Value}{o:Option V}{A:Around}{E:Value->Shared->Prop}
theorem QkJ {Q:Value->Shared->Prop}(hu:A.units+1<cLine)(I:Inv X pins σ H s)(g:Qcj H a y o)(ry:RelV y u)(rd:RelV d r)(h:∀w' s',Inv X pins σ H s'->RelV (o.getD d) w'->Q w' s') :
  wpAny (model X.prog X.w) A (call (.builtin "dict.get") [.ref a,u,r]) Q E s:=by
 rcases g with⟨kvs,k,e,ey,l⟩|⟨kvs,k,b,e,ey,eb,l⟩
 ·subst ey
  obtain⟨z,hd,vs,rel,dd⟩:=Qch I.hok e
  refine call_meetsIn zj9 dd.typeIs zt2 (zs8 _ _ _) (meets_dict_get_default (Qu X.prog X.w) a (QdI ry) hd r) ⟨_,dd.mapOf,h _ _ (I.tok _) ?_⟩
  rw[l]
  exact(rel.val k).getD rd
 ·subst ey
  cases(show u=z32 b from ry)
  obtain⟨z,hd,xs,rel,dd⟩:=Qci I.hok e
  refine call_meetsIn zj9 dd.typeIs zt2 (zs8 _ _ _) (meetsH_dict_get_default (tupleKind (Qu X.prog X.w)) a b hd r) ⟨tupleKind_room_in1 hu,k,xs,Vn I.hok eb,dd,h _ _ (I.tok _) ?_⟩
  rw[l]
  exact(rel.val k).getD rd
end
def QkK (td ty tx:TE):TE:=fun σ H Q=>td σ H fun x H1=>∃a,x=.ref a/\IsD H1 a/\ty σ H1 fun y H2=>tx σ H2 fun z H3=>∃o,Qcj H3 a y o/\Q (o.getD z) H3
section
variable {X:Cx}{o e f:Expr}{apos cpos:Pos}{td ty tx:TE}
theorem QgC (hu:X.A.units+1<cLine)(ho:PE X o td)(he:PE X e ty)(hf:PE X f tx)(m:M2 X o "get" apos e f cpos):PE X (.Call (.Attribute o "get" apos) [e,f] [] cpos) (QkK td ty tx):=by
 intro pins s σ H Q I h
 refine wpAny_Call_method m.base m.few m.line zs7 zj9 PySem.F.type_dict_get (thn (ho pins s σ H _ I h) fun u s1 hz=>?_)
 obtain⟨x,H1,I1,rx,a,ex,d,q1⟩:=hz
 subst ex
 obtain rfl:u=z32 a:=rx
 obtain⟨t1,t2,_⟩:=QkI I1 d
 refine⟨t1,t2,?_⟩
 rw[m.trees]
 refine zk2 rfl (zw2 (zn5 (thn (he pins s1 σ H1 _ I1 q1) fun iv s2 hz=>?_)))
 obtain⟨y,H2,I2,ry,q2⟩:=hz
 refine zn5 (thn (hf pins s2 σ H2 _ I2 q2) fun fv s3 hz=>?_)
 obtain⟨z,H3,I3,rz,ov,g,q3⟩:=hz
 refine zy6 ?_
 exact QkJ hu I3 g ry rz fun w' s4 I4 rw'=>⟨_,H3,I4,rw',q3⟩
end
end L2
namespace HT
open PySem PyProof.Rows
section
open PySem.SeqAt
open PySem.AutoSeq1 (wpAny_loadPart')
open PySem.MeetsSeq PySem.MeetsSeq2 PySem.MeetsSeq3
end
section
def sIx (n d:Nat):Option Int->Nat
 |none=>d
 |some v=>if v<0 then(v+(n:Int)).toNat else min v.toNat n
end
end HT
namespace L2
open PySem PySem.Spec PyProof.Rows
abbrev TO:=St->Hp->(Option Int->Hp->Prop)->Prop
def PO (X:Cx)(e:Option Expr)(t:TO):Prop:=
 ∀(pins:List (Addr×Obj)) (s:Shared) (σ:St) (H:Hp) (Q:Option Int->Hp->Prop),Inv X pins σ H s->t σ H Q->
  wpAny (model X.prog X.w) X.A (evalPart e X.env) (fun u s'=>∃o H',Inv X pins σ H' s'/\IsPart u o/\Q o H') X.xe s
def Qil:TO:=fun _ H Q=>Q none H
def QnR (t:TE):TO:=fun σ H Q=>t σ H fun x H1=>∃i,x=.int i/\Q (some i) H1
section
variable {X:Cx}{e:Expr}{te:TE}{lo hi:Option Expr}{tl th:TO}{pos p2:Pos}
theorem Qim:PO X none Qil:=by
 intro pins s σ H Q I h
 rw[evalPart_none]
 exact z06 ⟨none,H,I,.none,h⟩
theorem Qin (h:PE X e te):PO X (some e) (QnR te):=by
 intro pins s σ H Q I hw
 rw[evalPart_some]
 refine thn (h pins s σ H _ I hw) fun u s1 hz=>?_
 obtain⟨x,H1,I1,r1,q1⟩:=hz
 obtain⟨i,rfl,q⟩:=q1
 obtain⟨t,rfl⟩:=r1
 exact⟨some i,H1,I1,.int i t,q⟩
def SlR (X:Cx)(r:V->Option Int->Option Int->Hp->VK->Prop):Prop:=
 ∀(pins:List (Addr×Obj)) (s:Shared) (σ:St) (H:Hp) (x:V) (v vl vu:Value) (lo hi:Option Int) (sl:Addr) (Q:VK),Inv X pins σ H s->RelV x v->s.heap.IsSliceOf sl vl vu .none->IsPart vl lo->IsPart vu hi->r x lo hi H Q->
  ∃T id,typeLookup (.type T) "__getitem__" = pure (some (.builtin id))/\s.TypeIs v T/\wpAny (model X.prog X.w) X.A (getItem v (.ref sl)) (EP X pins σ Q) X.xe s
def tSl (r:V->Option Int->Option Int->Hp->VK->Prop)(te:TE)(tl th:TO):TE:=fun σ H Q=>te σ H fun x H1=>tl σ H1 fun l H2=>th σ H2 fun u H3=>r x l u H3 Q
theorem QgD {r:V->Option Int->Option Int->Hp->VK->Prop}(hr:SlR X r)(he:PE X e te)(hl:PO X lo tl)(hu:PO X hi th):PE X (.Subscript e (.Slice lo hi none p2) pos) (tSl r te tl th):=by
 intro pins s σ H Q I h
 refine Subscript_ (thn (he pins s σ H _ I h) fun v s1 hz=>?_)
 obtain⟨x,H1,I1,r1,q1⟩:=hz
 refine wpAny_Slice (thn (hl pins s1 σ H1 _ I1 q1) fun vl s2 hz=>?_)
 obtain⟨l,H2,I2,pl,q2⟩:=hz
 refine thn (hu pins s2 σ H2 _ I2 q2) fun vu s3 hz=>?_
 obtain⟨u,H3,I3,pu,q3⟩:=hz
 rw[evalPart_none]
 refine z06 ?_
 have I4:Inv X pins σ H3 { s3 with heap:=s3.heap.push { cls:=.type "slice",data:=.fields #[vl,vu,.none]}}:=I3.kept (t':=s3.toks) fun b ob q=>z16 _ q
 obtain⟨T,id,hT,ht,hg⟩:=hr pins { s3 with heap:=s3.heap.push { cls:=.type "slice",data:=.fields #[vl,vu,.none]}} σ H3 x v vl vu l u s3.heap.objs.size Q I4 r1 (Heap.IsSliceOf.new ..) pl pu q3
 show wpAny (model X.prog X.w) X.A (subscriptTail e (.Slice lo hi none p2) v (.ref s3.heap.objs.size)) (EP X pins σ Q) X.xe { s3 with heap:=s3.heap.push { cls:=.type "slice",data:=.fields #[vl,vu,.none]}}
 exact tail_any (ops:=[.ref s3.heap.objs.size,v]) ht hT hg (by with_unfolding_all rfl)
def Qio (xs:List V)(lo hi:Option Int):List V:=(xs.drop (HT.sIx xs.length 0 lo)).take (HT.sIx xs.length xs.length hi - HT.sIx xs.length 0 lo)
theorem Qcl (xs:List V)(lo hi:Option Int):(Qio xs lo hi).length<=xs.length:=by
 unfold Qio
 rw[z39,z96]
 omega
end
noncomputable def ixN (n:Nat)(i:Int):Option Nat:=if 0<=i then(if i<n then some i.toNat else none) else if -(n:Int)<=i then some (i+n).toNat else none
noncomputable def atI {α:Type}(xs:List α)(i:Int):Option α:=(ixN xs.length i).bind fun j=>xs[j]?
theorem QeB {n:Nat}{i:Int}{j:Nat}(h:ixN n i=some j):seqIndex? i n=some j/\j<n/\-(n:Int)<=i/\i<n:=by
 unfold ixN at h
 by_cases h0:0<=i
 ·rw[if_pos h0] at h
  by_cases h1:i<n
  ·rw[if_pos h1] at h
   have e:i.toNat=j:=z27 h
   exact⟨by rw[seqIndex_of h0 h1,e],by omega,by omega,h1⟩
  ·rw[if_neg h1] at h;cases h
 ·rw[if_neg h0] at h
  by_cases h1 : -(n:Int)<=i
  ·rw[if_pos h1] at h
   have e:(i+n).toNat=j:=z27 h
   exact⟨by rw[seqIndex_neg (by omega) h1,e],by omega,h1,by omega⟩
  ·rw[if_neg h1] at h;cases h
theorem Qcm {α:Type}{xs:List α}{i:Int}{v:α}(h:atI xs i=some v):∃j,seqIndex? i xs.length=some j/\xs[j]? = some v/\j<xs.length/\-(xs.length:Int)<=i/\i<xs.length:=by
 unfold atI at h
 cases e:ixN xs.length i with
 |none=>rw[e] at h;cases h
 |some j=>
  rw[e] at h
  obtain⟨h1,h2,h3,h4⟩:=QeB e
  exact⟨j,h1,h,h2,h3,h4⟩
def Qcn (b:Expr):Prop:=∀o i,subscripted b false o i=operate [o,i] (getItem o i)
def IxR (X:Cx)(r:R2):Prop:=
 ∀(value slice:Expr) (pins:List (Addr×Obj)) (s:Shared) (σ:St) (H:Hp) (x y:V) (v u:Value) (Q:VK),Inv X pins σ H s->RelV x v->RelV y u->r x y H Q->
  subscripted slice false v u=operate [v,u] (getItem v u)->wpAny (model X.prog X.w) X.A (subscriptTail value slice v u) (EP X pins σ Q) X.xe s
def MtR (X:Cx)(id:String)(r:V->List V->Hp->VK->Prop):Prop:=
 ∀(pins:List (Addr×Obj)) (s:Shared) (σ:St) (H:Hp) (x:V) (xs:List V) (v:Value) (us:List Value) (Q:VK),Inv X pins σ H s->RelV x v->Vals xs us->r x xs H Q->
  wpAny (model X.prog X.w) X.A (call (.builtin id) (v::us)) (EP X pins σ Q) X.xe s
section
variable {X:Cx}{a b:Expr}{ta tb:TE}{pos:Pos}
theorem IxR.or {r r':R2}(h:IxR X r)(h':IxR X r'):IxR X (fun x y H Q=>r x y H Q\/r' x y H Q):=by
 intro value slice pins s σ H x y v u Q I rx ry q hs
 rcases q with q|q
 ·exact h value slice pins s σ H x y v u Q I rx ry q hs
 ·exact h' value slice pins s σ H x y v u Q I rx ry q hs
theorem QkL {r:R2}(hr:IxR X r)(ha:PE X a ta)(hb:PE X b tb)(hs:Qcn b):PE X (.Subscript a b pos) (tOp r ta tb):=by
 intro pins s σ H Q I h
 exact Subscript_ (QnJ ha hb I h fun v u s2 x y H2 I2 rx ry q=>hr a b pins s2 σ H2 x y v u Q I2 rx ry q (hs _ _))
def Qpg (K:z02):R2:=fun x y H Q=>∃p xs i v,x=.ref p/\y=.int i/\SqL K H p xs/\atI xs i=some v/\Q v H
def Qph (K:z02):R2:=fun x y H Q=>∃p xs i v,x=.ref p/\y=.int i/\SqT K H p xs/\atI xs i=some v/\Q v H
def Qpi:R2:=fun x y H Q=>∃z i c,x=.str z/\y=.int i/\z.length<=z20/\atI z.cps.toList i=some c/\Q (.str ⟨#[c]⟩) H
theorem Qip:IxR X (Qpg X.K):=by
 intro value slice pins s σ H x y v u Q I rx ry h hs
 obtain⟨p,xs,i,z,rfl,rfl,hq,he,q⟩:=h
 cases rx
 obtain⟨t,rfl⟩:=ry
 obtain⟨its,r,pl,hz⟩:=I.list hq
 obtain⟨j,h1,h2,h3,h4,h5⟩:=Qcm he
 obtain⟨w,ew,rw'⟩:=r.get h2
 have hl:=r.length
 have hn:=Qbs
 have fin:EP X pins σ Q w s:=⟨z,H,I,rw',q⟩
 by_cases h0:0<=i
 ·have hj:i.toNat=j:=by
   rw[seqIndex_of h0 h5] at h1
   exact z27 h1
  exact item_listR pl.isList h0 (by omega) (by rw[hj];simpa using ew) fin hs
 ·have hj:(i+(its.toArray.size:Int)).toNat=j:=by
   rw[seqIndex_neg (by omega) h4] at h1
   rw[z21,← hl]
   exact z27 h1
  exact subscriptTail_builtinR (x:=w) pl.isList.typeIs slot_list_getitem.lookup
   (wpAny_getItem_list_neg (Q:=fun r s'=>r=w/\EP X pins σ Q r s') pl.isList (by omega) (by rw[z21]<;>omega) (by omega) (by rw[hj];simpa using ew) ⟨rfl,fin⟩) hs
theorem QkM:IxR X (Qph X.K):=by
 intro value slice pins s σ H x y v u Q I rx ry h hs
 obtain⟨p,xs,i,z,rfl,rfl,hq,he,q⟩:=h
 cases rx
 obtain⟨t,rfl⟩:=ry
 obtain⟨its,r,pl,hz⟩:=I.tuple hq
 obtain⟨j,h1,h2,h3,h4,h5⟩:=Qcm he
 obtain⟨w,ew,rw'⟩:=r.get h2
 have hl:=r.length
 have hn:=Qbs
 have fin:EP X pins σ Q w s:=⟨z,H,I,rw',q⟩
 exact subscriptTail_builtinR (x:=w) pl.typeIs slot_tuple_getitem.lookup
  (getItem_tuple (j:=j) (Q:=fun r s'=>r=w/\EP X pins σ Q r s') pl (by omega) (by omega) (by rw[z21,← hl];exact h1) (by simpa using ew) ⟨rfl,fin⟩) hs
theorem QkN:IxR X Qpi:=by
 intro value slice pins s σ H x y v u Q I rx ry h hs
 obtain⟨z,i,c,rfl,rfl,hz,he,q⟩:=h
 obtain⟨t,rfl⟩:=rx
 obtain⟨t',rfl⟩:=ry
 obtain⟨j,h1,h2,h3,h4,h5⟩:=Qcm he
 have hl:z.cps.toList.length=z.length:=by simp[Str.length]
 rw[hl] at h1 h4 h5
 have hn:=Qbs
 exact tail_any (typeIs_str s z t) slot_str_getitem.lookup (getItem_str (c:=c) (by
  have e1:decide (i < -(2 ^ 63:Int))=false:=decide_eq_false (by omega)
  have e2:decide (i ≥ 2 ^ 63)=false:=decide_eq_false (by omega)
  rw[e1,e2,Bool.or_false]) (by rw[h1];simpa using h2) ⟨.str ⟨#[c]⟩,H,I.tok _,⟨_,rfl⟩,q⟩) hs
def rIx (K:z02):R2:=fun x y H Q=>Qpg K x y H Q\/Qph K x y H Q\/Qpi x y H Q
theorem Qhx:IxR X (rIx X.K):=Qip.or (QkM.or QkN)
theorem QdJ (its:List Value)(n j:Nat)(u:Value):z60 (·.setIfInBounds j u) { cls:=.type "list",data:=.seq its.toArray n }={ cls:=.type "list",data:=.seq (its.set j u).toArray n }:=by
 simp[z60]
theorem Inv.lst {pins:List (Addr×Obj)}{σ:St}{H:Hp}{s:Shared}{p:Addr}{xs:List V}(I:Inv X pins σ H s)(h:H p=some (.lst xs)) :
  ∃(its:List Value) (n:Nat),Vals xs its/\s.heap.get? p=some { cls:=.type "list",data:=.seq its.toArray n }/\xs.length<=z20:=by
 obtain⟨z,its,n,r,e⟩:=I.hok p _ h
 exact⟨its,n,r,e,z⟩
theorem Inv.QkO {pins:List (Addr×Obj)}{σ:St}{H:Hp}{s:Shared}{p:Addr}{xs ys:List V}{its its':List Value}{n n':Nat}{f:Obj->Obj}(I:Inv X pins σ H s)(h:H p=some (.lst xs))
  (ho:s.heap.get? p=some { cls:=.type "list",data:=.seq its.toArray n }) (hf:f { cls:=.type "list",data:=.seq its.toArray n }={ cls:=.type "list",data:=.seq its'.toArray n' }) (r:Vals ys its') (hz:ys.length<=z20) (t:Nat) :
  Inv X pins σ (upd H p (.lst ys)) { s with heap:=s.heap.update p f,toks:=t }:=by
 have e:(s.heap.update p f).get? p=some { cls:=.type "list",data:=.seq its'.toArray n' }:=by
  rw[z68 f ho (by rw[hf]<;>rfl),hf]
 refine I.write (x:=p) (e:=p) (by rw[h];trivial) (.inl rfl) (fun b u hb q=>(zd4 _ _ (zg0 hb)).trans q) ⟨_,e⟩ ?_
 exact⟨hz,its',n',r,e⟩
def QgE:V->V->V->Hp->(Hp->Prop)->Prop:=fun o i v H Q=>∃p xs k j,o=.ref p/\i=.int k/\H p=some (.lst xs)/\ixN xs.length k=some j/\Q (upd H p (.lst (xs.set j v)))
theorem set_list:Qpb X QgE:=by
 intro pins s σ H o i v ov iv u Q I ro ri rv h
 obtain⟨p,xs,k,j,rfl,rfl,hp,hj,q⟩:=h
 cases ro
 obtain⟨t,rfl⟩:=ri
 obtain⟨its,n,r,ho,hz⟩:=I.lst hp
 obtain⟨h1,h2,h3,h4⟩:=QeB hj
 have hl:=r.length
 have hn:=Qbs
 have I':Inv X pins σ (upd H p (.lst (xs.set j v))) { s with heap:=s.heap.update p (z60 (·.setIfInBounds j u))}:=
  I.QkO hp ho (QdJ its n j u) (r.set rv j) (by rw[zg2];exact hz) s.toks
 by_cases h0:0<=k
 ·have hk:k.toNat=j:=by
   rw[seqIndex_of h0 h4] at h1
   exact z27 h1
  exact PySem.W.ki_setAt ho h0 (by omega) (by rw[z21,← hl];exact h4) (by rw[hk];exact⟨_,I',q⟩)
 ·have hk:(k+(its.toArray.size:Int)).toNat=j:=by
   rw[seqIndex_neg (by omega) h3] at h1
   rw[z21,← hl]
   exact z27 h1
  exact PySem.W.ki_setBack ho (by omega) (by rw[z21,← hl];exact h3) (by omega) (by rw[hk];exact⟨_,I',q⟩)
theorem Qby (lo hi:Option Int)(n:Nat):(sliceBounds lo hi none n).1=((HT.sIx n 0 lo:Nat):Int)/\(sliceBounds lo hi none n).2.1=((HT.sIx n n hi:Nat):Int)/\(sliceBounds lo hi none n).2.2=1:=by
 refine⟨?_,?_,rfl⟩
 ·cases lo with
  |none=>simp[sliceBounds,HT.sIx]
  |some i=>
   simp only[sliceBounds,HT.sIx,zy0,show(1:Int) > 0 by decide,if_true]
   by_cases h:i<0
   ·simp only[h,if_true]<;>omega
   ·simp only[h,if_false]<;>omega
 ·cases hi with
  |none=>simp[sliceBounds,HT.sIx]
  |some i=>
   simp only[sliceBounds,HT.sIx,zy0,show(1:Int) > 0 by decide,if_true]
   by_cases h:i<0
   ·simp only[h,if_true]<;>omega
   ·simp only[h,if_false]<;>omega
theorem QaH (its:List Value)(lo hi:Option Int):slicePick its.toArray lo hi none=((its.drop (HT.sIx its.length 0 lo)).take (HT.sIx its.length its.length hi - HT.sIx its.length 0 lo)).toArray:=by
 obtain⟨h1,h2,h3⟩:=Qby lo hi its.toArray.size
 unfold slicePick
 rw[h1,h2,h3]
 simp only[sliceRange_one,pick_run,z21]<;>rfl
def Qp2 (K:z02):V->Option Int->Option Int->Hp->VK->Prop:=fun x lo hi H Q=>∃a xs,x=.ref a/\SqL K H a xs/\∀p,H p=none->Q (.ref p) (upd H p (.lst (Qio xs lo hi)))
theorem Qiq:SlR X (Qp2 X.K):=by
 intro pins s σ H x v vl vu lo hi sl Q I rx hs pl pu h
 obtain⟨a,xs,rfl,hx,q⟩:=h
 cases rx
 obtain⟨its,r,ht,hz⟩:=I.list hx
 have hlen:=r.length
 refine⟨"list",_,slot_list_getitem.lookup,ht.isList.typeIs,?_⟩
 refine wpAny_getItem_list_slice ht.isList hs pl pu .none (by simp) ?_ (by rw[z21]<;>omega)
 rw[QaH,← hlen]
 refine⟨.ref s.heap.objs.size,_,I.laid (t':=s.toks) (o:=.lst (Qio xs lo hi)) (fun b ob q=>z16 _ q) (z18 _) ?_,rfl,q _ (I.hok.fresh (z18 _))⟩
 exact⟨z71 (Qcl xs lo hi) hz,_,0,(r.drop (HT.sIx xs.length 0 lo)).take (HT.sIx xs.length xs.length hi - HT.sIx xs.length 0 lo),z37 _ rfl⟩
def Qbz:V->Bool
 |.non=>true
 |.bl _=>true
 |.int _=>true
 |.str _=>true
 |_=>false
def eqV:V->V->Bool
 |.non,.non=>true
 |.bl a,.bl b=>a == b
 |.bl a,.int b=>(if a then 1 else 0) == b
 |.int a,.bl b=>a == (if b then 1 else 0)
 |.int a,.int b=>a == b
 |.str a,.str b=>a == b
 |_,_=>false
theorem QkP {A:Around}{s:Shared}{y x:V}{u v:Value}(ry:RelV y u)(rx:RelV x v)(fy:Qbz y=true)(fx:Qbz x=true):zo2 A s u v (eqV y x):=by
 cases y with
 |non=>
  cases ry
  cases x with
  |non=>cases rx;exact zj2 _
  |bl b=>cases rx;exact SeqAt.EqAt.none_bool b
  |int b=>obtain⟨t,rfl⟩:=rx;exact SeqAt.EqAt.none_int b t
  |str b=>obtain⟨t,rfl⟩:=rx;exact SeqAt.EqAt.none_str b t
  |_=>exact absurd (show false=true from fx) z23
 |bl a=>
  cases ry
  cases x with
  |non=>cases rx;exact SeqAt.EqAt.bool_none a
  |bl b=>cases rx;exact SeqAt.EqAt.bool_bool a b
  |int b=>obtain⟨t,rfl⟩:=rx;exact SeqAt.EqAt.bool_int a b t
  |str b=>obtain⟨t,rfl⟩:=rx;exact SeqAt.EqAt.bool_str a b t
  |_=>exact absurd (show false=true from fx) z23
 |int a=>
  obtain⟨t',rfl⟩:=ry
  cases x with
  |non=>cases rx;exact SeqAt.EqAt.int_none a t'
  |bl b=>cases rx;exact SeqAt.EqAt.int_bool a t' b
  |int b=>obtain⟨t,rfl⟩:=rx;exact zf4 a t' b t
  |str b=>obtain⟨t,rfl⟩:=rx;exact zt9 a t' b t
  |_=>exact absurd (show false=true from fx) z23
 |str a=>
  obtain⟨t',rfl⟩:=ry
  cases x with
  |non=>cases rx;exact SeqAt.EqAt.str_none a t'
  |bl b=>cases rx;exact SeqAt.EqAt.str_bool a t' b
  |int b=>obtain⟨t,rfl⟩:=rx;exact zt8 a t' b t
  |str b=>obtain⟨t,rfl⟩:=rx;exact SeqAt.EqAt.str_str a t' b t
  |_=>exact absurd (show false=true from fx) z23
 |_=>exact absurd (show false=true from fy) z23
theorem QbA:VM X (.type "list") (fun xs H Q=>∃p ys,xs=[.ref p]/\(SqL X.K H p ys\/SqT X.K H p ys)/\∀l,H l=none->Q (.ref l) (upd H l (.lst ys))):=by
 intro pins s σ H xs us Q I r h
 obtain⟨p,ys,rfl,hq,q⟩:=h
 obtain⟨u,rfl,rx⟩:=vals1 r
 cases rx
 have fin:∀(its:List Value),Vals ys its->ys.length<=z20->∀(h':Heap) (c':Nat),(∀b o',s.heap.get? b=some o'->h'.get? b=some o')->
   h'.get? s.heap.objs.size=some { cls:=.type "list",dict:=none,data:=.seq its.toArray c',slots:=#[]}->EP X pins σ Q (.ref s.heap.objs.size) { s with heap:=h' }:=fun its r' hz h' c' kp e=>
  ⟨.ref s.heap.objs.size,_,I.laid (t':=s.toks) kp (z18 _) (show QV X.prog X.w _ h' _ (.lst ys) from⟨hz,its,c',r',e⟩),rfl,q _ (I.hok.fresh (z18 _))⟩
 rcases hq with hq|hq
 ·obtain⟨its,r',pl,hz⟩:=I.list hq
  have hlen:=r'.length
  obtain⟨o,ho,hc,n,hd⟩:=pl.isList
  exact call_list_seq p (.inl rfl) ho hc hd (fun h' c' kp e=>fin its r' hz h' c' kp e) (by simp only[z21]<;>omega)
 ·obtain⟨its,r',pl,hz⟩:=I.tuple hq
  have hlen:=r'.length
  obtain⟨o,ho,hc,n,hd⟩:=pl
  exact call_list_seq p (.inr rfl) ho hc hd (fun h' c' kp e=>fin its r' hz h' c' kp e) (by simp only[z21]<;>omega)
theorem QaI:VM X (.type "tuple") (fun xs H Q=>∃p ys,xs=[.ref p]/\((SqL X.K H p ys/\∀l,H l=none->Q (.ref l) (upd H l (.tup ys)))\/(SqT X.K H p ys/\Q (.ref p) H))):=by
 intro pins s σ H xs us Q I r h
 obtain⟨p,ys,rfl,h⟩:=h
 obtain⟨u,rfl,rx⟩:=vals1 r
 cases rx
 rcases h with⟨hq,q⟩|⟨hq,q⟩
 ·obtain⟨its,r',pl,hz⟩:=I.list hq
  have hlen:=r'.length
  refine call_tuple_list pl.isList (fun h' kp=>?_) (by simp only[z21]<;>omega)
  have I1:Inv X pins σ H { s with heap:=h' }:=I.kept (t':=s.toks) kp
  have I2:Inv X pins σ (upd H h'.objs.size (.tup ys)) { s with heap:=h'.push { cls:=.type "tuple",data:=.seq its.toArray }}:=
   I1.laid (t':=s.toks) (fun b o e=>z16 _ e) (z18 _) (show QV X.prog X.w _ _ _ (.tup ys) from⟨hz,its,r',IsTup.new _ _⟩)
  exact⟨.ref h'.objs.size,_,I2,rfl,q _ (I1.hok.fresh (z18 _))⟩
 ·obtain⟨its,r',pl,hz⟩:=I.tuple hq
  exact call_tuple_same pl ⟨.ref p,H,I,rfl,q⟩
def tyV (K:z02)(T:String)(x:V)(H:Hp):Prop:=match x with
 |.str _=>T = "str"
 |.int _=>T = "int"
 |.ref p=>(T = "list" /\ ∃xs,SqL K H p xs)\/(T = "tuple" /\ ∃o,K.lookup p=some o/\o.cls=.type "tuple" /\ o.dict=none)\/
   (T = "dict" /\ ((∃kvs,H p=some (.dK kvs))\/∃kvs,H p=some (.dT kvs)))\/(T = "set" /\ ∃S n,H p=some (.set S n))
 |_=>False
theorem Qhy {pins:List (Addr×Obj)}{σ:St}{H:Hp}{s:Shared}{T:String}{x:V}{v:Value}(I:Inv X pins σ H s)(r:RelV x v)(ty:tyV X.K T x H) :
  s.TypeIs v T/\∀a,v=.ref a->∃ob,s.heap.get? a=some ob/\ob.dict=none:=by
 cases x with
 |str z=>
  obtain⟨t,rfl⟩:=r
  cases(show T = "str" from ty)
  exact⟨typeIs_str s z t,fun _ e=>nomatch e⟩
 |int i=>
  obtain⟨t,rfl⟩:=r
  cases(show T = "int" from ty)
  exact⟨typeIs_int s i t,fun _ e=>nomatch e⟩
 |ref p=>
  cases r
  rcases ty with⟨rfl,xs,hq⟩|⟨rfl,o,hk,hc,hd⟩|⟨rfl,hk⟩|⟨rfl,S,n,hk⟩
  ·obtain⟨its,_,pl,_⟩:=I.list hq
   refine⟨pl.isList.typeIs,fun a e=>?_⟩
   cases e
   obtain⟨o,n,e,c,hd,_⟩:=pl
   exact⟨o,e,hd⟩
  ·refine⟨⟨o,I.kIn p o hk,hc⟩,fun a e=>?_⟩
   cases e
   exact⟨o,I.kIn _ o hk,hd⟩
  ·have z:∃o,s.heap.get? p=some o/\o.ExactDict:=by
    rcases hk with⟨kvs,hk⟩|⟨kvs,hk⟩
    ·obtain⟨_,_,_,_,o,_,_,e,ex,_⟩:=I.hok p _ hk
     exact⟨o,e,ex⟩
    ·obtain⟨_,_,_,_,o,_,_,e,ex,_⟩:=I.hok p _ hk
     exact⟨o,e,ex⟩
   obtain⟨o,e,ex⟩:=z
   refine⟨⟨o,e,ex.1⟩,fun a e2=>?_⟩
   cases e2
   exact⟨o,e,ex.2.1⟩
  ·obtain⟨o,_,_,_,e,ex,_⟩:=I.hok p _ hk
   refine⟨⟨o,e,ex.1⟩,fun a e2=>?_⟩
   cases e2
   exact⟨o,e,ex.2.1⟩
 |_=>exact zg9 ty
def Qp3 (K:z02)(T:String)(r:V->List V->Hp->VK->Prop)(to:TE):TE:=fun σ H Q=>to σ H fun x H1=>tyV K T x H1/\r x [] H1 Q
def tBM (K:z02)(T:String)(r:V->List V->Hp->VK->Prop)(to:TE)(t:TA):TE:=fun σ H Q=>to σ H fun x H1=>tyV K T x H1/\t σ H1 fun xs H2=>r x xs H2 Q
variable {o e:Expr}{es:List Expr}{to:TE}{t:TA}{name:Str}{apos cpos:Pos}{T id:String}{r:V->List V->Hp->VK->Prop}
theorem QkQ (pa:PlainAttrs T)(slot:Slot T name id)(hty:typeOf (.builtin id)=pure (.type "method_descriptor"))(hm:MtR X id r)(ho:PE X o to)
  (hbase:attributeBase o name X.env (eval o X.env)=eval o X.env:=by rfl) (hline:(apos.endLine == cpos.line)=true:=by rfl):PE X (.Call (.Attribute o name apos) [] [] cpos) (Qp3 X.K T r to):=by
 intro pins s σ H Q I h
 refine wpAny_Call_method0_late hbase hline (thn (ho pins s σ H _ I h) fun v s1 hz=>?_)
 obtain⟨x,H1,I1,r1,ty,q1⟩:=hz
 obtain⟨h1,h2⟩:=Qhy I1 r1 ty
 exact⟨T,id,pa,slot,hty,h1,h2,zk2 rfl (PySem.evalArgs_none (hm pins s1 σ H1 x [] v [] Q I1 r1 .nil q1))⟩
theorem QeC (pa:PlainAttrs T)(slot:Slot T name id)(hty:typeOf (.builtin id)=pure (.type "method_descriptor"))(hm:MtR X id r)(ho:PE X o to)(ha:PA X (e::es) t)
  (hbase:attributeBase o name X.env (eval o X.env)=eval o X.env:=by rfl)
  (hfew:((backTo cpos (starEach (e::es) X.env)).all (fun x=>!x.1) && (backToKw cpos (keywordEach [] X.env)).all (fun x=>x.1.isSome)
   && decide ((e::es).length+([]:List Keyword).length+(if([]:List Keyword).isEmpty then 0 else 1)<30))=true:=by rfl)
  (hline:(apos.endLine == cpos.line)=true:=by rfl) (hs:starEach (e::es) X.env=(false,eval e X.env)::starEach es X.env:=by rfl) (hplain:(backTo cpos (starEach es X.env)).any (·.1)=false:=by rfl) :
  PE X (.Call (.Attribute o name apos) (e::es) [] cpos) (tBM X.K T r to t):=by
 intro pins s σ H Q I h
 refine wpAny_Call_method_late hbase hfew hline rfl (thn (ho pins s σ H _ I h) fun v s1 hz=>?_)
 obtain⟨x,H1,I1,r1,ty,q1⟩:=hz
 obtain⟨h1,h2⟩:=Qhy I1 r1 ty
 refine⟨T,id,pa,slot,hty,h1,h2,?_⟩
 have hA:=ha cpos pins s1 σ H1 _ I1 q1
 rw[hs] at hA ⊢
 refine zk2 (by show(false || (backTo cpos (starEach es X.env)).any (·.1))=false;rw[hplain]<;>rfl) (zw2 ?_)
 exact thn hA fun us s2 ⟨vs,H2,I2,r2,q2⟩=>hm pins s2 σ H2 x vs v us Q I2 r1 r2 q2
end
def MtM (X:Cx)(id:String)(r:V->List V->Hp->VK->Prop):Prop:=
 ∀(pins:List (Addr×Obj)) (s:Shared) (σ:St) (H:Hp) (x:V) (xs:List V) (v:Value) (us:List Value) (Q:VK),Inv X pins σ H s->RelV x v->Vals xs us->r x xs H Q->
  wpAny (model X.prog X.w) X.A (call (.builtin id) (v::us)) (EP X pins σ Q) X.xe s
theorem Vals.one {x:V}{us:List Value}(h:Vals [x] us):∃u,us=[u]/\RelV x u:=by
 cases h with
 |cons r t=>cases t;exact⟨_,rfl,r⟩
theorem Vals.two {x y:V}{us:List Value}(h:Vals [x,y] us):∃u v,us=[u,v]/\RelV x u/\RelV y v:=by
 cases h with
 |cons r t=>obtain⟨u,rfl,q⟩:=Vals.one t;exact⟨_,_,rfl,r,q⟩
theorem Vals.zero:∀{us:List Value},Vals [] us->us=[]
 |_,.nil=>rfl
theorem Vals.dropLast {xs:List V}{us:List Value}(h:Vals xs us):Vals xs.dropLast us.dropLast:=by
 induction h with
 |nil=>exact .nil
 |cons r t ih=>
  cases t with
  |nil=>exact .nil
  |cons q t'=>exact .cons r ih
theorem QdK {α:Type}(l:List α):l.eraseIdx (l.length - 1)=l.dropLast:=by
 induction l with
 |nil=>rfl
 |cons a r ih=>
  cases r with
  |nil=>rfl
  |cons b r=>
   have e:(a::b::r).length - 1=((b::r).length - 1)+1:=by
    have h1:(a::b::r).length=r.length+2:=rfl
    have h2:(b::r).length=r.length+1:=rfl
    omega
   rw[e,zu6,ih]
   all_goals rfl
section
variable {X:Cx}{pins:List (Addr×Obj)}{σ:St}{H:Hp}{s:Shared}{l:Addr}{xs ys:List V}
theorem Inv.QnS {its its':List Value}{n:Nat}{f:Array Value->Array Value}{t':Nat}(I:Inv X pins σ H s)(hH:H l=some (.lst xs))
  (e:s.heap.get? l=some { cls:=.type "list",data:=.seq its.toArray n }) (hf:f its.toArray=its'.toArray) (hv:Vals ys its') (hz:ys.length<=z20) :
  Inv X pins σ (upd H l (.lst ys)) { s with heap:=s.heap.update l (z60 f),toks:=t' }:=by
 have q:=PySem.IsL.update e f
 rw[hf] at q
 refine I.write (x:=l) (e:=l) (by rw[hH];exact trivial) (.inl rfl) (fun b' u hb hu=>(zd4 s.heap (z60 f) (zg0 hb)).trans hu) ⟨_,q⟩ ?_
 exact⟨hz,its',_,hv,q⟩
theorem Inv.Qp4 {its:List Value}{t':Nat}(I:Inv X pins σ H s)(hv:Vals ys its)(hz:ys.length<=z20) :
  Inv X pins σ (upd H s.heap.objs.size (.lst ys)) { s with heap:=s.heap.push { cls:=.type "list",data:=.seq its.toArray },toks:=t' }:=
 I.laid (fun _ _ q=>z16 _ q) (z18 _) ⟨hz,its,0,hv,z37 _ rfl⟩
theorem Inv.fresh (I:Inv X pins σ H s):H s.heap.objs.size=none:=I.hok.fresh (z18 _)
theorem Inv.Qnk (I:Inv X pins σ H s)(hH:H l=some (.lst xs)):xs.length<=z20/\∃(its:List Value) (n:Nat),Vals xs its/\xs.length=its.length/\s.heap.get? l=some { cls:=.type "list",data:=.seq its.toArray n }:=by
 obtain⟨z,its,n,r,e⟩:=I.hok l _ hH
 exact⟨z,its,n,r,r.length,e⟩
theorem QgF {n:Nat}(h:n<=z20):zh6 n=false:=by
 unfold zh6
 exact decide_eq_false (by omega)
end
section
variable {X:Cx}
def Qco:V->List V->Hp->VK->Prop:=fun x vs H Q=>∃l xs y,x=.ref l/\vs=[y]/\H l=some (.lst xs)/\xs.length<z20/\Q .non (upd H l (.lst (xs++[y])))
theorem VV:MtM X "list.append" Qco:=by
 intro pins s σ H x vs v us Q I rx rv h
 obtain⟨l,xs,y,rfl,rfl,hH,hz,q⟩:=h
 cases rx
 obtain⟨u,rfl,ru⟩:=rv.one
 obtain⟨z,its,n,r,hl,e⟩:=I.Qnk hH
 refine call_meets F.slot_list_append ⟨_,e,rfl⟩ F.entry_list_append (F.args_list_append_2 _ _) (PySem.list_append l its.toArray n u (by rw[z21];omega)) ⟨e,?_⟩
 refine⟨.non,_,I.QnS (its':=its++[u]) hH e (by simp) (r.append (.cons ru .nil)) ?_,rfl,q⟩
 rw[z10,zd7]
 omega
def Qir:V->List V->Hp->VK->Prop:=fun x vs H Q=>∃l b xs zs,x=.ref l/\vs=[.ref b]/\H l=some (.lst xs)/\H b=some (.lst zs)/\xs.length+zs.length<=z20/\Q .non (upd H l (.lst (xs++zs)))
theorem QeD:MtM X "list.extend" Qir:=by
 intro pins s σ H x vs v us Q I rx rv h
 obtain⟨l,b,xs,zs,rfl,rfl,hH,hB,hz,q⟩:=h
 cases rx
 obtain⟨u,rfl,ru⟩:=rv.one
 cases ru
 obtain⟨z,its,n,r,hl,e⟩:=I.Qnk hH
 obtain⟨z2,its2,n2,r2,hl2,e2⟩:=I.Qnk hB
 have hsz:its.toArray.size+its2.toArray.size<=z20:=by rw[z21,z21];omega
 have QnT:¬ (!its.toArray.isEmpty && zh6 (its.toArray.size+its2.toArray.size))=true:=by
  rw[QgF hsz,Bool.and_false]
  exact z23
 refine call_meets F.slot_list_extend ⟨_,e,rfl⟩ F.entry_list_extend (F.args_list_extend_2 _ _)
  (AutoSeq1.list_extend_list_list_0 l its.toArray n b its2.toArray n2 QnT (by rw[z21];omega) (by omega)) ⟨e,e2,?_⟩
 refine⟨.non,_,I.QnS (its':=its++its2) hH e (by simp) (r.append r2) ?_,rfl,q⟩
 rw[z10]
 omega
def Qp5:V->List V->Hp->VK->Prop:=fun x vs H Q=>∃l xs y,x=.ref l/\vs=[]/\H l=some (.lst xs)/\xs[xs.length - 1]? = some y/\Q y (upd H l (.lst xs.dropLast))
theorem QkR:MtM X "list.pop" Qp5:=by
 intro pins s σ H x vs v us Q I rx rv h
 obtain⟨l,xs,y,rfl,rfl,hH,hy,q⟩:=h
 cases rx
 have hus:=rv.zero
 subst hus
 obtain⟨z,its,n,r,hl,e⟩:=I.Qnk hH
 obtain⟨u,hu,ru⟩:=r.get hy
 have hy':its.toArray[its.toArray.size - 1]? = some u:=by
  show its.toArray[its.length - 1]? = some u
  rw[← z13,← hl]
  exact hu
 refine call_meets F.slot_list_pop ⟨_,e,rfl⟩ F.entry_list_pop (F.args_list_pop_1 _) (MeetsSeq.list_pop_last l its.toArray n u hy' (by rw[z21];omega)) ⟨e,?_⟩
 refine⟨y,_,I.QnS (its':=its.dropLast) hH e ?_ r.dropLast ?_,ru,q⟩
 ·show its.toArray.eraseIdxIfInBounds (its.toArray.size - 1)=its.dropLast.toArray
  rw[z21,List.eraseIdxIfInBounds_toArray,QdK]
 ·rw[List.length_dropLast]
  omega
end
end L2
namespace Att
open PySem PySem.W PySem.Calls PyProof.Rows
theorem V0 {P:Params}{h:Heap}:∀(ns:List Int) (vs:List Value),WellAll P h vs (ns.map WData.int)->IntsAre vs ns:=by
 intro ns
 induction ns with
 |nil=>
  intro vs w
  rw[zw0] at w
  cases w
  exact .nil
 |cons n ns ih=>
  intro vs w
  rw[z30] at w
  cases w with
  |cons a b=>
   cases a
   exact .cons _ _ (ih _ b)
theorem QeE {l:OpenLaw}{n:Nat}(hn:l.most=some n){P:Params}{h:Heap}{args:List WData}{vals:List Value}
  (hpre:l.row.toRowW.claim.pre args=true) (hwl:WellAll P h vals args) :
  ∃a vs ns,vals=[z32 a]/\args=[WData.list (ns.map WData.int)]/\h.get? a=some { cls:=.type "list",data:=.seq vs.toArray }/\IntsAre vs ns/\ns.length<=n:=by
 have hsh:WShape.hasAll [] args [.list .int]=true:=(pre_splitW hpre).1
 have hc:l.pre.holds [] { args:=args }=true:=(pre_splitW hpre).2
 obtain⟨d,r,rfl,h1,h2⟩:=hasAllW_cons hsh
 obtain rfl:=hasAllW_nil h2
 obtain⟨xs,rfl,h3⟩:=hasW_list h1
 obtain⟨ns,rfl⟩:=items_int h3
 have hlen:ns.length<=n:=by
  unfold OpenLaw.pre at hc
  have h4:(WTm.not (.lt (.lit (.int (n:Int))) (.len (.arg 0)))).holds [] { args:=[.list (ns.map .int)]}=true:=by
   have h4:=(holds_andW hc).1
   rw[hn] at h4
   exact h4
  have h5:=condW_of h4 (w_not (w_lt w_lit (w_len_list (w_arg rfl))))
  rw[z14] at h5
  refine Nat.le_of_not_lt fun q=>?_
  have q':(n:Int)<((ns.length:Nat):Int):=by omega
  first
   |(rw[decide_eq_true q'] at h5;exact absurd h5 (by decide))
   |(simp at h5;omega)
 cases hwl with
 |cons w1 w2=>
  cases w2
  cases w1 with
  |list ho hall=>exact⟨_,_,ns,rfl,rfl,ho,V0 ns _ hall,hlen⟩
theorem QeF (l:OpenLaw)(args:List WData):l.row.toRowW.claim.post args (.bool true) args=true:=
 postW_of (r:=l.row.toRowW) (X:=(true == true))
  (show WShape.has [] (.bool true) .bool=true by first|rfl|decide|simp[WShape.has,WShape.arms,WShape.armsAll])
  (show(WTm.eq .res (.lit (.bool true))).value [] { args:=args,res:=some (.bool true),after:=args }=some (.bool (true == true)) from w_eq_bool (w_res rfl) w_lit) rfl
theorem Qcp {l:OpenLaw}{n:Nat}{q:Program}{loose:List Str}{XP:(Str->Option Value)->Heap->Prop}{YP:World->Heap->Prop}{d:DefRec}
  (hn:l.most=some n) (hdf:d.params.defaults=[])
  (call:∀(w:World) (s₀ s₁:Shared) (mg mb:Str->Option Value) (fa:Addr) (o:Obj) (pm cd doc:Value) (a:Addr) (vs:List Value) (ns:List Int),
   Ground q loose [] XP w s₀ mg mb s₁.heap->YP w s₁.heap->
   s₁.heap.get? fa=some o->o.data=.func (docDef d.name d.params d.body d.scope pm cd doc)->s₁.heap.CodeRec cd d.name->mg d.name=some (.ref fa)->
   s₁.heap.get? a=some { cls:=.type "list",data:=.seq vs.toArray }->IntsAre vs ns->ns.length<=n->s₁.gens = #[]->
   codeAny (model l.prog w) callerA (.call (.ref fa) ⟨[.ref a],[]⟩) (fun r s'=>r=.ok (.ret (.bool true))/\OldK s₁.heap s'.heap/\s'.os=s₁.os/\AllBare s'.gens) s₁) :
  WalkO q loose XP YP l.row.toRowW d [] (fun f vs=>zx8 f vs):=by
 intro w s₀ s₁ mg mb G Y fa o pm cd doc dV kV ho hd hcd hD hmg hg args vals as hpre hlay hrd hwl hlo
 obtain rfl:dV=.none:=Dflts.none hD hdf
 obtain rfl:kV=.none:=Dflts.noKw hD
 obtain⟨a,vs,ns,rfl,rfl,hobj,hints,hlen⟩:=QeE hn hpre hwl
 refine enter_call (zh7 (call w s₀ s₁ mg mb fa o pm cd doc a vs ns G Y ho (fd_plain hd) hcd hmg hobj hints hlen hg) fun r s' hq=>?_)
 obtain⟨rfl,h2,h3,h4⟩:=hq
 exact⟨.inl ⟨.bool true,.bool true,[],rfl,fun _=>rfl,.bool true,QeF l _,fun _=>⟨List.Pairwise.nil,fun _ hm=>(nomatch hm)⟩⟩,h2,h3,h4⟩
end Att
namespace L2
open PySem PySem.Spec PyProof.Rows
theorem QbB:∀{vs:List Value} {ns:List Int},IntsAre vs ns->Vals (ns.map V.int) vs
 |_,_,.nil=>.nil
 |_,_,.cons n t h=>.cons ⟨t,rfl⟩ (QbB h)
def Only (H:Hp):Prop:=∀b,H b=none\/∃o xs,H b=some (.frz o (.lst xs))
theorem QgG {P:Program}{w:World}{K:z02}{mg mb:Str->Option Value}{CX:CXT}{k:Nat}{fa a:Addr}{fd:FuncData}{x:Str}{sp:Sp}{s₁:Shared}{vs:List Value}{ns:List Int}
  (KX:K.In s₁.heap) (hns:s₁.heap.Ns z67 mg) (hb:s₁.heap.Ns builtinsNs mb) (hbb:∀x:Str,x ≠ "__name__" -> mb x=z84 x) (hlim:s₁.heap.NoLimit) (hg:s₁.gens = #[])
  (ha:s₁.heap.get? a=some { cls:=.type "list",data:=.seq vs.toArray }) (hi:IntsAre vs ns) (hl:ns.length<=z20) (hr:Y7 k callerA)
  (F:∀base:Heap,K.In base->base.Ns z67 mg->Qcf P w K mg base CX k fa fd [x] sp) (hbind:∀(s:Shared) (u:Value),BindsTo s fd ⟨[u],[]⟩ [(x,u)])
  (hsp:∀H:Hp,Only H->SqL K H a (ns.map V.int)->sp [.ref a] H (fun v _=>v=.bl true) fun _ _ _=>False)
  (hCX:∀H e s',CX [] H s₁ (fun _ _ _=>False) e s'->False) :
  codeAny (model P w) callerA (.call (.ref fa) ⟨[.ref a],[]⟩) (fun r s'=>r=.ok (.ret (.bool true))/\OldK s₁.heap s'.heap/\s'.os=s₁.os/\AllBare s'.gens) s₁:=by
 have rv:=QbB hi
 have lenV:=hi.length
 -- from an abstract heap in which nothing but the script may be tracked
 have core:∀H:Hp,Only H->SqL K H a (ns.map V.int)->HOk P w H s₁.heap->(∀b,H b≠none->b=a)->(H a≠none->K.lookup a=none)->
   codeAny (model P w) callerA (.call (.ref fa) ⟨[.ref a],[]⟩) (fun r s'=>r=.ok (.ret (.bool true))/\OldK s₁.heap s'.heap/\s'.os=s₁.os/\AllBare s'.gens) s₁:=by
  intro H hO hS hok hA hK
  have QeG:∀{b:Addr} {o:Obj},s₁.heap.get? b=some o->H b=none->(Qgs s₁.heap H).get? b=some o:=fun e n=>Qgt e n
  have noA:∀{b:Addr} {o:Obj} {es:Array DictEntry} {ep:Nat},s₁.heap.get? b=some o->o.data=.dict es ep->H b=none:=fun{b o es ep} e d=>by
   cases q:H b with
   |none=>rfl
   |some u=>
    have e':b=a:=hA b (by rw[q];simp)
    subst e'
    rw[ha] at e;cases e
    have d':Data.seq vs.toArray _=Data.dict es ep:=d
    cases d'
  have nsK:∀{b:Addr} {m:Str->Option Value},s₁.heap.Ns b m->(Qgs s₁.heap H).Ns b m:=fun{b m} ⟨o,es,ep,e,d,r⟩=>⟨o,es,ep,QeG e (noA e d),d,r⟩
  have hKb:K.In (Qgs s₁.heap H):=fun b o e=>QeG (KX b o e) (by
   cases q:H b with
   |none=>rfl
   |some u=>
    have e':b=a:=hA b (by rw[q];simp)
    subst e'
    rw[hK (by rw[q];simp)] at e;cases e)
  have hM:Mod K mg (Qgs s₁.heap H):=⟨hKb,nsK hns,⟨mb,nsK hb,hbb⟩,let ⟨mc,h1,h2⟩:=hlim;⟨mc,nsK h1,h2⟩⟩
  have e0:Qnj P w K mg (Qgs s₁.heap H) callerA [] s₁ H:=⟨rfl,hM,fun b o e=>Qh7 e,Nat.le_of_eq (Qel _ _),trivial,fun b hb=>absurd (show b∈([]:List Addr) from hb) (by simp),hok,.of_eq hg⟩
  refine zh7 ((F _ hKb (nsK hns)).run callerA [] s₁ H ⟨[.ref a],[]⟩ [.ref a] [.ref a] _ _ hr e0 (hbind s₁ (.ref a)) (.cons rfl .nil) (hsp H hO hS)) fun r s' h=>?_
  cases r with
  |error e=>exact(hCX H e s' h).elim
  |ok fl=>
   cases fl with
   |next=>exact zg9 h
   |brk=>exact zg9 h
   |cont=>exact zg9 h
   |ret u=>
    obtain⟨v,H',os,bare,un,hok',r',q⟩:=h
    have q':v=.bl true:=q
    subst q'
    obtain rfl:u=Value.bool true:=r'
    refine⟨rfl,OldK.of_keep fun b o e=>?_,os,bare⟩
    cases q:H b with
    |none=>exact un.keep b o e q (by intro z;exact absurd (show b∈([]:List Addr) from z) (by simp)) (by simp)
    |some u=>
     rcases hO b with z|⟨ob,xs,z⟩
     ·rw[q] at z;cases z
     ·have z2:=un.Qgk b ob _ z
      obtain⟨e1,_⟩:=hok b _ z
      obtain⟨e2,_⟩:=hok' b _ z2
      rw[e] at e1;cases e1
      exact e2
 cases hk:K.lookup a with
 |some o=>
  -- the script is one of the module's own objects
  have e:=KX a o hk
  rw[ha] at e
  cases e
  refine core (fun _=>none) (fun _=>.inl rfl) (.inr ⟨_,vs.toArray,_,hk,rfl,rfl,rfl,by rw[z21,lenV];exact hl,by simpa using rv⟩) (fun b u z=>by have z':(none:Option HO)=some u:=z;cases z') (fun b z=>absurd rfl z) fun z=>absurd rfl z
 |none=>
  refine core (fun b=>if b=a then some (.frz { cls:=.type "list",data:=.seq vs.toArray } (.lst (ns.map V.int))) else none) (fun b=>?_) (.inl (.inr ⟨{ cls:=.type "list",data:=.seq vs.toArray },if_pos rfl⟩)) (fun b u z=>?_) (fun b z=>?_) fun _=>hk
  ·by_cases hb:b=a
   ·exact .inr ⟨_,_,if_pos hb⟩
   ·exact .inl (if_neg hb)
  ·by_cases hb:b=a
   ·have z':=(if_pos hb).symm.trans z
    cases z'
    subst hb
    exact⟨ha,by rw[z14];exact hl,vs,_,rv,ha⟩
   ·have z':=(if_neg hb).symm.trans z
    cases z'
  ·by_cases hb:b=a
   ·exact hb
   ·exact absurd (if_neg hb) z
theorem Qis {l:zj8}{n k:Nat}{q:Program}{loose:List Str}{XP:(Str->Option Value)->Heap->Prop}{YP:World->Heap->Prop}{d:DefRec}{K:Params->z02}{CX:World->CXT}{sp:World->Sp}{x:Str}
  (hn:l.most=some n) (hn2:n<=z20) (hdf:d.params.defaults=[]) (hr:Y7 k callerA)
  (hY:∀(w:World) (h:Heap),YP w h->(K w.params).In h)
  (F:∀(w:World) (mg:Str->Option Value) (fa:Addr) (h:Heap),(K w.params).In h->h.Ns z67 mg->mg d.name=some (.ref fa)->
   ∃fd:FuncData,(∀(s:Shared) (u:Value),BindsTo s fd ⟨[u],[]⟩ [(x,u)])/\
    ∀base:Heap,(K w.params).In base->base.Ns z67 mg->Qcf l.prog w (K w.params) mg base (CX w) k fa fd [x] (sp w))
  (hsp:∀(w:World) (H:Hp) (a:Addr) (ns:List Int),ns.length<=n->Only H->SqL (K w.params) H a (ns.map V.int)->sp w [.ref a] H (fun v _=>v=.bl true) fun _ _ _=>False)
  (hCX:∀(w:World) (H:Hp) (s:Shared) (e:Value) (s':Shared),CX w [] H s (fun _ _ _=>False) e s'->False) :
  PySem.W.WalkO q loose XP YP l.row.toRowW d [] (fun f vs=>zx8 f vs):=by
 refine Att.Qcp hn hdf fun w s₀ s₁ mg mb fa o pm cd doc a vs ns G Y ho hd hcd hmg hobj hints hlen hg=>?_
 have KX:=hY w _ Y
 obtain⟨fd,hb,hF⟩:=F w mg fa _ KX G.T.g hmg
 exact QgG KX G.T.g G.T.b G.T.builtins G.T.nolimit hg hobj hints (z71 hlen hn2) hr hF hb (fun H hO hS=>hsp w H a ns hlen hO hS) fun H e s'=>hCX w H s₁ e s'
def Y8 (s:Stmt):Arguments:=match s with
 |.FunctionDef _ a _ _ _ _ _ _ _ _=>a
 |_=>{ posonlyargs:=[],args:=[],vararg:=none,kwonlyargs:=[],kw_defaults:=[],kwarg:=none,defaults:=[]}
def Js (s:Stmt):List Stmt:=match s with
 |.FunctionDef _ _ b _ _ _ _ _ _ _=>b
 |_=>[]
def Qw (s:Stmt):Scope:=match s with
 |.FunctionDef _ _ _ _ _ _ sc _ _ _=>sc
 |_=>{ kind:=.function,names:=[],isGenerator:=false,isCoroutine:=false }
structure Fun (K:z02)(x qual:Str)(st:Stmt)(f:Addr)(fd:FuncData):Prop where
 ex:∃(oc:Value) (od:Option Addr) (kV doc pm:Value) (an:Option Addr) (cdv ct:Value) (osl:Array (Option Value)),
  fd=zf6 x qual (Y8 st) (Js st) (Qw st) .none kV doc pm an cdv ct/\K.lookup f=some ⟨oc,od,.func fd,osl⟩/\zq8 K cdv qual=true
 kp:zq7 K (.ref f)=true
section
variable {K:z02}
theorem Fun.binds {x qual:Str}{st:Stmt}{f:Addr}{fd:FuncData}{ps:List Str}(F:Fun K x qual st f fd)
  (h:∀(kV doc pm:Value) (an:Option Addr) (cdv ct:Value) (us:List Value),us.length=ps.length->bindArgs (zf6 x qual (Y8 st) (Js st) (Qw st) .none kV doc pm an cdv ct) ⟨us,[]⟩=pure (ps.zip us)):Binds K fd ps []:=by
 obtain⟨oc,od,kV,doc,pm,an,cdv,ct,osl,rfl,lk,hcd⟩:=F.ex
 exact .all (h kV doc pm an cdv ct)
theorem QkS {x qual:Str}{st:Stmt}{f:Addr}{oc:Value}{od an:Option Addr}{osl:Array (Option Value)}{kV doc pm cdv ct:Value}(l:K.lookup f=some ⟨oc,od,.func (zf6 x qual (Y8 st) (Js st) (Qw st) .none kV doc pm an cdv ct),osl⟩)
  (c:zq8 K cdv qual=true) (k:zq7 K (.ref f)=true):Fun K x qual st f (zf6 x qual (Y8 st) (Js st) (Qw st) .none kV doc pm an cdv ct):=⟨⟨oc,od,kV,doc,pm,an,cdv,ct,osl,rfl,l,c⟩,k⟩
end
theorem Vt {A:Around}{k:Nat}(hr:Y7 k A):A.units+1<cLine:=zz4 (Nat.add_le_add_left (by decide:1<=64) _) hr.units
section
variable {X:Cx}
theorem pv (i:Nat){x:Str}{pos:Pos}(hN:X.N[i]? = some x:=by rfl)(hv:Vis X.env.scope x:=by first|exact z46 rfl|exact z58 (z46 rfl)|exact z58 (z58 rfl))(hd:(x == ("__debug__" : Str))=false:=by decide)
  (hcd:(x == ("__classdict__" : Str))=false:=by decide):PE X (.Name x pos) (Qgl i):=Yh hN hv hd hcd
end
def Qn (H H':Hp):Prop:=∀b o,H b=some o->H' b=some o
theorem Qn.refl (H:Hp):Qn H H:=fun _ _ h=>h
theorem Qn.trans {H H1 H2:Hp}(a:Qn H H1)(b:Qn H1 H2):Qn H H2:=fun c o h=>b c o (a c o h)
theorem Qn.free {H H':Hp}(e:Qn H H'){l:Addr}(h:H' l=Option.none):H l=Option.none:=by
 cases q:H l with
 |none=>rfl
 |some o=>
  rw[e l o q] at h
  cases h
section
variable {κ:Type}[DecidableEq κ]
end
end L2
set_option maxHeartbeats 4000000
namespace L2
open PySem PySem.Spec PyProof.Rows
theorem QdL {α β:Type}{l:List α}{f:α->β->Sem (ForInStep β)}{g:α->β->β}(h:∀x∈l,∀c,f x c=pure (.yield (g x c))):∀c:β,forIn l c f=pure (l.foldl (fun c x=>g x c) c):=by
 induction l with
 |nil=>intro c;rfl
 |cons x l ih=>
  intro c
  rw[zs0,h x z12,pure_bind]
  exact ih (fun y hy=>h y (z09 _ hy)) _
def QbC (cells:List (Str×Addr))(names:List (Str×NameKind)):List (Str×Addr):=
 names.foldl (fun c x=>if(x.2 == z38)=true then(x.1,(cells.lookup x.1).getD 0)::c else c) []
theorem QdM {scope:Scope}{env:Env}(h:∀x∈scope.names,x.2=.free->∃c,env.cells.lookup x.1=some c):closureFor scope env=pure (QbC env.cells scope.names):=by
 simp only[closureFor]
 rw[QdL (g:=fun(x:Str×NameKind) c=>if(x.2 == z38)=true then(x.1,(env.cells.lookup x.1).getD 0)::c else c) (fun x hx c=>by
  obtain⟨n,kind⟩:=x
  by_cases hk:kind=.free
  ·subst hk
   obtain⟨a,ha⟩:=h _ hx rfl
   simp[cellOf,ha]
  ·have hb:(kind == z38)=false:=by simpa using hk
   simp only[hb,z29,if_false])]
 rfl
theorem Qar {cells:List (Str×Addr)}:∀(names:List (Str×NameKind)) (acc:List (Str×Addr)),(∀x∈names,x.2=.free->∃c,cells.lookup x.1=some c)->(∀p∈acc,cells.lookup p.1=some p.2)->
  ∀p∈names.foldl (fun c (x:Str×NameKind)=>if(x.2 == z38)=true then(x.1,(cells.lookup x.1).getD 0)::c else c) acc,cells.lookup p.1=some p.2
 | [],_,_,ha=>ha
 |(n,k)::r,acc,h,ha=>by
  rw[zd8]
  refine Qar r _ (fun x hx=>h x (z09 _ hx)) ?_
  by_cases hk:k=.free
  ·subst hk
   obtain⟨a,e⟩:=h (n,.free) z12 rfl
   intro p hp
   simp only[beq_self_eq_true,if_true] at hp
   rcases z26.mp hp with rfl|hp
   ·show cells.lookup n=some ((cells.lookup n).getD 0)
    have e':cells.lookup n=some a:=e
    rw[e'];rfl
   ·exact ha p hp
  ·have hb:(k == z38)=false:=by simpa using hk
   simp only[hb,z29,if_false]
   exact ha
theorem Y9 {cells:List (Str×Addr)}{y:Str}:∀(names:List (Str×NameKind)) (acc:List (Str×Addr)),((y,z38)∈names\/y∈acc.map (·.1))->
  y∈(names.foldl (fun c (x:Str×NameKind)=>if(x.2 == z38)=true then(x.1,(cells.lookup x.1).getD 0)::c else c) acc).map (·.1)
 | [],acc,h=>h.elim (fun z=>nomatch z) fun z=>z
 |(n,k)::r,acc,h=>by
  rw[zd8]
  refine Y9 r _ ?_
  rcases h with h|h
  ·rcases z26.mp h with e|h
   ·cases e
    refine .inr ?_
    simp
   ·exact .inl h
  ·refine .inr ?_
   split
   ·exact z09 _ h
   ·exact h
theorem Va {y:Str}:∀{l:List (Str×Addr)},y∈l.map (·.1)->∃c,l.lookup y=some c
 | [],h=>nomatch h
 |(n,a)::r,h=>by
  by_cases e:y=n
  ·subst e
   exact⟨a,by simp[z78]⟩
  ·have hb:(y == n)=false:=by simpa using e
   have hr:y∈r.map (·.1):=(z26.mp h).resolve_left e
   obtain⟨c,hc⟩:=Va hr
   exact⟨c,by rw[z78,hb];exact hc⟩
theorem JR {env:Env}{y:Str}:∀{names:List (Str×NameKind)} {k:NameKind},(∀z∈names,z.2≠.cell)->
  (names.map fun(n,k)=>if(k == z38 && env.scope.kind == .function && env.kindOf n == some .cell) then(n,z90) else(n,k)).lookup y=some k->k=.cell\/k=.free->(y,z38)∈names
 | [],_,_,h,_=>by simp at h
 |(n,k0)::r,k,hc,h,hk=>by
  rw[z30] at h
  by_cases e:y=n
  ·subst e
   by_cases c:(k0 == z38 && env.scope.kind == .function && env.kindOf y == some .cell)=true
   ·have hf:k0=.free:=by
     have:=c
     simp only[z72] at this
     simpa using this.1.1
    subst hf
    exact z12
   ·have h':k0=k:=by
     rw[show(match (y,k0) with|(n,k)=>if(k == z38 && env.scope.kind == .function && env.kindOf n == some .cell)=true then(n,z90) else(n,k))=(y,k0) from if_neg c] at h
     simpa[z78] using h
    subst h'
    rcases hk with rfl|rfl
    ·exact absurd rfl (hc _ z12)
    ·exact z12
  ·have hb:(y == n)=false:=by simpa using e
   refine z09 _ (JR (env:=env) (k:=k) (fun z hz=>hc z (z09 _ hz)) ?_ hk)
   by_cases c:(k0 == z38 && env.scope.kind == .function && env.kindOf n == some .cell)=true
   ·rw[show(match (n,k0) with|(n,k)=>if(k == z38 && env.scope.kind == .function && env.kindOf n == some .cell)=true then(n,z90) else(n,k))=(n,z90) from if_pos c,z78,hb] at h
    exact h
   ·rw[show(match (n,k0) with|(n,k)=>if(k == z38 && env.scope.kind == .function && env.kindOf n == some .cell)=true then(n,z90) else(n,k))=(n,k0) from if_neg c,z78,hb] at h
    exact h
theorem JS {env:Env}{y:Str}:∀{names:List (Str×NameKind)},names.lookup y=some .free->
  (names.map fun(n,k)=>if(k == z38 && env.scope.kind == .function && env.kindOf n == some .cell) then(n,z90) else(n,k)).lookup y=some .cell\/
  (names.map fun(n,k)=>if(k == z38 && env.scope.kind == .function && env.kindOf n == some .cell) then(n,z90) else(n,k)).lookup y=some .free
 | [],h=>by simp at h
 |(n,k)::r,h=>by
  have ih:=@JS env y r
  show List.lookup y ((if(k == z38 && env.scope.kind == .function && env.kindOf n == some .cell)=true then(n,z90) else(n,k))::_)=_\/List.lookup y ((if(k == z38 && env.scope.kind == .function && env.kindOf n == some .cell)=true then(n,z90) else(n,k))::_)=_
  cases hx:y == n with
  |true=>
   simp only[z78,hx] at h
   cases h
   by_cases hc:(z38 == z38 && env.scope.kind == .function && env.kindOf n == some .cell)=true
   ·rw[if_pos hc];simp[z78,hx]
   ·rw[if_neg hc];simp[z78,hx]
  |false=>
   simp only[z78,hx] at h
   by_cases hc:(k == z38 && env.scope.kind == .function && env.kindOf n == some .cell)=true
   ·rw[if_pos hc];simp only[z78,hx];exact ih h
   ·rw[if_neg hc];simp only[z78,hx];exact ih h
structure Blk (X:Cx)(scope:Scope)(N:List Str)(ix:List (Option Nat)):Prop where
 kind:scope.kind=.function
 QcY:∀y∈scope.names,y.2≠.cell
 names:∀y∈scope.names,y.2=.local->scope.names.lookup y.1=some .local
 free:∀y∈scope.names,y.2=.free->X.env.kindOf y.1=some .cell\/X.env.kindOf y.1=some .free
 nd:N.Nodup
 len:ix.length=N.length
 slots:∀(j i:Nat) (y:Str),ix[j]? = some (some i)->N[j]? = some y->X.N[i]? = some y/\scope.names.lookup y=some .free
def QM (ix:List (Option Nat))(σ:St):St:=ix.map fun o=>o.bind fun i=>(σ[i]?).join
def Cx.blk (X:Cx)(scope:Scope)(N:List Str)(pins:List (Addr×Obj))(C:Addr)(s:Shared)(H:Hp)(ex:List Addr):Cx:=
 { X with N:=N,s₀:=s,H₀:=H,env:=compEnvC scope (QbC X.env.cells scope.names) C X.env,outer:=X.stack,stack:=X.stack,ex:=ex,fn:=fun _=>false,pn:=X.pn++pins,xe:=fun _ _=>False }
def PIf (X:Cx)(ifs:List Expr)(t:TT):Prop:=
 ∀(pins:List (Addr×Obj)) (s:Shared) (σ:St) (H:Hp) (Q:Bool->Hp->Prop),Inv X pins σ H s->t σ H Q->
  wpAny (model X.prog X.w) X.A (forIn ifs true fun c r=>if r=true then do let ok ← isTrue c X.env (eval c X.env);pure (zj6 ok) else pure (zj6 r)) (TP X pins σ Q) X.xe s
def Qp6:TT:=fun _ H Q=>Q true H
theorem Qit {X:Cx}:PIf X [] Qp6:=fun pins s σ H Q I h=>wpAny_tests_nil ⟨H,I,h⟩
theorem Qiu {X:Cx}{c:Expr}{t:TT}(h:PT X c t):PIf X [c] t:=fun pins s σ H Q I q=>wpAny_tests_one (h pins s σ H Q I q)
theorem Ym {prog:Program}{w:World}{A:Around}{R:Result->Shared->Prop}{s:Shared}{elt target iter:Expr}{ifs:List Expr}{scope:Scope}{pos:Pos}{it acc:Value}{env:Env}(I:Nat->Shared->Prop)
  (turn:∀n s,I n s->wpAny (model prog w) A (pyNext it) (fun r s₁=>match r with
   |none=>R (.ok .next) s₁
   |some v=>wpAny (model prog w) A (letOwnedTupleGo target it v) (fun _ s₀=>wpAny (model prog w) A (assign target env v) (fun _ s₂=>
     wpAny (model prog w) A (forIn ifs true fun c r=>if r=true then do let ok ← isTrue c env (eval c env);pure (zj6 ok) else pure (zj6 r)) (fun ok s₃=>
      if ok=true then wpAny (model prog w) A (eval elt env) (fun x s₄=>
       wpAny (model prog w) A (call (.builtin "list.append") [acc,x]) (fun _ s₅=>∃m,m<n/\I m s₅) (fun _ _=>False) s₄) (fun _ _=>False) s₃
      else ∃m,m<n/\I m s₃) (fun _ _=>False) s₂) (fun _ _=>False) s₀) (fun _ _=>False) s₁) (fun _ _=>False) s)
  (n:Nat) (h:I n s) :
  codeAny (model prog w) A (.compLoop (.ListComp elt [⟨target,iter,ifs,0⟩] scope pos) 0 it acc env) R s:=by
 refine codeAny_loop rfl I (fun n s hI=>?_) n h
 show wpAny _ A ((compTurn (.ListComp elt [⟨target,iter,ifs,0⟩] scope pos) 0 it acc env).onRaise (fun x=>do noteFrame x env;theTreesLotGoes x)) _ _ s
 refine wpAny_noted ?_
 rw[compTurn_list]
 refine z00 (zx5 (z00 (z99 (turn n s hI) (fun r s₁ h₁=>?_) fun _ _ h'=>h'.elim)))
 cases r with
 |none=>exact z06 h₁
 |some v=>
  refine z00 (z99 h₁ (fun _ s₀ h₀=>?_) fun _ _ h'=>h'.elim)
  refine z00 (z99 h₀ (fun _ s₂ h₂=>z00 (z99 h₂ (fun ok s₃ h₃=>?_) fun _ _ h'=>h'.elim)) fun _ _ h'=>h'.elim)
  cases ok with
  |false=>exact z06 ⟨rfl,h₃⟩
  |true=>
   exact z00 (z00 (z99 h₃ (fun x s₄ h₄=>z00 (z99 h₄ (fun _ s₅ h₅=>z06 (z06 ⟨rfl,h₅⟩)) fun _ _ h'=>h'.elim)) fun _ _ h'=>h'.elim))
theorem HOk.track {P:Program}{w:World}{H:Hp}{h:Heap}{a:Addr}{o:HO}(x:HOk P w H h)(hn:H a=none)(new:QV P w (upd H a o) h a o):HOk P w (upd H a o) h:=fun b u e=>by
 by_cases hb:b=a
 ·subst hb;rw[Ql] at e;cases e;exact new
 ·rw[Qg hb] at e
  exact(x b u e).stay (fun c v _ q=>q) (fun c q=>by rw[Qg (Qm q hn)];exact q) fun c xs q=>by rw[Qg (Qm q hn)];exact q
theorem HOk.but {P:Program}{w:World}{H:Hp}{h h':Heap}{a:Addr}(x:HOk P w H h)(hn:H a=none)(sb:zb0 a h h'):HOk P w H h':=fun b u e=>by
 refine(x b u e).stay (fun c v hc q=>(sb.2 c ?_).trans q) (fun _ q=>q) fun _ _ q=>q
 rintro rfl
 rcases hc with rfl|hc
 ·rw[hn] at e;cases e
 ·rw[hn] at hc;cases hc
section
variable {X:Cx}
def Qcq (i j:Int):Prop:=0<j/\j<115792089237316195423570985008687907853269984665640564039457584007913129639936
theorem QgH {j:Int}(h:Qcq 0 j):j.natAbs.log2<9000:=by
 have h1:(0:Int)<j:=h.1
 have h2:j<115792089237316195423570985008687907853269984665640564039457584007913129639936:=h.2
 have e:(2:Nat) ^ 256=115792089237316195423570985008687907853269984665640564039457584007913129639936:=by decide
 have h3:j.natAbs<2 ^ 256:=by rw[e];omega
 have h4:j.natAbs.log2<256:=(Nat.log2_lt (by omega)).mpr h3
 omega
theorem QgI:OpR X (binaryOp .FloorDiv) (rI Qcq fun i j=>.int (i / j)):=opI fun i j _ _ _ _ _ hc q=>by
 have h1:(0:Int)<j:=hc.1
 exact floordiv_int (by omega) (by rw[Int.fdiv_eq_ediv_of_nonneg i (by omega)];exact q) (.inl (PyProof.noPylong_of_log2 (QgH ⟨hc.1,hc.2⟩)))
theorem Paired.get {α β:Type}{F:α->β->Prop}:∀{l:List α} {m:List β} {i:Nat} {a:α},Paired F l m->l[i]? = some a->∃b,m[i]? = some b/\F a b
 |_,_,_,_,.nil,e=>by simp at e
 |_,_,0,_,.cons r _,e=>by simp at e;subst e;exact⟨_,rfl,r⟩
 |_,_,i+1,x,.cons _ t,e=>by
  obtain⟨u,h1,h2⟩:=Paired.get (i:=i) (a:=x) t (by simpa using e)
  exact⟨u,by simpa using h1,h2⟩
end
theorem Blk.of {X:Cx}{scope:Scope}{N:List Str}{ix:List (Option Nat)}(kind:scope.kind=.function:=by rfl)
  (c1:(scope.names.all fun y=>y.2 != z90)=true:=by rfl)
  (c2:(scope.names.all fun y=>y.2 != NameKind.local || scope.names.lookup y.1 == some NameKind.local)=true:=by rfl)
  (c3:(scope.names.all fun y=>y.2 != z38 || (X.env.scope.names.lookup y.1 == some z90 || X.env.scope.names.lookup y.1 == some z38))=true:=by rfl)
  (nd:N.Nodup:=by decide +kernel) (len:ix.length=N.length:=by rfl)
  (c4:((List.zip ix N).all fun p=>match p.1 with|none=>true|some i=>X.N[i]? == some p.2 && scope.names.lookup p.2 == some z38)=true:=by rfl):Blk X scope N ix where
 kind:=kind
 QcY:=fun y hy e=>by
  have q:=z88.mp c1 y hy
  rw[e] at q
  exact absurd q (by decide)
 names:=fun y hy e=>by
  have q:=z88.mp c2 y hy
  rw[e] at q
  exact beq_iff_eq.mp (by simpa using q)
 free:=fun y hy e=>by
  have q:=z88.mp c3 y hy
  rw[e] at q
  have q':(X.env.scope.names.lookup y.1 == some z90 || X.env.scope.names.lookup y.1 == some z38)=true:=by simpa using q
  rcases Bool.or_eq_true_iff.mp q' with z|z
  ·exact .inl (beq_iff_eq.mp z)
  ·exact .inr (beq_iff_eq.mp z)
 nd:=nd
 len:=len
 slots:=fun j i y h1 h2=>by
  have hm:(some i,y)∈List.zip ix N:=by
   have e:(List.zip ix N)[j]? = some (some i,y):=by rw[List.getElem?_zip_eq_some];exact⟨h1,h2⟩
   exact z56 e
  have q:=z88.mp c4 _ hm
  have q':(X.N[i]? == some y && scope.names.lookup y == some z38)=true:=q
  obtain⟨z1,z2⟩:=z48.mp q'
  exact⟨beq_iff_eq.mp z1,beq_iff_eq.mp z2⟩
def SqB (kd:Bool)(K:z02)(H:Hp)(a:Addr)(xs:List V):Prop:=match kd with
 |true=>SqL K H a xs
 |false=>SqT K H a xs
def Itb (kd:Bool)(K:z02)(a:Addr):It:=match kd with
 |true=>Itl K a
 |false=>Itt K a
def Qp7 (K:z02)(tl:TE):TI:=fun σ H R=>tl σ H fun x H1=>∃a kd,x=.ref a/\(∃xs,SqB kd K H1 a xs)/\R (Itb kd K a) H1
theorem Qhz {X:Cx}{tg l:Expr}{tl:TE}(hl:PE X l tl):PI X tg l (Qp7 X.K tl):=by
 intro pins s σ H R I h
 refine thn (hl pins s σ H _ I h) fun v s1 hz=>?_
 obtain⟨x,H1,I1,r1,q1⟩:=hz
 obtain⟨a,kd,e,⟨xs,hq⟩,q⟩:=q1
 subst e
 cases r1
 cases kd with
 |true=>
  obtain⟨its,rv,p,hz⟩:=I1.list (show SqL X.K H1 a xs from hq)
  refine wpAny_pyIter_list p.isList ?_
  refine⟨s1.heap.objs.size,[s1.heap.objs.size],_,_,H1,rfl,I1.kept (t':=s1.toks) fun b o e=>z16 _ e,Qer a _,⟨_,z37 _ rfl,rfl,rfl⟩,fun b hb=>?_,q⟩
  have e:b=s1.heap.objs.size:=by simpa using hb
  subst e
  exact I1.Qni (z18 _) (I1.hok.fresh (z18 _))
 |false=>
  obtain⟨its,rv,p,hz⟩:=I1.tuple (show SqT X.K H1 a xs from hq)
  refine wpAny_pyIter_tuple (show s1.heap.IsTuple a its.toArray from p) ?_
  refine⟨s1.heap.objs.size,[s1.heap.objs.size],_,_,H1,rfl,I1.kept (t':=s1.toks) fun b o e=>z16 _ e,QdG a _,⟨_,z37 _ rfl,rfl,rfl⟩,fun b hb=>?_,q⟩
  have e:b=s1.heap.objs.size:=by simpa using hb
  subst e
  exact I1.Qni (z18 _) (I1.hok.fresh (z18 _))
theorem Qn.upd {H:Hp}{a:Addr}{o:HO}(h:H a=none):Qn H (upd H a o):=fun b u e=>by rw[Qg (Qm e h)];exact e
structure ExcAt (s:Shared)(H:Hp)(h:Heap)(e:Addr)(cv:Value)(dx:Option Addr):Prop where
 dk:∀d,dx=some d->∃oe,h.get? e=some oe/\oe.dict=some d
 new:s.heap.get? e=none
 free:H e=none
 tr:∃oe vs a0 T oT ts,h.get? e=some oe/\oe.cls=cv/\vs[0]? = some a0/\oe.data=.fields vs/\vs[1]? = some (.ref T)/\T≠e/\s.heap.get? T=none/\H T=none/\h.get? T=some oT/\oT.data=.fields ts/\ts[3]? = some .none
def CXe (P:Program)(w:World):CXT:=fun outer H s E ev s'=>∃e cv dx H',ev=.ref e/\s'.os=s.os/\AllBare s'.gens/\Un (frs outer) [] H H' s.heap s'.heap/\HOk P w H' s'.heap/\ExcAt s H' s'.heap e cv dx/\E cv dx H'
section
variable {P:Program}{w:World}{K:z02}{mg:Str->Option Value}{base:Heap}{N:List Str}{qual:Str}{scope:Scope}{f:Addr}{cd:Value}{A:Around}{outer:List Env}{s:Shared}{H:Hp}{E:XK}
theorem Qp8:PassesOwn (model P w) (A.deeper (envOfC qual scope s.heap.objs.size f cd)) (envOfC qual scope s.heap.objs.size f cd) (Qgm (CXe P w) P w K mg base N qual scope f cd A outer s H E).xe:=PassesOwn.leaving
end
theorem Fun.okE {P:Program}{w:World}{K:z02}{mg:Str->Option Value}{base:Heap}{x qual:Str}{st:Stmt}{f:Addr}{fd:FuncData}{N ps:List Str}{k:Nat}{sp:Sp}(F:Fun K x qual st f fd)(S:VN N ps (Qw st))(len:∀vs H Q E,sp vs H Q E->vs.length=ps.length)
  (hbody:∀(cdv:Value) (A:Around) (outer:List Env) (s:Shared) (H:Hp) (vs:List V) (Q:VK) (E:XK),Y7 k (A.deeper (envOfC qual (Qw st) s.heap.objs.size f cdv))->A.handled=none->sp vs H Q E->
   ∃t,PSs (Qgm (CXe P w) P w K mg base N qual (Qw st) f cdv A outer s H E) (Js st) t/\t { nx:=fun _ H'=>Q .non H',rt:=Q } (start N vs) H):Qcf P w K mg base (CXe P w) (k+1) f fd ps sp:=by
 obtain⟨oc,od,kV,doc,pm,an,cdv,ct,osl,rfl,lk,hcd⟩:=F.ex
 exact QnM lk hcd S len fun A outer s H vs Q E hr hsp=>hbody cdv A outer s H vs Q E hr hr.hd hsp
structure Vb (P:Program)(w:World)(K:z02)(mg:Str->Option Value)(base:Heap)(k:Nat)(x:Str)(ps:List Str)(sp:Sp):Prop where
 ex:∃f fd,Qcf P w K mg base (CXe P w) k f fd ps sp/\mg x=some (.ref f)/\zq7 K (.ref f)=true/\Binds K fd ps []
def Ext (σ τ:St):Prop:=τ.length=σ.length/\∀(i:Nat) v,σ[i]? = some (some v)->τ[i]? = some (some v)
def QcZ (wi:TI)(ix:List (Option Nat))(g:TG)(tc:TT)(te:TE):TE:=fun σ H Q=>wi σ H fun J H1=>∃W:Nat->Nat->List V->Hp->Prop,(∃m,W 0 m [] H1)/\∀i m ys H,W i m ys H->
 (J.stop i H/\∀D,H D=none->Q (.ref D) (upd H D (.lst ys)))\/
 (J.go i H/\∃N:List V->Hp->Prop,(∀ys' H',N ys' H'->∃m',m' < m/\W (i+1) m' ys' H')/\∀x H',J.yld i H x H'->
  g x (QM ix σ) H' fun τ H1'=>Ext (QM ix σ) τ/\tc τ H1' fun c H2=>if c=true then te τ H2 fun y H3=>ys.length<z20/\N (ys++[y]) H3 else N ys H2)
theorem QbD {X:Cx}{elt iter tg:Expr}{pos:Pos}{ifs:List Expr}{scope:Scope}{N:List Str}{ix:List (Option Nat)}{wi:TI}{g:TG}{tc:TT}{te:TE}
  (hc:X.calm=true) (B:Blk X scope N ix) (hg:∀pins C s H ex,PG (X.blk scope N pins C s H ex) tg g)
  (ht:∀pins C s H ex,PIf (X.blk scope N pins C s H ex) ifs tc) (he:∀pins C s H ex,PE (X.blk scope N pins C s H ex) elt te)
  (hs:∀x,foldedSetIterable iter X.env x=pure x) {pins:List (Addr×Obj)} {s:Shared} {σ:St} {H:Hp} {Q:VK} {pos':Pos} {use:Option (Value->Sem Unit)} {QnU:Value->Shared->Prop} (I:Inv X pins σ H s) (hi:∀R:It->Hp->Prop,wi σ H R->wpAny (model X.prog X.w) X.A (eval iter X.env) (fun v s1=>wpAny (model X.prog X.w) X.A (pyIter v) (PIE X pins σ tg R) X.xe s1) X.xe s) (h:QcZ wi ix g tc te σ H Q)
  (fin:∀{s4:Shared} {H3:Hp} {D C:Addr} {ys:List V} {m:Str->Option Value},s4.heap.Ns C m->(∀h',zb0 C s4.heap h'->Inv X pins σ (upd H3 D (.lst ys)) { s4 with heap:=h' })->C≠X.env.locals->(∀y c,X.env.cells.lookup y=some c->c≠C)->(∀p∈X.pn++pins,p.1≠C)->X.s₀.heap.objs.size<=C->upd H3 D (.lst ys) C=none->Q (.ref D) (upd H3 D (.lst ys))->∀v,compPost (model X.prog X.w) X.A X.xe use QnU (.ref D) C (.ok v) s4) :
  wpAny (model X.prog X.w) X.A (comprehension (.ListComp elt [⟨tg,iter,ifs,0⟩] scope pos) scope X.env pos' (newList []) false (eval iter X.env) use) QnU X.xe s:=by
 have hcl:∀y∈scope.names,y.2=.free->∃c,X.env.cells.lookup y.1=some c:=fun y hy hf=>I.ok.has y.1 (B.free y hy hf)
 refine wpAny_comprehension_free (use:=use) (cl:=QbC X.env.cells scope.names) rfl hs (QdM hcl) B.kind B.names ?_
 refine thn (hi _ h) fun v s1 h1=>thn h1 fun itv s2 h2=>?_
 obtain⟨it,fp,tn,J,H2,e,I2,T,st2,f2,W,⟨m0,w0⟩,turn⟩:=h2
 subst e
 refine za6 (wpAny_newFunctionEnv B.QcY (by intro y hy;simp at hy) (fun h₁ QkT Qkb=>?_) B.kind)
 dsimp only at QkT Qkb ⊢
 generalize hHp:s2.heap.push { cls:=.type "list",dict:=none,data:=.seq ([]:List Value).toArray }=Hq at QkT Qkb ⊢
 generalize hD:s2.heap.objs.size=D at QkT Qkb ⊢
 generalize hCq:Hq.objs.size=C at QkT Qkb ⊢
 have hC:C=D+1:=by rw[← hCq,← hHp,zt6,hD]
 have hDC:D≠C:=by omega
 have below:∀b o,s2.heap.get? b=some o->b≠C/\b≠D:=fun b o e=>by
  have h1:b<D:=by rw[← hD];exact z33 e
  exact⟨z51 (z34 h1 (by rw[hC];exact Nat.le_succ D)),z51 h1⟩
 have old:∀b o,s2.heap.get? b=some o->h₁.get? b=some o:=fun b o e=>Qkb.extBut b o (below b o e).1 (z16 _ (hHp▸z16 _ e))
 have QnV:h₁.get? D=some { cls:=.type "list",data:=.seq ([]:List Value).toArray }:=
  Qkb.extBut _ _ hDC (z16 _ (hHp▸hD▸z37 _ rfl))
 have H2D:H2 D=none:=I2.hok.fresh (by rw[hD];exact z18 _)
 have H2C:H2 C=none:=I2.hok.fresh (by rw[hD];omega)
 have clM:∀y c,(QbC X.env.cells scope.names).lookup y=some c->X.env.cells.lookup y=some c:=fun y c e=>Qar scope.names [] hcl (fun p hp=>nomatch hp) (y,c) (za1 e)
 have QnW:∀b∈fp,∃o,s2.heap.get? b=some o:=fun b hb=>let ⟨o,e,_⟩:=T.obj 0 _ st2 b hb;⟨o,e⟩
 have QkU:∀p∈X.pn++pins,s2.heap.get? p.1=some p.2:=fun p hp=>(I2.pin p hp).1
 have QhA:∀y c,X.env.cells.lookup y=some c->∃o,s2.heap.get? c=some o:=fun y c e=>let ⟨v,o,ho,_⟩:=I2.cell y c e;⟨o,ho⟩
 let Xb:Cx:=X.blk scope N pins C s2 H2 fp
 have okb:Xb.Ok:=by
  refine⟨I2.ok.mod,B.kind,I2.ok.glob,I2.ok.blt,?_,fun y z c e1 e2=>I2.ok.inj y z c (clM y c e1) (clM z c e2),fun y hy=>?_,fun y c hf _=>?_,I2.ok.hd,I2.ok.frames,.inl rfl,fun b hb=>?_,I2.bs,z71 I2.ok.bsz I2.sz,fun b o e hb=>?_,fun b hb hf=>?_,I2.stack,I2.Qem⟩
  ·show s2.heap.objs.size<=C
   rw[hD];omega
  ·have hy':(y,z38)∈scope.names:=by
    rcases hy with hy|hy
    ·exact JR (env:=X.env) B.QcY (show(relabel scope X.env).names.lookup y=some .cell from hy) (.inl rfl)
    ·exact JR (env:=X.env) B.QcY (show(relabel scope X.env).names.lookup y=some .free from hy) (.inr rfl)
   exact Va (Y9 scope.names [] (.inl hy'))
  ·exact absurd (show false=true from hf) z23
  ·obtain⟨o,e⟩:=QnW b hb
   refine⟨(below b o e).1,fun y c hy=>?_⟩
   exact(f2 b hb).2.2.2.2.1 y c (clM y c hy)
  ·rcases(f2 b hb).2.2.2.1 with z|z
   ·exact I2.ok.Qny b o e z
   ·exact absurd (z34 (z33 e) (z71 I2.ok.bsz z)) (zc6 _)
  ·rcases z26.mp (I2.Qbm b hf) with z|z
   ·exact(f2 b hb).2.1 z
   ·exact(f2 b hb).2.2.1 z
 have Qp9:(QM ix σ).length=N.length:=by unfold QM;rw[z14];exact B.len
 have QnX:∀p∈X.pn++pins,p.1∉frs X.stack:=fun p hp z=>by
  obtain⟨_,_,n1,n2,_⟩:=I2.pin p hp
  exact(z26.mp (I2.Qbm p.1 z)).elim n1 n2
 have DFs:D∉frs X.stack:=fun z=>by
  rcases z26.mp (I2.Qbm D z) with q|q
  ·have h3:=I2.lt
   rw[hD,← q] at h3
   exact absurd h3 (zc6 _)
  ·exact I2.Qpa (by rw[hD];exact z18 _) q
 -- at the block's start
 have Ib:Inv Xb [(D,{ cls:=.type "list",data:=.seq ([]:List Value).toArray })] (QM ix σ) H2 { s2 with heap:=h₁,toks:=s2.toks+([]:List (Str×Value)).length }:=by
  refine⟨okb,rfl,I2.bare,Un.kept old,⟨_,QkT,fun a y v e1 e2 e3=>?_⟩,fun y c e=>?_,H2C,fun y c e=>I2.QaC y c (clM y c e),fun p hp=>?_,I2.hok.kept old,Qp9⟩
  ·unfold QM at e2
   rw[z31] at e2
   cases q:ix[a]? with
   |none=>rw[q] at e2;cases e2
   |some o=>
    rw[q] at e2
    cases o with
    |none=>cases e2
    |some i=>
     have e2':(σ[i]?).join=some v:=z27 e2
     have Qqa:σ[i]? = some (some v):=by
      cases r:σ[i]? with
      |none=>rw[r] at e2';cases e2'
      |some t=>rw[r] at e2';exact congrArg some e2'
     obtain⟨n1,n2'⟩:=B.slots a i y q e1
     have n2:(y,z38)∈scope.names:=za1 n2'
     have kf:=B.free _ n2 rfl
     obtain⟨m,_,hl⟩:=I2.loc
     obtain⟨u,r,l⟩:=hl i y v n1 Qqa (kf.elim (fun z=>.inr (.inl z)) fun z=>.inr (.inr z))
     refine⟨u,r,?_⟩
     rcases l with⟨l,_⟩|⟨_,c,hc1,hc2⟩
     ·rcases kf with z|z<;>(rw[show X.env.kindOf y=some .local from l] at z;cases z)
     ·obtain⟨c',hc'⟩:=Va (Y9 (cells:=X.env.cells) scope.names [] (.inl n2))
      have:c'=c:=z27 ((clM y c' hc').symm.trans hc1)
      subst this
      have kb:(relabel scope X.env).names.lookup y=some .cell\/(relabel scope X.env).names.lookup y=some .free:=JS n2'
      obtain⟨oc,hoc,hcd⟩:=hc2
      exact .inr ⟨kb,c',hc',oc,old _ _ hoc,hcd⟩
  ·obtain⟨v,oc,hoc,hcd⟩:=I2.cell y c (clM y c e)
   exact⟨v,oc,old _ _ hoc,hcd⟩
  ·rcases z04.mp hp with hp|hp
   ·obtain⟨p1,p2,p3,p4,p5⟩:=I2.pin p hp
    exact⟨old _ _ p1,p2,(below _ _ p1).1,QnX p hp,p5⟩
   ·have e:p=(D,{ cls:=.type "list",data:=.seq ([]:List Value).toArray }):=by simpa using hp
    subst e
    exact⟨QnV,H2D,hDC,DFs,fun v z=>nomatch z⟩
 have stat:∀{H':Hp} {ob:Obj},(∀b∈fp,H' b=none)->∀b∈fp,Qic Xb [(D,ob)] H' b:=fun{H' ob} hn b hb=>by
  obtain⟨o,e⟩:=QnW b hb
  refine⟨hn b hb,(below b o e).1,okb.Qnz b hb,.inl hb,fun y c hy=>(f2 b hb).2.2.2.2.1 y c (clM y c hy),fun p hp z=>?_⟩
  rcases z04.mp hp with hp|hp
  ·exact(f2 b hb).2.2.2.2.2 p hp z
  ·have q:p=(D,ob):=by simpa using hp
   subst q
   exact(below b o e).2 z.symm
 have loop:codeAny (model X.prog X.w) X.A (.compLoop (.ListComp elt [⟨tg,iter,ifs,0⟩] scope pos) 0 (.ref it) (.ref D) (compEnvC scope (QbC X.env.cells scope.names) C X.env))
   (compPost (model X.prog X.w) X.A X.xe use QnU (.ref D) C) { s2 with heap:=h₁,toks:=s2.toks+([]:List (Str×Value)).length }:=by
  refine Ym (fun n s'=>∃i ys H' its k,Inv Xb [(D,{ cls:=.type "list",data:=.seq (List.toArray its) k })] (QM ix σ) H' s'/\tn i s'.heap/\(∀b∈fp,H' b=none)/\Vals ys its/\ys.length<=z20/\W i n ys H') ?_ m0
   ⟨0,[],H2,[],_,Ib,T.keep _ _ _ st2 fun b _ o e=>old b o e,fun b hb=>(f2 b hb).1,.nil,z49 _,w0⟩
  rintro n s3 ⟨i,ys,H3,its,k,I3,st3,fr3,hv3,hz3,w3⟩
  rcases turn i n ys H3 w3 with⟨stop,qn⟩|⟨go,N',hN,step⟩
  ·refine thn (T.done Xb rfl rfl rfl hc i _ s3 _ H3 (fun _ _=>False) I3 (stat fr3) st3 stop) fun r s4 hz=>?_
   obtain⟨hr,I4⟩:=hz
   subst hr
   obtain⟨m,hn,_⟩:=I4.loc
   have hp4:=I4.pin (D,{ cls:=.type "list",data:=.seq its.toArray k }) (by simp)
   obtain⟨gD,nD,_,_,_⟩:=hp4
   have all:∀h',zb0 C s4.heap h'->Inv X pins σ (upd H3 D (.lst ys)) { s4 with heap:=h' }:=fun h' sb=>by
    have n3C:H3 C=none:=I4.free
    have un4:Un (frs X.stack) fp H2 H3 s2.heap s4.heap:=I4.base
    have gD':h'.get? D=some { cls:=.type "list",data:=.seq its.toArray k }:=(sb.2 D hDC).trans gD
    have up:∀b o,s2.heap.get? b=some o->h'.get? b=s4.heap.get? b:=fun b o e=>sb.2 b (below b o e).1
    refine I2.call' (ch:=fp) (s':={ s4 with heap:=h' }) I4.os ?_ ?_ I4.bare fun b hb=>⟨(f2 b hb).2.2.2.1,(f2 b hb).2.1,(f2 b hb).2.2.2.2.1,(f2 b hb).2.2.2.2.2⟩
    ·refine⟨fun b o e n hb hx=>(up b o e).trans (un4.keep b o e n hb hx),fun b o e n hb hx=>?_,fun b o e n hx=>?_,fun b o e hx=>?_,fun b xs e=>?_,fun b o u e=>?_,fun b ps e=>?_⟩
     ·obtain⟨sl,q⟩:=un4.slot b o e n hb hx
      exact⟨sl,(up b o e).trans q⟩
     ·rw[Qg (below b o e).2];exact un4.free b o e n hx
     ·obtain⟨o',q⟩:=un4.there b o e hx
      exact⟨o',(up b o e).trans q⟩
     ·have q:=un4.tups b xs e
      rw[Qg (Qm q nD)];exact q
     ·have q:=un4.Qgk b o u e
      rw[Qg (Qm q nD)];exact q
     ·obtain⟨more,q⟩:=un4.Qgr b ps e
      exact⟨more,by rw[Qg (Qm q nD)];exact q⟩
    ·exact(HOk.but I4.hok n3C sb).track nD ⟨hz3,its,k,hv3,gD'⟩
   refine fin (C:=C) hn all (fun z=>?_) (fun y' c hy' z=>?_) (fun p hp z=>?_) (z71 I2.sz (by rw[hD];omega)) (by rw[Qg (zg0 hDC)];exact I4.free) (qn D nD) _
   ·have l1:=I2.lt
    rw[hD,← z,hC] at l1
    exact absurd l1 (Nat.not_lt.mpr (Nat.le_succ D))
   ·obtain⟨o,q'⟩:=QhA y' c hy'
    exact(below c o q').1 z
   ·exact(below _ _ (QkU p hp)).1 z
  ·refine thn (T.item Xb rfl rfl rfl hc i _ s3 _ H3 (fun _ _=>False) I3 (stat fr3) st3 go) fun r s4 hz=>?_
   obtain⟨u,hr,h4⟩:=hz
   subst hr
   refine thn h4 fun _ s5 hz=>?_
   obtain⟨x5,H5,I5,r5,y5,st5,fr5⟩:=hz
   have I5':=I5.pinned (stat fr5) (T.obj _ _ st5)
   refine thn (hg pins C s2 H2 fp _ s5 _ H5 x5 u _ I5' r5 (step x5 H5 y5)) fun _ s6 hz=>?_
   obtain⟨σ6,H6,I6,Qpj,q6⟩:=hz
   refine thn (ht pins C s2 H2 fp _ s6 _ _ _ I6 q6) fun ok s7 hz=>?_
   obtain⟨H7,I7,q7⟩:=hz
   have back:∀{H8:Hp} {s8:Shared} {ob:Obj} {ys':List V} {its':List Value} {k':Nat},Inv Xb ([(D,ob)]++YD fp s5.heap) σ6 H8 s8->ob={ cls:=.type "list",data:=.seq its'.toArray k' }->Vals ys' its'->ys'.length<=z20->N' ys' H8->
     ∃m,m<n/\∃i ys H' its k,Inv Xb [(D,{ cls:=.type "list",data:=.seq (List.toArray its) k })] (QM ix σ) H' s8/\tn i s8.heap/\(∀b∈fp,H' b=none)/\Vals ys its/\ys.length<=z20/\W i m ys H':=fun{H8 s8 ob ys' its' k'} I8 eo hv8 hz8 n8=>by
    subst eo
    obtain⟨m',hm,w8⟩:=hN ys' H8 n8
    refine⟨m',hm,i+1,ys',H8,its',k',?_,T.keep _ _ _ st5 fun b hb o e=>(I8.pin (b,o) (z01 _ (z01 _ (J8 hb e)))).1,fun b hb=>?_,hv8,hz8,w8⟩
    ·exact(I8.Vv).weak Qpj.1.symm Qpj.2
    ·obtain⟨o,e,d⟩:=T.obj _ _ st5 b hb
     exact(I8.pin (b,o) (z01 _ (z01 _ (J8 hb e)))).2.1
   cases ok with
   |false=>exact back I7 rfl hv3 hz3 q7
   |true=>
    have q7':te σ6 H7 fun y H3=>ys.length<z20/\N' (ys++[y]) H3:=q7
    show wpAny _ _ (eval elt _) _ _ _
    refine thn (he pins C s2 H2 fp _ s7 _ H7 _ I7 q7') fun y8 s8 hz=>?_
    obtain⟨v8,H8,I8,r8,hz8,q8⟩:=hz
    have gD8:=(I8.pin (D,{ cls:=.type "list",data:=.seq its.toArray k }) (by simp)).1
    have nD8:=(I8.pin (D,{ cls:=.type "list",data:=.seq its.toArray k }) (by simp)).2.1
    have hl8:=hv3.length
    refine wpAny_list_append_plain (hsz:=by rw[z21];omega) ⟨k,gD8⟩ fun h9 pl9 sb9=>?_
    obtain⟨k9,g9⟩:=pl9
    have g9':h9.get? D=some { cls:=.type "list",data:=.seq (its++[y8]).toArray k9 }:=by rw[g9];simp
    have QnY:∀p∈YD fp s5.heap,p.1≠D:=fun p hp z=>by
     obtain⟨hb,_⟩:=Qbq hp
     obtain⟨o,e⟩:=QnW p.1 hb
     exact(below _ o e).2 z
    have I8':Inv Xb (YD fp s5.heap) σ6 H8 s8:=I8.QaD fun p hp=>I8.pin p (z01 _ (z01 _ hp))
    have I9:Inv Xb (YD fp s5.heap) σ6 H8 { s8 with heap:=h9 }:=I8'.turned (t':=s8.toks) (fun b o hb e=>(sb9.2 b hb).trans e) nD8 hDC (.inr (by show s2.heap.objs.size<=D;rw[hD];exact z18 _))
     (fun y c hy z=>by obtain⟨o,e⟩:=QhA y c (clM y c hy);exact(below c o e).2 z)
     (fun p hp z=>by
      rcases z04.mp hp with hp|hp
      ·exact(below _ _ (QkU p hp)).2 z
      ·exact QnY p hp z)
    have I10:Inv Xb ([(D,{ cls:=.type "list",data:=.seq (its++[y8]).toArray k9 })]++YD fp s5.heap) σ6 H8 { s8 with heap:=h9 }:=I9.QaD fun p hp=>by
     rcases z04.mp hp with hp|hp
     ·have q:p=(D,{ cls:=.type "list",data:=.seq (its++[y8]).toArray k9 }):=by simpa using hp
      subst q
      exact⟨g9',nD8,hDC,DFs,fun v z=>nomatch z⟩
     ·exact I9.pin p (z01 _ hp)
    exact back I10 rfl (hv3.append (.cons r8 .nil)) (by rw[z10,zd7];omega) q8
 exact codeAny_compStart_list loop (T.self _ 0 _ _ _ (T.keep _ _ _ st2 fun b _ o e=>old b o e) loop)
theorem QgJ {X:Cx}{elt iter tg:Expr}{y:Str}{py pos spos:Pos}{ifs:List Expr}{scope:Scope}{N:List Str}{ix:List (Option Nat)}{i0:Nat}{wi:TI}{g:TG}{tc:TT}{te:TE}
  (hc:X.calm=true) (hXN:X.N.Nodup) (hi0:X.N[i0]? = some y) (hy:Loc X.env.scope y) (B:Blk X scope N ix) (hi:PI X tg iter wi) (hg:∀pins C s H ex,PG (X.blk scope N pins C s H ex) tg g)
  (ht:∀pins C s H ex,PIf (X.blk scope N pins C s H ex) ifs tc) (he:∀pins C s H ex,PE (X.blk scope N pins C s H ex) elt te)
  (hsw:swapsWith (.ListComp elt [⟨tg,iter,ifs,0⟩] scope pos) (some (.Name y py)) spos.line X.env=pure true:=by rfl)
  (hf:X.fn y=true\/X.env.scope.names.lookup y=some .local:=by first|exact .inl rfl|exact .inr rfl|assumption)
  (hs:∀x,foldedSetIterable iter X.env x=pure x:=by intro _;rfl):PS X (.Assign [.Name y py] (.ListComp elt [⟨tg,iter,ifs,0⟩] scope pos) spos) (Qks (QcZ wi ix g tc te) (VL i0)):=by
 intro pins s σ H DD I h
 rw[exec_Assign_Name_used _ _ _ _ hsw]
 refine z00 (zx5 (z00 ?_))
 show wpAny _ X.A (do
  let _ ← comprehension (.ListComp elt [⟨tg,iter,ifs,0⟩] scope pos) scope X.env _ (newList []) false (eval iter X.env) (some (assign (.Name y py) X.env))) _ _ s
 refine z00 (thn (Q:=fun _ s'=>SP X pins DD .next s') ?_ fun _ s' hq=>z06 (z06 hq))
 refine QbD hc B hg ht he hs I (fun R r=>hi pins s σ H R I r) h fun{s4 H3 D C ys m} hn all c1 c2 c3 c4 c5 qn _=>?_
 show wpAny _ X.A (assign (.Name y py) X.env (.ref D)) _ _ s4
 refine wpAny_assign_Name (Qbn (all s4.heap (zt7 _ _)) hXN hi0 hy (show RelV (.ref D) (.ref D) from rfl) (fun s5 I5 hz=>?_) hf)
 obtain⟨a,sb,ha⟩:=hz
 refine⟨m,hn.sameBut sb fun z=>?_,fun h' sb'=>⟨_,_,I5.turned (t':=s5.toks) (it:=C) (fun b o hb e=>(sb'.2 b hb).trans e) c5 c1 (.inr c4) c2 c3,qn⟩⟩
 rcases ha with q|q
 ·exact c1 (z.trans q)
 ·exact c2 y a q z.symm
theorem QgK {X:Cx}{elt iter tg:Expr}{pos:Pos}{ifs:List Expr}{scope:Scope}{N:List Str}{ix:List (Option Nat)}{wi:TI}{g:TG}{tc:TT}{te:TE}
  (hc:X.calm=true) (B:Blk X scope N ix) (hi:PI X tg iter wi) (hg:∀pins C s H ex,PG (X.blk scope N pins C s H ex) tg g)
  (ht:∀pins C s H ex,PIf (X.blk scope N pins C s H ex) ifs tc) (he:∀pins C s H ex,PE (X.blk scope N pins C s H ex) elt te)
  (hs:∀x,foldedSetIterable iter X.env x=pure x:=by intro _;rfl):PE X (.ListComp elt [⟨tg,iter,ifs,0⟩] scope pos) (QcZ wi ix g tc te):=by
 intro pins s σ H Q I h
 rw[eval_ListComp]
 exact QbD hc B hg ht he hs I (fun R r=>hi pins s σ H R I r) h fun{s4 H3 D C ys m} hn all _ _ _ _ _ q _=>⟨m,hn,fun h' sb=>⟨.ref D,upd H3 D (.lst ys),all h' sb,rfl,q⟩⟩
section
structure QkV (d:PyData):Prop where
 sh:d.showable=true
 dp:d.depth<=40
 le:d.shown.length<=z20
theorem boot_repr:z84 "repr" = some (.builtin "repr"):=by decide +kernel
end
theorem Yn {k:Nat}:∀{ds:List PyData},(∀d∈ds,d.depth<=k)->zp9 ds<=k
 | [],_=>by simp[zp9]
 |d::ds,h=>by
  have h1:=h d (z12 ..)
  have h2:=Yn fun x hx=>h x (z09 _ hx)
  simp only[zp9]
  exact Nat.max_le.mpr ⟨h1,h2⟩
theorem Vc:∀{ds:List PyData},(∀d∈ds,d.showable=true)->zm3 ds=true
 | [],_=>by simp[zm3]
 |d::ds,h=>by
  simp only[zm3,h d (z12 ..),Vc fun x hx=>h x (z09 _ hx),zu7]
theorem Yo {B:Nat}:∀{ds:List PyData},(∀d∈ds,d.leavesShort B=true)->zk4 B ds=true
 | [],_=>by simp[zk4]
 |d::ds,h=>by
  simp only[zk4,h d (z12 ..),Yo fun x hx=>h x (z09 _ hx),zu7]
theorem Vd {k:Nat}:∀{ds:List PyData},(∀d∈ds,d.bulk<=k)->zr5 ds<=(k+1) * ds.length
 | [],_=>by simp[zr5]
 |d::ds,h=>by
  have h1:=h d (z12 ..)
  have h2:=Vd fun x hx=>h x (z09 _ hx)
  simp only[zr5,z25,Nat.mul_succ]
  omega
section
def QkW (a:Addr)(cv:Value)(dx:Option Addr:=none):HO:=.ext fun h=>∃o,h.get? a=some o/\o.cls=cv/\∀d,dx=some d->o.dict=some d/\PySem.W.notCls o=true
end
section
theorem boot_set:z84 "set" = some (.type "set"):=by decide +kernel
end
structure Sw (k b:Nat)(d:PyData):Prop where
 sh:d.showable=true
 dp:d.depth<=k
 bk:d.bulk<=b
 sl:d.leavesShort 64=true
theorem Sw.int {n:Int}(h:n.natAbs<10 ^ 62):Sw 0 0 (.int n) where
 sh:=by
  simp only[zp8]
  exact decide_eq_true (PySem.Spec.log2_small (z34 h (by decide +kernel)))
 dp:=by simp[zu4]
 bk:=by simp[zv6]
 sl:=by
  have e:=int_text_length_le10 (k:=62) (by decide) h
  simp only[zm4]
  refine decide_eq_true ?_
  show(zl5 (toString n)).length<=64
  rw[PySem.ofString_length];exact z71 e (by decide)
theorem Sw.list {k b m:Nat}{ds:List PyData}(h:∀d∈ds,Sw k b d)(hm:ds.length<=m):Sw (k+1) ((b+1) * m) (.list ds) where
 sh:=by simp only[zp8];exact Vc fun d hd=>(h d hd).sh
 dp:=by simp only[zu4];exact Nat.succ_le_succ (Yn fun d hd=>(h d hd).dp)
 bk:=by simp only[zv6];exact z71 (Vd fun d hd=>(h d hd).bk) (zy2 _ hm)
 sl:=by simp only[zm4];exact Yo fun d hd=>(h d hd).sl
theorem Sw.tuple {k b m:Nat}{ds:List PyData}(h:∀d∈ds,Sw k b d)(hm:ds.length<=m):Sw (k+1) ((b+1) * m) (.tuple ds) where
 sh:=by simp only[zp8];exact Vc fun d hd=>(h d hd).sh
 dp:=by simp only[zu4];exact Nat.succ_le_succ (Yn fun d hd=>(h d hd).dp)
 bk:=by simp only[zv6];exact z71 (Vd fun d hd=>(h d hd).bk) (zy2 _ hm)
 sl:=by simp only[zm4];exact Yo fun d hd=>(h d hd).sl
theorem Sw.shows {k b:Nat}{d:PyData}(h:Sw k b d)(hk:k<=40)(hb:b<=200000):QkV d where
 sh:=h.sh
 dp:=z71 h.dp hk
 le:=by
  have e:=PyData.shown_le_bulk 64 (by decide) d h.sl
  have:=h.bk
  have z:(64+2) * d.bulk+64<=z20:=z71 (show _<=66 * 200000+64 by omega) (by decide)
  exact z71 e z
end L2
namespace L2
open PySem PySem.Spec PyProof.Rows
def Qpk (d:Addr)(fs:List (Str×V)):HO:=.ext fun h=>∃mA,h.Ns1 d mA/\(∀f,QdF (fs.lookup f) (mA f))/\PySem.Within mA (fs.map (·.1))
end L2
namespace L2.Srt
open PySem PySem.W PyProof.Rows
structure Ord (n:Nat)(lt:Nat->Nat->Bool):Prop where
 ir:∀i,lt i i=false
 tr:∀i j k,lt i j=true->lt j k=true->lt i k=true
 to:∀i j,i<n->j<n->i≠j->lt i j=false->lt j i=true
end L2.Srt
namespace L2.Srt
open PySem PyProof.Rows
def Qiv:Bool->Keyed->Array Keyed->Nat->Nat->Nat->StateT SortSt Sem (Option Nat):=sortPriv% PySem.Builtin.gallop
def QgL:Array Keyed->Array Keyed->StateT SortSt Sem (Array Keyed):=sortPriv% PySem.Builtin.mergeLo
def QgM:Array Keyed->Array Keyed->StateT SortSt Sem (Array Keyed):=sortPriv% PySem.Builtin.mergeHi
section
variable {J:Shared->Prop}{M:Model}{A:Around}{E:Value->Shared->Prop}{α β:Type}{st:SortSt}
def wpT (J:Shared->Prop)(M:Model)(A:Around)(E:Value->Shared->Prop){α:Type}(m:StateT SortSt Sem α)(Q:α->SortSt->Prop)(st:SortSt):Prop:=
 ∀s,J s->wpAny M A (m st) (fun r s'=>J s'/\Q r.1 r.2) E s
theorem QbE {m:StateT SortSt Sem α}{Q:α->SortSt->Prop}(h:wpT J M A E m Q st){s:Shared}(hs:J s):wpAny M A (m st) (fun r s'=>J s'/\Q r.1 r.2) E s:=h s hs
theorem Qc {a:α}{Q:α->SortSt->Prop}(h:Q a st):wpT J M A E (pure a:StateT SortSt Sem α) Q st:=fun s hs=>z06 ⟨hs,h⟩
theorem Qa {m:StateT SortSt Sem α}{f:α->StateT SortSt Sem β}{Q:β->SortSt->Prop}(h:wpT J M A E m (fun a st'=>wpT J M A E (f a) Q st') st):wpT J M A E (m >>= f) Q st:=fun s hs=>
 z00 (z99 (h s hs) (fun r s' h'=>h'.2 s' h'.1) fun _ _ e=>e)
theorem Qq {m:StateT SortSt Sem α}{Q Q':α->SortSt->Prop}(h:wpT J M A E m Q st)(k:∀a st',Q a st'->Q' a st'):wpT J M A E m Q' st:=fun s hs=>
 z99 (h s hs) (fun r _ h'=>⟨h'.1,k _ _ h'.2⟩) fun _ _ e=>e
theorem Q4 {Q:SortSt->SortSt->Prop}(h:Q st st):wpT J M A E (get:StateT SortSt Sem SortSt) Q st:=fun s hs=>z06 ⟨hs,h⟩
theorem Qiw {st':SortSt}{Q:PUnit->SortSt->Prop}(h:Q ⟨⟩ st'):wpT J M A E (set st':StateT SortSt Sem PUnit) Q st:=fun s hs=>z06 ⟨hs,h⟩
theorem QF {f:SortSt->SortSt}{Q:PUnit->SortSt->Prop}(h:Q ⟨⟩ (f st)):wpT J M A E (modify f:StateT SortSt Sem PUnit) Q st:=fun s hs=>z06 ⟨hs,h⟩
theorem Yb {x:String}{Q:Unit->SortSt->Prop}(h:Q () st):wpT J M A E (liftM (rule x):StateT SortSt Sem Unit) Q st:=fun s hs=>by
 show wpAny M A (rule x >>= fun a=>pure (a,st)) _ E s
 exact z00 (zx3 (z06 ⟨hs,h⟩))
theorem Qe {c:Prop}[Decidable c]{m u:StateT SortSt Sem α}{Q:α->SortSt->Prop}(h1:c->wpT J M A E m Q st)(h2:¬c->wpT J M A E u Q st):wpT J M A E (if c then m else u) Q st:=by
 by_cases h:c
 ·rw[if_pos h];exact h1 h
 ·rw[if_neg h];exact h2 h
theorem Qc0 (f:Nat->β->StateT SortSt Sem (ForInStep β))(I:Nat->β->SortSt->Prop)(Q:β->SortSt->Prop)(b0:Nat)
  (step:∀i c st,i<b0->I i c st->wpT J M A E (f i c) (fun r st'=>match r with|.done c'=>Q c' st'|.yield c'=>I (i+1) c' st') st) (fin:∀c st,I b0 c st->Q c st) :
  ∀(n i:Nat) (c:β) (st:SortSt),i+n=b0->I i c st->wpT J M A E (forIn (zm7 i n 1) c f) Q st:=fun n=>by
 induction n with
 |zero=>intro i c st e h;have:i=b0:=e;subst this;rw[List.range'_zero,List.forIn_nil];exact Qc (fin _ _ h)
 |succ n ih=>
  intro i c st e h
  rw[zh4,zs0]
  refine Qa (Qq (step i c st (by omega) h) fun r st' h'=>?_)
  cases r with
  |done c'=>exact Qc h'
  |yield c'=>exact ih (i+1) c' st' (by omega) h'
theorem QX {b0:Nat}{f:Nat->β->StateT SortSt Sem (ForInStep β)}(I:Nat->β->SortSt->Prop){Q:β->SortSt->Prop}
  (step:∀i c st,i<b0->I i c st->wpT J M A E (f i c) (fun r st'=>match r with|.done c'=>Q c' st'|.yield c'=>I (i+1) c' st') st)
  (fin:∀c st,I b0 c st->Q c st) {c:β} (h:I 0 c st):wpT J M A E (forIn [:b0] c f) Q st:=by
 rw[z86]
 have hsz:([:b0]:zi3).size=b0:=by simp[zf3]
 show wpT J M A E (forIn (zm7 0 ([:b0]:zi3).size 1) c f) Q st
 rw[hsz]
 exact Qc0 f I Q b0 step fin b0 0 c st (by omega) h
theorem QaJ {a b0:Nat}(hab:a<=b0){f:Nat->β->StateT SortSt Sem (ForInStep β)}(I:Nat->β->SortSt->Prop){Q:β->SortSt->Prop}
  (step:∀i c st,a<=i->i<b0->I i c st->wpT J M A E (f i c) (fun r st'=>match r with|.done c'=>Q c' st'|.yield c'=>I (i+1) c' st') st)
  (fin:∀c st,I b0 c st->Q c st) {c:β} (h:I a c st):wpT J M A E (forIn [a:b0] c f) Q st:=by
 rw[z86]
 have hsz:([a:b0]:zi3).size=b0 - a:=by simp[zf3]
 show wpT J M A E (forIn (zm7 a ([a:b0]:zi3).size 1) c f) Q st
 rw[hsz]
 refine Qc0 f (fun i c st=>a<=i/\I i c st) Q b0 (fun i c st hi h=>Qq (step i c st h.1 hi h.2) fun r st' h'=>?_) (fun c st h=>fin c st h.2) (b0 - a) a c st (by omega) ⟨z18 _,h⟩
 cases r with
 |done c'=>exact h'
 |yield c'=>exact⟨by omega,h'⟩
end
structure Od (U:Keyed->Prop)(L:Keyed->Keyed->Bool):Prop where
 tr:∀x y z,L x y=true->L y z=true->L x z=true
 ir:∀x,L x x=false
 to:∀x y,U x->U y->x≠y->L x y=false->L y x=true
abbrev Sd (L:Keyed->Keyed->Bool)(l:List Keyed):Prop:=l.Pairwise fun x y=>L x y=true
abbrev H (a:Array Keyed)(i:Nat):Keyed:=a.getD i (z43,z43)
theorem QdN {a:Array Keyed}{i:Nat}(h:i<a.size):a[i]? = some (H a i):=by
 rw[H,z24,z11 h];rfl
def Ask (J:Shared->Prop)(M:Model)(A:Around)(E:Value->Shared->Prop)(κ:SortKind)(U:Keyed->Prop)(L:Keyed->Keyed->Bool):Prop:=
 ∀x y st (Q:Option Bool->SortSt->Prop),kindOf st=κ->U x->U y->Q (some (L x y)) st->wpT J M A E (lt' x y) Q st
section
variable {J:Shared->Prop}{M:Model}{A:Around}{E:Value->Shared->Prop}{st:SortSt}{κ:SortKind}{U:Keyed->Prop}{L:Keyed->Keyed->Bool}
theorem Qj {a:Array Keyed}{i:Nat}{Q:Keyed->SortSt->Prop}(h:i<a.size)(q:Q (H a i) st):wpT J M A E (elem' a i) Q st:=by
 rw[elem'_eq,QdN h];exact Qc q
structure Mg (L:Keyed->Keyed->Bool)(T O A1 B1:List Keyed):Prop where
 pm:(O++(A1++B1)).Perm T
 so:Sd L O
 oa:∀x∈O,∀y∈A1,L x y=true
 ob:∀x∈O,∀y∈B1,L x y=true
 sa:Sd L A1
 sb:Sd L B1
variable {T O A1 A2 B1 B2 P:List Keyed}{x:Keyed}
theorem Mg.mvA (m:Mg L T O (P++A2) B1)(h:∀x∈P,∀y∈B1,L x y=true):Mg L T (O++P) A2 B1:=by
 obtain⟨s1,s2,s3⟩:=z36.mp m.sa
 refine⟨?_,z36.mpr ⟨m.so,s1,fun x hx y hy=>m.oa x hx y (z08 _ hy)⟩,fun x hx y hy=>?_,fun x hx y hy=>?_,s2,m.sb⟩
 ·have:=m.pm
  rw[z15] at this ⊢
  exact this
 ·rcases z04.mp hx with hx|hx
  ·exact m.oa x hx y (z01 _ hy)
  ·exact s3 x hx y hy
 ·rcases z04.mp hx with hx|hx
  ·exact m.ob x hx y hy
  ·exact h x hx y hy
theorem Mg.mvB (m:Mg L T O A1 (P++B2))(h:∀x∈P,∀y∈A1,L x y=true):Mg L T (O++P) A1 B2:=by
 obtain⟨s1,s2,s3⟩:=z36.mp m.sb
 refine⟨?_,z36.mpr ⟨m.so,s1,fun x hx y hy=>m.ob x hx y (z08 _ hy)⟩,fun x hx y hy=>?_,fun x hx y hy=>?_,m.sa,s2⟩
 ·refine zj5 ?_ m.pm
  rw[z15]
  refine zd2 O ?_
  rw[← z15,← z15]
  exact List.Perm.append_right _ zd6
 ·rcases z04.mp hx with hx|hx
  ·exact m.oa x hx y hy
  ·exact h x hx y hy
 ·rcases z04.mp hx with hx|hx
  ·exact m.ob x hx y (z01 _ hy)
  ·exact s3 x hx y hy
theorem Mg.Qpl (m:Mg L T O A1 []):(O++A1).Perm T/\Sd L (O++A1):=by
 refine⟨?_,z36.mpr ⟨m.so,m.sa,m.oa⟩⟩
 have:=m.pm
 rw[z61] at this;exact this
theorem Mg.Qpm (m:Mg L T O [] B1):(O++B1).Perm T/\Sd L (O++B1):=⟨m.pm,z36.mpr ⟨m.so,m.sb,m.ob⟩⟩
theorem Mg.Qpn (m:Mg L T O [x] B1)(h:∀y∈B1,L y x=true):(O++B1++[x]).Perm T/\Sd L (O++B1++[x]):=by
 refine⟨?_,?_⟩
 ·refine zj5 ?_ m.pm
  rw[z15]
  exact zd2 O zd6
 ·rw[z15]
  exact z36.mpr ⟨m.so,z36.mpr ⟨m.sb,z66.mpr ⟨(fun _ z=>nomatch z),.nil⟩,fun y hy z hz=>by rw[z19.mp hz];exact h y hy⟩,fun y hy z hz=>by
   rcases z04.mp hz with hz|hz
   ·exact m.ob y hy z hz
   ·exact m.oa y hy z hz⟩
def bey (L:Keyed->Keyed->Bool)(left:Bool)(key:Keyed)(a:Array Keyed)(b i:Nat):Bool:=if left=true then L (H a (b+i)) key else !(L key (H a (b+i)))
theorem Qc1 {n:Nat}{g:Nat->Bool}{f:Nat->Option (Option Nat)×Nat×Nat->StateT SortSt Sem (ForInStep (Option (Option Nat)×Nat×Nat))}(mono:∀i j,i<=j->j<n->g j=true->g i=true)
  (hf:∀x lo hi (R:ForInStep (Option (Option Nat)×Nat×Nat)->SortSt->Prop),lo<hi->hi<=n->R (if g (lo+(hi - lo) / 2)=true then .yield (none,lo+(hi - lo) / 2+1,hi) else .yield (none,lo,lo+(hi - lo) / 2)) st->wpT J M A E (f x (none,lo,hi)) R st)
  (hf2:∀x lo hi (R:ForInStep (Option (Option Nat)×Nat×Nat)->SortSt->Prop),lo ≥ hi->R (.done (none,lo,hi)) st->wpT J M A E (f x (none,lo,hi)) R st)
  {lo hi:Nat} (h1:lo<=hi) (h2:hi<=n) (h3:∀i<lo,g i=true) (h4:∀i,hi<=i->i<n->g i=false) :
  wpT J M A E (forIn [:n] (none,lo,hi) f) (fun c st'=>∃k,c=(none,k,k)/\st'=st/\k<=n/\(∀i<k,g i=true)/\(∀i,k<=i->i<n->g i=false)) st:=by
 refine QX (I:=fun x c st'=>∃lo hi,c=(none,lo,hi)/\st'=st/\lo<=hi/\hi<=n/\hi - lo<=n - x/\(∀i<lo,g i=true)/\(∀i,hi<=i->i<n->g i=false)) ?_ ?_ ⟨lo,hi,rfl,rfl,h1,h2,by omega,h3,h4⟩
 ·rintro x c st' hx ⟨lo,hi,rfl,rfl,g1,g2,g3,g4,g5⟩
  by_cases c:lo ≥ hi
  ·have:lo=hi:=by omega
   subst this
   exact hf2 x lo lo _ c ⟨lo,rfl,rfl,g2,g4,g5⟩
  ·refine hf x lo hi _ (by omega) g2 ?_
   cases e:g (lo+(hi - lo) / 2) with
   |true=>exact⟨_,hi,rfl,rfl,by omega,g2,by omega,fun i hi'=>mono i _ (by omega) (by omega) e,g5⟩
   |false=>
    refine⟨lo,_,rfl,rfl,by omega,by omega,by omega,g4,fun i i1 i2=>?_⟩
    cases e2:g i with
    |false=>rfl
    |true=>rw[mono _ i i1 i2 e2] at e;cases e
 ·rintro c st' ⟨lo,hi,rfl,rfl,g1,g2,g3,g4,g5⟩
  have:lo=hi:=by omega
  subst this
  exact⟨lo,rfl,rfl,g2,g4,g5⟩
theorem QS (ask:Ask J M A E κ U L){left:Bool}{key:Keyed}{a:Array Keyed}{b n h:Nat}{Q:Option Nat->SortSt->Prop}(hk:kindOf st=κ)(uk:U key)(ua:∀i<n,U (H a (b+i)))(hn:h<n)(hb:b+n<=a.size)
  (mono:∀i j,i<=j->j<n->bey L left key a b j=true->bey L left key a b i=true)
  (K:∀k,k<=n->(∀i<k,bey L left key a b i=true)->(∀i,k<=i->i<n->bey L left key a b i=false)->Q (some k) st):wpT J M A E (Qiv left key a b n h) Q st:=by
 intro s hs
 wp_delta
 wp_delta
 refine QbE ?_ hs
 have by_:∀{i:Nat} {R:Option Bool->SortSt->Prop},i<n->R (some (bey L left key a b i)) st->wpT J M A E (do
   let x ← elem' a (b+i)
   if left=true then lt' x key else do
    let r ← lt' key x
    pure (zx4 (fun x=>!x) r)) R st:=fun{i R} hi r=>by
  refine Qa (Qj (by omega) ?_)
  unfold bey at r
  cases left with
  |true=>rw[if_pos rfl];exact ask _ _ _ _ hk (ua i hi) uk r
  |false=>rw[if_neg (by decide)];exact Qa (ask _ _ _ _ hk uk (ua i hi) (Qc r))
 refine Qa (by_ hn ?_)
 dsimp only
 cases e0:bey L left key a b h with
 |true=>
  rw[if_pos rfl]
  refine Qa (Qq (QX (I:=fun x c st'=>∃lf f,c=(none,lf,f)/\st'=st/\lf<f/\x+1<=f/\h+lf<n/\bey L left key a b (h+lf)=true)
   (Q:=fun c st'=>∃lf f,c=(none,lf,f)/\st'=st/\lf<f/\h+lf<n/\bey L left key a b (h+lf)=true/\(n - h<=f\/bey L left key a b (h+f)=false)) ?_ ?_ ⟨0,1,rfl,rfl,by omega,by omega,by omega,e0⟩) ?_)
  ·rintro x c st' hx ⟨lf,f,rfl,rfl,g1,g2,g3,g4⟩
   dsimp only
   refine Qe (fun c=>Qc ⟨lf,f,rfl,rfl,g1,g3,g4,.inl c⟩) (fun c=>?_)
   refine Qa (by_ (i:=h+f) (by omega) ?_)
   cases e:bey L left key a b (h+f) with
   |true=>exact Qc ⟨f,_,rfl,rfl,by omega,by omega,by omega,e⟩
   |false=>exact Qc ⟨lf,f,rfl,rfl,g1,g3,g4,.inr e⟩
  ·rintro c st' ⟨lf,f,rfl,rfl,g1,g2,g3,g4⟩
   exact⟨lf,f,rfl,rfl,g1,g3,g4,.inl (by omega)⟩
  ·rintro c st' ⟨lf,f,rfl,rfl,g1,g3,g4,g5⟩
   refine Qa (Qq (Qc1 (g:=bey L left key a b) mono (fun x lo hi R l1 l2 r=>by
     dsimp only
     rw[if_neg (by omega)]
     refine Qa (by_ (by omega) ?_)
     cases e:bey L left key a b (lo+(hi - lo) / 2) with
     |true=>rw[e,if_pos rfl] at r;exact Qc r
     |false=>rw[e,if_neg (by decide)] at r;exact Qc r) (fun x lo hi R l1 r=>by
     dsimp only
     rw[if_pos l1];exact Qc r) (lo:=h+lf+1) (hi:=h+min f (n - h)) (by omega) (by omega) (fun i hi=>mono i (h+lf) (by omega) g3 g4) (fun i i1 i2=>?_)) fun c st' q=>by
    obtain⟨k,rfl,rfl,g1,g2,g3⟩:=q
    exact Qc (K k g1 g2 g3))
   rcases g5 with g5|g5
   ·omega
   ·cases e2:bey L left key a b i with
    |false=>rfl
    |true=>rw[mono (h+f) i (by omega) i2 e2] at g5;cases g5
 |false=>
  rw[if_neg (by decide)]
  refine Qa (Qq (QX (I:=fun x c st'=>∃lf f,c=(none,lf,f)/\st'=st/\lf<f/\x+1<=f/\lf<=h/\bey L left key a b (h - lf)=false)
   (Q:=fun c st'=>∃lf f,c=(none,lf,f)/\st'=st/\lf<f/\lf<=h/\bey L left key a b (h - lf)=false/\(h+1<=f\/(f<=h/\bey L left key a b (h - f)=true))) ?_ ?_ ⟨0,1,rfl,rfl,by omega,by omega,by omega,e0⟩) ?_)
  ·rintro x c st' hx ⟨lf,f,rfl,rfl,g1,g2,g3,g4⟩
   dsimp only
   refine Qe (fun c=>Qc ⟨lf,f,rfl,rfl,g1,g3,g4,.inl c⟩) (fun c=>?_)
   refine Qa (by_ (i:=h - f) (by omega) ?_)
   cases e:bey L left key a b (h - f) with
   |true=>exact Qc ⟨lf,f,rfl,rfl,g1,g3,g4,.inr ⟨by omega,e⟩⟩
   |false=>exact Qc ⟨f,_,rfl,rfl,by omega,by omega,by omega,e⟩
  ·rintro c st' ⟨lf,f,rfl,rfl,g1,g2,g3,g4⟩
   exact⟨lf,f,rfl,rfl,g1,g3,g4,.inl (by omega)⟩
  ·rintro c st' ⟨lf,f,rfl,rfl,g1,g3,g4,g5⟩
   refine Qa (Qq (Qc1 (g:=bey L left key a b) mono (fun x lo hi R l1 l2 r=>by
     dsimp only
     rw[if_neg (by omega)]
     refine Qa (by_ (by omega) ?_)
     cases e:bey L left key a b (lo+(hi - lo) / 2) with
     |true=>rw[e,if_pos rfl] at r;exact Qc r
     |false=>rw[e,if_neg (by decide)] at r;exact Qc r) (fun x lo hi R l1 r=>by
     dsimp only
     rw[if_pos l1];exact Qc r) (lo:=h+1 - min f (h+1)) (hi:=h - lf) (by omega) (by omega) (fun i hi=>?_) (fun i i1 i2=>?_)) fun c st' q=>by
    obtain⟨k,rfl,rfl,g1,g2,g3⟩:=q
    exact Qc (K k g1 g2 g3))
   ·rcases g5 with g5|⟨g5,g6⟩
    ·omega
    ·exact mono i (h - f) (by omega) (by omega) g6
   ·cases e2:bey L left key a b i with
    |false=>rfl
    |true=>rw[mono (h - lf) i i1 i2 e2] at g4;cases g4
end
def QnZ:Nat->StateT SortSt Sem Unit:=sortPriv% PySem.Builtin.setMinGallop
structure Ev (st st':SortSt):Prop where
 k:kindOf st'=kindOf st
 a:arrOf st'=arrOf st
 p:pendingOf st'=pendingOf st
 f:failedOf st'=failedOf st
theorem Ev.refl (st:SortSt):Ev st st:=⟨rfl,rfl,rfl,rfl⟩
theorem Ev.trans {s t u:SortSt}(h:Ev s t)(k:Ev t u):Ev s u:=⟨k.k.trans h.k,k.a.trans h.a,k.p.trans h.p,k.f.trans h.f⟩
section
variable {J:Shared->Prop}{M:Model}{A:Around}{E:Value->Shared->Prop}{st:SortSt}{κ:SortKind}{U:Keyed->Prop}{L:Keyed->Keyed->Bool}{a b:Array Keyed}
theorem Vx {g:Nat}{Q:Unit->SortSt->Prop}(h:∀st',Ev st st'->Q () st'):wpT J M A E (QnZ g) Q st:=by
 intro s hs
 wp_delta
 wp_delta
 exact z06 ⟨hs,h _ ⟨rfl,rfl,rfl,rfl⟩⟩
theorem Q5 {i:Nat}(h:i<a.size):H a i∈a.toList:=by
 have:=QdN h
 rw[← z13] at this
 exact z56 this
theorem Qc2 {i:Nat}(h:i<a.size):a.toList.drop i=H a i::a.toList.drop (i+1):=by
 have e:=QdN h
 rw[z11 h] at e
 rw[z93 (by simpa using h),← z27 e];simp
theorem QhB (s:Sd L a.toList){i j:Nat}(h:i<j)(hj:j<a.size):L (H a i) (H a j)=true:=by
 have e1:=QdN (show i<a.size by omega)
 have e2:=QdN hj
 rw[z11 (by omega)] at e1 e2
 rw[← z27 e1,← z27 e2]
 have:=z77.mp s i j (by simpa using(show i<a.size by omega)) (by simpa using hj) h
 simpa using this
theorem Yc {i:Nat}{y:Keyed}(hy:y∈a.toList.drop i):∃j,i<=j/\j<a.size/\y=H a j:=by
 obtain⟨k,hk,e⟩:=zh9 hy
 rw[List.getElem_drop] at e
 have hl:i+k<a.size:=by rw[z96] at hk;simp at hk;omega
 refine⟨i+k,by omega,hl,?_⟩
 have e1:=QdN hl
 rw[z11 hl] at e1
 rw[← z27 e1,← e];simp
theorem Ve (o:Od U L)(s:Sd L a.toList){i:Nat}{x:Keyed}(h:L x (H a i)=true):∀y∈a.toList.drop i,L x y=true:=fun y hy=>by
 obtain⟨j,h1,h2,rfl⟩:=Yc hy
 by_cases e:i=j
 ·subst e;exact h
 ·exact o.tr _ _ _ h (QhB s (by omega) h2)
theorem Qc3 {i k:Nat}(h:i+k<=a.size):a.toList.drop i=(a.extract i (i+k)).toList++a.toList.drop (i+k):=by
 rw[z74,z63,← List.drop_drop,za0,z44]
theorem QaK {i:Nat}:(a.extract i).toList=a.toList.drop i:=by
 rw[z74,z63,z76]
 rw[z96];simp
theorem QeH {i k:Nat}{y:Keyed}(h:i+k<=a.size)(hy:y∈(a.extract i (i+k)).toList):∃j,j<k/\y=H a (i+j):=by
 obtain⟨j,hj,e⟩:=zh9 hy
 have hl:j<k:=by simp at hj;omega
 refine⟨j,hl,?_⟩
 have e1:=QdN (show i+j<a.size by omega)
 rw[z11 (by omega)] at e1
 rw[← z27 e1,← e];simp
theorem QeI (o:Od U L)(s:Sd L a.toList){key:Keyed}{i n:Nat}(hn:i+n<=a.size):∀u v,u<=v->v<n->bey L false key a i v=true->bey L false key a i u=true:=fun u v h1 h2 h=>by
 unfold bey at h ⊢
 rw[if_neg (by decide)] at h ⊢
 by_cases e:u=v
 ·subst e;exact h
 ·cases c:L key (H a (i+u)) with
  |false=>rfl
  |true=>rw[o.tr _ _ _ c (QhB s (show i+u<i+v by omega) (by omega))] at h;cases h
theorem QbF (o:Od U L)(s:Sd L a.toList){key:Keyed}{i n:Nat}(hn:i+n<=a.size):∀u v,u<=v->v<n->bey L true key a i v=true->bey L true key a i u=true:=fun u v h1 h2 h=>by
 unfold bey at h ⊢
 rw[if_pos rfl] at h ⊢
 by_cases e:u=v
 ·subst e;exact h
 ·exact o.tr _ _ _ (QhB s (show i+u<i+v by omega) (by omega)) h
variable {T O:List Keyed}{i j:Nat}
structure Two (U:Keyed->Prop)(L:Keyed->Keyed->Bool)(a b:Array Keyed):Prop where
 sa:Sd L a.toList
 sb:Sd L b.toList
 ua:∀x∈a.toList,U x
 ub:∀x∈b.toList,U x
 ne:∀x∈a.toList,∀y∈b.toList,x≠y
theorem Mg.QgN (o:Od U L)(t:Two U L a b)(m:Mg L T O (a.toList.drop i) (b.toList.drop j))(hj:j<b.size)(h:L (H b j) (H a i)=true):Mg L T (O++[H b j]) (a.toList.drop i) (b.toList.drop (j+1)):=by
 rw[Qc2 hj] at m
 exact Mg.mvB (P:=[H b j]) m fun x hx=>by rw[z19.mp hx];exact Ve o t.sa h
theorem Mg.QeJ (o:Od U L)(t:Two U L a b)(m:Mg L T O (a.toList.drop i) (b.toList.drop j))(hi:i<a.size)(h:L (H a i) (H b j)=true):Mg L T (O++[H a i]) (a.toList.drop (i+1)) (b.toList.drop j):=by
 rw[Qc2 hi] at m
 exact Mg.mvA (P:=[H a i]) m fun x hx=>by rw[z19.mp hx];exact Ve o t.sb h
theorem Two.flip (o:Od U L)(t:Two U L a b)(hi:i<a.size)(hj:j<b.size)(h:L (H b j) (H a i)=false):L (H a i) (H b j)=true:=
 o.to _ _ (t.ub _ (Q5 hj)) (t.ua _ (Q5 hi)) (zg0 (t.ne _ (Q5 hi) _ (Q5 hj))) h
theorem Mg.Qqb (o:Od U L)(t:Two U L a b)(m:Mg L T O (a.toList.drop i) (b.toList.drop j))(hj:j<b.size){k:Nat}(hk:i+k<=a.size)(h:∀u<k,bey L false (H b j) a i u=true):Mg L T (O++(a.extract i (i+k)).toList) (a.toList.drop (i+k)) (b.toList.drop j):=by
 rw[Qc3 hk] at m
 refine Mg.mvA m fun x hx=>?_
 obtain⟨u,hu,rfl⟩:=QeH hk hx
 have:=h u hu
 unfold bey at this
 rw[if_neg (by decide)] at this
 exact Ve o t.sb (t.flip o (by omega) hj (by simpa using this))
theorem Mg.Qpo (o:Od U L)(t:Two U L a b)(m:Mg L T O (a.toList.drop i) (b.toList.drop j)){k:Nat}(hk:j+k<=b.size)(h:∀u<k,bey L true (H a i) b j u=true):Mg L T (O++(b.extract j (j+k)).toList) (a.toList.drop i) (b.toList.drop (j+k)):=by
 rw[Qc3 hk] at m
 refine Mg.mvB m fun x hx=>?_
 obtain⟨u,hu,rfl⟩:=QeH hk hx
 have:=h u hu
 unfold bey at this
 rw[if_pos rfl] at this
 exact Ve o t.sa this
theorem Mg.len {out:Array Keyed}(m:Mg L (a.toList++b.toList) out.toList (a.toList.drop i) (b.toList.drop j))(hi:i<=a.size)(hj:j<=b.size):out.size+(a.size - i)+(b.size - j)=a.size+b.size:=by
 have:=m.pm.length_eq
 rw[z10,z10,z10,z96,z96] at this
 simp at this
 omega
def Gd (L:Keyed->Keyed->Bool)(a b r:Array Keyed):Prop:=r.toList.Perm (a.toList++b.toList)/\Sd L r.toList
theorem Mg.done {out:Array Keyed}(m:Mg L (a.toList++b.toList) out.toList (a.toList.drop i) (b.toList.drop j))(h:i=a.size\/j=b.size):Gd L a b (out++a.extract i++b.extract j):=by
 unfold Gd
 rw[z52,z52,QaK,QaK]
 rcases h with rfl|rfl
 ·have e:a.toList.drop a.size=[]:=zg8 (by simp)
  rw[e] at m ⊢
  rw[z61];exact m.Qpm
 ·have e:b.toList.drop b.size=[]:=zg8 (by simp)
  rw[e] at m ⊢
  rw[z61];exact m.Qpl
theorem Mg.last {out:Array Keyed}(m:Mg L (a.toList++b.toList) out.toList (a.toList.drop i) (b.toList.drop j))(h:i+1=a.size)(hl:∀y∈b.toList,L y (H a (a.size - 1))=true):Gd L a b (out++b.extract j++a.extract i):=by
 unfold Gd
 rw[z52,z52,QaK,QaK]
 have e:a.toList.drop i=[H a i]:=by
  rw[Qc2 (by omega),h]
  rw[zg8 (by simp)]
 rw[e] at m ⊢
 refine m.Qpn fun y hy=>?_
 have:=hl y (zb4 hy)
 rw[show a.size - 1=i by omega] at this
 exact this
theorem QhC {α β:Type}{c:Prop}[Decidable c]{B:β->StateT SortSt Sem α}{y:β}{p:β->Prop}{Q:α->SortSt->Prop}(h:∀v,wpT J M A E (B v) Q st):∀x,p x->wpT J M A E (if c then B x else B y) Q st:=fun x _=>Qe (fun _=>h x) (fun _=>h y)
theorem Qcr (ask:Ask J M A E κ U L)(o:Od U L){Q:Array Keyed->SortSt->Prop}(hk:kindOf st=κ)(t:Two U L a b)(na:0<a.size)(nb:0<b.size)(hb:L (H b 0) (H a 0)=true)(hl:∀y∈b.toList,L y (H a (a.size - 1))=true)
  (K:∀r st',Ev st st'->Gd L a b r->Q r st'):wpT J M A E (QgL a b) Q st:=by
 intro s hs
 wp_delta
 wp_delta
 refine QbE ?_ hs
 refine Qa (Yb ?_)
 refine Qa (Qj nb ?_)
 have m0:Mg L (a.toList++b.toList) [] (a.toList.drop 0) (b.toList.drop 0):=⟨ze0 _,.nil,(fun _ z=>nomatch z),(fun _ z=>nomatch z),t.sa,t.sb⟩
 have m1:Mg L (a.toList++b.toList) (#[H b 0]:Array Keyed).toList (a.toList.drop 0) (b.toList.drop 1):=m0.QgN o t nb hb
 refine Qe (fun c=>Qc (K _ _ (.refl _) (m1.done (.inr (by simpa using c))))) (fun c1=>?_)
 refine Qe (fun c=>Qc (K _ _ (.refl _) (m1.last (by simpa using c) hl))) (fun c2=>?_)
 have c1:¬ 1=b.size:=by simpa using c1
 have c2:¬ 0+1=a.size:=by simpa using c2
 refine Qa (Q4 ?_)
 refine Qa (Qq (QX (I:=fun x c st'=>∃out i j g,c=(none,out,i,j,g)/\Ev st st'/\i+1<a.size/\j<b.size/\x+1<=out.size/\Mg L (a.toList++b.toList) out.toList (a.toList.drop i) (b.toList.drop j))
  (Q:=fun c st'=>∃r w,c=(some r,w)/\Ev st st'/\Gd L a b r) ?_ ?_ ⟨_,0,1,_,rfl,.refl _,by omega,by omega,by simp,m1⟩) ?_)
 ·rintro x c st1 hx ⟨Yp,i,j,g,rfl,ev,hi,hj,hx1,m⟩
  dsimp only
  refine Qa (Qq (QX (I:=fun y c st'=>∃out i j ac bc,c=(none,out,i,j,ac,bc)/\Ev st st'/\i+1<a.size/\j<b.size/\Yp.size<=out.size/\Mg L (a.toList++b.toList) out.toList (a.toList.drop i) (b.toList.drop j))
   (Q:=fun c st'=>(∃r w,c=(some r,w)/\Ev st st'/\Gd L a b r)\/∃out i j ac bc,c=(none,out,i,j,ac,bc)/\Ev st st'/\i+1<a.size/\j<b.size/\Yp.size<=out.size/\Mg L (a.toList++b.toList) out.toList (a.toList.drop i) (b.toList.drop j)) ?_ ?_ ⟨_,i,j,0,0,rfl,ev,hi,hj,z18 _,m⟩) ?_)
  ·rintro y c st2 hy ⟨out,i,j,ac,bc,rfl,ev,hi,hj,ho,m⟩
   dsimp only
   refine Qa (Qj hj (Qa (Qj (by omega) (Qa (ask _ _ _ _ (ev.k.trans hk) (t.ub _ (Q5 hj)) (t.ua _ (Q5 (by omega))) ?_)))))
   cases e:L (H b j) (H a i) with
   |true=>
    dsimp only
    rw[if_pos rfl]
    refine Qa (Qj hj ?_)
    have m2:=m.QgN o t hj e
    rw[← z40] at m2
    refine Qe (fun c=>Qc (.inl ⟨_,_,rfl,ev,m2.done (.inr (by simpa using c))⟩)) (fun c=>?_)
    have c:¬ j+1=b.size:=by simpa using c
    have hs:Yp.size<=(out.push (H b j)).size:=by rw[z54];omega
    refine Qe (fun _=>Qc (.inr ⟨_,i,j+1,_,_,rfl,ev,hi,by omega,hs,m2⟩)) (fun _=>Qc ⟨_,i,j+1,_,_,rfl,ev,hi,by omega,hs,m2⟩)
   |false=>
    dsimp only
    rw[if_neg (by decide)]
    refine Qa (Qj (by omega) ?_)
    have m2:=m.QeJ o t (by omega) (t.flip o (by omega) hj e)
    rw[← z40] at m2
    refine Qe (fun c=>Qc (.inl ⟨_,_,rfl,ev,m2.last (by simpa using c) hl⟩)) (fun c=>?_)
    have c:¬ i+1+1=a.size:=by simpa using c
    have hs:Yp.size<=(out.push (H a i)).size:=by rw[z54];omega
    refine Qe (fun _=>Qc (.inr ⟨_,i+1,j,_,_,rfl,ev,by omega,hj,hs,m2⟩)) (fun _=>Qc ⟨_,i+1,j,_,_,rfl,ev,by omega,hj,hs,m2⟩)
  ·rintro c st2 h
   exact .inr h
  rintro c st2 (⟨r,w,rfl,ev,gd⟩|⟨out,i,j,ac,bc,rfl,ev,hi,hj,ho,m⟩)
  ·exact Qc ⟨r,_,rfl,ev,gd⟩
  dsimp only
  refine Qa (Yb ?_)
  refine Qa (Qq (QX (I:=fun y c st'=>∃out i j g ac bc,c=(none,out,i,j,g,ac,bc)/\Ev st st'/\i+1<a.size/\j<b.size/\Yp.size+y<=out.size/\Mg L (a.toList++b.toList) out.toList (a.toList.drop i) (b.toList.drop j))
   (Q:=fun c st'=>(∃r w,c=(some r,w)/\Ev st st'/\Gd L a b r)\/∃out i j g ac bc,c=(none,out,i,j,g,ac,bc)/\Ev st st'/\i+1<a.size/\j<b.size/\Yp.size+1<=out.size/\Mg L (a.toList++b.toList) out.toList (a.toList.drop i) (b.toList.drop j)) ?_ ?_ ⟨_,i,j,_,ac,bc,rfl,ev,hi,hj,ho,m⟩) ?_)
  ·rintro y c st3 hy ⟨out,i,j,g,ac,bc,rfl,ev,hi,hj,ho,m⟩
   dsimp only
   generalize hx:g - 1=x1
   revert x1
   refine QhC fun v=>?_
   all_goals
    refine Qa (Vx fun st4 ev4=>?_)
    have ev:=ev.trans ev4
    clear ev4
    refine Qa (Qj hj ?_)
    refine Qa (QS ask (ev.k.trans hk) (t.ub _ (Q5 hj)) (fun u hu=>t.ua _ (Q5 (by omega))) (by omega) (by omega) (QeI o t.sa (by omega)) fun k k1 k2 k3=>?_)
    have m2:Mg L (a.toList++b.toList) (out++a.extract i (i+k)).toList (a.toList.drop (i+k)) (b.toList.drop j):=by
     rw[z52 (xs:=out)];exact m.Qqb o t hj (k:=k) (by omega) k2
    have hs2:(out++a.extract i (i+k)).size=out.size+k:=by rw[ze1,Array.size_extract];omega
    have hq:i+k<a.size->L (H b j) (H a (i+k))=true:=fun h=>by
     have:=k3 k (z18 _) (by omega)
     unfold bey at this
     rw[if_neg (by decide)] at this
     simpa using this
    refine Qe (fun k0=>Qe (fun c=>Qc (.inl ⟨_,_,rfl,ev,m2.last (by simpa using c) hl⟩)) (fun c=>Qe (fun c=>Qc (.inl ⟨_,_,rfl,ev,m2.done (.inl (by simpa using c))⟩)) (fun c'=>?_))) (fun k0=>?_)
    rotate_left
    ·have k0:k=0:=by omega
     subst k0
     have hc:=hq (show i+0<a.size by omega)
     rw[Nat.add_zero] at hc
     refine Qa (Qj hj ?_)
     have n1:=Mg.QgN o t m hj hc
     rw[← z40] at n1
     have z1:Yp.size+y+1<=(out.push (H b j)).size:=by rw[z54];have:=ho;omega
     refine Qe (fun c=>Qc (.inl ⟨_,_,rfl,ev,n1.done (.inr (by simpa using c))⟩)) (fun c=>?_)
     have hj1:j+1<b.size:=by
      have c:¬ j+1=b.size:=by simpa using c
      omega
     clear c
     generalize out.push (H b j)=V1 at n1 z1 ⊢
     refine Qa (Qj (by omega) ?_)
     refine Qa (QS ask (ev.k.trans hk) (t.ua _ (Q5 (by omega))) (fun u hu=>t.ub _ (Q5 (by omega))) (by omega) (by omega) (QbF o t.sb (by omega)) fun k' q1 q2 q3=>?_)
     have n2:Mg L (a.toList++b.toList) (V1++b.extract (j+1) (j+1+k')).toList (a.toList.drop i) (b.toList.drop (j+1+k')):=by
      rw[z52 (xs:=V1)];exact n1.Qpo o t (k:=k') (by omega) q2
     have z2:Yp.size+y+1<=(V1++b.extract (j+1) (j+1+k')).size:=by rw[ze1];omega
     have hq2:j+1+k' < b.size->L (H a i) (H b (j+1+k'))=true:=fun h=>by
      have:=q3 k' (z18 _) (by omega)
      unfold bey at this
      rw[if_pos rfl] at this
      exact t.flip o (by omega) h this
     refine Qe (fun k1=>Qe (fun c=>Qc (.inl ⟨_,_,rfl,ev,n2.done (.inr (by simpa using c))⟩)) (fun c=>?_)) (fun k1=>?_)
     ·have hj2:j+1+k' < b.size:=by
       have c:¬ j+1+k'=b.size:=by simpa using c
       omega
      have hc2:=hq2 hj2
      generalize V1++b.extract (j+1) (j+1+k')=Qix at n2 z2 ⊢
      generalize j+1+k'=j3 at n2 hj2 hc2 ⊢
      refine Qa (Qj (by omega) ?_)
      have n3:=n2.QeJ o t (by omega) hc2
      rw[← z40] at n3
      refine Qe (fun c=>Qc (.inl ⟨_,_,rfl,ev,n3.last (by simpa using c) hl⟩)) (fun c=>?_)
      have c:¬ i+1+1=a.size:=by simpa using c
      have z3:Yp.size+y+1<=(Qix.push (H a i)).size:=by rw[z54];omega
      exact Qe (fun _=>Qc (.inr ⟨_,_,_,_,_,_,rfl,ev,by omega,hj2,by omega,n3⟩)) (fun _=>Qc ⟨_,_,_,_,_,_,rfl,ev,by omega,hj2,by omega,n3⟩)
     ·have k1:k'=0:=by omega
      subst k1
      have hc2:=hq2 hj1
      refine Qa (Qj (by omega) ?_)
      have n3:=n1.QeJ o t (by omega) hc2
      rw[← z40] at n3
      refine Qe (fun c=>Qc (.inl ⟨_,_,rfl,ev,n3.last (by simpa using c) hl⟩)) (fun c=>?_)
      have c:¬ i+1+1=a.size:=by simpa using c
      have z3:Yp.size+y+1<=(V1.push (H a i)).size:=by rw[z54];omega
      exact Qe (fun _=>Qc (.inr ⟨_,_,_,_,_,_,rfl,ev,by omega,hj1,by omega,n3⟩)) (fun _=>Qc ⟨_,_,_,_,_,_,rfl,ev,by omega,hj1,by omega,n3⟩)
    ·have hi2:i+k+1<a.size:=by
      have c:¬ i+k+1=a.size:=by simpa using c
      have c':¬ i+k=a.size:=by simpa using c'
      omega
     have hc:=hq (by omega)
     have ho2:Yp.size+y<=(out++a.extract i (i+k)).size:=by rw[hs2];omega
     clear hs2 hq k2 k3 c c'
     generalize out++a.extract i (i+k)=QkX at m2 ho2 ⊢
     generalize i+k=i1 at m2 hi2 hc ⊢
     refine Qa (Qj hj ?_)
     have n1:=Mg.QgN o t m2 hj hc
     rw[← z40] at n1
     have z1:Yp.size+y+1<=(QkX.push (H b j)).size:=by rw[z54];have:=ho2;omega
     refine Qe (fun c=>Qc (.inl ⟨_,_,rfl,ev,n1.done (.inr (by simpa using c))⟩)) (fun c=>?_)
     have hj1:j+1<b.size:=by
      have c:¬ j+1=b.size:=by simpa using c
      omega
     clear c
     generalize QkX.push (H b j)=V1 at n1 z1 ⊢
     refine Qa (Qj (by omega) ?_)
     refine Qa (QS ask (ev.k.trans hk) (t.ua _ (Q5 (by omega))) (fun u hu=>t.ub _ (Q5 (by omega))) (by omega) (by omega) (QbF o t.sb (by omega)) fun k' q1 q2 q3=>?_)
     have n2:Mg L (a.toList++b.toList) (V1++b.extract (j+1) (j+1+k')).toList (a.toList.drop i1) (b.toList.drop (j+1+k')):=by
      rw[z52 (xs:=V1)];exact n1.Qpo o t (k:=k') (by omega) q2
     have z2:Yp.size+y+1<=(V1++b.extract (j+1) (j+1+k')).size:=by rw[ze1];omega
     have hq2:j+1+k' < b.size->L (H a i1) (H b (j+1+k'))=true:=fun h=>by
      have:=q3 k' (z18 _) (by omega)
      unfold bey at this
      rw[if_pos rfl] at this
      exact t.flip o (by omega) h this
     refine Qe (fun k1=>Qe (fun c=>Qc (.inl ⟨_,_,rfl,ev,n2.done (.inr (by simpa using c))⟩)) (fun c=>?_)) (fun k1=>?_)
     ·have hj2:j+1+k' < b.size:=by
       have c:¬ j+1+k'=b.size:=by simpa using c
       omega
      have hc2:=hq2 hj2
      generalize V1++b.extract (j+1) (j+1+k')=Qix at n2 z2 ⊢
      generalize j+1+k'=j3 at n2 hj2 hc2 ⊢
      refine Qa (Qj (by omega) ?_)
      have n3:=n2.QeJ o t (by omega) hc2
      rw[← z40] at n3
      refine Qe (fun c=>Qc (.inl ⟨_,_,rfl,ev,n3.last (by simpa using c) hl⟩)) (fun c=>?_)
      have c:¬ i1+1+1=a.size:=by simpa using c
      have z3:Yp.size+y+1<=(Qix.push (H a i1)).size:=by rw[z54];omega
      exact Qe (fun _=>Qc (.inr ⟨_,_,_,_,_,_,rfl,ev,by omega,hj2,by omega,n3⟩)) (fun _=>Qc ⟨_,_,_,_,_,_,rfl,ev,by omega,hj2,by omega,n3⟩)
     ·have k1:k'=0:=by omega
      subst k1
      have hc2:=hq2 hj1
      refine Qa (Qj (by omega) ?_)
      have n3:=n1.QeJ o t (by omega) hc2
      rw[← z40] at n3
      refine Qe (fun c=>Qc (.inl ⟨_,_,rfl,ev,n3.last (by simpa using c) hl⟩)) (fun c=>?_)
      have c:¬ i1+1+1=a.size:=by simpa using c
      have z3:Yp.size+y+1<=(V1.push (H a i1)).size:=by rw[z54];omega
      exact Qe (fun _=>Qc (.inr ⟨_,_,_,_,_,_,rfl,ev,by omega,hj1,by omega,n3⟩)) (fun _=>Qc ⟨_,_,_,_,_,_,rfl,ev,by omega,hj1,by omega,n3⟩)
  ·rintro c st3 ⟨out,i,j,g,ac,bc,rfl,ev,hi,hj,ho,m⟩
   exact .inr ⟨out,i,j,g,ac,bc,rfl,ev,hi,hj,by omega,m⟩
  rintro c st3 (⟨r,w,rfl,ev,gd⟩|⟨out,i,j,g,ac,bc,rfl,ev,hi,hj,ho,m⟩)
  ·exact Qc ⟨r,_,rfl,ev,gd⟩
  dsimp only
  refine Qa (Vx fun st4 ev4=>?_)
  exact Qc ⟨out,i,j,_,rfl,ev.trans ev4,hi,hj,by omega,m⟩
 ·rintro c st1 ⟨out,i,j,g,rfl,ev,hi,hj,hx,m⟩
  have:=m.len (by omega) (by omega)
  omega
 ·rintro c st1 ⟨r,w,rfl,ev,gd⟩
  exact Qc (K r st1 ev gd)
end
def fl (L:Keyed->Keyed->Bool)(x y:Keyed):Bool:=L y x
section
variable {J:Shared->Prop}{M:Model}{A:Around}{E:Value->Shared->Prop}{st:SortSt}{κ:SortKind}{U:Keyed->Prop}{L:Keyed->Keyed->Bool}{a b:Array Keyed}{T O:List Keyed}{i j:Nat}
abbrev tk (a:Array Keyed)(n:Nat):List Keyed:=(a.toList.take n).reverse
theorem Qn0 (h:i<a.size):tk a (i+1)=H a i::tk a i:=by
 have e:=QdN h
 rw[z11 h] at e
 unfold tk
 rw[zo3 (by simpa using h),zm6,← z27 e];simp
theorem Qas {y:Keyed}(hi:i<=a.size)(hy:y∈tk a i):∃j,j<i/\y=H a j:=by
 obtain⟨k,hk,e⟩:=zh9 (zc9.mp hy)
 rw[List.getElem_take] at e
 have hl:k<i:=by rw[z39] at hk;omega
 refine⟨k,hl,?_⟩
 have e1:=QdN (show k<a.size by omega)
 rw[z11 (by omega)] at e1
 rw[← z27 e1,← e];simp
theorem QgO (o:Od U L)(s:Sd L a.toList)(h1:0<i)(hi:i<=a.size){x:Keyed}(h:L (H a (i - 1)) x=true):∀y∈tk a i,L y x=true:=fun y hy=>by
 obtain⟨j,hj,rfl⟩:=Qas hi hy
 by_cases e:j=i - 1
 ·subst e;exact h
 ·exact o.tr _ _ _ (QhB s (show j<i - 1 by omega) (by omega)) h
theorem QhD {k:Nat}(h:k<=i)(hi:i<=a.size):tk a i=(a.extract k i).toList.reverse++tk a k:=by
 unfold tk
 rw[← zm6]
 congr 1
 rw[z74,z63]
 have:=z44 k (a.toList.take i)
 rw[zt4,zs9 h,List.drop_take] at this
 exact this.symm
theorem Qc4 {k:Nat}{y:Keyed}(hi:i<=a.size)(hy:y∈(a.extract k i).toList):∃j,k<=j/\j<i/\y=H a j:=by
 obtain⟨j,hj,e⟩:=zh9 hy
 have hl:k+j<i:=by simp at hj;omega
 refine⟨k+j,by omega,hl,?_⟩
 have e1:=QdN (show k+j<a.size by omega)
 rw[z11 (by omega)] at e1
 rw[← z27 e1,← e];simp
theorem Mg.QdO (o:Od U L)(t:Two U L a b)(m:Mg (fl L) T O (tk a (i+1)) (tk b j))(hi:i<a.size)(j0:0<j)(hj:j<=b.size)(h:L (H b (j - 1)) (H a i)=true):Mg (fl L) T (O++[H a i]) (tk a i) (tk b j):=by
 rw[Qn0 hi] at m
 exact Mg.mvA (P:=[H a i]) m fun x hx=>by rw[z19.mp hx];exact QgO o t.sb j0 hj h
theorem Mg.Qiy (o:Od U L)(t:Two U L a b)(m:Mg (fl L) T O (tk a i) (tk b (j+1)))(hj:j<b.size)(i0:0<i)(hi:i<=a.size)(h:L (H a (i - 1)) (H b j)=true):Mg (fl L) T (O++[H b j]) (tk a i) (tk b j):=by
 rw[Qn0 hj] at m
 exact Mg.mvB (P:=[H b j]) m fun x hx=>by rw[z19.mp hx];exact QgO o t.sa i0 hi h
theorem Mg.Qn1 (o:Od U L)(t:Two U L a b)(m:Mg (fl L) T O (tk a i) (tk b j))(j0:0<j)(hj:j<=b.size){k:Nat}(hk:k<=i)(hi:i<=a.size)(h:∀u,k<=u->u<i->bey L false (H b (j - 1)) a 0 u=false):Mg (fl L) T (O++(a.extract k i).toList.reverse) (tk a k) (tk b j):=by
 rw[QhD hk hi] at m
 refine Mg.mvA m fun x hx=>?_
 obtain⟨u,u1,u2,rfl⟩:=Qc4 hi (zc9.mp hx)
 have:=h u u1 u2
 unfold bey at this
 rw[if_neg (by decide),z89] at this
 exact QgO o t.sb j0 hj (by simpa using this)
theorem Mg.QkY (o:Od U L)(t:Two U L a b)(m:Mg (fl L) T O (tk a i) (tk b j))(i0:0<i)(hi:i<=a.size){k:Nat}(hk:k<=j)(hj:j<=b.size)(h:∀u,k<=u->u<j->bey L true (H a (i - 1)) b 0 u=false):Mg (fl L) T (O++(b.extract k j).toList.reverse) (tk a i) (tk b k):=by
 rw[QhD hk hj] at m
 refine Mg.mvB m fun x hx=>?_
 obtain⟨u,u1,u2,rfl⟩:=Qc4 hj (zc9.mp hx)
 have:=h u u1 u2
 unfold bey at this
 rw[if_pos rfl,z89] at this
 exact QgO o t.sa i0 hi (t.flip o (by omega) (by omega) this)
theorem QeK {l:List Keyed}(h:Sd (fl L) l):Sd L l.reverse:=zv9.mpr h
theorem QhE {l:List Keyed}(h:Sd L l):Sd (fl L) l.reverse:=zv9.mpr h
theorem Mg.Qqc {out:Array Keyed}(m:Mg (fl L) (a.toList++b.toList) out.toList (tk a i) (tk b j))(hi:i<=a.size)(hj:j<=b.size):out.size+i+j=a.size+b.size:=by
 have:=m.pm.length_eq
 rw[z10,z10,z10,za3,za3,z39,z39] at this
 simp at this
 omega
theorem Mg.QaL {out:Array Keyed}(m:Mg (fl L) (a.toList++b.toList) out.toList (tk a i) (tk b j))(h:i=0\/j=0):Gd L a b (a.extract 0 i++b.extract 0 j++out.reverse):=by
 unfold Gd
 have e:(a.extract 0 i++b.extract 0 j++out.reverse).toList=(out.toList++tk b j++tk a i).reverse:=by
  rw[z52,z52,ze8,z74,z74,z63,z63]
  simp[tk]
 rw[e]
 have g:(out.toList++tk b j++tk a i).Perm (a.toList++b.toList)/\Sd (fl L) (out.toList++tk b j++tk a i):=by
  rcases h with rfl|rfl
  ·have z:tk a 0=[]:=by simp[tk]
   rw[z] at m ⊢
   rw[z61];exact m.Qpm
  ·have z:tk b 0=[]:=by simp[tk]
   rw[z] at m ⊢
   rw[z61];exact m.Qpl
 exact⟨(ze2 _).trans g.1,QeK g.2⟩
theorem Mg.Qat {out:Array Keyed}(m:Mg (fl L) (a.toList++b.toList) out.toList (tk a i) (tk b 1))(hb:0<b.size)(hi:i<=a.size)(h0:∀y∈a.toList,L (H b 0) y=true):Gd L a b (b.extract 0 1++a.extract 0 i++out.reverse):=by
 unfold Gd
 have e:(b.extract 0 1++a.extract 0 i++out.reverse).toList=(out.toList++tk a i++tk b 1).reverse:=by
  rw[z52,z52,ze8,z74,z74,z63,z63]
  simp[tk]
 rw[e]
 have z:tk b 1=[H b 0]:=by
  rw[show 1=0+1 from rfl,Qn0 hb];simp[tk]
 have m':Mg (fl L) (a.toList++b.toList) out.toList [H b 0] (tk a i):=by
  rw[z] at m
  refine⟨?_,m.so,m.ob,m.oa,m.sb,m.sa⟩
  exact zj5 (zd2 _ zd6) m.pm
 have g:=m'.Qpn fun y hy=>by
  obtain⟨k,hk,rfl⟩:=Qas hi hy
  exact h0 _ (Q5 (by omega))
 rw[z]
 exact⟨(ze2 _).trans g.1,QeK g.2⟩
theorem Qcs (ask:Ask J M A E κ U L)(o:Od U L){Q:Array Keyed->SortSt->Prop}(hk:kindOf st=κ)(t:Two U L a b)(na:0<a.size)(nb:0<b.size)(h0:∀y∈a.toList,L (H b 0) y=true)(hl:L (H b (b.size - 1)) (H a (a.size - 1))=true)
  (K:∀r st',Ev st st'->Gd L a b r->Q r st'):wpT J M A E (QgM a b) Q st:=by
 intro s hs
 wp_delta
 wp_delta
 refine QbE ?_ hs
 refine Qa (Yb ?_)
 refine Qa (Qj (by omega) ?_)
 have m0:Mg (fl L) (a.toList++b.toList) [] (tk a (a.size - 1+1)) (tk b b.size):=by
  rw[show a.size - 1+1=a.size by omega]
  have ea:tk a a.size=a.toList.reverse:=by unfold tk;rw[z76 (by simp)]
  have eb:tk b b.size=b.toList.reverse:=by unfold tk;rw[z76 (by simp)]
  rw[ea,eb]
  exact⟨show(a.toList.reverse++b.toList.reverse).Perm (a.toList++b.toList) from List.Perm.append (ze2 _) (ze2 _),.nil,(fun _ z=>nomatch z),(fun _ z=>nomatch z),QhE t.sa,QhE t.sb⟩
 have m1:Mg (fl L) (a.toList++b.toList) (#[H a (a.size - 1)]:Array Keyed).toList (tk a (a.size - 1)) (tk b b.size):=m0.QdO o t (by omega) nb (z18 _) hl
 refine Qe (fun c=>Qc (K _ _ (.refl _) (m1.QaL (.inl (by simpa using c))))) (fun c1=>?_)
 refine Qe (fun c=>Qc (K _ _ (.refl _) ?_)) (fun c2=>?_)
 ·have c:b.size=1:=by simpa using c
  rw[c] at m1 ⊢
  exact m1.Qat nb (by omega) h0
 have c1:¬ a.size - 1=0:=by simpa using c1
 have c2:¬ b.size=1:=by simpa using c2
 refine Qa (Q4 ?_)
 refine Qa (Qq (QX (I:=fun x c st'=>∃out i j g,c=(none,i,j,out,g)/\Ev st st'/\0<i/\i<=a.size/\1<j/\j<=b.size/\x+1<=out.size/\Mg (fl L) (a.toList++b.toList) out.toList (tk a i) (tk b j))
  (Q:=fun c st'=>∃r w,c=(some r,w)/\Ev st st'/\Gd L a b r) ?_ ?_ ⟨_,a.size - 1,b.size,_,rfl,.refl _,by omega,by omega,by omega,by omega,by simp,m1⟩) ?_)
 ·rintro x c st1 hx ⟨Yp,i,j,g,rfl,ev,i0,hi,j0,hj,hx1,m⟩
  dsimp only
  refine Qa (Qq (QX (I:=fun y c st'=>∃out i j ac bc,c=(none,i,j,out,ac,bc)/\Ev st st'/\0<i/\i<=a.size/\1<j/\j<=b.size/\Yp.size<=out.size/\Mg (fl L) (a.toList++b.toList) out.toList (tk a i) (tk b j))
   (Q:=fun c st'=>(∃r w,c=(some r,w)/\Ev st st'/\Gd L a b r)\/∃out i j ac bc,c=(none,i,j,out,ac,bc)/\Ev st st'/\0<i/\i<=a.size/\1<j/\j<=b.size/\Yp.size<=out.size/\Mg (fl L) (a.toList++b.toList) out.toList (tk a i) (tk b j)) ?_ ?_ ⟨_,i,j,0,0,rfl,ev,i0,hi,j0,hj,z18 _,m⟩) ?_)
  ·rintro y c st2 hy ⟨out,i,j,ac,bc,rfl,ev,i0,hi,j0,hj,ho,m⟩
   dsimp only
   refine Qa (Qj (by omega) (Qa (Qj (by omega) (Qa (ask _ _ _ _ (ev.k.trans hk) (t.ub _ (Q5 (by omega))) (t.ua _ (Q5 (by omega))) ?_)))))
   cases e:L (H b (j - 1)) (H a (i - 1)) with
   |true=>
    dsimp only
    rw[if_pos rfl]
    refine Qa (Qj (by omega) ?_)
    have m2:=Mg.QdO (i:=i - 1) o t (by rw[show i - 1+1=i by omega];exact m) (by omega) (by omega) hj e
    rw[← z40] at m2
    refine Qe (fun c=>Qc (.inl ⟨_,_,rfl,ev,m2.QaL (.inl (by simpa using c))⟩)) (fun c=>?_)
    have c:¬ i - 1=0:=by simpa using c
    have hs:Yp.size<=(out.push (H a (i - 1))).size:=by rw[z54];omega
    exact Qe (fun _=>Qc (.inr ⟨_,_,_,_,_,rfl,ev,by omega,by omega,j0,hj,hs,m2⟩)) (fun _=>Qc ⟨_,_,_,_,_,rfl,ev,by omega,by omega,j0,hj,hs,m2⟩)
   |false=>
    dsimp only
    rw[if_neg (by decide)]
    refine Qa (Qj (by omega) ?_)
    have m2:=Mg.Qiy (j:=j - 1) o t (by rw[show j - 1+1=j by omega];exact m) (by omega) i0 hi (t.flip o (by omega) (by omega) e)
    rw[← z40] at m2
    refine Qe (fun c=>Qc (.inl ⟨_,_,rfl,ev,?_⟩)) (fun c=>?_)
    ·have c:j - 1=1:=by simpa using c
     rw[c] at m2 ⊢
     exact m2.Qat nb hi h0
    have c:¬ j - 1=1:=by simpa using c
    have hs:Yp.size<=(out.push (H b (j - 1))).size:=by rw[z54];omega
    exact Qe (fun _=>Qc (.inr ⟨_,_,_,_,_,rfl,ev,i0,hi,by omega,by omega,hs,m2⟩)) (fun _=>Qc ⟨_,_,_,_,_,rfl,ev,i0,hi,by omega,by omega,hs,m2⟩)
  ·rintro c st2 h
   exact .inr h
  rintro c st2 (⟨r,w,rfl,ev,gd⟩|⟨out,i,j,ac,bc,rfl,ev,i0,hi,j0,hj,ho,m⟩)
  ·exact Qc ⟨r,_,rfl,ev,gd⟩
  refine Qa (Yb ?_)
  refine Qa (Qq (QX (I:=fun y c st'=>∃out i j g ac bc,c=(none,i,j,out,g,ac,bc)/\Ev st st'/\0<i/\i<=a.size/\1<j/\j<=b.size/\Yp.size+y<=out.size/\Mg (fl L) (a.toList++b.toList) out.toList (tk a i) (tk b j))
   (Q:=fun c st'=>(∃r w,c=(some r,w)/\Ev st st'/\Gd L a b r)\/∃out i j g ac bc,c=(none,i,j,out,g,ac,bc)/\Ev st st'/\0<i/\i<=a.size/\1<j/\j<=b.size/\Yp.size+1<=out.size/\Mg (fl L) (a.toList++b.toList) out.toList (tk a i) (tk b j)) ?_ ?_ ⟨_,i,j,_,ac,bc,rfl,ev,i0,hi,j0,hj,ho,m⟩) ?_)
  ·rintro y c st3 hy ⟨out,i,j,g,ac,bc,rfl,ev,i0,hi,j0,hj,ho,m⟩
   dsimp only
   generalize hx:g - 1=x1
   revert x1
   refine QhC fun v=>?_
   all_goals
    refine Qa (Vx fun st4 ev4=>?_)
    have ev:=ev.trans ev4
    clear ev4
    refine Qa (Qj (by omega) ?_)
    refine Qa (QS ask (ev.k.trans hk) (t.ub _ (Q5 (by omega))) (fun u hu=>t.ua _ (Q5 (by omega))) (by omega) (by omega) (QeI o t.sa (by omega)) fun k k1 k2 k3=>?_)
    have m2:Mg (fl L) (a.toList++b.toList) (out++(a.extract k i).reverse).toList (tk a k) (tk b j):=by
     rw[z52 (xs:=out),ze8];exact m.Qn1 o t (by omega) hj k1 hi k3
    have hq:0<k->L (H a (k - 1)) (H b (j - 1))=true:=fun h=>by
     have:=k2 (k - 1) (by omega)
     unfold bey at this
     rw[if_neg (by decide),z89] at this
     exact t.flip o (by omega) (by omega) (by simpa using this)
    refine Qe (fun k0=>Qe (fun c=>Qc (.inl ⟨_,_,rfl,ev,m2.QaL (.inl (by simpa using c))⟩)) (fun c=>?_)) (fun k0=>?_)
    rotate_left
    ·have k0:k=i:=by omega
     subst k0
     have hc:=hq i0
     refine Qa (Qj (by omega) ?_)
     have n1:=Mg.Qiy (j:=j - 1) o t (by rw[show j - 1+1=j by omega];exact m) (by omega) i0 hi hc
     rw[← z40] at n1
     have z1:Yp.size+y+1<=(out.push (H b (j - 1))).size:=by rw[z54];have:=ho;omega
     refine Qe (fun c=>Qc (.inl ⟨_,_,rfl,ev,?_⟩)) (fun c=>?_)
     ·have c:j - 1=1:=by simpa using c
      rw[c] at n1 ⊢
      exact n1.Qat nb hi h0
     have hj1:1<j - 1:=by
      have c:¬ j - 1=1:=by simpa using c
      omega
     clear c
     generalize out.push (H b (j - 1))=V1 at n1 z1 ⊢
     have hjb:j - 1<=b.size:=by omega
     generalize j - 1=j2 at n1 hj1 hjb ⊢
     refine Qa (Qj (by omega) ?_)
     refine Qa (QS ask (ev.k.trans hk) (t.ua _ (Q5 (by omega))) (fun u hu=>t.ub _ (Q5 (by omega))) (by omega) (by omega) (QbF o t.sb (by omega)) fun k' q1 q2 q3=>?_)
     have n2:Mg (fl L) (a.toList++b.toList) (V1++(b.extract k' j2).reverse).toList (tk a k) (tk b k'):=by
      rw[z52 (xs:=V1),ze8];exact n1.QkY o t i0 hi q1 hjb q3
     have z2:Yp.size+y+1<=(V1++(b.extract k' j2).reverse).size:=by rw[ze1];omega
     have hq2:0<k'->L (H b (k' - 1)) (H a (k - 1))=true:=fun h=>by
      have:=q2 (k' - 1) (by omega)
      unfold bey at this
      rw[if_pos rfl,z89] at this
      exact this
     refine Qe (fun k1=>Qe (fun c=>Qc (.inl ⟨_,_,rfl,ev,?_⟩)) (fun c=>Qe (fun c'=>Qc (.inl ⟨_,_,rfl,ev,n2.QaL (.inr (by simpa using c'))⟩)) (fun c'=>?_))) (fun k1=>?_)
     ·have c:k'=1:=by simpa using c
      subst c
      exact n2.Qat nb hi h0
     ·have hj3:1<k':=by
       have c:¬ k'=1:=by simpa using c
       have c':¬ k'=0:=by simpa using c'
       omega
      have hc2:=hq2 (by omega)
      generalize V1++(b.extract k' j2).reverse=Qix at n2 z2 ⊢
      have n3:=Mg.QdO (i:=k - 1) o t (by rw[show k - 1+1=k by omega];exact n2) (by omega) (by omega) (by omega) hc2
      rw[← z40] at n3
      refine Qa (Qj (by omega) ?_)
      refine Qe (fun c=>Qc (.inl ⟨_,_,rfl,ev,n3.QaL (.inl (by simpa using c))⟩)) (fun c=>?_)
      have c:¬ k - 1=0:=by simpa using c
      have z3:Yp.size+y+1<=(Qix.push (H a (k - 1))).size:=by rw[z54];omega
      exact Qe (fun _=>Qc (.inr ⟨_,_,_,_,_,_,rfl,ev,by omega,by omega,hj3,by omega,by omega,n3⟩)) (fun _=>Qc ⟨_,_,_,_,_,_,rfl,ev,by omega,by omega,hj3,by omega,by omega,n3⟩)
     ·have k1:k'=j2:=by omega
      subst k1
      have hc2:=hq2 (by omega)
      have n3:=Mg.QdO (i:=k - 1) o t (by rw[show k - 1+1=k by omega];exact n1) (by omega) (by omega) (by omega) hc2
      rw[← z40] at n3
      refine Qa (Qj (by omega) ?_)
      refine Qe (fun c=>Qc (.inl ⟨_,_,rfl,ev,n3.QaL (.inl (by simpa using c))⟩)) (fun c=>?_)
      have c:¬ k - 1=0:=by simpa using c
      have z3:Yp.size+y+1<=(V1.push (H a (k - 1))).size:=by rw[z54];omega
      exact Qe (fun _=>Qc (.inr ⟨_,_,_,_,_,_,rfl,ev,by omega,by omega,hj1,by omega,by omega,n3⟩)) (fun _=>Qc ⟨_,_,_,_,_,_,rfl,ev,by omega,by omega,hj1,by omega,by omega,n3⟩)
    ·have i2:0<k:=by
      have c:¬ k=0:=by simpa using c
      omega
     have hc:=hq i2
     have his:k<=a.size:=by omega
     have ho2:Yp.size+y<=(out++(a.extract k i).reverse).size:=by rw[ze1];omega
     generalize out++(a.extract k i).reverse=QkX at m2 ho2 ⊢
     refine Qa (Qj (by omega) ?_)
     have n1:=Mg.Qiy (j:=j - 1) o t (by rw[show j - 1+1=j by omega];exact m2) (by omega) i2 his hc
     rw[← z40] at n1
     have z1:Yp.size+y+1<=(QkX.push (H b (j - 1))).size:=by rw[z54];have:=ho2;omega
     refine Qe (fun c=>Qc (.inl ⟨_,_,rfl,ev,?_⟩)) (fun c=>?_)
     ·have c:j - 1=1:=by simpa using c
      rw[c] at n1 ⊢
      exact n1.Qat nb his h0
     have hj1:1<j - 1:=by
      have c:¬ j - 1=1:=by simpa using c
      omega
     clear c
     generalize QkX.push (H b (j - 1))=V1 at n1 z1 ⊢
     have hjb:j - 1<=b.size:=by omega
     generalize j - 1=j2 at n1 hj1 hjb ⊢
     refine Qa (Qj (by omega) ?_)
     refine Qa (QS ask (ev.k.trans hk) (t.ua _ (Q5 (by omega))) (fun u hu=>t.ub _ (Q5 (by omega))) (by omega) (by omega) (QbF o t.sb (by omega)) fun k' q1 q2 q3=>?_)
     have n2:Mg (fl L) (a.toList++b.toList) (V1++(b.extract k' j2).reverse).toList (tk a k) (tk b k'):=by
      rw[z52 (xs:=V1),ze8];exact n1.QkY o t i2 his q1 hjb q3
     have z2:Yp.size+y+1<=(V1++(b.extract k' j2).reverse).size:=by rw[ze1];omega
     have hq2:0<k'->L (H b (k' - 1)) (H a (k - 1))=true:=fun h=>by
      have:=q2 (k' - 1) (by omega)
      unfold bey at this
      rw[if_pos rfl,z89] at this
      exact this
     refine Qe (fun k1=>Qe (fun c=>Qc (.inl ⟨_,_,rfl,ev,?_⟩)) (fun c=>Qe (fun c'=>Qc (.inl ⟨_,_,rfl,ev,n2.QaL (.inr (by simpa using c'))⟩)) (fun c'=>?_))) (fun k1=>?_)
     ·have c:k'=1:=by simpa using c
      subst c
      exact n2.Qat nb his h0
     ·have hj3:1<k':=by
       have c:¬ k'=1:=by simpa using c
       have c':¬ k'=0:=by simpa using c'
       omega
      have hc2:=hq2 (by omega)
      generalize V1++(b.extract k' j2).reverse=Qix at n2 z2 ⊢
      have n3:=Mg.QdO (i:=k - 1) o t (by rw[show k - 1+1=k by omega];exact n2) (by omega) (by omega) (by omega) hc2
      rw[← z40] at n3
      refine Qa (Qj (by omega) ?_)
      refine Qe (fun c=>Qc (.inl ⟨_,_,rfl,ev,n3.QaL (.inl (by simpa using c))⟩)) (fun c=>?_)
      have c:¬ k - 1=0:=by simpa using c
      have z3:Yp.size+y+1<=(Qix.push (H a (k - 1))).size:=by rw[z54];omega
      exact Qe (fun _=>Qc (.inr ⟨_,_,_,_,_,_,rfl,ev,by omega,by omega,hj3,by omega,by omega,n3⟩)) (fun _=>Qc ⟨_,_,_,_,_,_,rfl,ev,by omega,by omega,hj3,by omega,by omega,n3⟩)
     ·have k1:k'=j2:=by omega
      subst k1
      have hc2:=hq2 (by omega)
      have n3:=Mg.QdO (i:=k - 1) o t (by rw[show k - 1+1=k by omega];exact n1) (by omega) (by omega) (by omega) hc2
      rw[← z40] at n3
      refine Qa (Qj (by omega) ?_)
      refine Qe (fun c=>Qc (.inl ⟨_,_,rfl,ev,n3.QaL (.inl (by simpa using c))⟩)) (fun c=>?_)
      have c:¬ k - 1=0:=by simpa using c
      have z3:Yp.size+y+1<=(V1.push (H a (k - 1))).size:=by rw[z54];omega
      exact Qe (fun _=>Qc (.inr ⟨_,_,_,_,_,_,rfl,ev,by omega,by omega,hj1,by omega,by omega,n3⟩)) (fun _=>Qc ⟨_,_,_,_,_,_,rfl,ev,by omega,by omega,hj1,by omega,by omega,n3⟩)
  ·rintro c st3 ⟨out,i,j,g,ac,bc,rfl,ev,i0,hi,j0,hj,ho,m⟩
   exact .inr ⟨out,i,j,g,ac,bc,rfl,ev,i0,hi,j0,hj,by omega,m⟩
  rintro c st3 (⟨r,w,rfl,ev,gd⟩|⟨out,i,j,g,ac,bc,rfl,ev,i0,hi,j0,hj,ho,m⟩)
  ·exact Qc ⟨r,_,rfl,ev,gd⟩
  refine Qa (Vx fun st4 ev4=>?_)
  exact Qc ⟨out,i,j,_,rfl,ev.trans ev4,i0,hi,j0,hj,by omega,m⟩
 ·rintro c st1 ⟨out,i,j,g,rfl,ev,i0,hi,j0,hj,hx,m⟩
  have:=m.Qqc hi hj
  omega
 ·rintro c st1 ⟨r,w,rfl,ev,gd⟩
  exact Qc (K r st1 ev gd)
end
section
variable {J:Shared->Prop}{M:Model}{A:Around}{E:Value->Shared->Prop}{st:SortSt}{κ:SortKind}{U:Keyed->Prop}{L:Keyed->Keyed->Bool}{a:Array Keyed}{pre X Y post:List Keyed}{i:Nat}
theorem Qn2 {l:List Keyed}{n:Nat}(e:a.toList=pre++l):H a (pre.length+n)=H l.toArray n:=by
 rw[H,H,z24,z24,← z13,e,z35 (by omega),za0,z45]
theorem QkZ {X Y:List Keyed}{n:Nat}(h:n<X.length):H (X++Y).toArray n=H X.toArray n:=by
 rw[H,H,z24,z24,z45,z45,z41 h]
theorem Vo {left:Bool}{key:Keyed}{b u:Nat}{x:Array Keyed}(h:H a (b+u)=H x u):bey L left key a b u=bey L left key x 0 u:=by
 unfold bey;rw[h,z89]
theorem Qc5:∀(l q p t:List Keyed) (a:Array Keyed) (c n:Nat),a.toList=p++(q++t)->q.length=l.length->p.length=c+n->
  ((l.zipIdx n).foldl (fun a x=>match x with|(y,j)=>a.setIfInBounds (c+j) y) a).toList=p++(l++t)
 | [],[],p,t,a,c,n,e,_,_=>e
 | [],_::_,_,_,_,_,_,_,h,_=>nomatch h
 |_::_,[],_,_,_,_,_,_,h,_=>nomatch h
 |y::l,z::q,p,t,a,c,n,e,h,hp=>by
  rw[List.zipIdx_cons,zd8]
  have e2:(a.setIfInBounds (c+n) y).toList=(p++[y])++(q++t):=by
   rw[zs2,e,zv8 _ _ (by omega),hp,zi7]
   simp
  rw[Qc5 l q (p++[y]) t _ c (n+1) e2 (by simpa using h) (by rw[z10,hp];rfl)]
  simp
theorem Qct (ask:Ask J M A E κ U L)(o:Od U L){pw pw2:Nat}{Q:Bool->SortSt->Prop}(hk:kindOf st=κ)(hf:failedOf st=none)(ea:(arrOf st).toList=pre++(X++(Y++post)))
  (hp1:(pendingOf st)[i]? = some (pre.length,X.length,pw)) (hp2:(pendingOf st)[i+1]? = some (pre.length+X.length,Y.length,pw2)) (sX:Sd L X) (sY:Sd L Y) (nX:0<X.length) (nY:0<Y.length) (uX:∀x∈X,U x) (uY:∀x∈Y,U x) (ne:∀x∈X,∀y∈Y,x≠y)
  (K:∀st' Z,kindOf st'=κ->failedOf st'=none->(arrOf st').toList=pre++(Z++post)->Z.Perm (X++Y)->Sd L Z->pendingOf st'=((pendingOf st).setIfInBounds i (pre.length,X.length+Y.length,pw)).eraseIdxIfInBounds (i+1)->Q true st'):wpT J M A E (mergeAt' i) Q st:=by
 intro s hs
 wp_delta
 wp_delta
 refine QbE ?_ hs
 refine Qa (Q4 ?_)
 rw[show(pendingOf st)[i]? = _ from hp1,show(pendingOf st)[i+1]? = _ from hp2]
 refine Qa (Qiw ?_)
 have sz:(arrOf st).size=pre.length+(X.length+(Y.length+post.length)):=by
  have:=congrArg zf8 ea
  simpa using this
 have hX:∀u,u<X.length->H (arrOf st) (pre.length+u)=H X.toArray u:=fun u hu=>by rw[Qn2 ea,QkZ hu]
 have hY:∀u,u<Y.length->H (arrOf st) (pre.length+X.length+u)=H Y.toArray u:=fun u hu=>by
  have e2:(arrOf st).toList=(pre++X)++(Y++post):=by rw[ea,z15]
  have:=Qn2 (n:=u) e2
  rw[z10] at this
  rw[this,QkZ hu]
 have hy0:H (arrOf st) (pre.length+X.length)=H Y.toArray 0:=hY 0 nY
 have tXY:Two U L X.toArray Y.toArray:=⟨sX,sY,uX,uY,ne⟩
 have nXs:X.toArray.size=X.length:=by simp
 have nYs:Y.toArray.size=Y.length:=by simp
 refine Qa (Qj (a:=arrOf st) (by omega) ?_)
 rw[hy0]
 refine Qa (QS (a:=arrOf st) ask hk (uY _ (Q5 (a:=Y.toArray) (by omega))) (fun u hu=>by rw[hX u hu];exact uX _ (Q5 (a:=X.toArray) (by omega))) nX (by omega)
  (fun u v h1 h2 h3=>by rw[Vo (hX v h2)] at h3;rw[Vo (hX u (by omega))];exact QeI o (a:=X.toArray) (n:=X.length) sX (by omega) u v h1 h2 h3) fun k k1 k2 k3=>?_)
 have g1:∀u,u<k->L (H X.toArray u) (H Y.toArray 0)=true:=fun u hu=>by
  have:=k2 u hu
  rw[Vo (hX u (by omega))] at this
  unfold bey at this
  rw[if_neg (by decide),z89] at this
  exact tXY.flip o (by omega) (by omega) (by simpa using this)
 have g2:∀u,k<=u->u<X.length->L (H Y.toArray 0) (H X.toArray u)=true:=fun u h1 h2=>by
  have:=k3 u h1 h2
  rw[Vo (hX u h2)] at this
  unfold bey at this
  rw[if_neg (by decide),z89] at this
  simpa using this
 have pX:∀x∈X.take k,∀y∈Y,L x y=true:=fun x hx y hy=>by
  obtain⟨u,hu,rfl⟩:=Qas (a:=X.toArray) (i:=k) (by omega) (zc9.mpr hx)
  exact Ve o (a:=Y.toArray) (i:=0) sY (g1 u hu) y hy
 refine Qe (fun c=>Qc (K _ (X++Y) hk hf (by rw[z15];exact ea) (ze0 _) (z36.mpr ⟨sX,sY,?_⟩) rfl)) (fun c=>?_)
 ·have c:X.length - k=0:=by simpa using c
  rw[z76 (by omega)] at pX
  exact pX
 have kx:k<X.length:=by
  have c:¬ X.length - k=0:=by simpa using c
  omega
 clear c
 have hxl:H (arrOf st) (pre.length+k+(X.length - k) - 1)=H X.toArray (X.length - 1):=by
  rw[show pre.length+k+(X.length - k) - 1=pre.length+(X.length - 1) by omega];exact hX _ (by omega)
 refine Qa (Qj (a:=arrOf st) (by omega) ?_)
 rw[hxl]
 refine Qa (QS (a:=arrOf st) ask hk (uX _ (Q5 (a:=X.toArray) (by omega))) (fun u hu=>by rw[hY u hu];exact uY _ (Q5 (a:=Y.toArray) (by omega))) (by omega) (by omega)
  (fun u v h1 h2 h3=>by rw[Vo (hY v h2)] at h3;rw[Vo (hY u (by omega))];exact QbF o (a:=Y.toArray) (n:=Y.length) sY (by omega) u v h1 h2 h3) fun m m1 m2 m3=>?_)
 have f1:∀u,u<m->L (H Y.toArray u) (H X.toArray (X.length - 1))=true:=fun u hu=>by
  have:=m2 u hu
  rw[Vo (hY u (by omega))] at this
  unfold bey at this
  rw[if_pos rfl,z89] at this
  exact this
 have f2:∀u,m<=u->u<Y.length->L (H X.toArray (X.length - 1)) (H Y.toArray u)=true:=fun u h1 h2=>by
  have:=m3 u h1 h2
  rw[Vo (hY u h2)] at this
  unfold bey at this
  rw[if_pos rfl,z89] at this
  exact tXY.flip o (by omega) (by omega) this
 have m0:0<m:=by
  rcases Nat.eq_zero_or_pos m with e|e
  ·subst e
   have a1:=f2 0 (z18 _) nY
   have a2:=g2 (X.length - 1) (by omega) (by omega)
   have:=o.tr _ _ _ a1 a2
   rw[o.ir] at this;cases this
  ·exact e
 refine Qe (fun c=>absurd (show m=0 by simpa using c) (by omega)) (fun c=>?_)
 clear c
 have ex:((arrOf st).extract (pre.length+k) (pre.length+X.length)).toList=X.drop k:=by
  rw[z74,z63,ea,List.drop_append,zg8 (by omega),zl0,show pre.length+k - pre.length=k by omega,List.drop_append_of_le_length (by omega),show pre.length+X.length - (pre.length+k)=(X.drop k).length by rw[z96];omega,List.take_left]
 have ey:((arrOf st).extract (pre.length+X.length) (pre.length+X.length+m)).toList=Y.take m:=by
  have e2:(arrOf st).toList=(pre++X)++(Y++post):=by rw[ea,z15]
  rw[z74,z63,e2,show pre.length+X.length=(pre++X).length by rw[z10],List.drop_left,za0,zq1 m1]
 generalize (arrOf st).extract (pre.length+k) (pre.length+X.length)=x at ex ⊢
 generalize (arrOf st).extract (pre.length+X.length) (pre.length+X.length+m)=y at ey ⊢
 have xs:x.size=X.length - k:=by rw[← z42,ex,z96]
 have ys:y.size=m:=by rw[← z42,ey,z39];omega
 have hx:∀u,u<x.size->H x u=H X.toArray (k+u):=fun u hu=>by
  rw[H,H,z24,z24,← z13,ex,zo0,z45]
 have hy:∀u,u<y.size->H y u=H Y.toArray u:=fun u hu=>by
  rw[H,H,z24,z24,← z13,ey,z95 (by omega),z45]
 have txy:Two U L x y:=⟨by rw[ex];exact sX.sublist (zz6 _ _),by rw[ey];exact sY.sublist (zo6 _ _),fun v hv=>uX v (zb4 (ex▸hv)),fun v hv=>uY v (zb3 (ey▸hv)),fun v hv w hw=>ne v (zb4 (ex▸hv)) w (zb3 (ey▸hw))⟩
 have b0:L (H y 0) (H x 0)=true:=by rw[hy 0 (by omega),hx 0 (by omega)];exact g2 _ (by omega) (by omega)
 have lx:H x (x.size - 1)=H X.toArray (X.length - 1):=by rw[hx _ (by omega)];congr 1;omega
 have bl:∀w∈y.toList,L w (H x (x.size - 1))=true:=fun w hw=>by
  obtain⟨u,hu,rfl⟩:=Qas (a:=y) (i:=y.size) (z18 _) (zc9.mpr (by rw[z76 (by simp)];exact hw))
  rw[lx,hy u hu];exact f1 u (by omega)
 have fin:∀(r:Array Keyed) (st':SortSt),Ev (setPending st (((pendingOf st).setIfInBounds i (pre.length,X.length+Y.length,pw)).eraseIdxIfInBounds (i+1))) st'->Gd L x y r->
   Q true (setArr st' (List.foldl (fun a x=>match x with|(p,j)=>a.setIfInBounds (pre.length+k+j) p) (arrOf st') r.toList.zipIdx)):=fun r st' ev gd=>by
  have pm:r.toList.Perm (X.drop k++Y.take m):=by have:=gd.1;rw[ex,ey] at this;exact this
  have pY:∀v∈r.toList,∀w∈Y.drop m,L v w=true:=fun v hv w hw=>by
   obtain⟨j,j1,j2,rfl⟩:=Yc (a:=Y.toArray) hw
   rcases z04.mp (pm.mem_iff.mp hv) with z|z
   ·obtain⟨u,u1,u2,rfl⟩:=Yc (a:=X.toArray) z
    have q:=f2 j j1 (by omega)
    by_cases e:u=X.length - 1
    ·subst e;exact q
    ·exact o.tr _ _ _ (QhB (a:=X.toArray) sX (show u<X.length - 1 by omega) (by omega)) q
   ·obtain⟨u,hu,rfl⟩:=Qas (a:=Y.toArray) (i:=m) (by omega) (zc9.mpr z)
    exact QhB (a:=Y.toArray) sY (by omega) j2
  have pT:∀v∈X.take k,∀w∈r.toList,L v w=true:=fun v hv w hw=>by
   rcases z04.mp (pm.mem_iff.mp hw) with z|z
   ·exact(z36.mp (show Sd L (X.take k++X.drop k) by rw[z44];exact sX)).2.2 v hv w z
   ·exact pX v hv w (zb3 z)
  have e0:(arrOf st').toList=(pre++X.take k)++((X.drop k++Y.take m)++(Y.drop m++post)):=by
   rw[ev.a]
   show(arrOf st).toList=_
   rw[ea]
   simp only[z15]
   rw[← z15 (X.take k),z44,← z15 (Y.take m),z44]
  have e1:=Qc5 r.toList (X.drop k++Y.take m) (pre++X.take k) (Y.drop m++post) (arrOf st') (pre.length+k) 0 e0 pm.length_eq.symm (by rw[z10,z39];omega)
  refine K _ (X.take k++(r.toList++Y.drop m)) (ev.k.trans hk) (ev.f.trans hf) ?_ ?_ ?_ ev.p
  ·refine Eq.trans e1 ?_
   simp only[z15]
  ·have q:(r.toList++Y.drop m).Perm (X.drop k++Y):=by
    refine(pm.append_right _).trans ?_
    rw[z15,z44]
   refine(q.append_left _).trans ?_
   rw[← z15,z44]
  ·refine z36.mpr ⟨sX.sublist (zo6 _ _),z36.mpr ⟨gd.2,sY.sublist (zz6 _ _),pY⟩,fun v hv w hw=>?_⟩
   rcases z04.mp hw with z|z
   ·exact pT v hv w z
   ·exact pX v hv w (zb4 z)
 refine Qe (fun _=>?_) (fun _=>?_)
 ·refine Qa (Qcr ask o hk txy (by omega) (by omega) b0 bl fun r st' ev gd=>?_)
  have ff:failedOf st'=none:=ev.f.trans hf
  refine Qa (QF (Qa (Q4 (Qc ?_))))
  show Q (failedOf st').isNone _
  rw[ff]
  exact fin r st' ev gd
 ·refine Qa (Qcs ask o hk txy (by omega) (by omega) (fun v hv=>Ve o (a:=x) (i:=0) txy.sa b0 v hv) (bl _ (Q5 (by omega))) fun r st' ev gd=>?_)
  have ff:failedOf st'=none:=ev.f.trans hf
  refine Qa (QF (Qa (Q4 (Qc ?_))))
  show Q (failedOf st').isNone _
  rw[ff]
  exact fin r st' ev gd
end
section
variable {J:Shared->Prop}{M:Model}{A:Around}{E:Value->Shared->Prop}{st:SortSt}{κ:SortKind}{U:Keyed->Prop}{L:Keyed->Keyed->Bool}{a:Array Keyed}{pre S:List Keyed}{i n:Nat}
theorem QgP (ask:Ask J M A E κ U L){i j:Nat}{Q:Option Bool->SortSt->Prop}(hk:kindOf st=κ)(hi:i<(arrOf st).size)(hj:j<(arrOf st).size)(ui:U (H (arrOf st) i))(uj:U (H (arrOf st) j))(q:Q (some (L (H (arrOf st) i) (H (arrOf st) j))) st):wpT J M A E (ltAt' i j) Q st:=by
 rw[ltAt'_eq]
 exact Qa (Q4 (Qa (Qj hi (Qa (Qj hj (ask _ _ _ _ hk ui uj q))))))
structure Rst (κ:SortKind)(U:Keyed->Prop)(pre S:List Keyed)(st:SortSt):Prop where
 k:kindOf st=κ
 f:failedOf st=none
 e:(arrOf st).toList=pre++S
 u:∀x∈S,U x
 nd:S.Nodup
theorem Rst.sz (r:Rst κ U pre S st):(arrOf st).size=pre.length+S.length:=by
 have:=congrArg zf8 r.e
 simpa using this
theorem Rst.H (r:Rst κ U pre S st):Srt.H (arrOf st) (pre.length+i)=Srt.H S.toArray i:=Qn2 r.e
theorem Rst.uH (r:Rst κ U pre S st)(h:i<S.length):U (Srt.H S.toArray i):=r.u _ (Q5 (a:=S.toArray) (by simpa using h))
theorem Rst.ne (r:Rst κ U pre S st){j:Nat}(hi:i<S.length)(hj:j<S.length)(h:i≠j):Srt.H S.toArray i≠Srt.H S.toArray j:=fun z=>by
 have e1:=QdN (a:=S.toArray) (show i<S.toArray.size by simpa using hi)
 have e2:=QdN (a:=S.toArray) (show j<S.toArray.size by simpa using hj)
 rw[z45,z03 hi] at e1
 rw[z45,z03 hj] at e2
 rw[← z27 e1,← z27 e2] at z
 exact h ((zd0 r.nd).mp z)
theorem Rst.ask (r:Rst κ U pre S st)(ask:Ask J M A E κ U L){u v:Nat}{Q:Option Bool->SortSt->Prop}(hu:u<S.length)(hv:v<S.length)(q:Q (some (L (Srt.H S.toArray u) (Srt.H S.toArray v))) st):wpT J M A E (ltAt' (pre.length+u) (pre.length+v)) Q st:=by
 refine QgP ask r.k (by rw[r.sz];omega) (by rw[r.sz];omega) (by rw[r.H];exact r.uH hu) (by rw[r.H];exact r.uH hv) ?_
 rw[r.H,r.H];exact q
theorem QaM (h:n<S.length):S.take (n+1)=S.take n++[H S.toArray n]:=by
 have e:=QdN (a:=S.toArray) (show n<S.toArray.size by simpa using h)
 rw[z45,z03 h] at e
 rw[zo3 h,z27 e]
theorem QdP {y:Keyed}(hn:n<=S.length)(hy:y∈S.take n):∃j,j<n/\y=H S.toArray j:=Qas (a:=S.toArray) (by simpa using hn) (zc9.mpr hy)
theorem Qcu (o:Od U L){L':Keyed->Keyed->Bool}(tr:∀x y z,L' x y=true->L' y z=true->L' x z=true)(h0:0<n)(h:n<S.length)(s:Sd L' (S.take n))(c:L' (H S.toArray (n - 1)) (H S.toArray n)=true):Sd L' (S.take (n+1)):=by
 rw[QaM h]
 refine z36.mpr ⟨s,z66.mpr ⟨(fun _ z=>nomatch z),.nil⟩,fun x hx y hy=>?_⟩
 rw[z19.mp hy]
 rw[show n=(n - 1)+1 by omega,QaM (by omega)] at hx s
 rcases z04.mp hx with hx|hx
 ·have:=(z36.mp s).2.2 x hx _ (z19.mpr rfl)
  exact tr _ _ _ this c
 ·rw[z19.mp hx];exact c
theorem Qc6 (r:Rst κ U pre S st)(o:Od U L)(h0:0<n)(h:n<S.length)(c:L (Srt.H S.toArray n) (Srt.H S.toArray (n - 1))=false):L (Srt.H S.toArray (n - 1)) (Srt.H S.toArray n)=true:=
 o.to _ _ (r.uH h) (r.uH (by omega)) (r.ne h (by omega) (by omega)) c
theorem Qcv {X Y:List Keyed}(e:a.toList=pre++(X++Y)):(mirror a pre.length (pre.length+X.length) ((pre.length+X.length - pre.length) / 2)).toList=pre++(X.reverse++Y):=by
 have sz:a.size=pre.length+(X.length+Y.length):=by
  have:=congrArg zf8 e
  simpa using this
 refine ze4 fun k=>?_
 have g1:∀u,(pre++(X++Y))[u]? = if u<pre.length then pre[u]? else if u<pre.length+X.length then X[u - pre.length]? else Y[u - pre.length - X.length]?:=fun u=>by
  by_cases c:u<pre.length
  ·rw[if_pos c,z41 c]
  ·rw[if_neg c,z35 (by omega)]
   by_cases c2:u<pre.length+X.length
   ·rw[if_pos c2,z41 (by omega)]
   ·rw[if_neg c2,z35 (by omega)]
 have g2:(pre++(X.reverse++Y))[k]? = if k<pre.length then pre[k]? else if k<pre.length+X.length then X.reverse[k - pre.length]? else Y[k - pre.length - X.length]?:=by
  by_cases c:k<pre.length
  ·rw[if_pos c,z41 c]
  ·rw[if_neg c,z35 (by omega)]
   by_cases c2:k<pre.length+X.length
   ·rw[if_pos c2,z41 (by rw[za3];omega)]
   ·rw[if_neg c2,z35 (by rw[za3];omega),za3]
 rw[z13,getElem?_mirror_all (by omega),← z13,← z13,e,g1,g1,g2]
 by_cases c:pre.length<=k/\k<pre.length+X.length
 ·rw[if_pos c,if_neg (by omega),if_pos (by omega),if_neg (by omega),if_pos c.2,List.getElem?_reverse (by omega)]
  congr 1;omega
 ·rw[if_neg c]
  by_cases c1:k<pre.length
  ·rw[if_pos c1,if_pos c1]
  ·rw[if_neg c1,if_neg c1,if_neg (by omega),if_neg (by omega)]
theorem QeL (ask:Ask J M A E κ U L)(o:Od U L)(r:Rst κ U pre S st)(h0:0<S.length){Q:Option Nat->SortSt->Prop}
  (K:∀n st' S',Rst κ U pre S' st'->pendingOf st'=pendingOf st->S'.Perm S->0<n->n<=S'.length->Sd L (S'.take n)->Q (some n) st'):wpT J M A E (countRun' pre.length S.length) Q st:=by
 rw[countRun'_eq]
 have asc:∀{st:SortSt} {S:List Keyed} (r:Rst κ U pre S st) (n0:Nat),0<n0->n0<=S.length->Sd L (S.take n0)->∀{f:Nat->Option (Option Nat)×Nat->StateT SortSt Sem (ForInStep (Option (Option Nat)×Nat))},
   (∀i n (R:ForInStep (Option (Option Nat)×Nat)->SortSt->Prop),0<n->n<S.length->(L (H S.toArray n) (H S.toArray (n - 1))=true->R (.done (none,n)) st)->(L (H S.toArray n) (H S.toArray (n - 1))=false->R (.yield (none,n+1)) st)->wpT J M A E (f i (none,n)) R st)->
   wpT J M A E (forIn [n0:S.length] (none,n0) f) (fun c st'=>∃n,c=(none,n)/\st=st'/\n0<=n/\n<=S.length/\Sd L (S.take n)/\(n<S.length->L (H S.toArray n) (H S.toArray (n - 1))=true)) st:=fun{st S} r n0 n1 n2 s f hf=>by
  refine QaJ n2 (I:=fun i c st'=>c=(none,i)/\st=st'/\n0<=i/\Sd L (S.take i)) ?_ ?_ ⟨rfl,rfl,z18 _,s⟩
  ·rintro i c st' i1 i2 ⟨rfl,rfl,i3,s⟩
   refine hf i i _ (by omega) i2 (fun c=>⟨i,rfl,rfl,i3,by omega,s,fun _=>c⟩) (fun c=>⟨rfl,rfl,by omega,Qcu o o.tr (by omega) i2 s (Qc6 r o (by omega) i2 c)⟩)
  ·rintro c st' ⟨rfl,rfl,i3,s⟩
   exact⟨S.length,rfl,rfl,i3,z18 _,s,fun h=>absurd h (zc6 _)⟩
 have s1:Sd L (S.take 1):=by
  rw[QaM (n:=0) h0,zt3]
  exact z66.mpr ⟨(fun _ z=>nomatch z),.nil⟩
 refine Qa (Qq (asc r 1 (by omega) h0 s1 fun i n R n1 n2 h3 h4=>?_) ?_)
 ·dsimp only
  rw[show pre.length+n - 1=pre.length+(n - 1) by omega]
  refine Qa (r.ask ask n2 (by omega) ?_)
  cases c:L (H S.toArray n) (H S.toArray (n - 1)) with
  |true=>exact Qc (h3 c)
  |false=>exact Qc (h4 c)
 rintro c st' ⟨n,rfl,rfl,n1,n2,s,hc⟩
 refine Qe (fun c=>Qc (K n _ S r rfl (ze0 _) (by omega) n2 s)) (fun c=>?_)
 have c:¬ n=S.length:=by simpa using c
 refine Qe (fun c1=>?_) (fun c1=>?_)
 ·rw[show pre.length+n - 1=pre.length+(n - 1) by omega]
  have q:L (H S.toArray 0) (H S.toArray (n - 1))=true:=by
   have:=QhB (a:=(S.take n).toArray) s (show 0<n - 1 by omega) (by simp;omega)
   have h1:∀u,u<n->H (S.take n).toArray u=H S.toArray u:=fun u hu=>by
    rw[H,H,z24,z24,z45,z45,z95 hu]
   rw[h1 0 (by omega),h1 (n - 1) (by omega)] at this
   exact this
  refine Qa (r.ask ask (u:=0) (v:=n - 1) (by omega) (by omega) ?_)
  rw[q]
  dsimp only
  rw[if_pos rfl]
  exact Qc (K n _ S r rfl (ze0 _) (by omega) n2 s)
 have e1:n=1:=by omega
 subst e1
 have d1:=hc (by omega)
 refine Qa (Yb ?_)
 have sd1:Sd (fl L) (S.take 1):=by
  rw[QaM (n:=0) h0,zt3]
  exact z66.mpr ⟨(fun _ z=>nomatch z),.nil⟩
 have trf:∀x y z,fl L x y=true->fl L y z=true->fl L x z=true:=fun x y z h1 h2=>o.tr z y x h2 h1
 have sd2:Sd (fl L) (S.take 2):=Qcu o trf (n:=1) (by omega) (by omega) sd1 d1
 refine Qa (Qq (QaJ (a:=1+1) (by omega) (I:=fun i c st'=>c=(none,i,0)/\st=st'/\2<=i/\Sd (fl L) (S.take i)) (Q:=fun c st'=>∃n,c=(none,n,0)/\st=st'/\2<=n/\n<=S.length/\Sd (fl L) (S.take n)) ?_ ?_ ⟨rfl,rfl,z18 _,sd2⟩) ?_)
 ·rintro i c st' i1 i2 ⟨rfl,rfl,i3,s⟩
  dsimp only
  rw[show pre.length+i - 1=pre.length+(i - 1) by omega]
  refine Qa (r.ask ask i2 (by omega) ?_)
  cases c:L (H S.toArray i) (H S.toArray (i - 1)) with
  |true=>
   dsimp only
   rw[if_pos rfl,if_neg (by omega)]
   exact Qc ⟨rfl,rfl,by omega,Qcu o trf (by omega) i2 s c⟩
  |false=>
   dsimp only
   rw[if_neg (by decide)]
   refine Qa (r.ask ask (by omega) i2 ?_)
   rw[Qc6 r o (by omega) i2 c]
   dsimp only
   rw[if_pos rfl]
   exact Qc ⟨i,rfl,rfl,i3,by omega,s⟩
 ·rintro c st' ⟨rfl,rfl,i3,s⟩
  exact⟨S.length,rfl,rfl,i3,z18 _,s⟩
 rintro c st' ⟨n,rfl,rfl,n1,n2,s⟩
 dsimp only
 rw[if_neg (by omega)]
 rw[reverseSlice'_eq]
 refine Qa (QF ?_)
 have r2:Rst κ U pre ((S.take n).reverse++S.drop n) (setArr st (mirror (arrOf st) pre.length (pre.length+n) ((pre.length+n - pre.length) / 2))):=by
  have pm:((S.take n).reverse++S.drop n).Perm S:=by
   have:=(ze2 (S.take n)).append_right (S.drop n)
   rw[z44] at this
   exact this
  refine⟨r.k,r.f,?_,fun x hx=>r.u x (pm.mem_iff.mp hx),pm.nodup_iff.mpr r.nd⟩
  have ln:(S.take n).length=n:=by rw[z39];omega
  have:=Qcv (a:=arrOf st) (pre:=pre) (X:=S.take n) (Y:=S.drop n) (by rw[z44];exact r.e)
  rw[ln] at this
  exact this
 have pm:((S.take n).reverse++S.drop n).Perm S:=by
  have:=(ze2 (S.take n)).append_right (S.drop n)
  rw[z44] at this
  exact this
 have sl:((S.take n).reverse++S.drop n).length=S.length:=pm.length_eq
 have st1:Sd L (((S.take n).reverse++S.drop n).take n):=by
  rw[zq1 (by rw[za3,z39];omega),z76 (by rw[za3,z39];omega)]
  exact QeK s
 generalize hS2:(S.take n).reverse++S.drop n=S2 at r2 pm sl st1
 have hp:pendingOf (setArr st (mirror (arrOf st) pre.length (pre.length+n) ((pre.length+n - pre.length) / 2)))=pendingOf st:=rfl
 generalize setArr st (mirror (arrOf st) pre.length (pre.length+n) ((pre.length+n - pre.length) / 2))=st2 at r2 hp ⊢
 rw[← sl]
 refine Qa (Qq (asc r2 n (by omega) (by omega) st1 fun i m R m1 m2 h3 h4=>?_) ?_)
 ·dsimp only
  rw[show pre.length+m - 1=pre.length+(m - 1) by omega]
  refine Qa (r2.ask ask m2 (by omega) ?_)
  cases c:L (H S2.toArray m) (H S2.toArray (m - 1)) with
  |true=>exact Qc (h3 c)
  |false=>exact Qc (h4 c)
 rintro c st3 ⟨m,rfl,rfl,m1,m2,s3,_⟩
 exact Qc (K m _ S2 r2 hp pm (by omega) m2 s3)
end
section
variable {J:Shared->Prop}{M:Model}{A:Around}{E:Value->Shared->Prop}{st:SortSt}{κ:SortKind}{U:Keyed->Prop}{L:Keyed->Keyed->Bool}{a:Array Keyed}{pre S:List Keyed}{i n:Nat}
theorem Qcw {P R t:List Keyed}{x:Keyed}(e:a.toList=P++(R++(x::t))):(bubble a (P.length+R.length) R.length).toList=P++(x::(R++t)):=by
 have sz:a.size=P.length+(R.length+(t.length+1)):=by
  have:=congrArg zf8 e
  simpa using this
 refine ze4 fun k=>?_
 have g1:∀u,(P++(R++(x::t)))[u]? = if u<P.length then P[u]? else if u<P.length+R.length then R[u - P.length]? else(x::t)[u - P.length - R.length]?:=fun u=>by
  by_cases c:u<P.length
  ·rw[if_pos c,z41 c]
  ·rw[if_neg c,z35 (by omega)]
   by_cases c2:u<P.length+R.length
   ·rw[if_pos c2,z41 (by omega)]
   ·rw[if_neg c2,z35 (by omega)]
 have g2:(P++(x::(R++t)))[k]? = if k<P.length then P[k]? else if k=P.length then some x else if k<=P.length+R.length then R[k - P.length - 1]? else t[k - P.length - 1 - R.length]?:=by
  by_cases c:k<P.length
  ·rw[if_pos c,z41 c]
  ·rw[if_neg c,z35 (by omega)]
   by_cases c1:k=P.length
   ·rw[if_pos c1,c1,zi7];rfl
   ·rw[if_neg c1,show k - P.length=(k - P.length - 1)+1 by omega,zg3,zi8]
    by_cases c2:k<=P.length+R.length
    ·rw[if_pos c2,z41 (by omega)]
    ·rw[if_neg c2,z35 (by omega)]
 rw[z13,getElem?_bubble (by omega) _ (by omega),← z13,← z13,← z13,e,g1,g1,g1,g2,zi8]
 by_cases c1:k=P.length
 ·rw[if_pos c1,if_neg (by omega),if_neg (by omega),if_neg (by omega),if_pos c1,za0,zi7];rfl
 ·rw[if_neg c1]
  by_cases c2:P.length<k/\k<=P.length+R.length
  ·rw[if_pos c2,if_neg (by omega),if_pos (by omega),if_neg (by omega),if_neg c1,if_pos c2.2]
   congr 1;omega
  ·rw[if_neg c2]
   by_cases c3:k<P.length
   ·rw[if_pos c3,if_pos c3]
   ·rw[if_neg c3,if_neg (by omega),if_neg c3,if_neg c1,if_neg (by omega),show k - P.length - R.length=(k - P.length - 1 - R.length)+1 by omega,zg3]
theorem Qiz (ask:Ask J M A E κ U L)(o:Od U L)(r:Rst κ U pre S st){ok:Nat}(h1:0<ok)(h2:ok<=n)(h3:n<=S.length)(s:Sd L (S.take ok)){Q:Bool->SortSt->Prop}
  (K:∀st' S',Rst κ U pre S' st'->pendingOf st'=pendingOf st->S'.Perm S->Sd L (S'.take n)->Q true st'):wpT J M A E (binarySort' pre.length n ok) Q st:=by
 rw[binarySort'_eq,show max ok 1=ok by omega]
 refine Qa (Qq (QaJ h2 (I:=fun k c st'=>c=(none,())/\∃S',Rst κ U pre S' st'/\pendingOf st'=pendingOf st/\S'.Perm S/\Sd L (S'.take k)) (Q:=fun c st'=>c=(none,())/\∃S',Rst κ U pre S' st'/\pendingOf st'=pendingOf st/\S'.Perm S/\Sd L (S'.take n)) ?_ (fun _ _ h=>h) ⟨rfl,S,r,rfl,ze0 _,s⟩) ?_)
 ·rintro k c st1 k1 k2 ⟨rfl,S1,r1,hp,pm,s⟩
  have sl:=pm.length_eq
  refine Qa (Qq (QX (I:=fun y c st'=>∃l q,c=(none,l,q)/\st1=st'/\l<=q/\q<=k/\q - l<=k - y/\(∀u,u<l->L (H S1.toArray u) (H S1.toArray k)=true)/\(∀u,q<=u->u<k->L (H S1.toArray k) (H S1.toArray u)=true))
   (Q:=fun c st'=>∃l q,c=(none,l,q)/\st1=st'/\l<=k/\(∀u,u<l->L (H S1.toArray u) (H S1.toArray k)=true)/\(∀u,l<=u->u<k->L (H S1.toArray k) (H S1.toArray u)=true)) ?_ ?_ ⟨0,k,rfl,rfl,by omega,by omega,by omega,(fun u h=>absurd h (zd9 _)),fun u a b=>absurd b (by omega)⟩) ?_)
  ·rintro y c st2 hy ⟨l,q,rfl,rfl,g1,g2,g3,g4,g5⟩
   dsimp only
   refine Qe (fun c=>Qc ⟨l,q,rfl,rfl,by omega,g4,fun u a b=>g5 u (by omega) b⟩) (fun c=>?_)
   have hm:(l+q) / 2<q/\l<=(l+q) / 2:=by omega
   have srt:∀u v,u<v->v<k->L (H S1.toArray u) (H S1.toArray v)=true:=fun u v a b=>by
    have:=QhB (a:=(S1.take k).toArray) s a (by simp;omega)
    have h1:∀u,u<k->H (S1.take k).toArray u=H S1.toArray u:=fun u hu=>by
     rw[H,H,z24,z24,z45,z45,z95 hu]
    rw[h1 u (by omega),h1 v b] at this
    exact this
   refine Qa (r1.ask ask (u:=k) (v:=(l+q) / 2) (by omega) (by omega) ?_)
   cases e:L (H S1.toArray k) (H S1.toArray ((l+q) / 2)) with
   |true=>
    refine Qc ⟨l,_,rfl,rfl,by omega,by omega,by omega,g4,fun u a b=>?_⟩
    by_cases z:u=(l+q) / 2
    ·subst z;exact e
    ·exact o.tr _ _ _ e (srt _ u (by omega) b)
   |false=>
    have e2:=o.to _ _ (r1.uH (by omega)) (r1.uH (by omega)) (r1.ne (i:=k) (j:=(l+q) / 2) (by omega) (by omega) (by omega)) e
    refine Qc ⟨_,q,rfl,rfl,by omega,g2,by omega,fun u a=>?_,g5⟩
    by_cases z:u=(l+q) / 2
    ·subst z;exact e2
    ·exact o.tr _ _ _ (srt u _ (show u<(l+q) / 2 by omega) (by omega)) e2
  ·rintro c st2 ⟨l,q,rfl,rfl,g1,g2,g3,g4,g5⟩
   exact⟨l,q,rfl,rfl,by omega,g4,fun u a b=>g5 u (by omega) b⟩
  rintro c st2 ⟨l,q,rfl,rfl,l1,g4,g5⟩
  dsimp only
  rw[moveDown'_eq]
  refine Qa (QF (Qc ⟨rfl,?_⟩))
  have hk:k<S1.length:=by omega
  have eS:S1=S1.take l++((S1.take k).drop l++(H S1.toArray k::S1.drop (k+1))):=by
   have a1:S1.take k=S1.take l++(S1.take k).drop l:=by
    have:=z44 l (S1.take k)
    rw[zt4,zs9 l1] at this
    exact this.symm
   have a2:=Qc2 (a:=S1.toArray) (i:=k) (by simpa using hk)
   have a2:S1.drop k=H S1.toArray k::S1.drop (k+1):=a2
   rw[← a2,← z15,← a1,z44]
  have lP:(S1.take l).length=l:=by rw[z39];omega
  have lR:((S1.take k).drop l).length=k - l:=by rw[z96,z39];omega
  have mP:∀y∈S1.take l,∃u,u<l/\y=H S1.toArray u:=fun y hy=>QdP (by omega) hy
  have mR:∀y∈(S1.take k).drop l,∃u,l<=u/\u<k/\y=H S1.toArray u:=fun y hy=>by
   obtain⟨u,u1,u2,e⟩:=Yc (a:=(S1.take k).toArray) hy
   have u2:u<k:=by simp at u2;omega
   refine⟨u,u1,u2,?_⟩
   rw[e,H,H,z24,z24,z45,z45,z95 u2]
  have sPR:Sd L (S1.take l++(S1.take k).drop l):=by
   have:=z44 l (S1.take k)
   rw[zt4,zs9 l1] at this
   rw[this];exact s
  have eA:=r1.e
  generalize S1.take l=P at eS lP mP sPR
  generalize (S1.take k).drop l=R at eS lR mR sPR
  generalize hx:H S1.toArray k=x at eS g4 g5
  generalize S1.drop (k+1)=t at eS
  have pm2:(P++(x::(R++t))).Perm S1:=by
   rw[eS]
   refine zd2 P ?_
   exact(List.perm_middle (l₁:=R)).symm
  refine⟨P++(x::(R++t)),⟨r1.k,r1.f,?_,fun y hy=>r1.u y (pm2.mem_iff.mp hy),pm2.nodup_iff.mpr r1.nd⟩,hp,pm2.trans pm,?_⟩
  ·rw[eS] at eA
   have eB:(arrOf st1).toList=(pre++P)++(R++(x::t)):=by rw[eA,z15]
   have:=Qcw eB
   rw[z10,lP,lR] at this
   show(bubble (arrOf st1) (pre.length+k) (pre.length+k - (pre.length+l))).toList=_
   rw[show pre.length+k - (pre.length+l)=k - l by omega]
   rw[show pre.length+l+(k - l)=pre.length+k by omega] at this
   rw[this,z15]
  ·have ek:(P++(x::(R++t))).take (k+1)=P++(x::R):=by
    have:(P++(x::(R++t)))=(P++(x::R))++t:=by rw[z15];rfl
    rw[this,List.take_left' (by rw[z10,z25,lP,lR];omega)]
   rw[ek]
   obtain⟨s1,s2,s3⟩:=z36.mp sPR
   refine z36.mpr ⟨s1,z66.mpr ⟨fun y hy=>?_,s2⟩,fun y hy w hw=>?_⟩
   ·obtain⟨u,u1,u2,rfl⟩:=mR y hy
    exact g5 u u1 u2
   ·rcases z26.mp hw with rfl|hw
    ·obtain⟨u,hu,rfl⟩:=mP y hy
     exact g4 u hu
    ·exact s3 y hy w hw
 ·rintro c st1 ⟨rfl,S1,r1,hp,pm,s⟩
  exact Qc (K st1 S1 r1 hp pm s)
end
def layR:Nat->List (List Keyed)->List (Nat×Nat)
 |_,[]=>[]
 |n,r::rs=>(n,r.length)::layR (n+r.length) rs
abbrev p2 (t:Nat×Nat×Nat):Nat×Nat:=(t.1,t.2.1)
theorem Vy:∀(n:Nat) (a b:List (List Keyed)),layR n (a++b)=layR n a++layR (n+a.flatten.length) b
 |n,[],b=>by simp[layR]
 |n,r::a,b=>by
  show(n,r.length)::layR (n+r.length) (a++b)=(n,r.length)::(layR (n+r.length) a++_)
  rw[Vy (n+r.length) a b,ze3,z10,zv3]
theorem QaN:∀(n:Nat) (a:List (List Keyed)),(layR n a).length=a.length
 |_,[]=>rfl
 |n,r::a=>by show(layR _ a).length+1=_;rw[QaN];rfl
section
variable {J:Shared->Prop}{M:Model}{A:Around}{E:Value->Shared->Prop}{st:SortSt}{κ:SortKind}{U:Keyed->Prop}{L:Keyed->Keyed->Bool}{T rest:List Keyed}{rs r1 r2:List (List Keyed)}{X Y:List Keyed}{i n:Nat}
structure Rn (κ:SortKind)(L:Keyed->Keyed->Bool)(T:List Keyed)(rs:List (List Keyed))(rest:List Keyed)(st:SortSt):Prop where
 k:kindOf st=κ
 f:failedOf st=none
 e:(arrOf st).toList=rs.flatten++rest
 pm:(arrOf st).toList.Perm T
 p:(pendingOf st).toList.map p2=layR 0 rs
 s:∀r∈rs,Sd L r/\0<r.length
theorem Rn.psz (r:Rn κ L T rs rest st):(pendingOf st).size=rs.length:=by
 have:=congrArg zf8 r.p
 rw[z14,QaN] at this
 simpa using this
theorem Rn.merge (ask:Ask J M A E κ U L)(o:Od U L)(uT:∀x∈T,U x)(nT:T.Nodup)(r:Rn κ L T (r1++X::Y::r2) rest st)(hi:r1.length=i){Q:Bool->SortSt->Prop}
  (K:∀st' Z,Rn κ L T (r1++Z::r2) rest st'->Z.length=X.length+Y.length->Q true st'):wpT J M A E (mergeAt' i) Q st:=by
 have ea:(arrOf st).toList=r1.flatten++(X++(Y++(r2.flatten++rest))):=by
  rw[r.e];simp only[zc1,ze3,z15]
 have hp:=r.p
 rw[Vy,z89] at hp
 have hp':(pendingOf st).toList.map p2=layR 0 r1++((r1.flatten.length,X.length)::(r1.flatten.length+X.length,Y.length)::layR (r1.flatten.length+X.length+Y.length) r2):=hp
 obtain⟨P1,Pr,eP,q1,q2⟩:=List.map_eq_append_iff.mp hp'
 obtain⟨x,Pr,rfl,q3,q4⟩:=zw9.mp q2
 obtain⟨y,P2,rfl,q5,q6⟩:=zw9.mp q4
 obtain⟨x1,x2,x3⟩:=x
 obtain⟨y1,y2,y3⟩:=y
 obtain⟨rfl,rfl⟩:=zv1 q3
 obtain⟨rfl,rfl⟩:=zv1 q5
 have l1:P1.length=i:=by
  have:=congrArg zf8 q1
  rw[z14,QaN] at this
  rw[this,hi]
 have g1:(pendingOf st)[i]? = some (r1.flatten.length,X.length,x3):=by
  rw[← z13,eP,← l1,z35 (z18 _),zi7];rfl
 have g2:(pendingOf st)[i+1]? = some (r1.flatten.length+X.length,Y.length,y3):=by
  rw[← z13,eP,← l1,z35 (by omega),za0];rfl
 have hX:=r.s X (z01 _ z12)
 have hY:=r.s Y (z01 _ (z09 _ z12))
 have mem:∀v,v∈X++Y->v∈T:=fun v hv=>r.pm.mem_iff.mp (by
  rw[ea]
  rcases z04.mp hv with z|z
  ·exact z01 _ (z08 _ z)
  ·exact z01 _ (z01 _ (z08 _ z)))
 have nd:(r1.flatten++(X++(Y++(r2.flatten++rest)))).Nodup:=by rw[← ea];exact r.pm.nodup_iff.mpr nT
 have ne:∀v∈X,∀w∈Y,v≠w:=fun v hv w hw e=>by
  have n2:=(z07.mp nd).2.1
  exact(z07.mp n2).2.2 v hv w (z08 _ hw) e
 refine Qct ask o r.k r.f ea g1 g2 hX.1 hY.1 hX.2 hY.2 (fun v hv=>uT v (mem v (z08 _ hv))) (fun v hv=>uT v (mem v (z01 _ hv))) ne fun st' Z z1 z2 z3 z4 z5 z6=>?_
 have lZ:Z.length=X.length+Y.length:=by rw[z4.length_eq,z10]
 refine K st' Z ⟨z1,z2,?_,?_,?_,fun v hv=>?_⟩ lZ
 ·rw[z3];simp only[zc1,ze3,z15]
 ·rw[z3]
  refine zj5 ?_ r.pm
  rw[ea]
  refine zd2 _ ?_
  rw[← z15 X]
  exact z4.append_right _
 ·have e6:(pendingOf st').toList=P1++((r1.flatten.length,X.length+Y.length,x3)::P2):=by
   rw[z6,Array.toList_eraseIdxIfInBounds,zs2,eP,← l1,zv8 _ _ (z18 _),zi7,List.eraseIdx_append_of_length_le (by omega),za0]
   rfl
  rw[e6,z50,q1,z30,q6,Vy,z89]
  show layR 0 r1++((r1.flatten.length,X.length+Y.length)::_)=layR 0 r1++((r1.flatten.length,Z.length)::layR (r1.flatten.length+Z.length) r2)
  rw[lZ,zv3]
 ·rcases z04.mp hv with z|z
  ·exact r.s v (z08 _ z)
  ·rcases z26.mp z with rfl|z
   ·exact⟨z5,by rw[lZ];have:=hX.2;omega⟩
   ·exact r.s v (z01 _ (z09 _ (z09 _ z)))
theorem V2 (h:i+1<rs.length):∃r1 X Y r2,rs=r1++X::Y::r2/\r1.length=i:=by
 refine⟨rs.take i,rs[i],rs[i+1],rs.drop (i+1+1),?_,by rw[z39];omega⟩
 rw[← z93,← z93,z44]
theorem QiA (h:∀r∈rs,Sd L r/\0<r.length):rs.length<=rs.flatten.length:=by
 induction rs with
 |nil=>exact z18 _
 |cons r rs ih=>
  rw[ze3,z10,z25]
  have:=ih fun x hx=>h x (z09 _ hx)
  have:=(h r z12).2
  omega
theorem QhF {a:Array (Nat×Nat×Nat)}{i:Nat}{f:Nat×Nat×Nat->Nat×Nat×Nat}(h:∀t,p2 (f t)=p2 t):(a.modify i f).toList.map p2=a.toList.map p2:=by
 refine ze4 fun k=>?_
 rw[z31,z31,z13,z13,Array.getElem?_modify]
 split
 ·rw[Option.map_map]
  congr 1
  funext t
  exact h t
 ·rfl
theorem QgQ (ask:Ask J M A E κ U L)(o:Od U L)(uT:∀x∈T,U x)(nT:T.Nodup)(hk:kindOf st=κ)(hf:failedOf st=none)(hp:pendingOf st = #[])(ea:(arrOf st).toList=T)(h1:0<T.length){Q:Unit->SortSt->Prop}
  (K:∀st',failedOf st'=none->(arrOf st').toList.Perm T->Sd L (arrOf st').toList->Q () st'):wpT J M A E sortRuns' Q st:=by
 rw[sortRuns'_eq]
 refine Qa (Q4 ?_)
 have sz:(arrOf st).size=T.length:=by rw[← ea];simp
 dsimp only
 rw[sz]
 generalize minRun' T.length T.length 0=mr
 refine Qa (Qq (QX (I:=fun x c st'=>∃rs rest,c=(none,rs.flatten.length)/\x<=rs.flatten.length/\Rn κ L T rs rest st') (Q:=fun c st'=>∃rs n,c=(none,n)/\Rn κ L T rs [] st') ?_ ?_ ⟨[],T,rfl,z18 _,⟨hk,hf,ea,by rw[ea],by rw[hp];rfl,fun _ z=>nomatch z⟩⟩) ?_)
 ·rintro x c st1 hx ⟨rs,rest,rfl,hx2,r⟩
  have tl:rs.flatten.length+rest.length=T.length:=by rw[← r.pm.length_eq,r.e,z10]
  refine Qe (fun c=>Qc ?_) (fun c=>?_)
  ·have:rest=[]:=zq2 (by omega)
   subst this
   exact⟨rs,_,rfl,r⟩
  rw[show T.length - rs.flatten.length=rest.length by omega]
  have Qqd:∀x∈rest,x∈T:=fun x hx=>r.pm.mem_iff.mp (by rw[r.e];exact z01 _ hx)
  have ndR:rest.Nodup:=(z07.mp (show(rs.flatten++rest).Nodup by rw[← r.e];exact r.pm.nodup_iff.mpr nT)).2.1
  have q0:Rst κ U rs.flatten rest st1:=⟨r.k,r.f,r.e,fun x hx=>uT x (Qqd x hx),ndR⟩
  have again:∀{st2:SortSt} {S2:List Keyed} {m:Nat},Rst κ U rs.flatten S2 st2->pendingOf st2=pendingOf st1->S2.Perm rest->0<m->m<=S2.length->Sd L (S2.take m)->Rn κ L T rs S2 st2:=fun{st2 S2 m} r2 e pm _ _ _=>by
   refine⟨r2.k,r2.f,r2.e,?_,by rw[e];exact r.p,r.s⟩
   rw[r2.e]
   refine(pm.append_left _).trans ?_
   rw[← r.e];exact r.pm
  have more:∀{st2:SortSt} {S2:List Keyed} {m:Nat} {rs2:List (List Keyed)},Rn κ L T rs2 S2 st2->rs2.flatten.length=rs.flatten.length->0<m->m<=S2.length->Sd L (S2.take m)->∃rs3 QdQ,((none,rs.flatten.length+m):Option Unit×Nat)=(none,rs3.flatten.length)/\x+1<=rs3.flatten.length/\Rn κ L T rs3 QdQ (setPending st2 ((pendingOf st2).push (rs.flatten.length,m,0))):=fun{st2 S2 m rs2} r2 e m1 m2 s=>by
   have lt:(S2.take m).length=m:=by rw[z39];omega
   have fl:(rs2++[S2.take m]).flatten.length=rs.flatten.length+m:=by rw[zc1,z10,e];simp[m2]
   refine⟨rs2++[S2.take m],S2.drop m,by rw[fl],by rw[fl];omega,r2.k,r2.f,?_,r2.pm,?_,fun v hv=>?_⟩
   ·show(arrOf st2).toList=_
    rw[r2.e,zc1]
    simp
   ·show((pendingOf st2).push _).toList.map p2=_
    rw[z40,z50,r2.p,Vy,z89,e]
    show layR 0 rs2++[(rs.flatten.length,m)]=layR 0 rs2++[(rs.flatten.length,(S2.take m).length)]
    rw[lt]
   ·rcases z04.mp hv with z|z
    ·exact r2.s v z
    ·rw[z19.mp z];exact⟨s,by rw[lt];exact m1⟩
  refine Qa (QeL ask o q0 (by omega) fun m st2 S2 t1 t2 t3 t4 t5 t6=>?_)
  refine Qe (fun c=>Qa (Yb (Qa (Qiz ask o t1 (n:=min rest.length mr) t4 (by rw[t3.length_eq] at t5;omega) (by rw[t3.length_eq];omega) t6 fun st3 S3 v1 v2 v3 v4=>?_)))) (fun c=>?_)
  ·rw[if_neg (by decide)]
   have m1:0<min rest.length mr:=by omega
   have m2:min rest.length mr<=S3.length:=by rw[v3.length_eq,t3.length_eq];omega
   have rn:=again v1 (v2.trans t2) (v3.trans t3) m1 m2 v4
   generalize min rest.length mr=m' at m1 m2 v4 ⊢
   refine Qa (Q4 ?_)
   cases hb:(pendingOf st3).back? with
   |none=>
    exact Qa (QF (Qc (more rn rfl m1 m2 v4)))
   |some t=>
    obtain⟨u1,u2,u3⟩:=t
    refine Qa (Qq (QX (I:=fun y c st'=>c=(none,())/\∃rs2,Rn κ L T rs2 S3 st'/\rs2.flatten.length=rs.flatten.length) (Q:=fun c st'=>c=(none,())/\∃rs2,Rn κ L T rs2 S3 st'/\rs2.flatten.length=rs.flatten.length) ?_ (fun _ _ h=>h) ⟨rfl,rs,rn,rfl⟩) ?_)
    ·rintro y c st4 hy ⟨rfl,rs2,r2,e2⟩
     refine Qa (Q4 ?_)
     have ps:=r2.psz
     by_cases c1:(pendingOf st4).size > 1
     ·rw[if_pos c1]
      cases hg:(pendingOf st4)[(pendingOf st4).size - 2]? with
      |none=>exact Qc ⟨rfl,rs2,r2,e2⟩
      |some v=>
       obtain⟨v1,v2,v3⟩:=v
       refine Qe (fun _=>Qc ⟨rfl,rs2,r2,e2⟩) (fun _=>?_)
       obtain⟨q1,X,Y,q2,e,li⟩:=V2 (rs:=rs2) (i:=(pendingOf st4).size - 2) (by omega)
       subst e
       refine Qa (r2.merge ask o uT nT li fun st5 Z rz lz=>?_)
       rw[if_neg (by decide)]
       refine Qc ⟨rfl,_,rz,?_⟩
       rw[← e2]
       simp only[zc1,ze3,z10]
       omega
     ·rw[if_neg c1]
      exact Qc ⟨rfl,rs2,r2,e2⟩
    ·rintro c st4 ⟨rfl,rs2,r2,e2⟩
     refine Qa (QF ?_)
     refine Qa (QF (Qc (more (rs2:=rs2) ⟨r2.k,r2.f,r2.e,r2.pm,?_,r2.s⟩ e2 m1 m2 v4)))
     rw[← r2.p]
     exact QhF fun _=>rfl
  ·have rn:=again t1 t2 t3 t4 t5 t6
   refine Qa (Q4 ?_)
   cases hb:(pendingOf st2).back? with
   |none=>
    exact Qa (QF (Qc (more rn rfl t4 t5 t6)))
   |some t=>
    obtain⟨u1,u2,u3⟩:=t
    refine Qa (Qq (QX (I:=fun y c st'=>c=(none,())/\∃rs2,Rn κ L T rs2 S2 st'/\rs2.flatten.length=rs.flatten.length) (Q:=fun c st'=>c=(none,())/\∃rs2,Rn κ L T rs2 S2 st'/\rs2.flatten.length=rs.flatten.length) ?_ (fun _ _ h=>h) ⟨rfl,rs,rn,rfl⟩) ?_)
    ·rintro y c st4 hy ⟨rfl,rs2,r2,e2⟩
     refine Qa (Q4 ?_)
     have ps:=r2.psz
     by_cases c1:(pendingOf st4).size > 1
     ·rw[if_pos c1]
      cases hg:(pendingOf st4)[(pendingOf st4).size - 2]? with
      |none=>exact Qc ⟨rfl,rs2,r2,e2⟩
      |some v=>
       obtain⟨v1,v2,v3⟩:=v
       refine Qe (fun _=>Qc ⟨rfl,rs2,r2,e2⟩) (fun _=>?_)
       obtain⟨q1,X,Y,q2,e,li⟩:=V2 (rs:=rs2) (i:=(pendingOf st4).size - 2) (by omega)
       subst e
       refine Qa (r2.merge ask o uT nT li fun st5 Z rz lz=>?_)
       rw[if_neg (by decide)]
       refine Qc ⟨rfl,_,rz,?_⟩
       rw[← e2]
       simp only[zc1,ze3,z10]
       omega
     ·rw[if_neg c1]
      exact Qc ⟨rfl,rs2,r2,e2⟩
    ·rintro c st4 ⟨rfl,rs2,r2,e2⟩
     refine Qa (QF ?_)
     refine Qa (QF (Qc (more (rs2:=rs2) ⟨r2.k,r2.f,r2.e,r2.pm,?_,r2.s⟩ e2 t4 t5 t6)))
     rw[← r2.p]
     exact QhF fun _=>rfl
 ·rintro c st1 ⟨rs,rest,rfl,hx2,r⟩
  have tl:rs.flatten.length+rest.length=T.length:=by rw[← r.pm.length_eq,r.e,z10]
  have:rest=[]:=zq2 (by omega)
  subst this
  exact⟨rs,_,rfl,r⟩
 rintro c st1 ⟨rs,n,rfl,r⟩
 have l0:rs.length<=T.length:=by
  have:=QiA r.s
  have e:=r.pm.length_eq
  rw[r.e,z61] at e
  omega
 refine Qa (Qq (QX (I:=fun x c st'=>∃rs,c=(none,())/\Rn κ L T rs [] st'/\(rs.length<=1\/rs.length<=T.length - x)) (Q:=fun c st'=>∃rs,c=(none,())/\Rn κ L T rs [] st'/\rs.length<=1) ?_ ?_ ⟨rs,rfl,r,.inr (by omega)⟩) ?_)
 ·rintro x c st2 hx ⟨rs,rfl,r,hl⟩
  refine Qa (Q4 ?_)
  have ps:=r.psz
  refine Qe (fun c=>Qc ⟨rs,rfl,r,by omega⟩) (fun c=>?_)
  have l2:2<=rs.length:=by omega
  have ok:∀i',i' + 1<rs.length->wpT J M A E (mergeAt' i') (fun r st'=>r=true/\∃rs,Rn κ L T rs [] st'/\rs.length<=T.length - (x+1)) st2:=fun i' h=>by
   obtain⟨r1,X,Y,r2,e,li⟩:=V2 h
   subst e
   refine r.merge ask o uT nT li fun st' Z rz _=>⟨rfl,_,rz,?_⟩
   simp only[z10,z25] at hl ⊢
   simp only[z10,z25] at l2
   omega
  refine Qa (Qq (ok _ ?_) ?_)
  ·rw[ps]
   repeat' split
   all_goals omega
  ·rintro b st3 ⟨rfl,rs',r',l'⟩
   rw[if_neg (by decide)]
   exact Qc ⟨rs',rfl,r',.inr l'⟩
 ·rintro c st2 ⟨rs,rfl,r,hl⟩
  exact⟨rs,rfl,r,by omega⟩
 rintro c st2 ⟨rs,rfl,r,hl⟩
 refine Qc (K st2 r.f r.pm ?_)
 have el:=r.pm.length_eq
 rw[r.e,z61] at el ⊢
 match rs,hl,r.s with
 | [],_,_=>exact .nil
 | [x],_,s=>
  have:=(s x z12).1
  simpa using this
end
end L2.Srt
namespace L2.Srt
open PySem PySem.W PySem.Calls PyProof.Rows
section
variable {prog:Program}{w:World}{A:Around}{E:Value->Shared->Prop}{s:Shared}
def Kp (h h':Heap):Prop:=∀b o,h.get? b=some o->h'.get? b=some o
theorem QeM {a:Addr}{vs:List Value}{n:Nat}{κ:SortKind}{lt:Nat->Nat->Bool}{h0:Heap}{P:PySem.Fin->Shared->Prop}(ho:s.heap.get? a=some (seqObj "list" vs.toArray n))(h0k:Kp h0 s.heap)(h0a:h0.get? a=none)(h2:2<=vs.length)(h64:vs.length<=4000)(nv:vs.Nodup)(o:Ord vs.length lt)
  (hk:∀(h':Heap) (tk:Nat) (Q:SortKind->Shared->Prop),Kp h0 h'->Q κ { s with heap:=h',toks:=tk }->wpAny (model prog w) A (keyKind' vs.toArray) Q (fun _ _=>False) { s with heap:=h',toks:=tk })
  (hc:∀(h':Heap) (tk i j:Nat) (Q:Bool->Shared->Prop),Kp h0 h'->i<vs.length->j<vs.length->(∀tk',Q (lt i j) { s with heap:=h',toks:=tk' })->wpAny (model prog w) A (keyLt' κ (vs.getD i z43) (vs.getD j z43)) Q (fun _ _=>False) { s with heap:=h',toks:=tk })
  (hQ:∀(h':Heap) (tk:Nat) (is:List Nat) (c:Nat),is.Perm (z47 vs.length)->is.Pairwise (fun i j=>lt i j=true)->Kp h0 h'->h'.get? a=some (seqObj "list" (is.map fun i=>vs.getD i z43).toArray c)->P (.done (.ret .none)) { s with heap:=h',toks:=tk }) :
  wpAny (model prog w) A (Builtin.«list.sort» ⟨[.ref a],[]⟩) P E s:=by
 have ha:a<s.heap.objs.size:=z33 ho
 have s1:=z65 s.heap a (z60 fun _=>(#[]:Array Value))
 obtain⟨e1,ho1⟩:∃e1,(s.heap.update a (z60 fun _=>(#[]:Array Value))).get? a=some (seqObj "list" #[] e1):=⟨_,get?_update_seq ho fun _=>#[]⟩
 have ne:∀b o,h0.get? b=some o->b≠a:=fun b o e z=>by rw[z,h0a] at e;cases e
 have kp3:Kp h0 (((s.heap.update a (z60 fun _=>(#[]:Array Value))).push (seqObj "tuple" vs.toArray 0)).push (seqObj "list" #[] 0)):=fun b x e=>
  z16 _ (z16 _ ((s1.2 b (ne b x e)).trans (h0k b x e)))
 have ho3:(((s.heap.update a (z60 fun _=>(#[]:Array Value))).push (seqObj "tuple" vs.toArray 0)).push (seqObj "list" #[] 0)).get? a=some (seqObj "list" #[] e1):=z16 _ (z16 _ ho1)
 rw[list_sort_plain]
 refine z00 (listItems_at ho rfl ?_)
 refine z00 (listUpdate_at ho rfl ?_ (by rw[z21,z55];omega) (z49 _))
 refine z00 (seqEpoch_at ho1 rfl ?_)
 refine z00 (wpAny_newTuple ?_ (by show vs.length<=_;rw[z55];omega))
 refine z00 (zx6 ?_ (z49 _))
 refine z82 ?_
 show wpAny (model prog w) A _ P E { s with heap:=((s.heap.update a (z60 fun _=>(#[]:Array Value))).push (seqObj "tuple" vs.toArray 0)).push (seqObj "list" #[] 0)}
 generalize ((s.heap.update a (z60 fun _=>(#[]:Array Value))).push (seqObj "tuple" vs.toArray 0)).push (seqObj "list" #[] 0)=h3 at kp3 ho3 ⊢
 dsimp only
 have hn2:¬ vs.toArray.size<2:=by rw[z21];omega
 rw[if_neg hn2,if_neg hn2]
 refine z00 (z99 (hk h3 s.toks (fun κ' s'=>κ'=κ/\s'={ s with heap:=h3 }) kp3 ⟨rfl,rfl⟩) (fun κ' s0 hk'=>?_) fun _ _ x=>x.elim)
 obtain⟨rfl,rfl⟩:=hk'
 obtain⟨g,hg⟩:∃g:Keyed->Nat,∀i,i<vs.length->g (vs.getD i z43,vs.getD i z43)=i:=by
  classical
  refine⟨fun x=>if h:∃i,i<vs.length/\vs.getD i z43=x.1 then h.choose else 0,fun i hi=>?_⟩
  have h:∃j,j<vs.length/\vs.getD j z43=vs.getD i z43:=⟨i,hi,rfl⟩
  dsimp only
  rw[dif_pos h]
  obtain⟨h1,h2⟩:=h.choose_spec
  generalize h.choose=c at h1 h2 ⊢
  rw[z22,z22,z03 h1,z03 hi] at h2
  exact(zd0 nv).mp h2
 have eT:vs.map (fun v=>(v,v))=(z47 vs.length).map fun i=>((vs.getD i z43,vs.getD i z43):Keyed):=by
  apply List.ext_getElem
  ·simp
  ·intro i h1 h2
   rw[z14] at h1
   simp[z22,z03 h1]
 have uT:∀x∈vs.map (fun v=>((v,v):Keyed)),∃i,i<vs.length/\x=(vs.getD i z43,vs.getD i z43):=fun x hx=>by
  rw[eT] at hx
  obtain⟨i,hi,rfl⟩:=z87.mp hx
  exact⟨i,z92.mp hi,rfl⟩
 have gT:(vs.map fun v=>((v,v):Keyed)).map g=z47 vs.length:=by
  rw[eT,zb8]
  conv=>rhs;rw[← List.map_id (z47 vs.length)]
  exact zf7 fun i hi=>hg i (z92.mp hi)
 have nT:(vs.map fun v=>((v,v):Keyed)).Nodup:=List.Pairwise.map _ (fun a b ne e=>ne (zv1 e).1) nv
 have run:=QbE (s:={ s with heap:=h3 }) (J:=fun s'=>∃tk,s'={ s with heap:=h3,toks:=tk }) (QgQ (M:=model prog w) (A:=A) (E:=E) (κ:=κ') (U:=fun x=>∃i,i<vs.length/\x=(vs.getD i z43,vs.getD i z43)) (L:=fun x y=>lt (g x) (g y)) (T:=vs.map fun v=>(v,v)) (st:=SortSt.mk' κ' (vs.toArray.zip vs.toArray) #[] 7 none)
  (Q:=fun _ st'=>failedOf st'=none/\(arrOf st').toList.Perm (vs.map fun v=>(v,v))/\Sd (fun x y=>lt (g x) (g y)) (arrOf st').toList) ?ask ⟨fun x y z=>o.tr _ _ _,fun x=>o.ir _,?od⟩ uT nT rfl rfl rfl ?arr (by rw[z14];omega) fun st' a1 a2 a3=>⟨a1,a2,a3⟩) ⟨s.toks,rfl⟩
 case ask=>
  rintro x y st Q hk ⟨i,hi,rfl⟩ ⟨j,hj,rfl⟩ q
  dsimp only at q
  rw[hg i hi,hg j hj] at q
  rw[lt'_eq]
  refine Qa (Q4 ?_)
  rw[hk]
  refine Qa ?_
  rintro s1 ⟨tk,rfl⟩
  show wpAny (model prog w) A (Sem.attempt (keyLt' κ' (vs.getD i z43) (vs.getD j z43)) >>= fun a=>pure (a,st)) _ E _
  refine z00 (zl4 (z99 (hc h3 tk i j (fun c s'=>c=lt i j/\∃tk',s'={ s with heap:=h3,toks:=tk' }) kp3 hi hj fun tk'=>⟨rfl,tk',rfl⟩) (fun c s' hc'=>?_) fun _ _ hF=>hF.elim))
  obtain⟨rfl,hs⟩:=hc'
  exact z06 ⟨hs,Qc q⟩
 case od=>
  rintro x y ⟨i,hi,rfl⟩ ⟨j,hj,rfl⟩ ne e
  rw[hg i hi,hg j hj] at e ⊢
  exact o.to i j hi hj (fun z=>ne (by rw[z])) e
 case arr=>
  show(vs.toArray.zip vs.toArray).toList=_
  rw[Array.toList_zip]
  have:∀l:List Value,l.zip l=l.map fun v=>(v,v):=fun l=>by
   induction l with
   |nil=>rfl
   |cons a l ih=>rw[z85,ih];rfl
  exact this vs
 refine z00 (z99 run ?_ fun _ _ e=>e)
 ·rintro⟨⟨⟩,st'⟩ s' ⟨⟨tk,rfl⟩,hf,pm,sd⟩
  dsimp only
  dsimp only at hf pm sd
  have hout:(arrOf st').map (·.2)=(((arrOf st').toList.map g).map fun i=>vs.getD i z43).toArray:=by
   apply zz7.mp
   rw[Array.toList_map,zb8]
   refine zf7 fun x hx=>?_
   obtain⟨i,hi,rfl⟩:=uT x (pm.mem_iff.mp hx)
   show _=vs.getD (g _) z43
   rw[hg i hi]
  have pr:=pm.map g
  rw[gT] at pr
  rw[hout]
  have pw:((arrOf st').toList.map g).Pairwise (fun i j=>lt i j=true):=z91.mpr sd
  generalize (arrOf st').toList.map g=is at pr pw ⊢
  have hsz:(is.map fun i=>vs.getD i z43).toArray.size=vs.length:=by rw[z21,z14,pr.length_eq,z70]
  have s2:=z65 h3 a (z60 fun _=>(is.map fun i=>vs.getD i z43).toArray)
  obtain⟨c2,hc2⟩:∃c2,(h3.update a (z60 fun _=>(is.map fun i=>vs.getD i z43).toArray)).get? a=some (seqObj "list" (is.map fun i=>vs.getD i z43).toArray c2):=⟨_,get?_update_seq ho3 fun _=>(is.map fun i=>vs.getD i z43).toArray⟩
  refine z00 (seqEpoch_at ho3 rfl ?_)
  refine z00 (listUpdate_at ho3 rfl ?_ (z49 _) (z71 (Nat.le_of_eq hsz) (by rw[z55];omega)))
  rw[hf]
  simp only[bne_self_eq_false,z29,if_false]
  exact z06 (hQ _ tk is c2 pr pw (fun b x e=>(s2.2 b (ne b x e)).trans (kp3 b x e)) hc2)
end
section
variable {prog:Program}{w:World}{A:Around}{E:Value->Shared->Prop}{s:Shared}
theorem QdR {a:Addr}{vs:List Value}{n:Nat}{h0:Heap}{P:PySem.Fin->Shared->Prop}(ho:s.heap.get? a=some (seqObj "list" vs.toArray n))(h0k:Kp h0 s.heap)(h0a:h0.get? a=none)(h2:vs.length<2)
  (hQ:∀(h':Heap) (tk:Nat) (c:Nat),Kp h0 h'->h'.get? a=some (seqObj "list" vs.toArray c)->P (.done (.ret .none)) { s with heap:=h',toks:=tk }) :
  wpAny (model prog w) A (Builtin.«list.sort» ⟨[.ref a],[]⟩) P E s:=by
 have s1:=z65 s.heap a (z60 fun _=>(#[]:Array Value))
 obtain⟨e1,ho1⟩:∃e1,(s.heap.update a (z60 fun _=>(#[]:Array Value))).get? a=some (seqObj "list" #[] e1):=⟨_,get?_update_seq ho fun _=>#[]⟩
 have ne:∀b o,h0.get? b=some o->b≠a:=fun b o e z=>by rw[z,h0a] at e;cases e
 have kp3:Kp h0 (((s.heap.update a (z60 fun _=>(#[]:Array Value))).push (seqObj "tuple" vs.toArray 0)).push (seqObj "list" #[] 0)):=fun b x e=>
  z16 _ (z16 _ ((s1.2 b (ne b x e)).trans (h0k b x e)))
 have ho3:(((s.heap.update a (z60 fun _=>(#[]:Array Value))).push (seqObj "tuple" vs.toArray 0)).push (seqObj "list" #[] 0)).get? a=some (seqObj "list" #[] e1):=z16 _ (z16 _ ho1)
 rw[list_sort_plain]
 refine z00 (listItems_at ho rfl ?_)
 refine z00 (listUpdate_at ho rfl ?_ (by rw[z21,z55];omega) (z49 _))
 refine z00 (seqEpoch_at ho1 rfl ?_)
 refine z00 (wpAny_newTuple ?_ (by show vs.length<=_;rw[z55];omega))
 refine z00 (zx6 ?_ (z49 _))
 refine z82 ?_
 show wpAny (model prog w) A _ P E { s with heap:=((s.heap.update a (z60 fun _=>(#[]:Array Value))).push (seqObj "tuple" vs.toArray 0)).push (seqObj "list" #[] 0)}
 generalize ((s.heap.update a (z60 fun _=>(#[]:Array Value))).push (seqObj "tuple" vs.toArray 0)).push (seqObj "list" #[] 0)=h3 at kp3 ho3 ⊢
 dsimp only
 have hn2:vs.toArray.size<2:=by rw[z21];omega
 rw[if_pos hn2,if_pos hn2]
 refine z00 (z06 ?_)
 rw[StateT.run_pure]
 refine z00 (z06 ?_)
 dsimp only
 have e2:(arrOf (SortSt.mk' general' (vs.toArray.zip vs.toArray) #[] 7 none)).map (·.2)=vs.toArray:=by
  show((vs.toArray.zip vs.toArray)).map (·.2)=vs.toArray
  apply zz7.mp
  simp[List.map_snd_zip]
 rw[e2]
 have s2:=z65 h3 a (z60 fun _=>vs.toArray)
 obtain⟨c2,hc2⟩:∃c2,(h3.update a (z60 fun _=>vs.toArray)).get? a=some (seqObj "list" vs.toArray c2):=⟨_,get?_update_seq ho3 fun _=>vs.toArray⟩
 refine z00 (seqEpoch_at ho3 rfl ?_)
 refine z00 (listUpdate_at ho3 rfl ?_ (z49 _) (by rw[z21,z55];omega))
 simp only[bne_self_eq_false,z29,if_false]
 exact z06 (hQ _ s.toks c2 (fun b x e=>(s2.2 b (ne b x e)).trans (kp3 b x e)) hc2)
end
def ltP (a b:Int×Int):Bool:=decide (a.1<b.1\/(a.1=b.1/\a.2<b.2))
def PT (K:z02)(H:Hp)(q:Addr)(pr:Int×Int):Prop:=SqT K H q [.int pr.1,.int pr.2]
def PO (h:Heap)(q:Addr)(pr:Int×Int):Prop:=∃o t u n,h.get? q=some o/\o.cls=.type "tuple" /\ o.data=.seq #[.int pr.1 t,.int pr.2 u] n
theorem PO.kp {h h':Heap}{q:Addr}{pr:Int×Int}(p:PO h q pr)(k:Kp h h'):PO h' q pr:=by
 obtain⟨o,t,u,n,e,r⟩:=p
 exact⟨o,t,u,n,k _ _ e,r⟩
theorem QgR {X:Cx}{pins:List (Addr×Obj)}{σ:St}{H:Hp}{s:Shared}(I:Inv X pins σ H s){q:Addr}{pr:Int×Int}(h:PT X.K H q pr):PO s.heap q pr:=by
 obtain⟨its,rv,⟨o,e,c,n,d⟩,_⟩:=I.tuple h
 obtain⟨u,v,rfl,⟨t,rfl⟩,⟨t',rfl⟩⟩:=Vals.two rv
 exact⟨o,t,t',n,e,c,d⟩
theorem QiB {h:Heap}{qs:List Addr}{ps:List (Int×Int)}(p:Paired (PO h) qs ps):∃fs,KatTups h (qs.map z32) fs/\fs.length=ps.length/\∀v∈fs,∃i t,v=z80 i t:=by
 induction p with
 |nil=>exact⟨[],.nil,rfl,fun v z=>nomatch z⟩
 |cons z _ ih=>
  obtain⟨fs,k,l,a⟩:=ih
  obtain⟨o,t,u,n,e,c,d⟩:=z
  refine⟨_::fs,KatTups.cons e c d rfl k,by rw[z25,z25,l],fun v hv=>?_⟩
  rcases z26.mp hv with rfl|hv
  ·exact⟨_,_,rfl⟩
  ·exact a v hv
theorem QiC {prog:Program}{w:World}{A:Around}{E:Value->Shared->Prop}{s:Shared}{q r:Addr}{a b:Int×Int}{Q:Bool->Shared->Prop}(hq:PO s.heap q a)(hr:PO s.heap r b)(h:Q (ltP a b) s):wpAny (model prog w) A (keyLt' (tuples' true) (.ref q) (.ref r)) Q E s:=by
 obtain⟨o,t,u,n,e,c,d⟩:=hq
 obtain⟨o',t',u',n',e',c',d'⟩:=hr
 refine kat_lt (b:=true) e d e' d' ?_
 show KatLex prog w A true _ Q [(z80 a.1 t,z80 b.1 t'),(z80 a.2 u,z80 b.2 u')] 0 s
 refine kat_cons ((zf4 a.1 t b.1 t') prog w _ _ (kat_go (fun e1=>kat_yes ?_) fun e1=>kat_no ?_))
 ·have e1':a.1=b.1:=by simpa using e1
  refine kat_cons ((zf4 a.2 u b.2 u') prog w _ _ (kat_go (fun e2=>kat_yes ?_) fun e2=>kat_no ?_))
  ·have e2':a.2=b.2:=by simpa using e2
   refine kat_nil ?_
   have z:ltP a b=false:=decide_eq_false (by omega)
   rw[z] at h
   exact h
  ·have e2':a.2≠b.2:=by simpa using e2
   refine kat_one _ _ (PyProof.Rows.lt_int ?_)
   show Q (decide (a.2<b.2)) s
   have z:ltP a b=decide (a.2<b.2):=by unfold ltP;simp[e1']
   rw[z] at h
   exact h
 ·have e1':a.1≠b.1:=by simpa using e1
  refine oneLt_int ?_
  have z:ltP a b=decide (a.1<b.1):=by unfold ltP;simp[e1']
  rw[z] at h
  exact h
theorem QbG.Qn3 {R:Addr->Int×Int->Prop}{qs:List Addr}{ps:List (Int×Int)}(p:Paired R qs ps){i:Nat}(hi:i<qs.length):R (qs.getD i 0) (ps.getD i (0,0)):=by
 have e:qs[i]? = some qs[i]:=z03 hi
 obtain⟨b,eb,r⟩:=Paired.get p e
 rw[z22,z22,e,eb]
 exact r
theorem range_getD {α:Type}(d:α)(l:List α):(z47 l.length).map (fun i=>l.getD i d)=l:=by
 apply List.ext_getElem
 ·simp
 ·intro i h1 h2
  simp[z22,z03 h2]
section
theorem V3:∀{qs:List Addr} {us:List Value},Vals (qs.map V.ref) us->us=qs.map z32
 | [],_,.nil=>rfl
 |q::qs,_,.cons r t=>by cases r;rw[V3 t];rfl
theorem YG:∀(qs:List Addr),Vals (qs.map V.ref) (qs.map z32)
 | []=>.nil
 |q::qs=>.cons rfl (YG qs)
end
section
open PySem.SeqAt
open PySem.AutoSeq1 (wpAny_loadPart')
open PySem.MeetsSeq PySem.MeetsSeq2 PySem.MeetsSeq3
end
abbrev NP:=Int×(Int×Int)
abbrev PN:=(Int×Int)×Int
def Qqe (a b:NP):Bool:=decide (a.1<b.1) || (decide (a.1=b.1) && ltP a.2 b.2)
def Qpp (a b:PN):Bool:=ltP a.1 b.1 || (decide (a.1=b.1) && decide (a.2<b.2))
theorem PO.det {h:Heap}{q:Addr}{x y:Int×Int}(p:PO h q x)(p':PO h q y):x=y:=by
 obtain⟨o,t,u,n,e,c,d⟩:=p
 obtain⟨o',t',u',n',e',c',d'⟩:=p'
 rw[e] at e';cases e'
 rw[d] at d'
 injection d' with d1 d2
 have:=congrArg zv5 d1
 simp at this
 exact zx9 this.1.1 this.2.1
theorem Qn4 {A:Around}{s:Shared}{q r:Addr}{x y:Int×Int}(hu:A.units<cLine)(hq:PO s.heap q x)(hr:PO s.heap r y):zo2 A s (.ref q) (.ref r) (decide (x=y)):=by
 by_cases e:q=r
 ·subst e
  rw[decide_eq_true (hq.det hr)]
  exact zj2 _
 ·obtain⟨o,t1,t2,n,e1,c1,d1⟩:=hq
  obtain⟨o',t3,t4,n',e2,c2,d2⟩:=hr
  refine zk8 e ?_
  have key:=zu3 (A:=A) (e:=fun j=>if j=0 then x.1 == y.1 else x.2 == y.2) (show s.heap.IsTuple q [z80 x.1 t1,z80 x.2 t2].toArray from⟨o,e1,c1,n,d1⟩) (show s.heap.IsTuple r [z80 y.1 t3,z80 y.2 t4].toArray from⟨o',e2,c2,n',d2⟩) hu (fun j h1 h2=>by
   have hj:j=0\/j=1:=by simp at h1;omega
   rcases hj with rfl|rfl
   ·exact zf4 x.1 t1 y.1 t3
   ·exact zf4 x.2 t2 y.2 t4)
  have e2:((z47 (min [z80 x.1 t1,z80 x.2 t2].toArray.size [z80 y.1 t3,z80 y.2 t4].toArray.size)).all (fun j=>if j=0 then x.1 == y.1 else x.2 == y.2) && [z80 x.1 t1,z80 x.2 t2].toArray.size == [z80 y.1 t3,z80 y.2 t4].toArray.size)=decide (x=y):=by
   obtain⟨x1,x2⟩:=x
   obtain⟨y1,y2⟩:=y
   by_cases h1:x1=y1<;>by_cases h2:x2=y2<;>simp[h1,h2,List.range_succ]
  rw[e2] at key
  exact key
end L2.Srt
namespace L2.Srt
open PySem PySem.W PySem.Calls PyProof.Rows
theorem QiD (a:Int×Int):ltP a a=false:=decide_eq_false (by omega)
theorem Qk0 {a b c:Int×Int}(h:ltP a b=true)(h':ltP b c=true):ltP a c=true:=by
 have h:=of_decide_eq_true h
 have h':=of_decide_eq_true h'
 exact decide_eq_true (by omega)
theorem QiE {a b:Int×Int}(h:a≠b)(h':ltP a b=false):ltP b a=true:=by
 have h':=of_decide_eq_false h'
 refine decide_eq_true ?_
 by_cases e:a.1=b.1
 ·have:a.2≠b.2:=fun z=>h (zx9 e z)
  omega
 ·omega
structure Lin {α:Type}(lt:α->α->Bool):Prop where
 irr:∀a,lt a a=false
 tr:∀a b c,lt a b=true->lt b c=true->lt a c=true
 tot:∀a b,a≠b->lt a b=false->lt b a=true
theorem Vf:Lin ltP:=⟨QiD,fun _ _ _=>Qk0,fun _ _=>QiE⟩
theorem Lin.ord {α:Type}{lt:α->α->Bool}(L:Lin lt)(d:α){ps:List α}(nd:ps.Nodup):Ord ps.length fun i j=>lt (ps.getD i d) (ps.getD j d) where
 ir:=fun i=>L.irr _
 tr:=fun i j k a b=>L.tr _ _ _ a b
 to:=fun i j hi hj ne a=>by
  refine L.tot _ _ (fun z=>?_) a
  rw[z22,z22,z03 hi,z03 hj] at z
  exact ne ((zd0 nd).mp z)
theorem QbG.Qnl {α:Type}{d:α}{R:Addr->α->Prop}{qs:List Addr}{ps:List α}(p:Paired R qs ps){i:Nat}(hi:i<qs.length):R (qs.getD i 0) (ps.getD i d):=by
 have e:qs[i]? = some qs[i]:=z03 hi
 obtain⟨b,eb,r⟩:=Paired.get p e
 rw[z22,z22,e,eb]
 exact r
structure QeN (A:Around)(α:Type)(lt:α->α->Bool)(PO:Heap->Addr->α->Prop)(κ:SortKind):Prop where
 kp:∀{h h':Heap} {q:Addr} {x:α},PO h q x->Kp h h'->PO h' q x
 kind:∀{prog:Program} {w:World} {s:Shared} {qs:List Addr} {ps:List α} {Q:SortKind->Shared->Prop},Paired (PO s.heap) qs ps->2<=ps.length->Q κ s->wpAny (model prog w) A (keyKind' (qs.map z32).toArray) Q (fun _ _=>False) s
 det:∀{h:Heap} {q:Addr} {x y:α},PO h q x->PO h q y->x=y
 cmp:∀{prog:Program} {w:World} {s:Shared} {q r:Addr} {x y:α} {Q:Bool->Shared->Prop},PO s.heap q x->PO s.heap r y->Q (lt x y) s->wpAny (model prog w) A (keyLt' κ (.ref q) (.ref r)) Q (fun _ _=>False) s
theorem QeN.nq {A:Around}{α:Type}{d:α}{lt:α->α->Bool}{PO:Heap->Addr->α->Prop}{κ:SortKind}(S:QeN A α lt PO κ){h:Heap}{qs:List Addr}{ps:List α}(pr:Paired (PO h) qs ps)(nd:ps.Nodup):(qs.map z32).Nodup:=by
 have lq:=z73 pr
 rw[zt0,z77]
 intro i j hi hj hij e
 rw[List.getElem_map,List.getElem_map] at e
 rw[z14] at hi hj
 have e:=Value.ref.inj e
 have p1:=QbG.Qnl (d:=d) pr hi
 have p2:=QbG.Qnl (d:=d) pr hj
 rw[z22,z03 hi] at p1
 rw[z22,z03 hj] at p2
 rw[zf1,e] at p1
 rw[zf1] at p2
 have z:=S.det p1 p2
 rw[z22,z22,z03 (by omega),z03 (by omega)] at z
 have:=(zd0 nd).mp z
 omega
section
def Q9 (q:Int×Int):List Key:=[.inl q.1,.inl q.2]
end
end L2.Srt
namespace L2.St
open PySem PySem.SetTable
def pth (mask:Nat)(p:Probe):Nat->Probe
 |0=>p
 |n+1=>advance { (default:SetTable) with mask:=mask } (pth mask p n)
theorem Qk1 (t:SetTable)(p:Probe):t.advance p=advance { (default:SetTable) with mask:=t.mask } p:=rfl
theorem QaO (mask:Nat)(p:Probe)(a:Nat):∀n,pth mask (pth mask p a) n=pth mask p (a+n)
 |0=>rfl
 |n+1=>by rw[pth,QaO mask p a n];rfl
def gst (mask i q:Nat):Probe:={ j:=i,more:=runEnd mask i - i,i:=i,perturb:=q,dummy:=none }
theorem YH (mask i:Nat):i<=runEnd mask i/\runEnd mask i<=i+9/\(i<=mask->runEnd mask i<=mask):=by unfold runEnd;split<;>omega
theorem QbH (mask i q:Nat):∀k,k<=runEnd mask i - i->pth mask (gst mask i q) k={ j:=i+k,more:=runEnd mask i - i - k,i:=i,perturb:=q,dummy:=none }
 |0,_=>rfl
 |k+1,h=>by
  rw[pth,QbH mask i q k (by omega)]
  unfold advance
  dsimp only
  rw[if_pos (by omega)]
  congr 1
theorem Qcx (mask i q:Nat):pth mask (gst mask i q) (runEnd mask i - i+1)=gst mask (leap mask i q).1 (leap mask i q).2:=by
 rw[pth,QbH mask i q _ (z18 _)]
 unfold advance
 dsimp only
 rw[if_neg (by omega)]
 rfl
def lps (mask:Nat)(x:Nat×Nat):Nat->Nat×Nat
 |0=>x
 |n+1=>leap mask (lps mask x n).1 (lps mask x n).2
theorem QhG (mask:Nat)(x:Nat×Nat):∀g,∃n,n<=10 * g/\pth mask (gst mask x.1 x.2) n=gst mask (lps mask x g).1 (lps mask x g).2
 |0=>⟨0,z18 _,rfl⟩
 |g+1=>by
  obtain⟨n,h1,h2⟩:=QhG mask x g
  refine⟨n+(runEnd mask (lps mask x g).1 - (lps mask x g).1+1),?_,?_⟩
  ·have:=YH mask (lps mask x g).1
   omega
  ·rw[← QaO,h2,Qcx];rfl
theorem QeO (mask:Nat)(x:Nat×Nat):∀g,(lps mask x g).2=x.2 / 32 ^ g
 |0=>by simp[lps]
 |g+1=>by
  show(lps mask x g).2 / 32=_
  rw[QeO mask x g,Nat.div_div_eq_div_mul];rfl
theorem QhH (mask:Nat)(x:Nat×Nat)(g:Nat):(lps mask x (g+1)).1<=mask:=zp2 (zu5 _ (zq0 _))
def five (m:Nat)(i:Nat):Nat->Nat
 |0=>i
 |n+1=>(five m i n * 5+1) % m
theorem YJ (m i a:Nat):∀n,five m (five m i a) n=five m i (a+n)
 |0=>rfl
 |n+1=>by rw[five,YJ m i a n];rfl
theorem QaP (mask:Nat)(x:Nat×Nat)(g:Nat)(h:x.2<32 ^ g):∀n,(lps mask x (g+n)).1=five (mask+1) (lps mask x g).1 n
 |0=>rfl
 |n+1=>by
  show((lps mask x (g+n)).1 * 5+1+(lps mask x (g+n)).2 / 32) % (mask+1)=_
  have e:(lps mask x (g+n)).2=0:=by
   rw[QeO]
   exact Nat.div_eq_of_lt (z34 h (zm0 (by decide) (Nat.le_add_right _ _)))
  rw[QaP mask x g h n,e];rfl
def cyc (m:Nat):Nat->Nat->Nat->Nat
 |0,_,acc=>acc
 |n+1,i,acc=>cyc m n ((i * 5+1) % m) (acc ||| (1 <<< i))
theorem QhI (m x:Nat):∀(n i acc:Nat),(cyc m n i acc).testBit x=true->acc.testBit x=true\/∃g,g<n/\five m i g=x
 |0,i,acc,h=>.inl h
 |n+1,i,acc,h=>by
  rcases QhI m x n _ _ h with h|⟨g,h1,h2⟩
  ·rw[Nat.testBit_or,Bool.or_eq_true] at h
   rcases h with h|h
   ·exact .inl h
   ·refine .inr ⟨0,zq0 _,?_⟩
    rw[Nat.one_shiftLeft,zy1] at h
    exact of_decide_eq_true h
  ·refine .inr ⟨1+g,by omega,?_⟩
   rw[← YJ];exact h2
def Mk (mask:Nat):Prop:=∃k,k<=10/\mask+1=8 * 2 ^ k
theorem QiF:∀k,k<=10->cyc (8 * 2 ^ k) (8 * 2 ^ k) 0 0=2 ^ (8 * 2 ^ k) - 1/\five (8 * 2 ^ k) 0 (8 * 2 ^ k)=0:=by
 intro k hk
 have:k=0\/k=1\/k=2\/k=3\/k=4\/k=5\/k=6\/k=7\/k=8\/k=9\/k=10:=by omega
 rcases this with rfl|rfl|rfl|rfl|rfl|rfl|rfl|rfl|rfl|rfl|rfl<;>decide +kernel
theorem Qc7 {mask:Nat}(hm:Mk mask){i x:Nat}(hi:i<=mask)(hx:x<=mask):∃g,g<=mask/\five (mask+1) i g=x:=by
 obtain⟨k,hk,e⟩:=hm
 have c:=QiF k hk
 rw[← e] at c
 obtain⟨c1,c2⟩:=c
 have at_:∀y,y<=mask->∃g,g<mask+1/\five (mask+1) 0 g=y:=fun y hy=>by
  have:(cyc (mask+1) (mask+1) 0 0).testBit y=true:=by
   rw[c1,Nat.testBit_two_pow_sub_one];exact decide_eq_true (by omega)
  rcases QhI _ _ _ _ _ this with h|h
  ·rw[Nat.zero_testBit] at h;cases h
  ·exact h
 obtain⟨a,ha,ea⟩:=at_ i hi
 obtain⟨b,hb,eb⟩:=at_ x hx
 rcases z62 b a with h|h
 ·refine⟨mask+1 - a+b,by omega,?_⟩
  have e2:five (mask+1) 0 (mask+1+b)=x:=by rw[← YJ,c2];exact eb
  rw[← ea,YJ,show a+(mask+1 - a+b)=mask+1+b by omega]
  exact e2
 ·refine⟨b - a,by omega,?_⟩
  rw[← ea,YJ,show a+(b - a)=b by omega]
  exact eb
theorem met {mask:Nat}(hm:Mk mask){i q x:Nat}(hq:q<2 ^ 64)(hx:x<=mask):∃n,n<=10 * (mask+13)/\(pth mask (gst mask i q) n).j=x:=by
 have hz:q<32 ^ 13:=z34 hq (by decide)
 obtain⟨g,h1,h2⟩:=Qc7 hm (QhH mask (i,q) 12) hx
 obtain⟨n,h3,h4⟩:=QhG mask (i,q) (13+g)
 refine⟨n,by omega,?_⟩
 rw[h4]
 show(lps mask (i,q) (13+g)).1=x
 rw[QaP mask (i,q) 13 hz g]
 exact h2
theorem QeP (h:Int):bits h<2 ^ 64:=by
 unfold bits
 have:(h % (2 ^ 64:Int))<2 ^ 64:=zj0 _ (by decide)
 have h0:0<=h % (2 ^ 64:Int):=zl9 _ (by decide)
 omega
theorem missing {n:Nat}{l:List Nat}(h:l.length<n):∃x,x<n/\x∉l:=by
 refine zp5 fun z=>?_
 have all:∀x,x<n->x∈l:=fun x hx=>zp5 fun y=>z ⟨x,hx,y⟩
 have:∀(m:Nat) (l:List Nat),(∀x,x<m->x∈l)->m<=l.length:=by
  intro m
  induction m with
  |zero=>intro _ _;exact z49 _
  |succ m ih=>
   intro l hl
   have:=ih (l.erase m) fun x hx=>(zw8 (z51 hx)).mpr (hl x (ze6 hx))
   rw[zu2 (hl m (za9 m))] at this
   have:0<l.length:=zv4 (hl m (za9 m))
   omega
 have:=this n l all
 omega
theorem first {P:Nat->Prop}[DecidablePred P]{n:Nat}(h:P n):∃m,m<=n/\P m/\∀k,k<m->¬ P k:=by
 induction n using Nat.strongRecOn with
 |_ n ih=>
  by_cases z:∃k,k<n/\P k
  ·obtain⟨k,hk,pk⟩:=z
   obtain⟨m,h1,h2⟩:=ih k hk pk
   exact⟨m,by omega,h2⟩
  ·exact⟨n,z18 _,h,fun k hk pk=>z ⟨k,hk,pk⟩⟩
theorem QiG {mask:Nat}(hm:Mk mask){l:List Nat}(hl:l.length<=mask)(h:Int):∃N,N<=10 * (mask+13)/\(pth mask (gst mask (bits h % (mask+1)) (bits h)) N).j∉l/\∀k,k<N->(pth mask (gst mask (bits h % (mask+1)) (bits h)) k).j∈l:=by
 obtain⟨x,hx,nx⟩:=missing (n:=mask+1) (l:=l) (by omega)
 obtain⟨n,h1,h2⟩:=met hm (i:=bits h % (mask+1)) (q:=bits h) (QeP h) (show x<=mask by omega)
 obtain⟨m,e1,e2,e3⟩:=first (P:=fun n=>(pth mask (gst mask (bits h % (mask+1)) (bits h)) n).j∉l) (n:=n) (by show _∉l;rw[h2];exact nx)
 exact⟨m,by omega,e2,fun k hk=>Classical.not_not.mp (e3 k hk)⟩
def Ris (xs:List Nat):Prop:=xs.Pairwise (· < ·)
theorem QiH {xs:Array Nat}(hr:Ris xs.toList)(j:Nat):∀(fuel lo hi:Nat),hi<=xs.size->lo<=hi->hi<=lo+fuel->(∀i a,i<lo->xs[i]? = some a->a<j)->(∀i a,hi<=i->xs[i]? = some a->¬ a<j)->
  below.go xs j fuel lo hi<=xs.size/\(∀i a,i<below.go xs j fuel lo hi->xs[i]? = some a->a<j)/\(∀i a,below.go xs j fuel lo hi<=i->xs[i]? = some a->¬ a<j)
 |0,lo,hi,h1,h2,h3,a1,a2=>by
  have e:lo=hi:=by omega
  subst e
  exact⟨h1,a1,a2⟩
 |fuel+1,lo,hi,h1,h2,h3,a1,a2=>by
  have mono:∀i k a b,i<k->xs[i]? = some a->xs[k]? = some b->a<b:=fun i k a b hik ha hb=>by
   rw[← z13] at ha hb
   obtain⟨hi',rfl⟩:=z17.mp ha
   obtain⟨hk',rfl⟩:=z17.mp hb
   exact z77.mp hr i k hi' hk' hik
  unfold below.go
  by_cases c:lo<hi
  ·rw[if_pos c]
   have hm:(lo+hi) / 2<xs.size:=by omega
   have em:xs[(lo+hi) / 2]? = some xs[(lo+hi) / 2]:=z11 hm
   have ed:xs.getD ((lo+hi) / 2) j=xs[(lo+hi) / 2]:=by simp[Array.getD,hm]
   dsimp only
   rw[ed]
   by_cases d:xs[(lo+hi) / 2] < j
   ·rw[if_pos d]
    refine QiH hr j fuel _ _ h1 (by omega) (by omega) (fun i a hi' ha=>?_) a2
    rcases z62 i ((lo+hi) / 2) with z|z
    ·exact zl8 (mono i _ a _ z ha em) d
    ·have:i=(lo+hi) / 2:=by omega
     subst this
     rw[em] at ha;cases ha;exact d
   ·rw[if_neg d]
    refine QiH hr j fuel _ _ (by omega) (by omega) (by omega) a1 (fun i a hi' ha=>?_)
    rcases z62 ((lo+hi) / 2) i with z|z
    ·have:=mono _ i _ a z em ha;omega
    ·have:i=(lo+hi) / 2:=by omega
     subst this
     rw[em] at ha;cases ha;exact d
  ·rw[if_neg c]
   have e:lo=hi:=by omega
   subst e
   exact⟨h1,a1,a2⟩
theorem below_at {xs:Array Nat}(hr:Ris xs.toList)(j:Nat):below xs j<=xs.size/\(∀i a,i<below xs j->xs[i]? = some a->a<j)/\(∀i a,below xs j<=i->xs[i]? = some a->¬ a<j):=
 QiH hr j xs.size 0 xs.size (z18 _) (z49 _) (by omega) (fun i a h=>absurd h (zd9 _)) fun i a h e=>by
  have:xs[i]? = none:=zd3 h
  rw[this] at e;cases e
theorem YK {xs:Array Nat}(hr:Ris xs.toList){i j:Nat}(h:xs[i]? = some j):below xs j=i:=by
 obtain⟨h1,h2,h3⟩:=below_at hr j
 rcases zp1 (below xs j) i with z|z|z
 ·have hb:below xs j<xs.size:=zl8 z (ze5.mp h).1
  have e:=z11 hb
  have:=h3 _ _ (z18 _) e
  have hl:xs[below xs j] < j:=by
   have e':=e
   rw[← z13] at h e'
   obtain⟨q1,q2⟩:=z17.mp h
   obtain⟨q3,q4⟩:=z17.mp e'
   have w:=z77.mp hr _ _ q3 q1 z
   omega
  exact absurd hl this
 ·exact z
 ·have:=h2 i j z h;omega
theorem QbI {t:SetTable}(hr:Ris t.place.toList){i j:Nat}(h:t.place[i]? = some j):t.slot j=.live i:=by
 unfold slot
 rw[YK hr h]
 dsimp only
 rw[if_pos (by rw[h];exact beq_self_eq_true _)]
theorem QdS {t:SetTable}(hd:t.dummies = #[]){j:Nat}(h:j∉t.place.toList):t.slot j=.empty:=by
 unfold slot
 dsimp only
 rw[if_neg,if_neg]
 ·rw[hd];unfold has;simp
 ·intro z
  have z:=eq_of_beq z
  rw[← z13] at z
  exact h (z56 z)
structure Tp (t:SetTable)(es:Array (Int×Value)):Prop where
 dm:t.dummies = #[]
 ms:Mk t.mask
 sz:t.place.size=es.size
 ri:Ris t.place.toList
 pa:∀(i:Nat) (e:Int×Value),es[i]? = some e->∃n j,t.place[i]? = some j/\(pth t.mask (t.probeStart e.1) n).j=j/\∀m,m<n->(pth t.mask (t.probeStart e.1) m).j∈t.place.toList
theorem Qc8 {t:SetTable}{es:Array (Int×Value)}(T:Tp t es)(hashAt:Nat->Int)(h:Int){p0:Probe}(h0:∀n,(pth t.mask p0 n).dummy=none){N:Nat}(hN:(pth t.mask p0 N).j∉t.place.toList)(hb:∀k,k<N->(pth t.mask p0 k).j∈t.place.toList) :
  ∀(fuel k:Nat),k<=N->N<k+fuel->
   (probe.go t hashAt h fuel (pth t.mask p0 k)=some (.empty (pth t.mask p0 N).j none)/\∀m i,k<=m->m<N->t.place[i]? = some (pth t.mask p0 m).j->hashAt i≠h)\/
   ∃m i,k<=m/\m<N/\t.place[i]? = some (pth t.mask p0 m).j/\hashAt i=h/\probe.go t hashAt h fuel (pth t.mask p0 k)=some (.candidate (pth t.mask p0 m).j i (pth t.mask p0 (m+1)))/\∀m' i',k<=m'->m' < m->t.place[i']? = some (pth t.mask p0 m').j->hashAt i'≠h
 |0,k,h1,h2=>by omega
 |fuel+1,k,h1,h2=>by
  unfold probe.go
  rcases z62 k N with z|z
  ·obtain⟨i,hi⟩:=z75 (hb k z)
   rw[z13] at hi
   rw[QbI T.ri hi]
   dsimp only
   have un:∀i',t.place[i']? = some (pth t.mask p0 k).j->i'=i:=fun i' h'=>by rw[← YK T.ri h',YK T.ri hi]
   by_cases c:hashAt i=h
   ·rw[if_pos (by rw[c];exact beq_self_eq_true _)]
    exact .inr ⟨k,i,z18 _,z,hi,c,by rw[Qk1];rfl,fun m' i' a b=>by omega⟩
   ·rw[if_neg (by intro q;exact c (eq_of_beq q))]
    have e:t.advance (pth t.mask p0 k)=pth t.mask p0 (k+1):=rfl
    rw[e]
    rcases Qc8 T hashAt h h0 hN hb fuel (k+1) z (by omega) with⟨q1,q2⟩|⟨m,i2,q1,q2,q3,q4,q5,q6⟩
    ·refine .inl ⟨q1,fun m i' a b e'=>?_⟩
     rcases z62 k m with y|y
     ·exact q2 m i' y b e'
     ·have:m=k:=by omega
      subst this;rw[un i' e'];exact c
    ·refine .inr ⟨m,i2,by omega,q2,q3,q4,q5,fun m' i' a b e'=>?_⟩
     rcases z62 k m' with y|y
     ·exact q6 m' i' y b e'
     ·have:m'=k:=by omega
      subst this;rw[un i' e'];exact c
  ·have e:k=N:=by omega
   subst e
   rw[QdS T.dm hN]
   dsimp only
   rw[h0 k]
   exact .inl ⟨rfl,fun m i a b=>by omega⟩
theorem QbJ {mask:Nat}{p:Probe}(h:p.dummy=none):∀n,(pth mask p n).dummy=none
 |0=>h
 |n+1=>by
  have:=QbJ (mask:=mask) h n
  rw[pth]
  unfold advance
  split
  ·exact this
  ·exact this
theorem QeQ {α:Type}{xs:Array α}{p:Nat}(hp:p<=xs.size)(x:α)(i:Nat):(insertAt xs p x)[i]? = if i<p then xs[i]? else if i=p then some x else xs[i - 1]?:=by
 rw[← z13,toList_insertAt]
 have lt:(xs.toList.take p).length=p:=by rw[z39,z42];omega
 rcases zp1 i p with z|z|z
 ·rw[if_pos z,z41 (by omega),z95 z,z13]
 ·subst z
  rw[if_neg (zc6 _),if_pos rfl,z35 (by omega),lt,zi7];rfl
 ·rw[if_neg (by omega),if_neg (by omega),z35 (by omega),lt]
  obtain⟨d,rfl⟩:=Nat.exists_eq_add_of_lt z
  rw[show p+d+1 - p=d+1 by omega,zg3,zo0,z13,show p+d+1 - 1=p+d by omega]
theorem QaQ {α:Type}(xs:Array α)(p:Nat)(x:α):(insertAt xs p x).size=xs.size+1:=by
 have:=(insertAt_perm xs p x).length_eq
 simpa using this
theorem Qcy {α:Type}(xs:Array α)(p:Nat)(x y:α):y∈(insertAt xs p x).toList↔y∈xs.toList\/y=x:=by
 rw[(insertAt_perm xs p x).mem_iff,z40,z04,z19]
theorem QiI {xs:Array Nat}(hr:Ris xs.toList){j:Nat}(hj:j∉xs.toList):Ris (insertAt xs (below xs j) j).toList:=by
 obtain⟨h1,h2,h3⟩:=below_at hr j
 rw[toList_insertAt]
 have ha:=z44 (below xs j) xs.toList
 have hr':=hr
 unfold Ris at hr'
 rw[← ha] at hr'
 obtain⟨r1,r2,r3⟩:=z36.mp hr'
 have a1:∀a∈xs.toList.take (below xs j),a<j:=fun a ha=>by
  obtain⟨i,hi⟩:=z75 ha
  rw[zy3] at hi
  split at hi
  ·rw[z13] at hi;exact h2 i a (by assumption) hi
  ·cases hi
 have a2:∀a∈xs.toList.drop (below xs j),j<a:=fun a ha=>by
  obtain⟨i,hi⟩:=z75 ha
  rw[zo0,z13] at hi
  have:=h3 _ a (Nat.le_add_right _ _) hi
  have:a≠j:=fun e=>hj (e▸zb4 ha)
  omega
 refine z36.mpr ⟨r1,z66.mpr ⟨a2,r2⟩,fun a ha b hb=>?_⟩
 rcases z26.mp hb with rfl|hb
 ·exact a1 a ha
 ·exact zl8 (a1 a ha) (a2 b hb)
theorem Qk2 {t:SetTable}(hd:t.dummies = #[])(j:Nat):t.put j=({ t with place:=insertAt t.place (below t.place j) j },below t.place j):=by
 unfold put
 have:has t.dummies j=false:=by rw[hd];unfold has;simp
 simp only[this,z29,if_false]
theorem Qk3 {t:SetTable}{es:Array (Int×Value)}(T:Tp t es){h:Int}{x:Value}{N:Nat}(hN:(pth t.mask (t.probeStart h) N).j∉t.place.toList)(hb:∀k,k<N->(pth t.mask (t.probeStart h) k).j∈t.place.toList) :
  Tp (t.put (pth t.mask (t.probeStart h) N).j).1 (insertAt es (t.put (pth t.mask (t.probeStart h) N).j).2 (h,x)):=by
 rw[Qk2 T.dm]
 generalize ej:(pth t.mask (t.probeStart h) N).j=j at hN ⊢
 obtain⟨b1,b2,b3⟩:=below_at T.ri j
 have bs:below t.place j<=es.size:=by rw[← T.sz];exact b1
 refine⟨T.dm,T.ms,?_,QiI T.ri hN,fun i e hi=>?_⟩
 ·show(insertAt t.place _ j).size=_
  rw[QaQ,QaQ,T.sz]
 ·dsimp only at hi ⊢
  rw[QeQ bs] at hi
  rw[QeQ b1]
  by_cases c1:i<below t.place j
  ·rw[if_pos c1] at hi ⊢
   obtain⟨n,j',e1,e2,e3⟩:=T.pa i e hi
   exact⟨n,j',e1,e2,fun m hm=>(Qcy _ _ _ _).mpr (.inl (e3 m hm))⟩
  ·rw[if_neg c1] at hi ⊢
   by_cases c2:i=below t.place j
   ·rw[if_pos c2] at hi ⊢
    cases hi
    exact⟨N,j,rfl,ej,fun m hm=>(Qcy _ _ _ _).mpr (.inl (hb m hm))⟩
   ·rw[if_neg c2] at hi ⊢
    obtain⟨n,j',e1,e2,e3⟩:=T.pa (i - 1) e hi
    exact⟨n,j',e1,e2,fun m hm=>(Qcy _ _ _ _).mpr (.inl (e3 m hm))⟩
theorem QbK (mask:Nat)(x:Nat×Nat):∀g,lps mask (leap mask x.1 x.2) g=lps mask x (g+1)
 |0=>rfl
 |g+1=>by rw[lps,QbK mask x g];rfl
theorem QeR {mask:Nat}(ow:Array (Option Nat)):∀(fuel i q g:Nat),g<fuel->(ow.getD (lps mask (i,q) g).1 (some 0)).isNone=true->
  ∃n j,layClean.free mask ow fuel i q=some j/\(pth mask (gst mask i q) n).j=j/\(ow.getD j (some 0)).isNone=true/\∀m,m<n->(ow.getD (pth mask (gst mask i q) m).j (some 0)).isNone=false
 |0,i,q,g,h,_=>absurd h (zd9 _)
 |fuel+1,i,q,g,hg,hf=>by
  unfold layClean.free
  have re:=YH mask i
  cases e:(z47 (runEnd mask i+1 - i)).find? fun k=>(ow.getD (i+k) (some 0)).isNone with
  |some k=>
   dsimp only
   obtain⟨p1,p2,p3⟩:=List.find?_range_eq_some.mp e
   have hk:k<=runEnd mask i - i:=by have:=z92.mp p2;omega
   refine⟨k,i+k,rfl,by rw[QbH mask i q k hk],p1,fun m hm=>?_⟩
   rw[QbH mask i q m (by omega)]
   simpa using p3 m hm
  |none=>
   dsimp only
   have al:∀k,k<=runEnd mask i - i->(ow.getD (i+k) (some 0)).isNone=false:=fun k hk=>by
    have:=List.find?_eq_none.mp e k (z92.mpr (by omega))
    exact Bool.eq_false_iff.mpr this
   cases g with
   |zero=>
    have:=al 0 (z49 _)
    rw[Nat.add_zero] at this
    rw[show(lps mask (i,q) 0).1=i from rfl,this] at hf
    cases hf
   |succ g=>
    rw[← QbK] at hf
    obtain⟨n,j,e1,e2,e3,e4⟩:=QeR ow fuel (leap mask i q).1 (leap mask i q).2 g (by omega) hf
    refine⟨runEnd mask i - i+1+n,j,e1,?_,e3,fun m hm=>?_⟩
    ·rw[← QaO,Qcx];exact e2
    ·rcases z62 m (runEnd mask i - i+1) with z|z
     ·rw[QbH mask i q m (by omega)]
      exact al m (by omega)
     ·obtain⟨d,rfl⟩:=Nat.exists_eq_add_of_le z
      rw[← QaO,Qcx]
      exact e4 d (by omega)
structure Ow (mask:Nat)(hs:List Int)(ow:Array (Option Nat))(k:Nat):Prop where
 sz:ow.size=mask+1
 pa:∀(k':Nat) (h:Int),k' < k->hs[k']? = some h->∃n j:Nat,ow[j]? = some (some k')/\(pth mask (gst mask (bits h % (mask+1)) (bits h)) n).j=j/\∀m,m<n->∃v,ow[(pth mask (gst mask (bits h % (mask+1)) (bits h)) m).j]? = some (some v)
 lt:∀j k':Nat,ow[j]? = some (some k')->k' < k
 ij:∀j j' k':Nat,ow[j]? = some (some k')->ow[j']? = some (some k')->j=j'
theorem getD_none {ow:Array (Option Nat)}{j:Nat}:(ow.getD j (some 0)).isNone=true↔ow[j]? = some none:=by
 rw[z24]
 cases e:ow[j]? with
 |none=>simp
 |some v=>cases v<;>simp
theorem getD_some {ow:Array (Option Nat)}{j:Nat}(h:(ow.getD j (some 0)).isNone=false)(hj:j<ow.size):∃v,ow[j]? = some (some v):=by
 rw[z24,z11 hj] at h
 rw[z11 hj]
 cases e:ow[j] with
 |none=>rw[e] at h;cases h
 |some v=>exact⟨v,rfl⟩
theorem Qk4 {mask i q:Nat}(hi:i<=mask)(n:Nat):(pth mask (gst mask i q) n).j+(pth mask (gst mask i q) n).more<=mask:=by
 induction n with
 |zero=>have:=YH mask i;show i+(runEnd mask i - i)<=mask;omega
 |succ n ih=>
  rw[pth]
  unfold advance
  split
  ·show _+1+(_ - 1)<=mask;omega
  ·have h1:(leap mask (pth mask (gst mask i q) n).i (pth mask (gst mask i q) n).perturb).1<=mask:=zp2 (zu5 _ (zq0 _))
   have:=YH mask (leap mask (pth mask (gst mask i q) n).i (pth mask (gst mask i q) n).perturb).1
   show(leap mask (pth mask (gst mask i q) n).i (pth mask (gst mask i q) n).perturb).1+(runEnd mask (leap mask (pth mask (gst mask i q) n).i (pth mask (gst mask i q) n).perturb).1 - (leap mask (pth mask (gst mask i q) n).i (pth mask (gst mask i q) n).perturb).1)<=mask
   omega
theorem Ow.step {mask:Nat}(hm:Mk mask){hs:List Int}{ow:Array (Option Nat)}{k:Nat}(O:Ow mask hs ow k)(hk:k<hs.length)(hl:hs.length<=mask){h:Int}(hh:hs[k]? = some h) :
  ∃j,layClean.free mask ow (turns mask) (bits h % (mask+1)) (bits h)=some j/\Ow mask hs (ow.setIfInBounds j (some k)) (k+1):=by
 have i0:bits h % (mask+1)<=mask:=zp2 (zu5 _ (zq0 _))
 have sl:∀k',k' < k->∃j:Nat,ow[j]? = some (some k'):=fun k' hk'=>by
  obtain⟨n,j,e,_⟩:=O.pa k' _ hk' (z03 (zl8 hk' hk))
  exact⟨j,e⟩
 obtain⟨x,hx,nx⟩:=missing (n:=mask+1) (l:=(z47 k).map fun k'=>if c:k' < k then Classical.choose (sl k' c) else 0) (by rw[z14,z70];omega)
 have ox:ow[x]? = some none:=by
  rw[z11 (by rw[O.sz];exact hx)]
  cases e:ow[x]'(by rw[O.sz];exact hx) with
  |none=>rfl
  |some k'=>
   exfalso
   have e':ow[x]? = some (some k'):=by rw[z11 (by rw[O.sz];exact hx),e]
   have c:=O.lt x k' e'
   refine nx (z87.mpr ⟨k',z92.mpr c,?_⟩)
   rw[dif_pos c]
   exact O.ij _ _ k' (Classical.choose_spec (sl k' c)) e'
 obtain⟨g,g1,g2⟩:=Qc7 hm (QhH mask (bits h % (mask+1),bits h) 12) (show x<=mask by omega)
 have hz:bits h<32 ^ 13:=z34 (QeP h) (by decide)
 have g3:=QaP mask (bits h % (mask+1),bits h) 13 hz g
 rw[g2] at g3
 obtain⟨n,j,f1,f2,f3,f4⟩:=QeR ow (turns mask) (bits h % (mask+1)) (bits h) (13+g) (by unfold turns;omega) (by rw[g3];exact getD_none.mpr ox)
 have oj:=getD_none.mp f3
 have jl:j<ow.size:=(ze5.mp oj).1
 have up:∀y v:Nat,ow[y]? = some (some v)->(ow.setIfInBounds j (some k))[y]? = some (some v):=fun y v e=>by
  rw[zo5 (fun z=>by rw[← z,oj] at e;cases e)];exact e
 have dn:∀y v:Nat,(ow.setIfInBounds j (some k))[y]? = some (some v)->(y=j/\v=k)\/ow[y]? = some (some v):=fun y v e=>by
  by_cases c:j=y
  ·subst c
   rw[zk7 jl] at e
   cases e;exact .inl ⟨rfl,rfl⟩
  ·rw[zo5 c] at e;exact .inr e
 have se:(ow.setIfInBounds j (some k))[j]? = some (some k):=zk7 jl
 refine⟨j,f1,by rw[Array.size_setIfInBounds];exact O.sz,fun k' h' hk' hh'=>?_,fun y k' e=>?_,fun y y' k' e e'=>?_⟩
 ·rcases z62 k' k with z|z
  ·obtain⟨n',j',q1,q2,q3⟩:=O.pa k' h' z hh'
   exact⟨n',j',up _ _ q1,q2,fun m hm=>by obtain⟨v,q⟩:=q3 m hm;exact⟨v,up _ _ q⟩⟩
  ·have:k'=k:=by omega
   subst this
   rw[hh] at hh';cases hh'
   refine⟨n,j,se,f2,fun m hm=>?_⟩
   obtain⟨v,q⟩:=getD_some (f4 m hm) (by rw[O.sz];have:=Qk4 i0 (q:=bits h) m;omega)
   exact⟨v,up _ _ q⟩
 ·rcases dn y k' e with⟨_,rfl⟩|e
  ·exact za9 _
  ·exact ze6 (O.lt y k' e)
 ·rcases dn y k' e with⟨a1,a2⟩|a1<;>rcases dn y' k' e' with⟨b1,b2⟩|b1
  ·rw[a1,b1]
  ·exact absurd (O.lt _ _ b1) (by omega)
  ·exact absurd (O.lt _ _ a1) (by omega)
  ·exact O.ij _ _ _ a1 b1
theorem Qk5 {mask:Nat}(hm:Mk mask){hs:List Int}(hl:hs.length<=mask):∃ow,layClean mask hs.toArray=some ow/\Ow mask hs ow hs.length:=by
 have key:∀(rest:List Int) (ow:Array (Option Nat)) (k:Nat),k+rest.length=hs.length->(∀i,rest[i]? = hs[k+i]?)->Ow mask hs ow k->∃ow',(rest.foldl (fun(acc:Option (Array (Option Nat)×Nat)) h=>do
   let (owner,k) ← acc
   let j ← layClean.free mask owner (turns mask) (bits h % (mask+1)) (bits h)
   pure (owner.setIfInBounds j (some k),k+1)) (some (ow,k)))=some (ow',hs.length)/\Ow mask hs ow' hs.length:=by
  intro rest
  induction rest with
  |nil=>
   intro ow k h1 h2 O
   have:k=hs.length:=by simpa using h1
   subst this
   exact⟨ow,rfl,O⟩
  |cons h rest ih=>
   intro ow k h1 h2 O
   have hk:k<hs.length:=by simp at h1;omega
   obtain⟨j,f1,f2⟩:=O.step hm hk hl (h:=h) (by have:=h2 0;simpa using this.symm)
   rw[zd8]
   simp only[Option.bind_eq_bind,z69,f1]
   exact ih _ (k+1) (by simp at h1;omega) (fun i=>by have:=h2 (i+1);simpa[zv3,Nat.add_comm 1 i] using this) f2
 have no:∀j k':Nat,¬ (Array.replicate (mask+1) (none:Option Nat))[j]? = some (some k'):=fun j k' e=>by
  rw[Array.getElem?_replicate] at e
  split at e<;>cases e
 obtain⟨ow,e,O⟩:=key hs (Array.replicate (mask+1) none) 0 (by simp) (fun i=>by simp) ⟨by simp,fun _ _ z=>absurd z (zd9 _),fun j k' e=>absurd e (no j k'),fun j j' k' e=>absurd e (no j k')⟩
 refine⟨ow,?_,O⟩
 unfold layClean
 rw[← Array.foldl_toList]
 exact(congrArg (zx4 (·.1)) e).trans rfl
theorem QiJ {l r:List Nat}(hl:l.Nodup)(hr:r.Nodup)(h:∀x,x∈l↔x∈r):l.Perm r:=by
 rw[z79]
 intro a
 by_cases c:a∈l
 ·rw[hl.count,hr.count,if_pos c,if_pos ((h a).mp c)]
 ·rw[zd1 c,zd1 (fun z=>c ((h a).mpr z))]
theorem QiK {mask finger moves:Nat}{led plain:Bool}(hm:Mk mask){es:Array (Int×Value)}(hl:es.size<=mask) :
  ∃t' order,laid mask finger moves led plain (es.map (·.1))=some (t',order)/\t'.mask=mask/\t'.led=led/\t'.plain=plain/\(order.filterMap (es[·]?)).toList.Perm es.toList/\Tp t' (order.filterMap (es[·]?)):=by
 have eh:es.map (·.1)=(es.toList.map (·.1)).toArray:=by cases es;simp
 obtain⟨ow,e,O⟩:=Qk5 hm (hs:=es.toList.map (·.1)) (by simpa using hl)
 rw[← eh] at e
 have lh:(es.toList.map (·.1)).length=es.size:=by simp
 rw[lh] at O
 unfold laid
 rw[e]
 have hL:∃live,live=(z47 (mask+1)).filterMap fun j=>(ow.getD j none).map (j,·):=⟨_,rfl⟩
 obtain⟨live,el⟩:=hL
 refine⟨_,_,rfl,rfl,rfl,rfl,?_⟩
 rw[← el]
 have lv:∀j k,(j,k)∈live↔ow[j]? = some (some k):=fun j k=>by
  rw[el,zn9]
  constructor
  ·rintro⟨x,hx,q⟩
   obtain⟨v,q1,q2⟩:=z05.mp q
   cases q2
   rw[z24] at q1
   cases c:ow[j]? with
   |none=>rw[c] at q1;cases q1
   |some w=>rw[c] at q1;simp only[zf1] at q1;rw[q1]
  ·intro q
   refine⟨j,z92.mpr ?_,?_⟩
   ·rw[← O.sz];exact(ze5.mp q).1
   ·rw[z24,q];rfl
 have ris:(live.map (·.1)).Pairwise (· < ·):=by
  have:live.map (·.1)=(z47 (mask+1)).filter fun j=>(ow.getD j none).isSome:=by
   rw[el,List.map_filterMap]
   generalize z47 (mask+1)=r
   induction r with
   |nil=>rfl
   |cons j r ih=>
    rw[zc2,zk1]
    cases c:ow.getD j none with
    |none=>simpa using ih
    |some v=>simpa using ih
  rw[this]
  exact List.Pairwise.filter _ List.pairwise_lt_range
 have nd1:live.Nodup:=by
  have:=List.Pairwise.imp (fun{a b} (h:a<b)=>z51 h) ris
  rw[z91] at this
  exact this.imp fun{a b} h z=>h (by rw[z])
 have nd2:(live.map (·.2)).Nodup:=by
  rw[zt0,z91]
  refine zo1 (fun{a b} ha hb h z=>h ?_) nd1
  obtain⟨a1,a2⟩:=a
  obtain⟨b1,b2⟩:=b
  dsimp only at z
  subst z
  rw[O.ij _ _ _ ((lv a1 a2).mp ha) ((lv b1 a2).mp hb)]
 have Qpq:∀k,k∈live.map (·.2)↔k∈z47 es.size:=fun k=>by
  rw[z87,z92]
  constructor
  ·rintro⟨⟨j,k'⟩,h1,rfl⟩
   exact O.lt _ _ ((lv j k').mp h1)
  ·intro hk
   obtain⟨n,j,q,_⟩:=O.pa k _ hk (z03 (by rw[lh];exact hk))
   exact⟨(j,k),(lv j k).mpr q,rfl⟩
 have pm:(live.map (·.2)).Perm (z47 es.size):=QiJ nd2 List.nodup_range Qpq
 have ls:live.length=es.size:=by have:=pm.length_eq;simpa using this
 have pe:((live.map (·.2)).toArray.filterMap (es[·]?)).toList.Perm es.toList:=by
  rw[zu8]
  exact(pm.filterMap _).trans (by rw[filterMap_getElem?_range])
 refine⟨pe,rfl,hm,?_,by simpa[Ris] using ris,fun i x hi=>?_⟩
 ·have:=pe.length_eq
  simp only[z42] at this
  rw[this];simpa using ls
 ·have fm:∀(l:List Nat),(∀k∈l,k<es.size)->∀(i:Nat) (x:Int×Value),(l.filterMap (es[·]?))[i]? = some x->∃k,l[i]? = some k/\es[k]? = some x:=by
   intro l
   induction l with
   |nil=>intro _ i x h;simp at h
   |cons k l ih=>
    intro hl i x h
    have hk:=hl k z12
    rw[zc2,z11 hk] at h
    cases i with
    |zero=>exact⟨k,rfl,by rw[z11 hk];simpa using h⟩
    |succ i=>
     obtain⟨k',q1,q2⟩:=ih (fun k' h'=>hl k' (z09 _ h')) i x (by simpa using h)
     exact⟨k',by simpa using q1,q2⟩
  rw[← z13,zu8] at hi
  obtain⟨k,q1,q2⟩:=fm _ (fun k hk=>z92.mp ((Qpq k).mp hk)) i x hi
  rw[z31] at q1
  obtain⟨⟨j,k'⟩,q3,q4⟩:=z05.mp q1
  dsimp only at q4
  subst q4
  have hj:=(lv j k').mp (z56 q3)
  obtain⟨n,j',r1,r2,r3⟩:=O.pa k' x.1 (O.lt _ _ hj) (by rw[z31,z13,q2];rfl)
  have:=O.ij _ _ _ r1 hj
  subst this
  refine⟨n,j',?_,r2,fun m hm=>?_⟩
  ·show(live.map (·.1)).toArray[i]? = _
   rw[z45,z31,q3];rfl
  ·obtain⟨v,q⟩:=r3 m hm
   exact z87.mpr ⟨_,(lv _ v).mpr q,rfl⟩
theorem Qc9 (n:Nat):∀(d fuel size:Nat),d<=fuel->n<size * 2 ^ d->∃k,k<=d/\sizeAbove.go n fuel size=size * 2 ^ k/\n<size * 2 ^ k
 |d,0,size,h,hn=>by
  have:d=0:=by omega
  subst this
  exact⟨0,z18 _,by simp[sizeAbove.go],hn⟩
 |d,fuel+1,size,h,hn=>by
  unfold sizeAbove.go
  by_cases c:size<=n
  ·rw[if_pos c]
   cases d with
   |zero=>simp at hn;omega
   |succ d=>
    obtain⟨k,h1,h2,h3⟩:=Qc9 n d fuel (size * 2) (by omega) (by rw[zw5,zw6 (2 ^ d),← zv2] at hn;exact hn)
    refine⟨k+1,by omega,?_,?_⟩
    ·rw[h2,zw5,zw6 (2 ^ k),← zv2]
    ·rw[zw5,zw6 (2 ^ k),← zv2];exact h3
  ·rw[if_neg c]
   exact⟨0,z49 _,by simp,by simpa using c⟩
theorem QgS {n:Nat}(h:n<8192):Mk (sizeAbove n - 1)/\n<sizeAbove n/\sizeAbove n<=8192:=by
 obtain⟨k,h1,h2,h3⟩:=Qc9 n 10 64 8 (by omega) (by omega)
 have e:sizeAbove n=8 * 2 ^ k:=h2
 have p:2 ^ k<=2 ^ 10:=zm0 (by decide) h1
 have q:0<2 ^ k:=Nat.pow_pos (by decide)
 rw[e]
 exact⟨⟨k,h1,by omega⟩,h3,by omega⟩
end L2.St
namespace L2.Srt
open PySem PySem.SetTable L2.St PyProof.Rows
def hP (prog:Program)(w:World)(p:Int×Int):Int:=tupleKeyHash (intKind prog w) [p.1,p.2]
section
variable {prog:Program}{w:World}{A:Around}{E:Value->Shared->Prop}{s:Shared}
theorem QhJ {h:Heap}{q:Addr}{p:Int×Int}(x:PO h q p):IsTupleKey (intKind prog w) h [p.1,p.2] q:=by
 obtain⟨o,t,u,n,e,c,d⟩:=x
 exact⟨o,_,n,e,c,d,.cons (intKind_is _ _ _ _) (.cons (intKind_is _ _ _ _) .nil)⟩
theorem QeS {q:Addr}{p:Int×Int}(x:PO s.heap q p):s.TypeIs (.ref q) "tuple" := by
 obtain⟨o,t,u,n,e,c,d⟩:=x
 exact⟨o,e,c⟩
theorem QiL {q:Addr}{p:Int×Int}{Q:Int->Shared->Prop}(hu:A.units<cLine)(x:PO s.heap q p)(h:Q (hP prog w p) { s with toks:=s.toks+3 }):wpAny (model prog w) A (pyHash (.ref q)) Q E s:=
 wpAny_pyHash_tuple hu (QhJ x) h
theorem QdT {q:Addr}{p:Int×Int}{Q:Bool->Shared->Prop}(x:PO s.heap q p)(h:Q true s):wpAny (model prog w) A (hashByValue 8 (.ref q)) Q E s:=by
 have hT:=QeS x
 obtain⟨o,t,u,n,e,c,d⟩:=x
 unfold hashByValue
 refine z00 (zh2 hT F.slot_tuple_hash.lookup ?_)
 show wpAny _ _ (seqItems? (.ref q) >>= _) _ _ s
 refine z00 (wpAny_seqItems e d ?_)
 dsimp only[zf1]
 refine z00 ?_
 rw[← zn6]
 refine zg1 _ (fun rest r s'=>r.1=none/\s'=s/\∀v∈rest,∃a b,v=z80 a b) _ ?_ ?_ _ _ ⟨rfl,rfl,fun v hv=>?_⟩
 ·rintro v rest r s' ⟨hr,rfl,hall⟩
  obtain⟨a,b,rfl⟩:=hall v z12
  refine z00 (m:=hashByValue 7 (.int a b)) (zp0 (a:=true) (by unfold hashByValue;rfl) ?_)
  simp only[zc3,z29,if_false]
  exact z06 ⟨rfl,rfl,fun u hu'=>hall u (z09 _ hu')⟩
 ·rintro⟨r1,r2⟩ s' ⟨hr,rfl,_⟩
  simp only at hr
  subst hr
  exact z06 h
 ·simp at hv
  rcases hv with rfl|rfl<;>exact⟨_,_,rfl⟩
theorem Qda {q:Addr}{p:Int×Int}{Q:Bool->Shared->Prop}(x:PO s.heap q p)(h:Q true s):wpAny (model prog w) A (eqIsQuiet 8 (.ref q)) Q E s:=wpAny_eqIsQuiet_tuple (QhJ x) h
theorem Qau {q:Addr}{p:Int×Int}{Q:Bool->Shared->Prop}(x:PO s.heap q p)(h:Q false s):wpAny (model prog w) A (ofAClassStatement 8 (.ref q)) Q E s:=by
 have hT:=QeS x
 obtain⟨o,t,u,n,e,c,d⟩:=x
 unfold ofAClassStatement
 refine z00 (zn0 hT ?_)
 dsimp only
 rw[if_pos (by rfl)]
 refine z00 (z06 ?_)
 simp only[zc3,z29,if_false]
 refine z00 (wpAny_seqItems e d ?_)
 dsimp only
 refine z00 ?_
 rw[← zn6]
 refine zg1 _ (fun rest r s'=>r.1=none/\s'=s/\∀v∈rest,∃a b,v=z80 a b) _ ?_ ?_ _ _ ⟨rfl,rfl,fun v hv=>?_⟩
 ·rintro v rest r s' ⟨hr,rfl,hall⟩
  obtain⟨a,b,rfl⟩:=hall v z12
  refine z00 (m:=ofAClassStatement 7 (.int a b)) (zp0 (a:=false) (by unfold ofAClassStatement;rfl) ?_)
  simp only[z29,if_false]
  exact z06 ⟨rfl,rfl,fun u hu'=>hall u (z09 _ hu')⟩
 ·rintro⟨r1,r2⟩ s' ⟨hr,rfl,_⟩
  simp only at hr
  subst hr
  exact z06 h
 ·simp at hv
  rcases hv with rfl|rfl<;>exact⟨_,_,rfl⟩
theorem QiM {q:Addr}{p:Int×Int}{stored:List Value}{Q:Bool->Shared->Prop}(x:PO s.heap q p)(hs:∀v∈stored,∃r y,v=.ref r/\PO s.heap r y)(h:Q false s):wpAny (model prog w) A (searchCouldBeSeen (.ref q) stored) Q E s:=by
 unfold searchCouldBeSeen
 refine z00 ?_
 refine zg1 _ (fun rest r s'=>r.1=none/\s'=s/\∀v∈rest,∃r y,v=.ref r/\PO s.heap r y) _ ?_ ?_ _ _ ⟨rfl,rfl,hs⟩
 ·rintro v rest r s' ⟨hr,rfl,hall⟩
  obtain⟨r',y,rfl,hy⟩:=hall v z12
  dsimp only
  refine zc4 (fun _=>z06 ⟨rfl,rfl,fun u hu'=>hall u (z09 _ hu')⟩) (fun _=>?_)
  refine z00 (Qda x ?_)
  simp only[zc3,z29,if_false]
  refine z00 (Qda hy ?_)
  simp only[zc3,z29,if_false]
  refine z00 (Qau x ?_)
  simp only[z29,if_false]
  refine z00 (Qau hy ?_)
  simp only[z29,if_false]
  exact z06 ⟨rfl,rfl,fun u hu'=>hall u (z09 _ hu')⟩
 ·rintro⟨r1,r2⟩ s' ⟨hr,rfl,_⟩
  simp only at hr
  subst hr
  exact z06 h
def Es (prog:Program)(w:World)(M:Addr->Int×Int->Prop)(h:Heap)(es:List (Int×Value))(ps:List (Int×Int)):Prop:=Paired (fun(e:Int×Value) p=>∃q,e=(hP prog w p,.ref q)/\PO h q p/\M q p) es ps
theorem Qk6 {M:Addr->Int×Int->Prop}{h:Heap}{es:Array (Int×Value)}{ps:List (Int×Int)}(e:Es prog w M h es.toList ps){i:Nat}{p:Int×Int}(hp:ps[i]? = some p):∃q,es[i]? = some (hP prog w p,.ref q)/\PO h q p:=by
 have:i<es.toList.length:=by rw[z73 e];exact(z17.mp hp).1
 obtain⟨b,eb,q,r1,r2,_⟩:=Paired.get e (z03 this)
 rw[hp] at eb;cases eb
 exact⟨q,by rw[← z13,z03 this,r1],r2⟩
end
section
variable {prog:Program}{w:World}{A:Around}{E:Value->Shared->Prop}{s:Shared}
theorem Qk7 {m:Nat}(h:L2.St.Mk m):m % 2=1:=by
 obtain⟨k,_,e⟩:=h
 omega
theorem Es.po {M:Addr->Int×Int->Prop}{h:Heap}{es:Array (Int×Value)}{ps:List (Int×Int)}(e:Es prog w M h es.toList ps){i:Nat}{x:Int×Value}(hx:es[i]? = some x):∃q p,ps[i]? = some p/\x=(hP prog w p,.ref q)/\PO h q p/\M q p:=by
 rw[← z13] at hx
 obtain⟨b,eb,q,r1,r2⟩:=Paired.get e hx
 exact⟨q,b,eb,r1,r2⟩
theorem Qqf {M:Addr->Int×Int->Prop}{a q:Addr}{pr:Int×Int}{o:Obj}{es:Array (Int×Value)}{ep:Nat}{t:SetTable}{ps:List (Int×Int)}{N:Nat}{Q:SetFound->Shared->Prop}(ho:s.heap.get? a=some o)(hd:o.data=.set es ep t)(T:Tp t es)(hl:es.size<=t.mask)(ee:Es prog w M s.heap es.toList ps)(hq:PO s.heap q pr)(hu:A.units<cLine)
  (hN:(pth t.mask (t.probeStart (hP prog w pr)) N).j∉t.place.toList) (hb:∀k,k<N->(pth t.mask (t.probeStart (hP prog w pr)) k).j∈t.place.toList) (hNl:N<=10 * (t.mask+13))
  (yes:pr∈ps->∀r,Q (.there r) s) (no:pr∉ps->Q (.free (pth t.mask (t.probeStart (hP prog w pr)) N).j false) s) :
  ∀(d k fuel:Nat) (stand:Option Probe),N - k=d->k<=N->d<fuel->stand.getD (t.probeStart (hP prog w pr))=pth t.mask (t.probeStart (hP prog w pr)) k->
   (∀m i:Nat,m<k->t.place[i]? = some (pth t.mask (t.probeStart (hP prog w pr)) m).j->ps[i]?≠some pr)->wpAny (model prog w) A (setSearchFrom a (.ref q) (hP prog w pr) true fuel stand) Q E s:=by
 have hf:t.fits es.size=true:=by
  have:=T.sz
  simp only[zz3,zr3,T.dm,z72,beq_iff_eq,decide_eq_true_eq]
  exact⟨T.sz,by show t.place.size+0<=_;omega⟩
 have gw:t.gaveWay=false:=by
  unfold SetTable.gaveWay
  rw[Qk7 T.ms];rfl
 intro d
 induction d using Nat.strongRecOn with
 |_ d ih=>
  intro k fuel stand hdk hk hfu hst hne
  cases fuel with
  |zero=>omega
  |succ fuel=>
   unfold setSearchFrom
   refine z00 (za5 ho hd hf ?_)
   dsimp only
   rw[gw]
   simp only[z29,if_false]
   have key:=Qc8 T (fun i=>((es[i]?).map (·.1)).getD 0) (hP prog w pr) (p0:=t.probeStart (hP prog w pr)) (QbJ rfl) hN hb (10 * turns t.mask) k hk (by unfold turns;omega)
   rw[hst]
   have hpr:∃r,r=t.probe (fun i=>((es[i]?).map (·.1)).getD 0) (hP prog w pr) (pth t.mask (t.probeStart (hP prog w pr)) k):=⟨_,rfl⟩
   obtain⟨r0,hr0⟩:=hpr
   have key:(r0=some (.empty (pth t.mask (t.probeStart (hP prog w pr)) N).j none)/\∀m i:Nat,k<=m->m<N->t.place[i]? = some (pth t.mask (t.probeStart (hP prog w pr)) m).j->((es[i]?).map (·.1)).getD 0≠hP prog w pr)\/
     ∃m i:Nat,k<=m/\m<N/\t.place[i]? = some (pth t.mask (t.probeStart (hP prog w pr)) m).j/\((es[i]?).map (·.1)).getD 0=hP prog w pr/\r0=some (.candidate (pth t.mask (t.probeStart (hP prog w pr)) m).j i (pth t.mask (t.probeStart (hP prog w pr)) (m+1)))/\∀m' i':Nat,k<=m'->m' < m->t.place[i']? = some (pth t.mask (t.probeStart (hP prog w pr)) m').j->((es[i']?).map (·.1)).getD 0≠hP prog w pr:=by
    rw[hr0];exact key
   split
   rotate_left
   ·rename_i hp
    rcases key with⟨e1,e2⟩|⟨m,i,m1,m2,m3,m4,m5,m6⟩
    ·exact(hp _ (hr0.symm.trans e1)).elim
    ·exact(hp _ (hr0.symm.trans m5)).elim
   rename_i met hp
   have hp:r0=some met:=hr0.trans hp
   clear hr0
   rcases key with⟨e1,e2⟩|⟨m,i,m1,m2,m3,m4,m5,m6⟩
   ·rw[e1] at hp
    cases hp
    dsimp only
    refine z06 (no fun hm=>?_)
    obtain⟨i,hi⟩:=z75 hm
    obtain⟨r,er,pr'⟩:=Qk6 ee hi
    obtain⟨n,j,g1,g2,g3⟩:=T.pa i _ er
    dsimp only at g2 g3
    rcases z62 n N with z|z
    ·rcases z62 n k with y|y
     ·exact hne n i y (by rw[g2];exact g1) hi
     ·refine e2 n i y z (by rw[g2];exact g1) ?_
      rw[er,zf9,zf1]
    ·rcases z62 N n with y|y
     ·exact hN (g3 N y)
     ·have:n=N:=by omega
      subst this
      rw[g2] at hN
      rw[← z13] at g1
      exact hN (z56 g1)
   ·rw[m5] at hp
    cases hp
    dsimp only
    have hi:i<es.size:=by rw[← T.sz];exact(ze5.mp m3).1
    have ei:es[i]? = some es[i]:=z11 hi
    obtain⟨r,p,f1,f2,f3,_⟩:=ee.po ei
    rw[ei,f2]
    have rest:wpAny (model prog w) A (do
      let equal ← holding [z32 r] (eqBool (.ref r) (.ref q))
      let (es',_,t') ← setState a
      if true && equal then return SetFound.there none
      let some same:=t'.sameMemory t.moves t.mask|unsupported "set.changed-during-lookup:is-the-new-block-at-the-old-address"
      let still ← match (if same then t'.slot (pth t.mask (t.probeStart (hP prog w pr)) m).j else .empty) with
       |.live i'=>match es'[i']? with
        |some (_,y')=>do pure (if ← isSame y' (.ref r) then some i' else none)
        |none=>pure none
       |_=>pure none
      match still with
      |none=>rule "set.search.anew";setSearchFrom a (.ref q) (hP prog w pr) true fuel none
      |some i'=>if equal then return .there (some i') else setSearchFrom a (.ref q) (hP prog w pr) true fuel (some (pth t.mask (t.probeStart (hP prog w pr)) (m+1)))) Q E s:=by
     refine z00 (z82 (Qn4 hu f3 hq prog w _ _ ?_))
     refine z00 (za5 ho hd hf ?_)
     dsimp only
     by_cases c:p=pr
     ·rw[decide_eq_true c]
      simp only[zu7,if_true]
      subst c
      exact z06 (yes (z56 f1) none)
     ·rw[decide_eq_false c]
      simp only[Bool.and_false,z29,if_false]
      have sm:t.sameMemory t.moves t.mask=some true:=by unfold SetTable.sameMemory;rw[if_pos (beq_self_eq_true _)]
      rw[sm]
      dsimp only
      rw[if_pos rfl,QbI T.ri m3]
      dsimp only
      rw[ei,f2]
      dsimp only
      refine z00 (wpAny_isSame_ref_self (z00 (z06 ?_)))
      simp only[if_true]
      refine ih (N - (m+1)) (by omega) (m+1) fuel _ rfl (by omega) (by omega) rfl fun m' i' h1 h2 h3=>?_
      rcases z62 m' k with z|z
      ·exact hne m' i' z h2 h3
      ·rcases z62 m' m with y|y
       ·obtain⟨r',e',_⟩:=Qk6 ee h3
        refine m6 m' i' z y h2 ?_
        rw[e',zf9,zf1]
       ·have:m'=m:=by omega
        subst this
        have:i'=i:=by rw[← YK T.ri h2,YK T.ri m3]
        subst this
        rw[f1] at h3;cases h3;exact c rfl
    cases QbL:t.led with
    |true=>simp only[zc3,z29,if_false];exact rest
    |false=>
     simp only[zm2,if_true]
     refine z00 (QiM hq (fun v hv=>?_) ?_)
     ·obtain⟨x,hx,rfl⟩:=z87.mp hv
      rw[zx2,zl1] at hx
      obtain⟨i',hi'⟩:=z75 hx.1
      rw[z13] at hi'
      obtain⟨r',p',_,e',po',_⟩:=ee.po hi'
      exact⟨r',p',by rw[e'],po'⟩
     ·simp only[z29,if_false]
      exact rest
end
theorem Yq {α β:Type}{R:α->β->Prop}{l l':List α}(p:l'.Perm l):∀{m:List β},Paired R l m->∃m',Paired R l' m'/\m'.Perm m:=by
 induction p with
 |nil=>intro m h;exact⟨m,h,.refl _⟩
 |cons x _ ih=>
  intro m h
  cases h with
  |cons r t=>obtain⟨m',h1,h2⟩:=ih t;exact⟨_::m',.cons r h1,h2.cons _⟩
 |swap x y l=>
  intro m h
  cases h with
  |cons r t=>
   cases t with
   |cons r' t=>exact⟨_::_::_,.cons r' (.cons r t),.swap _ _ _⟩
 |trans _ _ ih1 ih2=>
  intro m h
  obtain⟨m',h1,h2⟩:=ih2 h
  obtain⟨m'',h3,h4⟩:=ih1 h1
  exact⟨m'',h3,h4.trans h2⟩
def QeT (prog:Program)(w:World)(M:Addr->Int×Int->Prop)(h:Heap)(a:Addr)(led:Bool)(ps:List (Int×Int)):Prop:=
 ∃o es ep t,h.get? a=some o/\o.ExactSet/\o.data=.set es ep t/\Tp t es/\es.size * 5<t.mask * 3/\t.plain=true/\t.led=led/\Es prog w M h es.toList ps/\ps.Nodup
theorem PO.ext {h h':Heap}{a q:Addr}{o:Obj}{p:Int×Int}(x:PO h q p)(ho:h.get? a=some o)(hc:o.ExactSet)(sb:∀b o,b≠a->h.get? b=some o->h'.get? b=some o):PO h' q p:=by
 obtain⟨o',t,u,n,e,c,d⟩:=x
 refine⟨o',t,u,n,sb q o' (fun z=>?_) e,c,d⟩
 subst z
 rw[e] at ho;cases ho
 have:=hc.1
 rw[c] at this
 injection this with this
 exact absurd this (by decide)
section
variable {prog:Program}{w:World}{A:Around}{E:Value->Shared->Prop}{s:Shared}{M:Addr->Int×Int->Prop}
theorem Es.ext {h h':Heap}{a:Addr}{o:Obj}{es:List (Int×Value)}{ps:List (Int×Int)}(x:Es prog w M h es ps)(ho:h.get? a=some o)(hc:o.ExactSet)(sb:∀b o,b≠a->h.get? b=some o->h'.get? b=some o):Es prog w M h' es ps:=
 Paired.imp' (fun _ _ ⟨q,e,po,m⟩=>⟨q,e,po.ext ho hc sb,m⟩) x
theorem Qcz {t:SetTable}{es:Array (Int×Value)}(T:Tp t es)(hl:es.size<=t.mask):t.fits es.size=true:=by
 simp only[zz3,zr3,T.dm,z72,beq_iff_eq,decide_eq_true_eq]
 exact⟨T.sz,by have:=T.sz;show t.place.size+0<=_;omega⟩
theorem mk_le {m:Nat}(h:L2.St.Mk m):7<=m/\m<=8191:=by
 obtain⟨k,hk,e⟩:=h
 have p:2 ^ k<=2 ^ 10:=zm0 (by decide) hk
 have q:0<2 ^ k:=Nat.pow_pos (by decide)
 omega
theorem QiN {t:SetTable}{es:Array (Int×Value)}(T:Tp t es):t.fill=es.size:=by
 unfold zr3;rw[T.dm,T.sz];rfl
theorem Qdb {n:Nat}(h:n<=8192):n<=z20:=by rw[z55];omega
theorem Qk8 {a q:Addr}{led:Bool}{ps:List (Int×Int)}{pr:Int×Int}{Q:Bool->Shared->Prop}(hu:A.units<cLine)(hS:QeT prog w M s.heap a led ps)(hq:PO s.heap q pr)(hm:M q pr)(hn:ps.length<1900)
  (k:∀h' ps' b,zb0 a s.heap h'->QeT prog w M h' a led ps'->ps'.Perm (if pr∈ps then ps else ps++[pr])->Q b { s with heap:=h' }):wpAny (model prog w) A (setAddHashed a (.ref q) (hP prog w pr)) Q E s:=by
 obtain⟨o,es,ep,t,ho,hex,hd,T,hlo,hpl,QbL,hes,nd⟩:=id hS
 have le:es.size=ps.length:=by have:=z73 hes;rw[z42] at this;exact this
 have mk:=mk_le T.ms
 have hl:es.size<=t.mask:=by omega
 have hf:=Qcz T hl
 obtain⟨N,n1,n2,n3⟩:=QiG T.ms (l:=t.place.toList) (by rw[z42,T.sz];exact hl) (hP prog w pr)
 unfold setAddHashed
 refine z82 ?_
 unfold setAddHashedIn
 refine z00 (za5 ho hd hf ?_)
 dsimp only
 rw[show byScan (.ref q) es=false from rfl]
 simp only[z29,if_false]
 refine z00 (Qqf (N:=N) ho hd T hl hes hq hu n2 n3 n1 (fun hin r=>?_) (fun hin=>?_) (N - 0) 0 100000 none rfl (z49 _) (by omega) rfl (fun m i z=>absurd z (zd9 _)))
 ·dsimp only
  refine z06 ?_
  have:=k s.heap ps false (zt7 _ _) hS (by rw[if_pos hin])
  exact this
 ·dsimp only
  have T1:=Qk3 T (x:=.ref q) n2 n3
  refine z00 (za5 ho hd hf ?_)
  dsimp only
  generalize hpt:t.put (pth t.mask (t.probeStart (hP prog w pr)) N).j=pt at T1 ⊢
  have QiO:pt.1.plain=true/\pt.1.led=led/\pt.1.mask=t.mask:=by rw[← hpt];exact⟨hpl,QbL,rfl⟩
  obtain⟨t1,p1⟩:=pt
  dsimp only at T1 QiO ⊢
  have pm1:=insertAt_perm es p1 (hP prog w pr,z32 q)
  generalize he1:insertAt es p1 (hP prog w pr,z32 q)=es1 at T1 pm1 ⊢
  rw[z40] at pm1
  have sz1:es1.size=es.size+1:=by rw[← he1,QaQ]
  rw[QiO.1]
  simp only[if_true]
  refine z00 (QdT hq ?_)
  simp only[if_true]
  refine z00 (wpAny_storeSet_of ho hd ?_ (Qdb (by omega)))
  have hg:(s.heap.update a (zh8 es1 t1)).get? a=some { o with data:=.set es1 (ep+1) t1 }:=by
   have:=z68 (zh8 es1 t1) ho (by rw[putSet_of es1 t1 hd];rfl)
   rw[putSet_of es1 t1 hd] at this;exact this
  have hsb:=z65 s.heap a (zh8 es1 t1)
  have Qpr:Obj.ExactSet { o with data:=.set es1 (ep+1) t1 }:=hex
  obtain⟨ps1,Qqg,pm2⟩:=Yq pm1 (zv7 hes (show ∃r,(hP prog w pr,z32 q)=(hP prog w pr,z32 r)/\PO s.heap r pr/\M r pr from⟨q,rfl,hq,hm⟩))
  have QiP:Es prog w M (s.heap.update a (zh8 es1 t1)) es1.toList ps1:=Es.ext Qqg ho hex hsb.extBut
  have nd1:ps1.Nodup:=pm2.nodup_iff.mpr (by
   rw[z07]
   exact⟨nd,z53.mpr ⟨by simp,zi9⟩,fun x hx y hy e=>by rw[z19] at hy;subst hy;subst e;exact hin hx⟩)
  have pmk:∀ps':List (Int×Int),ps'.Perm ps1->ps'.Perm (if pr∈ps then ps else ps++[pr]):=fun ps' z=>by rw[if_neg hin];exact z.trans pm2
  generalize s.heap.update a (zh8 es1 t1)=h1 at hg hsb QiP ⊢
  refine zc4 (fun hc=>?_) (fun hc=>z06 (k h1 ps1 true hsb ⟨_,es1,ep+1,t1,hg,Qpr,rfl,T1,?_,QiO.1,QiO.2.1,QiP,nd1⟩ (pmk _ (.refl _))))
  ·refine z00 ?_
   unfold setRelay
   refine z00 (za5 (s:={ s with heap:=h1 }) (es:=es1) (ep:=ep+1) (t:=t1) hg rfl (Qcz T1 (by rw[QiO.2.2];omega)) ?_)
   dsimp only
   have gr:zp7 (es.size+1)=(es.size+1) * 4:=by unfold zp7;rw[if_neg (by omega)]
   obtain⟨mk2,mk3,mk4⟩:=QgS (n:=zp7 (es.size+1)) (by rw[gr];omega)
   rw[gr] at mk2 mk3 mk4 ⊢
   rw[if_neg (by rw[z55];omega)]
   have hr:=QiK (finger:=t1.finger) (moves:=t1.movedTo (sizeAbove ((es.size+1) * 4) - 1)) (led:=t1.led) (plain:=t1.plain) mk2 (es:=es1) (by omega)
   obtain⟨t2,order,r1,r2,r3,r4,r5,r6⟩:=hr
   have r1:t1.relaid (es1.map (·.1)) ((es.size+1) * 4)=some (t2,order):=r1
   rw[r1]
   have ls:=r5.length_eq
   rw[z42,z42] at ls
   have ne:((order.filterMap (es1[·]?)).size != es1.size)=false:=by rw[ls];exact bne_self_eq_false _
   refine z00 ?_
   show wpAny _ _ (if((order.filterMap (es1[·]?)).size != es1.size)=true then unsupported _ >>= fun _=>pure (order.filterMap (es1[·]?),t2) else pure (order.filterMap (es1[·]?),t2)) _ _ _
   rw[ne]
   simp only[z29,if_false]
   refine z06 ?_
   dsimp only
   generalize order.filterMap (es1[·]?)=es2 at r5 r6 ls ⊢
   refine wpAny_storeSet_of (s:={ s with heap:=h1 }) (es:=es1) (ep:=ep+1) (t:=t1) hg rfl ?_ (Qdb (by omega))
   have hg2:(h1.update a (zh8 es2 t2)).get? a=some { o with data:=.set es2 (ep+1+1) t2 }:=by
    have:=z68 (zh8 es2 t2) hg (by rw[putSet_of es2 t2 (es:=es1) (ep:=ep+1) (t:=t1) rfl];rfl)
    rw[putSet_of es2 t2 (es:=es1) (ep:=ep+1) (t:=t1) rfl] at this;exact this
   have Qps:=z65 h1 a (zh8 es2 t2)
   obtain⟨ps2,Qqh,pm3⟩:=Yq r5 QiP
   refine z06 (k _ ps2 true (hsb.trans Qps) ⟨_,es2,_,t2,hg2,hex,rfl,r6,?_,by rw[r4];exact QiO.1,by rw[r3];exact QiO.2.1,Es.ext Qqh hg Qpr Qps.extBut,pm3.nodup_iff.mpr nd1⟩ (pmk _ pm3))
   rw[r2];omega
  ·have f1:=QiN T1
   simp only[zm2,zj7,SetTable.tooFull,f1] at hc
   simpa using hc
end
def Ji (ps:List (Int×Int))(p:Int×Int):List (Int×Int):=if p∈ps then ps else ps++[p]
def upTo (ps:List (Int×Int)):List (Int×Int):=ps.foldl Ji []
theorem QgT {ps:List (Int×Int)}{p:Int×Int}(h:ps.Nodup):(Ji ps p).Nodup:=by
 unfold Ji
 split
 ·exact h
 ·rename_i c
  rw[z07]
  exact⟨h,z53.mpr ⟨by simp,zi9⟩,fun x hx y hy e=>by rw[z19] at hy;subst hy;subst e;exact c hx⟩
theorem QeU {ps:List (Int×Int)}{p q:Int×Int}:q∈Ji ps p↔q∈ps\/q=p:=by
 unfold Ji
 split
 ·rename_i c
  exact⟨.inl,fun h=>h.elim id fun e=>e▸c⟩
 ·rw[z04,z19]
theorem QeV {ps:List (Int×Int)}{p:Int×Int}:(Ji ps p).length<=ps.length+1:=by
 unfold Ji
 split
 ·omega
 ·rw[z10];exact z18 _
theorem QdU {ps qs:List (Int×Int)}{p:Int×Int}(h:ps.Perm qs):(Ji ps p).Perm (Ji qs p):=by
 unfold Ji
 by_cases c:p∈ps
 ·rw[if_pos c,if_pos (h.mem_iff.mp c)];exact h
 ·rw[if_neg c,if_neg fun z=>c (h.mem_iff.mpr z)];exact h.append (.refl _)
theorem QbM (ps:List (Int×Int))(p:Int×Int):upTo (ps++[p])=Ji (upTo ps) p:=by
 unfold upTo;rw[zo7];rfl
theorem YL:∀(ps:List (Int×Int)),(upTo ps).length<=ps.length:=by
 intro ps
 have:∀(ps acc:List (Int×Int)),(ps.foldl Ji acc).length<=acc.length+ps.length:=by
  intro ps
  induction ps with
  |nil=>intro acc;exact z18 _
  |cons p ps ih=>intro acc;rw[zd8,z25];have:=ih (Ji acc p);have:=QeV (ps:=acc) (p:=p);omega
 simpa[upTo] using this ps []
theorem Yr (ps:List (Int×Int)):(upTo ps).Nodup:=by
 have:∀(ps acc:List (Int×Int)),acc.Nodup->(ps.foldl Ji acc).Nodup:=by
  intro ps
  induction ps with
  |nil=>intro acc h;exact h
  |cons p ps ih=>intro acc h;exact ih _ (QgT h)
 exact this ps [] .nil
theorem Vz (ps:List (Int×Int))(q:Int×Int):q∈upTo ps↔q∈ps:=by
 have:∀(ps acc:List (Int×Int)),q∈ps.foldl Ji acc↔q∈acc\/q∈ps:=by
  intro ps
  induction ps with
  |nil=>intro acc;simp
  |cons p ps ih=>intro acc;rw[zd8,ih,QeU,z26,or_assoc]
 simpa[upTo] using this ps []
section
variable {prog:Program}{w:World}{A:Around}{E:Value->Shared->Prop}{s:Shared}{R:Result->Shared->Prop}{M:Addr->Int×Int->Prop}
theorem QeT.fresh (led:Bool){h:Heap}{a:Addr}(ho:h.get? a=some { cls:=.type "set",dict:=none,data:=.set #[] 0 (.fresh 0 0 led)}):QeT prog w M h a led []:=
 ⟨_,#[],0,.fresh 0 0 led,ho,⟨rfl,rfl,rfl⟩,rfl,⟨rfl,⟨0,by omega,rfl⟩,rfl,.nil,fun i e z=>by simp at z⟩,by show 0 * 5<7 * 3;omega,rfl,rfl,.nil,.nil⟩
theorem QeW (hh:A.handled=none)(hu:A.units+1<cLine){S I l:Addr}{led:Bool}{qs:List Addr}{ps:List (Int×Int)}(hSI:S≠I)(hSl:S≠l)(hIl:l≠I)(lq:qs.length=ps.length)(hn:ps.length<1900)(pM:Paired M qs ps){h0:Heap}
  (hR:∀h' tk ps',(∀b o,b≠S->b≠I->h0.get? b=some o->h'.get? b=some o)->QeT prog w M h' S led ps'->ps'.Perm (upTo ps)->R (.ok (.ret .none)) { s with heap:=h',toks:=tk }) :
  ∀(m i:Nat) (h:Heap) (tk:Nat) (ps':List (Int×Int)),ps.length - i=m->i<=ps.length->h.IsListIter I l i->h.IsList l (qs.map z32).toArray->Paired (PO h) qs ps->(∀b o,b≠S->b≠I->h0.get? b=some o->h.get? b=some o)->QeT prog w M h S led ps'->ps'.Perm (upTo (ps.take i))->
   codeAny (model prog w) A (.builtin "set.update.loop" ⟨[.ref S,.ref I],[]⟩) R { s with heap:=h,toks:=tk }:=by
 intro m
 induction m with
 |zero=>
  intro i h tk ps' hm hi hit hl pr kp hS pm
  have:i=ps.length:=by omega
  subst this
  rw[zc8] at pm
  refine zc5 zx1 ?_
  rw[z98 zk6 _]
  show wpAny _ A.in1 (pyNext (.ref I) >>= _) _ _ _
  refine z00 (wpAny_pyNext_list_end (s:={ s with heap:=h,toks:=tk }) hh hit hl (by simp[lq]) fun h' he=>z06 (hR h' tk ps' (fun b o b1 b2 e=>he b o b2 (kp b o b1 b2 e)) ?_ pm))
  obtain⟨o,es,ep,t,ho,hex,hd,T,hlo,hpl,QbL,hes,nd⟩:=hS
  refine⟨o,es,ep,t,he _ _ hSI ho,hex,hd,T,hlo,hpl,QbL,Paired.imp' (fun _ _ ⟨q,e,⟨o',t',u',n',e',c',d'⟩,m⟩=>⟨q,e,⟨o',t',u',n',he _ _ (fun z=>?_) e',c',d'⟩,m⟩) hes,nd⟩
  subst z
  obtain⟨oi,q1,q2,_⟩:=hit
  rw[e'] at q1;cases q1
  rw[c'] at q2;injection q2 with q2;exact absurd q2 (by decide)
 |succ m ih=>
  intro i h tk ps' hm hi hit hl pr kp hS pm
  have hlt:i<ps.length:=by omega
  have hq:i<qs.length:=by omega
  refine zc5 zx1 ?_
  rw[z98 zk6 _]
  show wpAny _ A.in1 (pyNext (.ref I) >>= _) _ _ _
  refine z00 (zz0 (s:={ s with heap:=h,toks:=tk }) hit hl (x:=.ref qs[i]) (by simp[hq]) fun h' hit' hs'=>?_)
  dsimp only at hs'
  have nI:∀{q:Addr} {p:Int×Int},PO h q p->PO h' q p:=fun{q p} ⟨o',t',u',n',e',c',d'⟩=>⟨o',t',u',n',hs'.extBut _ _ (fun z=>by
   subst z
   obtain⟨oi,q1,q2,_⟩:=hit
   rw[e'] at q1;cases q1
   rw[c'] at q2;injection q2 with q2;exact absurd q2 (by decide)) e',c',d'⟩
  have hS':QeT prog w M h' S led ps':=by
   obtain⟨o,es,ep,t,ho,hex,hd,T,hlo,hpl,QbL,hes,nd⟩:=hS
   exact⟨o,es,ep,t,hs'.extBut _ _ hSI ho,hex,hd,T,hlo,hpl,QbL,Paired.imp' (fun _ _ ⟨q,e,po,m⟩=>⟨q,e,nI po,m⟩) hes,nd⟩
  have pr':Paired (PO h') qs ps:=Paired.imp' (fun _ _ z=>nI z) pr
  have po:PO h' qs[i] ps[i]:=by
   have:=QbG.Qn3 pr' hq
   rw[z22,z22,z03 hq,z03 hlt] at this
   exact this
  have mo:M qs[i] ps[i]:=by
   have:=QbG.Qn3 pM hq
   rw[z22,z22,z03 hq,z03 hlt] at this
   exact this
  have kp':∀b o,b≠S->b≠I->h0.get? b=some o->h'.get? b=some o:=fun b o b1 b2 e=>hs'.extBut b o b2 (kp b o b1 b2 e)
  have hl':=hl.extBut hs'.extBut hIl
  show wpAny _ A.in1 (holding [z32 qs[i]] (setAdd S (.ref qs[i])) >>= _) _ _ _
  refine z00 (z82 ?_)
  unfold setAdd
  refine z82 ?_
  have hu1:A.in1.units<cLine:=by have:=units_in1 (A:=A);omega
  refine z00 (QiL (s:={ s with heap:=h',toks:=tk }) hu1 po ?_)
  have lps:ps'.length<1900:=by rw[pm.length_eq];have:=YL (ps.take i);rw[z39] at this;omega
  refine Qk8 (s:={ s with heap:=h',toks:=tk+3 }) hu1 hS' po mo lps fun h'' Qqi _ sb hS'' Qqj=>z06 ⟨plainId_quiet zk6 _,?_⟩
  obtain⟨so,_,_,_,hso,hsx,_⟩:=id hS'
  refine ih (i+1) h'' (tk+3) Qqi (by omega) hlt (hit'.extBut sb.extBut (zg0 hSI)) (hl'.extBut sb.extBut (zg0 hSl)) (Paired.imp' (fun _ _ z=>z.ext hso hsx sb.extBut) pr') (fun b o b1 b2 e=>sb.extBut b o b1 (kp' b o b1 b2 e)) hS'' ?_
  rw[zt5,z03 hlt,zm5,QbM]
  exact Qqj.trans (QdU pm)
def Qgn (w:World):Obj:={ cls:=.type "set",dict:=none,data:=.set #[] 0 (.fresh 0 0 (!w.params.followText "set-order"))}
theorem QiQ (a:Value){Q₁:Value->Shared->Prop}(h:Q₁ (.ref s.heap.objs.size) { s with heap:=s.heap.push (Qgn w)}):codeAny (model prog w) A (.call (.builtin "set.__new__") ⟨[.type "set",a],[]⟩) (wants Q₁ E) s:=by
 have key:=@code_set_new_1 prog w A E s a (fun v s'=>v=.ref s.heap.objs.size/\∃led:Bool,s'={ s with heap:=s.heap.push { cls:=.type "set",dict:=none,data:=.set #[] 0 (.fresh 0 0 led)}}) (fun led=>⟨rfl,led,rfl⟩)
 have hsub:=sub_set_self
 refine codeAny_of_tree (z00 (zp0 (F.newCall_set_1 a) (z06 ⟨plainId_quiet zu1 _,zc5 PySem.F.entry_set_new ?_⟩)))
 rw[z98 zu1 _]
 obtain⟨hp,g,d,tk,os⟩:=s
 unfold Builtin.«set.__new__»
 unfold Builtin.Frozenset.newClass
 wp_walk
 refine zi1 (z06 ?_)
 dsimp only
 simp only[newObj]
 exact z00 (wpAny_alloc (z06 (z06 h)))
theorem QeX (hh:A.handled=none)(hu:A.units+8<cLine){l:Addr}{qs:List Addr}{ps:List (Int×Int)}{Q:Value->Shared->Prop}(hl:s.heap.IsList l (qs.map z32).toArray)(pr:Paired (PO s.heap) qs ps)(pM:Paired M qs ps)(hn:ps.length<1900)
  (k:∀(h':Heap) (tk:Nat) (ps':List (Int×Int)),QeT prog w M h' s.heap.objs.size (!w.params.followText "set-order") ps'->ps'.Perm (upTo ps)->Kp s.heap h'->Q (.ref s.heap.objs.size) { s with heap:=h',toks:=tk }) :
  wpAny (model prog w) A (call (.type "set") [.ref l]) Q E s:=by
 have lq:=z73 pr
 obtain⟨c,tl,hmro⟩:=z94.mro
 have hmade:=z94.made
 have hsub:=z94.sub
 have h1:=z94.notType
 have h2:=z94.canCreate
 have hct:=PySem.F.typeCall_set_1 (.ref l)
 refine wpAny_call (codeAny_of_tree (z06 ⟨Code.quiet_builtin _ (by decide +kernel),zc5 PySem.F.entry_type_call ?_⟩))
 rw[Around.under_plain (weight_type_call_type "set" [.ref l] []) rfl]
 repeat (any_goals (first|assumption|wp_step))
 refine zh7 (QiQ (.ref l) (E:=E) (Q₁:=fun v s₁=>v=.ref s.heap.objs.size/\s₁={ s with heap:=s.heap.push (Qgn w)}) ⟨rfl,rfl⟩) fun r s₁ hr=>?_
 rcases r with e|fl
 ·exact hr
 ·cases fl with
  |ret obj=>
   obtain⟨rfl,rfl⟩:=hr
   have hS:(s.heap.push (Qgn w)).get? s.heap.objs.size=some (Qgn w):=z37 _ rfl
   have hT:Shared.TypeIs { s with heap:=s.heap.push (Qgn w)} (.ref s.heap.objs.size) "set" := ⟨_,hS,rfl⟩
   have hli:=z94.init.lookup
   have hbi:=z94.init.bind (.ref s.heap.objs.size)
   repeat (any_goals (first|assumption|wp_step))
   refine zh7 (codeAny_call_builtin (R:=wants (fun r s₂=>r=.none/\∃h' tk ps',s₂={ s with heap:=h',toks:=tk }/\QeT prog w M h' s.heap.objs.size (!w.params.followText "set-order") ps'/\ps'.Perm (upTo ps)/\Kp s.heap h') E) z94.init.plain PySem.F.entry_set_init (check_set_init_1 hT ?_)) fun r₂ s₂ hr₂=>?_
   ·have kp0:Kp s.heap (s.heap.push (Qgn w)):=fun b o e=>z16 _ e
    have hl1:(s.heap.push (Qgn w)).IsList l (qs.map z32).toArray:=hl.push _
    obtain⟨ol,hol,hcl,nl,hdl⟩:=id hl
    obtain⟨ocls,odict,odata,oslots⟩:=ol
    simp only at hcl hdl
    subst hcl;subst hdl
    have hol':=z16 (Qgn w) hol
    have hsls:=F.sub_list_set
    have hslf:=F.sub_list_frozenset
    have hne:(Value.type "list" == Value.type "dict")=false:=by decide
    unfold Builtin.«set.__init__» noKeywords Builtin.Frozenset.updateFrom
    generalize hPI:pyIter=PI
    wp_walk
    subst hPI
    refine wpAny_pyIter_list hl1 (z00 (wpAny_runValue ?_))
    have ls:l<s.heap.objs.size:=z33 hol
    have sz:(s.heap.push (Qgn w)).objs.size=s.heap.objs.size+1:=zt6 _ _
    refine QeW (s:=s) (S:=s.heap.objs.size) (I:=(s.heap.push (Qgn w)).objs.size) (l:=l) (led:=!w.params.followText "set-order") (qs:=qs) (ps:=ps) (h0:=s.heap) (by simp[hh]) ?_ (by rw[sz];exact z51 (za9 _)) (zl7 ls) (by rw[sz];exact z51 (ze6 ls)) lq hn pM ?_ (ps.length - 0) 0 _ s.toks [] rfl (z49 _) ⟨_,z37 _ rfl,rfl,rfl⟩ (hl1.push _) ?_ ?_ (QeT.fresh _ (z16 _ hS)) (by rw[zt3];exact .refl _)
    ·show A.units+1+1+1<cLine;omega
    ·intro h' tk' ps' kp hS' pm
     refine z06 (z06 ⟨rfl,h',tk',ps',rfl,hS',pm,fun b o e=>kp b o (z51 (z33 e)) (by rw[sz];exact z51 (ze6 (z33 e))) e⟩)
    ·exact Paired.imp' (fun _ _ z=>(z.kp kp0).kp fun b o e=>z16 _ e) pr
    ·exact fun b o b1 b2 e=>z16 _ (kp0 b o e)
   ·rcases r₂ with e|fl₂
    ·exact hr₂
    ·cases fl₂ with
     |ret r=>
      obtain⟨rfl,h',tk,ps',rfl,hS',pm,hk'⟩:=hr₂
      repeat (any_goals (first|assumption|wp_step))
      exact k _ _ _ hS' pm hk'
     |_=>exact hr₂.elim
  |_=>exact hr.elim
end
end L2.Srt
namespace L2.Srt
open PySem PySem.W PySem.Calls PyProof.Rows
structure Wk (prog:Program)(w:World)(A:Around)(I r:Addr)(n:Nat)(P:Nat->Value->Prop)(St:Nat->Heap->Prop):Prop where
 frame:∀i h h',St i h->(∀b o,b=I\/b=r->h.get? b=some o->h'.get? b=some o)->St i h'
 item:∀i (s:Shared) (Q:Option Value->Shared->Prop) (E:Value->Shared->Prop),i<n->St i s.heap->(∀v h',P i v->St (i+1) h'->(∀b o,b≠I->s.heap.get? b=some o->h'.get? b=some o)->Q (some v) { s with heap:=h' })->wpAny (model prog w) A (pyNext (.ref I)) Q E s
 done:∀(s:Shared) (Q:Option Value->Shared->Prop) (E:Value->Shared->Prop),St n s.heap->(∀h',(∀b o,b≠I->s.heap.get? b=some o->h'.get? b=some o)->Q none { s with heap:=h' })->wpAny (model prog w) A (pyNext (.ref I)) Q E s
section
variable {prog:Program}{w:World}{A:Around}{E:Value->Shared->Prop}
theorem Wk.of1 {I r:Addr}{n:Nat}{P:Nat->Value->Prop}{St:Nat->Heap->Prop}(W:Wk prog w A.in1 I r n P St):Wk prog w A I r n P St:=⟨W.frame,fun i s Q E hi st hQ=>wpAny_of_in1 (W.item i s Q E hi st hQ),fun s Q E st hQ=>wpAny_of_in1 (W.done s Q E st hQ)⟩
theorem QeY {g:Shared}{S I r:Addr}{n:Nat}{P:Nat->Value->Prop}{St:Nat->Heap->Prop}{R:Result->Shared->Prop}(W:Wk prog w A.in1 I r n P St)(hn:n<=z20)(hI:S≠I)(hr:S≠r)(res:Value){h0:Heap}
  (k:∀h' tk c vs,(∀b o,b≠S->b≠I->h0.get? b=some o->h'.get? b=some o)->h'.get? S=some (seqObj "list" vs c)->ItemsOf P vs n->R (.ok (.ret res)) { g with heap:=h',toks:=tk }) :
  ∀(m i:Nat) (h:Heap) (tk c:Nat) (vs:Array Value),n - i=m->i<=n->St i h->(∀b o,b≠S->b≠I->h0.get? b=some o->h.get? b=some o)->h.get? S=some (seqObj "list" vs c)->ItemsOf P vs i->
   codeAny (model prog w) A (.builtin "list.extend.loop" ⟨[.ref S,.ref I,res],[]⟩) R { g with heap:=h,toks:=tk }
 |0,i,h,tk,c,vs,hm,hi,st,kp,hS,hv=>by
  have:i=n:=by omega
  subst this
  refine zc5 zq9 ?_
  rw[z98 za8 _]
  show wpAny _ A.in1 (pyNext (.ref I) >>= _) _ _ _
  exact z00 (W.done { g with heap:=h,toks:=tk } _ _ st fun h' he=>z06 (k h' tk c vs (fun b o b1 b2 e=>he b o b2 (kp b o b1 b2 e)) (he S _ hI hS) hv))
 |m+1,i,h,tk,c,vs,hm,hi,st,kp,hS,hv=>by
  have hlt:i<n:=by omega
  refine zc5 zq9 ?_
  rw[z98 za8 _]
  show wpAny _ A.in1 (pyNext (.ref I) >>= _) _ _ _
  refine z00 (W.item i { g with heap:=h,toks:=tk } _ _ hlt st fun v h' hP st' he=>?_)
  have hS':=he S _ hI hS
  have oth:∀b o,b≠S->h'.get? b=some o->(h'.update S (z60 (·.push v))).get? b=some o:=fun b o hb e=>(zd4 _ _ (zg0 hb)).trans e
  show wpAny _ A.in1 (updateSeq S (·.push v) >>= _) _ _ _
  refine z00 (zu9 hS' rfl (z06 ⟨plainId_quiet za8 _,QeY W hn hI hr res k m (i+1) _ tk _ (vs.push v) (by omega) hlt (W.frame _ _ _ st' fun b o hb e=>oth b o (by rcases hb with rfl|rfl<;>exact zg0 (by assumption)) e) (fun b o b1 b2 e=>oth b o b1 (he b o b2 (kp b o b1 b2 e))) (z68 (z60 (·.push v)) hS' rfl) (hv.push hP)⟩) (by rw[hv.1];omega) ?_)
  show(vs.push v).size<=z20+1
  rw[z54,hv.1];omega
theorem Qdc {g:Shared}{r:Addr}{T:String}{or it:Obj}{n:Nat}{P:Nat->Value->Prop}{St:Addr->Nat->Heap->Prop}{R:List Value->Shared->Prop}(hr:g.heap.get? r=some or)(hc:or.cls=.type T)(hT1:(Value.type T == Value.type "list")=false)(hT2:(Value.type T == Value.type "tuple")=false)(hn:n<=z20)(hif:it.isFreed=false)
  (hI:∀(A:Around) (h:Heap) (tk:Nat) (Q:Value->Shared->Prop) (E:Value->Shared->Prop),Kp g.heap h->Q (.ref h.objs.size) { g with heap:=h.push it,toks:=tk }->wpAny (model prog w) A (pyIter (.ref r)) Q E { g with heap:=h,toks:=tk })
  (hh:∀(A:Around) (h:Heap) (tk:Nat) (Q:Bool->Shared->Prop) (E:Value->Shared->Prop),Kp g.heap h->Q false { g with heap:=h,toks:=tk }->wpAny (model prog w) A (z97 (.ref r)) Q E { g with heap:=h,toks:=tk })
  (W:∀I,r≠I->Wk prog w A.in1.in1 I r n P (St I)) (st:∀h I,r≠I->h.get? r=some or->h.get? I=some it->St I 0 h)
  (k:∀(h':Heap) (tk:Nat) (vs:List Value),Kp g.heap h'->g.heap.objs.size<h'.objs.size->vs.length=n->(∀j v,vs[j]? = some v->P j v)->R vs { g with heap:=h',toks:=tk }):wpAny (model prog w) A (collect (.ref r)) R E g:=by
 have rl:r<g.heap.objs.size:=z33 hr
 unfold collect
 refine z00 (wpAny_runValue (zc5 entry_proto_collect' ?_))
 rw[z98 PySem.F.plain_proto_collect _]
 show wpAny _ A.in1 (newList [] >>= fun l=>again (.builtin "list.__iadd__" ⟨[l,.ref r],[]⟩)) _ _ g
 refine z00 (za6 (z06 ⟨plainId_quiet zs6 _,zc5 entry_list_iadd' ?_⟩))
 rw[z98 zs6 _]
 generalize hh1:g.heap.push { cls:=.type "list",data:=.seq ([]:List Value).toArray }=h1
 have kp1:Kp g.heap h1:=fun b o e=>by rw[← hh1];exact z16 _ e
 have sz1:h1.objs.size=g.heap.objs.size+1:=by rw[← hh1,zt6]
 have hS:h1.get? g.heap.objs.size=some (seqObj "list" #[] 0):=by rw[← hh1];exact z37 _ rfl
 show wpAny _ A.in1 (zm9 (.ref g.heap.objs.size) (.ref r) (.ref g.heap.objs.size)) _ _ { g with heap:=h1 }
 unfold zm9
 refine z00 (zn0 (T:=T) ⟨or,kp1 _ _ hr,hc⟩ ?_)
 have q1:zo4 (.ref g.heap.objs.size) (.ref r)=false:=by simp[zo4,zl7 rl]
 simp only[q1,hT1,hT2,Bool.or_false,z29,if_false]
 refine z00 (hI _ h1 g.toks _ _ kp1 ?_)
 have kp2:Kp g.heap (h1.push it):=fun b o e=>z16 _ (kp1 b o e)
 have nI:r≠h1.objs.size:=by rw[sz1];exact z51 (ze6 rl)
 have go:∀(h:Heap) (c tk:Nat),(∀b o,b≠g.heap.objs.size->(h1.push it).get? b=some o->h.get? b=some o)->h.get? g.heap.objs.size=some (seqObj "list" #[] c)->
   codeAny (model prog w) A (.builtin "list.extend.loop" ⟨[.ref g.heap.objs.size,.ref h1.objs.size,.ref g.heap.objs.size],[]⟩) (fun q s'=>∃(h':Heap) (tk' c':Nat) (vs:Array Value),q=.ok (.ret (.ref g.heap.objs.size))/\s'={ g with heap:=h',toks:=tk' }/\Kp g.heap h'/\h'.get? g.heap.objs.size=some (seqObj "list" vs c')/\ItemsOf P vs n) { g with heap:=h,toks:=tk }:=fun h c tk hk hSh=>by
  refine QeY (g:=g) (h0:=g.heap) (W h1.objs.size nI).of1 hn (by rw[sz1];exact z51 (za9 _)) (zl7 rl) (.ref g.heap.objs.size) (fun h' tk' c' vs e1 e2 e3=>⟨h',tk',c',vs,rfl,rfl,fun b o e=>e1 b o (z51 (z33 e)) (by rw[sz1];exact z51 (ze6 (z33 e))) e,e2,e3⟩) (n - 0) 0 h tk c #[] rfl (z49 _) (st _ _ nI (hk _ _ (z51 rl) (kp2 _ _ hr)) (hk _ _ (by rw[sz1];exact zl7 (za9 _)) (z37 _ hif))) (fun b o b1 b2 e=>hk b o b1 (kp2 b o e)) hSh (ItemsOf.nil P)
 have hS₁:=z16 it hS
 refine z00 (z82 (hh _ _ g.toks _ _ kp2 (zc4 (fun _=>z00 (zx3 (z00 ?_))) (fun _=>z06 ⟨plainId_quiet za8 _,zh7 (go _ 0 g.toks (fun b o _ e=>e) hS₁) ?_⟩))))
 ·show wpAny _ _ (updateSeq g.heap.objs.size (·.push .none) >>= fun _=>updateSeq g.heap.objs.size (·.pop)) _ _ _
  have hS₂:=z68 (z60 (·.push z43)) hS₁ rfl
  have hS₃:=z68 (z60 (·.pop)) hS₂ rfl
  refine z00 (zu9 hS₁ rfl (zu9 (hz:=by seq_fits) hS₂ rfl (z06 ⟨plainId_quiet za8 _,zh7 (go _ _ g.toks (fun b o hb e=>(zd4 _ _ (zg0 hb)).trans ((zd4 _ _ (zg0 hb)).trans e)) hS₃) ?_⟩)))
  rintro q s' ⟨h',tk',c',vs,rfl,rfl,e3,e4,e5⟩
  show wpAny _ A (load g.heap.objs.size >>= _) _ _ _
  exact z00 (wpAny_load e4 (z06 (k h' tk' vs.toList e3 (z33 e4) (by rw[z42,e5.1]) fun j v hj=>e5.2 j v (by rw[← z13];exact hj))))
 ·rintro q s' ⟨h',tk',c',vs,rfl,rfl,e3,e4,e5⟩
  show wpAny _ A (load g.heap.objs.size >>= _) _ _ _
  exact z00 (wpAny_load e4 (z06 (k h' tk' vs.toList e3 (z33 e4) (by rw[z42,e5.1]) fun j v hj=>e5.2 j v (by rw[← z13];exact hj))))
end
end L2.Srt
namespace L2.Srt
open PySem PySem.W PySem.Calls PyProof.Rows PySem.SetTable L2.St
theorem siN:Slot "set_iterator" "__next__" "set_iterator.__next__" := .of (owner := "set_iterator") (n := "__next__") (by rw[typeLookup_type,builtinLookup_eq_fast];kernel_rfl) (by decide +kernel) (by decide +kernel) (by decide +kernel) (by first|exact .inl (by decide +kernel)|exact .inr (by decide +kernel)) (by rw[zw3];kernel_rfl)
theorem siE:entryFor table "set_iterator.__next__" = some Builtin.«set_iterator.__next__» := entryFor_of_tree (by kernel_rfl)
theorem siA (a:Value):argsOk "set_iterator.__next__" ⟨[a],[]⟩:=by unfold argsOk;kernel_rfl
theorem seE:entryFor table "set.__iter__" = some Builtin.«frozenset.__iter__» := entryFor_alias (id' := "frozenset.__iter__") (by kernel_rfl) rfl (by decide +kernel) (by kernel_rfl)
theorem Qav {α:Type}:∀(l:List α) (i:Nat) (x:α),l[i]? = some x->(x::l.eraseIdx i).Perm l
 | [],i,x,h=>by simp at h
 |y::l,0,x,h=>by simp at h;subst h;exact .refl _
 |y::l,i+1,x,h=>by
  rw[zu6]
  exact(List.Perm.swap y x _).trans ((Qav l i x (by simpa using h)).cons y)
theorem QeZ {α:Type}(next:Nat->Nat):∀(fuel k:Nat) (left:List α) (out:Array α),left.length=fuel->(zz2 next fuel k left out).toList.Perm (out.toList++left)
 |0,k,left,out,h=>by
  rw[zc0.mp h,z61];exact .refl _
 |fuel+1,k,left,out,h=>by
  unfold zz2
  have hl:next k % left.length<left.length:=zu5 _ (by omega)
  rw[z03 hl]
  dsimp only
  refine(QeZ next fuel (k+1) _ _ (by rw[List.length_eraseIdx_of_lt hl];omega)).trans ?_
  rw[z40,z15]
  exact(ze0 _).append (Qav left _ _ (z03 hl))
theorem Qe0 {α:Type}(next:Nat->Nat)(xs:Array α):(pickOrder next xs).toList.Perm xs.toList:=by
 have:=QeZ next xs.size 0 xs.toList #[] (by simp)
 simpa[pickOrder] using this
def Qef (w:World)(a:Addr)(ep:Nat)(es:Array (Int×Value)):Array (Int×Value):=if w.params.followText "set-order" = true then pickOrder (w.params.setOrder a ep) es else es
theorem QbN (w:World)(a:Addr)(ep:Nat)(es:Array (Int×Value)):(Qef w a ep es).toList.Perm es.toList:=by
 unfold Qef
 split
 ·exact Qe0 _ _
 ·exact .refl _
theorem YM (w:World)(a:Addr)(ep:Nat)(es:Array (Int×Value)):(Qef w a ep es).size=es.size:=by
 have:=(QbN w a ep es).length_eq
 simpa using this
def Qe1 (a:Addr)(slot i n ep:Nat):Obj:={ cls:=.type "set_iterator",dict:=none,data:=.fields #[.int slot 0,.int i 0,.ref a,.int n 0,.int ep 0],slots:=#[]}
def Sep (t:SetTable)(slot i:Nat):Prop:=(∀k b,k<i->t.place[k]? = some b->b<slot)/\∀k b,i<=k->t.place[k]? = some b->slot<=b
theorem Sep.below {t:SetTable}(hr:Ris t.place.toList){slot i:Nat}(h:Sep t slot i)(hi:i<=t.place.size):below t.place slot=i:=by
 obtain⟨h1,h2,h3⟩:=below_at hr slot
 rcases zp1 (SetTable.below t.place slot) i with z|z|z
 ·have e:=z11 (z34 z hi)
  exact absurd (h.1 _ _ z e) (h3 _ _ (z18 _) e)
 ·exact z
 ·have e:=z11 (z34 z h1)
  have a1:=h2 _ _ z e
  have a2:=h.2 _ _ (z18 _) e
  omega
section
variable {prog:Program}{w:World}{A:Around}{E:Value->Shared->Prop}{s:Shared}
theorem Qdd {a:Addr}{o:Obj}{es:Array (Int×Value)}{ep:Nat}{t:SetTable}{slot i:Nat}{Q:Option (Value×Nat)->Shared->Prop}(ho:s.heap.get? a=some o)(hd:o.data=.set es ep t)(T:L2.St.Tp t es)(hf:t.fits es.size=true)(hpl:t.plain=true)(QbL:t.led = !w.params.followText "set-order")(hs:w.params.followText "set-order" = true\/Sep t slot i)(hi:i<=es.size)
  (k1:i=es.size->Q none s) (k2:∀e Qe2,(Qef w a ep es)[i]? = some e->(w.params.followText "set-order" = true\/Sep t Qe2 (i+1))->Q (some (e.2,Qe2)) s):wpAny (model prog w) A (setNext a slot i ep) Q E s:=by
 unfold setNext
 refine z00 (za5 ho hd hf ?_)
 dsimp only
 unfold setsByText
 refine z00 (z00 (zi1 (z06 ?_)))
 show wpAny (model prog w) A (if w.params.followText "set-order" = true then _ else _) Q E s
 cases c:w.params.followText "set-order" with
 |true=>
  rw[if_pos rfl,if_neg (by simp)]
  refine z00 ?_
  unfold setWalk
  refine z00 (za5 ho hd hf ?_)
  dsimp only
  unfold setsByText
  refine z00 (z00 (zi1 (z06 ?_)))
  show wpAny (model prog w) A (if w.params.followText "set-order" = true then _ else _) _ E s
  rw[if_pos c]
  refine z00 (zi1 (z06 (z06 ?_)))
  show Q (zx4 (fun e=>(e.2,slot)) (pickOrder (w.params.setOrder a ep) es)[i]?) s
  have e:Qef w a ep es=pickOrder (w.params.setOrder a ep) es:=by unfold Qef;rw[if_pos c]
  rw[← e]
  rcases z62 i es.size with z|z
  ·have z':i<(Qef w a ep es).size:=by rw[YM];exact z
   rw[z11 z',zf9]
   exact k2 _ slot (z11 z') (.inl c)
  ·rw[zd3 (by rw[YM];exact z)]
   exact k1 (by omega)
 |false=>
  rw[if_neg (by simp)]
  have hs:Sep t slot i:=hs.resolve_left (by rw[c];exact z23)
  refine zc4 (fun z=>?_) (fun _=>?_)
  ·have z:(!t.plain && decide (es.size > 1))=true:=z
   rw[hpl] at z;cases z
  refine z00 ?_
  show wpAny _ _ (if(!t.led && !es.isEmpty)=true then unsupported _ else pure ()) _ _ _
  rw[QbL,c]
  simp only[zm2,zc3,Bool.false_and,z29,if_false]
  refine z06 ?_
  rw[hs.below T.ri (by rw[T.sz];exact hi)]
  have e:Qef w a ep es=es:=by unfold Qef;rw[if_neg (by rw[c];exact z23)]
  rcases z62 i es.size with z|z
  ·have z':i<t.place.size:=by rw[T.sz];exact z
   rw[z11 z,z11 z']
   refine z06 (k2 es[i] _ (by rw[e,z11 z]) (.inr ⟨fun k b hk hb=>?_,fun k b hk hb=>?_⟩))
   ·have m:∀b',t.place[i]? = some b'->b<=b':=fun b' hb'=>by
     rcases z62 k i with y|y
     ·rw[← z13] at hb hb'
      obtain⟨q1,q2⟩:=z17.mp hb
      obtain⟨q3,q4⟩:=z17.mp hb'
      have:=z77.mp T.ri k i q1 q3 y
      omega
     ·have:k=i:=by omega
      subst this;rw[hb] at hb';cases hb';exact z18 _
    exact Nat.lt_succ_of_le (m _ (z11 z'))
   ·have hb':=z11 z'
    rw[← z13] at hb hb'
    obtain⟨q1,q2⟩:=z17.mp hb
    obtain⟨q3,q4⟩:=z17.mp hb'
    have:=z77.mp T.ri i k q3 q1 hk
    omega
  ·rw[zd3 z]
   exact z06 (k1 (by omega))
def StS (w:World)(a:Addr)(o:Obj)(n ep:Nat)(t:SetTable)(I:Addr)(i:Nat)(h:Heap):Prop:=∃slot,h.get? I=some (Qe1 a slot i n ep)/\h.get? a=some o/\(w.params.followText "set-order" = true\/Sep t slot i)/\i<=n
theorem Qk9 {a I:Addr}{o:Obj}{es:Array (Int×Value)}{ep:Nat}{t:SetTable}(nh:A.handled=none)(nI:a≠I)(hd:o.data=.set es ep t)(T:L2.St.Tp t es)(hf:t.fits es.size=true)(hpl:t.plain=true)(QbL:t.led = !w.params.followText "set-order") :
  Wk prog w A I a es.size (fun i v=>∃e,(Qef w a ep es)[i]? = some e/\v=e.2) (StS w a o es.size ep t I) where
 frame:=fun i h h' ⟨slot,h1,h2,h3⟩ k=>⟨slot,k _ _ (.inl rfl) h1,k _ _ (.inr rfl) h2,h3⟩
 item:=fun i s Q E hi ⟨slot,h1,h2,h3,h4⟩ k=>by
  have ty:s.TypeIs (.ref I) "set_iterator" := ⟨_,h1,rfl⟩
  unfold pyNext
  refine z00 (zl4 (zh3 (name:=zl5 "__next__") ty siN (zb2 siN ty siE ?_ (siA _))))
  unfold Builtin.«set_iterator.__next__»
  refine z00 (z06 (z00 (zh5 h1 rfl ?_)))
  dsimp only
  refine z00 (zo9 h2 hd hf ?_)
  rw[if_neg (show ¬ _ by simp)]
  simp only[za2]
  refine z00 (Qdd h2 hd T hf hpl QbL h3 (zb9 hi) (fun z=>absurd hi (by omega)) fun e Qe2 e1 e2=>?_)
  dsimp only
  refine z00 (zq5 (show s.heap.get? I=some { cls:=.type "set_iterator",dict:=none,data:=.fields #[.int slot 0,.int i 0,.ref a,.int es.size 0,.int ep 0],slots:=#[]} from h1) (by simp) fun ha a1 a2=>?_)
  refine z00 (zq5 (s:={ s with heap:=ha }) a1 (by simp) fun hb b1 b2=>?_)
  refine z06 ⟨_,rfl,z06 (k e.2 hb ⟨e,e1,rfl⟩ ⟨Qe2,?_,b2.extBut _ _ nI (a2.extBut _ _ nI h2),e2,hi⟩ fun b o hb' q=>b2.extBut b o hb' (a2.extBut b o hb' q))⟩
  have e:((i+1:Nat):Int)=(i:Int)+1:=by omega
  unfold Qe1;rw[e];simpa[rawInt] using b1
 done:=fun s Q E ⟨slot,h1,h2,h3,h4⟩ k=>by
  have ty:s.TypeIs (.ref I) "set_iterator" := ⟨_,h1,rfl⟩
  unfold pyNext
  refine z00 (zl4 (zh3 (name:=zl5 "__next__") ty siN (zb2 siN ty siE ?_ (siA _))))
  unfold Builtin.«set_iterator.__next__»
  refine z00 (z06 (z00 (zh5 h1 rfl ?_)))
  dsimp only
  refine z00 (zo9 h2 hd hf ?_)
  rw[if_neg (show ¬ _ by simp)]
  simp only[za2]
  refine z00 (Qdd h2 hd T hf hpl QbL h3 (z18 _) (fun _=>?_) fun e Qe2 e1 e2=>?_)
  ·dsimp only
   refine z00 (wpAny_setField h1 rfl (by simp) (z00 ?_))
   simp only[newExc,newTuple]
   refine z00 (za6 (z00 (m:=firstArgMember _ _) (zp0 (a:=z43) (by first|rfl|(simp only[firstArgMember];rfl)) (za6 ?_ (by size_fits)))) (by size_fits))
   simp only[raiseNew]
   refine z00 (wpAny_handled ?_)
   rw[show A.in1.handled=none by exact nh]
   refine z00 (z06 (wpAny_throw ?_))
   refine z00 (zi0 (T := "StopIteration") (b:=true) ⟨_,z37 _ rfl,rfl⟩ isSubtype_stop (z06 (k _ ?_)))
   exact((z65 ..).extBut.push _).push _
  ·rw[zd3 (by rw[YM];exact z18 _)] at e1;cases e1
theorem QgU {a:Addr}{o:Obj}{es:Array (Int×Value)}{ep:Nat}{t:SetTable}{Q:Value->Shared->Prop}(ho:s.heap.get? a=some o)(hex:o.ExactSet)(hd:o.data=.set es ep t)(hf:t.fits es.size=true)(hpl:t.plain=true)
  (k:Q (.ref s.heap.objs.size) { s with heap:=s.heap.push (Qe1 a 0 0 es.size ep)}):wpAny (model prog w) A (pyIter (.ref a)) Q E s:=by
 have ty:s.TypeIs (.ref a) "set" := ⟨o,ho,hex.1⟩
 refine wpAny_pyIter_slot ty zu0 (zb2 zu0 ty seE ?_ (PySem.F.args_set_iter_1 _))
 unfold Builtin.«frozenset.__iter__» Builtin.Frozenset.slot0 slotArgs
 simp only[List.isEmpty_nil,zc3,z29,↓reduceIte,bind_assoc,zr9,bne_self_eq_false]
 unfold Builtin.Frozenset.addrOf Builtin.Frozenset.sizeOf
 refine z00 (z06 ?_)
 try dsimp only
 refine z00 (z06 ?_)
 refine z00 (z00 (zo9 ho hd hf (z06 ?_)))
 refine z00 ?_
 unfold setDrawn setsByText
 refine z00 (za5 ho hd hf ?_)
 dsimp only
 refine z00 (z00 (zi1 (z06 (z06 ?_))))
 rw[if_neg]
 ·refine z00 (z06 (z00 (wpAny_setEpoch_of ho hd hf (z00 ?_))))
  unfold newFields
  refine za6 (z06 ⟨_,rfl,"set_iterator",_,⟨_,z37 _ rfl,rfl⟩,siN.lookup,?_⟩) (by size_fits)
  simpa[rawInt,Qe1] using k
 ·intro z
  have z:=(z48.mp z).2
  have z:(!t.plain && decide (es.size > 1))=true:=z
  rw[hpl] at z;cases z
end
section
variable {prog:Program}{w:World}{A:Around}{E:Value->Shared->Prop}{s:Shared}
theorem Qn5 {A:Around}(hu:A.units+1<cLine):QeN A (Int×Int) ltP PO (tuples' true) where
 kp:=PO.kp
 kind:=fun{prog w s qs ps Q} pr h2 q=>by
  obtain⟨fs,kt,lf,af⟩:=QiB pr
  refine kat_kind (T:=.type "int") kt (by omega) (fun v hv=>?_) rfl q
  obtain⟨i,t,rfl⟩:=af v hv
  exact Looks.of_pure rfl
 det:=PO.det
 cmp:=fun{prog w s q r x y Q} hq hr h=>QiC hq hr h
theorem QaR {g:Shared}{r:Addr}{ps:List (Int×Int)}{M:Addr->Int×Int->Prop}{Q:Value->Shared->Prop}(hu:A.units+3<cLine)(l64:ps.length<=4000)(nd:ps.Nodup)
  (hc:∀(R:List Value->Shared->Prop),(∀(h1:Heap) (tk:Nat) (qs:List Addr) (ps':List (Int×Int)),Kp g.heap h1->g.heap.objs.size<h1.objs.size->Paired (PO h1) qs ps'->Paired M qs ps'->ps'.Perm ps->R (qs.map z32) { g with heap:=h1,toks:=tk })->wpAny (model prog w) A.in1 (collect (.ref r)) R (fun e s'=>wants Q E (.error e) s') g)
  (k:∀(h':Heap) (tk c:Nat) (L:Addr) (qs:List Addr) (ps':List (Int×Int)),Kp g.heap h'->g.heap.objs.size<=L->Paired M qs ps'->ps'.Perm ps->ps'.Pairwise (fun a b=>ltP a b=true)->h'.get? L=some (seqObj "list" (qs.map z32).toArray c)->Q (.ref L) { g with heap:=h',toks:=tk }) :
  wpAny (model prog w) A (call (.builtin "sorted") [.ref r]) Q E g:=by
 refine Calls.call_function_entry kind_sorted plain_sorted entry_sorted (args_sorted1 _) ?_
 unfold Builtin.«sorted»
 refine z00 (m:=checkCount "sorted" 1 1 _) (z06 (z00 (hc _ fun h1 tk1 as qp k1 gsz pr pM pm=>?_)))
 have lp:=z73 pr
 have lps:qp.length=ps.length:=pm.length_eq
 have ndp:qp.Nodup:=pm.nodup_iff.mpr nd
 have QgV:(as.map z32).length=qp.length:=by rw[z14,lp]
 have hn:(as.map z32).length<=z20:=by rw[QgV,z55];omega
 refine z00 (zx6 ?_ hn)
 have hoL:(h1.push (seqObj "list" (as.map z32).toArray 0)).get? h1.objs.size=some (seqObj "list" (as.map z32).toArray 0):=z37 _ rfl
 have keep:Kp h1 (h1.push (seqObj "list" (as.map z32).toArray 0)):=fun b o q=>z16 _ q
 have hn0:h1.get? h1.objs.size=none:=zx0 (z18 _)
 have S:=Qn5 (A:=A.in1.in1) (by show A.units+1+1+1<cLine;omega)
 have og:∀{i:Nat},i<(as.map z32).length->(as.map z32).getD i z43=z32 (as.getD i 0):=fun{i} hi=>by
  rw[z14] at hi
  rw[z22,z22,z31,z03 hi]
  rfl
 have tail:∀(h':Heap) (tk c:Nat) (is:List Nat),is.Perm (z47 qp.length)->is.Pairwise (fun i j=>ltP (qp.getD i (0,0)) (qp.getD j (0,0))=true)->Kp h1 h'->h'.get? h1.objs.size=some (seqObj "list" (is.map fun i=>(as.map z32).getD i z43).toArray c)->Q (.ref h1.objs.size) { g with heap:=h',toks:=tk }:=fun h' tk c is pi pw kp hD'=>by
  have hb:∀i∈is,i<qp.length:=fun i hi=>z92.mp (pi.mem_iff.mp hi)
  have Qpt:(is.map fun i=>(as.map z32).getD i z43)=(is.map fun i=>as.getD i 0).map z32:=by
   rw[zb8]
   exact zf7 fun i hi=>og (by rw[QgV];exact hb i hi)
  rw[Qpt] at hD'
  refine k h' tk c h1.objs.size (is.map fun i=>as.getD i 0) (is.map fun i=>qp.getD i (0,0)) (fun b o e=>kp b o (k1 b o e)) (zb9 gsz) ?_ ?_ (z91.mpr pw) hD'
  ·clear Qpt hD' pw pi
   induction is with
   |nil=>exact .nil
   |cons i is ih=>exact .cons (QbG.Qn3 pM (by rw[lp];exact hb i z12)) (ih fun j hj=>hb j (z09 _ hj))
  ·have z:=pi.map fun i=>qp.getD i (0,0)
   rw[range_getD] at z
   exact z.trans pm
 refine z00 (z82 (zb2 slot_list_sort ⟨_,hoL,rfl⟩ entry_list_sort ?body (args_list_sort _)))
 case body=>
  by_cases h2:2<=qp.length
  ·refine QeM (s:={ g with heap:=h1.push (seqObj "list" (as.map z32).toArray 0),toks:=tk1 }) (h0:=h1) (κ:=tuples' true) (lt:=fun i j=>ltP (qp.getD i (0,0)) (qp.getD j (0,0))) hoL keep hn0 (by rw[QgV];exact h2) (by rw[QgV];omega) (S.nq (d:=(0,0)) pr ndp) (by rw[QgV];exact Vf.ord _ ndp) (fun h' tk Q' kp q=>?_) (fun h' tk i j Q' kp hi hj q=>?_) fun h' tk p c pp up kp hD=>⟨_,rfl,z06 ⟨_,rfl,?_⟩⟩
   ·exact S.kind (s:={ g with heap:=h',toks:=tk }) (Paired.imp' (fun _ _ z=>S.kp z kp) pr) h2 q
   ·rw[og hi,og hj]
    rw[z14] at hi hj
    exact S.cmp (s:={ g with heap:=h',toks:=tk }) (S.kp (QbG.Qnl (d:=(0,0)) pr hi) kp) (S.kp (QbG.Qnl (d:=(0,0)) pr hj) kp) (q tk)
   ·rw[QgV] at pp
    exact tail h' tk c p pp up kp hD
  ·refine QdR (s:={ g with heap:=h1.push (seqObj "list" (as.map z32).toArray 0),toks:=tk1 }) (h0:=h1) hoL keep hn0 (by rw[QgV];omega) fun h' tk c kp hD=>⟨_,rfl,z06 ⟨_,rfl,tail h' tk c (z47 qp.length) (ze0 _) ?_ kp ?_⟩⟩
   ·rw[z77]
    intro i j hi hj hij
    rw[z70] at hj
    omega
   rw[hD]
   congr 2
   have:(as.map z32).length<2:=by rw[QgV];omega
   rw[← QgV]
   generalize as.map z32=vs at this
   match vs,this with
   | [],_=>rfl
   | [v],_=>rfl
   |_::_::_,h=>exact absurd h (by simp only[z25];omega)
theorem QgW {r:Addr}(hT:s.TypeIs (.ref r) "set"){Q:Bool->Shared->Prop}(h:Q false s):wpAny (model prog w) A (z97 (.ref r)) Q E s:=by
 unfold z97
 refine z00 (zh2 hT PySem.F.slot_set_len.lookup ?_)
 generalize hid:("set.__len__" : String)=id0
 wp_delta
 rw[show splitId id0=some ("set","__len__") by subst hid;decide +kernel]
 subst hid
 refine z00 (zi0 (T := "set") (b:=true) hT (by rw[zw3];kernel_rfl) ?_)
 refine zc4 (fun z=>absurd z (by decide)) (fun _=>zc4 (fun _=>z00 (zn0 hT (z06 h))) (fun z=>absurd (by decide +kernel) z))
theorem QiR {g:Shared}{a:Addr}{ps:List (Int×Int)}{M:Addr->Int×Int->Prop}{R:List Value->Shared->Prop}(nh:A.handled=none)(hS:QeT prog w M g.heap a (!w.params.followText "set-order") ps)
  (k:∀(h1:Heap) (tk:Nat) (qs:List Addr) (ps':List (Int×Int)),Kp g.heap h1->g.heap.objs.size<h1.objs.size->Paired (PO h1) qs ps'->Paired M qs ps'->ps'.Perm ps->R (qs.map z32) { g with heap:=h1,toks:=tk }):wpAny (model prog w) A (collect (.ref a)) R E g:=by
 obtain⟨o,es,ep,t,ho,hex,hd,T,hlo,hpl,QbL,hes,nd⟩:=hS
 have mk:=mk_le T.ms
 have hf:=Qcz T (by omega)
 refine Qdc (it:=Qe1 a 0 0 es.size ep) (P:=fun i v=>∃e,(Qef w a ep es)[i]? = some e/\v=e.2) (St:=StS w a o es.size ep t) ho hex.1 (by decide) (by decide) (by rw[z55];omega) rfl (fun A h tk Q E kp q=>QgU (s:={ g with heap:=h,toks:=tk }) (kp _ _ ho) hex hd hf hpl q) (fun A h tk Q E kp q=>?_) (fun I nI=>Qk9 nh nI hd T hf hpl QbL) (fun h I nI h1 h2=>⟨0,h2,h1,.inr ⟨fun k b hk=>absurd hk (zd9 _),fun k b _ _=>z49 _⟩,z49 _⟩) fun h' tk vs kp gs lv hv=>?_
 ·exact QgW (s:={ g with heap:=h,toks:=tk }) ⟨_,kp _ _ ho,hex.1⟩ q
 ·obtain⟨ps',q1,q2⟩:=Yq (QbN w a ep es) hes
  have:∀(l:List (Int×Value)) (vs:List Value) (ps':List (Int×Int)),vs.length=l.length->(∀(j:Nat) (v:Value),vs[j]? = some v->∃e:Int×Value,l[j]? = some e/\v=e.2)->Paired (fun(e:Int×Value) p=>∃q,e=(hP prog w p,.ref q)/\PO g.heap q p/\M q p) l ps'->∃qs:List Addr,vs=qs.map z32/\Paired (PO g.heap) qs ps'/\Paired M qs ps':=by
   intro l
   induction l with
   |nil=>intro vs ps' e _ h;cases h;exact⟨[],zc0.mp e,.nil,.nil⟩
   |cons x l ih=>
    intro vs ps' e hv h
    cases h with
    |cons r h=>
     obtain⟨q,rfl,po,m⟩:=r
     cases vs with
     |nil=>cases e
     |cons v vs=>
      obtain⟨e',e1,e2⟩:=hv 0 v rfl
      simp at e1
      subst e1
      obtain⟨qs,rfl,p1,p2⟩:=ih vs _ (by simpa using e) (fun j v hj=>by simpa using hv (j+1) v (by simpa using hj)) h
      exact⟨q::qs,by rw[e2];rfl,.cons po p1,.cons m p2⟩
  obtain⟨qs,rfl,p1,p2⟩:=this (Qef w a ep es).toList vs ps' (by rw[lv,z42,YM]) (fun j v hj=>by rw[z13];exact hv j v hj) q1
  exact k h' tk qs ps' kp gs (Paired.imp' (fun _ _ z=>z.kp kp) p1) p2 q2
end
end L2.Srt
namespace L2.Srt
open PySem PySem.W PySem.Calls PyProof.Rows
section
variable {prog:Program}{w:World}{A:Around}{E:Value->Shared->Prop}{s:Shared}
def QdV (d:Addr)(i n ep:Nat):Obj:={ cls:=.type "dict_keyiterator",dict:=none,data:=.fields #[.ref d,.int i 0,.int n 0,.int ep 0],slots:=#[]}
def StK (d:Addr)(o:Obj)(n ep:Nat)(I:Addr)(i:Nat)(h:Heap):Prop:=h.get? I=some (QdV d i n ep)/\h.get? d=some o
theorem Qla {d I:Addr}{o:Obj}{es:Array DictEntry}{ep:Nat}(nh:A.handled=none)(nI:d≠I)(hd:o.data=.dict es ep):Wk prog w A I d es.size (fun i v=>∃e:DictEntry,es[i]? = some e/\v=e.key) (StK d o es.size ep I) where
 frame:=fun i h h' ⟨h1,h2⟩ k=>⟨k _ _ (.inl rfl) h1,k _ _ (.inr rfl) h2⟩
 item:=fun i s Q E hi ⟨h1,h2⟩ k=>by
  have ty:s.TypeIs (.ref I) "dict_keyiterator" := ⟨_,h1,rfl⟩
  have ow:zk3 "dict_keyiterator" = false:=by decide
  unfold pyNext
  refine z00 (zl4 (zh3 (name:=zl5 "__next__") ty z81 (zb2 z81 ty zl6 ?_ (zk9 _))))
  refine z00 (z06 (z00 (z00 ?_)))
  first|refine z00 (zd5 ty (z06 (z00 (zh5 h1 rfl ?_))))|refine z00 (zg6 ty (z06 (z00 (zh5 h1 rfl ?_))))
  simp only[ow,z29,if_false]
  show wpAny _ _ (if(z32 d == z43)=true then _ else _) _ _ _
  rw[if_neg (show ¬ ((z32 d == z43)=true) from fun z=>z23 z)]
  refine z00 (z06 (z00 (z83 h2 hd ?_)))
  rw[if_neg (show ¬ _ by simp)]
  refine z00 (z06 (z00 (zf0 h2 hd ?_)))
  rw[if_neg (show ¬ _ by simp)]
  refine z06 ?_
  simp only[show ¬ ((i:Int)<0) by omega,if_false,za2,z11 hi]
  refine z00 ?_
  first|refine z00 (zd5 ty (z06 (z00 (zn1 ty ?_))))|refine z00 (zg6 ty (z06 (z00 (zn1 ty ?_))))
  show wpAny _ _ (setField (.ref I) 1 (rawInt ((i:Int)+1)) >>= _) _ _ _
  refine z00 (zq5 (show s.heap.get? I=some { cls:=.type "dict_keyiterator",dict:=none,data:=.fields #[.ref d,.int i 0,.int es.size 0,.int ep 0],slots:=#[]} from h1) (by simp) fun ha a1 a2=>?_)
  have c1:ha.get? I=some (QdV d (i+1) es.size ep):=by
   have e:((i+1:Nat):Int)=(i:Int)+1:=by omega
   unfold QdV;rw[e];simpa[rawInt] using a1
  have ty1:Shared.TypeIs { s with heap:=ha } (.ref I) "dict_keyiterator" := ⟨_,c1,rfl⟩
  refine z00 (z82 (z00 (zn1 ty1 ?_)))
  show wpAny _ _ (pure es[i].key) _ _ _
  exact z06 (z06 ⟨_,rfl,z06 (k es[i].key ha ⟨es[i],z11 hi,rfl⟩ ⟨c1,a2.extBut _ _ nI h2⟩ fun b o hb e=>a2.extBut b o hb e)⟩)
 done:=fun s Q E ⟨h1,h2⟩ k=>by
  have ty:s.TypeIs (.ref I) "dict_keyiterator" := ⟨_,h1,rfl⟩
  have ow:zk3 "dict_keyiterator" = false:=by decide
  unfold pyNext
  refine z00 (zl4 (zh3 (name:=zl5 "__next__") ty z81 (zb2 z81 ty zl6 ?_ (zk9 _))))
  refine z00 (z06 (z00 (z00 ?_)))
  first|refine z00 (zd5 ty (z06 (z00 (zh5 h1 rfl ?_))))|refine z00 (zg6 ty (z06 (z00 (zh5 h1 rfl ?_))))
  simp only[ow,z29,if_false]
  show wpAny _ _ (if(z32 d == z43)=true then _ else _) _ _ _
  rw[if_neg (show ¬ ((z32 d == z43)=true) from fun z=>z23 z)]
  refine z00 (z06 (z00 (z83 h2 hd ?_)))
  rw[if_neg (show ¬ _ by simp)]
  refine z00 (z06 (z00 (zf0 h2 hd ?_)))
  rw[if_neg (show ¬ _ by simp)]
  refine z06 ?_
  simp only[show ¬ ((es.size:Int)<0) by omega,if_false,za2,zd3 (z18 es.size)]
  refine z00 ?_
  first|refine z00 (zd5 ty (z06 ?_))|refine z00 (zg6 ty (z06 ?_))
  show wpAny _ _ (setField (.ref I) 0 .none >>= fun _=>newExc (.type "StopIteration") [] >>= _) _ _ _
  refine z00 (wpAny_setField h1 rfl (by simp) (z00 ?_))
  simp only[newExc,newTuple]
  refine z00 (za6 (z00 (m:=firstArgMember _ _) (zp0 (a:=z43) (by first|rfl|(simp only[firstArgMember];rfl)) (za6 ?_ (by size_fits)))) (by size_fits))
  simp only[raiseNew]
  refine z00 (wpAny_handled ?_)
  rw[show A.in1.handled=none by exact nh]
  refine z00 (z06 (wpAny_throw ?_))
  refine z00 (zi0 (T := "StopIteration") (b:=true) ⟨_,z37 _ rfl,rfl⟩ isSubtype_stop (z06 (k _ ?_)))
  exact((z65 ..).extBut.push _).push _
theorem QgX {d:Addr}{o:Obj}{es:Array DictEntry}{ep:Nat}{Q:Value->Shared->Prop}(hs:(d == sysModules)=false)(ho:s.heap.get? d=some o)(hx:o.ExactDict)(hd:o.data=.dict es ep)(k:Q (.ref s.heap.objs.size) { s with heap:=s.heap.push (QdV d 0 es.size ep)}):wpAny (model prog w) A (pyIter (.ref d)) Q E s:=by
 have ty:s.TypeIs (.ref d) "dict" := ⟨o,ho,hx.1⟩
 refine wpAny_pyIter_slot ty zj4 (zb2 zj4 ty PySem.F.entry_dict_iter ?_ (PySem.F.args_dict_iter_1 _))
 unfold Builtin.«dict.__iter__»
 unfold Builtin.Dict.dictSlotNone
 refine z00 (z00 (wpAny_notOrdered_dict ty ?_))
 show wpAny _ _ (pure (z32 d)) _ _ s
 refine z06 ?_
 show wpAny _ _ (zj1 d >>= _) _ _ s
 unfold zj1
 rw[if_neg (show ¬ (d == sysModules)=true by rw[hs];decide)]
 refine z00 (z06 (z00 (z83 ho hd (z00 (zf0 ho hd ?_)))))
 refine z00 (za6 (z06 ⟨_,rfl,"dict_keyiterator",_,⟨_,z37 _ rfl,rfl⟩,z81.lookup,?_⟩))
 simpa[rawInt,QdV] using k
theorem Qe3 {r:Addr}(hT:s.TypeIs (.ref r) "dict"){Q:Bool->Shared->Prop}(h:Q false s):wpAny (model prog w) A (z97 (.ref r)) Q E s:=by
 unfold z97
 refine z00 (zh2 hT PySem.F.slot_dict_len.lookup ?_)
 generalize hid:("dict.__len__" : String)=id0
 wp_delta
 rw[show splitId id0=some ("dict","__len__") by subst hid;decide +kernel]
 subst hid
 refine z00 (zi0 (T := "dict") (b:=true) hT (by rw[zw3];kernel_rfl) ?_)
 refine zc4 (fun z=>absurd z (by decide)) (fun _=>zc4 (fun _=>z00 (zn0 hT (z06 h))) (fun z=>absurd (by decide +kernel) z))
theorem QgY {g:Shared}{d:Addr}{o:Obj}{es:Array DictEntry}{ep:Nat}{R:List Value->Shared->Prop}(nh:A.handled=none)(hs:(d == sysModules)=false)(ho:g.heap.get? d=some o)(hx:o.ExactDict)(hd:o.data=.dict es ep)(hn:es.size<=z20)
  (k:∀(h1:Heap) (tk:Nat),Kp g.heap h1->g.heap.objs.size<h1.objs.size->R (es.toList.map zr0) { g with heap:=h1,toks:=tk }):wpAny (model prog w) A (collect (.ref d)) R E g:=by
 refine Qdc (it:=QdV d 0 es.size ep) (P:=fun i v=>∃e:DictEntry,es[i]? = some e/\v=e.key) (St:=StK d o es.size ep) ho hx.1 (by decide) (by decide) hn rfl (fun A h tk Q E kp q=>QgX (s:={ g with heap:=h,toks:=tk }) hs (kp _ _ ho) hx hd q) (fun A h tk Q E kp q=>Qe3 (s:={ g with heap:=h,toks:=tk }) ⟨_,kp _ _ ho,hx.1⟩ q) (fun I nI=>Qla nh nI hd) (fun h I nI h1 h2=>⟨h2,h1⟩) fun h' tk vs kp gs lv hv=>?_
 have e:vs=es.toList.map zr0:=by
  refine ze4 fun j=>?_
  rw[z31]
  cases c:vs[j]? with
  |none=>
   have z:es.toList[j]? = none:=List.getElem?_eq_none (by rw[z42,← lv];exact List.getElem?_eq_none_iff.mp c)
   rw[z];rfl
  |some v=>
   obtain⟨e,e1,e2⟩:=hv j v c
   rw[z13,e1,e2];rfl
 subst e
 exact k h' tk kp gs
end
end L2.Srt
namespace TL
open PySem L2 PyProof.Rows
inductive Tag where
 |lst|tup
 |ins (k:Addr) (ns:List Str)
 |dT (ks:List (List Key))|dK (ks:List Key)
 |exc (c:Addr)
 deriving DecidableEq
inductive D where
 |int (i:Int)|bl (b:Bool)|non|str (s:Str)|ty (n:String)|cls (c:Addr)|nd (t:Tag) (ds:List D)
abbrev D.lst (ds:List D):D:=.nd .lst ds
abbrev D.tup (ds:List D):D:=.nd .tup ds
noncomputable def Tag.mut:Tag->Bool
 |.lst=>true|.dT _=>true|.dK _=>true|_=>false
mutual
noncomputable def D.imm:D->Bool
 |.nd t ds=>!t.mut && D.QL ds
 |_=>true
noncomputable def D.QL:List D->Bool
 | []=>true
 |d::ds=>d.imm && D.QL ds
end
noncomputable def D.sc:D->Option V
 |.int i=>some (.int i)|.bl b=>some (.bl b)|.non=>some .non|.str s=>some (.str s)|.ty n=>some (.ty n)|.cls c=>some (.ref c)|.nd _ _=>none
def At (K:z02)(F:Hp)(a:Addr):Tag->List V->Prop
 |.lst,vs=>SqL K F a vs
 |.tup,vs=>F a=some (.tup vs)
 |.ins k ns,vs=>ns.length=vs.length/\∃dx,F a=some (.ins k dx (ns.zip vs))/\F dx=some (.own a)
 |.dT ks,vs=>ks.length=vs.length/\F a=some (.dT (ks.zip vs))
 |.dK ks,vs=>ks.length=vs.length/\F a=some (.dK (ks.zip vs))
 |.exc c,vs=>(vs=[]/\F a=some (QkW a (.ref c)))\/∃d v,vs=[v]/\F a=some (QkW a (.ref c) (some d))/\F d=some (Qpk d [("line",v)])
def Mbl:HO->Prop
 |.lst _=>True|.dT _=>True|.dK _=>True|_=>False
def Mt (H:Hp)(a:Addr):Tag->List V->Prop
 |.lst,vs=>H a=some (.lst vs)
 |.dT ks,vs=>ks.length=vs.length/\H a=some (.dT (ks.zip vs))
 |.dK ks,vs=>ks.length=vs.length/\H a=some (.dK (ks.zip vs))
 |_,_=>False
section
variable {K:z02}{F H F' H':Hp}{a:Addr}{t:Tag}{vs:List V}
theorem At.same (h:At K F a t vs)(s:Qn F F'):At K F' a t vs:=by
 cases t with
 |lst=>exact h.imp (fun z=>z.imp (fun z=>s _ _ z) fun⟨o,z⟩=>⟨o,s _ _ z⟩) id
 |tup=>exact s _ _ h
 |ins k ns=>
  obtain⟨l,dx,h1,h2⟩:=h
  exact⟨l,dx,s _ _ h1,s _ _ h2⟩
 |dT ks=>exact⟨h.1,s _ _ h.2⟩
 |dK ks=>exact⟨h.1,s _ _ h.2⟩
 |exc c=>exact h.elim (fun h=>.inl ⟨h.1,s _ _ h.2⟩) fun⟨d,v,h0,h1,h2⟩=>.inr ⟨d,v,h0,s _ _ h1,s _ _ h2⟩
theorem Mt.at (h:Mt H a t vs):At K H a t vs:=by
 cases t with
 |lst=>exact .inl (.inl h)
 |tup=>exact h.elim
 |ins k ns=>exact h.elim
 |dT ks=>exact h
 |dK ks=>exact h
 |exc c=>exact h.elim
theorem At.sql {K:z02}(h:At K F a .lst vs):SqL K F a vs:=h
theorem At.sqt {K:z02}(h:At K F a .tup vs):SqT K F a vs:=.inl (.inl h)
theorem Mt.mut (h:Mt H a t vs):t.mut=true:=by
 cases t with
 |lst=>rfl
 |tup=>exact h.elim
 |ins k ns=>exact h.elim
 |dT ks=>rfl
 |dK ks=>rfl
 |exc c=>exact h.elim
theorem Mt.eq (h:Mt H a t vs)(e:H' a=H a):Mt H' a t vs:=by
 cases t with
 |lst=>exact e.trans h
 |tup=>exact h.elim
 |ins k ns=>exact h.elim
 |dT ks=>exact⟨h.1,e.trans h.2⟩
 |dK ks=>exact⟨h.1,e.trans h.2⟩
 |exc c=>exact h.elim
theorem Mt.some (h:Mt H a t vs):∃o,H a=some o/\Mbl o:=by
 cases t with
 |lst=>exact⟨_,h,z59⟩
 |tup=>exact h.elim
 |ins k ns=>exact h.elim
 |dT ks=>exact⟨_,h.2,z59⟩
 |dK ks=>exact⟨_,h.2,z59⟩
 |exc c=>exact h.elim
end
mutual
inductive R (K:z02) (F:Hp):V->D->Prop
 |sc {v:V} {d:D} (e:d.sc=some v):R K F v d
 |nd {a:Addr} {t:Tag} {vs:List V} {ds:List D} (h:At K F a t vs) (r:RL K F vs ds):R K F (.ref a) (.nd t ds)
inductive RL (K:z02) (F:Hp):List V->List D->Prop
 |nil:RL K F [] []
 |cons {v:V} {d:D} {vs:List V} {ds:List D} (h:R K F v d) (r:RL K F vs ds):RL K F (v::vs) (d::ds)
end
mutual
inductive O (K:z02) (F H:Hp):V->D->List Addr->Prop
 |sc {v:V} {d:D} (e:d.sc=some v):O K F H v d []
 |im {a:Addr} {t:Tag} {vs:List V} {ds:List D} {fp:List Addr} (m:t.mut=false) (h:At K F a t vs) (r:OL K F H vs ds fp):O K F H (.ref a) (.nd t ds) fp
 |mt {a:Addr} {t:Tag} {vs:List V} {ds:List D} {fp:List Addr} (h:Mt H a t vs) (r:OL K F H vs ds fp):O K F H (.ref a) (.nd t ds) (a::fp)
inductive OL (K:z02) (F H:Hp):List V->List D->List Addr->Prop
 |nil:OL K F H [] [] []
 |cons {v:V} {d:D} {vs:List V} {ds:List D} {f g:List Addr} (h:O K F H v d f) (r:OL K F H vs ds g):OL K F H (v::vs) (d::ds) (f++g)
end
section
variable {K:z02}{F F' H H':Hp}
theorem R.ind {P:V->D->Prop}{Q:List V->List D->Prop}(c1:∀{v d},D.sc d=some v->P v d)(c2:∀{a t vs ds},At K F a t vs->Q vs ds->P (.ref a) (.nd t ds))(c4:Q [] [])(c5:∀{v d vs ds},P v d->Q vs ds->Q (v::vs) (d::ds)):(∀v d,R K F v d->P v d)/\∀vs ds,RL K F vs ds->Q vs ds:=
 ⟨fun _ _ h=>R.rec (motive_1:=fun v d _=>P v d) (motive_2:=fun v d _=>Q v d) (fun e=>c1 e) (fun h _ q=>c2 h q) c4 (fun _ _ p q=>c5 p q) h,fun _ _ h=>RL.rec (motive_1:=fun v d _=>P v d) (motive_2:=fun v d _=>Q v d) (fun e=>c1 e) (fun h _ q=>c2 h q) c4 (fun _ _ p q=>c5 p q) h⟩
theorem R.Qlb (s:Qn F F'):(∀v d,R K F v d->R K F' v d)/\∀v d,RL K F v d->RL K F' v d:=R.ind .sc (fun h q=>.nd (h.same s) q) .nil .cons
theorem R.same (s:Qn F F'){v:V}{d:D}(h:R K F v d):R K F' v d:=(R.Qlb s).1 _ _ h
theorem RL.same (s:Qn F F'){v:List V}{d:List D}(h:RL K F v d):RL K F' v d:=(R.Qlb s).2 _ _ h
theorem RL.length {v:List V}{d:List D}(h:RL K F v d):v.length=d.length:=
 (R.ind (P:=fun _ _=>True) (Q:=fun v d=>v.length=d.length) (fun _=>trivial) (fun _ _=>trivial) rfl (fun _ q=>by rw[z25,z25,q])).2 _ _ h
theorem O.ind {P:V->D->List Addr->Prop}{Q:List V->List D->List Addr->Prop}(c1:∀{v d},D.sc d=some v->P v d [])(c2:∀{a t vs ds fp},t.mut=false->At K F a t vs->Q vs ds fp->P (.ref a) (.nd t ds) fp)(c3:∀{a t vs ds fp},Mt H a t vs->Q vs ds fp->P (.ref a) (.nd t ds) (a::fp))(c4:Q [] [] [])(c5:∀{v d vs ds f g},P v d f->Q vs ds g->Q (v::vs) (d::ds) (f++g)):(∀v d f,O K F H v d f->P v d f)/\∀vs ds f,OL K F H vs ds f->Q vs ds f:=
 ⟨fun _ _ _ h=>O.rec (motive_1:=fun v d f _=>P v d f) (motive_2:=fun v d f _=>Q v d f) (fun e=>c1 e) (fun m h _ q=>c2 m h q) (fun h _ q=>c3 h q) c4 (fun _ _ p q=>c5 p q) h,fun _ _ _ h=>OL.rec (motive_1:=fun v d f _=>P v d f) (motive_2:=fun v d f _=>Q v d f) (fun e=>c1 e) (fun m h _ q=>c2 m h q) (fun h _ q=>c3 h q) c4 (fun _ _ p q=>c5 p q) h⟩
theorem OL.length {v:List V}{d:List D}{f:List Addr}(h:OL K F H v d f):v.length=d.length:=
 (O.ind (P:=fun _ _ _=>True) (Q:=fun v d _=>v.length=d.length) (fun _=>trivial) (fun _ _ _=>trivial) (fun _ _=>trivial) rfl (fun _ q=>by rw[z25,z25,q])).2 _ _ _ h
theorem O.Qlc (s:Qn F F'):(∀v d fp,O K F H v d fp->(∀a∈fp,H' a=H a)->O K F' H' v d fp)/\∀v d fp,OL K F H v d fp->(∀a∈fp,H' a=H a)->OL K F' H' v d fp:=
 O.ind (fun e _=>.sc e) (fun m h q k=>.im m (h.same s) (q k)) (fun h q k=>.mt (h.eq (k _ z12)) (q fun a ha=>k a (z09 _ ha))) (fun _=>.nil) (fun p q k=>.cons (p fun a ha=>k a (z08 _ ha)) (q fun a ha=>k a (z01 _ ha)))
theorem O.keep (s:Qn F F'){v:V}{d:D}{fp:List Addr}(h:O K F H v d fp)(k:∀a∈fp,H' a=H a):O K F' H' v d fp:=(O.Qlc s).1 _ _ _ h k
theorem OL.keep (s:Qn F F'){v:List V}{d:List D}{fp:List Addr}(h:OL K F H v d fp)(k:∀a∈fp,H' a=H a):OL K F' H' v d fp:=(O.Qlc s).2 _ _ _ h k
theorem O.Qpu:(∀v d fp,O K F H v d fp->∀a∈fp,∃o,H a=some o/\Mbl o)/\∀v d fp,OL K F H v d fp->∀a∈fp,∃o,H a=some o/\Mbl o:=
 O.ind (fun _ _ z=>nomatch z) (fun _ _ q=>q) (fun h q a ha=>(z26.mp ha).elim (fun e=>e▸h.some) (q a)) (fun _ z=>nomatch z) (fun p q a ha=>(z04.mp ha).elim (p a) (q a))
theorem O.mem {v:V}{d:D}{fp:List Addr}(h:O K F H v d fp)(a:Addr)(ha:a∈fp):∃o,H a=some o/\Mbl o:=O.Qpu.1 _ _ _ h a ha
theorem OL.mem {v:List V}{d:List D}{fp:List Addr}(h:OL K F H v d fp)(a:Addr)(ha:a∈fp):∃o,H a=some o/\Mbl o:=O.Qpu.2 _ _ _ h a ha
noncomputable def jn (F H:Hp)(fp:List Addr):Hp:=fun b=>if b∈fp then H b else F b
theorem Qe4 {fp:List Addr}(ap:∀a∈fp,F a=none):Qn F (jn F H fp):=fun b o e=>by
 unfold jn
 by_cases h:b∈fp
 ·rw[ap b h] at e;cases e
 ·rw[if_neg h];exact e
theorem JK {fp:List Addr}(s:Qn F H):Qn (jn F H fp) H:=fun b o e=>by
 unfold jn at e
 by_cases h:b∈fp
 ·rw[if_pos h] at e;exact e
 ·rw[if_neg h] at e;exact s b o e
theorem Jl {fp:List Addr}{b:Addr}(h:b∈fp):jn F H fp b=H b:=by unfold jn;rw[if_pos h]
theorem QG {fp:List Addr}{b:Addr}(h:b∉fp):jn F H fp b=F b:=by unfold jn;rw[if_neg h]
noncomputable def lo (F:Hp)(L:List Addr):Hp:=fun b=>if b∈L then none else F b
theorem lo_le {L:List Addr}:Qn (lo F L) F:=fun b o e=>by
 unfold lo at e
 by_cases h:b∈L
 ·rw[if_pos h] at e;cases e
 ·rw[if_neg h] at e;exact e
theorem Qe5 {L:List Addr}{b:Addr}(h:b∈L):lo F L b=none:=by unfold lo;rw[if_pos h]
theorem JT {L:List Addr}{b:Addr}(h:b∉L):lo F L b=F b:=by unfold lo;rw[if_neg h]
theorem O.rB (s:Qn F F'):(∀v d fp,O K F H v d fp->(∀a∈fp,F' a=H a)->R K F' v d)/\∀v d fp,OL K F H v d fp->(∀a∈fp,F' a=H a)->RL K F' v d:=
 O.ind (fun e _=>.sc e) (fun m h q k=>.nd (h.same s) (q k)) (fun h q k=>.nd (h.eq (k _ z12)).at (q fun a ha=>k a (z09 _ ha))) (fun _=>.nil) (fun p q k=>.cons (p fun a ha=>k a (z08 _ ha)) (q fun a ha=>k a (z01 _ ha)))
theorem O.r (s:Qn F F'){v:V}{d:D}{fp:List Addr}(h:O K F H v d fp)(k:∀a∈fp,F' a=H a):R K F' v d:=(O.rB s).1 _ _ _ h k
theorem OL.r (s:Qn F F'){v:List V}{d:List D}{fp:List Addr}(h:OL K F H v d fp)(k:∀a∈fp,F' a=H a):RL K F' v d:=(O.rB s).2 _ _ _ h k
theorem Qaw {t:Tag}{ds:List D}(h:(D.nd t ds).imm=true):t.mut=false/\D.QL ds=true:=by
 rw[D.imm,z72] at h
 exact⟨by simpa using h.1,h.2⟩
theorem Q7 {d:D}{ds:List D}(h:D.QL (d::ds)=true):d.imm=true/\D.QL ds=true:=by
 rw[D.QL,z72] at h
 exact h
theorem VB:∀{ds:List D},D.QL ds=true->∀d∈ds,d.imm=true
 | [],_,d,hd=>nomatch hd
 |x::ds,h,d,hd=>by
  obtain⟨h1,h2⟩:=Q7 h
  rcases z26.mp hd with rfl|hd
  ·exact h1
  ·exact VB h2 d hd
theorem QaS:∀{ds:List D},(∀d∈ds,d.imm=true)->D.QL ds=true
 | [],_=>by rw[D.QL]
 |x::ds,h=>by
  rw[D.QL,z72]
  exact⟨h x z12,QaS fun d hd=>h d (z09 _ hd)⟩
theorem Qde {xs ys:List D}(h:D.QL xs=true)(h':D.QL ys=true):D.QL (xs++ys)=true:=QaS fun d hd=>(z04.mp hd).elim (VB h d) (VB h' d)
theorem At.lo {a:Addr}{t:Tag}{vs:List V}{L:List Addr}(m:t.mut=false)(h:At K F a t vs)(hl:∀b∈L,∀o,F b=some o->Mbl o):At K (lo F L) a t vs:=by
 cases t with
 |lst=>cases m
 |tup=>exact(JT fun z=>hl _ z _ h).trans h
 |ins k ns=>
  obtain⟨l,dx,h1,h2⟩:=h
  exact⟨l,dx,(JT fun z=>hl _ z _ h1).trans h1,(JT fun z=>hl _ z _ h2).trans h2⟩
 |dT ks=>cases m
 |dK ks=>cases m
 |exc c=>exact h.elim (fun h=>.inl ⟨h.1,(JT fun z=>hl _ z _ h.2).trans h.2⟩) fun⟨d,v,h0,h1,h2⟩=>.inr ⟨d,v,h0,(JT fun z=>hl _ z _ h1).trans h1,(JT fun z=>hl _ z _ h2).trans h2⟩
theorem R.loB {L:List Addr}(hl:∀b∈L,∀o,F b=some o->Mbl o):(∀v d,R K F v d->d.imm=true->R K (lo F L) v d)/\∀v d,RL K F v d->D.QL d=true->RL K (lo F L) v d:=
 R.ind (fun e _=>.sc e) (fun h q m=>.nd (h.lo (Qaw m).1 hl) (q (Qaw m).2)) (fun _=>.nil) (fun p q m=>.cons (p (Q7 m).1) (q (Q7 m).2))
theorem R.lo {L:List Addr}(hl:∀b∈L,∀o,F b=some o->Mbl o){v:V}{d:D}(h:R K F v d)(m:d.imm=true):R K (lo F L) v d:=(R.loB hl).1 _ _ h m
theorem RL.lo {L:List Addr}(hl:∀b∈L,∀o,F b=some o->Mbl o){v:List V}{d:List D}(h:RL K F v d)(m:D.QL d=true):RL K (lo F L) v d:=(R.loB hl).2 _ _ h m
theorem R.oB:(∀v d,R K F v d->d.imm=true->O K F H v d [])/\∀v d,RL K F v d->D.QL d=true->OL K F H v d []:=
 R.ind (fun e _=>.sc e) (fun h q m=>.im (Qaw m).1 h (q (Qaw m).2)) (fun _=>.nil) (fun p q m=>.cons (f:=[]) (p (Q7 m).1) (q (Q7 m).2))
theorem R.o {v:V}{d:D}(h:R K F v d)(m:d.imm=true):O K F H v d []:=R.oB.1 _ _ h m
theorem RL.o {v:List V}{d:List D}(h:RL K F v d)(m:D.QL d=true):OL K F H v d []:=R.oB.2 _ _ h m
theorem O.Qqk:(∀v d fp,O K F H v d fp->d.imm=true->fp=[])/\∀v d fp,OL K F H v d fp->D.QL d=true->fp=[]:=
 O.ind (fun _ _=>rfl) (fun _ _ q i=>q (Qaw i).2) (fun h _ i=>absurd h.mut (by rw[(Qaw i).1];decide)) (fun _=>rfl) (fun p q i=>by rw[p (Q7 i).1,q (Q7 i).2];rfl)
theorem OL.Qnm {v:List V}{d:List D}{fp:List Addr}(h:OL K F H v d fp)(i:D.QL d=true):fp=[]:=O.Qqk.2 _ _ _ h i
theorem R.Qv {v:V}{d:D}{w:V}(h:R K F v d)(e:d.sc=some w):v=w:=by
 cases h with
 |sc e'=>rw[e] at e';exact(z27 e').symm
 |nd h r=>cases e
theorem RL.get {vs:List V}{ds:List D}{i:Nat}{d:D}(r:RL K F vs ds)(e:ds[i]? = some d):∃v,vs[i]? = some v/\R K F v d:=by
 induction i generalizing vs ds with
 |zero=>cases r with
  |nil=>simp at e
  |cons h r=>simp at e;subst e;exact⟨_,rfl,h⟩
 |succ i ih=>cases r with
  |nil=>simp at e
  |cons h r=>
   obtain⟨v,h1,h2⟩:=ih r (by simpa using e)
   exact⟨v,by simpa using h1,h2⟩
theorem RL.app {vs us:List V}{ds es:List D}(h:RL K F vs ds)(r:RL K F us es):RL K F (vs++us) (ds++es):=
 ((R.ind (P:=fun v d=>R K F v d) (Q:=fun vs ds=>RL K F vs ds/\RL K F (vs++us) (ds++es)) .sc (fun h q=>.nd h q.1) ⟨.nil,r⟩ (fun p q=>⟨.cons p q.1,.cons p q.2⟩)).2 _ _ h).2
theorem OL.app {vs us:List V}{ds es:List D}{f g:List Addr}(h:OL K F H vs ds f)(r:OL K F H us es g):OL K F H (vs++us) (ds++es) (f++g):=
 ((O.ind (P:=fun v d f=>O K F H v d f) (Q:=fun vs ds f=>OL K F H vs ds f/\OL K F H (vs++us) (ds++es) (f++g)) .sc (fun m h q=>.im m h q.1) (fun h q=>.mt h q.1) ⟨.nil,r⟩ (fun p q=>⟨.cons p q.1,by rw[z15];exact .cons p q.2⟩)).2 _ _ _ h).2
end
end TL
namespace TL
open PySem L2
inductive Sl where
 |frz (d:D)
 |own (d:D)
 |par (d:D)
abbrev Rho:=List (Option Sl)
structure Cn where
 K:z02
 H₀:Hp
 F₀:Hp
 A:List Addr
 QdW:List (Nat×V)
inductive S1 (K:z02) (F H:Hp):Option V->Option Sl->List Addr->List Addr->Prop
 |non {x:Option V}:S1 K F H x none [] []
 |frz {v:V} {d:D} (h:R K F v d):S1 K F H (some v) (some (.frz d)) [] []
 |own {v:V} {d:D} {f:List Addr} (h:O K F H v d f):S1 K F H (some v) (some (.own d)) f []
 |par {v:V} {d:D} {f:List Addr} (h:O K F H v d f):S1 K F H (some v) (some (.par d)) [] f
inductive SL (K:z02) (F H:Hp):St->Rho->List Addr->List Addr->Prop
 |nil:SL K F H [] [] [] []
 |cons {x:Option V} {s:Option Sl} {σ:St} {ρ:Rho} {f0 g0 f g:List Addr} (h:S1 K F H x s f0 g0) (r:SL K F H σ ρ f g):SL K F H (x::σ) (s::ρ) (f0++f) (g0++g)
section
variable {K:z02}{F F' H H':Hp}
theorem S1.keep {x:Option V}{s:Option Sl}{f g:List Addr}(sf:Qn F F')(h:S1 K F H x s f g)(k:∀a∈f++g,H' a=H a):S1 K F' H' x s f g:=by
 cases h with
 |non=>exact .non
 |frz h=>exact .frz (h.same sf)
 |own h=>exact .own (h.keep sf fun a ha=>k a (z08 _ ha))
 |par h=>exact .par (h.keep sf fun a ha=>k a ha)
theorem S1.mem {x:Option V}{s:Option Sl}{f g:List Addr}(h:S1 K F H x s f g):∀a∈f++g,∃o,H a=some o/\Mbl o:=by
 cases h with
 |non=>intro a ha;exact nomatch ha
 |frz h=>intro a ha;exact nomatch ha
 |own h=>intro a ha;rw[z61] at ha;exact h.mem a ha
 |par h=>intro a ha;exact h.mem a ha
theorem SL.keep (sf:Qn F F'){σ:St}{ρ:Rho}{f g:List Addr}(h:SL K F H σ ρ f g)(k:∀a∈f++g,H' a=H a):SL K F' H' σ ρ f g:=by
 induction h with
 |nil=>exact .nil
 |cons h r ih=>
  refine .cons (h.keep sf fun a ha=>k a ?_) (ih fun a ha=>k a ?_)<;>rcases z04.mp ha with z|z
  ·exact z08 _ (z08 _ z)
  ·exact z01 _ (z08 _ z)
  ·exact z08 _ (z01 _ z)
  ·exact z01 _ (z01 _ z)
theorem SL.mem {σ:St}{ρ:Rho}{f g:List Addr}(h:SL K F H σ ρ f g):∀a∈f++g,∃o,H a=some o/\Mbl o:=by
 induction h with
 |nil=>exact fun a ha=>nomatch ha
 |cons h r ih=>
  intro a ha
  rcases z04.mp ha with z|z<;>rcases z04.mp z with z|z
  ·exact h.mem a (z08 _ z)
  ·exact ih a (z08 _ z)
  ·exact h.mem a (z01 _ z)
  ·exact ih a (z01 _ z)
theorem SL.len {σ:St}{ρ:Rho}{f g:List Addr}(h:SL K F H σ ρ f g):σ.length=ρ.length:=by
 induction h with
 |nil=>rfl
 |cons h r ih=>exact congrArg Nat.succ ih
theorem SL.cut {σ:St}{ρ:Rho}{f g:List Addr}(h:SL K F H σ ρ f g):∀{i:Nat} {s:Option Sl},ρ[i]? = some s->∃x f0 g0 f1 f2 g1 g2,σ[i]? = some x/\S1 K F H x s f0 g0/\f=f1++(f0++f2)/\g=g1++(g0++g2)/\
  ∀{F' H':Hp},Qn F F'->(∀a∈f1++f2++(g1++g2),H' a=H a)->∀{x':Option V} {s':Option Sl} {f0' g0':List Addr},S1 K F' H' x' s' f0' g0'->SL K F' H' (σ.set i x') (ρ.set i s') (f1++(f0'++f2)) (g1++(g0'++g2)):=by
 induction h with
 |nil=>intro i s e;cases e
 | @cons x1 s1 σ1 ρ1 f0 g0 f g h r ih=>
  intro i s e
  cases i with
  |zero=>cases e;exact⟨_,_,_,[],f,[],g,rfl,h,rfl,rfl,fun{F' H'} sf k {x' s' f0' g0'} h'=>show SL K F' H' (_::_) (_::_) (f0'++f) (g0'++g) from .cons h' (r.keep sf k)⟩
  |succ i=>
   obtain⟨x,a0,b0,f1,f2,g1,g2,e1,h1,rfl,rfl,k⟩:=ih (i:=i) (s:=s) e
   refine⟨x,a0,b0,f0++f1,f2,g0++g1,g2,e1,h1,(z15 ..).symm,(z15 ..).symm,fun{F' H'} sf kk {x' s' f0' g0'} h'=>?_⟩
   rw[z15,z15]
   refine SL.cons (h.keep sf fun a ha=>kk a ?_) (k sf (fun a ha=>kk a ?_) h')<;>simp only[z04] at ha ⊢
   ·rcases ha with z|z
    ·exact .inl (.inl (.inl z))
    ·exact .inr (.inl (.inl z))
   ·rcases ha with(z|z)|z|z
    ·exact .inl (.inl (.inr z))
    ·exact .inl (.inr z)
    ·exact .inr (.inl (.inr z))
    ·exact .inr (.inr z)
end
def IsT:HO->Prop
 |.tup _=>True|.ext _=>True|_=>False
def Nw (H:Hp)(b:Addr)(o:HO):Prop:=H b=none\/IsT o
theorem Nw.not {H H':Hp}{b:Addr}{o o':HO}(n:Nw H b o)(e:H b≠none)(e':H' b=some o)(e2:H' b=some o')(m:Mbl o'):False:=by
 rcases n with z|z
 ·exact e z
 ·rw[e'] at e2;cases e2
  cases o with
  |tup _=>exact m
  |ext _=>exact m
  |_=>exact z
theorem Nw.up {H H':Hp}{b:Addr}{o:HO}(n:Nw H b o)(f:H b=none->H' b=none):Nw H' b o:=n.imp f id
structure SI (C:Cn)(F H:Hp)(σ:St)(ρ:Rho)(τ:List (V×D))(fp:List Addr):Prop where
 sl:∃f g t,SL C.K F H σ ρ f g/\OL C.K F H (τ.map (·.1)) (τ.map (·.2)) t/\fp.Perm (f++(g++t))/\(∀a∈f,C.H₀ a=none)/\(∀a∈t,C.H₀ a=none)/\∀a∈g,a∈C.A\/C.H₀ a=none
 nd:fp.Nodup
 ap:∀a∈fp,F a=none
 fh:Qn F H
 f0:Qn C.F₀ F
 fn:∀b o,F b=some o->C.F₀ b=some o\/Nw C.H₀ b o
 kp:∀b o,C.H₀ b=some o->b∉C.A->H b=some o
 dm:∀b,H b=none->C.H₀ b=none
 pr:∀j v,(j,v)∈C.QdW->σ[j]? = some (some v)/\∃d,ρ[j]? = some (some (.par d))
section
variable {C:Cn}{F F' H H':Hp}{σ:St}{ρ:Rho}{τ:List (V×D)}{fp:List Addr}
theorem SI.len (I:SI C F H σ ρ τ fp):σ.length=ρ.length:=let ⟨_,_,_,s,_⟩:=I.sl;s.len
theorem SI.mem (I:SI C F H σ ρ τ fp):∀a∈fp,∃o,H a=some o/\Mbl o:=fun a ha=>by
 obtain⟨f,g,t,s,o,p,_⟩:=I.sl
 have z:=p.mem_iff.mp ha
 rcases z04.mp z with z|z
 ·exact s.mem a (z08 _ z)
 ·rcases z04.mp z with z|z
  ·exact s.mem a (z01 _ z)
  ·exact o.mem a z
theorem SI.perm {fp':List Addr}(I:SI C F H σ ρ τ fp)(p:fp.Perm fp'):SI C F H σ ρ τ fp':=by
 obtain⟨f,g,t,s,o,q,r⟩:=I.sl
 exact⟨⟨f,g,t,s,o,p.symm.trans q,r⟩,p.nodup_iff.mp I.nd,fun a ha=>I.ap a (p.mem_iff.mpr ha),I.fh,I.f0,I.fn,I.kp,I.dm,I.pr⟩
theorem SI.step (I:SI C F H σ ρ τ fp)(sf:Qn F F')(fh:Qn F' H')(hk:∀a∈fp,H' a=H a)(ap:∀a∈fp,F' a=none)(fn:∀b o,F' b=some o->F b=some o\/Nw C.H₀ b o)(kp:∀b o,C.H₀ b=some o->b∉C.A->H b=some o->H' b=some o)(dm:∀b,H' b=none->H b=none):SI C F' H' σ ρ τ fp:=by
 obtain⟨f,g,t,s,o,q,h1,h2,h3⟩:=I.sl
 have inn:∀{a:Addr},a∈f++(g++t)->H' a=H a:=fun z=>hk _ (q.mem_iff.mpr z)
 refine⟨⟨f,g,t,s.keep sf fun a ha=>inn (by
  rcases z04.mp ha with z|z
  ·exact z08 _ z
  ·exact z01 _ (z08 _ z)),o.keep sf fun a ha=>inn (z01 _ (z01 _ ha)),q,h1,h2,h3⟩,I.nd,ap,fh,I.f0.trans sf,fun b ob e=>?_,fun b ob e n=>?_,fun b e=>?_,I.pr⟩
 ·rcases fn b ob e with z|z
  ·exact I.fn b ob z
  ·exact .inr z
 ·exact kp b ob e n (I.kp b ob e n)
 ·exact I.dm b (dm b e)
theorem SI.lay {p:Addr}{o:HO}(I:SI C F H σ ρ τ fp)(hp:H p=none):SI C (upd F p o) (upd H p o) σ ρ τ fp:=by
 have np:∀a∈fp,a≠p:=fun a ha=>by
  obtain⟨_,e,_⟩:=I.mem a ha
  exact Qm e hp
 have fp0:F p=none:=I.fh.free hp
 refine I.step (Qn.upd fp0) (fun b ob e=>?_) (fun a ha=>Qg (np a ha)) (fun a ha=>(Qg (np a ha)).trans (I.ap a ha)) (fun b ob e=>?_) (fun b ob _ _ e=>Qn.upd hp b ob e) fun b e=>(Qn.upd hp).free e
 ·by_cases hb:b=p
  ·subst hb;rw[Ql] at e ⊢;exact e
  ·rw[Qg hb] at e ⊢;exact I.fh b ob e
 ·by_cases hb:b=p
  ·subst hb;exact .inr (.inl (I.dm b hp))
  ·rw[Qg hb] at e;exact .inl e
theorem SI.lay0 {p:Addr}{o:HO}(I:SI C F H σ ρ τ fp)(hp:H p=none):SI C F (upd H p o) σ ρ τ fp:=by
 have np:∀a∈fp,a≠p:=fun a ha=>by
  obtain⟨_,e,_⟩:=I.mem a ha
  exact Qm e hp
 exact I.step (Qn.refl F) (I.fh.trans (Qn.upd hp)) (fun a ha=>Qg (np a ha)) I.ap (fun b ob e=>.inl e) (fun b ob _ _ e=>Qn.upd hp b ob e) fun b e=>(Qn.upd hp).free e
theorem SI.pop {v:V}{d:D}(I:SI C F H σ ρ ((v,d)::τ) fp):∃f rest,O C.K F H v d f/\fp.Perm (f++rest)/\SI C F H σ ρ τ rest/\(∀a∈f,C.H₀ a=none)/\(∀a∈f,F a=none)/\(f++rest).Nodup:=by
 obtain⟨f,g,t,s,o,q,h1,h2,h3⟩:=I.sl
 cases o with
 | @cons _ _ _ _ t1 t2 o1 o2=>
  have p:fp.Perm (t1++(f++(g++t2))):=by
   refine q.trans ?_
   rw[z79]
   intro a
   simp only[zb5]
   omega
  have nd:=p.nodup_iff.mp I.nd
  refine⟨t1,f++(g++t2),o1,p,⟨⟨f,g,t2,s,o2,.refl _,h1,fun a ha=>h2 a (z01 _ ha),h3⟩,(z07.mp nd).2.1,fun a ha=>I.ap a (p.mem_iff.mpr (z01 _ ha)),I.fh,I.f0,I.fn,I.kp,I.dm,I.pr⟩,fun a ha=>h2 a (z08 _ ha),fun a ha=>I.ap a (p.mem_iff.mpr (z08 _ ha)),nd⟩
theorem SI.push {v:V}{d:D}{f rest:List Addr}(I:SI C F H σ ρ τ rest)(h:O C.K F H v d f)(h0:∀a∈f,C.H₀ a=none)(ap:∀a∈f,F a=none)(nd:(f++rest).Nodup):SI C F H σ ρ ((v,d)::τ) (f++rest):=by
 obtain⟨f1,g,t,s,o,q,h1,h2,h3⟩:=I.sl
 refine⟨⟨f1,g,f++t,s,.cons h o,?_,h1,fun a ha=>(z04.mp ha).elim (h0 a) (h2 a),h3⟩,nd,fun a ha=>(z04.mp ha).elim (ap a) (I.ap a),I.fh,I.f0,I.fn,I.kp,I.dm,I.pr⟩
 refine(q.append_left f).trans ?_
 rw[z79]
 intro a
 simp only[zb5]
 omega
theorem SI.cut (I:SI C F H σ ρ τ fp){i:Nat}{s:Option Sl}(hs:ρ[i]? = some s):∃x f0 g0 rest,σ[i]? = some x/\S1 C.K F H x s f0 g0/\fp.Perm (f0++(g0++rest))/\(∀a∈f0,C.H₀ a=none)/\(∀a∈g0,a∈C.A\/C.H₀ a=none)/\
  ∀{F' H':Hp} {x':Option V} {s':Option Sl} {f0' g0':List Addr},Qn F F'->Qn F' H'->(∀a∈rest,H' a=H a)->(∀b,H' b=none->H b=none)->(∀b o,C.H₀ b=some o->b∉C.A->H b=some o->H' b=some o)->(∀b o,F' b=some o->F b=some o\/Nw C.H₀ b o)->
   S1 C.K F' H' x' s' f0' g0'->(f0'++(g0'++rest)).Nodup->(∀a∈f0'++(g0'++rest),F' a=none)->(∀a∈f0',C.H₀ a=none)->(∀a∈g0',a∈C.A\/C.H₀ a=none)->(∀v,(i,v)∈C.QdW->x'=some v/\∃d,s'=some (.par d))->
   SI C F' H' (σ.set i x') (ρ.set i s') τ (f0'++(g0'++rest)):=by
 obtain⟨f,g,t,sl,o,q,h1,h2,h3⟩:=I.sl
 obtain⟨x,f0,g0,f1,f2,g1,g2,ex,s1,rfl,rfl,k⟩:=sl.cut hs
 have mv:∀(f0 g0:List Addr),(f0++(g0++(f1++f2++(g1++g2)++t))).Perm ((f1++(f0++f2))++((g1++(g0++g2))++t)):=fun f0 g0=>by
  rw[z79]
  intro a
  simp only[zb5]
  omega
 refine⟨x,f0,g0,f1++f2++(g1++g2)++t,ex,s1,q.trans (mv f0 g0).symm,fun a ha=>h1 a (by simp[ha]),fun a ha=>h3 a (by simp[ha]),fun{F' H' x' s' f0' g0'} sf fh hk dm kp fn n1 nd ap w0 w1 pr=>?_⟩
 have z:=k sf (fun a ha=>hk a (z08 _ ha)) n1
 refine⟨⟨_,_,t,z,o.keep sf fun a ha=>hk a (z01 _ ha),mv f0' g0',fun a ha=>?_,h2,fun a ha=>?_⟩,nd,ap,fh,I.f0.trans sf,fun b ob e=>?_,fun b ob e n=>?_,fun b e=>I.dm b (dm b e),fun j v hj=>?_⟩
 ·simp only[z04] at ha
  rcases ha with z|z|z
  ·exact h1 a (by simp[z])
  ·exact w0 a z
  ·exact h1 a (by simp[z])
 ·simp only[z04] at ha
  rcases ha with z|z|z
  ·exact h3 a (by simp[z])
  ·exact w1 a z
  ·exact h3 a (by simp[z])
 ·rcases fn b ob e with z|z
  ·exact I.fn b ob z
  ·exact .inr z
 ·exact kp b ob e n (I.kp b ob e n)
 ·obtain⟨p1,d,p2⟩:=I.pr j v hj
  by_cases e:i=j
  ·subst e
   obtain⟨q1,d',q2⟩:=pr v hj
   have l1:i<σ.length:=(z17.mp p1).1
   have l2:i<ρ.length:=(z17.mp p2).1
   exact⟨by rw[z64 l1,q1],d',by rw[z64 l2,q2]⟩
  ·exact⟨by rw[z57 e];exact p1,d,by rw[z57 e];exact p2⟩
theorem QiS {p q:List Addr}(h:p.Perm q):jn F H p=jn F H q:=by
 funext b
 unfold jn
 by_cases hb:b∈p
 ·rw[if_pos hb,if_pos (h.mem_iff.mp hb)]
 ·rw[if_neg hb,if_neg fun z=>hb (h.mem_iff.mpr z)]
theorem SI.freeze {v:V}{d:D}(I:SI C F H σ ρ ((v,d)::τ) fp):∃F' rest,SI C F' H σ ρ τ rest/\Qn F F'/\R C.K F' v d/\jn F' H rest=jn F H fp:=by
 obtain⟨f,rest,o,p,J,h0,ap,nd⟩:=I.pop
 have dis:∀a∈rest,a∉f:=fun a ha hf=>(z07.mp nd).2.2 a hf a ha rfl
 have sf:Qn F (jn F H f):=Qe4 ap
 refine⟨jn F H f,rest,J.step sf (JK J.fh) (fun _ _=>rfl) (fun a ha=>(QG (dis a ha)).trans (J.ap a ha)) (fun b ob e=>?_) (fun b ob _ _ e=>e) (fun _ e=>e),sf,o.r sf fun a ha=>Jl ha,?_⟩
 ·by_cases hb:b∈f
  ·exact .inr (.inl (h0 b hb))
  ·rw[QG hb] at e;exact .inl e
 ·funext b
  unfold jn
  by_cases hb:b∈rest
  ·rw[if_pos hb,if_pos (p.mem_iff.mpr (z01 _ hb))]
  ·rw[if_neg hb]
   by_cases hf:b∈f
   ·rw[if_pos hf,if_pos (p.mem_iff.mpr (z08 _ hf))]
   ·rw[if_neg hf,if_neg fun z=>(z04.mp (p.mem_iff.mp z)).elim hf hb]
theorem SI.drop (I:SI C F H σ ρ τ fp):∃fp',SI C F H σ ρ [] fp':=by
 induction τ generalizing fp with
 |nil=>exact⟨fp,I⟩
 |cons x τ ih=>
  obtain⟨f,rest,_,_,J,_⟩:=SI.pop (v:=x.1) (d:=x.2) I
  exact ih J
end
structure Xc where
 c:Addr
 l:Option Int
instance:Coe Addr Xc:=⟨fun a=>⟨a,none⟩⟩
def EX (E:XK)(c:Xc)(H:Hp):Prop:=match c.l with
 |none=>E (.ref c.c) none H
 |some n=>∀d,H d=some (Qpk d [("line",.int n)])->E (.ref c.c) (some d) H
inductive Rs (α:Type) where
 |ok (a:α)
 |ex (c:Xc) (ρ:Rho)
 |no
noncomputable def Rs.bind {α β:Type}:Rs α->(α->Rs β)->Rs β
 |.ok a,f=>f a
 |.ex c ρ,_=>.ex c ρ
 |.no,_=>.no
noncomputable def Rs.of {α:Type}:Option α->Rs α
 |some a=>.ok a
 |none=>.no
abbrev ME:=Rho->Rs (D×Rho)
abbrev MT:=Rho->Rs (Bool×Rho)
abbrev MA:=Rho->Rs (List D×Rho)
abbrev XE:=L2.St->XK
def Run (C:Cn)(E:XE)(σ:L2.St){α:Type}(r:Rs α)(k:α->Prop):Prop:=match r with
 |.ok a=>k a
 |.ex c ρ=>∀F H fp,SI C F H σ ρ [] fp->EX (E σ) c H
 |.no=>False
section
variable {C:Cn}{E:XE}{σ:L2.St}{α β:Type}
theorem Run.mono {r:Rs α}{k k':α->Prop}(h:Run C E σ r k)(f:∀a,k a->k' a):Run C E σ r k':=by
 cases r with
 |ok a=>exact f a h
 |ex c ρ=>exact h
 |no=>exact h
theorem Run.split {r:Rs α}{f:α->Rs β}{k:β->Prop}(h:Run C E σ (r.bind f) k):Run C E σ r fun a=>Run C E σ (f a) k:=by
 cases r with
 |ok a=>exact h
 |ex c ρ=>exact h
 |no=>exact h
theorem Run.of {o:Option α}{k:α->Prop}(h:Run C E σ (Rs.of o) k):∃a,o=some a/\k a:=by
 cases o with
 |none=>exact h.elim
 |some a=>exact⟨a,rfl,h⟩
end
inductive Kd where
 |V|O|B|S (i:Nat)
def Kd.tk:Kd->L2.V->D->List (L2.V×D)->List (L2.V×D)
 |.O,v,d,τ=>(v,d)::τ
 |_,_,_,τ=>τ
def Kd.fc (C:Cn)(F H:Hp)(fp:List Addr)(σ:L2.St)(v:L2.V)(d:D):Kd->Prop
 |.V=>R C.K F v d
 |.B=>R C.K (jn F H fp) v d
 |.O=>True
 |.S i=>σ[i]? = some (some v)
structure Nx (p:Bool)(F H:Hp)(fp:List Addr)(F' H':Hp)(fp':List Addr):Prop where
 f:Qn F F'
 g:p=true->Qn (jn F H fp) (jn F' H' fp')
theorem Nx.refl {p:Bool}{F H:Hp}{fp:List Addr}:Nx p F H fp F H fp:=⟨Qn.refl _,fun _=>Qn.refl _⟩
theorem Nx.trans {p q:Bool}{F H F1 H1 F2 H2:Hp}{fp fp1 fp2:List Addr}(a:Nx p F H fp F1 H1 fp1)(b:Nx q F1 H1 fp1 F2 H2 fp2):Nx (p && q) F H fp F2 H2 fp2:=
 ⟨a.f.trans b.f,fun h=>(a.g (z48.mp h).1).trans (b.g (z48.mp h).2)⟩
theorem Nx.weak {p q:Bool}{F H F1 H1:Hp}{fp fp1:List Addr}(a:Nx p F H fp F1 H1 fp1)(h:q=true->p=true):Nx q F H fp F1 H1 fp1:=⟨a.f,fun z=>a.g (h z)⟩
def tX (k:Kd)(C:Cn)(p:Bool)(E:XE)(m:ME):TE:=fun σ H Q=>∃F ρ τ fp,SI C F H σ ρ τ fp/\Run C E σ (m ρ) fun r=>
 ∀F' H' fp' v,SI C F' H' σ r.2 (k.tk v r.1 τ) fp'->Nx p F H fp F' H' fp'->k.fc C F' H' fp' σ v r.1->Q v H'
def tT (C:Cn)(p:Bool)(E:XE)(m:MT):TT:=fun σ H Q=>∃F ρ τ fp,SI C F H σ ρ τ fp/\Run C E σ (m ρ) fun r=>
 ∀F' H' fp',SI C F' H' σ r.2 τ fp'->Nx p F H fp F' H' fp'->Q r.1 H'
def tkL:List Kd->List L2.V->List D->List (L2.V×D)->List (L2.V×D)
 |k::ks,v::vs,d::ds,τ=>tkL ks vs ds (k.tk v d τ)
 |_,_,_,τ=>τ
inductive FcL (C:Cn) (F H:Hp) (fp:List Addr) (σ:L2.St):List Kd->List L2.V->List D->Prop
 |nil:FcL C F H fp σ [] [] []
 |cons {k:Kd} {v:L2.V} {d:D} {ks:List Kd} {vs:List L2.V} {ds:List D} (h:k.fc C F H fp σ v d) (r:FcL C F H fp σ ks vs ds):FcL C F H fp σ (k::ks) (v::vs) (d::ds)
def tA (ks:List Kd)(C:Cn)(p:Bool)(E:XE)(m:MA):TA:=fun σ H Q=>∃F ρ τ fp,SI C F H σ ρ τ fp/\Run C E σ (m ρ) fun r=>
 ∀F' H' fp' vs,SI C F' H' σ r.2 (tkL ks vs r.1 τ) fp'->Nx p F H fp F' H' fp'->FcL C F' H' fp' σ ks vs r.1->Q vs H'
theorem Qo {X:Cx}{e:Expr}{t t':TE}(h:PE X e t)(k:∀σ H Q,t' σ H Q->t σ H Q):PE X e t':=fun pins s σ H Q I q=>h pins s σ H Q I (k _ _ _ q)
theorem QaT {X:Cx}{e:Expr}{t t':TT}(h:PT X e t)(k:∀σ H Q,t' σ H Q->t σ H Q):PT X e t':=fun pins s σ H Q I q=>h pins s σ H Q I (k _ _ _ q)
theorem Qe6 {X:Cx}{e:List Expr}{t t':TA}(h:PA X e t)(k:∀σ H Q,t' σ H Q->t σ H Q):PA X e t':=fun pos pins s σ H Q I q=>h pos pins s σ H Q I (k _ _ _ q)
theorem QQ {X:Cx}{e:Stmt}{t t':TS}(h:PS X e t)(k:∀D σ H,t' D σ H->t D σ H):PS X e t':=fun pins s σ H D I q=>h pins s σ H D I (k _ _ _ q)
theorem QaU {X:Cx}{e:List Stmt}{t t':TS}(h:PSs X e t)(k:∀D σ H,t' D σ H->t D σ H):PSs X e t':=fun pins s σ H D I q=>h pins s σ H D I (k _ _ _ q)
section
variable {X:Cx}{C:Cn}{E:XE}{p pa pb:Bool}{e a b:Expr}{m ma mb:ME}{pos:Pos}{k ka kb:Kd}
theorem R.tj {F H:Hp}{σ:L2.St}{ρ:Rho}{τ:List (V×D)}{fp:List Addr}{v:L2.V}{d:D}(I:SI C F H σ ρ τ fp)(h:R C.K F v d):R C.K (jn F H fp) v d:=h.same (Qe4 I.ap)
theorem R.top {F H:Hp}{σ:L2.St}{ρ:Rho}{τ:List (V×D)}{fp:List Addr}{v:L2.V}{d:D}(I:SI C F H σ ρ τ fp)(h:R C.K (jn F H fp) v d):R C.K H v d:=h.same (JK I.fh)
def mC (d:D):ME:=fun ρ=>.ok (d,ρ)
theorem Qld {d:D}{v:L2.V}(e:d.sc=some v){σ:L2.St}{H:Hp}{Q:VK}(h:tX .V C true E (mC d) σ H Q):tC v σ H Q:=by
 obtain⟨F,ρ,τ,fp,I,r⟩:=h
 exact r F H fp v I .refl (.sc e)
theorem Qh {i j pos}:PE X (.Constant (.int i) j pos) (tX .V C true E (mC (.int i))):=Qo QcR fun _ _ _ h=>Qld rfl h
theorem QbO {b j pos}:PE X (.Constant (.bool b) j pos) (tX .V C true E (mC (.bl b))):=Qo QnA fun _ _ _ h=>Qld rfl h
def mB (i:Nat):ME:=fun ρ=>match ρ[i]? with
 |some (some (.frz d))=>.ok (d,ρ)
 |some (some (.own d))=>.ok (d,ρ)
 |some (some (.par d))=>.ok (d,ρ)
 |_=>.no
theorem Qle {i:Nat}{x:Str}{pos:Pos}(hN:X.N[i]? = some x)(hv:Vis X.env.scope x)(hd:(x == ("__debug__" : Str))=false:=by decide)(hcd:(x == ("__classdict__" : Str))=false:=by decide):PE X (.Name x pos) (tX .B C true E (mB i)):=Qo (Yh hN hv hd hcd) fun σ H Q ⟨F,ρ,τ,fp,I,r⟩=>by
 unfold mB at r
 cases es:ρ[i]? with
 |none=>rw[es] at r;exact r.elim
 |some s=>
  rw[es] at r
  obtain⟨y,f0,g0,rest,ey,s1,pm,_,_,_⟩:=I.cut es
  cases s1 with
  |non=>exact r.elim
  |frz h=>exact⟨_,ey,r F H fp _ I .refl (h.tj I)⟩
  |own h=>exact⟨_,ey,r F H fp _ I .refl (h.r (Qe4 I.ap) fun a ha=>Jl (pm.mem_iff.mpr (z08 _ ha)))⟩
  |par h=>exact⟨_,ey,r F H fp _ I .refl (h.r (Qe4 I.ap) fun a ha=>Jl (pm.mem_iff.mpr (z01 _ (z08 _ ha))))⟩
def mV (i:Nat):ME:=fun ρ=>match ρ[i]? with
 |some (some (.frz d))=>.ok (d,ρ)
 |some (some (.own d))=>.ok (d,ρ.set i (some (.frz d)))
 |_=>.no
theorem QZ {α:Type}{l:List α}{i:Nat}{x:α}(h:l[i]? = some x):l.set i x=l:=by
 apply ze4
 intro j
 by_cases e:i=j
 ·subst e
  rw[z64 (z17.mp h).1,h]
 ·rw[z57 e]
theorem SI.QiT {F H:Hp}{σ:L2.St}{ρ:Rho}{τ:List (V×D)}{fp:List Addr}{i:Nat}{d:D}(I:SI C F H σ ρ τ fp)(es:ρ[i]? = some (some (.own d))) :
  ∃F' fp' v,σ[i]? = some (some v)/\SI C F' H σ (ρ.set i (some (.frz d))) τ fp'/\R C.K F' v d/\Qn F F'/\jn F' H fp'=jn F H fp:=by
 obtain⟨y,f0,g0,rest,ey,s1,pm,w0,w1,cl⟩:=I.cut es
 cases s1 with
 | @own v _ _ h=>
  have nd:=pm.nodup_iff.mp I.nd
  have ap:∀a∈f0,F a=none:=fun a ha=>I.ap a (pm.mem_iff.mpr (z08 _ ha))
  have dis:∀a∈rest,a∉f0:=fun a ha hf=>(z07.mp nd).2.2 a hf a ha rfl
  have sf:Qn F (TL.jn F H f0):=Qe4 ap
  have rr:R C.K (TL.jn F H f0) v d:=h.r sf fun a ha=>Jl ha
  have q:=cl (F':=TL.jn F H f0) (H':=H) (x':=some v) (s':=some (.frz d)) (f0':=[]) (g0':=[]) sf (JK I.fh) (fun _ _=>rfl) (fun _ z=>z) (fun _ _ _ _ z=>z) (fun b o e=>by
   by_cases hb:b∈f0
   ·exact .inr (.inl (w0 b hb))
   ·rw[QG hb] at e;exact .inl e) (.frz rr) (z07.mp nd).2.1 (fun a ha=>(QG (dis a ha)).trans (I.ap a (pm.mem_iff.mpr (z01 _ ha)))) (fun _ z=>nomatch z) (fun _ z=>nomatch z) (fun v' hv=>by
    obtain⟨_,d',z⟩:=I.pr _ _ hv
    rw[es] at z;cases z)
  rw[QZ ey] at q
  refine⟨_,_,v,ey,q,rr,sf,?_⟩
  funext b
  show TL.jn (TL.jn F H f0) H rest b=TL.jn F H fp b
  unfold TL.jn
  by_cases hb:b∈rest
  ·rw[if_pos hb,if_pos (pm.mem_iff.mpr (z01 _ hb))]
  ·rw[if_neg hb]
   by_cases hf:b∈f0
   ·rw[if_pos hf,if_pos (pm.mem_iff.mpr (z08 _ hf))]
   ·rw[if_neg hf,if_neg fun z=>(z04.mp (pm.mem_iff.mp z)).elim hf hb]
theorem Qlf {i:Nat}{x:Str}{pos:Pos}(hN:X.N[i]? = some x)(hv:Vis X.env.scope x)(hd:(x == ("__debug__" : Str))=false:=by decide)(hcd:(x == ("__classdict__" : Str))=false:=by decide):PE X (.Name x pos) (tX .V C true E (mV i)):=Qo (Yh hN hv hd hcd) fun σ H Q ⟨F,ρ,τ,fp,I,r⟩=>by
 unfold mV at r
 cases es:ρ[i]? with
 |none=>rw[es] at r;exact r.elim
 |some s=>
  rw[es] at r
  cases s with
  |none=>exact r.elim
  |some s=>
   cases s with
   |frz d=>
    obtain⟨y,f0,g0,rest,ey,s1,_⟩:=I.cut es
    cases s1 with
    |frz h=>exact⟨_,ey,r F H fp _ I .refl h⟩
   |own d=>
    obtain⟨F',fp',v,ey,J,rr,sf,je⟩:=I.QiT es
    exact⟨v,ey,r F' H fp' v J ⟨sf,fun _=>by rw[je];exact Qn.refl _⟩ rr⟩
   |par d=>exact r.elim
def mO (i:Nat):ME:=fun ρ=>match ρ[i]? with
 |some (some (.own d))=>.ok (d,ρ.set i none)
 |_=>.no
theorem Qlg {i:Nat}{x:Str}{pos:Pos}(hN:X.N[i]? = some x)(hv:Vis X.env.scope x)(hd:(x == ("__debug__" : Str))=false:=by decide)(hcd:(x == ("__classdict__" : Str))=false:=by decide):PE X (.Name x pos) (tX .O C true E (mO i)):=Qo (Yh hN hv hd hcd) fun σ H Q ⟨F,ρ,τ,fp,I,r⟩=>by
 unfold mO at r
 cases es:ρ[i]? with
 |none=>rw[es] at r;exact r.elim
 |some s=>
  rw[es] at r
  obtain⟨y,f0,g0,rest,ey,s1,pm,w0,w1,cl⟩:=I.cut es
  cases s1 with
  |non=>exact r.elim
  |frz h=>exact r.elim
  |par h=>exact r.elim
  | @own v d f h=>
   have nd:=pm.nodup_iff.mp I.nd
   have q:=cl (F':=F) (H':=H) (x':=some v) (s':=none) (f0':=[]) (g0':=[]) (Qn.refl _) I.fh (fun _ _=>rfl) (fun _ z=>z) (fun _ _ _ _ z=>z) (fun b o e=>.inl e) .non (z07.mp nd).2.1 (fun a ha=>I.ap a (pm.mem_iff.mpr (z01 _ ha))) (fun _ z=>nomatch z) (fun _ z=>nomatch z) (fun v' hv=>by
    obtain⟨_,d',z⟩:=I.pr _ _ hv
    rw[es] at z;cases z)
   rw[QZ ey] at q
   have q2:=q.push h w0 (fun a ha=>I.ap a (pm.mem_iff.mpr (z08 _ ha))) nd
   refine⟨v,ey,r F H _ v q2 ⟨Qn.refl _,fun _=>?_⟩ z59⟩
   have e:TL.jn F H fp=TL.jn F H (f0++([]++([]++rest))):=QiS pm
   rw[e]
   exact Qn.refl _
theorem Qeg (h:PE X e (tX .O C p E m)):PE X e (tX .V C p E m):=Qo h fun σ H Q ⟨F,ρ,τ,fp,I,r⟩=>
 ⟨F,ρ,τ,fp,I,r.mono fun a z F' H' fp' v I' n f=>by
  obtain⟨F2,rest,J,sf,rr,je⟩:=SI.freeze (show SI C F' H' σ a.2 ((v,a.1)::τ) fp' from I')
  exact z F2 H' rest v J ⟨n.f.trans sf,fun hp=>by rw[je];exact n.g hp⟩ rr⟩
def mI (m:ME):ME:=fun ρ=>(m ρ).bind fun r=>if r.1.imm=true then .ok r else .no
theorem SI.lo {F H:Hp}{σ:L2.St}{ρ:Rho}{τ:List (V×D)}{fp:List Addr}{v:L2.V}{d:D}(I:SI C F H σ ρ τ fp)(h:R C.K (TL.jn F H fp) v d)(hd:d.imm=true):R C.K F v d:=by
 have q:=R.lo (L:=fp) (fun b hb o e=>by
  rw[Jl hb] at e
  obtain⟨o',e',z⟩:=I.mem b hb
  rw[e] at e';cases e'
  exact z) h hd
 refine q.same fun b o e=>?_
 by_cases hb:b∈fp
 ·rw[Qe5 hb] at e;cases e
 ·rw[JT hb,QG hb] at e;exact e
theorem Qlh (h:PE X e (tX .B C p E m)):PE X e (tX .V C p E (mI m)):=Qo h fun σ H Q ⟨F,ρ,τ,fp,I,r⟩=>
 ⟨F,ρ,τ,fp,I,r.split.mono fun a z F' H' fp' v I' n f=>by
  by_cases hi:a.1.imm=true
  ·rw[if_pos hi] at z
   exact z F' H' fp' v I' n (I'.lo f hi)
  ·rw[if_neg hi] at z
   exact z.elim⟩
theorem QcA (h:PE X e (tX .V C p E m)):PE X e (tX .O C p E (mI m)):=Qo h fun σ H Q ⟨F,ρ,τ,fp,I,r⟩=>
 ⟨F,ρ,τ,fp,I,r.split.mono fun a z F' H' fp' v I' n f=>by
  by_cases hi:a.1.imm=true
  ·rw[if_pos hi] at z
   have J:=SI.push (τ:=τ) I' (R.o (H:=H') f hi) (fun _ z=>nomatch z) (fun _ z=>nomatch z) (by simpa using I'.nd)
   exact z F' H' fp' v J n z59
  ·rw[if_neg hi] at z
   exact z.elim⟩
def OpD (K:z02)(r:R2)(g:D->D->Option D):Prop:=∀H v u d e res,R K H v d->R K H u e->g d e=some res->∃w,res.sc=some w/\∀Q:VK,Q w H->r v u H Q
def mOp (g:D->D->Option D)(ma mb:ME):ME:=fun ρ=>(ma ρ).bind fun r1=>(mb r1.2).bind fun r2=>Rs.of ((g r1.1 r2.1).map fun d=>(d,r2.2))
def Kd.on:Kd->Bool->Bool
 |.V,_=>true
 |.B,p=>p
 |.O,_=>false
 |.S _,_=>false
theorem Kd.stay {F H F1 H1:Hp}{σ:L2.St}{ρ:Rho}{τ':List (L2.V×D)}{fp fp1:List Addr}{v:L2.V}{d:D}{q:Bool}(ok:k.on q=true)(h:k.fc C F H fp σ v d)(n:Nx q F H fp F1 H1 fp1)(I:SI C F1 H1 σ ρ τ' fp1):R C.K (TL.jn F1 H1 fp1) v d:=by
 cases k with
 |V=>exact(R.same n.f h).tj I
 |B=>exact R.same (n.g ok) h
 |O=>cases ok
 |S i=>cases ok
theorem Kd.JL {q:Bool}(ok:k.on q=true)(v:L2.V)(d:D)(τ:List (L2.V×D)):k.tk v d τ=τ:=by
 cases k with
 |V=>rfl
 |B=>rfl
 |O=>cases ok
 |S i=>cases ok
theorem Qe7 {r:R2}{g:D->D->Option D}(hg:OpD C.K r g)(ok:ka.on pb=true)(ok2:kb.on true=true){σ:L2.St}{H:Hp}{Q:VK}(h:tX .V C (pa && pb) E (mOp g ma mb) σ H Q):tOp r (tX ka C pa E ma) (tX kb C pb E mb) σ H Q:=by
 obtain⟨F,ρ,τ,fp,I,h⟩:=h
 refine⟨F,ρ,τ,fp,I,h.split.mono fun r1 h1 F1 H1 fp1 v1 I1 n1 f1=>?_⟩
 rw[Kd.JL ok] at I1
 refine⟨F1,r1.2,τ,fp1,I1,h1.split.mono fun r2 h2 F2 H2 fp2 v2 I2 n2 f2=>?_⟩
 rw[Kd.JL ok2] at I2
 obtain⟨z,ez,h3⟩:=h2.of
 obtain⟨res,eg,rfl⟩:=z05.mp ez
 obtain⟨w,ew,hw⟩:=hg H2 v1 v2 _ _ _ (R.top I2 (Kd.stay ok f1 n2 I2)) (R.top I2 (Kd.stay ok2 f2 .refl I2)) eg
 exact hw _ (h3 F2 H2 fp2 w I2 (n1.trans n2) (.sc ew))
theorem JM {op:Operator}{r:R2}{g:D->D->Option D}(ho:OpR X (binaryOp op) r)(hg:OpD C.K r g)(ha:PE X a (tX ka C pa E ma))(hb:PE X b (tX kb C pb E mb))(ok:ka.on pb=true:=by rfl)(ok2:kb.on true=true:=by rfl):PE X (.BinOp a op b pos) (tX .V C (pa && pb) E (mOp g ma mb)):=
 Qo (Qkw ho ha hb) fun _ _ _ h=>Qe7 hg ok ok2 h
theorem QiU {op:CmpOp}{r:R2}{g:D->D->Option D}(ho:OpR X (compareOp op) r)(hg:OpD C.K r g)(ha:PE X a (tX ka C pa E ma))(hb:PE X b (tX kb C pb E mb))(hm:behindInMarks op b=false)(ok:ka.on pb=true:=by rfl)(ok2:kb.on true=true:=by rfl):PE X (.Compare a [op] [b] pos) (tX .V C (pa && pb) E (mOp g ma mb)):=
 Qo (Qid ho ha hb hm) fun _ _ _ h=>Qe7 hg ok ok2 h
noncomputable def asB:D->Option Bool
 |.bl b=>some b
 |_=>none
def V4 (m:ME):MT:=fun ρ=>(m ρ).bind fun r=>Rs.of ((asB r.1).map fun b=>(b,r.2))
theorem VD (ok:k.on true=true){σ:L2.St}{H:Hp}{Q:Bool->Hp->Prop}(h:tT C p E (V4 m) σ H Q):QkA (tX k C p E m) σ H Q:=by
 obtain⟨F,ρ,τ,fp,I,h⟩:=h
 refine⟨F,ρ,τ,fp,I,h.split.mono fun r h F1 H1 fp1 v1 I1 n1 f1=>?_⟩
 rw[Kd.JL ok] at I1
 obtain⟨z,ez,h3⟩:=h.of
 obtain⟨b,eb,rfl⟩:=z05.mp ez
 have e:r.1=.bl b:=by
  cases q:r.1<;>rw[q] at eb<;>cases eb
  rfl
 have rr:=Kd.stay ok f1 .refl I1
 rw[e] at rr
 exact⟨b,rr.Qv rfl,h3 F1 H1 fp1 I1 n1⟩
theorem JV {op:CmpOp}{r:R2}{g:D->D->Option D}(ho:OpR X (compareOp op) r)(hg:OpD C.K r g)(ha:PE X a (tX ka C pa E ma))(hb:PE X b (tX kb C pb E mb))(hm:behindInMarks op b=false)(ok:ka.on pb=true:=by rfl)(ok2:kb.on true=true:=by rfl):PT X (.Compare a [op] [b] pos) (tT C (pa && pb) E (V4 (mOp g ma mb))):=
 QaT (Qie ho ha hb hm) fun σ H Q h=>by
  have q:=VD (k:=.V) rfl h
  exact Qe7 hg ok ok2 q
theorem QhK (h:PE X e (tX k C p E m))(ok:k.on true=true:=by rfl)(he:∀whole,isTrue e X.env whole=(do let v ← whole;standAt e.pos;holding [v] (truthy v)):=by intro _;rfl):PT X e (tT C p E (V4 m)):=
 QaT (Qkm h he) fun _ _ _ h=>VD ok h
def Qql (m:MT):MT:=fun ρ=>(m ρ).bind fun r=>.ok (!r.1,r.2)
def Qnn (m u:MT):MT:=fun ρ=>(m ρ).bind fun r=>if r.1=true then u r.2 else .ok (false,r.2)
def mOr (m u:MT):MT:=fun ρ=>(m ρ).bind fun r=>if r.1=true then .ok (true,r.2) else u r.2
variable {mt mu:MT}{rest:List Expr}
theorem QiV (ha:PT X a (tT C pa E mt))(hb:PW X (.BoolOp .And (b::rest) pos) (tT C pb E mu)):PW X (.BoolOp .And (a::b::rest) pos) (tT C (pa && pb) E (Qnn mt mu)):=fun whole pins s σ H Q J h=>
 Qko ha hb whole pins s σ H Q J (by
  obtain⟨F,ρ,τ,fp,I,r⟩:=h
  refine⟨F,ρ,τ,fp,I,r.split.mono fun r1 h1 F1 H1 fp1 I1 n1=>?_⟩
  by_cases c:r1.1=true
  ·rw[if_pos c] at h1 ⊢
   exact⟨F1,r1.2,τ,fp1,I1,h1.mono fun r2 h2 F2 H2 fp2 I2 n2=>h2 F2 H2 fp2 I2 (n1.trans n2)⟩
  ·rw[if_neg c] at h1 ⊢
   exact h1 F1 H1 fp1 I1 (n1.weak fun z=>(z48.mp z).1))
theorem Qli (ha:PT X a (tT C pa E mt))(hb:PW X (.BoolOp .Or (b::rest) pos) (tT C pb E mu)):PW X (.BoolOp .Or (a::b::rest) pos) (tT C (pa && pb) E (mOr mt mu)):=fun whole pins s σ H Q J h=>
 QnB ha hb whole pins s σ H Q J (by
  obtain⟨F,ρ,τ,fp,I,r⟩:=h
  refine⟨F,ρ,τ,fp,I,r.split.mono fun r1 h1 F1 H1 fp1 I1 n1=>?_⟩
  by_cases c:r1.1=true
  ·rw[if_pos c] at h1 ⊢
   exact h1 F1 H1 fp1 I1 (n1.weak fun z=>(z48.mp z).1)
  ·rw[if_neg c] at h1 ⊢
   exact⟨F1,r1.2,τ,fp1,I1,h1.mono fun r2 h2 F2 H2 fp2 I2 n2=>h2 F2 H2 fp2 I2 (n1.trans n2)⟩)
theorem Qlj {op:BoolOp}(ha:PT X a (tT C p E mt)):PW X (.BoolOp op [a] pos) (tT C p E mt):=by
 cases op with
 |And=>exact Qh9 ha
 |Or=>exact Qkn ha
def QiW (ma mb:ME):ME:=fun ρ=>(ma ρ).bind fun r=>(Rs.of (asB r.1)).bind fun c=>if c=true then mb r.2 else .ok (.bl false,r.2)
def Qn6 (m:ME):ME:=fun ρ=>(m ρ).bind fun r=>Rs.of ((asB r.1).map fun b=>(.bl (!b),r.2))
theorem Qlk {d:D}{b:Bool}(h:asB d=some b):d=.bl b:=by
 cases d<;>cases h
 rfl
theorem Qn7 {op:BoolOp}(h:PE X a (tX k C p E m)):PE X (.BoolOp op [a] pos) (tX k C p E m):=Qkp h
theorem Qll (ha:PE X a (tX ka C pa E ma))(hb:PE X (.BoolOp .And (b::rest) pos) (tX .V C pb E mb))(ok:ka.on true=true:=by rfl):PE X (.BoolOp .And (a::b::rest) pos) (tX .V C (pa && pb) E (QiW ma mb)):=Qo (Qkq ha hb) fun σ H Q ⟨F,ρ,τ,fp,I,r⟩=>by
 refine⟨F,ρ,τ,fp,I,r.split.mono fun r1 h1 F1 H1 fp1 v1 I1 n1 f1=>?_⟩
 rw[Kd.JL ok] at I1
 obtain⟨c,ec,h2⟩:=h1.split.of
 have rr:=Kd.stay ok f1 .refl I1
 rw[Qlk ec] at rr
 refine⟨c,rr.Qv rfl,?_⟩
 by_cases hc:c=true
 ·rw[if_pos hc] at h2 ⊢
  exact⟨F1,r1.2,τ,fp1,I1,h2.mono fun r2 h3 F2 H2 fp2 v2 I2 n2 f2=>h3 F2 H2 fp2 v2 I2 (n1.trans n2) f2⟩
 ·rw[if_neg hc] at h2 ⊢
  exact h2 F1 H1 fp1 _ I1 (n1.weak fun z=>(z48.mp z).1) (.sc rfl)
def Qpv (mt:MT)(ma mb:ME):ME:=fun ρ=>(mt ρ).bind fun r=>if r.1=true then ma r.2 else mb r.2
theorem Qn8 {c:Expr}{pc:Bool}(hc:PT X c (tT C pc E mt))(ha:PE X a (tX k C pa E ma))(hb:PE X b (tX k C pb E mb)):PE X (.IfExp c a b pos) (tX k C (pc && (pa && pb)) E (Qpv mt ma mb)):=Qo (Qgv hc ha hb) fun σ H Q ⟨F,ρ,τ,fp,I,r⟩=>by
 refine⟨F,ρ,τ,fp,I,r.split.mono fun r1 h1 F1 H1 fp1 I1 n1=>?_⟩
 by_cases cc:r1.1=true
 ·rw[if_pos cc] at h1 ⊢
  exact⟨F1,r1.2,τ,fp1,I1,h1.mono fun r2 h2 F2 H2 fp2 v2 I2 n2 f2=>h2 F2 H2 fp2 v2 I2 ((n1.trans n2).weak fun z=>by cases pc<;>cases pa<;>cases pb<;>simp_all) f2⟩
 ·rw[if_neg cc] at h1 ⊢
  exact⟨F1,r1.2,τ,fp1,I1,h1.mono fun r2 h2 F2 H2 fp2 v2 I2 n2 f2=>h2 F2 H2 fp2 v2 I2 ((n1.trans n2).weak fun z=>by cases pc<;>cases pa<;>cases pb<;>simp_all) f2⟩
end
section
variable {X:Cx}{C:Cn}{E:XE}{p pa pb:Bool}{e a b:Expr}{es:List Expr}{m ma mb:ME}{mr:MA}{pos:Pos}{k ka kb:Kd}{ks:List Kd}
def mS (i:Nat):ME:=fun ρ=>match ρ[i]? with
 |some (some (.own d))=>.ok (d,ρ)
 |some (some (.par d))=>.ok (d,ρ)
 |_=>.no
theorem Qlm {i:Nat}{x:Str}{pos:Pos}(hN:X.N[i]? = some x)(hv:Vis X.env.scope x)(hd:(x == ("__debug__" : Str))=false:=by decide)(hcd:(x == ("__classdict__" : Str))=false:=by decide):PE X (.Name x pos) (tX (.S i) C true E (mS i)):=Qo (Yh hN hv hd hcd) fun σ H Q ⟨F,ρ,τ,fp,I,r⟩=>by
 unfold mS at r
 cases es:ρ[i]? with
 |none=>rw[es] at r;exact r.elim
 |some s=>
  rw[es] at r
  obtain⟨y,f0,g0,rest,ey,s1,_⟩:=I.cut es
  cases s1 with
  |non=>exact r.elim
  |frz h=>exact r.elim
  |own h=>exact⟨_,ey,r F H fp _ I .refl ey⟩
  |par h=>exact⟨_,ey,r F H fp _ I .refl ey⟩
def Kd.ona:Kd->Bool->Bool
 |.B,p=>p
 |_,_=>true
def JN:MA:=fun ρ=>.ok ([],ρ)
def Qt (m:ME)(mr:MA):MA:=fun ρ=>(m ρ).bind fun r=>(mr r.2).bind fun q=>.ok (r.1::q.1,q.2)
theorem Qf:PA X [] (tA [] C true E JN):=Qe6 YF fun σ H Q ⟨F,ρ,τ,fp,I,r⟩=>r F H fp [] I .refl .nil
theorem Kd.Qn9 {F H F1 H1:Hp}{fp fp1:List Addr}{σ:L2.St}{v:L2.V}{d:D}{q:Bool}(ok:k.ona q=true)(h:k.fc C F H fp σ v d)(n:Nx q F H fp F1 H1 fp1):k.fc C F1 H1 fp1 σ v d:=by
 cases k with
 |V=>exact R.same n.f h
 |B=>exact R.same (n.g ok) h
 |O=>exact z59
 |S i=>exact h
theorem Qd (ha:PE X e (tX k C pa E m))(hr:PA X es (tA ks C pb E mr))(ok:k.ona pb=true:=by rfl)(hs:starEach (e::es) X.env=(false,eval e X.env)::starEach es X.env:=by rfl):PA X (e::es) (tA (k::ks) C (pa && pb) E (Qt m mr)):=Qe6 (Jp ha hr hs) fun σ H Q ⟨F,ρ,τ,fp,I,r⟩=>
 ⟨F,ρ,τ,fp,I,r.split.mono fun r1 h1 F1 H1 fp1 v1 I1 n1 f1=>⟨F1,r1.2,_,fp1,I1,h1.split.mono fun r2 h2 F2 H2 fp2 vs I2 n2 f2=>
  h2 F2 H2 fp2 (v1::vs) I2 (n1.trans n2) (.cons (Kd.Qn9 ok f1 n2) f2)⟩⟩
def rdL:List Kd->Bool
 | []=>true
 |.V::r=>rdL r
 |.B::r=>rdL r
 |_=>false
def knL:List Kd->Bool
 | []=>true
 |.V::r=>knL r
 |_=>false
theorem Jd:∀{ks:List Kd} {vs:List L2.V} {ds:List D} {τ:List (L2.V×D)},rdL ks=true->tkL ks vs ds τ=τ
 | [],_,_,_,_=>by unfold tkL;rfl
 |.V::ks,[],_,_,_=>by unfold tkL;rfl
 |.V::ks,_::_,[],_,_=>by unfold tkL;rfl
 |.V::ks,v::vs,d::ds,τ,h=>by unfold tkL;exact Jd (ks:=ks) h
 |.B::ks,[],_,_,_=>by unfold tkL;rfl
 |.B::ks,_::_,[],_,_=>by unfold tkL;rfl
 |.B::ks,v::vs,d::ds,τ,h=>by unfold tkL;exact Jd (ks:=ks) h
 |.O::ks,_,_,_,h=>by cases h
 |.S i::ks,_,_,_,h=>by cases h
theorem FcL.rd {F H:Hp}{fp:List Addr}{σ:L2.St}{ρ:Rho}{τ:List (L2.V×D)}(I:SI C F H σ ρ τ fp){ks:List Kd}{vs:List L2.V}{ds:List D}(h:FcL C F H fp σ ks vs ds)(q:rdL ks=true):RL C.K (jn F H fp) vs ds:=by
 induction h with
 |nil=>exact .nil
 | @cons k _ _ _ _ _ h r ih=>
  cases k with
  |V=>exact .cons (R.tj I h) (ih q)
  |B=>exact .cons h (ih q)
  |O=>cases q
  |S _=>cases q
theorem FcL.kn {F H:Hp}{fp:List Addr}{σ:L2.St}{ks:List Kd}{vs:List L2.V}{ds:List D}(h:FcL C F H fp σ ks vs ds)(q:knL ks=true):RL C.K F vs ds:=by
 induction h with
 |nil=>exact .nil
 | @cons k _ _ _ _ _ h r ih=>
  cases k with
  |V=>exact .cons h (ih q)
  |B=>cases q
  |O=>cases q
  |S _=>cases q
theorem VF:∀{ks:List Kd},knL ks=true->rdL ks=true
 | [],_=>rfl
 |.V::ks,h=>VF (ks:=ks) h
 |.B::ks,h=>by cases h
 |.O::ks,h=>by cases h
 |.S i::ks,h=>by cases h
def CallD (K:z02)(r:List L2.V->Hp->VK->Prop)(g:List D->Option D):Prop:=∀H vs ds res,RL K H vs ds->g ds=some res->∃w,res.sc=some w/\∀Q:VK,Q w H->r vs H Q
def QbP (g:List D->Option D)(mr:MA):ME:=fun ρ=>(mr ρ).bind fun r=>Rs.of ((g r.1).map fun d=>(d,r.2))
theorem Qln {r:List L2.V->Hp->VK->Prop}{g:List D->Option D}(hg:CallD C.K r g)(ok:rdL ks=true){σ:L2.St}{H:Hp}{Q:VK}(h:tX .V C p E (QbP g mr) σ H Q):tCB r (tA ks C p E mr) σ H Q:=by
 obtain⟨F,ρ,τ,fp,I,h⟩:=h
 refine⟨F,ρ,τ,fp,I,h.split.mono fun r1 h1 F1 H1 fp1 vs I1 n1 f1=>?_⟩
 rw[Jd ok] at I1
 obtain⟨z,ez,h3⟩:=h1.of
 obtain⟨res,eg,rfl⟩:=z05.mp ez
 obtain⟨w,ew,hw⟩:=hg H1 vs _ _ (RL.same (JK I1.fh) (f1.rd I1 ok)) eg
 exact hw _ (h3 F1 H1 fp1 w I1 n1 (.sc ew))
theorem V5 {x:Str}{px:Pos}{id:String}{r:List L2.V->Hp->VK->Prop}{g:List D->Option D}(hc:VM X (.builtin id) r)(hg:CallD C.K r g)(hm:X.mg x=none)(hv:z84 x=some (.builtin id))(ha:PA X (e::es) (tA ks C p E mr))(ok:rdL ks=true:=by rfl)(hgl:Gl X x:=by rfl)(hn:x ≠ "__name__" := by decide)(hdb:(x == ("__debug__" : Str))=false:=by decide)
  (he:starEach (e::es) X.env=(false,eval e X.env)::starEach es X.env:=by rfl) (hpl:(backTo pos (starEach es X.env)).any (·.1)=false:=by rfl):PE X (.Call (.Name x px) (e::es) [] pos) (tX .V C p E (QbP g mr)):=
 Qo (Vw hc hgl hm hv ha hn hdb he hpl) fun _ _ _ h=>Qln hg ok h
theorem QbQ {F H:Hp}{fp:List Addr}{q:Addr}{o:HO}{σ:L2.St}{ρ:Rho}{τ:List (L2.V×D)}(I:SI C F H σ ρ τ fp)(hq:H q=none):Qn (jn F H fp) (jn (upd F q o) (upd H q o) fp):=fun b ob e=>by
 by_cases hb:b∈fp
 ·rw[Jl hb] at e ⊢;exact Qn.upd hq b ob e
 ·rw[QG hb] at e ⊢;exact Qn.upd (I.fh.free hq) b ob e
theorem V6 {F H:Hp}{fp:List Addr}{q:Addr}{o:HO}{σ:L2.St}{ρ:Rho}{τ:List (L2.V×D)}(I:SI C F H σ ρ τ fp)(hq:H q=none):Qn (jn F H fp) (jn F (upd H q o) ([q]++fp)):=fun b ob e=>by
 have fq:=I.fh.free hq
 have e':=JK I.fh b ob e
 have nb:b≠q:=Qm e' hq
 by_cases hb:b∈fp
 ·rw[Jl (z01 _ hb),Qg nb];exact e'
 ·rw[QG hb] at e
  rw[QG (by simp[hb,nb])];exact e
theorem SI.newList {F H:Hp}{fp:List Addr}{q:Addr}{vs:List L2.V}{ds:List D}{σ:L2.St}{ρ:Rho}{τ:List (L2.V×D)}(I:SI C F H σ ρ τ fp)(hq:H q=none)(r:RL C.K F vs ds)(hi:D.QL ds=true):SI C F (upd H q (.lst vs)) σ ρ ((.ref q,.lst ds)::τ) ([q]++fp):=by
 have J:=I.lay0 (o:=.lst vs) hq
 have nq:q∉fp:=fun z=>by
  obtain⟨o,e,_⟩:=I.mem q z
  rw[hq] at e;cases e
 refine J.push (f:=[q]) (.mt (t:=.lst) (show upd H q (.lst vs) q=some (.lst vs) from Ql) (RL.o r hi)) (fun a ha=>?_) (fun a ha=>?_) (z07.mpr ⟨by simp,I.nd,fun x hx y hy z=>?_⟩)
 ·rw[z19.mp ha];exact I.dm q hq
 ·rw[z19.mp ha];exact I.fh.free hq
 ·subst z;rw[z19.mp hx] at hy;exact nq hy
def Qkc (mr:MA):ME:=fun ρ=>(mr ρ).bind fun r=>if r.1.length<=z20 then .ok (.lst r.1,r.2) else .no
def Qno (mr:MA):ME:=fun ρ=>(mr ρ).bind fun r=>if r.1.length<=z20 then .ok (.tup r.1,r.2) else .no
def Qlo (mr:MA):ME:=fun ρ=>(mr ρ).bind fun r=>if r.1.length<=z20 then(if D.QL r.1=true then .ok (.lst r.1,r.2) else .no) else .no
theorem Yi {x1:Nat}(h:PA X es (tA ks C p E mr))(ok:knL ks=true:=by rfl):PE X (.Tuple es x1 pos) (tX .V C p E (Qno mr)):=Qo (Qhw h) fun σ H Q ⟨F,ρ,τ,fp,I,h⟩=>by
 refine⟨F,ρ,τ,fp,I,h.split.mono fun r1 h1 F1 H1 fp1 vs I1 n1 f1=>?_⟩
 rw[Jd (VF ok)] at I1
 have rl:=f1.kn ok
 by_cases hz:r1.1.length<=z20
 ·rw[if_pos hz] at h1
  refine⟨by rw[rl.length];exact hz,fun q hq=>?_⟩
  have s:=Qn.upd (o:=HO.tup vs) (I1.fh.free hq)
  exact h1 _ _ fp1 _ (I1.lay hq) ((n1.trans (q:=true) ⟨s,fun _=>QbQ I1 hq⟩).weak fun z=>by simp[z]) (.nd (t:=.tup) Ql (rl.same s))
 ·rw[if_neg hz] at h1;exact h1.elim
theorem Qe8 (h:PA X es (tA ks C p E mr))(ok:knL ks=true:=by rfl):PE X (.List es pos) (tX .V C p E (Qkc mr)):=Qo (Qew h) fun σ H Q ⟨F,ρ,τ,fp,I,h⟩=>by
 refine⟨F,ρ,τ,fp,I,h.split.mono fun r1 h1 F1 H1 fp1 vs I1 n1 f1=>?_⟩
 rw[Jd (VF ok)] at I1
 have rl:=f1.kn ok
 by_cases hz:r1.1.length<=z20
 ·rw[if_pos hz] at h1
  refine⟨by rw[rl.length];exact hz,fun q hq=>?_⟩
  have s:=Qn.upd (o:=HO.lst vs) (I1.fh.free hq)
  exact h1 _ _ fp1 _ (I1.lay hq) ((n1.trans (q:=true) ⟨s,fun _=>QbQ I1 hq⟩).weak fun z=>by simp[z]) (.nd (t:=.lst) (.inl (.inl Ql)) (rl.same s))
 ·rw[if_neg hz] at h1;exact h1.elim
theorem YQ (h:PA X es (tA ks C p E mr))(ok:rdL ks=true:=by rfl):PE X (.List es pos) (tX .O C p E (Qlo mr)):=Qo (Qew h) fun σ H Q ⟨F,ρ,τ,fp,I,h⟩=>by
 refine⟨F,ρ,τ,fp,I,h.split.mono fun r1 h1 F1 H1 fp1 vs I1 n1 f1=>?_⟩
 rw[Jd ok] at I1
 have rl:=f1.rd I1 ok
 by_cases hz:r1.1.length<=z20
 ·rw[if_pos hz] at h1
  by_cases hi:D.QL r1.1=true
  ·rw[if_pos hi] at h1
   refine⟨by rw[rl.length];exact hz,fun q hq=>?_⟩
   have rl':RL C.K F1 vs r1.1:=by
    have q:=RL.lo (L:=fp1) (fun b hb o e=>by
     rw[Jl hb] at e
     obtain⟨o',e',z⟩:=I1.mem b hb
     rw[e] at e';cases e'
     exact z) rl hi
    refine q.same fun b o e=>?_
    by_cases hb:b∈fp1
    ·rw[Qe5 hb] at e;cases e
    ·rw[JT hb,QG hb] at e;exact e
   exact h1 _ _ _ _ (I1.newList hq rl' hi) ((n1.trans (q:=true) ⟨Qn.refl _,fun _=>V6 I1 hq⟩).weak fun z=>by simp[z]) z59
  ·rw[if_neg hi] at h1;exact h1.elim
 ·rw[if_neg hz] at h1;exact h1.elim
theorem SI.loL {F H:Hp}{σ:L2.St}{ρ:Rho}{τ:List (L2.V×D)}{fp:List Addr}{vs:List L2.V}{ds:List D}(I:SI C F H σ ρ τ fp)(h:RL C.K (jn F H fp) vs ds)(hd:D.QL ds=true):RL C.K F vs ds:=by
 have q:=RL.lo (L:=fp) (fun b hb o e=>by
  rw[Jl hb] at e
  obtain⟨o',e',z⟩:=I.mem b hb
  rw[e] at e';cases e'
  exact z) h hd
 refine q.same fun b o e=>?_
 by_cases hb:b∈fp
 ·rw[Qe5 hb] at e;cases e
 ·rw[JT hb,QG hb] at e;exact e
noncomputable def QdX:List D->Option (List D)
 | [.nd .lst ds]=>some ds
 | [.nd .tup ds]=>some ds
 |_=>none
theorem QiX {ds ys:List D}(h:QdX ds=some ys):ds=[.nd .lst ys]\/ds=[.nd .tup ys]:=by
 unfold QdX at h
 split at h
 ·cases h;exact .inl rfl
 ·cases h;exact .inr rfl
 ·cases h
theorem R.inv {K:z02}{F:Hp}{v:L2.V}{t:Tag}{ds:List D}(r:R K F v (.nd t ds)):∃a vs,v=.ref a/\At K F a t vs/\RL K F vs ds:=by
 cases r with
 |sc e=>cases e
 |nd h r=>exact⟨_,_,rfl,h,r⟩
theorem RL.one {K:z02}{F:Hp}{vs:List L2.V}{d:D}(r:RL K F vs [d]):∃v,vs=[v]/\R K F v d:=by
 cases r with
 |cons h t=>cases t;exact⟨_,rfl,h⟩
theorem RL.two {K:z02}{F:Hp}{vs:List L2.V}{d e:D}(r:RL K F vs [d,e]):∃v u,vs=[v,u]/\R K F v d/\R K F u e:=by
 cases r with
 |cons h t=>obtain⟨u,rfl,h'⟩:=t.one;exact⟨_,_,rfl,h,h'⟩
theorem Qe9 {K:z02}{H:Hp}{vs:List L2.V}{ds ys:List D}(r:RL K H vs ds)(g:QdX ds=some ys):∃q us,vs=[.ref q]/\(At K H q .lst us\/At K H q .tup us)/\RL K H us ys:=by
 rcases QiX g with rfl|rfl
 ·obtain⟨v,rfl,h⟩:=r.one
  obtain⟨a,us,rfl,h1,h2⟩:=h.inv
  exact⟨a,us,rfl,.inl h1,h2⟩
 ·obtain⟨v,rfl,h⟩:=r.one
  obtain⟨a,us,rfl,h1,h2⟩:=h.inv
  exact⟨a,us,rfl,.inr h1,h2⟩
theorem boot_list:z84 "list" = some (.type "list"):=by decide +kernel
theorem boot_tuple:z84 "tuple" = some (.type "tuple"):=by decide +kernel
def QbR (mr:MA):ME:=fun ρ=>(mr ρ).bind fun r=>(Rs.of (QdX r.1)).bind fun ds=>if D.QL ds=true then .ok (.lst ds,r.2) else .no
theorem Qfa {x:Str}{px:Pos}(hm:X.mg "list" = none)(hK:C.K=X.K)(ha:PA X [e] (tA ks C p E mr))(ok:rdL ks=true:=by rfl)(hgl:Gl X "list" := by rfl)(he:starEach [e] X.env=(false,eval e X.env)::starEach [] X.env:=by rfl)(hpl:(backTo pos (starEach [] X.env)).any (·.1)=false:=by rfl) :
  PE X (.Call (.Name "list" px) [e] [] pos) (tX .O C p E (QbR mr)):=Qo (VP QbA hgl hm boot_list ha (by decide) (by decide) he hpl) fun σ H Q ⟨F,ρ,τ,fp,I,h⟩=>by
 refine⟨F,ρ,τ,fp,I,h.split.mono fun r1 h1 F1 H1 fp1 vs I1 n1 f1=>?_⟩
 rw[Jd ok] at I1
 obtain⟨ds,eg,h2⟩:=h1.split.of
 by_cases hi:D.QL ds=true
 ·rw[if_pos hi] at h2
  obtain⟨q,us,rfl,hs,r⟩:=Qe9 (f1.rd I1 ok) eg
  have hs':SqL X.K H1 q us\/SqT X.K H1 q us:=by
   rw[← hK]
   exact hs.imp (fun z=>(At.same z (JK I1.fh)).sql) fun z=>(At.same z (JK I1.fh)).sqt
  refine⟨q,us,rfl,hs',fun l hl=>?_⟩
  exact h2 _ _ _ _ (I1.newList hl (I1.loL r hi) hi) ((n1.trans (q:=true) ⟨Qn.refl _,fun _=>V6 I1 hl⟩).weak fun z=>by simp[z]) z59
 ·rw[if_neg hi] at h2;exact h2.elim
def Qfb (mr:MA):ME:=fun ρ=>(mr ρ).bind fun r=>(Rs.of (QdX r.1)).bind fun ds=>.ok (.tup ds,r.2)
theorem Qdf {px:Pos}(hm:X.mg "tuple" = none)(hK:C.K=X.K)(ha:PA X [e] (tA ks C p E mr))(ok:knL ks=true:=by rfl)(hgl:Gl X "tuple" := by rfl)(he:starEach [e] X.env=(false,eval e X.env)::starEach [] X.env:=by rfl)(hpl:(backTo pos (starEach [] X.env)).any (·.1)=false:=by rfl) :
  PE X (.Call (.Name "tuple" px) [e] [] pos) (tX .V C p E (Qfb mr)):=Qo (VP QaI hgl hm boot_tuple ha (by decide) (by decide) he hpl) fun σ H Q ⟨F,ρ,τ,fp,I,h⟩=>by
 refine⟨F,ρ,τ,fp,I,h.split.mono fun r1 h1 F1 H1 fp1 vs I1 n1 f1=>?_⟩
 rw[Jd (VF ok)] at I1
 obtain⟨ds,eg,h2⟩:=h1.split.of
 obtain⟨q,us,rfl,hs,r⟩:=Qe9 (f1.kn ok) eg
 refine⟨q,us,rfl,?_⟩
 rcases hs with hs|hs
 ·refine .inl ⟨by rw[← hK];exact(At.same hs I1.fh).sql,fun l hl=>?_⟩
  have s:=Qn.upd (o:=HO.tup us) (I1.fh.free hl)
  exact h2 _ _ fp1 _ (I1.lay hl) ((n1.trans (q:=true) ⟨s,fun _=>QbQ I1 hl⟩).weak fun z=>by simp[z]) (.nd (t:=.tup) Ql (r.same s))
 ·exact .inr ⟨by rw[← hK];exact(At.same hs I1.fh).sqt,h2 F1 H1 fp1 _ I1 n1 (.nd (t:=.tup) hs r)⟩
def gIx:D->D->Option D
 |.nd .lst ds,.int i=>atI ds i
 |.nd .tup ds,.int i=>atI ds i
 |_,_=>none
theorem QhL {K:z02}{F:Hp}{vs:List L2.V}{ds:List D}{i:Int}{d:D}(r:RL K F vs ds)(h:atI ds i=some d):∃v,atI vs i=some v/\R K F v d:=by
 unfold atI at h ⊢
 rw[r.length]
 cases q:ixN ds.length i with
 |none=>rw[q] at h;cases h
 |some j=>
  rw[q] at h
  obtain⟨v,e,rv⟩:=r.get (i:=j) h
  exact⟨v,e,rv⟩
theorem Qlp {d e x:D}(h:gIx d e=some x):∃ds i,(d=.nd .lst ds\/d=.nd .tup ds)/\e=.int i/\atI ds i=some x:=by
 unfold gIx at h
 split at h
 ·exact⟨_,_,.inl rfl,rfl,h⟩
 ·exact⟨_,_,.inr rfl,rfl,h⟩
 ·cases h
theorem Qlq {K:z02}{F H:Hp}{v u:L2.V}{d e x:D}(hs:Qn F H)(r:R K F v d)(q:R K H u e)(g:gIx d e=some x):∃w,R K F w x/\∀Q:VK,Q w H->rIx K v u H Q:=by
 obtain⟨ds,i,hd,rfl,ha⟩:=Qlp g
 obtain rfl:u=.int i:=q.Qv rfl
 rcases hd with rfl|rfl
 ·obtain⟨a,vs,rfl,h1,h2⟩:=r.inv
  obtain⟨w,ew,rw'⟩:=QhL h2 ha
  exact⟨w,rw',fun Q hq=>.inl ⟨a,vs,i,w,rfl,rfl,(At.same h1 hs).sql,ew,hq⟩⟩
 ·obtain⟨a,vs,rfl,h1,h2⟩:=r.inv
  obtain⟨w,ew,rw'⟩:=QhL h2 ha
  exact⟨w,rw',fun Q hq=>.inr (.inl ⟨a,vs,i,w,rfl,rfl,(At.same h1 hs).sqt,ew,hq⟩)⟩
theorem QbS (hK:C.K=X.K)(ha:PE X a (tX ka C pa E ma))(hb:PE X b (tX kb C pb E mb))(ok:ka.on pb=true:=by rfl)(ok2:kb.on true=true:=by rfl)(hs:Qcn b:=by intro _ _;rfl):PE X (.Subscript a b pos) (tX .B C (pa && pb) E (mOp gIx ma mb)):=Qo (QkL Qhx ha hb hs) fun σ H Q ⟨F,ρ,τ,fp,I,h⟩=>by
 refine⟨F,ρ,τ,fp,I,h.split.mono fun r1 h1 F1 H1 fp1 v1 I1 n1 f1=>?_⟩
 rw[Kd.JL ok] at I1
 refine⟨F1,r1.2,τ,fp1,I1,h1.split.mono fun r2 h2 F2 H2 fp2 v2 I2 n2 f2=>?_⟩
 rw[Kd.JL ok2] at I2
 obtain⟨z,ez,h3⟩:=h2.of
 obtain⟨res,eg,rfl⟩:=z05.mp ez
 obtain⟨w,rw',hw⟩:=Qlq (JK I2.fh) (Kd.stay ok f1 n2 I2) (R.top I2 (Kd.stay ok2 f2 .refl I2)) eg
 rw[← hK]
 exact hw _ (h3 F2 H2 fp2 w I2 (n1.trans n2) rw')
theorem QiY (hK:C.K=X.K)(ha:PE X a (tX .V C pa E ma))(hb:PE X b (tX kb C pb E mb))(ok2:kb.on true=true:=by rfl)(hs:Qcn b:=by intro _ _;rfl):PE X (.Subscript a b pos) (tX .V C (pa && pb) E (mOp gIx ma mb)):=Qo (QkL Qhx ha hb hs) fun σ H Q ⟨F,ρ,τ,fp,I,h⟩=>by
 refine⟨F,ρ,τ,fp,I,h.split.mono fun r1 h1 F1 H1 fp1 v1 I1 n1 f1=>?_⟩
 refine⟨F1,r1.2,τ,fp1,I1,h1.split.mono fun r2 h2 F2 H2 fp2 v2 I2 n2 f2=>?_⟩
 rw[Kd.JL ok2] at I2
 obtain⟨z,ez,h3⟩:=h2.of
 obtain⟨res,eg,rfl⟩:=z05.mp ez
 obtain⟨w,rw',hw⟩:=Qlq I2.fh (R.same n2.f f1) (R.top I2 (Kd.stay ok2 f2 .refl I2)) eg
 rw[← hK]
 exact hw _ (h3 F2 H2 fp2 w I2 (n1.trans n2) rw')
end
inductive Fl where
 |nx|rt (d:D)|bk|ct
abbrev MS:=Rho->Rs (Fl×Rho)
def Qb9 (C:Cn)(E:XE){α:Type}(r:Rs α)(k:α->Prop):Prop:=match r with
 |.ok a=>k a
 |.ex c ρ=>∀F H σ fp,SI C F H σ ρ [] fp->EX (E σ) c H
 |.no=>False
section
variable {C:Cn}{E:XE}{σ:L2.St}{α β:Type}
theorem Qb9.run {r:Rs α}{k:α->Prop}(h:Qb9 C E r k):Run C E σ r k:=by
 cases r with
 |ok a=>exact h
 |ex c ρ=>exact fun F H fp I=>h F H σ fp I
 |no=>exact h
theorem Qb9.mono {r:Rs α}{k k':α->Prop}(h:Qb9 C E r k)(f:∀a,k a->k' a):Qb9 C E r k':=by
 cases r with
 |ok a=>exact f a h
 |ex c ρ=>exact h
 |no=>exact h
theorem Qb9.split {r:Rs α}{f:α->Rs β}{k:β->Prop}(h:Qb9 C E (r.bind f) k):Qb9 C E r fun a=>Qb9 C E (f a) k:=by
 cases r with
 |ok a=>exact h
 |ex c ρ=>exact h
 |no=>exact h
theorem Qb9.of {o:Option α}{k:α->Prop}(h:Qb9 C E (Rs.of o) k):∃a,o=some a/\k a:=by
 cases o with
 |none=>exact h.elim
 |some a=>exact⟨a,rfl,h⟩
end
def Out (rk:Kd)(C:Cn)(D:Ends)(F0:Hp)(f:Fl)(ρ:Rho):Prop:=match f with
 |.nx=>∀F H σ fp,Qn F0 F->SI C F H σ ρ [] fp->D.nx σ H
 |.rt d=>∀F H σ fp v,Qn F0 F->SI C F H σ ρ (rk.tk v d []) fp->rk.fc C F H fp σ v d->D.rt v H
 |.bk=>∀F H σ fp,Qn F0 F->SI C F H σ ρ [] fp->D.bk σ H
 |.ct=>∀F H σ fp,Qn F0 F->SI C F H σ ρ [] fp->D.ct σ H
theorem Out.mono {rk:Kd}{C:Cn}{D:Ends}{F0 F1:Hp}{f:Fl}{ρ:Rho}(s:Qn F0 F1)(h:Out rk C D F0 f ρ):Out rk C D F1 f ρ:=by
 cases f with
 |nx=>exact fun F H σ fp z=>h F H σ fp (s.trans z)
 |rt d=>exact fun F H σ fp v z=>h F H σ fp v (s.trans z)
 |bk=>exact fun F H σ fp z=>h F H σ fp (s.trans z)
 |ct=>exact fun F H σ fp z=>h F H σ fp (s.trans z)
def tS (rk:Kd)(C:Cn)(E:XE)(m:MS):TS:=fun D σ H=>∃F ρ fp,SI C F H σ ρ [] fp/\Qb9 C E (m ρ) fun r=>Out rk C D F r.1 r.2
section
variable {X:Cx}{C:Cn}{E:XE}{p:Bool}{e a b:Expr}{es:List Expr}{m mb:ME}{mr:MA}{mt:MT}{ms mu:MS}{pos:Pos}{k rk:Kd}{ks:List Kd}{st:Stmt}{rest:List Stmt}
def QiZ:MS:=fun ρ=>.ok (.nx,ρ)
def Qi0 (m u:MS):MS:=fun ρ=>(m ρ).bind fun r=>match r.1 with
 |.nx=>u r.2
 |f=>.ok (f,r.2)
theorem Qao:PSs X [] (tS rk C E QiZ):=QaU Qia fun D σ H ⟨F,ρ,fp,I,h⟩=>h F H σ fp (Qn.refl F) I
theorem Qk (h1:PS X st (tS rk C E ms))(h2:PSs X rest (tS rk C E mu)):PSs X (st::rest) (tS rk C E (Qi0 ms mu)):=QaU (QaF h1 h2) fun D σ H ⟨F,ρ,fp,I,h⟩=>by
 refine⟨F,ρ,fp,I,h.split.mono fun r hr=>?_⟩
 obtain⟨f,ρ1⟩:=r
 cases f with
 |nx=>exact fun F1 H1 σ1 fp1 s1 I1=>⟨F1,ρ1,fp1,I1,hr.mono fun q z=>z.mono s1⟩
 |rt d=>exact hr
 |bk=>exact hr
 |ct=>exact hr
theorem QH (h1:PS X st (tS rk C E ms)):PSs X [st] (tS rk C E ms):=Qen h1
def Qnp (m:ME):MS:=fun ρ=>(m ρ).bind fun r=>.ok (.rt r.1,r.2)
theorem JW (h:PE X e (tX rk C p E m)):PS X (.Return (some e) pos) (tS rk C E (Qnp m)):=QQ (Qkr h) fun D σ H ⟨F,ρ,fp,I,h⟩=>
 ⟨F,ρ,[],fp,I,h.split.run.mono fun r hr F1 H1 fp1 v I1 n1 f1=>hr F1 H1 σ fp1 v n1.f I1 f1⟩
def Qoa (m:ME):MS:=fun ρ=>(m ρ).bind fun r=>.ok (.nx,r.2)
def mIf (mt:MT)(m u:MS):MS:=fun ρ=>(mt ρ).bind fun r=>if r.1=true then m r.2 else u r.2
theorem Qgo {c:Expr}{sa sb:List Stmt}(hc:PT X c (tT C p E mt))(ha:PSs X sa (tS rk C E ms))(hb:PSs X sb (tS rk C E mu)):PS X (.If c sa sb pos) (tS rk C E (mIf mt ms mu)):=QQ (QnE hc ha hb) fun D σ H ⟨F,ρ,fp,I,h⟩=>
 ⟨F,ρ,[],fp,I,h.split.run.mono fun r hr F1 H1 fp1 I1 n1=>by
  by_cases cc:r.1=true
  ·rw[if_pos cc] at hr ⊢;exact⟨F1,r.2,fp1,I1,hr.mono fun q z=>z.mono n1.f⟩
  ·rw[if_neg cc] at hr ⊢;exact⟨F1,r.2,fp1,I1,hr.mono fun q z=>z.mono n1.f⟩⟩
noncomputable def YC (ρ:Rho)(i:Nat)(d:D):Option Rho:=match ρ[i]? with
 |some (some (.par _))=>none
 |some _=>some (ρ.set i (some (.frz d)))
 |none=>none
noncomputable def Qgp (ρ:Rho)(i:Nat)(d:D):Option Rho:=match ρ[i]? with
 |some (some (.par _))=>none
 |some _=>some (ρ.set i (some (.own d)))
 |none=>none
theorem SI.YC {F H:Hp}{σ:L2.St}{ρ ρ':Rho}{τ:List (L2.V×D)}{fp:List Addr}{i:Nat}{v:L2.V}{d:D}(I:SI C F H σ ρ τ fp)(r:R C.K F v d)(h:YC ρ i d=some ρ'):∃fp',SI C F H (σ.set i (some v)) ρ' τ fp'/\∀a∈fp',a∈fp:=by
 unfold TL.YC at h
 cases es:ρ[i]? with
 |none=>rw[es] at h;cases h
 |some s=>
  rw[es] at h
  obtain⟨x,f0,g0,rest,ex,s1,pm,w0,w1,cl⟩:=I.cut es
  have nd:=pm.nodup_iff.mp I.nd
  have fin:(∀v',(i,v')∈C.QdW->False)->∃fp',SI C F H (σ.set i (some v)) (ρ.set i (some (.frz d))) τ fp'/\∀a∈fp',a∈fp:=fun np=>
   ⟨_,cl (x':=some v) (s':=some (.frz d)) (f0':=[]) (g0':=[]) (Qn.refl F) I.fh (fun _ _=>rfl) (fun _ z=>z) (fun _ _ _ _ z=>z) (fun _ _ z=>.inl z) (.frz r) (z07.mp (z07.mp nd).2.1).2.1 (fun a ha=>I.ap a (pm.mem_iff.mpr (by simp at ha;simp[ha]))) (fun _ z=>nomatch z) (fun _ z=>nomatch z) (fun v' hv=>(np v' hv).elim),fun a ha=>pm.mem_iff.mpr (by simp at ha;simp[ha])⟩
  have np:∀(s0:Option Sl),s=s0->(∀q,s0≠some (.par q))->∀v',(i,v')∈C.QdW->False:=fun s0 e0 n0 v' hv=>by
   obtain⟨_,q,z⟩:=I.pr _ _ hv
   rw[es] at z
   cases z
   exact n0 q e0.symm
  cases s with
  |none=>cases h;exact fin (np none rfl fun q z=>nomatch z)
  |some s=>
   cases s with
   |frz d0=>cases h;exact fin (np _ rfl fun q z=>by cases z)
   |own d0=>cases h;exact fin (np _ rfl fun q z=>by cases z)
   |par d0=>cases h
theorem SI.Qgp {F H:Hp}{σ:L2.St}{ρ ρ':Rho}{τ:List (L2.V×D)}{fp:List Addr}{i:Nat}{v:L2.V}{d:D}(I:SI C F H σ ρ ((v,d)::τ) fp)(h:Qgp ρ i d=some ρ'):∃fp',SI C F H (σ.set i (some v)) ρ' τ fp':=by
 obtain⟨f,QdY,o,pm0,J,h0,ap,nd0⟩:=I.pop
 unfold TL.Qgp at h
 cases es:ρ[i]? with
 |none=>rw[es] at h;cases h
 |some s=>
  rw[es] at h
  obtain⟨x,f0,g0,rest,ex,s1,pm,w0,w1,cl⟩:=J.cut es
  have nd:=pm.nodup_iff.mp J.nd
  have ndr:=(z07.mp (z07.mp nd).2.1).2.1
  have inr:∀a∈rest,a∈QdY:=fun a ha=>pm.mem_iff.mpr (by simp[ha])
  have fin:(∀v',(i,v')∈C.QdW->False)->∃fp',SI C F H (σ.set i (some v)) (ρ.set i (some (.own d))) τ fp':=fun np=>
   ⟨_,cl (x':=some v) (s':=some (.own d)) (f0':=f) (g0':=[]) (Qn.refl F) J.fh (fun _ _=>rfl) (fun _ z=>z) (fun _ _ _ _ z=>z) (fun _ _ z=>.inl z) (.own o) (z07.mpr ⟨(z07.mp nd0).1,ndr,fun a ha b hb z=>(z07.mp nd0).2.2 a ha b (inr b hb) z⟩) (fun a ha=>by
    rcases z04.mp ha with z|z
    ·exact ap a z
    ·exact J.ap a (inr a z)) h0 (fun _ z=>nomatch z) (fun v' hv=>(np v' hv).elim)⟩
  have np:∀(s0:Option Sl),s=s0->(∀q,s0≠some (.par q))->∀v',(i,v')∈C.QdW->False:=fun s0 e0 n0 v' hv=>by
   obtain⟨_,q,z⟩:=I.pr _ _ hv
   rw[es] at z
   cases z
   exact n0 q e0.symm
  cases s with
  |none=>cases h;exact fin (np none rfl fun q z=>nomatch z)
  |some s=>
   cases s with
   |frz d0=>cases h;exact fin (np _ rfl fun q z=>by cases z)
   |own d0=>cases h;exact fin (np _ rfl fun q z=>by cases z)
   |par d0=>cases h
def QdZ (i:Nat)(m:ME):MS:=fun ρ=>(m ρ).bind fun r=>(Rs.of (YC r.2 i r.1)).bind fun ρ'=>.ok (.nx,ρ')
def Qfc (i:Nat)(m:ME):MS:=fun ρ=>(m ρ).bind fun r=>(Rs.of (Qgp r.2 i r.1)).bind fun ρ'=>.ok (.nx,ρ')
theorem Qfd {i:Nat}{D:Ends}{σ:L2.St}{H:Hp}(h:tS rk C E (QdZ i m) D σ H):Qks (tX .V C p E m) (VL i) D σ H:=by
 obtain⟨F,ρ,fp,I,h⟩:=h
 refine⟨F,ρ,[],fp,I,h.split.run.mono fun r hr F1 H1 fp1 v I1 n1 f1=>?_⟩
 obtain⟨ρ',e,h2⟩:=hr.split.of
 obtain⟨fp',J,_⟩:=SI.YC I1 f1 e
 exact h2 F1 H1 _ fp' n1.f J
theorem Qi1 {i:Nat}{D:Ends}{σ:L2.St}{H:Hp}(h:tS rk C E (Qfc i m) D σ H):Qks (tX .O C p E m) (VL i) D σ H:=by
 obtain⟨F,ρ,fp,I,h⟩:=h
 refine⟨F,ρ,[],fp,I,h.split.run.mono fun r hr F1 H1 fp1 v I1 n1 f1=>?_⟩
 obtain⟨ρ',e,h2⟩:=hr.split.of
 obtain⟨fp',J⟩:=SI.Qgp (τ:=[]) I1 e
 exact h2 F1 H1 _ fp' n1.f J
theorem QT {i:Nat}{x:Str}{pos':Pos}(hN:X.N.Nodup)(hi:X.N[i]? = some x)(hx:Loc X.env.scope x)(he:PE X e (tX .V C p E m))(hs:swapsWith e (some (.Name x pos')) pos.line X.env=pure false:=by rfl)(hf:X.fn x=true\/X.env.scope.names.lookup x=some .local:=by first|exact .inl rfl|exact .inr rfl|assumption) :
  PS X (.Assign [.Name x pos'] e pos) (tS rk C E (QdZ i m)):=QQ (Qhu hN hi hx he hs hf) fun _ _ _ h=>Qfd h
theorem Je {i:Nat}{x:Str}{pos':Pos}(hN:X.N.Nodup)(hi:X.N[i]? = some x)(hx:Loc X.env.scope x)(he:PE X e (tX .O C p E m))(hs:swapsWith e (some (.Name x pos')) pos.line X.env=pure false:=by rfl)(hf:X.fn x=true\/X.env.scope.names.lookup x=some .local:=by first|exact .inl rfl|exact .inr rfl|assumption) :
  PS X (.Assign [.Name x pos'] e pos) (tS rk C E (Qfc i m)):=QQ (Qhu hN hi hx he hs hf) fun _ _ _ h=>Qi1 h
def GD (C:Cn)(g:TG)(tg:D->Rho->Option Rho):Prop:=∀F H σ ρ τ fp x d ρ',SI C F H σ ρ τ fp->R C.K F x d->tg d ρ=some ρ'->∀Q:L2.St->Hp->Prop,(∀σ' fp',SI C F H σ' ρ' τ fp'->(∀a∈fp',a∈fp)->Q σ' H)->g x σ H Q
theorem Jt {i:Nat}:GD C (VL i) (fun d ρ=>YC ρ i d):=fun F H σ ρ τ fp x d ρ' I r h Q hq=>by
 obtain⟨fp',J,s⟩:=SI.YC I r h
 exact hq _ fp' J s
def Qob (i j:Nat)(d:D)(ρ:Rho):Option Rho:=match d with
 |.nd .tup [x,y]=>(YC ρ i x).bind fun ρ1=>YC ρ1 j y
 |_=>none
theorem Qi2 {i j:Nat}(hK:C.K=X.K):GD C (QnH X.K 2 (Qeo (VL i) (Qeo (VL j) QnG))) (Qob i j):=fun F H σ ρ τ fp v d ρ' I r h Q hq=>by
 unfold Qob at h
 split at h
 ·next x y=>
  obtain⟨a,vs,rfl,h1,h2⟩:=r.inv
  obtain⟨v1,v2,rfl,r1,r2⟩:=h2.two
  obtain⟨ρ1,e1,e2⟩:=z28.mp h
  obtain⟨fp1,J1,s1⟩:=SI.YC I r1 e1
  obtain⟨fp2,J2,s2⟩:=SI.YC J1 r2 e2
  refine⟨a,[v1,v2],rfl,by rw[← hK];exact(At.same h1 I.fh).sqt,rfl,v1,[v2],rfl,v2,[],rfl,rfl,?_⟩
  exact hq _ fp2 J2 (fun b hb=>s1 b (s2 b hb))
 ·cases h
structure ItD (K:z02)(F:Hp)(ds:List D)(J:It):Prop where
 go:∀{C:Cn} {F' H:Hp} {σ:L2.St} {ρ:Rho} {τ:List (L2.V×D)} {fp:List Addr} {i:Nat} {d:D},C.K=K->SI C F' H σ ρ τ fp->Qn F F'->ds[i]? = some d->J.go i H/\∀x H',J.yld i H x H'->∃F'',SI C F'' H' σ ρ τ fp/\Nx true F' H fp F'' H' fp/\R K F'' x d
 stop:∀{C:Cn} {F' H:Hp} {σ:L2.St} {ρ:Rho} {τ:List (L2.V×D)} {fp:List Addr},C.K=K->SI C F' H σ ρ τ fp->Qn F F'->J.stop ds.length H
def tI (C:Cn)(p:Bool)(E:XE)(mi:MA):TI:=fun σ H R=>∃F ρ τ fp,SI C F H σ ρ τ fp/\Run C E σ (mi ρ) fun r=>∀F' H' fp' J,SI C F' H' σ r.2 τ fp'->Nx p F H fp F' H' fp'->ItD C.K F' r.1 J->R J H'
theorem QcB {tg iter:Expr}{t t':TI}(h:PI X tg iter t)(k:∀σ H R,t' σ H R->t σ H R):PI X tg iter t':=fun pins s σ H R I q=>h pins s σ H R I (k _ _ _ q)
theorem Qfe {K:z02}{F:Hp}{a:Addr}{kd:Bool}{vs:List L2.V}{ds:List D}(h:At K F a (if kd then .lst else .tup) vs)(r:RL K F vs ds):ItD K F ds (Itb kd K a):=by
 have up:∀{F' H:Hp},Qn F F'->Qn F' H->SqB kd K H a vs:=fun s1 s2=>by
  cases kd with
  |true=>exact(At.same (t:=.lst) h (s1.trans s2)).sql
  |false=>exact(At.same (t:=.tup) h (s1.trans s2)).sqt
 refine⟨fun{C F' H σ ρ τ fp i d} hk I s e=>?_,fun{C F' H σ ρ τ fp} hk I s=>?_⟩
 ·obtain⟨v,ev,rv⟩:=r.get e
  have q:=up s I.fh
  cases kd with
  |true=>exact⟨⟨vs,v,q,ev⟩,fun x H' ⟨e1,y⟩=>by
    subst e1
    have z:=y vs q
    rw[ev] at z;cases z
    exact⟨F',I,.refl,rv.same s⟩⟩
  |false=>exact⟨⟨vs,v,q,ev⟩,fun x H' ⟨e1,y⟩=>by
    subst e1
    have z:=y vs q
    rw[ev] at z;cases z
    exact⟨F',I,.refl,rv.same s⟩⟩
 ·have q:=up s I.fh
  have l:=r.length
  cases kd with
  |true=>exact⟨vs,q,by omega⟩
  |false=>exact⟨vs,q,by omega⟩
def QaV (m:ME):MA:=fun ρ=>(m ρ).bind fun r=>(Rs.of (QdX [r.1])).bind fun ds=>.ok (ds,r.2)
theorem Vp {tg l:Expr}(hK:C.K=X.K)(hl:PE X l (tX .V C p E m)):PI X tg l (tI C p E (QaV m)):=QcB (Qhz hl) fun σ H RR ⟨F,ρ,τ,fp,I,h⟩=>by
 refine⟨F,ρ,τ,fp,I,h.split.mono fun r hr F1 H1 fp1 v I1 n1 f1=>?_⟩
 obtain⟨ds,eg,h2⟩:=hr.split.of
 obtain⟨q,us,eq,hs,rl⟩:=Qe9 (.cons f1 .nil) eg
 cases eq
 rcases hs with hs|hs
 ·refine⟨q,true,rfl,⟨us,by rw[← hK];exact(At.same hs I1.fh).sql⟩,h2 F1 H1 fp1 _ I1 n1 ?_⟩
  rw[← hK]
  exact Qfe (kd:=true) hs rl
 ·refine⟨q,false,rfl,⟨us,by rw[← hK];exact(At.same hs I1.fh).sqt⟩,h2 F1 H1 fp1 _ I1 n1 ?_⟩
  rw[← hK]
  exact Qfe (kd:=false) hs rl
noncomputable def QcC:List D->Option Int
 | [.int i]=>if -(2 ^ 62)<=i/\i<2 ^ 62 then some i else none
 |_=>none
def QgZ (mr:MA):MA:=fun ρ=>(mr ρ).bind fun r=>(Rs.of (QcC r.1)).bind fun n=>.ok ((z47 n.toNat).map fun j=>.int ((0:Int)+(j:Nat)),r.2)
theorem Qi3 {K:z02}{F:Hp}{lo:Int}{n:Nat}:ItD K F ((z47 n).map fun j=>.int (lo+(j:Nat))) (Itr lo n):=by
 refine⟨fun{C F' H σ ρ τ fp i d} hk I s e=>?_,fun{C F' H σ ρ τ fp} hk I s=>?_⟩
 ·rw[z31] at e
  obtain⟨j,ej,rfl⟩:=z05.mp e
  have hj:i<n/\j=i:=by
   rw[z17] at ej
   obtain⟨h1,h2⟩:=ej
   rw[zi6] at h2
   rw[z70] at h1
   exact⟨h1,h2.symm⟩
  refine⟨hj.1,fun x H' hz=>?_⟩
  obtain⟨e1,e2⟩:=hz
  subst e1 e2
  rw[hj.2]
  exact⟨F',I,.refl,.sc rfl⟩
 ·show n<=_
  rw[z14,z70]
  exact z18 _
theorem QcD {tg e:Expr}{px:Pos}(hm:X.mg "range" = none)(ha:PA X [e] (tA ks C p E mr))(ok:rdL ks=true:=by rfl)(hg:Gl X "range" := by rfl)(hs:starEach [e] X.env=[(false,eval e X.env)]:=by rfl):PI X tg (.Call (.Name "range" px) [e] [] pos) (tI C p E (QgZ mr)):=QcB (Qes hg hm ha hs) fun σ H RR ⟨F,ρ,τ,fp,I,h⟩=>by
 refine⟨F,ρ,τ,fp,I,h.split.mono fun r hr F1 H1 fp1 vs I1 n1 f1=>?_⟩
 rw[Jd ok] at I1
 obtain⟨n,eg,h2⟩:=hr.split.of
 have rl:=f1.rd I1 ok
 unfold QcC at eg
 split at eg
 ·next i ed=>
  rw[ed] at rl
  obtain⟨v,rfl,rv⟩:=rl.one
  obtain rfl:=rv.Qv (w:=.int i) rfl
  by_cases c : -(2 ^ 62)<=i/\i<2 ^ 62
  ·rw[if_pos c] at eg;cases eg
   exact⟨n,rfl,c.1,c.2,h2 F1 H1 fp1 _ I1 n1 Qi3⟩
  ·rw[if_neg c] at eg;cases eg
 ·cases eg
def forL (tg:D->Rho->Option Rho)(mb:MS):List D->MS
 | []=>fun ρ=>.ok (.nx,ρ)
 |d::ds=>fun ρ=>(Rs.of (tg d ρ)).bind fun ρ1=>(mb ρ1).bind fun r=>match r.1 with
  |.nx=>forL tg mb ds r.2
  |.ct=>forL tg mb ds r.2
  |.bk=>.ok (.nx,r.2)
  |.rt d=>.ok (.rt d,r.2)
def Qnq (mi:MA)(tg:D->Rho->Option Rho)(mb:MS):MS:=fun ρ=>(mi ρ).bind fun r=>forL tg mb r.1 r.2
theorem QaW {tg iter:Expr}{body:List Stmt}{mi:MA}{g:TG}{tgd:D->Rho->Option Rho}(hp:PassesOwn (model X.prog X.w) X.A X.env X.xe)(hc:X.calm=true)(hi:PI X tg iter (tI C p E mi))(hg:PG X tg g)(gd:GD C g tgd)(hb:PSs X body (tS rk C E ms))
  (hs:∀x,foldedSetIterable iter X.env x=pure x:=by intro _;rfl):PS X (.For tg iter body [] pos) (tS rk C E (Qnq mi tgd ms)):=QQ (Qhv hp hc hi hg hb hs) fun D σ H ⟨F,ρ,fp,I,h⟩=>by
 refine⟨F,ρ,[],fp,I,h.split.run.mono fun r hr F1 H1 fp1 J I1 n1 it=>?_⟩
 refine⟨fun i m σ' H'=>m=r.1.length - i/\i<=r.1.length/\∃F' ρ' fp',SI C F' H' σ' ρ' [] fp'/\Qn F1 F'/\Qb9 C E (forL tgd ms (r.1.drop i) ρ') fun q=>Out rk C D F q.1 q.2,⟨r.1.length,by simp,z49 _,F1,r.2,fp1,I1,Qn.refl _,by rw[zm1];exact hr⟩,?_⟩
 rintro i mm σ2 H2 ⟨rfl,hi2,F2,ρ2,fp2,I2,s2,k2⟩
 by_cases hlt:i<r.1.length
 ·obtain⟨d,ed⟩:∃d,r.1[i]? = some d:=⟨r.1[i],z03 hlt⟩
  obtain⟨g1,g2⟩:=it.go rfl I2 s2 ed
  have edr:r.1.drop i=d::r.1.drop (i+1):=by
   rw[z93 hlt]
   have:r.1[i]=d:=by rw[z03 hlt] at ed;exact z27 ed
   rw[this]
  rw[edr] at k2
  obtain⟨ρ3,e3,k3⟩:=k2.split.of
  refine .inr ⟨g1,fun σ' H'=>∃F' ρ' fp',SI C F' H' σ' ρ' [] fp'/\Qn F1 F'/\Qb9 C E (forL tgd ms (r.1.drop (i+1)) ρ') fun q=>Out rk C D F q.1 q.2,fun σ' H' z=>⟨_,by omega,rfl,hlt,z⟩,fun x H' y=>?_⟩
  obtain⟨F3,I3,n3,r3⟩:=g2 x H' y
  have s3:Qn F1 F3:=s2.trans n3.f
  refine gd F3 H' σ2 ρ2 [] fp2 x d ρ3 I3 r3 e3 _ fun σ' fp' I4 _=>⟨F3,ρ3,fp',I4,k3.split.mono fun q hq=>?_⟩
  obtain⟨f,ρ4⟩:=q
  have sF:Qn F F3:=n1.f.trans s3
  cases f with
  |nx=>exact fun F5 H5 σ5 fp5 s5 I5=>⟨F5,ρ4,fp5,I5,s3.trans s5,hq⟩
  |ct=>exact fun F5 H5 σ5 fp5 s5 I5=>⟨F5,ρ4,fp5,I5,s3.trans s5,hq⟩
  |bk=>exact fun F5 H5 σ5 fp5 s5 I5=>hq F5 H5 σ5 fp5 (sF.trans s5) I5
  |rt d=>exact fun F5 H5 σ5 fp5 v s5 I5 f5=>hq F5 H5 σ5 fp5 v (sF.trans s5) I5 f5
 ·have e:i=r.1.length:=by omega
  subst e
  rw[zq3] at k2
  exact .inl ⟨it.stop rfl I2 s2,k2 F2 H2 σ2 fp2 (n1.f.trans s2) I2⟩
def whl (mt:MT)(mb:MS):Nat->MS
 |0=>fun _=>.no
 |n+1=>fun ρ=>(mt ρ).bind fun r=>if r.1=true then(mb r.2).bind fun q=>match q.1 with
   |.nx=>whl mt mb n q.2
   |.ct=>whl mt mb n q.2
   |.bk=>.ok (.nx,q.2)
   |.rt d=>.ok (.rt d,q.2)
  else .ok (.nx,r.2)
def QhM (n:Nat)(mt:MT)(mb:MS):MS:=whl mt mb n
theorem Qff {c:Expr}{body:List Stmt}{n:Nat}(hp:PassesOwn (model X.prog X.w) X.A X.env X.xe)(hc:PT X c (tT C p E mt))(hb:PSs X body (tS rk C E ms)):PS X (.While c body [] pos) (tS rk C E (QhM n mt ms)):=QQ (Qgx hp hc hb) fun D σ H ⟨F,ρ,fp,I,h⟩=>by
 refine⟨fun n σ' H'=>∃F' ρ' fp',SI C F' H' σ' ρ' [] fp'/\Qn F F'/\Qb9 C E (whl mt ms n ρ') fun q=>Out rk C D F q.1 q.2,⟨n,F,ρ,fp,I,Qn.refl F,h⟩,?_⟩
 rintro n σ2 H2 ⟨F2,ρ2,fp2,I2,s2,k2⟩
 cases n with
 |zero=>exact k2.elim
 |succ n=>
  refine⟨F2,ρ2,[],fp2,I2,k2.split.run.mono fun r hr F3 H3 fp3 I3 n3=>?_⟩
  by_cases cc:r.1=true
  ·rw[if_pos cc] at hr ⊢
   refine⟨fun σ' H'=>∃F' ρ' fp',SI C F' H' σ' ρ' [] fp'/\Qn F F'/\Qb9 C E (whl mt ms n ρ') fun q=>Out rk C D F q.1 q.2,fun σ' H' z=>⟨n,za9 n,z⟩,F3,r.2,fp3,I3,hr.split.mono fun q hq=>?_⟩
   obtain⟨f,ρ4⟩:=q
   have sF:Qn F F3:=s2.trans n3.f
   cases f with
   |nx=>exact fun F5 H5 σ5 fp5 s5 I5=>⟨F5,ρ4,fp5,I5,sF.trans s5,hq⟩
   |ct=>exact fun F5 H5 σ5 fp5 s5 I5=>⟨F5,ρ4,fp5,I5,sF.trans s5,hq⟩
   |bk=>exact fun F5 H5 σ5 fp5 s5 I5=>hq F5 H5 σ5 fp5 (sF.trans s5) I5
   |rt d=>exact fun F5 H5 σ5 fp5 v s5 I5 f5=>hq F5 H5 σ5 fp5 v (sF.trans s5) I5 f5
  ·rw[if_neg cc] at hr ⊢
   exact hr F3 H3 σ2 fp3 (s2.trans n3.f) I3
end
noncomputable def mkS (par:Bool)(d:D):Sl:=if par then .par d else .own d
noncomputable def Yd (par:Bool)(ρ:Rho):List Nat->Option (List D)
 | []=>some []
 |i::is=>match ρ[i]? with
  |some (some (.own d))=>if par then none else(Yd par ρ is).map (d::·)
  |some (some (.par d))=>if par then(Yd par ρ is).map (d::·) else none
  |_=>none
noncomputable def JP (par:Bool)(ρ:Rho):List Nat->List D->Rho
 |i::is,d::ds=>(JP par ρ is ds).set i (some (mkS par d))
 |_,_=>ρ
theorem QbT {par:Bool}{ρ:Rho}{i:Nat}{is:List Nat}{ds:List D}(h:Yd par ρ (i::is)=some ds):∃d r,ds=d::r/\ρ[i]? = some (some (mkS par d))/\Yd par ρ is=some r:=by
 unfold Yd at h
 split at h
 ·next d e=>
  cases par with
  |true=>cases h
  |false=>
   obtain⟨r,hr,rfl⟩:=z05.mp h
   exact⟨d,r,rfl,e,hr⟩
 ·next d e=>
  cases par with
  |false=>cases h
  |true=>
   obtain⟨r,hr,rfl⟩:=z05.mp h
   exact⟨d,r,rfl,e,hr⟩
 ·cases h
theorem Qdg {par:Bool}{ρ:Rho}{i:Nat}{s:Option Sl}:∀{is:List Nat},i∉is->Yd par (ρ.set i s) is=Yd par ρ is
 | [],_=>rfl
 |j::is,h=>by
  have n:i≠j:=fun e=>h (e▸z12)
  unfold Yd
  rw[z57 n,Qdg fun z=>h (z09 _ z)]
theorem Qdh {par:Bool}{ρ:Rho}{i:Nat}{s:Option Sl}:∀{is:List Nat} {ds:List D},i∉is->JP par (ρ.set i s) is ds=(JP par ρ is ds).set i s
 | [],_,_=>by unfold JP;rfl
 |j::is,[],_=>by unfold JP;rfl
 |j::is,d::ds,h=>by
  have n:i≠j:=fun e=>h (e▸z12)
  unfold JP
  rw[Qdh fun z=>h (z09 _ z),List.set_comm _ _ (fun e=>n e)]
theorem Qdi {par:Bool}{ρ:Rho}{i:Nat}:∀{is:List Nat} {ds:List D},i∉is->(JP par ρ is ds)[i]? = ρ[i]?
 | [],_,_=>by unfold JP;rfl
 |j::is,[],_=>by unfold JP;rfl
 |j::is,d::ds,h=>by
  have n:j≠i:=fun e=>h (e▸z12)
  unfold JP
  rw[z57 n,Qdi fun z=>h (z09 _ z)]
theorem Qdj {par:Bool}{ρ:Rho}:∀{is:List Nat} {ds:List D},(JP par ρ is ds).length=ρ.length
 | [],_=>by unfold JP;rfl
 |j::is,[]=>by unfold JP;rfl
 |j::is,d::ds=>by unfold JP;rw[zg2,Qdj]
inductive Sig (σ:L2.St):List Nat->List L2.V->Prop
 |nil:Sig σ [] []
 |cons {i:Nat} {v:L2.V} {is:List Nat} {vs:List L2.V} (h:σ[i]? = some (some v)) (r:Sig σ is vs):Sig σ (i::is) (v::vs)
def Yg (C:Cn)(par:Bool)(a:Addr):Prop:=C.H₀ a=none\/(par=true/\a∈C.A)
section
variable {C:Cn}{F H:Hp}{σ:L2.St}{ρ:Rho}{τ:List (L2.V×D)}{fp:List Addr}{par:Bool}
theorem SI.Qoc (I:SI C F H σ ρ τ fp):SI { C with QdW:=[]} F H σ ρ τ fp:=⟨I.sl,I.nd,I.ap,I.fh,I.f0,I.fn,I.kp,I.dm,fun _ _ z=>nomatch z⟩
theorem SI.Qlr (hp:C.QdW=[]):∀{is:List Nat} {ρ:Rho} {fp:List Addr} {ds:List D},is.Nodup->SI C F H σ ρ τ fp->Yd par ρ is=some ds->∃vs f rest,Sig σ is vs/\OL C.K F H vs ds f/\fp.Perm (f++rest)/\(∀a∈f,Yg C par a)/\
  ∀{F' H':Hp} {f':List Addr} {ds':List D},Qn F F'->Qn F' H'->(∀a∈rest,H' a=H a)->(∀b,H' b=none->H b=none)->(∀b o,C.H₀ b=some o->b∉C.A->H b=some o->H' b=some o)->(∀b o,F' b=some o->F b=some o\/Nw C.H₀ b o)->
   OL C.K F' H' vs ds' f'->(f'++rest).Nodup->(∀a∈f'++rest,F' a=none)->(∀a∈f',Yg C par a)->SI C F' H' σ (JP par ρ is ds') τ (f'++rest)
 | [],ρ,fp,ds,_,I,h=>by
  cases h
  refine⟨[],[],fp,.nil,.nil,by simp,(fun _ z=>nomatch z),fun{F' H' f' ds'} sf fh hk dm kp fn ol nd ap fr=>?_⟩
  cases ol
  exact I.step sf fh hk (fun a ha=>ap a ha) fn kp dm
 |i::is,ρ,fp,ds,nd,I,h=>by
  obtain⟨ni,nd'⟩:=z53.mp nd
  obtain⟨d,r,rfl,es,hr⟩:=QbT h
  obtain⟨x,f0,g0,Qls,ex,s1,pm,w0,w1,cl⟩:=I.cut es
  have ndp:=pm.nodup_iff.mp I.nd
  have Qi4:∀v,(i,v)∈C.QdW->False:=fun v hv=>by rw[hp] at hv;exact nomatch hv
  obtain⟨v,fi,ev,hv,efi,wfi⟩:∃v fi,x=some v/\O C.K F H v d fi/\f0++g0=fi/\∀a∈fi,Yg C par a:=by
   cases par with
   |false=>cases s1 with|own h=>exact⟨_,_,rfl,h,by simp,fun a ha=>.inl (w0 a ha)⟩
   |true=>cases s1 with|par h=>exact⟨_,_,rfl,h,rfl,fun a ha=>(w1 a ha).elim (fun z=>.inr ⟨rfl,z⟩) fun z=>.inl z⟩
  subst ev
  have Qqm:Qls.Nodup:=(z07.mp (z07.mp ndp).2.1).2.1
  have I1:=cl (x':=some v) (s':=none) (f0':=[]) (g0':=[]) (Qn.refl F) I.fh (fun _ _=>rfl) (fun _ z=>z) (fun _ _ _ _ z=>z) (fun _ _ z=>.inl z) .non Qqm (fun a ha=>I.ap a (pm.mem_iff.mpr (by simp at ha;simp[ha]))) (fun _ z=>nomatch z) (fun _ z=>nomatch z) (fun v' hv'=>(Qi4 v' hv').elim)
  rw[QZ ex] at I1
  obtain⟨vs,f2,Qd0,sg,ol,pm2,w2,cl2⟩:=SI.Qlr hp nd' I1 (by rw[Qdg ni];exact hr)
  have Qqn:Qls.Perm (f2++Qd0):=pm2
  have pmf:fp.Perm ((fi++f2)++Qd0):=by
   refine pm.trans ?_
   rw[← z15,efi,z15]
   exact Qqn.append_left fi
  refine⟨v::vs,fi++f2,Qd0,.cons ex sg,.cons hv ol,pmf,fun a ha=>(z04.mp ha).elim (wfi a) (w2 a),fun{F' H' f' ds'} sf fh hk dm kp fn ol' nd2 ap fr=>?_⟩
  cases ol' with
  | @cons _ d' _ Qlt fa fb oa ob=>
   have nd3:(fa++(fb++Qd0)).Nodup:=by rw[← z15];exact nd2
   have I2:=cl2 sf fh hk dm kp fn ob (z07.mp nd3).2.1 (fun a ha=>ap a (by rw[z15];exact z01 _ ha)) (fun a ha=>fr a (z01 _ ha))
   have li:i<ρ.length:=(z17.mp es).1
   have en:(JP par (ρ.set i none) is Qlt)[i]? = some none:=by rw[Qdi ni,z64 li]
   obtain⟨x3,f3,g3,QdQ,ex3,s3,pm3,_,_,cl3⟩:=I2.cut en
   cases s3
   have Qod:(fb++Qd0).Perm QdQ:=pm3
   have nd4:(fa++QdQ).Nodup:=(Qod.append_left fa).nodup_iff.mp nd3
   have ap4:∀a∈fa++QdQ,F' a=none:=fun a ha=>ap a (by
    rw[z15]
    rcases z04.mp ha with z|z
    ·exact z08 _ z
    ·exact z01 _ (Qod.mem_iff.mpr z))
   have eρ:(JP par (ρ.set i none) is Qlt).set i (some (mkS par d'))=JP par ρ (i::is) (d'::Qlt):=by
    rw[Qdh ni,zp3]
    rfl
   have pmx:(fa++QdQ).Perm ((fa++fb)++Qd0):=by rw[z15];exact Qod.symm.append_left fa
   have fra:∀a∈fa,Yg C par a:=fun a ha=>fr a (z08 _ ha)
   rw[← eρ]
   cases par with
   |false=>
    have J:=cl3 (F':=F') (H':=H') (x':=some v) (s':=some (.own d')) (f0':=fa) (g0':=[]) (Qn.refl _) fh (fun _ _=>rfl) (fun _ z=>z) (fun _ _ _ _ z=>z) (fun _ _ z=>.inl z) (.own oa) nd4 ap4 (fun a ha=>(fra a ha).resolve_right fun z=>nomatch z.1) (fun _ z=>nomatch z) (fun v' hv'=>(Qi4 v' hv').elim)
    rw[QZ ex] at J
    exact J.perm pmx
   |true=>
    have J:=cl3 (F':=F') (H':=H') (x':=some v) (s':=some (.par d')) (f0':=[]) (g0':=fa) (Qn.refl _) fh (fun _ _=>rfl) (fun _ z=>z) (fun _ _ _ _ z=>z) (fun _ _ z=>.inl z) (.par oa) nd4 ap4 (fun _ z=>nomatch z) (fun a ha=>(fra a ha).elim (fun z=>.inr z) fun z=>.inl z.2) (fun v' hv'=>(Qi4 v' hv').elim)
    rw[QZ ex] at J
    exact J.perm pmx
theorem SI.lend {is:List Nat}{ds:List D}(nd:is.Nodup)(I:SI C F H σ ρ τ fp)(h:Yd par ρ is=some ds):∃vs f rest,Sig σ is vs/\OL C.K F H vs ds f/\fp.Perm (f++rest)/\(∀a∈f,Yg C par a)/\
  ∀{F' H':Hp} {f':List Addr} {ds':List D},Qn F F'->Qn F' H'->(∀a∈rest,H' a=H a)->(∀b,H' b=none->H b=none)->(∀b o,C.H₀ b=some o->b∉C.A->H b=some o->H' b=some o)->(∀b o,F' b=some o->F b=some o\/Nw C.H₀ b o)->
   OL C.K F' H' vs ds' f'->(f'++rest).Nodup->(∀a∈f'++rest,F' a=none)->(∀a∈f',Yg C par a)->SI C F' H' σ (JP par ρ is ds') τ (f'++rest):=by
 obtain⟨vs,f,rest,sg,ol,pm,w,cl⟩:=SI.Qlr (C:={ C with QdW:=[]}) rfl nd I.Qoc h
 refine⟨vs,f,rest,sg,ol,pm,w,fun{F' H' f' ds'} sf fh hk dm kp fn ol' nd2 ap fr=>?_⟩
 have J:=cl sf fh hk dm kp fn ol' nd2 ap fr
 refine⟨J.sl,J.nd,J.ap,J.fh,J.f0,J.fn,J.kp,J.dm,fun j v hj=>?_⟩
 obtain⟨p1,d,p2⟩:=I.pr j v hj
 refine⟨p1,?_⟩
 have len:ds'.length=is.length:=by
  have e1:vs.length=is.length:=by
   have:∀{is:List Nat} {vs:List L2.V},Sig σ is vs->vs.length=is.length:=by
    intro is vs s
    induction s with
    |nil=>rfl
    |cons _ _ ih=>rw[z25,z25,ih]
   exact this sg
  rw[← ol'.length,e1]
 have go:∀{is:List Nat} {ds ds':List D},is.Nodup->Yd par ρ is=some ds->ds'.length=is.length->∃d,(JP par ρ is ds')[j]? = some (some (.par d)):=by
  intro is
  induction is with
  |nil=>intro ds ds' _ _ _;unfold JP;exact⟨d,p2⟩
  |cons i is ih=>
   intro ds ds' nd h l
   obtain⟨ni,nd'⟩:=z53.mp nd
   obtain⟨d0,r,rfl,es,hr⟩:=QbT h
   cases ds' with
   |nil=>cases l
   |cons d' Qlt=>
    unfold JP
    by_cases e:i=j
    ·subst e
     have li:i<(JP par ρ is Qlt).length:=by rw[Qdj];exact(z17.mp es).1
     rw[z64 li]
     rw[p2] at es
     cases par with
     |false=>cases es
     |true=>exact⟨d',rfl⟩
    ·rw[z57 e]
     exact ih nd' hr (by simpa using l)
 exact go nd h len
end
inductive Fr where
 |ok (r:D) (outs:List D)
 |ex (c:Xc)
 |no
inductive AL (K:z02) (F H:Hp):List Bool->List L2.V->List D->List Addr->Prop
 |nil:AL K F H [] [] [] []
 |val {v:L2.V} {d:D} {io:List Bool} {vs:List L2.V} {ds:List D} {fp:List Addr} (h:R K F v d) (r:AL K F H io vs ds fp):AL K F H (false::io) (v::vs) (d::ds) fp
 |io {v:L2.V} {d:D} {io:List Bool} {vs:List L2.V} {ds:List D} {f fp:List Addr} (h:O K F H v d f) (r:AL K F H io vs ds fp):AL K F H (true::io) (v::vs) (d::ds) (f++fp)
def ioV:List Bool->List L2.V->List L2.V
 |true::io,v::vs=>v::ioV io vs
 |false::io,_::vs=>ioV io vs
 |_,_=>[]
def RkF (rk:Kd)(K:z02)(F H:Hp)(v:L2.V)(d:D)(f:List Addr):Prop:=match rk with
 |.V=>R K F v d/\f=[]
 |.O=>O K F H v d f
 |_=>False
def spF (K:z02)(io:List Bool)(rk:Kd)(m:List D->Fr):Sp:=fun vs H Q E=>∃F ds fp,AL K F H io vs ds fp/\fp.Nodup/\(∀a∈fp,F a=none)/\Qn F H/\match m ds with
 |.ok r outs=>∀F' H' v fr fo,Qn F F'->Qn F' H'->(∀b o,F' b=some o->F b=some o\/Nw H b o)->(∀b o,H b=some o->b∉fp->H' b=some o)->(∀b,H' b=none->H b=none)->RkF rk K F' H' v r fr->OL K F' H' (ioV io vs) outs fo->
   (fr++fo).Nodup->(∀a∈fr++fo,F' a=none)->(∀a∈fr,H a=none)->(∀a∈fo,a∈fp\/H a=none)->Q v H'
 |.ex c=>∀H',(∀b o,H b=some o->b∉fp->H' b=some o)->(∀b,H' b=none->H b=none)->EX E c H'
 |.no=>False
theorem AL.len {K:z02}{F H:Hp}{io:List Bool}{vs:List L2.V}{ds:List D}{fp:List Addr}(h:AL K F H io vs ds fp):vs.length=io.length:=by
 induction h with
 |nil=>rfl
 |val _ _ ih=>rw[z25,z25,ih]
 |io _ _ ih=>rw[z25,z25,ih]
def kdOf:Option Nat->Kd
 |none=>.V
 |some i=>.S i
noncomputable def Qfg:List (Option Nat)->List D->List D->List D
 |none::as,d::ds,l=>d::Qfg as ds l
 |some _::as,_::ds,x::l=>x::Qfg as ds l
 |_,_,_=>[]
def Jm (par:Bool)(as:List (Option Nat))(f:List D->Fr)(mr:MA):ME:=fun ρ=>(mr ρ).bind fun r=>(Rs.of (Yd par r.2 (as.filterMap id))).bind fun dis=>match f (Qfg as r.1 dis) with
 |.ok d outs=>.ok (d,JP par r.2 (as.filterMap id) outs)
 |.ex c=>if(as.filterMap id).isEmpty=true then .ex c r.2 else .no
 |.no=>.no
def Qfh (X:Cx)(E:XE):Prop:=∀(pins:List (Addr×Obj)) (σ:L2.St) (H:Hp) (s:Shared) (e:Value) (s':Shared),Inv X pins σ H s->CXe X.prog X.w X.stack H s (E σ) e s'->X.xe e s'
def Qfi (sp:Sp)(E:XE)(t:TA):TE:=fun σ H Q=>t σ H fun vs H1=>sp vs H1 Q (E σ)
section
variable {X:Cx}{C:Cn}{E:XE}{p pa:Bool}{e a b:Expr}{es:List Expr}{m:ME}{mr:MA}{pos:Pos}{rk:Kd}{ks:List Kd}{n:Nat}{ps:List Str}{sp:Sp}{x:Str}{px:Pos}{t:TA}
theorem Qi5 {f:Addr}{fd:FuncData}{pins:List (Addr×Obj)}{σ:L2.St}{H:Hp}{s:Shared}{Q:VK}{us:List Value}{vs:List L2.V}(F:Qcf X.prog X.w X.K X.mg X.base (CXe X.prog X.w) n f fd ps sp)(hr:Y7 n X.A)(hb:Binds X.K fd ps [])(hx:Qfh X E)
  (I:Inv X pins σ H s) (r:Vals vs us) (h:sp vs H Q (E σ)):wpAny (model X.prog X.w) X.A (call (.ref f) us) (EP X pins σ Q) X.xe s:=by
 have hl:(us++[]).length=ps.length:=by rw[z61,← r.length];exact F.len _ _ _ _ h
 have hb':=hb s us I.kIn hl
 rw[z61] at hb'
 refine wpAny_call (zh7 (F.run X.A X.stack s H ⟨us,[]⟩ us vs Q (E σ) hr I.env0 hb' r h) fun r s' hq=>?_)
 cases r with
 |error e=>exact hx pins σ H s e s' I hq
 |ok fl=>
  cases fl with
  |ret u=>exact I.after hq
  |next=>exact zg9 hq
  |brk=>exact zg9 hq
  |cont=>exact zg9 hq
theorem QhN (D:Vb X.prog X.w X.K X.mg X.base n x ps sp)(hx:Qfh X E)(hr:Y7 n X.A)(ha:PA X (e::es) t)(hg:Gl X x:=by rfl)
  (hdb:(x == ("__debug__" : Str))=false:=by decide) (he:starEach (e::es) X.env=(false,eval e X.env)::starEach es X.env:=by rfl) (hpl:(backTo pos (starEach es X.env)).any (·.1)=false:=by rfl) :
  PE X (.Call (.Name x px) (e::es) [] pos) (Qfi sp E t):=by
 obtain⟨f,fd,F,hm,hk,hb⟩:=D.ex
 intro pins s σ H Q I h
 refine zq6 (Qh8 I hg hm ?_ hdb)
 refine PySem.W.callWith_K (h₀:=X.base) I.ok.mod.kin hk (thn (ha pos pins s σ H _ I h) fun us s1 hz=>?_) he hpl
 obtain⟨vs,H1,I1,r,q⟩:=hz
 refine⟨I1.kIn,?_⟩
 exact Qi5 F hr hb hx I1 r q
theorem Qfj:∀{as:List (Option Nat)} {vs:List L2.V} {ds:List D} {τ:List (L2.V×D)},tkL (as.map kdOf) vs ds τ=τ
 | [],_,_,_=>by unfold tkL;rfl
 |none::as,[],_,_=>by unfold tkL;rfl
 |none::as,_::_,[],_=>by unfold tkL;rfl
 |none::as,v::vs,d::ds,τ=>by
  show tkL (Kd.V::as.map kdOf) (v::vs) (d::ds) τ=τ
  unfold tkL;exact Qfj
 |some i::as,[],_,_=>by unfold tkL;rfl
 |some i::as,_::_,[],_=>by unfold tkL;rfl
 |some i::as,v::vs,d::ds,τ=>by
  show tkL (Kd.S i::as.map kdOf) (v::vs) (d::ds) τ=τ
  unfold tkL;exact Qfj
theorem Qoe {F H:Hp}{fp:List Addr}{σ:L2.St}:∀{as:List (Option Nat)} {vs:List L2.V} {ds:List D} {vi:List L2.V} {di:List D} {f:List Addr},FcL C F H fp σ (as.map kdOf) vs ds->Sig σ (as.filterMap id) vi->OL C.K F H vi di f->
  AL C.K F H (as.map (·.isSome)) vs (Qfg as ds di) f/\ioV (as.map (·.isSome)) vs=vi:=by
 intro as
 induction as with
 |nil=>intro _ _ _ _ _ h1 h2 h3;cases h1;cases h2;cases h3;exact⟨.nil,rfl⟩
 |cons a as ih=>
  intro _ _ vi di f h1 sg ol
  cases a with
  |none=>
   have h1:FcL C F H fp σ (_::as.map kdOf) _ _:=h1
   cases h1 with
   |cons h r=>
    obtain⟨q1,q2⟩:=ih r sg ol
    exact⟨.val h q1,q2⟩
  |some i=>
   have h1:FcL C F H fp σ (_::as.map kdOf) _ _:=h1
   have sg2:Sig σ (i::as.filterMap id) vi:=sg
   cases h1 with
   |cons h r=>cases sg2 with
    |cons e sg3=>cases ol with
     |cons o ol=>
      obtain⟨q1,q2⟩:=ih r sg3 ol
      have ev:=z27 (z27 (Eq.trans (Eq.symm (show σ[i]? = some (some _) from h)) e))
      subst ev
      exact⟨.io o q1,congrArg _ q2⟩
theorem Qg0 {par:Bool}{as:List (Option Nat)}{f:List D->Fr}(nd:(as.filterMap id).Nodup)(hrk:rk=.V\/rk=.O)(hp:p=true->(as.filterMap id)=[]){σ:L2.St}{H:Hp}{Q:VK}(h:tX rk C (pa && p) E (Jm par as f mr) σ H Q) :
  Qfi (spF C.K (as.map (·.isSome)) rk f) E (tA (as.map kdOf) C pa E mr) σ H Q:=by
 obtain⟨F,ρ,τ,fp,I,h⟩:=h
 refine⟨F,ρ,τ,fp,I,h.split.mono fun r hr F1 H1 fp1 vs I1 n1 f1=>?_⟩
 rw[Qfj] at I1
 obtain⟨dis,eg,h2⟩:=hr.split.of
 obtain⟨vi,fl,rest,sg,ol,pm,w,cl⟩:=I1.lend nd eg
 obtain⟨al,eio⟩:=Qoe f1 sg ol
 have ndp:=pm.nodup_iff.mp I1.nd
 have inl:∀a∈fl,a∈fp1:=fun a ha=>pm.mem_iff.mpr (z08 _ ha)
 have inr:∀a∈rest,a∈fp1:=fun a ha=>pm.mem_iff.mpr (z01 _ ha)
 have Qpw:∀a∈rest,a∉fl:=fun a ha hf=>(z07.mp ndp).2.2 a hf a ha rfl
 refine⟨F1,_,fl,al,(z07.mp ndp).1,fun a ha=>I1.ap a (inl a ha),I1.fh,?_⟩
 cases ef:f (Qfg as r.1 dis) with
 |no=>rw[ef] at h2;exact h2
 |ex c=>
  rw[ef] at h2
  dsimp only at h2 ⊢
  intro H' kp' dm'
  by_cases hem:(as.filterMap id).isEmpty=true
  ·rw[if_pos hem] at h2
   have e0:as.filterMap id=[]:=by simpa using hem
   have ef0:fl=[]:=by
    rw[e0] at sg
    cases sg
    cases ol
    rfl
   subst ef0
   have J:SI C F1 H' σ r.2 τ fp1:=I1.step (Qn.refl _) (fun b o e=>kp' b o (I1.fh b o e) (by simp)) (fun a ha=>by
    obtain⟨o,e,_⟩:=I1.mem a ha
    rw[e,kp' a o e (by simp)]) I1.ap (fun _ _ z=>.inl z) (fun b o _ _ e=>kp' b o e (by simp)) dm'
   obtain⟨fp2,J2⟩:=J.drop
   exact h2 F1 H' fp2 J2
  ·rw[if_neg hem] at h2;exact h2.elim
 |ok d outs=>
  rw[ef] at h2
  dsimp only at h2 ⊢
  intro F' H' v fr fo sF fh' fn' kp' dm' rf ol' nd' ap' frn fon
  rw[eio] at ol'
  have hrest:∀a∈rest,H' a=H1 a:=fun a ha=>by
   obtain⟨o,e,_⟩:=I1.mem a (inr a ha)
   rw[e,kp' a o e (Qpw a ha)]
  have Qap:∀a∈fp1,H1 a≠none:=fun a ha z=>by
   obtain⟨o,e,_⟩:=I1.mem a ha
   rw[z] at e;cases e
  have apr:∀a∈rest,F' a=none:=fun a ha=>by
   cases e:F' a with
   |none=>rfl
   |some o=>
    rcases fn' a o e with z|z
    ·rw[I1.ap a (inr a ha)] at z;cases z
    ·obtain⟨o2,e2,m2⟩:=I1.mem a (inr a ha)
     exact(z.not (Qap a (inr a ha)) (fh' a o e) ((hrest a ha).trans e2) m2).elim
  have Qof:=z07.mp nd'
  have Qog:∀a∈fo,a∉rest:=fun a ha hr=>by
   rcases fon a ha with z|z
   ·exact Qpw a hr z
   ·exact Qap a (inr a hr) z
  have J:=cl sF fh' hrest dm' (fun b o e n z=>kp' b o z fun hb=>by
   rcases w b hb with y|y
   ·rw[y] at e;cases e
   ·exact n y.2) (fun b o e=>(fn' b o e).imp id fun z=>z.up fun y=>I1.dm b y) ol' (z07.mpr ⟨Qof.2.1,(z07.mp ndp).2.1,fun a ha b hb z=>Qog a ha (z▸hb)⟩) (fun a ha=>(z04.mp ha).elim (fun z=>ap' a (z01 _ z)) (apr a)) (fun a ha=>(fon a ha).elim (w a) fun z=>.inl (I1.dm a z))
  have nxt:∀{fp':List Addr},(∀a∈rest,a∈fp')->(∀a,F1 a≠none->a∉fp')->Nx (pa && p) F H fp F' H' fp':=fun{fp'} sub nin=>by
   refine n1.trans (q:=p) ⟨sF,fun hpp b o e=>?_⟩
   have ef0:fl=[]:=by
    rw[hp hpp] at sg
    cases sg
    cases ol
    rfl
   subst ef0
   by_cases hb:b∈fp1
   ·have hb':b∈rest:=by simpa using pm.mem_iff.mp hb
    rw[Jl hb] at e
    rw[Jl (sub b hb')]
    exact kp' b o e (by simp)
   ·rw[QG hb] at e
    rw[QG (nin b (by rw[e];simp))]
    exact sF b o e
  rcases hrk with rfl|rfl
  ·obtain⟨rv,rfl⟩:=rf
   refine h2 F' H' _ v J (nxt (fun a ha=>z01 _ ha) fun a hF hm=>?_) rv
   rcases z04.mp hm with z|z
   ·rw[Qn.free sF (ap' a z)] at hF;exact hF rfl
   ·rw[I1.ap a (inr a z)] at hF;exact hF rfl
  ·have Qfk:(fr++(fo++rest)).Nodup:=z07.mpr ⟨Qof.1,J.nd,fun a ha b hb z=>by
    subst z
    rcases z04.mp hb with y|y
    ·exact Qof.2.2 a ha a y rfl
    ·exact Qap a (inr a y) (frn a ha)⟩
   refine h2 F' H' _ v (J.push rf (fun a ha=>I1.dm a (frn a ha)) (fun a ha=>ap' a (z08 _ ha)) Qfk) (nxt (fun a ha=>z01 _ (z01 _ ha)) fun a hF hm=>?_) z59
   rcases z04.mp hm with z|z
   ·rw[Qn.free sF (ap' a (z08 _ z))] at hF;exact hF rfl
   ·rcases z04.mp z with z|z
    ·rw[Qn.free sF (ap' a (z01 _ z))] at hF;exact hF rfl
    ·rw[I1.ap a (inr a z)] at hF;exact hF rfl
theorem Qdk {par:Bool}{as:List (Option Nat)}{f:List D->Fr}(D:Vb X.prog X.w X.K X.mg X.base n x ps (spF C.K (as.map (·.isSome)) rk f))(hx:Qfh X E)(hr:Y7 n X.A)(ha:PA X (e::es) (tA (as.map kdOf) C pa E mr))(hrk:rk=.V\/rk=.O:=by first|exact .inl rfl|exact .inr rfl)(nd:(as.filterMap id).Nodup:=by decide)(hp:p=true->as.filterMap id=[]:=by decide)(hg:Gl X x:=by rfl)
  (hdb:(x == ("__debug__" : Str))=false:=by decide) (he:starEach (e::es) X.env=(false,eval e X.env)::starEach es X.env:=by rfl) (hpl:(backTo pos (starEach es X.env)).any (·.1)=false:=by rfl) :
  PE X (.Call (.Name x px) (e::es) [] pos) (tX rk C (pa && p) E (Jm par as f mr)):=Qo (QhN D hx hr ha hg hdb he hpl) fun _ _ _ h=>Qg0 nd hrk hp h
theorem O.loB {K:z02}{F H:Hp}{L:List Addr}(hl:∀b∈L,∀o,F b=some o->Mbl o):(∀v d fp,O K F H v d fp->O K (lo F L) H v d fp)/\∀v d fp,OL K F H v d fp->OL K (lo F L) H v d fp:=
 O.ind .sc (fun m h q=>.im m (h.lo m hl) q) .mt .nil .cons
theorem O.lo {K:z02}{F H:Hp}{L:List Addr}(hl:∀b∈L,∀o,F b=some o->Mbl o){v:L2.V}{d:D}{fp:List Addr}(h:O K F H v d fp):O K (lo F L) H v d fp:=(O.loB hl).1 _ _ _ h
def Vq (rk:Kd)(f:List D->Fr)(mr:MA):ME:=fun ρ=>(mr ρ).bind fun r=>match f r.1 with
 |.ok d _=>match rk with
  |.V=>if d.imm=true then .ok (d,r.2) else .no
  |_=>.ok (d,r.2)
 |.ex c=>.ex c r.2
 |.no=>.no
theorem Qlu {K:z02}{F H:Hp}:∀{vs:List L2.V} {ds:List D},RL K F vs ds->AL K F H (vs.map fun _=>false) vs ds []
 |_,_,.nil=>.nil
 |_,_,.cons h r=>.val h (Qlu r)
theorem Qfl {f:List D->Fr}{io:List Bool}(hio:io.all (!·)=true)(hl:io.length=ks.length)(hrk:rk=.V\/rk=.O)(ok:rdL ks=true){σ:L2.St}{H:Hp}{Q:VK}(h:tX rk C pa E (Vq rk f mr) σ H Q):Qfi (spF C.K io rk f) E (tA ks C pa E mr) σ H Q:=by
 obtain⟨F,ρ,τ,fp,I,h⟩:=h
 refine⟨F,ρ,τ,fp,I,h.split.mono fun r hr F1 H1 fp1 vs I1 n1 f1=>?_⟩
 rw[Jd ok] at I1
 have rl:=f1.rd I1 ok
 have hlen:vs.length=ks.length:=by
  have:∀{ks:List Kd} {vs:List L2.V} {ds:List D},FcL C F1 H1 fp1 σ ks vs ds->vs.length=ks.length:=by
   intro ks vs ds z
   induction z with
   |nil=>rfl
   |cons _ _ ih=>rw[z25,z25,ih]
  exact this f1
 have eio:io=vs.map fun _=>false:=by
  have:∀{io:List Bool} {n:Nat},io.all (!·)=true->io.length=n->io=zb1 n false:=by
   intro io
   induction io with
   |nil=>intro n _ e;subst e;rfl
   |cons x io ih=>
    intro n h e
    subst e
    rw[List.all_cons,z72] at h
    rw[z25,List.replicate_succ,← ih h.2 rfl]
    have:x=false:=by simpa using h.1
    rw[this]
  rw[this hio (hl.trans hlen.symm)]
  exact(List.map_const' ..).symm
 have hmt:∀{F':Hp},Qn (jn F1 H1 fp1) F'->∀b∈fp1,∀o,F' b=some o->Mbl o:=fun{F'} s b hb o e=>by
  obtain⟨o',e',z⟩:=I1.mem b hb
  have q:=s b o' (by rw[Jl hb];exact e')
  rw[e] at q;cases q
  exact z
 refine⟨jn F1 H1 fp1,r.1,[],by rw[eio];exact Qlu rl,zi9,(fun _ z=>nomatch z),JK I1.fh,?_⟩
 cases ef:f r.1 with
 |no=>rw[ef] at hr;exact hr
 |ex c=>
  rw[ef] at hr
  dsimp only at hr ⊢
  intro H' kp' dm'
  have J:SI C F1 H' σ r.2 τ fp1:=I1.step (Qn.refl _) (fun b o e=>kp' b o (I1.fh b o e) (by simp)) (fun a ha=>by
   obtain⟨o,e,_⟩:=I1.mem a ha
   rw[e,kp' a o e (by simp)]) I1.ap (fun _ _ z=>.inl z) (fun b o _ _ e=>kp' b o e (by simp)) dm'
  obtain⟨fp2,J2⟩:=J.drop
  exact hr F1 H' fp2 J2
 |ok d outs=>
  rw[ef] at hr
  dsimp only at hr ⊢
  intro F' H' v fr fo sF fh' fn' kp' dm' rf ol' nd' ap' frn fon
  have sN:Qn F1 (lo F' fp1):=fun b o e=>by
   have nb:b∉fp1:=fun z=>by rw[I1.ap b z] at e;cases e
   rw[JT nb]
   exact sF b o (by rw[QG nb];exact e)
  have J:SI C (lo F' fp1) H' σ r.2 τ fp1:=by
   refine I1.step sN (lo_le.trans fh') (fun a ha=>?_) (fun a ha=>Qe5 ha) (fun b o e=>?_) (fun b o _ _ e=>kp' b o e (by simp)) dm'
   ·obtain⟨o,e,_⟩:=I1.mem a ha
    rw[e,kp' a o e (by simp)]
   ·have nb:b∉fp1:=fun z=>by rw[Qe5 z] at e;cases e
    rw[JT nb] at e
    rcases fn' b o e with z|z
    ·rw[QG nb] at z;exact .inl z
    ·exact .inr (z.up fun y=>I1.dm b y)
  have Qlv:∀{fp':List Addr},(∀a∈fp1,a∈fp')->(∀a,F1 a≠none->a∉fp')->Nx pa F H fp (lo F' fp1) H' fp':=fun{fp'} sub nin=>by
   refine(n1.trans (q:=true) ⟨sN,fun _ b o e=>?_⟩).weak fun z=>by simp[z]
   by_cases hb:b∈fp1
   ·rw[Jl hb] at e
    rw[Jl (sub b hb)]
    exact kp' b o e (by simp)
   ·rw[QG hb] at e
    rw[QG (nin b (by rw[e];simp))]
    exact sN b o e
  have Qap:∀a∈fp1,H1 a≠none:=fun a ha z=>by
   obtain⟨o,e,_⟩:=I1.mem a ha
   rw[z] at e;cases e
  rcases hrk with rfl|rfl
  ·obtain⟨rv,rfl⟩:=rf
   dsimp only at hr
   by_cases hi:d.imm=true
   ·rw[if_pos hi] at hr
    exact hr _ H' fp1 v J (Qlv (fun a ha=>ha) fun a hF hm=>hF (I1.ap a hm)) (R.lo (hmt sF) rv hi)
   ·rw[if_neg hi] at hr;exact hr.elim
  ·dsimp only at hr
   have Qfk:(fr++fp1).Nodup:=z07.mpr ⟨(z07.mp nd').1,I1.nd,fun a ha b hb z=>by
    subst z;exact Qap a hb (frn a ha)⟩
   refine hr _ H' _ v (J.push (O.lo (hmt sF) rf) (fun a ha=>I1.dm a (frn a ha)) (fun a ha=>lo_le.free (ap' a (z08 _ ha))) Qfk) (Qlv (fun a ha=>z01 _ ha) fun a hF hm=>?_) z59
   rcases z04.mp hm with z|z
   ·exact hF (I1.fh.free (frn a z))
   ·exact hF (I1.ap a z)
theorem YS {io:List Bool}{f:List D->Fr}(D:Vb X.prog X.w X.K X.mg X.base n x ps (spF C.K io rk f))(hx:Qfh X E)(hr:Y7 n X.A)(ha:PA X (e::es) (tA ks C pa E mr))(hio:io.all (!·)=true:=by rfl)(hl:io.length=ks.length:=by rfl)(hrk:rk=.V\/rk=.O:=by first|exact .inl rfl|exact .inr rfl)(ok:rdL ks=true:=by rfl)(hg:Gl X x:=by rfl)
  (hdb:(x == ("__debug__" : Str))=false:=by decide) (he:starEach (e::es) X.env=(false,eval e X.env)::starEach es X.env:=by rfl) (hpl:(backTo pos (starEach es X.env)).any (·.1)=false:=by rfl) :
  PE X (.Call (.Name x px) (e::es) [] pos) (tX rk C pa E (Vq rk f mr)):=Qo (QhN D hx hr ha hg hdb he hpl) fun _ _ _ h=>Qfl hio hl hrk ok h
end
def slot0 (b:Bool)(d:D):Option Sl:=some (if b then .par d else .frz d)
def Qlw (io:List Bool)(n:Nat)(ds:List D):Rho:=zb7 slot0 io ds++zb1 (n - io.length) none
noncomputable def outs:List Bool->Rho->Option (List D)
 |true::io,some (.par d)::ρ=>(outs io ρ).map (d::·)
 |false::io,some (.par _)::ρ=>none
 |false::io,_::ρ=>outs io ρ
 | [],some (.par _)::ρ=>none
 | [],_::ρ=>outs [] ρ
 | [],[]=>some []
 |_,_=>none
def Qam (io:List Bool)(n:Nat)(mb:MS)(ds:List D):Fr:=match mb (Qlw io n ds) with
 |.ok (.rt d,ρ)=>match outs io ρ with
  |some os=>.ok d os
  |none=>.no
 |.ok (.nx,ρ)=>match outs io ρ with
  |some os=>.ok .non os
  |none=>.no
 |_=>.no
def QD:Nat->List Bool->List L2.V->List (Nat×L2.V)
 |j,true::io,v::vs=>(j,v)::QD (j+1) io vs
 |j,false::io,_::vs=>QD (j+1) io vs
 |_,_,_=>[]
section
variable {K:z02}{F H:Hp}
theorem Qg1 {N:List Str}{io:List Bool}{vs:List L2.V}{ds:List D}{fp:List Addr}{r:Nat}(al:AL K F H io vs ds fp):SL K F H (vs.map some++zb1 r none) (zb7 slot0 io ds++zb1 r none) [] fp:=by
 induction al with
 |nil=>
  induction r with
  |zero=>exact .nil
  |succ r ih=>exact .cons (f0:=[]) (g0:=[]) .non ih
 |val h al ih=>exact .cons (f0:=[]) (g0:=[]) (.frz h) ih
 |io h al ih=>exact .cons (f0:=[]) (.par h) ih
theorem Qg2 {io:List Bool}{vs:List L2.V}{ds:List D}{fp:List Addr}{j0 j:Nat}{v:L2.V}{r:Nat}(al:AL K F H io vs ds fp):(j,v)∈QD j0 io vs->∃i,j=j0+i/\(vs.map some++zb1 r (none:Option L2.V))[i]? = some (some v)/\∃d,(zb7 slot0 io ds++zb1 r none)[i]? = some (some (.par d)):=by
 induction al generalizing j0 with
 |nil=>intro hm;unfold QD at hm;exact nomatch hm
 |val h al ih=>
  intro hm
  unfold QD at hm
  obtain⟨i,e,h1,d,h2⟩:=ih hm
  exact⟨i+1,by omega,h1,d,h2⟩
 | @io _ _ _ d0 _ _ _ h al ih=>
  intro hm
  unfold QD at hm
  rcases z26.mp hm with e|hm
  ·cases e
   exact⟨0,rfl,rfl,_,rfl⟩
  ·obtain⟨i,e,h1,d,h2⟩:=ih hm
   exact⟨i+1,by omega,h1,d,h2⟩
theorem Qfm {io:List Bool}:∀{vs:List L2.V} {j0 j:Nat} {u:L2.V},(j,u)∈QD j0 io vs->j0<=j:=by
 induction io with
 |nil=>intro vs j0 j u z;unfold QD at z;exact nomatch z
 |cons b io ih=>
  intro vs j0 j u z
  cases vs with
  |nil=>cases b<;>(unfold QD at z;exact nomatch z)
  |cons w vs=>
   cases b with
   |false=>unfold QD at z;exact Nat.le_of_succ_le (ih z)
   |true=>
    unfold QD at z
    rcases z26.mp z with e|z
    ·cases e;exact z18 _
    ·exact Nat.le_of_succ_le (ih z)
theorem Qfn {b:Bool}{io:List Bool}{v:L2.V}{vs:List L2.V}{j0:Nat}{σ:L2.St}{x:Option L2.V}(hp:∀j u,(j,u)∈QD j0 (b::io) (v::vs)->∃i,j=j0+i/\(x::σ)[i]? = some (some u))(j:Nat)(u:L2.V)(z:(j,u)∈QD (j0+1) io vs):∃i,j=j0+1+i/\σ[i]? = some (some u):=by
 obtain⟨i,e,q⟩:=hp j u (by cases b<;>(unfold QD;first|exact z|exact z09 _ z))
 have lb:=Qfm z
 cases i with
 |zero=>omega
 |succ i=>exact⟨i,by omega,q⟩
theorem Qfo {σ:L2.St}{ρ:Rho}{f g:List Addr}(sl:SL K F H σ ρ f g):∀{io:List Bool} {vs:List L2.V} {os:List D} {j0:Nat},outs io ρ=some os->vs.length=io.length->(∀j v,(j,v)∈QD j0 io vs->∃i,j=j0+i/\σ[i]? = some (some v))->OL K F H (ioV io vs) os g:=by
 induction sl with
 |nil=>
  intro io vs os j0 h l hp
  cases io with
  |nil=>
   cases vs with
   |nil=>unfold outs at h;cases h;unfold ioV;exact .nil
   |cons=>cases l
  |cons b io=>cases b<;>(unfold outs at h;cases h)
 |cons s r ih=>
  intro io vs os j0 h l hp
  cases io with
  |nil=>
   cases vs with
   |cons=>cases l
   |nil=>
    have hn:∀{σ:L2.St} (j:Nat) (v:L2.V),(j,v)∈QD j0 [] []->∃i,j=j0+i/\σ[i]? = some (some v):=fun j v z=>by unfold QD at z;exact nomatch z
    cases s with
    |par _=>unfold outs at h;cases h
    |non=>unfold outs at h;exact ih (vs:=[]) h rfl hn
    |frz _=>unfold outs at h;exact ih (vs:=[]) h rfl hn
    |own _=>unfold outs at h;exact ih (vs:=[]) h rfl hn
  |cons b io=>
   cases vs with
   |nil=>cases l
   |cons v vs=>
    have l':vs.length=io.length:=Nat.succ.inj l
    have tl:=Qfn hp
    cases b with
    |false=>
     unfold ioV
     cases s with
     |par _=>unfold outs at h;cases h
     |non=>unfold outs at h;exact ih h l' tl
     |frz _=>unfold outs at h;exact ih h l' tl
     |own _=>unfold outs at h;exact ih h l' tl
    |true=>
     obtain⟨i0,e0,q0⟩:=hp j0 v (by unfold QD;exact z12)
     have:i0=0:=by omega
     subst this
     unfold ioV
     cases s with
     |non=>unfold outs at h;cases h
     |frz _=>unfold outs at h;cases h
     |own _=>unfold outs at h;cases h
     |par o=>
      unfold outs at h
      obtain⟨r',hr',rfl⟩:=z05.mp h
      have ev:v=_:=(z27 (z27 q0)).symm
      subst ev
      exact .cons o (ih hr' l' tl)
end
theorem Qi6 {K:z02}{N:List Str}{io:List Bool}{rk:Kd}{mb:MS}(hrk:rk=.V\/rk=.O){vs:List L2.V}{H:Hp}{Q:VK}{E:XK}(h:spF K io rk (Qam io N.length mb) vs H Q E) :
  ∃C:Cn,C.K=K/\tS rk C (fun _ _ _ _=>False) mb { nx:=fun _ H'=>Q .non H',rt:=Q } (L2.start N vs) H:=by
 obtain⟨F,ds,fp,al,nd,ap,fh,h⟩:=h
 have hl:=al.len
 let C:Cn:=⟨K,H,F,fp,QD 0 io vs⟩
 refine⟨C,rfl,?_⟩
 have est:L2.start N vs=vs.map some++zb1 (N.length - io.length) none:=by unfold L2.start;rw[hl]
 have I:SI C F H (L2.start N vs) (Qlw io N.length ds) [] fp:=by
  rw[est]
  refine⟨⟨[],fp,[],Qg1 (N:=N) al,.nil,by simp,(fun _ z=>nomatch z),(fun _ z=>nomatch z),fun a ha=>.inl ha⟩,nd,ap,fh,Qn.refl F,fun b o e=>.inl e,fun b o e _=>e,fun b e=>e,fun j v hj=>?_⟩
  obtain⟨i,e,h1,d,h2⟩:=Qg2 (r:=N.length - io.length) al hj
  have e':j=i:=by omega
  subst e'
  exact⟨h1,d,h2⟩
 refine⟨F,_,fp,I,?_⟩
 unfold Qam at h
 -- what is handed back
 have fin:∀{os:List D} {ρ:Rho} {d:D} {F' H':Hp} {σ':L2.St} {fp':List Addr} {v:L2.V},outs io ρ=some os->SI C F' H' σ' ρ (rk.tk v d []) fp'->rk.fc C F' H' fp' σ' v d->(∀F' H' v fr fo,Qn F F'->Qn F' H'->(∀b o,F' b=some o->F b=some o\/Nw H b o)->(∀b o,H b=some o->b∉fp->H' b=some o)->(∀b,H' b=none->H b=none)->RkF rk K F' H' v d fr->OL K F' H' (ioV io vs) os fo->
   (fr++fo).Nodup->(∀a∈fr++fo,F' a=none)->(∀a∈fr,H a=none)->(∀a∈fo,a∈fp\/H a=none)->Q v H')->Q v H':=fun{os ρ d F' H' σ' fp' v} eo J fc q=>by
  obtain⟨f1,g1,t1,sl,ol,pm,w1,w2,w3⟩:=J.sl
  have og:=Qfo (j0:=0) (vs:=vs) sl eo hl (fun j u hj=>⟨j,by omega,(J.pr j u hj).1⟩)
  have ndp:=pm.nodup_iff.mp J.nd
  have inn:∀a,a∈f1\/a∈g1\/a∈t1->a∈fp':=fun a z=>pm.mem_iff.mpr (by simpa using z)
  rcases hrk with rfl|rfl
  ·exact q F' H' v [] g1 J.f0 J.fh J.fn J.kp J.dm ⟨fc,rfl⟩ og (z07.mp (z07.mp ndp).2.1).1 (fun a ha=>J.ap a (inn a (.inr (.inl ha)))) (fun _ z=>nomatch z) w3
  ·cases ol with
   | @cons _ _ _ _ ta tb oa ob=>
    cases ob
    have e1:ta++[]=ta:=z61 ta
    refine q F' H' v ta g1 J.f0 J.fh J.fn J.kp J.dm oa og ?_ (fun a ha=>J.ap a (inn a (by rw[e1];exact(z04.mp ha).elim (fun z=>.inr (.inr z)) fun z=>.inr (.inl z)))) (fun a ha=>w2 a (by rw[e1];exact ha)) w3
    have n2:=(z07.mp ndp).2.1
    rw[e1] at n2
    exact(zd6).nodup_iff.mp n2
 cases eb:mb (Qlw io N.length ds) with
 |no=>rw[eb] at h;exact h.elim
 |ex c ρ=>
  rw[eb] at h
  exact h.elim
 |ok q=>
  obtain⟨fl,ρ⟩:=q
  rw[eb] at h
  cases fl with
  |bk=>exact h.elim
  |ct=>exact h.elim
  |nx=>
   dsimp only at h
   cases eo:outs io ρ with
   |none=>rw[eo] at h;exact h.elim
   |some os=>
    rw[eo] at h
    refine fun F' H' σ' fp' s' J=>?_
    rcases hrk with rfl|rfl
    ·exact fin (d:=.non) (v:=.non) eo J (.sc rfl) h
    ·exact fin (d:=.non) (v:=.non) eo (J.push (f:=[]) (.sc rfl) (fun _ z=>nomatch z) (fun _ z=>nomatch z) (by simpa using J.nd)) z59 h
  |rt d=>
   dsimp only at h
   cases eo:outs io ρ with
   |none=>rw[eo] at h;exact h.elim
   |some os=>
    rw[eo] at h
    exact fun F' H' σ' fp' v s' J fc=>fin eo J fc h
theorem fnT {P:Program}{w:World}{K:z02}{mg:Str->Option Value}{base:Heap}{x qual:Str}{st:Stmt}{f:Addr}{fd:FuncData}{N ps:List Str}{k:Nat}{io:List Bool}{rk:Kd}{mb:MS}(Fn:Fun K x qual st f fd)(S:VN N ps (Qw st))(hio:io.length=ps.length)(hrk:rk=.V\/rk=.O)
  (hbody:∀(cdv:Value) (A:Around) (outer:List Env) (s:Shared) (H:Hp) (E:XK) (C:Cn),C.K=K->Y7 k (A.deeper (zh0 qual (Qw st) s.heap.objs.size f cdv))->A.handled=none->
   PSs (Qgm (CXe P w) P w K mg base N qual (Qw st) f cdv A outer s H E) (Js st) (tS rk C (fun _ _ _ _=>False) mb)):Qcf P w K mg base (CXe P w) (k+1) f fd ps (spF K io rk (Qam io N.length mb)):=by
 refine Fn.okE S (fun vs H Q E h=>?_) (fun cdv A outer s H vs Q E hr hd h=>?_)
 ·obtain⟨F,ds,fp,al,_⟩:=h
  rw[al.len,hio]
 ·obtain⟨C,hC,q⟩:=Qi6 hrk h
  exact⟨_,hbody cdv A outer s H E C hC hr hd,q⟩
inductive Cp where
 |me|fz (i:Nat)|io (i:Nat)
def Cp.ix:Cp->Option Nat
 |.me=>none
 |.fz i=>some i
 |.io i=>some i
def Cp.is:Cp->Option Nat
 |.io i=>some i
 |_=>none
noncomputable def Qan (ρ:Rho):List Cp->List D->Option Rho
 | [],_=>some []
 |.me::cs,di=>(Qan ρ cs di).map (none::·)
 |.fz i::cs,di=>match ρ[i]? with
  |some (some (.frz d))=>(Qan ρ cs di).map (some (.frz d)::·)
  |some none=>(Qan ρ cs di).map (none::·)
  |_=>none
 |.io _::cs,d::di=>(Qan ρ cs di).map (some (.par d)::·)
 |.io _::_,[]=>none
def ioB:List Cp->List Bool:=List.map fun c=>match c with
 |.io _=>true
 |_=>false
def Vg (j:Nat)(tc:MT)(te:ME):List D->Rho->List D->Rs (List D×Rho)
 | [],ρ,acc=>.ok (acc,ρ)
 |d::ds,ρ,acc=>(Rs.of (YC ρ j d)).bind fun ρ0=>(tc ρ0).bind fun c=>if c.1=true then(te c.2).bind fun r=>if acc.length<z20 then Vg j tc te ds (r.2.set j none) (acc++[r.1]) else .no
  else Vg j tc te ds (c.2.set j none) acc
def YT (par:Bool)(cs:List Cp)(j:Nat)(mi:MA)(tc:MT)(te:ME):ME:=fun ρ=>(mi ρ).bind fun r=>(Rs.of (Yd par r.2 (cs.filterMap Cp.is))).bind fun di=>(Rs.of (Qan r.2 cs di)).bind fun ρb=>
 match Vg j tc te r.1 ρb [] with
 |.ok q=>(Rs.of (outs (ioB cs) q.2)).bind fun os=>.ok (.lst q.1,JP par r.2 (cs.filterMap Cp.is) os)
 |_=>.no
abbrev EF:XE:=fun _ _ _ _=>False
theorem Qz {X:Cx}:Qfh X EF:=fun pins σ H s e s' I h=>by
 obtain⟨_,_,_,_,_,_,_,_,_,_,k⟩:=h
 exact k.elim
theorem Run.ef {C:Cn}{σ:L2.St}{α:Type}{r:Rs α}{a:α}{k:α->Prop}(e:r=.ok a)(h:k a):Run C EF σ r k:=by rw[e];exact h
section
variable {K:z02}{F H:Hp}
theorem Qlx {vs:List L2.V}{ds:List D}{f:List Addr}(r:OL K F H vs ds f):∃f',OL K F H vs.reverse ds.reverse f'/\f.Perm f':=
 ((O.ind (P:=fun v d f=>O K F H v d f) (Q:=fun vs ds f=>OL K F H vs ds f/\∃f',OL K F H vs.reverse ds.reverse f'/\f.Perm f') .sc (fun m h q=>.im m h q.1) (fun h q=>.mt h q.1) ⟨.nil,[],.nil,.refl _⟩ (fun{_ _ _ _ f g} h q=>⟨.cons h q.1,by
  obtain⟨f',o,p⟩:=q.2
  refine⟨f'++(f++[]),by rw[zz5,zz5];exact o.app (.cons h .nil),?_⟩
  rw[z61]
  exact(zd6).trans (p.append_right f)⟩)).2 _ _ _ r).2
theorem Qfp {α β:Type}:∀{l:List α} {m:List β},l.length=m.length->(l.zip m).map (·.1)=l
 | [],[],_=>rfl
 | [],_::_,h=>by cases h
 |_::_,[],h=>by cases h
 |a::l,b::m,h=>by rw[z85,z30,Qfp (by simpa using h)]
theorem Qfq {α β:Type}:∀{l:List α} {m:List β},l.length=m.length->(l.zip m).map (·.2)=m
 | [],[],_=>rfl
 | [],_::_,h=>by cases h
 |_::_,[],h=>by cases h
 |a::l,b::m,h=>by rw[z85,z30,Qfq (by simpa using h)]
theorem QbU {C:Cn}{σ:L2.St}{ρ:Rho}{τ:List (L2.V×D)}{fp:List Addr}(I:SI C F H σ ρ τ fp)(hK:C.K=K):∀{cs:List Cp} {vi:List L2.V} {di:List D} {f:List Addr} {ρb:Rho},Sig σ (cs.filterMap Cp.is) vi->OL K F H vi di f->Qan ρ cs di=some ρb->SL K F H (QM (cs.map Cp.ix) σ) ρb [] f
 | [],_,_,_,_,.nil,.nil,h=>by unfold Qan at h;cases h;exact .nil
 |.me::cs,vi,di,f,ρb,sg,ol,h=>by
  unfold Qan at h
  obtain⟨r,hr,rfl⟩:=z05.mp h
  exact .cons (f0:=[]) (g0:=[]) .non (QbU I hK sg ol hr)
 |.fz i::cs,vi,di,f,ρb,sg,ol,h=>by
  unfold Qan at h
  split at h
  ·next d e=>
   obtain⟨r,hr,rfl⟩:=z05.mp h
   obtain⟨x,f0,g0,rest,ex,s1,_⟩:=I.cut e
   cases s1 with
   | @frz v _ hd=>
    have e2:QM ((Cp.fz i::cs).map Cp.ix) σ=some v::QM (cs.map Cp.ix) σ:=by
     unfold QM
     rw[z30,z30]
     show((some i).bind fun i=>(σ[i]?).join)::_=_
     rw[z69,ex]
     rfl
    rw[e2]
    exact .cons (f0:=[]) (g0:=[]) (.frz (hK▸hd)) (QbU I hK sg ol hr)
  ·obtain⟨r,hr,rfl⟩:=z05.mp h
   exact .cons (f0:=[]) (g0:=[]) .non (QbU I hK sg ol hr)
  ·cases h
 |.io i::cs,_,_,_,ρb,.cons (v:=v) e sg,.cons o ol,h=>by
  unfold Qan at h
  obtain⟨r,hr,rfl⟩:=z05.mp h
  have e2:QM ((Cp.io i::cs).map Cp.ix) σ=some v::QM (cs.map Cp.ix) σ:=by
   unfold QM
   rw[z30,z30]
   show((some i).bind fun i=>(σ[i]?).join)::_=_
   rw[z69,e]
   rfl
  rw[e2]
  exact .cons (f0:=[]) (.par o) (QbU I hK sg ol hr)
def vsB:List Cp->List L2.V->List L2.V
 |.io _::cs,v::vi=>v::vsB cs vi
 |.io _::cs,[]=>.non::vsB cs []
 |_::cs,vi=>.non::vsB cs vi
 | [],_=>[]
theorem V7:∀{cs:List Cp} {vi:List L2.V},(vsB cs vi).length=(ioB cs).length
 | [],_=>by unfold vsB;rfl
 |.me::cs,vi=>by unfold vsB;rw[z25,V7];rfl
 |.fz i::cs,vi=>by unfold vsB;rw[z25,V7];rfl
 |.io i::cs,[]=>by unfold vsB;rw[z25,V7];rfl
 |.io i::cs,v::vi=>by unfold vsB;rw[z25,V7];rfl
theorem QaX {σ:L2.St}:∀{cs:List Cp} {vi:List L2.V},Sig σ (cs.filterMap Cp.is) vi->ioV (ioB cs) (vsB cs vi)=vi
 | [],_,.nil=>rfl
 |.me::cs,vi,sg=>QaX (cs:=cs) sg
 |.fz i::cs,vi,sg=>QaX (cs:=cs) sg
 |.io i::cs,_,.cons e sg=>congrArg _ (QaX (cs:=cs) sg)
theorem Qfr {σ:L2.St}:∀{cs:List Cp} {vi:List L2.V} {j0 j:Nat} {v:L2.V},Sig σ (cs.filterMap Cp.is) vi->(j,v)∈QD j0 (ioB cs) (vsB cs vi)->∃i,j=j0+i/\(QM (cs.map Cp.ix) σ)[i]? = some (some v)
 | [],_,j0,j,v,.nil,h=>by
  have:(j,v)∈([]:List (Nat×L2.V)):=h
  exact nomatch this
 |.me::cs,vi,j0,j,v,sg,h=>by
  obtain⟨i,e,q⟩:=Qfr (cs:=cs) (j0:=j0+1) sg h
  exact⟨i+1,by omega,by unfold QM at q ⊢;simpa using q⟩
 |.fz _::cs,vi,j0,j,v,sg,h=>by
  obtain⟨i,e,q⟩:=Qfr (cs:=cs) (j0:=j0+1) sg h
  exact⟨i+1,by omega,by unfold QM at q ⊢;simpa using q⟩
 |.io i0::cs,_,j0,j,v,.cons (v:=v0) e0 sg,h=>by
  rcases z26.mp (show(j,v)∈(j0,v0)::QD (j0+1) (ioB cs) (vsB cs _) from h) with e|h
  ·cases e
   refine⟨0,rfl,?_⟩
   unfold QM
   rw[z30,z30]
   show some ((some i0).bind fun i=>(σ[i]?).join)=_
   rw[z69,e0]
   rfl
  ·obtain⟨i,e,q⟩:=Qfr (cs:=cs) (j0:=j0+1) sg h
   exact⟨i+1,by omega,by unfold QM at q ⊢;simpa using q⟩
theorem Qax {σ:L2.St}{ρ:Rho}:∀{cs:List Cp} {vi:List L2.V} {di:List D} {ρb:Rho} {j0 j:Nat} {v:L2.V},Qan ρ cs di=some ρb->(j,v)∈QD j0 (ioB cs) (vsB cs vi)->∃i,j=j0+i/\∃d,ρb[i]? = some (some (.par d))
 | [],_,_,_,j0,j,v,_,h=>by
  have:(j,v)∈([]:List (Nat×L2.V)):=h
  exact nomatch this
 |.me::cs,vi,di,ρb,j0,j,v,hc,h=>by
  unfold Qan at hc
  obtain⟨r,hr,rfl⟩:=z05.mp hc
  obtain⟨i,e,d,q⟩:=Qax (σ:=σ) (cs:=cs) (vi:=vi) (j0:=j0+1) hr h
  exact⟨i+1,by omega,d,by simpa using q⟩
 |.fz i0::cs,vi,di,ρb,j0,j,v,hc,h=>by
  unfold Qan at hc
  split at hc
  ·obtain⟨r,hr,rfl⟩:=z05.mp hc
   obtain⟨i,e,d,q⟩:=Qax (σ:=σ) (cs:=cs) (vi:=vi) (j0:=j0+1) hr h
   exact⟨i+1,by omega,d,by simpa using q⟩
  ·obtain⟨r,hr,rfl⟩:=z05.mp hc
   obtain⟨i,e,d,q⟩:=Qax (σ:=σ) (cs:=cs) (vi:=vi) (j0:=j0+1) hr h
   exact⟨i+1,by omega,d,by simpa using q⟩
  ·cases hc
 |.io i0::cs,vi,[],ρb,j0,j,v,hc,h=>by unfold Qan at hc;cases hc
 |.io i0::cs,vi,d0::di,ρb,j0,j,v,hc,h=>by
  unfold Qan at hc
  obtain⟨r,hr,rfl⟩:=z05.mp hc
  cases vi with
  |nil=>
   rcases z26.mp (show(j,v)∈(j0,V.non)::QD (j0+1) (ioB cs) (vsB cs []) from h) with e|h
   ·cases e;exact⟨0,rfl,d0,rfl⟩
   ·obtain⟨i,e,d,q⟩:=Qax (σ:=σ) (cs:=cs) (vi:=[]) (j0:=j0+1) hr h
    exact⟨i+1,by omega,d,by simpa using q⟩
  |cons v0 vi=>
   rcases z26.mp (show(j,v)∈(j0,v0)::QD (j0+1) (ioB cs) (vsB cs vi) from h) with e|h
   ·cases e;exact⟨0,rfl,d0,rfl⟩
   ·obtain⟨i,e,d,q⟩:=Qax (σ:=σ) (cs:=cs) (vi:=vi) (j0:=j0+1) hr h
    exact⟨i+1,by omega,d,by simpa using q⟩
end
section
variable {X:Cx}{C:Cn}{E:XE}{p pa pc pe:Bool}{m me:ME}{mt:MT}{mi:MA}{pos:Pos}{k:Kd}{elt iter:Expr}{x:Str}{px:Pos}{ifs:List Expr}{scope:Scope}{N:List Str}{cs:List Cp}{j:Nat}{par:Bool}
theorem SI.clr {F H:Hp}{σ:L2.St}{ρ:Rho}{τ:List (L2.V×D)}{fp:List Addr}{y:Option L2.V}{x:L2.V}(I:SI C F H (σ.set j y) ρ τ fp)(hj:σ[j]? = some none)(np:∀v,(j,v)∉C.QdW):∃fp',SI C F H σ (ρ.set j none) τ fp':=by
 have lj:j<σ.length:=(z17.mp hj).1
 have lr:j<ρ.length:=by rw[← I.len,zg2];exact lj
 obtain⟨z,f0,g0,rest,ez,s1,pm,w0,w1,cl⟩:=I.cut (i:=j) (s:=ρ[j]) (z03 lr)
 have nd:=pm.nodup_iff.mp I.nd
 have q:=cl (x':=none) (s':=none) (f0':=[]) (g0':=[]) (Qn.refl F) I.fh (fun _ _=>rfl) (fun _ z=>z) (fun _ _ _ _ z=>z) (fun _ _ z=>.inl z) .non (z07.mp (z07.mp nd).2.1).2.1 (fun a ha=>I.ap a (pm.mem_iff.mpr (by simp at ha;simp[ha]))) (fun _ z=>nomatch z) (fun _ z=>nomatch z) (fun v hv=>(np v hv).elim)
 rw[zp3,QZ hj] at q
 exact⟨_,q⟩
def exT (K:z02)(p:Bool)(m:MT):TT:=fun σ H Q=>∃Cb:Cn,Cb.K=K/\tT Cb p EF m σ H Q
def exX (k:Kd)(K:z02)(p:Bool)(m:ME):TE:=fun σ H Q=>∃Cb:Cn,Cb.K=K/\tX k Cb p EF m σ H Q
def Qly:MT:=fun ρ=>.ok (true,ρ)
theorem QhO {X:Cx}{K:z02}:PIf X [] (exT K true Qly):=fun pins s σ H Q I ⟨Cb,_,F,ρ,τ,fp,J,h⟩=>Qit pins s σ H Q I (h F H fp J .refl)
theorem Qlz {X:Cx}{K:z02}{c:Expr}(h:∀Cb:Cn,Cb.K=K->PT X c (tT Cb p EF mt)):PIf X [c] (exT K p mt):=fun pins s σ H Q I ⟨Cb,hk,q⟩=>Qiu (h Cb hk) pins s σ H Q I q
theorem Qi7 {X:Cx}{K:z02}{e:Expr}(h:∀Cb:Cn,Cb.K=K->PE X e (tX k Cb p EF m)):PE X e (exX k K p m):=fun pins s σ H Q I ⟨Cb,hk,q⟩=>h Cb hk pins s σ H Q I q
structure ItC (C:Cn)(F:Hp)(ds:List D)(J:It):Prop where
 go:∀{F' H:Hp} {σ:L2.St} {ρ:Rho} {τ:List (L2.V×D)} {fp:List Addr} {i:Nat} {d:D},SI C F' H σ ρ τ fp->Qn F F'->ds[i]? = some d->J.go i H/\∀x H',J.yld i H x H'->∃F'',SI C F'' H' σ ρ τ fp/\Nx true F' H fp F'' H' fp/\R C.K F'' x d
 stop:∀{F' H:Hp} {σ:L2.St} {ρ:Rho} {τ:List (L2.V×D)} {fp:List Addr},SI C F' H σ ρ τ fp->Qn F F'->J.stop ds.length H
def Yj (tg:D->Rho->Option Rho)(cl:Rho->Rho)(tc:MT)(te:ME):List D->Rho->List D->Rs (List D×Rho)
 | [],ρ,acc=>.ok (acc,ρ)
 |d::ds,ρ,acc=>(Rs.of (tg d ρ)).bind fun ρ0=>(tc ρ0).bind fun c=>if c.1=true then(te c.2).bind fun r=>if acc.length<z20 then Yj tg cl tc te ds (cl r.2) (acc++[r.1]) else .no
  else Yj tg cl tc te ds (cl c.2) acc
def Qpx (K:z02)(cs:List Cp)(blk:L2.St)(tg:D->Rho->Option Rho)(cl:Rho->Rho)(g:TG):Prop:=
 ∀{Cb:Cn} {F H:Hp} {ρ ρ':Rho} {τ:List (L2.V×D)} {fp:List Addr} {x:L2.V} {d:D},Cb.K=K->(∀k:Nat,cs[k]? = some Cp.me->∀v,(k,v)∉Cb.QdW)->SI Cb F H blk ρ τ fp->R Cb.K F x d->tg d ρ=some ρ'->
  ∃σ' fp',SI Cb F H σ' ρ' τ fp'/\Ext blk σ'/\(∀Q:L2.St->Hp->Prop,Q σ' H->g x blk H Q)/\∀{F'' H'':Hp} {ρ'':Rho} {τ'':List (L2.V×D)} {Qqo:List Addr},SI Cb F'' H'' σ' ρ'' τ'' Qqo->∃fp7,SI Cb F'' H'' blk (cl ρ'') τ'' fp7
def Qg3 (par:Bool)(cs:List Cp)(tg:D->Rho->Option Rho)(cl:Rho->Rho)(mt:MT)(me:ME)(r:List D×Rho):Rs (D×Rho):=(Rs.of (Yd par r.2 (cs.filterMap Cp.is))).bind fun di=>(Rs.of (Qan r.2 cs di)).bind fun ρb=>
 match Yj tg cl mt me r.1 ρb [] with
 |.ok q=>(Rs.of (outs (ioB cs) q.2)).bind fun os=>.ok (.lst q.1,JP par r.2 (cs.filterMap Cp.is) os)
 |_=>.no
theorem Qg4 {tg:D->Rho->Option Rho}{cz:Rho->Rho}{g:TG}(hK:C.K=X.K)(nd:(cs.filterMap Cp.is).Nodup)(hp:p=true->cs.filterMap Cp.is=[]){σ:L2.St}{F H F1 H1:Hp}{ρ1:Rho}{τ:List (L2.V×D)}{fp fp1:List Addr}{ds0:List D}{J:It}{Q:VK}
  (tgk:Qpx X.K cs (QM (cs.map Cp.ix) σ) tg cz g) (I1:SI C F1 H1 σ ρ1 τ fp1) (n1:Nx pa F H fp F1 H1 fp1) (its:∀Cb:Cn,Cb.K=C.K->Cb.H₀=H1->Cb.F₀=F1->(cs.filterMap Cp.is=[]->Cb.A=[])->ItC Cb F1 ds0 J)
  (hr:Run C E σ (Qg3 par cs tg cz mt me (ds0,ρ1)) fun r=>∀F' H' fp' v,SI C F' H' σ r.2 (Kd.O.tk v r.1 τ) fp'->Nx (pa && p) F H fp F' H' fp'->Kd.O.fc C F' H' fp' σ v r.1->Q v H') :
  ∃W:Nat->Nat->List V->Hp->Prop,(∃m,W 0 m [] H1)/\∀i m ys H,W i m ys H->
   (J.stop i H/\∀D,H D=none->Q (.ref D) (upd H D (.lst ys)))\/
   (J.go i H/\∃N:List V->Hp->Prop,(∀ys' H',N ys' H'->∃m',m' < m/\W (i+1) m' ys' H')/\∀x H',J.yld i H x H'->
    g x (QM (cs.map Cp.ix) σ) H' fun τ' H1'=>Ext (QM (cs.map Cp.ix) σ) τ'/\exT X.K pc mt τ' H1' fun c H2=>if c=true then exX .O X.K pe me τ' H2 fun y H3=>ys.length<z20/\N (ys++[y]) H3 else N ys H2):=by
 unfold Qg3 at hr
 dsimp only at hr
 obtain⟨di,eg,h2⟩:=hr.split.of
 obtain⟨ρb,eb,h3⟩:=h2.split.of
 obtain⟨vi,f,rest,sg,ol,pm,w,cl⟩:=I1.lend nd eg
 have ndp:=pm.nodup_iff.mp I1.nd
 have inl:∀a∈f,a∈fp1:=fun a ha=>pm.mem_iff.mpr (z08 _ ha)
 have inr:∀a∈rest,a∈fp1:=fun a ha=>pm.mem_iff.mpr (z01 _ ha)
 have dis:∀a∈rest,a∉f:=fun a ha hf=>(z07.mp ndp).2.2 a hf a ha rfl
 cases ec:Yj tg cz mt me ds0 ρb [] with
 |no=>rw[ec] at h3;exact h3.elim
 |ex c q=>rw[ec] at h3;exact h3.elim
 |ok q=>
  obtain⟨Qi8,ρF⟩:=q
  rw[ec] at h3
  obtain⟨os,eo,h4⟩:=h3.split.of
  let Cb:Cn:=⟨X.K,H1,F1,f,QD 0 (ioB cs) (vsB cs vi)⟩
  have it:ItC Cb F1 ds0 J:=its Cb hK.symm rfl rfl fun q=>by
   rw[q] at sg
   cases sg
   cases ol
   rfl
  have IB:SI Cb F1 H1 (QM (cs.map Cp.ix) σ) ρb [] f:=by
   refine⟨⟨[],f,[],QbU I1 hK sg (hK▸ol) eb,.nil,by simp,(fun _ z=>nomatch z),(fun _ z=>nomatch z),fun a ha=>.inl ha⟩,(z07.mp ndp).1,fun a ha=>I1.ap a (inl a ha),I1.fh,Qn.refl _,fun b o e=>.inl e,fun b o e _=>e,fun b e=>e,fun i v hi=>?_⟩
   obtain⟨i1,e1,q1⟩:=Qfr sg hi
   obtain⟨i2,e2,d2,q2⟩:=Qax (σ:=σ) eb hi
   have:i1=i:=by omega
   subst this
   have:i2=i1:=by omega
   subst this
   exact⟨q1,d2,q2⟩
  have hbk:∀k:Nat,cs[k]? = some Cp.me->(QM (cs.map Cp.ix) σ)[k]? = some none:=fun k hk=>by
   unfold QM
   rw[z31,z31,hk]
   rfl
  have npk:∀k:Nat,cs[k]? = some Cp.me->∀v,(k,v)∉Cb.QdW:=fun k hk v hv=>by
   obtain⟨i1,e1,q1⟩:=Qfr sg hv
   have:i1=k:=by omega
   subst this
   rw[hbk i1 hk] at q1;cases q1
  refine⟨fun i mm ys H'=>mm=ds0.length - i/\i<=ds0.length/\∃F' ρ' acc fp',SI Cb F' H' (QM (cs.map Cp.ix) σ) ρ' ((ys.zip acc).reverse) fp'/\ys.length=acc.length/\Qn F1 F'/\Yj tg cz mt me (ds0.drop i) ρ' acc=.ok (Qi8,ρF),⟨ds0.length,by simp,z49 _,F1,ρb,[],f,IB,rfl,Qn.refl _,by rw[zm1];exact ec⟩,?_⟩
  rintro i mm ys H2 ⟨rfl,hi2,F2,ρ2,acc,fp2,I2,lya,s2,k2⟩
  by_cases hlt:i<ds0.length
  ·obtain⟨d,ed⟩:∃d,ds0[i]? = some d:=⟨ds0[i],z03 hlt⟩
   obtain⟨g1,g2⟩:=it.go I2 s2 ed
   have edr:ds0.drop i=d::ds0.drop (i+1):=by
    rw[z93 hlt]
    have:ds0[i]=d:=by rw[z03 hlt] at ed;exact z27 ed
    rw[this]
   rw[edr] at k2
   unfold Yj at k2
   cases es:tg d ρ2 with
   |none=>rw[es] at k2;cases k2
   |some ρ3=>
    rw[es] at k2
    change (mt ρ3).bind _=_ at k2
    refine .inr ⟨g1,fun ys' H'=>∃F' ρ' acc fp',SI Cb F' H' (QM (cs.map Cp.ix) σ) ρ' ((ys'.zip acc).reverse) fp'/\ys'.length=acc.length/\Qn F1 F'/\Yj tg cz mt me (ds0.drop (i+1)) ρ' acc=.ok (Qi8,ρF),fun ys' H' z=>⟨_,by omega,rfl,hlt,z⟩,fun x0 H' y=>?_⟩
    obtain⟨F3,I3,n3,r3⟩:=g2 x0 H' y
    have s3:Qn F1 F3:=s2.trans n3.f
    obtain⟨σ',fp4,I4,ex,gq,clr⟩:=tgk (Cb:=Cb) rfl npk I3 r3 es
    refine gq _ ⟨ex,?_⟩
    cases et:mt ρ3 with
    |no=>rw[et] at k2;cases k2
    |ex c q=>rw[et] at k2;cases k2
    |ok q=>
     obtain⟨c,ρ5⟩:=q
     rw[et] at k2
     change (if c=true then _ else _)=_ at k2
     refine⟨Cb,rfl,F3,ρ3,_,fp4,I4,Run.ef et fun F5 H5 fp5 I5 n5=>?_⟩
     have s5:Qn F1 F5:=s3.trans n5.f
     change (if c=true then _ else _)
     by_cases hc:c=true
     ·rw[if_pos hc] at k2 ⊢
      cases ee:me ρ5 with
      |no=>rw[ee] at k2;cases k2
      |ex c q=>rw[ee] at k2;cases k2
      |ok q=>
       obtain⟨d6,ρ6⟩:=q
       rw[ee] at k2
       change (if acc.length<z20 then _ else _)=_ at k2
       refine⟨Cb,rfl,F5,ρ5,_,fp5,I5,Run.ef ee fun F6 H6 fp6 v6 I6 n6 _=>?_⟩
       by_cases hz:acc.length<z20
       ·rw[if_pos hz] at k2
        refine⟨by rw[lya];exact hz,?_⟩
        obtain⟨fp7,I7⟩:=clr I6
        refine⟨F6,_,acc++[d6],fp7,?_,by simp[lya],s5.trans n6.f,k2⟩
        have ez:((ys++[v6]).zip (acc++[d6])).reverse=(v6,d6)::(ys.zip acc).reverse:=by
         rw[zr6 lya,zm6]
         rfl
        rw[ez]
        exact I7
       ·rw[if_neg hz] at k2;cases k2
     ·rw[if_neg hc] at k2 ⊢
      obtain⟨fp7,I7⟩:=clr I5
      exact⟨F5,_,acc,fp7,I7,lya,s5,k2⟩
  ·have e:i=ds0.length:=by omega
   subst e
   rw[zq3] at k2
   unfold Yj at k2
   cases k2
   refine .inl ⟨it.stop I2 s2,fun Dd hD=>?_⟩
   obtain⟨f1,g1,t1,sl,ot,pm2,w1,w2,w3⟩:=I2.sl
   have og:=Qfo (j0:=0) (vs:=vsB cs vi) sl eo V7 (fun i u hi=>⟨i,by omega,(I2.pr i u hi).1⟩)
   rw[QaX sg] at og
   have ot':OL Cb.K F2 H2 ys.reverse Qi8.reverse t1:=by
    have e1:((ys.zip Qi8).reverse).map (·.1)=ys.reverse:=by rw[List.map_reverse,Qfp lya]
    have e2:((ys.zip Qi8).reverse).map (·.2)=Qi8.reverse:=by rw[List.map_reverse,Qfq lya]
    rw[e1,e2] at ot
    exact ot
   obtain⟨t2,oy,pt⟩:=Qlx ot'
   rw[zw7,zw7] at oy
   have Qoh:=pm2.nodup_iff.mp I2.nd
   have inn:∀a,a∈f1\/a∈g1\/a∈t1->a∈fp2:=fun a z=>pm2.mem_iff.mpr (by simpa using z)
   have Qg5:∀a∈fp2,H2 a≠none:=fun a ha z=>by
    obtain⟨o,e,_⟩:=I2.mem a ha
    rw[z] at e;cases e
   have Qap:∀a∈fp1,H1 a≠none:=fun a ha z=>by
    obtain⟨o,e,_⟩:=I1.mem a ha
    rw[z] at e;cases e
   have nD:∀a,H2 a≠none->a≠Dd:=fun a h z=>h (z▸hD)
   have hkeep:∀b o,H1 b=some o->b∉f->H2 b=some o:=fun b o e n=>I2.kp b o e n
   have H1D:H1 Dd=none:=I2.dm Dd hD
   have fD:F2 Dd=none:=I2.fh.free hD
   have sH:Qn H2 (upd H2 Dd (.lst ys)):=Qn.upd hD
   have og':OL C.K F2 (upd H2 Dd (.lst ys)) vi os g1:=by
    rw[hK]
    exact og.keep (Qn.refl _) fun a ha=>Qg (nD a (Qg5 a (inn a (.inr (.inl ha)))))
   have oy':OL C.K F2 (upd H2 Dd (.lst ys)) ys Qi8 t2:=by
    rw[hK]
    exact oy.keep (Qn.refl _) fun a ha=>Qg (nD a (Qg5 a (inn a (.inr (.inr (pt.mem_iff.mpr ha))))))
   have Qpy:∀a,(a∈g1\/a∈t1)->a∉rest:=fun a z hr=>by
    rcases z with z|z
    ·rcases w3 a z with y|y
     ·exact dis a hr y
     ·exact Qap a (inr a hr) y
    ·exact Qap a (inr a hr) (w2 a z)
   have ndg:g1.Nodup:=(z07.mp (z07.mp Qoh).2.1).1
   have ndt:t2.Nodup:=pt.nodup_iff.mp (z07.mp (z07.mp Qoh).2.1).2.1
   have Qoi:∀a∈g1,a∉t2:=fun a ha hb=>(z07.mp (z07.mp Qoh).2.1).2.2 a ha a (pt.mem_iff.mpr hb) rfl
   have apr:∀a∈rest,F2 a=none:=fun a ha=>by
    cases e:F2 a with
    |none=>rfl
    |some o=>
     rcases I2.fn a o e with z|z
     ·exact absurd (show F1 a=some o from z) (by rw[I1.ap a (inr a ha)];simp)
     ·obtain⟨o2,e2,m2⟩:=I1.mem a (inr a ha)
      exact(z.not (show Cb.H₀ a≠none from Qap a (inr a ha)) (I2.fh a o e) (hkeep a o2 e2 (dis a ha)) m2).elim
   have JJ:=cl (F':=F2) (H':=upd H2 Dd (.lst ys)) s2 (I2.fh.trans sH) (fun a ha=>by
    obtain⟨o,e,_⟩:=I1.mem a (inr a ha)
    rw[e]
    exact sH a o (hkeep a o e (dis a ha))) (fun b e=>I2.dm b (sH.free e)) (fun b o e n z=>sH b o (hkeep b o z fun hb=>by
     rcases w b hb with y|y
     ·rw[y] at e;cases e
     ·exact n y.2)) (fun b o e=>(I2.fn b o e).imp id fun z=>z.up fun y=>I1.dm b y) og' (z07.mpr ⟨ndg,(z07.mp ndp).2.1,fun a ha b hb z=>Qpy a (.inl ha) (z▸hb)⟩) (fun a ha=>(z04.mp ha).elim (fun z=>I2.ap a (inn a (.inr (.inl z)))) (apr a)) (fun a ha=>(w3 a ha).elim (w a) fun z=>.inl (I1.dm a z))
   have Qfk:((Dd::t2)++(g1++rest)).Nodup:=by
    refine z07.mpr ⟨z53.mpr ⟨fun z=>Qg5 Dd (inn Dd (.inr (.inr (pt.mem_iff.mpr z)))) hD,ndt⟩,JJ.nd,fun a ha b hb z=>?_⟩
    subst z
    rcases z26.mp ha with rfl|ha
    ·rcases z04.mp hb with y|y
     ·exact Qg5 _ (inn _ (.inr (.inl y))) hD
     ·exact Qap _ (inr _ y) H1D
    ·rcases z04.mp hb with y|y
     ·exact Qoi a y ha
     ·exact Qpy a (.inr (pt.mem_iff.mpr ha)) y
   refine h4 F2 _ _ (.ref Dd) (JJ.push (.mt (t:=.lst) (show upd H2 Dd (.lst ys) Dd=some (.lst ys) from Ql) oy') (fun a ha=>?_) (fun a ha=>?_) Qfk) (n1.trans (q:=p) ⟨s2,fun hpp b o e=>?_⟩) z59
   ·rcases z26.mp ha with rfl|ha
    ·exact I1.dm _ H1D
    ·exact I1.dm a (w2 a (pt.mem_iff.mpr ha))
   ·rcases z26.mp ha with rfl|ha
    ·exact fD
    ·exact I2.ap a (inn a (.inr (.inr (pt.mem_iff.mpr ha))))
   ·have ef0:f=[]:=by
     rw[hp hpp] at sg
     cases sg
     cases ol
     rfl
    subst ef0
    by_cases hb:b∈fp1
    ·have hb':b∈rest:=by simpa using pm.mem_iff.mp hb
     rw[Jl hb] at e
     rw[Jl (z01 _ (z01 _ hb'))]
     exact sH b o (hkeep b o e (by simp))
    ·rw[QG hb] at e
     have e2:=s2 b o e
     rw[QG]
     ·exact e2
     ·intro hm
      rcases z04.mp hm with y|y
      ·rcases z26.mp y with rfl|y
       ·rw[fD] at e2;cases e2
       ·rw[I2.ap b (inn b (.inr (.inr (pt.mem_iff.mpr y))))] at e2;cases e2
      ·rcases z04.mp y with y|y
       ·rw[I2.ap b (inn b (.inr (.inl y)))] at e2;cases e2
       ·rw[I1.ap b (inr b y)] at e;cases e
theorem QaY {j:Nat}{tc:MT}{te:ME}:∀{ds:List D} {ρ:Rho} {acc:List D},Vg j tc te ds ρ acc=Yj (fun d ρ=>YC ρ j d) (fun ρ=>ρ.set j none) tc te ds ρ acc
 | [],ρ,acc=>rfl
 |d::ds,ρ,acc=>by
  unfold Vg Yj
  congr 1;funext ρ0;congr 1;funext c
  split
  ·congr 1;funext r;split
   ·exact QaY
   ·rfl
  ·exact QaY
theorem Qi9 {ρ:Rho}:YT par cs j mi mt me ρ=(mi ρ).bind (Qg3 par cs (fun d ρ=>YC ρ j d) (fun ρ=>ρ.set j none) mt me):=by
 unfold YT Qg3
 simp only[QaY]
theorem Qja {σ:L2.St}(hj:cs[j]? = some .me):Qpx X.K cs (QM (cs.map Cp.ix) σ) (fun d ρ=>YC ρ j d) (fun ρ=>ρ.set j none) (VL j):=fun{Cb F H ρ ρ' τ fp x d} hK np I r e=>by
 have hb:(QM (cs.map Cp.ix) σ)[j]? = some none:=by
  unfold QM
  rw[z31,z31,hj]
  rfl
 obtain⟨fp',I2,_⟩:=SI.YC I r e
 refine⟨_,fp',I2,⟨zg2 ..,fun i u e=>?_⟩,fun Q q=>q,fun I3=>SI.clr (x:=x) I3 hb (np j hj)⟩
 by_cases q:j=i
 ·subst q;rw[hb] at e;cases e
 ·rw[z57 q];exact e
theorem QbV (hK:C.K=X.K)(hj:cs[j]? = some .me)(nd:(cs.filterMap Cp.is).Nodup)(hp:p=true->cs.filterMap Cp.is=[]){σ:L2.St}{H:Hp}{Q:VK}(h:tX .O C (pa && p) E (YT par cs j mi mt me) σ H Q):QcZ (tI C pa E mi) (cs.map Cp.ix) (VL j) (exT X.K pc mt) (exX .O X.K pe me) σ H Q:=by
 obtain⟨F,ρ,τ,fp,I,h⟩:=h
 rw[Qi9] at h
 exact⟨F,ρ,τ,fp,I,h.split.mono fun r hr F1 H1 fp1 J I1 n1 it=>Qg4 hK nd hp (Qja hj) I1 n1 (fun Cb h1 _ _ _=>⟨fun I s e=>h1▸it.go h1 I s e,fun I s=>it.stop h1 I s⟩) hr⟩
theorem Qfs (hK:C.K=X.K)(hc:X.calm=true)(B:Blk X scope N (cs.map Cp.ix))(hjN:N[j]? = some x)(hj:cs[j]? = some .me)(hx:scope.names.lookup x=some .local)(hi:PI X (.Name x px) iter (tI C pa E mi))
  (ht:∀pins c s H ex,PIf (X.blk scope N pins c s H ex) ifs (exT X.K pc mt)) (he:∀pins c s H ex,PE (X.blk scope N pins c s H ex) elt (exX .O X.K pe me)) (nd:(cs.filterMap Cp.is).Nodup:=by decide) (hp:p=true->cs.filterMap Cp.is=[]:=by decide)
  (hs:∀x,foldedSetIterable iter X.env x=pure x:=by intro _;rfl):PE X (.ListComp elt [⟨.Name x px,iter,ifs,0⟩] scope pos) (tX .O C (pa && p) E (YT par cs j mi mt me)):=
 Qo (QgK hc B hi (fun _ _ _ _ _=>QW (i:=j) B.nd hjN (.inl (lookup_relabel_local hx)) (.inr (lookup_relabel_local hx))) ht he hs) fun _ _ _ h=>QbV hK hj nd hp h
end
instance {i j:Int}:Decidable (Qcc i j):=by unfold Qcc;infer_instance
instance {i j:Int}:Decidable (Qka i j):=by unfold Qka;infer_instance
instance {i j:Int}:Decidable (Qcq i j):=by unfold Qcq;infer_instance
noncomputable def gI0 (f:Int->Int->D):D->D->Option D
 |.int i,.int j=>some (f i j)
 |_,_=>none
noncomputable def gIc (c:Int->Int->Prop)[∀i j,Decidable (c i j)](f:Int->Int->D):D->D->Option D
 |.int i,.int j=>if c i j then some (f i j) else none
 |_,_=>none
section
variable {K:z02}
theorem Qft {f:Int->Int->D}{g:Int->Int->V}(h:∀i j,(f i j).sc=some (g i j)):OpD K (rI0 g) (gI0 f):=fun H v u d e res r q eg=>by
 unfold gI0 at eg
 split at eg
 ·next i j=>
  cases eg
  obtain rfl:=r.Qv (w:=.int i) rfl
  obtain rfl:=q.Qv (w:=.int j) rfl
  exact⟨_,h i j,fun Q hq=>⟨i,j,rfl,rfl,hq⟩⟩
 ·cases eg
theorem Qg6 {c:Int->Int->Prop}[∀i j,Decidable (c i j)]{f:Int->Int->D}{g:Int->Int->V}(h:∀i j,(f i j).sc=some (g i j)):OpD K (rI c g) (gIc c f):=fun H v u d e res r q eg=>by
 unfold gIc at eg
 split at eg
 ·next i j=>
  by_cases cc:c i j
  ·rw[if_pos cc] at eg;cases eg
   obtain rfl:=r.Qv (w:=.int i) rfl
   obtain rfl:=q.Qv (w:=.int j) rfl
   exact⟨_,h i j,fun Q hq=>⟨i,j,rfl,rfl,cc,hq⟩⟩
  ·rw[if_neg cc] at eg;cases eg
 ·cases eg
def Qoj:=gI0 fun i j=>.int (i+j)
def Qib:=gI0 fun i j=>.int (i - j)
def Qpz:=gIc Qcc fun i j=>.int (i * j)
def QpA:=gIc Qcq fun i j=>.int (i / j)
def QpB:=gIc (fun _ j=>0<j) fun i j=>.int (i % j)
def QpC:=gIc Qka fun i j=>.int (i ^ j.toNat)
def gLt:=gI0 fun i j=>.bl (decide (i<j))
def gLe:=gI0 fun i j=>.bl (decide (i<=j))
def gGt:=gI0 fun i j=>.bl (decide (j<i))
def gGe:=gI0 fun i j=>.bl (decide (j<=i))
theorem Qbk:OpD K (rI0 fun i j=>.int (i+j)) Qoj:=Qft fun _ _=>rfl
theorem QlA:OpD K (rI0 fun i j=>.int (i - j)) Qib:=Qft fun _ _=>rfl
theorem QhP:OpD K (rI Qcc fun i j=>.int (i * j)) Qpz:=Qg6 fun _ _=>rfl
theorem Qqp:OpD K (rI Qcq fun i j=>.int (i / j)) QpA:=Qg6 fun _ _=>rfl
theorem Qnr:OpD K (rI (fun _ j=>0<j) fun i j=>.int (i % j)) QpB:=Qg6 fun _ _=>rfl
theorem Qqq:OpD K (rI Qka fun i j=>.int (i ^ j.toNat)) QpC:=Qg6 fun _ _=>rfl
theorem dLt:OpD K (rI0 fun i j=>.bl (decide (i<j))) gLt:=Qft fun _ _=>rfl
end
def Qbl (f:D->D->Option Bool):List D->List D->Option Bool
 |x::xs,y::ys=>(f x y).bind fun a=>(Qbl f xs ys).map fun b=>a && b
 |_,_=>some true
def eqS (x y:V):Option Bool:=if(Qkz x y && Qbz x && Qbz y)=true then some (decide (x=y)) else none
def Qok (f:D->D->Option Bool):D->D->Option Bool
 |.nd .lst xs,.nd .lst ys=>if xs.length=ys.length then Qbl f xs ys else some false
 |.nd .tup xs,.nd .tup ys=>if xs.length=ys.length then Qbl f xs ys else(Qbl f xs ys).map fun _=>false
 |d,e=>d.sc.bind fun x=>e.sc.bind fun y=>eqS x y
noncomputable def eqb:Nat->D->D->Option Bool
 |0=>fun _ _=>none
 |n+1=>Qok (eqb n)
theorem QaZ {n:Nat}{d e:D}{b:Bool}(h:eqb (n+1) d e=some b) :
  (∃xs ys,d=.nd .lst xs/\e=.nd .lst ys/\((xs.length=ys.length/\Qbl (eqb n) xs ys=some b)\/(xs.length≠ys.length/\b=false)))\/
  (∃xs ys c,d=.nd .tup xs/\e=.nd .tup ys/\Qbl (eqb n) xs ys=some c/\b=(c && xs.length == ys.length))\/
  (∃x y,d.sc=some x/\e.sc=some y/\eqS x y=some b):=by
 replace h:Qok (eqb n) d e=some b:=h
 unfold Qok at h
 split at h
 ·next xs ys=>
  left
  refine⟨xs,ys,rfl,rfl,?_⟩
  by_cases c:xs.length=ys.length
  ·rw[if_pos c] at h;exact .inl ⟨c,h⟩
  ·rw[if_neg c] at h;cases h;exact .inr ⟨c,rfl⟩
 ·next xs ys=>
  right;left
  by_cases c:xs.length=ys.length
  ·rw[if_pos c] at h;exact⟨xs,ys,b,rfl,rfl,h,by simp[c]⟩
  ·rw[if_neg c] at h
   obtain⟨c',h1,h2⟩:=z05.mp h
   exact⟨xs,ys,c',rfl,rfl,h1,by simp[c,h2.symm]⟩
 ·right;right
  obtain⟨x,h1,h2⟩:=z28.mp h
  obtain⟨y,h3,h4⟩:=z28.mp h2
  exact⟨x,y,h1,h3,h4⟩
theorem Qdl {f:D->D->Option Bool}:∀{xs ys:List D} {b:Bool},Qbl f xs ys=some b->∃e:Nat->Bool,(∀j x y,xs[j]? = some x->ys[j]? = some y->f x y=some (e j))/\(z47 (min xs.length ys.length)).all e=b
 | [],ys,b,h=>by
  unfold Qbl at h;cases h
  exact⟨fun _=>true,fun j x y h=>by simp at h,by simp⟩
 |x::xs,[],b,h=>by
  unfold Qbl at h;cases h
  exact⟨fun _=>true,fun j x y _ h=>by simp at h,by simp⟩
 |x::xs,y::ys,b,h=>by
  unfold Qbl at h
  obtain⟨a,h1,h2⟩:=z28.mp h
  obtain⟨c,h3,rfl⟩:=z05.mp h2
  obtain⟨e,k1,k2⟩:=Qdl h3
  refine⟨fun j=>match j with|0=>a|j+1=>e j,fun j x' y' hx hy=>?_,?_⟩
  ·cases j with
   |zero=>simp at hx hy;subst hx hy;exact h1
   |succ j=>exact k1 j x' y' (by simpa using hx) (by simpa using hy)
  ·have em:min (x::xs).length (y::ys).length=min xs.length ys.length+1:=by simp
   rw[em,List.range_succ_eq_map,List.all_cons,List.all_map,← k2]
   rfl
theorem RL.QpD {K:z02}{F:Hp}{vs:List L2.V}{ds:List D}{i:Nat}{v:L2.V}(r:RL K F vs ds)(e:vs[i]? = some v):∃d,ds[i]? = some d/\R K F v d:=by
 induction i generalizing vs ds with
 |zero=>cases r with
  |nil=>simp at e
  |cons h r=>simp at e;subst e;exact⟨_,rfl,h⟩
 |succ i ih=>cases r with
  |nil=>simp at e
  |cons h r=>
   obtain⟨v,h1,h2⟩:=ih r (by simpa using e)
   exact⟨v,by simpa using h1,h2⟩
theorem Qg7 {x y:V}{b:Bool}(h:eqS x y=some b):Qkz x y=true/\Qbz x=true/\Qbz y=true/\b=decide (x=y)/\eqV x y=decide (x=y):=by
 unfold eqS at h
 by_cases c:(Qkz x y && Qbz x && Qbz y)=true
 ·rw[if_pos c] at h;cases h
  have c0:=c
  rw[z72,z72] at c
  refine⟨c.1.1,c.1.2,c.2,rfl,?_⟩
  cases x<;>cases y<;>first
   |rfl
   |(rw[Qcd];rfl)
   |(rw[Qet];rfl)
   |(rw[Qce];rfl)
   |exact absurd (show false=true from c.1.1) (by decide)
   |exact absurd (show false=true from c.1.2) (by decide)
   |exact absurd (show false=true from c.2) (by decide)
   |(simp[eqV];done)
 ·rw[if_neg c] at h;cases h
section
variable {X:Cx}{pins:List (Addr×Obj)}{σ:L2.St}{H:Hp}{s:Shared}
theorem Qa0 (I:Inv X pins σ H s):∀{n:Nat} {v:L2.V} {d e:D} {b:Bool},R X.K H v d->R X.K H v e->eqb n d e=some b->b=true
 |0,_,_,_,_,_,_,h=>by cases h
 |n+1,v,d,e,b,r,q,h=>by
  have key:∀{vs:List L2.V} {xs ys:List D} {c:Bool},RL X.K H vs xs->RL X.K H vs ys->Qbl (eqb n) xs ys=some c->c=true:=by
   intro vs
   induction vs with
   |nil=>intro xs ys c h1 h2 h3;cases h1;cases h2;unfold Qbl at h3;cases h3;rfl
   |cons v vs ih=>
    intro xs ys c h1 h2 h3
    cases h1 with
    |cons a1 b1=>
     cases h2 with
     |cons a2 b2=>
      unfold Qbl at h3
      obtain⟨a,e1,e2⟩:=z28.mp h3
      obtain⟨c',e3,rfl⟩:=z05.mp e2
      rw[Qa0 I a1 a2 e1,ih b1 b2 e3]
      rfl
  rcases QaZ h with⟨xs,ys,rfl,rfl,hh⟩|⟨xs,ys,c,rfl,rfl,hh,rfl⟩|⟨x,y,hx,hy,hh⟩
  ·obtain⟨a,vs,rfl,a1,l1⟩:=r.inv
   obtain⟨a',vs',e',a2,l2⟩:=q.inv
   cases e'
   have ev:=I.QcT a1.sql a2.sql
   subst ev
   rcases hh with⟨_,hh⟩|⟨hh,_⟩
   ·exact key l1 l2 hh
   ·exact absurd (by rw[← l1.length,← l2.length]) hh
  ·obtain⟨a,vs,rfl,a1,l1⟩:=r.inv
   obtain⟨a',vs',e',a2,l2⟩:=q.inv
   cases e'
   have ev:=I.Qbo a1.sqt a2.sqt
   subst ev
   rw[key l1 l2 hh]
   simp[← l1.length,← l2.length]
  ·obtain⟨_,_,_,rfl,_⟩:=Qg7 hh
   have e1:=r.Qv hx
   have e2:=q.Qv hy
   exact decide_eq_true (e1.symm.trans e2)
theorem Qay (I:Inv X pins σ H s){n:Nat}{A:Around}(hu:A.units<cLine)(cmp:∀{v u:L2.V} {d e:D} {b:Bool} {p q:Value},R X.K H v d->R X.K H u e->RelV v p->RelV u q->eqb n d e=some b->zo2 A.in1 s p q b){a a':Addr}{vs us:List L2.V}{xs ys:List D}(l1:RL X.K H vs xs)(l2:RL X.K H us ys){c:Bool}(h:Qbl (eqb n) xs ys=some c) :
  (SqL X.K H a vs->SqL X.K H a' us->xs.length=ys.length->zx7 A s (.ref a) (.ref a') c/\zv0 A s (.ref a) (.ref a') (!c))/\(SqT X.K H a vs->SqT X.K H a' us->zx7 A s (.ref a) (.ref a') (c && xs.length == ys.length)/\zv0 A s (.ref a) (.ref a') (!(c && xs.length == ys.length))):=by
 obtain⟨e,k1,k2⟩:=Qdl h
 have key:∀{its its2:List Value},Vals vs its->Vals us its2->∀j (h1:j<its.toArray.size) (h2:j<its2.toArray.size),zo2 A.in1 s its.toArray[j] its2.toArray[j] (e j):=fun{its its2} rv rv2 j h1 h2=>by
  rw[z21] at h1 h2
  have z1:=rv.length
  have z2:=rv2.length
  obtain⟨v,hv⟩:∃v,vs[j]? = some v:=⟨vs[j]'(by omega),z03 _⟩
  obtain⟨w,hw⟩:∃v,us[j]? = some v:=⟨us[j]'(by omega),z03 _⟩
  obtain⟨p,hp,rp⟩:=rv.get hv
  obtain⟨q,hq,rq⟩:=rv2.get hw
  obtain⟨x,hx,rx⟩:=l1.QpD hv
  obtain⟨y,hy,ry⟩:=l2.QpD hw
  have q1:its.toArray[j]=p:=by
   rw[z03 h1] at hp
   simpa using z27 hp
  have q2:its2.toArray[j]=q:=by
   rw[z03 h2] at hq
   simpa using z27 hq
  rw[q1,q2]
  exact cmp rx ry rp rq (k1 j x y hx hy)
 have e1:=l1.length
 have e2:=l2.length
 refine⟨fun a1 a2 hl=>?_,fun a1 a2=>?_⟩
 ·obtain⟨its,rv,p,_⟩:=I.list a1
  obtain⟨its2,rv2,p2,_⟩:=I.list a2
  have z1:=rv.length
  have z2:=rv2.length
  have es:its.toArray.size=its2.toArray.size:=by rw[z21,z21];omega
  have ec:(z47 its.toArray.size).all e=c:=by
   rw[← k2,z21,← z1,e1]
   congr 2
   omega
  rw[← ec]
  exact⟨SeqAt.RcAt.lists p.isList p2.isList es hu (key rv rv2),SeqAt.RcNeAt.lists p.isList p2.isList es hu (key rv rv2)⟩
 ·obtain⟨its,rv,p,_⟩:=I.tuple a1
  obtain⟨its2,rv2,p2,_⟩:=I.tuple a2
  have z1:=rv.length
  have z2:=rv2.length
  have ec:((z47 (min its.toArray.size its2.toArray.size)).all e && its.toArray.size == its2.toArray.size)=(c && xs.length == ys.length):=by
   rw[← k2,z21,z21,← z1,← z2,e1,e2]
  rw[← ec]
  exact⟨zu3 p p2 hu (key rv rv2),SeqAt.RcNeAt.tuples p p2 hu (key rv rv2)⟩
theorem Qfu (I:Inv X pins σ H s){A:Around}(hu:A.units<cLine){a a':Addr}{vs us:List L2.V}(a1:SqL X.K H a vs)(a2:SqL X.K H a' us)(hl:vs.length≠us.length):zx7 A s (.ref a) (.ref a') false/\zv0 A s (.ref a) (.ref a') true:=by
 obtain⟨its,rv,p,_⟩:=I.list a1
 obtain⟨its2,rv2,p2,_⟩:=I.list a2
 have z1:=rv.length
 have z2:=rv2.length
 have es:(its.toArray.size != its2.toArray.size)=true:=by rw[z21,z21];simp;omega
 exact⟨SeqAt.RcAt.lists_lengths p.isList p2.isList es hu,SeqAt.RcNeAt.lists_lengths p.isList p2.isList es hu⟩
theorem Qd1 (I:Inv X pins σ H s):∀{n:Nat} {A:Around},A.units+n<cLine->∀{v u:L2.V} {d e:D} {b:Bool} {p q:Value},R X.K H v d->R X.K H u e->RelV v p->RelV u q->eqb n d e=some b->zo2 A s p q b
 |0,_,_,_,_,_,_,_,_,_,_,_,_,_,h=>by cases h
 |n+1,A,hu,v,u,d,e,b,p,q,r,r',rp,rq,h=>by
  have hA:A.in1.units+n<cLine:=by show A.units+1+n<cLine;omega
  have hu':A.units<cLine:=by omega
  rcases QaZ h with⟨xs,ys,rfl,rfl,hh⟩|⟨xs,ys,c,rfl,rfl,hh,rfl⟩|⟨x,y,hx,hy,hh⟩
  ·obtain⟨a,vs,rfl,a1,l1⟩:=r.inv
   obtain⟨a',us,rfl,a2,l2⟩:=r'.inv
   cases rp;cases rq
   by_cases ea:a=a'
   ·subst ea
    rw[Qa0 I r r' h]
    exact zj2 _
   ·refine zk8 ea ?_
    rcases hh with⟨hl,hh⟩|⟨hl,rfl⟩
    ·exact((Qay I hu' (fun r1 r2 p1 p2 e1=>Qd1 I hA r1 r2 p1 p2 e1) l1 l2 hh).1 a1.sql a2.sql hl).1
    ·exact(Qfu I hu' a1.sql a2.sql (by rw[l1.length,l2.length];exact hl)).1
  ·obtain⟨a,vs,rfl,a1,l1⟩:=r.inv
   obtain⟨a',us,rfl,a2,l2⟩:=r'.inv
   cases rp;cases rq
   by_cases ea:a=a'
   ·subst ea
    rw[Qa0 I r r' h]
    exact zj2 _
   ·exact zk8 ea ((Qay I hu' (fun r1 r2 p1 p2 e1=>Qd1 I hA r1 r2 p1 p2 e1) l1 l2 hh).2 a1.sqt a2.sqt).1
  ·obtain⟨_,f1,f2,rfl,ev⟩:=Qg7 hh
   obtain rfl:=r.Qv hx
   obtain rfl:=r'.Qv hy
   rw[← ev]
   exact QkP rp rq f1 f2
end
def Qkd (K:z02)(n:Nat)(f:Bool->Bool):R2:=fun x y H Q=>∃d e b,R K H x d/\R K H y e/\eqb n d e=some b/\Q (.bl (f b)) H
section
variable {X:Cx}
theorem V8 {n:Nat}(hu:X.A.units+n<cLine):OpR X (compareOp .Eq) (Qkd X.K n id):=by
 intro pins s σ H x y v u Q I rx ry h
 obtain⟨d,e,b,r,r',he,q⟩:=h
 cases n with
 |zero=>cases he
 |succ n=>
  have hA:X.A.in1.units+n<cLine:=by show X.A.units+1+n<cLine;omega
  have hu':X.A.units<cLine:=by omega
  rcases QaZ he with⟨xs,ys,rfl,rfl,hh⟩|⟨xs,ys,c,rfl,rfl,hh,rfl⟩|⟨x',y',hx,hy,hh⟩
  ·obtain⟨a,vs,rfl,a1,l1⟩:=r.inv
   obtain⟨a',us,rfl,a2,l2⟩:=r'.inv
   cases rx;cases ry
   rcases hh with⟨hl,hh⟩|⟨hl,rfl⟩
   ·exact((Qay I hu' (fun r1 r2 p1 p2 e1=>Qd1 I hA r1 r2 p1 p2 e1) l1 l2 hh).1 a1.sql a2.sql hl).1 _ _ _ _ ⟨.bl _,H,I,rfl,q⟩
   ·exact(Qfu I hu' a1.sql a2.sql (by rw[l1.length,l2.length];exact hl)).1 _ _ _ _ ⟨.bl _,H,I,rfl,q⟩
  ·obtain⟨a,vs,rfl,a1,l1⟩:=r.inv
   obtain⟨a',us,rfl,a2,l2⟩:=r'.inv
   cases rx;cases ry
   exact((Qay I hu' (fun r1 r2 p1 p2 e1=>Qd1 I hA r1 r2 p1 p2 e1) l1 l2 hh).2 a1.sqt a2.sqt).1 _ _ _ _ ⟨.bl _,H,I,rfl,q⟩
  ·obtain⟨sc,f1,f2,rfl,ev⟩:=Qg7 hh
   obtain rfl:=r.Qv hx
   obtain rfl:=r'.Qv hy
   exact Jo pins s σ H x y v u Q I rx ry ⟨sc,q⟩
theorem Qfv {n:Nat}(hu:X.A.units+n<cLine):OpR X (compareOp .NotEq) (Qkd X.K n not):=by
 intro pins s σ H x y v u Q I rx ry h
 obtain⟨d,e,b,r,r',he,q⟩:=h
 cases n with
 |zero=>cases he
 |succ n=>
  have hA:X.A.in1.units+n<cLine:=by show X.A.units+1+n<cLine;omega
  have hu':X.A.units<cLine:=by omega
  rcases QaZ he with⟨xs,ys,rfl,rfl,hh⟩|⟨xs,ys,c,rfl,rfl,hh,rfl⟩|⟨x',y',hx,hy,hh⟩
  ·obtain⟨a,vs,rfl,a1,l1⟩:=r.inv
   obtain⟨a',us,rfl,a2,l2⟩:=r'.inv
   cases rx;cases ry
   rcases hh with⟨hl,hh⟩|⟨hl,rfl⟩
   ·exact((Qay I hu' (fun r1 r2 p1 p2 e1=>Qd1 I hA r1 r2 p1 p2 e1) l1 l2 hh).1 a1.sql a2.sql hl).2 _ _ _ _ ⟨.bl _,H,I,rfl,q⟩
   ·exact(Qfu I hu' a1.sql a2.sql (by rw[l1.length,l2.length];exact hl)).2 _ _ _ _ ⟨.bl _,H,I,rfl,q⟩
  ·obtain⟨a,vs,rfl,a1,l1⟩:=r.inv
   obtain⟨a',us,rfl,a2,l2⟩:=r'.inv
   cases rx;cases ry
   exact((Qay I hu' (fun r1 r2 p1 p2 e1=>Qd1 I hA r1 r2 p1 p2 e1) l1 l2 hh).2 a1.sqt a2.sqt).2 _ _ _ _ ⟨.bl _,H,I,rfl,q⟩
  ·obtain⟨sc,f1,f2,rfl,ev⟩:=Qg7 hh
   obtain rfl:=r.Qv hx
   obtain rfl:=r'.Qv hy
   exact QnL pins s σ H x y v u Q I rx ry ⟨sc,q⟩
def inL (f:D->D->Option Bool)(x:D):List D->Option Bool
 | []=>some false
 |y::ys=>(f y x).bind fun a=>(inL f x ys).map fun b=>a || b
noncomputable def inb (n:Nat):D->D->Option Bool
 |x,.nd .lst ys=>inL (eqb n) x ys
 |x,.nd .tup ys=>inL (eqb n) x ys
 |_,_=>none
end
def gEq (d e:D):Option D:=(eqb 30 d e).map .bl
def gNe (d e:D):Option D:=(eqb 30 d e).map fun b=>.bl (!b)
def gIn (d e:D):Option D:=(inb 30 d e).map .bl
section
variable {K:z02}
theorem dEq:OpD K (Qkd K 30 id) gEq:=fun H v u d e res r q eg=>by
 obtain⟨b,hb,rfl⟩:=z05.mp eg
 exact⟨_,rfl,fun Q hq=>⟨d,e,b,r,q,hb,hq⟩⟩
theorem dNe:OpD K (Qkd K 30 not) gNe:=fun H v u d e res r q eg=>by
 obtain⟨b,hb,rfl⟩:=z05.mp eg
 exact⟨_,rfl,fun Q hq=>⟨d,e,b,r,q,hb,hq⟩⟩
end
end TL
namespace TL
open PySem PySem.Spec L2
section
variable {X:Cx}{C:Cn}{E:XE}{pa:Bool}{a c:Expr}{m ma mb mc:ME}{mr:MA}{pos:Pos}{ka:Kd}
def Qns:D->Option D
 |.int i=>some (.int (-i))
 |_=>none
def mUn (g:D->Option D)(m:ME):ME:=fun ρ=>(m ρ).bind fun r=>Rs.of ((g r.1).map fun d=>(d,r.2))
theorem QlB (ha:PE X a (tX ka C pa E ma))(ok:ka.on true=true:=by rfl):PE X (.UnaryOp .USub a pos) (tX .V C pa E (mUn Qns ma)):=Qo (QnK Qky ha) fun σ H Q ⟨F,ρ,τ,fp,I,h⟩=>by
 refine⟨F,ρ,τ,fp,I,h.split.mono fun r1 h1 F1 H1 fp1 v1 I1 n1 f1=>?_⟩
 rw[Kd.JL ok] at I1
 obtain⟨z,ez,h3⟩:=h1.of
 obtain⟨res,eg,rfl⟩:=z05.mp ez
 have rr:=Kd.stay ok f1 .refl I1
 unfold Qns at eg
 split at eg
 ·next i ei=>
  cases eg
  rw[ei] at rr
  exact⟨i,rr.Qv rfl,h3 F1 H1 fp1 _ I1 n1 (.sc rfl)⟩
 ·cases eg
def QhQ (g g':D->D->Option D)(ma mb mc:ME):ME:=fun ρ=>(ma ρ).bind fun r1=>(mb r1.2).bind fun r2=>(Rs.of ((g r1.1 r2.1).bind asB)).bind fun q=>if q=true then(mc r2.2).bind fun r3=>Rs.of ((g' r2.1 r3.1).map fun d=>(d,r3.2)) else .ok (.bl false,r2.2)
def Qjb:List D->Option D
 | [.nd .lst ds]=>some (.int ds.length)
 | [.nd .tup ds]=>some (.int ds.length)
 | [.str s]=>if s.length<=z20 then some (.int s.length) else none
 |_=>none
theorem Qol (hK:C.K=X.K):CallD C.K (fun xs H Q=>∃x n,xs=[x]/\Qpd X.K x H n/\Q (.int (n:Nat)) H) Qjb:=fun H vs ds res r eg=>by
 unfold Qjb at eg
 split at eg
 ·obtain⟨v,rfl,h⟩:=r.one
  obtain⟨a,us,rfl,h1,h2⟩:=h.inv
  cases eg
  exact⟨_,rfl,fun Q hq=>⟨.ref a,_,rfl,.inl ⟨us,hK▸h1.sql,h2.length.symm⟩,hq⟩⟩
 ·obtain⟨v,rfl,h⟩:=r.one
  obtain⟨a,us,rfl,h1,h2⟩:=h.inv
  cases eg
  exact⟨_,rfl,fun Q hq=>⟨.ref a,_,rfl,.inr ⟨us,hK▸h1.sqt,h2.length.symm⟩,hq⟩⟩
 ·next s=>
  obtain⟨v,rfl,h⟩:=r.one
  obtain rfl:=h.Qv (w:=.str s) rfl
  by_cases c:s.length<=z20
  ·rw[if_pos c] at eg;cases eg
   exact⟨_,rfl,fun Q hq=>⟨.str s,_,rfl,⟨c,rfl⟩,hq⟩⟩
  ·rw[if_neg c] at eg;cases eg
 ·cases eg
noncomputable def gI2 (f:Int->Int->Int):List D->Option D
 | [.int i,.int j]=>some (.int (f i j))
 |_=>none
def Qqr:=gI2 fun i j=>if j > i then j else i
def Qqs:=gI2 fun i j=>if j<i then j else i
noncomputable def Qg8 (ds:List D):List D:=ds.zipIdx.map fun x=>.tup [.int (x.2:Nat),x.1]
def Qom (mr:MA):MA:=fun ρ=>(mr ρ).bind fun r=>(Rs.of (QdX r.1)).bind fun ds=>.ok (Qg8 ds,r.2)
end
noncomputable def Ys (ρ:Rho)(i:Nat):Option (Bool×List D):=match ρ[i]? with
 |some (some (.own (.nd .lst ds)))=>some (false,ds)
 |some (some (.par (.nd .lst ds)))=>some (true,ds)
 |_=>none
theorem Ju {ρ:Rho}{i:Nat}{q:Bool×List D}(h:Ys ρ i=some q):ρ[i]? = some (some (mkS q.1 (.lst q.2))):=by
 unfold Ys at h
 split at h
 ·next e=>cases h;exact e
 ·next e=>cases h;exact e
 ·cases h
section
variable {K:z02}{F H:Hp}
theorem OL.snoc {vs:List L2.V}{ds:List D}{f g:List Addr}{v:L2.V}{d:D}(o:OL K F H vs ds f)(h:O K F H v d g):OL K F H (vs++[v]) (ds++[d]) (f++g):=by
 have q:=o.app (.cons h .nil)
 rw[z61] at q
 exact q
theorem OL.setAt:∀{vs:List L2.V} {ds:List D} {f:List Addr} {j:Nat},OL K F H vs ds f->j<ds.length->∃f1 fj f2 v d,f=f1++(fj++f2)/\vs[j]? = some v/\ds[j]? = some d/\O K F H v d fj/\∀{F' H':Hp} {v':L2.V} {d':D} {g:List Addr},Qn F F'->(∀a∈f1++f2,H' a=H a)->O K F' H' v' d' g->OL K F' H' (vs.set j v') (ds.set j d') (f1++(g++f2))
 |_,_,_,j,.nil,h=>by simp at h
 |_,_,_,0,.cons (f:=f) (g:=g) a r,_=>⟨[],f,g,_,_,rfl,rfl,rfl,a,fun{F' H' v' d' g'} sf k o=>by
  show OL K F' H' (_::_) (_::_) (g'++g)
  exact .cons o (r.keep sf k)⟩
 |_,_,_,j+1,.cons (f:=f) (g:=g) a r,h=>by
  obtain⟨f1,fj,f2,v,d,rfl,e1,e2,o,k⟩:=OL.setAt r (j:=j) (by simpa using h)
  refine⟨f++f1,fj,f2,v,d,by simp[z15],by simpa using e1,by simpa using e2,o,fun{F' H' v' d' g'} sf kk o'=>?_⟩
  have q:=OL.cons (a.keep sf fun b hb=>kk b (by simp[hb])) (k sf (fun b hb=>kk b (by simp at hb ⊢;rcases hb with z|z<;>simp[z])) o')
  simpa[z15] using q
theorem O.Qdm {v:L2.V}{ds:List D}{f:List Addr}(o:O K F H v (.nd .lst ds) f):∃a vs g,v=.ref a/\f=a::g/\H a=some (.lst vs)/\OL K F H vs ds g:=by
 cases o with
 |sc e=>cases e
 |im m h r=>cases m
 |mt h r=>exact⟨_,_,_,rfl,rfl,h,r⟩
end
section
variable {X:Cx}{C:Cn}{E:XE}{p pa pb:Bool}{e a b:Expr}{es:List Expr}{m mi:ME}{pos:Pos}{kb rk:Kd}{ks:List Kd}
theorem SI.Qdn {F H:Hp}{σ:L2.St}{ρ:Rho}{τ:List (L2.V×D)}{fp:List Addr}{i:Nat}{par:Bool}{ds:List D}(I:SI C F H σ ρ τ fp)(es:ρ[i]? = some (some (mkS par (.lst ds)))):∃l vs f rest,σ[i]? = some (some (.ref l))/\H l=some (.lst vs)/\OL C.K F H vs ds f/\fp.Perm ((l::f)++rest)/\(∀b∈l::f,Yg C par b)/\
  ∀{H':Hp} {vs':List L2.V} {ds':List D} {f':List Addr},H' l=some (.lst vs')->OL C.K F H' vs' ds' f'->(∀b,b∈rest->H' b=H b)->(∀b o,H b=some o->b∉l::f->H' b=some o)->(∀b,H' b=none->H b=none)->((l::f')++rest).Nodup->(∀b∈f',F b=none/\Yg C par b)->SI C F H' σ (ρ.set i (some (mkS par (.lst ds')))) τ ((l::f')++rest):=by
 obtain⟨x,f0,g0,rest,ex,s1,pm,w0,w1,cl⟩:=I.cut es
 obtain⟨v,fi,ev,ho,efi,wfi⟩:∃v fi,x=some v/\O C.K F H v (.nd .lst ds) fi/\f0++g0=fi/\∀a∈fi,Yg C par a:=by
  cases par with
  |false=>cases s1 with|own h=>exact⟨_,_,rfl,h,by simp,fun a ha=>.inl (w0 a ha)⟩
  |true=>cases s1 with|par h=>exact⟨_,_,rfl,h,rfl,fun a ha=>(w1 a ha).elim (fun z=>.inr ⟨rfl,z⟩) fun z=>.inl z⟩
 subst ev
 obtain⟨l,vs,g,rfl,rfl,hl,ol⟩:=ho.Qdm
 have pm':fp.Perm ((l::g)++rest):=by
  rw[← efi,z15];exact pm
 have ndp:=pm'.nodup_iff.mp I.nd
 refine⟨l,vs,g,rest,ex,hl,ol,pm',wfi,fun{H' vs' ds' f'} hl' ol' hk kp dm nd fr=>?_⟩
 have hF:Qn F H':=fun b o e=>by
  refine kp b o (I.fh b o e) fun z=>?_
  have:=I.ap b (pm'.mem_iff.mpr (z08 _ z))
  rw[e] at this;cases this
 have nop:∀b,C.H₀ b≠none->b∉C.A->b∉l::g:=fun b h1 h2 z=>by
  rcases wfi b z with y|y
  ·exact h1 y
  ·exact h2 y.2
 have apn:∀b∈(l::f')++rest,F b=none:=fun b hb=>by
  rcases z04.mp hb with z|z
  ·rcases z26.mp z with rfl|z
   ·exact I.ap _ (pm'.mem_iff.mpr (by simp))
   ·exact(fr b z).1
  ·exact I.ap b (pm'.mem_iff.mpr (z01 _ z))
 have frn:∀b∈l::f',Yg C par b:=fun b hb=>by
  rcases z26.mp hb with rfl|z
  ·exact wfi _ z12
  ·exact(fr b z).2
 have es':=es
 cases par with
 |false=>
  have J:=cl (F':=F) (H':=H') (x':=some (.ref l)) (s':=some (.own (.lst ds'))) (f0':=l::f') (g0':=[]) (Qn.refl F) hF hk dm (fun b o e n z=>kp b o z (nop b (by rw[e];simp) n)) (fun _ _ z=>.inl z) (.own (.mt (t:=.lst) hl' ol')) nd apn (fun b hb=>(frn b hb).resolve_right fun z=>nomatch z.1) (fun _ z=>nomatch z) (fun v hv=>by
   obtain⟨_,d',z⟩:=I.pr _ _ hv
   rw[es] at z;cases z)
  rw[QZ ex] at J
  exact J
 |true=>
  have J:=cl (F':=F) (H':=H') (x':=some (.ref l)) (s':=some (.par (.lst ds'))) (f0':=[]) (g0':=l::f') (Qn.refl F) hF hk dm (fun b o e n z=>kp b o z (nop b (by rw[e];simp) n)) (fun _ _ z=>.inl z) (.par (.mt (t:=.lst) hl' ol')) nd apn (fun _ z=>nomatch z) (fun b hb=>(frn b hb).elim (fun z=>.inr z) fun z=>.inl z.2) (fun v hv=>⟨by
   obtain⟨z,_⟩:=I.pr _ _ hv
   rw[ex] at z;exact z27 z,_,rfl⟩)
  rw[QZ ex] at J
  exact J
theorem SI.QbW {F H:Hp}{σ:L2.St}{ρ:Rho}{τ:List (L2.V×D)}{fp:List Addr}{i:Nat}{par:Bool}{ds:List D}(I:SI C F H σ ρ τ fp)(es:ρ[i]? = some (some (mkS par (.lst ds)))):∃l vs f rest,σ[i]? = some (some (.ref l))/\H l=some (.lst vs)/\OL C.K F H vs ds f/\fp.Perm ((l::f)++rest)/\(∀b∈l::f,Yg C par b)/\
  ∀{vs':List L2.V} {ds':List D} {f':List Addr},OL C.K F H vs' ds' f'->((l::f')++rest).Nodup->(∀b∈f',F b=none/\Yg C par b)->SI C F (upd H l (.lst vs')) σ (ρ.set i (some (mkS par (.lst ds')))) τ ((l::f')++rest):=by
 obtain⟨l,vs,f,rest,ex,hl,ol,pm,w,cl⟩:=I.Qdn es
 have ndp:=pm.nodup_iff.mp I.nd
 refine⟨l,vs,f,rest,ex,hl,ol,pm,w,fun{vs' ds' f'} ol' nd fr=>?_⟩
 have nl:∀{b:Addr},b∈f'\/b∈rest->b≠l:=fun{b} hb z=>by
  subst z
  have:=(z53.mp (show(b::(f'++rest)).Nodup from nd)).1
  exact this (z04.mpr hb)
 refine cl Ql (ol'.keep (Qn.refl _) fun b hb=>Qg (nl (.inl hb))) (fun b hb=>Qg (nl (.inr hb))) (fun b o e n=>(Qg (by intro z;subst z;exact n z12)).trans e) (fun b e=>?_) nd fr
 by_cases hb:b=l
 ·subst hb;rw[Ql] at e;cases e
 ·rw[Qg hb] at e;exact e
def Qke (i:Nat)(m:ME):MS:=fun ρ=>(Rs.of (Ys ρ i)).bind fun _=>(m ρ).bind fun r=>(Rs.of (Ys r.2 i)).bind fun q=>if q.2.length<z20 then .ok (.nx,r.2.set i (some (mkS q.1 (.lst (q.2++[r.1]))))) else .no
theorem Qg9 {i:Nat}{x:Str}{np apos cpos:Pos}(hK:C.K=X.K)(hN:X.N[i]? = some x)(hv:Vis X.env.scope x)(he:PE X e (tX .O C p E m))(hs:swapsWith (.Call (.Attribute (.Name x np) "append" apos) [e] [] cpos) none pos.line X.env=pure false:=by rfl)
  (hbase:attributeBase (.Name x np) "append" X.env (eval (.Name x np) X.env)=eval (.Name x np) X.env:=by rfl) (hfew:((backTo cpos (starEach [e] X.env)).all (fun x=>!x.1) && (backToKw cpos (keywordEach [] X.env)).all (fun x=>x.1.isSome) && decide ([e].length+([]:List Keyword).length+(if([]:List Keyword).isEmpty then 0 else 1)<30))=true:=by rfl)
  (hline:(apos.endLine == cpos.line)=true:=by rfl) (hst:starEach [e] X.env=(false,eval e X.env)::starEach [] X.env:=by rfl) (hplain:(backTo cpos (starEach [] X.env)).any (·.1)=false:=by rfl) (hd:(x == ("__debug__" : Str))=false:=by decide) (hcd:(x == ("__classdict__" : Str))=false:=by decide) :
  PS X (.Expr (.Call (.Attribute (.Name x np) "append" apos) [e] [] cpos) pos) (tS rk C E (Qke i m)):=
 QQ (VJ (QeC zb6 zi5 zi4 VV (Yh hN hv hd hcd) (Jp he YF hst) hbase hfew hline hst hplain) hs) fun D σ H ⟨F,ρ,fp,I,h⟩=>by
 obtain⟨q0,e0,h⟩:=h.split.of
 obtain⟨l0,vs0,f0,QdY,ex0,hl0,_⟩:=I.Qdn (Ju e0)
 refine⟨_,ex0,.inl ⟨rfl,vs0,SqL.of hl0⟩,F,ρ,[],fp,I,h.split.run.mono fun r hr F1 H1 fp1 v I1 n1 _=>?_⟩
 obtain⟨q,eq,h2⟩:=hr.split.of
 obtain⟨ft,QcE,ot,pmt,J,t0,tap,tnd⟩:=SI.pop (τ:=[]) I1
 obtain⟨l,vs,f,rest,ex,hl,ol,pm,w,cl⟩:=J.QbW (Ju eq)
 have el:l=l0:=by rw[ex0] at ex;cases ex;rfl
 subst el
 by_cases hz:q.2.length<z20
 ·rw[if_pos hz] at h2
  have ndJ:=pm.nodup_iff.mp J.nd
  refine⟨l,vs,v,rfl,rfl,hl,by rw[ol.length];exact hz,?_⟩
  refine h2 F1 _ σ _ n1.f (cl (ol.snoc ot) ?_ fun b hb=>?_)
  ·have pp:(ft++((l::f)++rest)).Perm ((l::(f++ft))++rest):=by
    rw[z79]
    intro a
    simp only[zb5,zl2]
    omega
   exact pp.nodup_iff.mp ((pm.append_left ft).nodup_iff.mp tnd)
  ·rcases z04.mp hb with z|z
   ·exact⟨J.ap b (pm.mem_iff.mpr (by simp[z])),w b (z09 _ z)⟩
   ·exact⟨tap b z,.inl (t0 b z)⟩
 ·rw[if_neg hz] at h2;exact h2.elim
noncomputable def asL:D->Option (List D)
 |.nd .lst ds=>some ds
 |_=>none
theorem Qdo {d:D}{ds:List D}(h:asL d=some ds):d=.nd .lst ds:=by
 unfold asL at h
 split at h
 ·cases h;rfl
 ·cases h
noncomputable def asI:D->Option Int
 |.int i=>some i
 |_=>none
theorem QhR {d:D}{i:Int}(h:asI d=some i):d=.int i:=by
 cases d<;>cases h
 rfl
def Qnt (i:Nat)(m:ME):MS:=fun ρ=>(Rs.of (Ys ρ i)).bind fun _=>(m ρ).bind fun r=>(Rs.of (Ys r.2 i)).bind fun q=>(Rs.of (asL r.1)).bind fun ds=>if q.2.length+ds.length<=z20 then .ok (.nx,r.2.set i (some (mkS q.1 (.lst (q.2++ds))))) else .no
theorem Qon {i:Nat}{x:Str}{np apos cpos:Pos}(hK:C.K=X.K)(hN:X.N[i]? = some x)(hv:Vis X.env.scope x)(he:PE X e (tX .O C p E m))(hs:swapsWith (.Call (.Attribute (.Name x np) "extend" apos) [e] [] cpos) none pos.line X.env=pure false:=by rfl)
  (hbase:attributeBase (.Name x np) "extend" X.env (eval (.Name x np) X.env)=eval (.Name x np) X.env:=by rfl) (hfew:((backTo cpos (starEach [e] X.env)).all (fun x=>!x.1) && (backToKw cpos (keywordEach [] X.env)).all (fun x=>x.1.isSome) && decide ([e].length+([]:List Keyword).length+(if([]:List Keyword).isEmpty then 0 else 1)<30))=true:=by rfl)
  (hline:(apos.endLine == cpos.line)=true:=by rfl) (hst:starEach [e] X.env=(false,eval e X.env)::starEach [] X.env:=by rfl) (hplain:(backTo cpos (starEach [] X.env)).any (·.1)=false:=by rfl) (hd:(x == ("__debug__" : Str))=false:=by decide) (hcd:(x == ("__classdict__" : Str))=false:=by decide) :
  PS X (.Expr (.Call (.Attribute (.Name x np) "extend" apos) [e] [] cpos) pos) (tS rk C E (Qnt i m)):=
 QQ (VJ (QeC zb6 PySem.F.slot_list_extend PySem.F.type_list_extend QeD (Yh hN hv hd hcd) (Jp he YF hst) hbase hfew hline hst hplain) hs) fun D σ H ⟨F,ρ,fp,I,h⟩=>by
 obtain⟨q0,e0,h⟩:=h.split.of
 obtain⟨l0,vs0,f0,QdY,ex0,hl0,_⟩:=I.Qdn (Ju e0)
 refine⟨_,ex0,.inl ⟨rfl,vs0,SqL.of hl0⟩,F,ρ,[],fp,I,h.split.run.mono fun r hr F1 H1 fp1 v I1 n1 _=>?_⟩
 obtain⟨q,eq,h2⟩:=hr.split.of
 obtain⟨ft,QcE,ot,pmt,J,t0,tap,tnd⟩:=SI.pop (τ:=[]) I1
 obtain⟨l,vs,f,rest,ex,hl,ol,pm,w,cl⟩:=J.QbW (Ju eq)
 have el:l=l0:=by rw[ex0] at ex;cases ex;rfl
 subst el
 obtain⟨d,ρ1⟩:=r
 dsimp only at h2 eq ot J
 obtain⟨ds,ed,h3⟩:=h2.split.of
 obtain rfl:=Qdo ed
 ·by_cases hz:q.2.length+ds.length<=z20
  ·rw[if_pos hz] at h3
   obtain⟨bb,us,g,rfl,rfl,hb,ob⟩:=ot.Qdm
   refine⟨l,bb,vs,us,rfl,rfl,hl,hb,by rw[ol.length,ob.length];exact hz,?_⟩
   refine h3 F1 _ σ _ n1.f (cl (ol.app ob) ?_ fun b hb=>?_)
   ·have Qqt:(g++QcE).Nodup:=(z53.mp (show(bb::(g++QcE)).Nodup from tnd)).2
    have pp:(g++((l::f)++rest)).Perm ((l::(f++g))++rest):=by
     rw[z79]
     intro a
     simp only[zb5,zl2]
     omega
    exact pp.nodup_iff.mp ((pm.append_left g).nodup_iff.mp Qqt)
   ·rcases z04.mp hb with z|z
    ·exact⟨J.ap b (pm.mem_iff.mpr (by simp[z])),w b (z09 _ z)⟩
    ·exact⟨tap b (z09 _ z),.inl (t0 b (z09 _ z))⟩
  ·rw[if_neg hz] at h3;exact h3.elim
def QhS (i:Nat)(m mi:ME):MS:=fun ρ=>(m ρ).bind fun r=>(Rs.of (Ys r.2 i)).bind fun _=>(mi r.2).bind fun s=>(Rs.of (Ys s.2 i)).bind fun q=>(Rs.of ((asI s.1).bind fun n=>ixN q.2.length n)).bind fun j=>
 .ok (.nx,s.2.set i (some (mkS q.1 (.lst (q.2.set j r.1)))))
theorem QhT {n:Nat}{i:Int}{j:Nat}(h:ixN n i=some j):j<n:=by
 unfold ixN at h
 split at h
 ·split at h
  ·cases h;omega
  ·cases h
 ·split at h
  ·cases h;omega
  ·cases h
theorem QcF {i:Nat}{x:Str}{np spos:Pos}{ix:Expr}(hK:C.K=X.K)(hN:X.N[i]? = some x)(hv:Vis X.env.scope x)(he:PE X e (tX .O C pa E m))(hi:PE X ix (tX kb C pb E mi))(ok:kb.on true=true:=by rfl)
  (hs:swapsWithSole [.Subscript (.Name x np) ix spos] e pos.line X.env=pure false:=by rfl) (hw:swappedStores [.Subscript (.Name x np) ix spos] e X.env=pure none:=by rfl)
  (h1:(assignEach [.Subscript (.Name x np) ix spos] X.env).map (·.2)=[assign (.Subscript (.Name x np) ix spos) X.env]:=by rfl)
  (hg:PG X (.Subscript (.Name x np) ix spos) (L2.Qib (Qgl i) (tX kb C pb E mi) QgE)) :
  PS X (.Assign [.Subscript (.Name x np) ix spos] e pos) (tS rk C E (QhS i m mi)):=
 QQ (Qeq he hg hs hw h1) fun D σ H ⟨F,ρ,fp,I,h⟩=>by
 refine⟨F,ρ,[],fp,I,h.split.run.mono fun r hr F1 H1 fp1 v I1 n1 _=>?_⟩
 obtain⟨q0,e0,hr⟩:=hr.split.of
 obtain⟨l0,vs0,f0,QdY,ex0,hl0,_⟩:=SI.Qdn I1 (Ju e0)
 refine⟨_,ex0,F1,r.2,[(v,r.1)],fp1,I1,hr.split.run.mono fun s hs F2 H2 fp2 iv I2 n2 f2=>?_⟩
 rw[Kd.JL ok] at I2
 obtain⟨q,eq,h2⟩:=hs.split.of
 obtain⟨j,ej,h3⟩:=h2.split.of
 obtain⟨n,en,ejn⟩:=z28.mp ej
 have riv:=Kd.stay ok f2 .refl I2
 rw[QhR en] at riv
 obtain rfl:=riv.Qv (w:=.int n) rfl
 obtain⟨ft,QcE,ot,pmt,J,t0,tap,tnd⟩:=SI.pop (τ:=[]) I2
 obtain⟨l,vs,f,rest,ex,hl,ol,pm,w,cl⟩:=J.QbW (Ju eq)
 have el:l=l0:=by rw[ex0] at ex;cases ex;rfl
 subst el
 have lj:j<q.2.length:=QhT ejn
 obtain⟨f1,fj,f2',v0,d0,rfl,_,_,_,ks⟩:=ol.setAt lj
 refine⟨l,vs,n,j,rfl,rfl,hl,by rw[ol.length];exact ejn,?_⟩
 refine h3 F2 _ σ _ (n1.f.trans n2.f) (cl (ks (Qn.refl _) (fun _ _=>rfl) ot) ?_ fun b hb=>?_)
 ·have big:=(pm.append_left ft).nodup_iff.mp tnd
  have pp:(ft++((l::(f1++(fj++f2')))++rest)).Perm (fj++((l::(f1++(ft++f2')))++rest)):=by
   rw[z79]
   intro a
   simp only[zb5,zl2]
   omega
  exact(z07.mp (pp.nodup_iff.mp big)).2.1
 ·simp only[z04] at hb
  rcases hb with z|z|z
  ·exact⟨J.ap b (pm.mem_iff.mpr (by simp[z])),w b (by simp[z])⟩
  ·exact⟨tap b z,.inl (t0 b z)⟩
  ·exact⟨J.ap b (pm.mem_iff.mpr (by simp[z])),w b (by simp[z])⟩
end
section
variable {X:Cx}{C:Cn}{E:XE}{p pa pb:Bool}{e a b c:Expr}{es:List Expr}{m ma mb mi:ME}{pos:Pos}{k ka kb rk:Kd}{ks:List Kd}
def Qoo (K:z02):R2:=fun x y H Q=>∃l b xs zs,x=.ref l/\y=.ref b/\SqL K H l xs/\SqL K H b zs/\xs.length+zs.length<=z20/\∀p,H p=none->Q (.ref p) (upd H p (.lst (xs++zs)))
theorem Qjc:OpR X (binaryOp .Add) (Qoo X.K):=by
 intro pins s σ H x y v u Q I rx ry h
 obtain⟨l,b,xs,zs,rfl,rfl,hH,hB,hz,q⟩:=h
 cases rx
 cases ry
 obtain⟨its,r,pl,z⟩:=I.list hH
 obtain⟨its2,r2,pl2,z2⟩:=I.list hB
 obtain⟨⟨cls,dd,data,sl⟩,n,ho,hc,hdd,hd⟩:=pl
 obtain⟨⟨cls2,dd2,data2,sl2⟩,n2,ho2,hc2,QqS,hd2⟩:=pl2
 cases hc;cases hd;cases hc2;cases hd2
 have hl:=r.length
 have hl2:=r2.length
 refine PySem.concat_meets ⟨_,ho,rfl⟩ ⟨_,ho2,rfl⟩ PySem.noFill_list_add PySem.seq_list_add PySem.F.slot_list_add PySem.F.entry_list_add (PySem.F.args_list_add_2 _ _) (PyProof.Rows.list_addW l b its.toArray its2.toArray n n2 dd dd2 sl sl2 (by rw[z21,z21];omega)) ⟨ho,ho2,?_⟩
 have ea:its.toArray++its2.toArray=(its++its2).toArray:=by simp
 rw[ea]
 exact⟨.ref _,_,I.Qp4 (t':=s.toks) (r.append r2) (by rw[z10];omega),rfl,q _ I.fresh⟩
def QcG (ma mb:ME):ME:=fun ρ=>(ma ρ).bind fun r1=>(mb r1.2).bind fun r2=>(Rs.of (asL r1.1)).bind fun xs=>(Rs.of (asL r2.1)).bind fun ys=>if xs.length+ys.length<=z20 then .ok (.lst (xs++ys),r2.2) else .no
theorem QlC (hK:C.K=X.K)(ha:PE X a (tX .V C pa E ma))(hb:PE X b (tX .V C pb E mb)):PE X (.BinOp a .Add b pos) (tX .V C (pa && pb) E (QcG ma mb)):=Qo (Qkw Qjc ha hb) fun σ H Q ⟨F,ρ,τ,fp,I,h⟩=>by
 refine⟨F,ρ,τ,fp,I,h.split.mono fun r1 h1 F1 H1 fp1 v1 I1 n1 f1=>?_⟩
 refine⟨F1,r1.2,τ,fp1,I1,h1.split.mono fun r2 h2 F2 H2 fp2 v2 I2 n2 f2=>?_⟩
 obtain⟨xs,e1,h3⟩:=h2.split.of
 obtain⟨ys,e2,h4⟩:=h3.split.of
 have g1:R C.K F2 v1 (.nd .lst xs):=by rw[← Qdo e1];exact R.same n2.f f1
 have g2:R C.K F2 v2 (.nd .lst ys):=by rw[← Qdo e2];exact f2
 obtain⟨l1,us,rfl,a1,rl1⟩:=g1.inv
 obtain⟨l2,ws,rfl,a2,rl2⟩:=g2.inv
 by_cases hz:xs.length+ys.length<=z20
 ·rw[if_pos hz] at h4
  refine⟨l1,l2,us,ws,rfl,rfl,hK▸At.same a1 I2.fh,hK▸At.same a2 I2.fh,by rw[rl1.length,rl2.length];exact hz,fun q hq=>?_⟩
  have s:=Qn.upd (o:=HO.lst (us++ws)) (I2.fh.free hq)
  exact h4 _ _ fp2 _ (I2.lay hq) (((n1.trans n2).trans (q:=true) ⟨s,fun _=>QbQ I2 hq⟩).weak fun z=>by simpa using z) (.nd (t:=.lst) (.inl (.inl Ql)) ((rl1.app rl2).same s))
 ·rw[if_neg hz] at h4;exact h4.elim
abbrev MO:=Rho->Rs (Option Int×Rho)
def tO (C:Cn)(p:Bool)(E:XE)(m:MO):TO:=fun σ H Q=>∃F ρ τ fp,SI C F H σ ρ τ fp/\Run C E σ (m ρ) fun r=>∀F' H' fp',SI C F' H' σ r.2 τ fp'->Nx p F H fp F' H' fp'->Q r.1 H'
def Qkf:MO:=fun ρ=>.ok (none,ρ)
def QhU (m:ME):MO:=fun ρ=>(m ρ).bind fun r=>(Rs.of (asI r.1)).bind fun i=>.ok (some i,r.2)
theorem Qfw {e:Option Expr}{t t':TO}(h:PO X e t)(k:∀σ H Q,t' σ H Q->t σ H Q):PO X e t':=fun pins s σ H Q I q=>h pins s σ H Q I (k _ _ _ q)
theorem Qop:PO X none (tO C true E Qkf):=Qfw Qim fun σ H Q ⟨F,ρ,τ,fp,I,h⟩=>h F H fp I .refl
theorem Qjd (h:PE X e (tX k C p E m))(ok:k.on true=true:=by rfl):PO X (some e) (tO C p E (QhU m)):=Qfw (Qin h) fun σ H Q ⟨F,ρ,τ,fp,I,h⟩=>by
 refine⟨F,ρ,τ,fp,I,h.split.mono fun r1 h1 F1 H1 fp1 v1 I1 n1 f1=>?_⟩
 rw[Kd.JL ok] at I1
 obtain⟨i,ei,h2⟩:=h1.split.of
 have rr:=Kd.stay ok f1 .refl I1
 rw[QhR ei] at rr
 exact⟨i,rr.Qv rfl,h2 F1 H1 fp1 I1 n1⟩
noncomputable def cutD {α:Type}(xs:List α)(lo hi:Option Int):List α:=(xs.drop (HT.sIx xs.length 0 lo)).take (HT.sIx xs.length xs.length hi - HT.sIx xs.length 0 lo)
theorem RL.drop {K:z02}{F:Hp}{vs:List L2.V}{ds:List D}(n:Nat)(r:RL K F vs ds):RL K F (vs.drop n) (ds.drop n):=by
 induction n generalizing vs ds with
 |zero=>exact r
 |succ n ih=>cases r with
  |nil=>exact .nil
  |cons _ r=>exact ih r
theorem RL.take {K:z02}{F:Hp}{vs:List L2.V}{ds:List D}(n:Nat)(r:RL K F vs ds):RL K F (vs.take n) (ds.take n):=by
 induction n generalizing vs ds with
 |zero=>exact .nil
 |succ n ih=>cases r with
  |nil=>exact .nil
  |cons h r=>exact .cons h (ih r)
theorem RL.cut {K:z02}{F:Hp}{vs:List L2.V}{ds:List D}{lo hi:Option Int}(r:RL K F vs ds):RL K F (Qio vs lo hi) (cutD ds lo hi):=by
 unfold Qio cutD
 rw[r.length]
 exact(r.drop _).take _
def QhV (m:ME)(lo hi:MO):ME:=fun ρ=>(m ρ).bind fun r=>(lo r.2).bind fun l=>(hi l.2).bind fun h=>(Rs.of (asL r.1)).bind fun xs=>.ok (.lst (cutD xs l.1 h.1),h.2)
def QpE (m:ME)(lo hi:MO):ME:=fun ρ=>(m ρ).bind fun r=>(lo r.2).bind fun l=>(hi l.2).bind fun h=>(Rs.of (asL r.1)).bind fun xs=>if D.QL (cutD xs l.1 h.1)=true then .ok (.lst (cutD xs l.1 h.1),h.2) else .no
variable {lo hi:Option Expr}{ml mh:MO}{p2:Pos}
theorem Qoq (hK:C.K=X.K)(he:PE X e (tX .V C p E m))(hl:PO X lo (tO C pa E ml))(hu:PO X hi (tO C pb E mh)):PE X (.Subscript e (.Slice lo hi none p2) pos) (tX .V C (p && (pa && pb)) E (QhV m ml mh)):=Qo (QgD Qiq he hl hu) fun σ H Q ⟨F,ρ,τ,fp,I,h⟩=>by
 refine⟨F,ρ,τ,fp,I,h.split.mono fun r1 h1 F1 H1 fp1 v1 I1 n1 f1=>?_⟩
 refine⟨F1,r1.2,τ,fp1,I1,h1.split.mono fun r2 h2 F2 H2 fp2 I2 n2=>?_⟩
 refine⟨F2,r2.2,τ,fp2,I2,h2.split.mono fun r3 h3 F3 H3 fp3 I3 n3=>?_⟩
 obtain⟨xs,e1,h4⟩:=h3.split.of
 have g1:R C.K F3 v1 (.nd .lst xs):=by rw[← Qdo e1];exact R.same (n2.f.trans n3.f) f1
 obtain⟨l1,us,rfl,a1,rl1⟩:=g1.inv
 refine⟨l1,us,rfl,by rw[← hK];exact(At.same a1 I3.fh).sql,fun q hq=>?_⟩
 have s:=Qn.upd (o:=HO.lst (Qio us r2.1 r3.1)) (I3.fh.free hq)
 exact h4 _ _ fp3 _ (I3.lay hq) (((n1.trans (n2.trans n3)).trans (q:=true) ⟨s,fun _=>QbQ I3 hq⟩).weak fun z=>by simpa using z) (.nd (t:=.lst) (.inl (.inl Ql)) (rl1.cut.same s))
def Qor:D->Option Key
 |.int i=>some (.inl i)
 |.str s=>some (.inr s)
 |_=>none
def QlD:List D->Option (List Key)
 | []=>some []
 |d::ds=>(Qor d).bind fun k=>(QlD ds).map (k::·)
def Qd2:D->Option (List Key)
 |.nd .tup ds=>QlD ds
 |_=>none
theorem Qfx {K:z02}{F:Hp}:∀{vs:List L2.V} {ds:List D} {ks:List Key},RL K F vs ds->QlD ds=some ks->vs=ks.map kV
 |_,_,_,.nil,e=>by unfold QlD at e;cases e;rfl
 |_,_,_,.cons (d:=d) h r,e=>by
  unfold QlD at e
  obtain⟨k,h1,h2⟩:=z28.mp e
  obtain⟨ks,h3,rfl⟩:=z05.mp h2
  rw[z30,← Qfx r h3]
  cases d with
  |int i=>cases h1;rw[h.Qv (w:=.int i) rfl];rfl
  |str z=>cases h1;rw[h.Qv (w:=.str z) rfl];rfl
  |_=>cases h1
theorem QbX {K:z02}{F:Hp}{v:L2.V}{d:D}{ks:List Key}(r:R K F v d)(e:Qd2 d=some ks):∃b,v=.ref b/\F b=some (.tup (ks.map kV)):=by
 unfold Qd2 at e
 split at e
 ·obtain⟨a,vs,rfl,h1,h2⟩:=r.inv
  have ev:=Qfx h2 e
  subst ev
  exact⟨a,rfl,h1⟩
 ·cases e
def Qos:ME:=fun ρ=>.ok (.nd (.dT []) [],ρ)
theorem QcH:PE X (.Dict [] [] pos) (tX .O C true E Qos):=Qo QgB fun σ H Q ⟨F,ρ,τ,fp,I,h⟩=>fun q hq=>by
 have J:=I.lay0 (o:=.dT []) hq
 have nq:q∉fp:=fun z=>by
  obtain⟨o,e,_⟩:=I.mem q z
  rw[hq] at e;cases e
 refine h F _ _ (.ref q) (J.push (f:=[q]) (.mt (t:=.dT []) (vs:=[]) ⟨rfl,Ql⟩ .nil) (fun a ha=>?_) (fun a ha=>?_) (z07.mpr ⟨by simp,I.nd,fun x hx y hy z=>?_⟩)) ⟨Qn.refl _,fun _=>V6 I hq⟩ z59
 ·rw[z19.mp ha];exact I.dm q hq
 ·rw[z19.mp ha];exact I.fh.free hq
 ·subst z;rw[z19.mp hx] at hy;exact nq hy
def QlE:D->D->Option Bool
 |y,.nd (.dT ks) _=>(Qd2 y).map fun k=>ks.any fun x=>decide (x=k)
 |_,_=>none
theorem Qdp {κ:Type}[DecidableEq κ]:∀{ks:List κ} {vs:List V} {k:κ},ks.length=vs.length->(Qcg (ks.zip vs) k).isSome=ks.any fun x=>decide (x=k)
 | [],[],k,_=>rfl
 | [],_::_,_,h=>by cases h
 |_::_,[],_,h=>by cases h
 |x::ks,v::vs,k,h=>by
  rw[z85]
  by_cases e:x=k
  ·rw[J9 e,zg5,decide_eq_true e];rfl
  ·rw[Jq e,Qdp (by simpa using h),zg5,decide_eq_false e];rfl
def QlF (f:Bool->Bool)(my md:ME):ME:=fun ρ=>(my ρ).bind fun r1=>(md r1.2).bind fun r2=>Rs.of ((QlE r1.1 r2.1).map fun b=>(.bl (f b),r2.2))
theorem Qfy {F H:Hp}{v u:L2.V}{y d:D}{q:Bool}(hs:Qn F H)(r1:R C.K F v y)(r2:R C.K F u d)(eg:QlE y d=some q):∃l o,u=.ref l/\Qcj H l v o/\o.isSome=q:=by
 unfold QlE at eg
 split at eg
 ·obtain⟨l,us,rfl,h1,h2⟩:=r2.inv
  obtain⟨k,ek,rfl⟩:=z05.mp eg
  obtain⟨bb,rfl,hb⟩:=QbX r1 ek
  exact⟨l,_,rfl,Qcj.t (hs _ _ h1.2) (hs _ _ hb),Qdp h1.1⟩
 ·cases eg
theorem QlG (hu:X.A.units+1<cLine)(hy:PE X a (tX ka C pa E ma))(hd:PE X b (tX kb C pb E mb))(ok:ka.on pb=true:=by rfl)(ok2:kb.on true=true:=by rfl)(hm:behindInMarks .In b=false:=by rfl):PT X (.Compare a [.In] [b] pos) (tT C (pa && pb) E (V4 (QlF id ma mb))):=QaT (Qhs (QkG hu hy hd) hm) fun σ H Q h=>by
 obtain⟨F,ρ,τ,fp,I,h⟩:=VD (k:=.V) rfl h
 refine⟨F,ρ,τ,fp,I,h.split.mono fun r1 h1 F1 H1 fp1 v1 I1 n1 f1=>?_⟩
 rw[Kd.JL ok] at I1
 refine⟨F1,r1.2,τ,fp1,I1,h1.split.mono fun r2 h2 F2 H2 fp2 v2 I2 n2 f2=>?_⟩
 rw[Kd.JL ok2] at I2
 obtain⟨z,ez,h3⟩:=h2.of
 obtain⟨q,eg,rfl⟩:=z05.mp ez
 obtain⟨l,o,rfl,hg,rfl⟩:=Qfy (JK I2.fh) (Kd.stay ok f1 n2 I2) (Kd.stay ok2 f2 .refl I2) eg
 exact⟨l,o,rfl,hg,h3 F2 H2 fp2 _ I2 (n1.trans n2) (.sc rfl)⟩
theorem QbY (hu:X.A.units+1<cLine)(hy:PE X a (tX ka C pa E ma))(hd:PE X b (tX kb C pb E mb))(ok:ka.on pb=true:=by rfl)(ok2:kb.on true=true:=by rfl)(hm:behindInMarks .NotIn b=false:=by rfl):PT X (.Compare a [.NotIn] [b] pos) (tT C (pa && pb) E (V4 (QlF not ma mb))):=QaT (Qhs (QeA hu hy hd) hm) fun σ H Q h=>by
 obtain⟨F,ρ,τ,fp,I,h⟩:=VD (k:=.V) rfl h
 refine⟨F,ρ,τ,fp,I,h.split.mono fun r1 h1 F1 H1 fp1 v1 I1 n1 f1=>?_⟩
 rw[Kd.JL ok] at I1
 refine⟨F1,r1.2,τ,fp1,I1,h1.split.mono fun r2 h2 F2 H2 fp2 v2 I2 n2 f2=>?_⟩
 rw[Kd.JL ok2] at I2
 obtain⟨z,ez,h3⟩:=h2.of
 obtain⟨q,eg,rfl⟩:=z05.mp ez
 obtain⟨l,o,rfl,hg,rfl⟩:=Qfy (JK I2.fh) (Kd.stay ok f1 n2 I2) (Kd.stay ok2 f2 .refl I2) eg
 exact⟨l,o,rfl,hg,h3 F2 H2 fp2 _ I2 (n1.trans n2) (.sc rfl)⟩
noncomputable def Qd3 (ρ:Rho)(i:Nat):Option (Bool×List (List Key)×List D):=match ρ[i]? with
 |some (some (.own (.nd (.dT ks) ds)))=>some (false,ks,ds)
 |some (some (.par (.nd (.dT ks) ds)))=>some (true,ks,ds)
 |_=>none
theorem Qa1 {ρ:Rho}{i:Nat}{q:Bool×List (List Key)×List D}(h:Qd3 ρ i=some q):ρ[i]? = some (some (mkS q.1 (.nd (.dT q.2.1) q.2.2))):=by
 unfold Qd3 at h
 split at h
 ·next e=>cases h;exact e
 ·next e=>cases h;exact e
 ·cases h
noncomputable def putD {κ:Type}[DecidableEq κ](ks:List κ)(ds:List D)(k:κ)(d:D):List κ×List D:=if(ks.any fun x=>decide (x=k))=true then(ks,zb7 (fun x y=>if x=k then d else y) ks ds) else(ks++[k],ds++[d])
theorem QcI {κ:Type}[DecidableEq κ]{k:κ}:∀{ks:List κ} {vs:List V},ks.length=vs.length->((ks.zip vs).any fun kv=>decide (kv.1=k))=ks.any fun x=>decide (x=k)
 | [],[],_=>rfl
 | [],_::_,h=>by cases h
 |_::_,[],h=>by cases h
 |x::ks,v::vs,h=>by rw[z85,zg5,zg5,QcI (by simpa using h)]
theorem Qdq {κ:Type}[DecidableEq κ]{k:κ}{v:V}:∀{ks:List κ} {vs:List V},ks.length=vs.length->(ks.zip vs).map (fun kv=>if kv.1=k then(kv.1,v) else kv)=ks.zip (zb7 (fun x y=>if x=k then v else y) ks vs)
 | [],[],_=>rfl
 | [],_::_,h=>by cases h
 |_::_,[],h=>by cases h
 |x::ks,y::vs,h=>by
  rw[z85,z30,za4,z85,Qdq (by simpa using h)]
  by_cases e:x=k
  ·simp[e]
  ·simp[e]
theorem QcJ {κ:Type}[DecidableEq κ]{K:z02}{F:Hp}{k:κ}{v:L2.V}{d:D}(hv:R K F v d):∀{ks:List κ} {vs:List L2.V} {ds:List D},RL K F vs ds->RL K F (zb7 (fun x y=>if x=k then v else y) ks vs) (zb7 (fun x y=>if x=k then d else y) ks ds)
 | [],_,_,.nil=>.nil
 | [],_,_,.cons _ _=>.nil
 |_::_,_,_,.nil=>.nil
 |x::ks,_,_,.cons h r=>by
  rw[za4,za4]
  by_cases e:x=k
  ·rw[if_pos e,if_pos e];exact .cons hv (QcJ hv r)
  ·rw[if_neg e,if_neg e];exact .cons h (QcJ hv r)
theorem QbZ {κ:Type}[DecidableEq κ]{k:κ}{d:D}(hd:d.imm=true):∀{ks:List κ} {ds:List D},D.QL ds=true->D.QL (zb7 (fun x y=>if x=k then d else y) ks ds)=true
 | [],_,_=>rfl
 |_::_,[],_=>rfl
 |x::ks,y::ds,h=>by
  obtain⟨h1,h2⟩:=Q7 h
  rw[za4,D.QL,z72]
  refine⟨?_,QbZ hd h2⟩
  by_cases e:x=k
  ·rw[if_pos e];exact hd
  ·rw[if_neg e];exact h1
theorem OL.rl {K:z02}{F H:Hp}{vs:List L2.V}{ds:List D}{f:List Addr}(o:OL K F H vs ds f)(hi:D.QL ds=true):RL K F vs ds:=by
 have e:=o.Qnm hi
 subst e
 exact o.r (Qn.refl F) (fun _ z=>nomatch z)
theorem SI.Qha {F H:Hp}{σ:L2.St}{ρ:Rho}{τ:List (L2.V×D)}{fp:List Addr}{i:Nat}{par:Bool}{t:Tag}{ds:List D}(I:SI C F H σ ρ τ fp)(mt:t.mut=true)(es:ρ[i]? = some (some (mkS par (.nd t ds)))):∃l vs f rest,σ[i]? = some (some (.ref l))/\Mt H l t vs/\OL C.K F H vs ds f/\fp.Perm ((l::f)++rest)/\(∀b∈l::f,Yg C par b)/\
  ∀{o:HO} {t':Tag} {vs':List L2.V} {ds':List D} {f':List Addr},Mt (upd H l o) l t' vs'->OL C.K F H vs' ds' f'->((l::f')++rest).Nodup->(∀b∈f',F b=none/\Yg C par b)->SI C F (upd H l o) σ (ρ.set i (some (mkS par (.nd t' ds')))) τ ((l::f')++rest):=by
 obtain⟨x,f0,g0,rest,ex,s1,pm,w0,w1,cl⟩:=I.cut es
 obtain⟨v,fi,ev,ho,efi,wfi⟩:∃v fi,x=some v/\O C.K F H v (.nd t ds) fi/\f0++g0=fi/\∀a∈fi,Yg C par a:=by
  cases par with
  |false=>cases s1 with|own h=>exact⟨_,_,rfl,h,by simp,fun a ha=>.inl (w0 a ha)⟩
  |true=>cases s1 with|par h=>exact⟨_,_,rfl,h,rfl,fun a ha=>(w1 a ha).elim (fun z=>.inr ⟨rfl,z⟩) fun z=>.inl z⟩
 subst ev
 cases ho with
 |sc e=>cases e
 |im m h r=>rw[mt] at m;cases m
 | @mt l _ vs _ g hl ol=>
  have pm':fp.Perm ((l::g)++rest):=by rw[← efi,z15];exact pm
  have ndp:=pm'.nodup_iff.mp I.nd
  refine⟨l,vs,g,rest,ex,hl,ol,pm',wfi,fun{o t' vs' ds' f'} hl' ol' nd fr=>?_⟩
  have nl:∀{b:Addr},b∈f'\/b∈rest->b≠l:=fun{b} hb z=>by
   subst z
   have:=(z53.mp (show(b::(f'++rest)).Nodup from nd)).1
   exact this (z04.mpr hb)
  have kp:∀b o',H b=some o'->b∉l::g->upd H l o b=some o':=fun b o' e n=>(Qg (by intro z;subst z;exact n z12)).trans e
  have dm:∀b,upd H l o b=none->H b=none:=fun b e=>by
   by_cases hb:b=l
   ·subst hb;rw[Ql] at e;cases e
   ·rw[Qg hb] at e;exact e
  have hF:Qn F (upd H l o):=fun b o' e=>by
   refine kp b o' (I.fh b o' e) fun z=>?_
   have:=I.ap b (pm'.mem_iff.mpr (z08 _ z))
   rw[e] at this;cases this
  have nop:∀b,C.H₀ b≠none->b∉C.A->b∉l::g:=fun b h1 h2 z=>by
   rcases wfi b z with y|y
   ·exact h1 y
   ·exact h2 y.2
  have apn:∀b∈(l::f')++rest,F b=none:=fun b hb=>by
   rcases z04.mp hb with z|z
   ·rcases z26.mp z with rfl|z
    ·exact I.ap _ (pm'.mem_iff.mpr (by simp))
    ·exact(fr b z).1
   ·exact I.ap b (pm'.mem_iff.mpr (z01 _ z))
  have frn:∀b∈l::f',Yg C par b:=fun b hb=>by
   rcases z26.mp hb with rfl|z
   ·exact wfi _ z12
   ·exact(fr b z).2
  have on:=ol'.keep (Qn.refl _) (H':=upd H l o) fun b hb=>Qg (nl (.inl hb))
  cases par with
  |false=>
   have J:=cl (F':=F) (H':=upd H l o) (x':=some (.ref l)) (s':=some (.own (.nd t' ds'))) (f0':=l::f') (g0':=[]) (Qn.refl F) hF (fun b hb=>Qg (nl (.inr hb))) dm (fun b o' e n z=>kp b o' z (nop b (by rw[e];simp) n)) (fun _ _ z=>.inl z) (.own (.mt hl' on)) nd apn (fun b hb=>(frn b hb).resolve_right fun z=>nomatch z.1) (fun _ z=>nomatch z) (fun v hv=>by
    obtain⟨_,d',z⟩:=I.pr _ _ hv
    rw[es] at z;cases z)
   rw[QZ ex] at J
   exact J
  |true=>
   have J:=cl (F':=F) (H':=upd H l o) (x':=some (.ref l)) (s':=some (.par (.nd t' ds'))) (f0':=[]) (g0':=l::f') (Qn.refl F) hF (fun b hb=>Qg (nl (.inr hb))) dm (fun b o' e n z=>kp b o' z (nop b (by rw[e];simp) n)) (fun _ _ z=>.inl z) (.par (.mt hl' on)) nd apn (fun _ z=>nomatch z) (fun b hb=>(frn b hb).elim (fun z=>.inr z) fun z=>.inl z.2) (fun v hv=>⟨by
    obtain⟨z,_⟩:=I.pr _ _ hv
    rw[ex] at z;exact z27 z,_,rfl⟩)
   rw[QZ ex] at J
   exact J
def Qfz (i:Nat)(mv mk:ME):MS:=fun ρ=>(mv ρ).bind fun r=>(Rs.of (Qd3 r.2 i)).bind fun _=>(mk r.2).bind fun s=>(Rs.of (Qd3 s.2 i)).bind fun q=>(Rs.of (Qd2 s.1)).bind fun k=>
 if q.2.1.length<z20 then(if(r.1.imm && D.QL q.2.2)=true then .ok (.nx,s.2.set i (some (mkS q.1 (.nd (.dT (putD q.2.1 q.2.2 k r.1).1) (putD q.2.1 q.2.2 k r.1).2)))) else .no) else .no
theorem Qb0 {i:Nat}{x:Str}{np spos:Pos}{ix:Expr}(hu:X.A.units+1<cLine)(hN:X.N[i]? = some x)(hv:Vis X.env.scope x)(he:PE X e (tX .V C pa E m))(hi:PE X ix (tX .V C pb E mi))(hs:swapsWith e (some (.Subscript (.Name x np) ix spos)) pos.line X.env=pure false:=by rfl)(hd:(x == ("__debug__" : Str))=false:=by decide)(hcd:(x == ("__classdict__" : Str))=false:=by decide) :
  PS X (.Assign [.Subscript (.Name x np) ix spos] e pos) (tS rk C E (Qfz i m mi)):=QQ (Qik hu (Yh hN hv hd hcd) hi he hs) fun DD σ H ⟨F,ρ,fp,I,h⟩=>by
 refine⟨F,ρ,[],fp,I,h.split.run.mono fun r hr F1 H1 fp1 v I1 n1 f1=>?_⟩
 obtain⟨q0,e0,hr⟩:=hr.split.of
 obtain⟨l0,vs0,g0,QdY,ex0,hl0,_⟩:=SI.Qha I1 rfl (Qa1 e0)
 refine⟨_,ex0,F1,r.2,[],fp1,I1,hr.split.run.mono fun s hs F2 H2 fp2 kv I2 n2 f2=>?_⟩
 obtain⟨q,eq,h2⟩:=hs.split.of
 obtain⟨key,ek,h3⟩:=h2.split.of
 obtain⟨l,vs,f,rest,ex,hl,ol,pm,w,cl⟩:=SI.Qha I2 rfl (Qa1 eq)
 have el:l=l0:=by rw[ex0] at ex;cases ex;rfl
 subst el
 by_cases hz:q.2.1.length<z20
 ·rw[if_pos hz] at h3
  by_cases hi:(r.1.imm && D.QL q.2.2)=true
  ·rw[if_pos hi] at h3
   obtain⟨i1,i2⟩:=z48.mp hi
   obtain⟨bb,rfl,hb⟩:=QbX f2 ek
   have rl:=ol.rl i2
   have rv:R C.K F2 v r.1:=R.same n2.f f1
   have ef:f=[]:=ol.Qnm i2
   subst ef
   have lv:q.2.1.length=vs.length:=hl.1
   have hkv:(q.2.1.zip vs).length<z20:=by rw[zr8,← lv,Nat.min_self];exact hz
   refine⟨l,_,rfl,QkE.t hl.2 (I2.fh _ _ hb) hkv,?_⟩
   have fin:∀{vs':List L2.V},putK (q.2.1.zip vs) key v=(putD q.2.1 q.2.2 key r.1).1.zip vs'->(putD q.2.1 q.2.2 key r.1).1.length=vs'.length->RL C.K F2 vs' (putD q.2.1 q.2.2 key r.1).2->D.QL (putD q.2.1 q.2.2 key r.1).2=true->DD.nx σ (upd H2 l (.dT (putK (q.2.1.zip vs) key v))):=fun{vs'} e1 e2 r' hi'=>by
    rw[e1]
    exact h3 F2 _ σ _ (n1.f.trans n2.f) (cl (t':=.dT _) (vs':=vs') ⟨e2,Ql⟩ (r'.o hi') (pm.nodup_iff.mp I2.nd) (fun _ z=>nomatch z))
   unfold putD at fin
   by_cases c:(q.2.1.any fun x=>decide (x=key))=true
   ·rw[if_pos c] at fin
    refine fin (vs':=zb7 (fun x y=>if x=key then v else y) q.2.1 vs) ?_ (by rw[List.length_zipWith,← lv,Nat.min_self]) (QcJ rv rl) (QbZ i1 i2)
    unfold putK
    rw[QcI lv,if_pos c,Qdq lv]
   ·rw[if_neg c] at fin
    refine fin (vs':=vs++[v]) ?_ (by simp[lv]) (rl.app (.cons rv .nil)) (Qde i2 (QaS fun d hd=>by rw[z19.mp hd];exact i1))
    unfold putK
    rw[QcI lv,if_neg c,zr6 lv]
    rfl
  ·rw[if_neg hi] at h3;exact h3.elim
 ·rw[if_neg hz] at h3;exact h3.elim
end
section
variable {C:Cn}
variable {e:Expr}{es:List Expr}{mr:MA}{ks:List Kd}
noncomputable def Qhb:List Kd->List D->Rho->Option (List D×Rho)
 | [],_,ρ=>some ([],ρ)
 |.O::ks,d::ds,ρ=>(Qhb ks ds ρ).map fun q=>(d::q.1,q.2)
 |.S i::ks,_::ds,ρ=>(Qhb ks ds ρ).bind fun q=>match q.2[i]? with
  |some (some (.own d))=>some (d::q.1,q.2.set i none)
  |_=>none
 |_,_,_=>none
theorem SI.Qje {F H:Hp}{σ:L2.St}{ρ:Rho}{τ:List (L2.V×D)}{fp:List Addr}{i:Nat}{d:D}(I:SI C F H σ ρ τ fp)(es:ρ[i]? = some (some (.own d))):∃v f rest,σ[i]? = some (some v)/\O C.K F H v d f/\fp.Perm (f++rest)/\SI C F H σ (ρ.set i none) τ rest/\(∀a∈f,C.H₀ a=none)/\(∀a∈f,F a=none):=by
 obtain⟨y,f0,g0,rest,ey,s1,pm,w0,w1,cl⟩:=I.cut es
 cases s1 with
 | @own v _ f h=>
  have nd:=pm.nodup_iff.mp I.nd
  have q:=cl (F':=F) (H':=H) (x':=some v) (s':=none) (f0':=[]) (g0':=[]) (Qn.refl _) I.fh (fun _ _=>rfl) (fun _ z=>z) (fun _ _ _ _ z=>z) (fun b o e=>.inl e) .non (z07.mp nd).2.1 (fun a ha=>I.ap a (pm.mem_iff.mpr (z01 _ ha))) (fun _ z=>nomatch z) (fun _ z=>nomatch z) (fun v' hv=>by
   obtain⟨_,d',z⟩:=I.pr _ _ hv
   rw[es] at z;cases z)
  rw[QZ ey] at q
  exact⟨v,f0,_,ey,h,pm,q,w0,fun a ha=>I.ap a (pm.mem_iff.mpr (z08 _ ha))⟩
def Qot (ks:List Kd)(mr:MA):ME:=fun ρ=>(mr ρ).bind fun r=>(Rs.of (Qhb ks r.1 r.2)).bind fun q=>if q.1.length<=z20 then .ok (.tup q.1,q.2) else .no
end
section
variable {X:Cx}{C:Cn}{E:XE}{p pa pc:Bool}{a c:Expr}{m mi:ME}{pos:Pos}{k rk:Kd}
theorem Qgq {A:Around}{k:Nat}(hr:Y7 k A):A.units+30<cLine:=by have:=hr.units;omega
theorem Qjf (hK:C.K=X.K):OpD C.K (Qkd X.K 30 id) gEq:=by rw[hK];exact dEq
theorem Qou (hK:C.K=X.K):OpD C.K (Qkd X.K 30 not) gNe:=by rw[hK];exact dNe
theorem xb (i:Nat){x:Str}{pos:Pos}(hN:X.N[i]? = some x:=by rfl)(hv:Vis X.env.scope x:=by first|exact z46 rfl|exact z58 (z46 rfl)|exact z58 (z58 rfl))(hd:(x == ("__debug__" : Str))=false:=by decide)(hcd:(x == ("__classdict__" : Str))=false:=by decide):PE X (.Name x pos) (tX .B C true E (mB i)):=Qle hN hv hd hcd
theorem xv (i:Nat){x:Str}{pos:Pos}(hN:X.N[i]? = some x:=by rfl)(hv:Vis X.env.scope x:=by first|exact z46 rfl|exact z58 (z46 rfl)|exact z58 (z58 rfl))(hd:(x == ("__debug__" : Str))=false:=by decide)(hcd:(x == ("__classdict__" : Str))=false:=by decide):PE X (.Name x pos) (tX .V C true E (mV i)):=Qlf hN hv hd hcd
theorem xo (i:Nat){x:Str}{pos:Pos}(hN:X.N[i]? = some x:=by rfl)(hv:Vis X.env.scope x:=by first|exact z46 rfl|exact z58 (z46 rfl)|exact z58 (z58 rfl))(hd:(x == ("__debug__" : Str))=false:=by decide)(hcd:(x == ("__classdict__" : Str))=false:=by decide):PE X (.Name x pos) (tX .O C true E (mO i)):=Qlg hN hv hd hcd
theorem xs (i:Nat){x:Str}{pos:Pos}(hN:X.N[i]? = some x:=by rfl)(hv:Vis X.env.scope x:=by first|exact z46 rfl|exact z58 (z46 rfl)|exact z58 (z58 rfl))(hd:(x == ("__debug__" : Str))=false:=by decide)(hcd:(x == ("__classdict__" : Str))=false:=by decide):PE X (.Name x pos) (tX (.S i) C true E (mS i)):=Qlm hN hv hd hcd
theorem spk {P:Program}{w:World}{K:z02}{mg:Str->Option Value}{base:Heap}{n:Nat}{x:Str}{ps:List Str}{io:List Bool}{f:List D->Fr}(D:Vb P w K mg base n x ps (spF K io rk f))(hC:C.K=K):Vb P w K mg base n x ps (spF C.K io rk f):=by rw[hC];exact D
def QlH (i:Nat)(m:ME):MS:=QdZ i m
theorem Qjg {elt iter:Expr}{x y:Str}{px py pos spos:Pos}{ifs:List Expr}{scope:Scope}{N:List Str}{cs:List Cp}{j i0:Nat}{par:Bool}{mi:MA}{mt:MT}{me:ME}{pc pe:Bool}(hK:C.K=X.K)(hc:X.calm=true)(hXN:X.N.Nodup)(hi0:X.N[i0]? = some y)(hy:Loc X.env.scope y)(B:Blk X scope N (cs.map Cp.ix))(hjN:N[j]? = some x)(hj:cs[j]? = some .me)(hx:scope.names.lookup x=some .local)(hi:PI X (.Name x px) iter (tI C pa E mi))
  (ht:∀pins c s H ex,PIf (X.blk scope N pins c s H ex) ifs (exT X.K pc mt)) (he:∀pins c s H ex,PE (X.blk scope N pins c s H ex) elt (exX .O X.K pe me)) (nd:(cs.filterMap Cp.is).Nodup:=by decide)
  (hsw:swapsWith (.ListComp elt [⟨.Name x px,iter,ifs,0⟩] scope pos) (some (.Name y py)) spos.line X.env=pure true:=by rfl)
  (hf:X.fn y=true\/X.env.scope.names.lookup y=some .local:=by first|exact .inl rfl|exact .inr rfl|assumption)
  (hs:∀x,foldedSetIterable iter X.env x=pure x:=by intro _;rfl):PS X (.Assign [.Name y py] (.ListComp elt [⟨.Name x px,iter,ifs,0⟩] scope pos) spos) (tS rk C E (QlH i0 (YT par cs j mi mt me))):=
 QQ (QgJ hc hXN hi0 hy B hi (fun _ _ _ _ _=>QW (i:=j) B.nd hjN (.inl (lookup_relabel_local hx)) (.inr (lookup_relabel_local hx))) ht he hsw hf hs) fun D σ H h=>by
  have q:=Qfd (p:=pa && false) h
  refine QbV (p:=false) (par:=par) hK hj nd (fun z=>nomatch z) ?_
  obtain⟨F,ρ,τ,fp,I,r⟩:=q
  exact⟨F,ρ,τ,fp,I,r.mono fun a z F' H' fp' v I' n f=>by
   obtain⟨F2,rest,J,sf,rr,je⟩:=SI.freeze (show SI C F' H' σ a.2 ((v,a.1)::τ) fp' from I')
   exact z F2 H' rest v J ⟨n.f.trans sf,fun hp=>by rw[je];exact n.g hp⟩ rr⟩
end
section
variable {k:Kd}{n:Nat}
noncomputable def QpF (i:Int)(n:Nat):List D:=(z47 n).map fun k=>.int (i+(k:Nat))
end
def W {α:Type}(r:Rs α)(k:α->Prop):Prop:=∃a,r=.ok a/\k a
section
variable {α β:Type}{k:α->Prop}
theorem Qd4 {a:α}:W (.ok a) k↔k a:=⟨fun⟨b,e,h⟩=>by cases e;exact h,fun h=>⟨a,rfl,h⟩⟩
theorem Qi {x:Rs β}{f:β->Rs α}:W (x.bind f) k↔W x fun a=>W (f a) k:=by
 cases x with
 |ok a=>exact⟨fun h=>⟨a,rfl,h⟩,fun⟨b,e,h⟩=>by cases e;exact h⟩
 |ex c ρ=>exact⟨fun⟨_,e,_⟩=>(nomatch e),fun⟨_,e,_⟩=>(nomatch e)⟩
 |no=>exact⟨fun⟨_,e,_⟩=>(nomatch e),fun⟨_,e,_⟩=>(nomatch e)⟩
theorem Qov {a:α}:W (Rs.of (some a)) k↔k a:=Qd4
theorem QlI {c:Prop}[Decidable c]{x y:Rs α}(h1:c->W x k)(h2:¬c->W y k):W (if c then x else y) k:=by
 by_cases h:c
 ·rw[if_pos h];exact h1 h
 ·rw[if_neg h];exact h2 h
theorem W.mono {r:Rs α}{k':α->Prop}(h:W r k)(m:∀a,k a->k' a):W r k':=by obtain⟨a,e,h⟩:=h;exact⟨a,e,m a h⟩
theorem W.eq {r:Rs α}{a:α}(h:W r fun b=>b=a):r=.ok a:=by obtain⟨b,e,rfl⟩:=h;exact e
end
theorem V9 {α:Type}{r r':Rs α}{k:α->Prop}(h:r=r'):W r k=W r' k:=by rw[h]
def FW (r:Fr)(P:D->List D->Prop):Prop:=∃d os,r=.ok d os/\P d os
theorem Yt {io:List Bool}{n:Nat}{mb:MS}{ds:List D}{P:D->List D->Prop}(h:W (mb (Qlw io n ds)) fun q=>∃d os,q.1=.rt d/\outs io q.2=some os/\P d os):FW (Qam io n mb ds) P:=by
 obtain⟨⟨f,ρ⟩,e,d,os,rfl,ho,p⟩:=h
 refine⟨d,os,?_,p⟩
 unfold Qam
 rw[e]
 dsimp only at ho ⊢
 rw[ho]
theorem QfA {par:Bool}{as:List (Option Nat)}{f:List D->Fr}{mr:MA}{ρ ρ1:Rho}{args dis:List D}{P:D->List D->Prop}{k:D×Rho->Prop}(h1:mr ρ=.ok (args,ρ1))(h2:Yd par ρ1 (as.filterMap id)=some dis)(h3:FW (f (Qfg as args dis)) P)
  (h4:∀d os,P d os->k (d,JP par ρ1 (as.filterMap id) os)):W (Jm par as f mr ρ) k:=by
 obtain⟨d,os,e,p⟩:=h3
 refine⟨_,?_,h4 d os p⟩
 unfold Jm
 rw[h1]
 show((Rs.of (Yd par ρ1 (as.filterMap id))).bind _)=_
 rw[h2]
 show(match f (Qfg as args dis) with|.ok d outs=>_|.ex c=>_|.no=>_)=_
 rw[e]
theorem Qjh {rk:Kd}{f:List D->Fr}{mr:MA}{ρ ρ1:Rho}{args:List D}{P:D->List D->Prop}{k:D×Rho->Prop}(h1:mr ρ=.ok (args,ρ1))(h3:FW (f args) P)(h4:∀d os,P d os->(rk=.V->d.imm=true)/\k (d,ρ1)):W (Vq rk f mr ρ) k:=by
 obtain⟨d,os,e,p⟩:=h3
 refine⟨_,?_,(h4 d os p).2⟩
 unfold Vq
 rw[h1]
 show(match f args with|.ok d _=>_|.ex c=>_|.no=>_)=_
 rw[e]
 cases rk with
 |V=>show(if d.imm=true then _ else _)=_;rw[if_pos ((h4 d os p).1 rfl)]
 |O=>rfl
 |B=>rfl
 |S i=>rfl
theorem Qaa {m u:MS}{ρ:Rho}{k:Fl×Rho->Prop}(J:Rho->Prop)(h1:W (m ρ) fun r=>r.1=.nx/\J r.2)(h2:∀ρ,J ρ->W (u ρ) k):W (Qi0 m u ρ) k:=by
 obtain⟨⟨f,ρ1⟩,e,e2,hj⟩:=h1
 obtain⟨a,e3,h3⟩:=h2 ρ1 hj
 refine⟨a,?_,h3⟩
 have e2':f=.nx:=e2
 subst e2'
 unfold Qi0
 rw[e]
 exact e3
theorem QfB {mr:MA}{ρ ρ1:Rho}{n:Int}(h:mr ρ=.ok ([.int n],ρ1))(b1 : -(2 ^ 62)<=n)(b2:n<2 ^ 62):QgZ mr ρ=.ok ((z47 n.toNat).map fun j=>.int ((0:Int)+(j:Nat)),ρ1):=by
 unfold QgZ
 rw[h]
 have e:QcC [.int n]=some n:=if_pos ⟨b1,b2⟩
 show((Rs.of (QcC [.int n])).bind _)=_
 rw[e]
 rfl
theorem JX {m:ME}{ρ ρ1:Rho}{ds:List D}{t:Tag}(ht:t=.lst\/t=.tup)(h:m ρ=.ok (.nd t ds,ρ1)):QaV m ρ=.ok (ds,ρ1):=by
 unfold QaV
 rw[h]
 rcases ht with rfl|rfl<;>rfl
theorem Vh {j:Nat}{tc:MT}{te:ME}{f:D->Bool}{g:D->D}{ρ:Rho}:∀{ds:List D} {acc:List D},(∀d∈ds,∃ρ0,YC ρ j d=some ρ0/\tc ρ0=.ok (f d,ρ0)/\(f d=true->te ρ0=.ok (g d,ρ0))/\ρ0.set j none=ρ)->acc.length+ds.length<=z20->
  Vg j tc te ds ρ acc=.ok (acc++(ds.filter f).map g,ρ)
 | [],acc,h,l=>by simp[Vg]
 |d::ds,acc,h,l=>by
  obtain⟨ρ0,e0,e1,e2,e3⟩:=h d z12
  unfold Vg
  rw[e0]
  show((tc ρ0).bind _)=_
  rw[e1]
  by_cases hf:f d=true
  ·show(if f d=true then _ else _)=_
   rw[if_pos hf,e2 hf]
   show(if acc.length<z20 then _ else _)=_
   rw[if_pos (by simp at l;omega),e3,Vh (fun d' hd'=>h d' (z09 _ hd')) (by simp at l ⊢;omega),zk1,if_pos hf]
   simp
  ·show(if f d=true then _ else _)=_
   rw[if_neg hf,e3,Vh (fun d' hd'=>h d' (z09 _ hd')) (by simp at l ⊢;omega),zk1,if_neg hf]
theorem QfC {par:Bool}{cs:List Cp}{j:Nat}{mi:MA}{tc:MT}{te:ME}{ρ ρ1 ρb:Rho}{ds di os:List D}{f:D->Bool}{g:D->D}(h1:mi ρ=.ok (ds,ρ1))(h2:Yd par ρ1 (cs.filterMap Cp.is)=some di)(h3:Qan ρ1 cs di=some ρb)
  (hs:∀d∈ds,∃ρ0,YC ρb j d=some ρ0/\tc ρ0=.ok (f d,ρ0)/\(f d=true->te ρ0=.ok (g d,ρ0))/\ρ0.set j none=ρb) (l:ds.length<=z20) (ho:outs (ioB cs) ρb=some os) (hp:JP par ρ1 (cs.filterMap Cp.is) os=ρ1):YT par cs j mi tc te ρ=.ok (.lst ((ds.filter f).map g),ρ1):=by
 unfold YT
 rw[h1]
 show((Rs.of (Yd par ρ1 (cs.filterMap Cp.is))).bind _)=_
 rw[h2]
 show((Rs.of (Qan ρ1 cs di)).bind _)=_
 rw[h3]
 show(match Vg j tc te ds ρb [] with|.ok q=>_|_=>_)=_
 rw[Vh hs (by simpa using l)]
 show((Rs.of (outs (ioB cs) ρb)).bind _)=_
 rw[ho]
 show Rs.ok _=_
 rw[hp]
 simp
theorem comp_map {par:Bool}{cs:List Cp}{j:Nat}{mi:MA}{te:ME}{ρ ρ1 ρb:Rho}{ds di os:List D}{g:D->D}(h1:mi ρ=.ok (ds,ρ1))(h2:Yd par ρ1 (cs.filterMap Cp.is)=some di)(h3:Qan ρ1 cs di=some ρb)
  (hs:∀d∈ds,∃ρ0,YC ρb j d=some ρ0/\te ρ0=.ok (g d,ρ0)/\ρ0.set j none=ρb) (l:ds.length<=z20) (ho:outs (ioB cs) ρb=some os) (hp:JP par ρ1 (cs.filterMap Cp.is) os=ρ1):YT par cs j mi Qly te ρ=.ok (.lst (ds.map g),ρ1):=by
 rw[QfC (f:=fun _=>true) (g:=g) h1 h2 h3 (fun d hd=>by obtain⟨ρ0,e1,e2,e3⟩:=hs d hd;exact⟨ρ0,e1,rfl,fun _=>e2,e3⟩) l ho hp,List.filter_eq_self.mpr fun _ _=>rfl]
theorem QfD {tg:D->Rho->Option Rho}{mb:MS}{k:Fl×Rho->Prop}(Inv:Nat->Rho->Prop){ds:List D}(step:∀i d ρ,ds[i]? = some d->Inv i ρ->∃ρ1,tg d ρ=some ρ1/\W (mb ρ1) fun r=>r.1=.nx/\Inv (i+1) r.2) :
  ∀(n i:Nat) (ρ:Rho),ds.length - i=n->i<=ds.length->Inv i ρ->(∀ρ',Inv ds.length ρ'->k (.nx,ρ'))->W (forL tg mb (ds.drop i) ρ) k
 |0,i,ρ,hn,hi,h,hk=>by
  have:i=ds.length:=by omega
  subst this
  rw[zq3]
  exact Qd4.mpr (hk _ h)
 |n+1,i,ρ,hn,hi,h,hk=>by
  have hlt:i<ds.length:=by omega
  rw[z93 hlt]
  obtain⟨ρ1,e1,h1⟩:=step i ds[i] ρ (z03 hlt) h
  unfold forL
  rw[e1]
  refine Qi.mpr (Qov.mpr (Qi.mpr (h1.mono fun r hz=>?_)))
  obtain⟨e2,h2⟩:=hz
  rw[e2]
  exact QfD Inv step n (i+1) r.2 (by omega) (by omega) h2 hk
theorem Qb1 {mi:MA}{tg:D->Rho->Option Rho}{mb:MS}{ρ ρ1:Rho}{ds:List D}{k:Fl×Rho->Prop}(Inv:Nat->Rho->Prop)(h1:mi ρ=.ok (ds,ρ1))(i:Inv 0 ρ1)(step:∀i d ρ,ds[i]? = some d->Inv i ρ->∃ρ1,tg d ρ=some ρ1/\W (mb ρ1) fun r=>r.1=.nx/\Inv (i+1) r.2)
  (hk:∀ρ',Inv ds.length ρ'->k (.nx,ρ')):W (Qnq mi tg mb ρ) k:=by
 unfold Qnq
 rw[h1]
 have:=QfD Inv step ds.length 0 ρ1 (by simp) (z49 _) i hk
 rw[zm1] at this
 exact this
theorem Vi {a b:Int}:gEq (.int a) (.int b)=some (.bl (decide (a=b))):=by
 show(eqS (.int a) (.int b)).map D.bl=_
 unfold eqS
 rw[if_pos (by rfl)]
 show some _=some _
 congr 2
 by_cases h:a=b<;>simp[h]
theorem Qji {a b:Int}:gNe (.int a) (.int b)=some (.bl (decide (a≠b))):=by
 have:=Vi (a:=a) (b:=b)
 unfold gEq at this
 unfold gNe
 cases h:eqb 30 (.int a) (.int b) with
 |none=>rw[h] at this;cases this
 |some c=>
  rw[h] at this
  cases this
  show some _=some _
  by_cases h:a=b<;>simp[h]
theorem Qqu {a b c:Int}:gIn (.int a) (.nd .tup [.int b,.int c])=some (.bl (decide (b=a\/c=a))):=by
 have h1:=Vi (a:=b) (b:=a)
 have h2:=Vi (a:=c) (b:=a)
 obtain⟨x,e1,e1'⟩:=z05.mp h1
 obtain⟨y,e2,e2'⟩:=z05.mp h2
 show((inL (eqb 30) (.int a) [.int b,.int c])).map D.bl=_
 unfold inL inL inL
 rw[e1,e2]
 cases e1';cases e2'
 show some _=some _
 by_cases q:b=a<;>by_cases r:c=a<;>simp[q,r]
section
variable {s:Option Sl}{ρ ρ1 ρ2:Rho}{k:D×Rho->Prop}{kt:Bool×Rho->Prop}{ka:List D×Rho->Prop}{ko:Option Int×Rho->Prop}{kf:Fl×Rho->Prop}{a b m u:ME}{mt mu:MT}{mr:MA}{ms mv:MS}{d x y:D}{xs ys:List D}{i:Nat}{g:D->D->Option D}{c:Bool}{lo hi:MO}
def vK (o:Option (Option Sl))(i:Nat)(ρ:Rho):Rs (D×Rho):=match o with
 |some (some (.frz d))=>.ok (d,ρ)
 |some (some (.own d))=>.ok (d,ρ.set i (some (.frz d)))
 |_=>.no
theorem QlJ:vK (some (some (.frz d))) i ρ=.ok (d,ρ):=rfl
theorem QlK:vK (some (some (.own d))) i ρ=.ok (d,ρ.set i (some (.frz d))):=rfl
theorem w_V:W (mV i (s::ρ)) k↔W (vK ((s::ρ)[i]?) i (s::ρ)) k:=zy5
def bK (o:Option (Option Sl))(ρ:Rho):Rs (D×Rho):=match o with
 |some (some (.frz d))=>.ok (d,ρ)
 |some (some (.own d))=>.ok (d,ρ)
 |some (some (.par d))=>.ok (d,ρ)
 |_=>.no
theorem QlL:bK (some (some (.frz d))) ρ=.ok (d,ρ):=rfl
theorem QlM:bK (some (some (.own d))) ρ=.ok (d,ρ):=rfl
theorem QlN:bK (some (some (.par d))) ρ=.ok (d,ρ):=rfl
theorem w_B:W (mB i (s::ρ)) k↔W (bK ((s::ρ)[i]?) (s::ρ)) k:=zy5
def oK (o:Option (Option Sl))(i:Nat)(ρ:Rho):Rs (D×Rho):=match o with
 |some (some (.own d))=>.ok (d,ρ.set i none)
 |_=>.no
theorem QlO:oK (some (some (.own d))) i ρ=.ok (d,ρ.set i none):=rfl
theorem w_O:W (mO i (s::ρ)) k↔W (oK ((s::ρ)[i]?) i (s::ρ)) k:=zy5
def sK (o:Option (Option Sl))(ρ:Rho):Rs (D×Rho):=match o with
 |some (some (.own d))=>.ok (d,ρ)
 |some (some (.par d))=>.ok (d,ρ)
 |_=>.no
theorem QlP:sK (some (some (.own d))) ρ=.ok (d,ρ):=rfl
theorem QlQ:sK (some (some (.par d))) ρ=.ok (d,ρ):=rfl
theorem w_S:W (mS i (s::ρ)) k↔W (sK ((s::ρ)[i]?) (s::ρ)) k:=zy5
theorem w_C:W (mC d (s::ρ)) k↔k (d,s::ρ):=Qd4
def iK (r:D×Rho):Rs (D×Rho):=if r.1.imm=true then .ok r else .no
theorem Qow:iK (d,ρ)=if d.imm=true then .ok (d,ρ) else .no:=rfl
theorem w_I:W (mI m (s::ρ)) k↔W (m (s::ρ)) fun r=>W (iK r) k:=Qi
def opK (g:D->D->Option D)(r1 r2:D×Rho):Rs (D×Rho):=Rs.of ((g r1.1 r2.1).map fun d=>(d,r2.2))
theorem QlR:opK g (x,ρ1) (y,ρ2)=Rs.of ((g x y).map fun d=>(d,ρ2)):=rfl
theorem Qqv:W (mOp g a b (s::ρ)) k↔W (a (s::ρ)) fun r1=>W (b r1.2) fun r2=>W (opK g r1 r2) k:=by simp only[mOp,Qi,opK]
def tK (r:D×Rho):Rs (Bool×Rho):=Rs.of ((asB r.1).map fun b=>(b,r.2))
theorem Qox:tK (.bl c,ρ)=.ok (c,ρ):=rfl
theorem QlS:W (V4 m (s::ρ)) kt↔W (m (s::ρ)) fun r=>W (tK r) kt:=Qi
def nK (r:Bool×Rho):Rs (Bool×Rho):=.ok (!r.1,r.2)
theorem Qoy:nK (c,ρ)=.ok (!c,ρ):=rfl
theorem Qoz:W (Qql mt (s::ρ)) kt↔W (mt (s::ρ)) fun r=>W (nK r) kt:=Qi
def anK (u:MT)(r:Bool×Rho):Rs (Bool×Rho):=if r.1=true then u r.2 else .ok (false,r.2)
theorem QlT:anK mu (c,ρ)=if c=true then mu ρ else .ok (false,ρ):=rfl
theorem QoA:W (Qnn mt mu (s::ρ)) kt↔W (mt (s::ρ)) fun r=>W (anK mu r) kt:=Qi
def orK (u:MT)(r:Bool×Rho):Rs (Bool×Rho):=if r.1=true then .ok (true,r.2) else u r.2
theorem QlU:orK mu (c,ρ)=if c=true then .ok (true,ρ) else mu ρ:=rfl
theorem Qqw:W (mOr mt mu (s::ρ)) kt↔W (mt (s::ρ)) fun r=>W (orK mu r) kt:=Qi
def feK (a b:ME)(r:Bool×Rho):Rs (D×Rho):=if r.1=true then a r.2 else b r.2
theorem QlV:feK a b (c,ρ)=if c=true then a ρ else b ρ:=rfl
theorem QoB:W (Qpv mt a b (s::ρ)) k↔W (mt (s::ρ)) fun r=>W (feK a b r) k:=Qi
theorem QoC:W (JN (s::ρ)) ka↔ka ([],s::ρ):=Qd4
def coK (r:D×Rho)(q:List D×Rho):Rs (List D×Rho):=.ok (r.1::q.1,q.2)
theorem QlW:coK (d,ρ1) (xs,ρ2)=.ok (d::xs,ρ2):=rfl
theorem QlX:W (Qt m mr (s::ρ)) ka↔W (m (s::ρ)) fun r=>W (mr r.2) fun q=>W (coK r q) ka:=by simp only[Qt,Qi,coK]
def cbK (g:List D->Option D)(r:List D×Rho):Rs (D×Rho):=Rs.of ((g r.1).map fun d=>(d,r.2))
theorem QlY {g:List D->Option D}:cbK g (xs,ρ)=Rs.of ((g xs).map fun d=>(d,ρ)):=rfl
theorem Qjj {g:List D->Option D}:W (QbP g mr (s::ρ)) k↔W (mr (s::ρ)) fun r=>W (cbK g r) k:=Qi
def lsK (r:List D×Rho):Rs (D×Rho):=if r.1.length<=z20 then .ok (.lst r.1,r.2) else .no
theorem QlZ:lsK (xs,ρ)=if xs.length<=z20 then .ok (.lst xs,ρ) else .no:=rfl
theorem QoD:W (Qkc mr (s::ρ)) k↔W (mr (s::ρ)) fun r=>W (lsK r) k:=Qi
def tuK (r:List D×Rho):Rs (D×Rho):=if r.1.length<=z20 then .ok (.tup r.1,r.2) else .no
theorem Ql0:tuK (xs,ρ)=if xs.length<=z20 then .ok (.tup xs,ρ) else .no:=rfl
theorem QoE:W (Qno mr (s::ρ)) k↔W (mr (s::ρ)) fun r=>W (tuK r) k:=Qi
def loK (r:List D×Rho):Rs (D×Rho):=if r.1.length<=z20 then(if D.QL r.1=true then .ok (.lst r.1,r.2) else .no) else .no
theorem Ql1:loK (xs,ρ)=if xs.length<=z20 then(if D.QL xs=true then .ok (.lst xs,ρ) else .no) else .no:=rfl
theorem Ql2:W (Qlo mr (s::ρ)) k↔W (mr (s::ρ)) fun r=>W (loK r) k:=Qi
def liK (r:List D×Rho):Rs (D×Rho):=(Rs.of (QdX r.1)).bind fun ds=>if D.QL ds=true then .ok (.lst ds,r.2) else .no
theorem Ql3:liK ([.nd .lst xs],ρ)=if D.QL xs=true then .ok (.lst xs,ρ) else .no:=rfl
theorem Qjk:W (QbR mr (s::ρ)) k↔W (mr (s::ρ)) fun r=>W (liK r) k:=Qi
theorem Ql4:W (QiZ (s::ρ)) kf↔kf (.nx,s::ρ):=Qd4
def sqK (u:MS)(r:Fl×Rho):Rs (Fl×Rho):=match r.1 with
 |.nx=>u r.2
 |f=>.ok (f,r.2)
theorem Ql5:sqK mv (.nx,ρ)=mv ρ:=rfl
theorem Ql6:sqK mv (.rt d,ρ)=.ok (.rt d,ρ):=rfl
theorem QoF:W (Qi0 ms mv (s::ρ)) kf↔W (ms (s::ρ)) fun r=>W (sqK mv r) kf:=Qi
def rtK (r:D×Rho):Rs (Fl×Rho):=.ok (.rt r.1,r.2)
theorem Ql7:rtK (d,ρ)=.ok (.rt d,ρ):=rfl
theorem QoG:W (Qnp m (s::ρ)) kf↔W (m (s::ρ)) fun r=>W (rtK r) kf:=Qi
def ifK (a b:MS)(r:Bool×Rho):Rs (Fl×Rho):=if r.1=true then a r.2 else b r.2
theorem Ql8:ifK ms mv (c,ρ)=if c=true then ms ρ else mv ρ:=rfl
theorem Qqx:W (mIf mt ms mv (s::ρ)) kf↔W (mt (s::ρ)) fun r=>W (ifK ms mv r) kf:=Qi
def svK (i:Nat)(r:D×Rho):Rs (Fl×Rho):=(Rs.of (YC r.2 i r.1)).bind fun ρ'=>.ok (.nx,ρ')
theorem Ql9:svK i (d,ρ)=(Rs.of (YC ρ i d)).bind fun ρ'=>.ok (.nx,ρ'):=rfl
theorem Qma:W (QdZ i m (s::ρ)) kf↔W (m (s::ρ)) fun r=>W (svK i r) kf:=Qi
theorem Qmb:W (QlH i m (s::ρ)) kf↔W (m (s::ρ)) fun r=>W (svK i r) kf:=Qi
def soK (i:Nat)(r:D×Rho):Rs (Fl×Rho):=(Rs.of (Qgp r.2 i r.1)).bind fun ρ'=>.ok (.nx,ρ')
theorem Qmc:soK i (d,ρ)=(Rs.of (Qgp ρ i d)).bind fun ρ'=>.ok (.nx,ρ'):=rfl
theorem Qmd:W (Qfc i m (s::ρ)) kf↔W (m (s::ρ)) fun r=>W (soK i r) kf:=Qi
def unK (g:D->Option D)(r:D×Rho):Rs (D×Rho):=Rs.of ((g r.1).map fun d=>(d,r.2))
theorem Qme {g:D->Option D}:unK g (d,ρ)=Rs.of ((g d).map fun d=>(d,ρ)):=rfl
theorem Qqy {g:D->Option D}:W (mUn g m (s::ρ)) k↔W (m (s::ρ)) fun r=>W (unK g r) k:=Qi
def ixK (i:Nat)(m:ME)(r:D×Rho):Rs (Fl×Rho):=(Rs.of (Ys r.2 i)).bind fun _=>(m r.2).bind fun s=>(Rs.of (Ys s.2 i)).bind fun q=>(Rs.of ((asI s.1).bind fun n=>ixN q.2.length n)).bind fun j=>
 .ok (.nx,s.2.set i (some (mkS q.1 (.lst (q.2.set j r.1)))))
def QoH (i:Nat)(d:D)(t:D×Rho):Rs (Fl×Rho):=(Rs.of (Ys t.2 i)).bind fun q=>(Rs.of ((asI t.1).bind fun n=>ixN q.2.length n)).bind fun j=>
 .ok (.nx,t.2.set i (some (mkS q.1 (.lst (q.2.set j d)))))
theorem Qjl:QoH i d (x,ρ)=(Rs.of (Ys ρ i)).bind fun q=>(Rs.of ((asI x).bind fun n=>ixN q.2.length n)).bind fun j=>.ok (.nx,ρ.set i (some (mkS q.1 (.lst (q.2.set j d))))):=rfl
theorem Qmf:W (ixK i m (d,s::ρ)) kf↔W (Rs.of (Ys (s::ρ) i)) fun _=>W (m (s::ρ)) fun t=>W (QoH i d t) kf:=by simp only[ixK,Qi,QoH]
theorem Qjm:W (QhS i a m (s::ρ)) kf↔W (a (s::ρ)) fun r=>W (ixK i m r) kf:=Qi
def apK (i:Nat)(r:D×Rho):Rs (Fl×Rho):=(Rs.of (Ys r.2 i)).bind fun q=>if q.2.length<z20 then .ok (.nx,r.2.set i (some (mkS q.1 (.lst (q.2++[r.1]))))) else .no
theorem Qmg:apK i (d,ρ)=(Rs.of (Ys ρ i)).bind fun q=>if q.2.length<z20 then .ok (.nx,ρ.set i (some (mkS q.1 (.lst (q.2++[d]))))) else .no:=rfl
theorem QoI:W (Qke i m (s::ρ)) kf↔W (Rs.of (Ys (s::ρ) i)) fun _=>W (m (s::ρ)) fun r=>W (apK i r) kf:=by simp only[Qke,Qi,apK]
theorem QoJ:W (Qkf (s::ρ)) ko↔ko (none,s::ρ):=Qd4
def prK (r:D×Rho):Rs (Option Int×Rho):=(Rs.of (asI r.1)).bind fun i=>.ok (some i,r.2)
theorem Qmh {j:Int}:prK (.int j,ρ)=.ok (some j,ρ):=rfl
theorem QoK:W (QhU m (s::ρ)) ko↔W (m (s::ρ)) fun r=>W (prK r) ko:=Qi
def slK (r:D×Rho)(l h:Option Int×Rho):Rs (D×Rho):=(Rs.of (asL r.1)).bind fun xs=>.ok (.lst (cutD xs l.1 h.1),h.2)
theorem Qmi {l h:Option Int}:slK (.nd .lst xs,ρ) (l,ρ1) (h,ρ2)=.ok (.lst (cutD xs l h),ρ2):=rfl
theorem QoL:W (QhV m lo hi (s::ρ)) k↔W (m (s::ρ)) fun r=>W (lo r.2) fun l=>W (hi l.2) fun h=>W (slK r l h) k:=by simp only[QhV,Qi,slK]
def skK (r:D×Rho)(l h:Option Int×Rho):Rs (D×Rho):=(Rs.of (asL r.1)).bind fun xs=>if D.QL (cutD xs l.1 h.1)=true then .ok (.lst (cutD xs l.1 h.1),h.2) else .no
theorem Qmj {l h:Option Int}:skK (.nd .lst xs,ρ) (l,ρ1) (h,ρ2)=if D.QL (cutD xs l h)=true then .ok (.lst (cutD xs l h),ρ2) else .no:=rfl
theorem QoM:W (QpE m lo hi (s::ρ)) k↔W (m (s::ρ)) fun r=>W (lo r.2) fun l=>W (hi l.2) fun h=>W (skK r l h) k:=by simp only[QpE,Qi,skK]
def ctK (r1 r2:D×Rho):Rs (D×Rho):=(Rs.of (asL r1.1)).bind fun xs=>(Rs.of (asL r2.1)).bind fun ys=>if xs.length+ys.length<=z20 then .ok (.lst (xs++ys),r2.2) else .no
theorem Qmk:ctK (.nd .lst xs,ρ1) (.nd .lst ys,ρ2)=if xs.length+ys.length<=z20 then .ok (.lst (xs++ys),ρ2) else .no:=rfl
theorem Qml:W (QcG a b (s::ρ)) k↔W (a (s::ρ)) fun r1=>W (b r1.2) fun r2=>W (ctK r1 r2) k:=by simp only[QcG,Qi,ctK]
def avK (b:ME)(r:D×Rho):Rs (D×Rho):=(Rs.of (asB r.1)).bind fun c=>if c=true then b r.2 else .ok (.bl false,r.2)
theorem Qmm:avK b (.bl c,ρ)=if c=true then b ρ else .ok (.bl false,ρ):=rfl
theorem Qmn:W (QiW a b (s::ρ)) k↔W (a (s::ρ)) fun r=>W (avK b r) k:=Qi
def chK (g g':D->D->Option D)(mc:ME)(r1 r2:D×Rho):Rs (D×Rho):=(Rs.of ((g r1.1 r2.1).bind asB)).bind fun q=>if q=true then(mc r2.2).bind fun r3=>Rs.of ((g' r2.1 r3.1).map fun d=>(d,r3.2)) else .ok (.bl false,r2.2)
theorem Qmo {g':D->D->Option D}:chK g g' u (x,ρ1) (y,ρ2)=(Rs.of ((g x y).bind asB)).bind fun q=>if q=true then(u ρ2).bind fun r3=>Rs.of ((g' y r3.1).map fun d=>(d,r3.2)) else .ok (.bl false,ρ2):=rfl
theorem Qjn {g':D->D->Option D}:W (QhQ g g' a b u (s::ρ)) k↔W (a (s::ρ)) fun r1=>W (b r1.2) fun r2=>W (chK g g' u r1 r2) k:=by simp only[QhQ,Qi,chK]
end
section
variable {os:List D}{d:D}{ρ ρ1:Rho}
theorem Q0 {rk:Kd}{f:List D->Fr}{mr:MA}{args:List D}(h1:mr ρ=.ok (args,ρ1))(h2:f args=.ok d os)(h3:rk=.V->d.imm=true):Vq rk f mr ρ=.ok (d,ρ1):=by
 have:=Qjh (rk:=rk) (k:=fun r=>r=(d,ρ1)) (P:=fun d' _=>d'=d) h1 ⟨d,os,h2,rfl⟩ fun d' os' e=>⟨fun z=>e▸h3 z,by rw[e]⟩
 exact this.eq
end
theorem QfE {mt:MT}{m u:MS}{ρ ρ1:Rho}{b:Bool}(h:mt ρ=.ok (b,ρ1)):mIf mt m u ρ=if b=true then m ρ1 else u ρ1:=by unfold mIf;rw[h];rfl
theorem VG {g:List D->Option D}{mr:MA}{ρ ρ1:Rho}{args:List D}{d:D}(h:mr ρ=.ok (args,ρ1))(hg:g args=some d):QbP g mr ρ=.ok (d,ρ1):=by
 unfold QbP;rw[h]
 show Rs.of ((g args).map _)=_
 rw[hg];rfl
theorem Jo {g:D->D->Option D}{a b:ME}{ρ ρ1 ρ2:Rho}{x y d:D}(h1:a ρ=.ok (x,ρ1))(h2:b ρ1=.ok (y,ρ2))(hg:g x y=some d):mOp g a b ρ=.ok (d,ρ2):=by
 unfold mOp;rw[h1]
 show((b ρ1).bind _)=_
 rw[h2]
 show Rs.of ((g x y).map _)=_
 rw[hg];rfl
theorem QR {m:ME}{mr:MA}{ρ ρ1 ρ2:Rho}{d:D}{ds:List D}(h1:m ρ=.ok (d,ρ1))(h2:mr ρ1=.ok (ds,ρ2)):Qt m mr ρ=.ok (d::ds,ρ2):=by
 unfold Qt;rw[h1]
 show((mr ρ1).bind _)=_
 rw[h2];rfl
theorem Q8 {m:ME}{ρ ρ1:Rho}{b:Bool}(h:m ρ=.ok (.bl b,ρ1)):V4 m ρ=.ok (b,ρ1):=by unfold V4;rw[h];rfl
theorem or_eq {m u:MT}{ρ ρ1 ρ2:Rho}{b c:Bool}(h:m ρ=.ok (b,ρ1))(h2:b=false->u ρ1=.ok (c,ρ2))(h3:b=true->ρ2=ρ1):mOr m u ρ=.ok (b || c,ρ2):=by
 unfold mOr;rw[h]
 cases b with
 |true=>rw[h3 rfl];rfl
 |false=>show u ρ1=_;rw[h2 rfl];rfl
theorem and_eq {m u:MT}{ρ ρ1 ρ2:Rho}{b c:Bool}(h:m ρ=.ok (b,ρ1))(h2:b=true->u ρ1=.ok (c,ρ2))(h3:b=false->ρ2=ρ1):Qnn m u ρ=.ok (b && c,ρ2):=by
 unfold Qnn;rw[h]
 cases b with
 |false=>rw[h3 rfl];rfl
 |true=>show u ρ1=_;rw[h2 rfl];rfl
def pl (q:Int×Int):D:=.tup [.int q.1,.int q.2]
section
variable {e:Expr}
theorem R.str {K:z02}{F:Hp}{v:L2.V}{z:Str}(r:R K F v (.str z)):v=.str z:=by
 cases r with|sc e=>cases e;rfl
theorem R.int {K:z02}{F:Hp}{v:L2.V}{z:Int}(r:R K F v (.int z)):v=.int z:=by
 cases r with|sc e=>cases e;rfl
theorem R.bl {K:z02}{F:Hp}{v:L2.V}{z:Bool}(r:R K F v (.bl z)):v=.bl z:=by
 cases r with|sc e=>cases e;rfl
end
section
variable {k:Kd}
def Qqz:List D->Option D
 | [.int i]=>some (.int i)
 | [.bl k]=>some (.int (if k then 1 else 0))
 | [.str x]=>if x.length<=640 then(PySem.intText? x).map D.int else none
 |_=>none
end
section
variable {X:Cx}{C:Cn}{E:XE}{pa pb:Bool}{e a b:Expr}{ma mb:ME}{pos:Pos}{k ka kb:Kd}{ks:List Kd}
def Qa2 {κ:Type}[DecidableEq κ]:List κ->List D->κ->Option D
 |x::ks,d::ds,k=>if x=k then some d else Qa2 ks ds k
 |_,_,_=>none
theorem Qa3 {κ:Type}[DecidableEq κ]{K:z02}{F:Hp}:∀{ks:List κ} {vs:List L2.V} {ds:List D} {k:κ} {d:D},RL K F vs ds->Qa2 ks ds k=some d->∃v,Qcg (ks.zip vs) k=some v/\R K F v d
 | [],_,_,_,_,_,h=>by cases h
 |_::_,_,_,_,_,.nil,h=>by cases h
 |x::ks,v::vs,d::ds,k,y,.cons r q,h=>by
  rw[z85]
  by_cases e:x=k
  ·rw[Qa2,if_pos e] at h;cases h
   exact⟨v,J9 e,r⟩
  ·rw[Qa2,if_neg e] at h
   obtain⟨w,h1,h2⟩:=Qa3 q h
   exact⟨w,by rw[Jq e];exact h1,h2⟩
theorem Qmp {K:z02}{F:Hp}{v:L2.V}{d:D}{k:Key}(r:R K F v d)(e:Qor d=some k):v=kV k:=by
 cases d with
 |int i=>cases e;rw[r.Qv (w:=.int i) rfl];rfl
 |str z=>cases e;rw[r.Qv (w:=.str z) rfl];rfl
 |_=>cases e
def Qmq:D->D->Option D
 |.nd (.dT ks) ds,y=>(Qd2 y).bind fun k=>Qa2 ks ds k
 |.nd (.dK ks) ds,y=>(Qor y).bind fun k=>Qa2 ks ds k
 |_,_=>none
theorem Qjo {F H:Hp}{v u:L2.V}{y d x:D}(hs:Qn F H)(r2:R C.K F u d)(r1:R C.K F v y)(eg:Qmq d y=some x):∃l w,u=.ref l/\Qcj H l v (some w)/\R C.K F w x:=by
 unfold Qmq at eg
 split at eg
 ·obtain⟨l,us,rfl,h1,h2⟩:=r2.inv
  obtain⟨k,ek,e2⟩:=z28.mp eg
  obtain⟨bb,rfl,hb⟩:=QbX r1 ek
  obtain⟨w,hw,rw'⟩:=Qa3 h2 e2
  exact⟨l,w,rfl,.inr ⟨_,k,bb,.of (hs _ _ h1.2),rfl,hs _ _ hb,hw.symm⟩,rw'⟩
 ·obtain⟨l,us,rfl,h1,h2⟩:=r2.inv
  obtain⟨k,ek,e2⟩:=z28.mp eg
  obtain⟨w,hw,rw'⟩:=Qa3 h2 e2
  exact⟨l,w,rfl,.inl ⟨_,k,.of (hs _ _ h1.2),Qmp r1 ek,hw.symm⟩,rw'⟩
 ·cases eg
theorem QoN (hu:X.A.units+1<cLine)(ha:PE X a (tX ka C pa E ma))(hb:PE X b (tX kb C pb E mb))(ok:ka.on pb=true:=by rfl)(ok2:kb.on true=true:=by rfl)(hs:QnO b:=by intro _ _;rfl):PE X (.Subscript a b pos) (tX .B C (pa && pb) E (mOp Qmq ma mb)):=Qo (Qij hu ha hb hs) fun σ H Q ⟨F,ρ,τ,fp,I,h⟩=>by
 refine⟨F,ρ,τ,fp,I,h.split.mono fun r1 h1 F1 H1 fp1 v1 I1 n1 f1=>?_⟩
 rw[Kd.JL ok] at I1
 refine⟨F1,r1.2,τ,fp1,I1,h1.split.mono fun r2 h2 F2 H2 fp2 v2 I2 n2 f2=>?_⟩
 rw[Kd.JL ok2] at I2
 obtain⟨z,ez,h3⟩:=h2.of
 obtain⟨res,eg,rfl⟩:=z05.mp ez
 obtain⟨l,w,rfl,hg,rw'⟩:=Qjo (JK I2.fh) (Kd.stay ok f1 n2 I2) (Kd.stay ok2 f2 .refl I2) eg
 exact⟨l,w,rfl,hg,h3 F2 H2 fp2 w I2 (n1.trans n2) rw'⟩
end
section
variable {X:Cx}{C:Cn}{e a b:Expr}{k:Kd}
mutual
noncomputable def toP:D->Option PyData
 |.int i=>some (.int i)
 |.str s=>some (.str s)
 |.bl b=>some (.bool b)
 |.non=>some .none
 |.nd .lst ds=>(QfF ds).map .list
 |.nd .tup ds=>(QfF ds).map .tuple
 |_=>none
noncomputable def QfF:List D->Option (List PyData)
 | []=>some []
 |d::ds=>(toP d).bind fun q=>(QfF ds).map (q::·)
end
section
variable {pins:List (Addr×Obj)}{σ:L2.St}{H:Hp}{s:Shared}
mutual
theorem QfG (I:Inv X pins σ H s):∀{d:D} {v:L2.V} {q:PyData} {u:Value},R X.K H v d->toP d=some q->RelV v u->(∃as,Reads s.heap u q as)/\q.hasDict=false
 |.int i,_,_,_,r,e,ru=>by cases e;obtain rfl:=R.int r;obtain⟨t,rfl⟩:=ru;exact⟨⟨[],.int _ t⟩,by simp[zg7]⟩
 |.str z,_,_,_,r,e,ru=>by cases e;obtain rfl:=R.str r;obtain⟨t,rfl⟩:=ru;exact⟨⟨[],.str _ t⟩,by simp[zg7]⟩
 |.bl z,_,_,_,r,e,ru=>by cases e;obtain rfl:=R.bl r;cases ru;exact⟨⟨[],.bool _⟩,by simp[zg7]⟩
 |.non,_,_,_,r,e,ru=>by cases e;obtain rfl:=r.Qv (w:=.non) rfl;cases ru;exact⟨⟨[],.none⟩,by simp[zg7]⟩
 |.nd .lst ds,_,_,_,r,e,ru=>by
  obtain⟨qs,e1,rfl⟩:=z05.mp (show(QfF ds).map PyData.list=some _ from e)
  obtain⟨a,vs,rfl,ha,rl⟩:=r.inv
  cases ru
  obtain⟨its,rv,⟨ob,n,ho,hc,hdd,hd⟩,_⟩:=I.list (At.sql ha)
  obtain⟨⟨as,ra⟩,hh⟩:=Qa4 I rl e1 rv
  exact⟨⟨_,.list ho hc hd (by simpa using ra)⟩,by simp only[zg7];exact hh⟩
 |.nd .tup ds,_,_,_,r,e,ru=>by
  obtain⟨qs,e1,rfl⟩:=z05.mp (show(QfF ds).map PyData.tuple=some _ from e)
  obtain⟨a,vs,rfl,ha,rl⟩:=r.inv
  cases ru
  obtain⟨z,its,rv,ob,eo,co,n,dn⟩:=I.hok _ _ ha
  obtain⟨⟨as,ra⟩,hh⟩:=Qa4 I rl e1 rv
  exact⟨⟨_,.tuple eo co dn (by simpa using ra)⟩,by simp only[zg7];exact hh⟩
 |.nd (.ins _ _) _,_,_,_,_,e,_=>by cases e
 |.nd (.dT _) _,_,_,_,_,e,_=>by cases e
 |.nd (.dK _) _,_,_,_,_,e,_=>by cases e
 |.nd (.exc _) _,_,_,_,_,e,_=>by cases e
 |.ty _,_,_,_,_,e,_=>by cases e
 |.cls _,_,_,_,_,e,_=>by cases e
theorem Qa4 (I:Inv X pins σ H s):∀{ds:List D} {vs:List L2.V} {qs:List PyData} {us:List Value},RL X.K H vs ds->QfF ds=some qs->Vals vs us->(∃as,ReadsAll s.heap us qs as)/\zn7 qs=false
 | [],_,_,_,.nil,e,.nil=>by cases e;exact⟨⟨_,.nil⟩,by simp[zn7]⟩
 |d::ds,_,_,_,.cons r rl,e,.cons ru rv=>by
  obtain⟨q,e1,e2⟩:=z28.mp (show(toP d).bind _=some _ from e)
  obtain⟨qs,e3,rfl⟩:=z05.mp e2
  obtain⟨⟨as,ra⟩,h1⟩:=QfG I r e1 ru
  obtain⟨⟨bs,rb⟩,h2⟩:=Qa4 I rl e3 rv
  exact⟨⟨_,.cons ra rb⟩,by simp only[zn7,h1,h2,Bool.or_self]⟩
end
end
def QhW (K:z02):List L2.V->Hp->VK->Prop:=fun xs H Q=>∃a d q,xs=[.ref a]/\R K H (.ref a) d/\toP d=some q/\QkV q/\Q (.str q.shown) H
theorem Qaz {k:Nat}(hr:Y7 k X.A):VM X (.builtin "repr") (QhW X.K):=by
 intro pins s σ H xs us Q I r h
 obtain⟨v,d,q,rfl,rd,ed,S,k⟩:=h
 obtain⟨u,rfl,ru⟩:=vals1 r
 cases ru
 obtain⟨⟨as,rs⟩,hd⟩:=QfG I rd ed (show RelV (.ref v) (.ref v) from rfl)
 have hun:=hr.units
 have dp:=S.dp
 refine repr_of_reads' rs S.sh (fun z=>by rw[hd] at z;cases z) hr.gd (by omega) (fun _ _ z=>z) (fun h' u tk k'=>?_) S.le
 exact⟨.str q.shown,H,I.kept (t':=tk) k',⟨_,rfl⟩,k⟩
def Qjp:List D->Option D
 | [.nd t ds]=>(toP (.nd t ds)).bind fun q=>if q.showable=true/\q.depth<=40/\q.shown.length<=z20 then some (.str q.shown) else none
 |_=>none
theorem Qmr (hK:C.K=X.K):CallD C.K (QhW X.K) Qjp:=fun H vs ds res r eg=>by
 unfold Qjp at eg
 split at eg
 ·obtain⟨q,e1,e2⟩:=z28.mp eg
  split at e2
  ·rename_i cnd
   cases e2
   obtain⟨v,rfl,r1⟩:=r.one
   obtain⟨a,us,rfl,_,_⟩:=r1.inv
   exact⟨_,rfl,fun Q h=>⟨a,_,q,rfl,hK▸r1,e1,⟨cnd.1,cnd.2.1,cnd.2.2⟩,h⟩⟩
  ·cases e2
 ·cases eg
end
section
variable {s:Option Sl}{ρ ρ1:Rho}{k:D×Rho->Prop}{ka:List D×Rho->Prop}{kf:Fl×Rho->Prop}{m:ME}{mr:MA}{d x:D}{xs:List D}{i:Nat}{c:Bool}
def clK (rk:Kd)(f:List D->Fr)(r:List D×Rho):Rs (D×Rho):=match f r.1 with
 |.ok d _=>match rk with
  |.V=>if d.imm=true then .ok (d,r.2) else .no
  |_=>.ok (d,r.2)
 |.ex c=>.ex c r.2
 |.no=>.no
theorem Qjq {rk:Kd}{f:List D->Fr}:W (Vq rk f mr (s::ρ)) k↔W (mr (s::ρ)) fun r=>W (clK rk f r) k:=Qi
theorem Qjr {f:List D->Fr}{os:List D}(h:f xs=.ok d os):W (clK .V f (xs,ρ)) k↔d.imm=true/\k (d,ρ):=by
 show W (match f xs with|.ok d _=>_|.ex c=>_|.no=>_) k↔_
 rw[h]
 show W (if d.imm=true then _ else _) k↔_
 by_cases hd:d.imm=true
 ·rw[if_pos hd];exact⟨fun z=>⟨hd,Qd4.mp z⟩,fun z=>Qd4.mpr z.2⟩
 ·rw[if_neg hd];exact⟨fun⟨_,e,_⟩=>(nomatch e),fun z=>absurd z.1 hd⟩
def tvK (r:List D×Rho):Rs (D×Rho):=(Rs.of (QdX r.1)).bind fun ds=>.ok (.tup ds,r.2)
theorem Qjs:tvK ([.nd .lst xs],ρ)=.ok (.tup xs,ρ):=rfl
theorem Qjt:tvK ([.nd .tup xs],ρ)=.ok (.tup xs,ρ):=rfl
theorem Qms:W (Qfb mr (s::ρ)) k↔W (mr (s::ρ)) fun r=>W (tvK r) k:=Qi
def exK (i:Nat)(r:D×Rho):Rs (Fl×Rho):=(Rs.of (Ys r.2 i)).bind fun q=>(Rs.of (asL r.1)).bind fun ds=>if q.2.length+ds.length<=z20 then .ok (.nx,r.2.set i (some (mkS q.1 (.lst (q.2++ds))))) else .no
theorem Qmt:exK i (d,ρ)=(Rs.of (Ys ρ i)).bind fun q=>(Rs.of (asL d)).bind fun ds=>if q.2.length+ds.length<=z20 then .ok (.nx,ρ.set i (some (mkS q.1 (.lst (q.2++ds))))) else .no:=rfl
theorem QoO:W (Qnt i m (s::ρ)) kf↔W (Rs.of (Ys (s::ρ) i)) fun _=>W (m (s::ρ)) fun r=>W (exK i r) kf:=by simp only[Qnt,Qi,exK]
def cK (par:Bool)(as:List (Option Nat))(f:List D->Fr)(r:List D×Rho):Rs (D×Rho):=(Rs.of (Yd par r.2 (as.filterMap id))).bind fun dis=>match f (Qfg as r.1 dis) with
 |.ok d outs=>.ok (d,JP par r.2 (as.filterMap id) outs)
 |.ex c=>if(as.filterMap id).isEmpty=true then .ex c r.2 else .no
 |.no=>.no
theorem Qmu {par:Bool}{as:List (Option Nat)}{f:List D->Fr}:W (Jm par as f mr (s::ρ)) k↔W (mr (s::ρ)) fun r=>W (cK par as f r) k:=Qi
theorem QqA {par:Bool}{as:List (Option Nat)}{f:List D->Fr}{args dis:List D}{P:D->List D->Prop}(h2:Yd par ρ (as.filterMap id)=some dis)(h3:FW (f (Qfg as args dis)) P)(h4:∀d os,P d os->k (d,JP par ρ (as.filterMap id) os)):W (cK par as f (args,ρ)) k:=by
 obtain⟨d,os,e,p⟩:=h3
 refine⟨_,?_,h4 d os p⟩
 unfold cK
 rw[h2]
 show(match f (Qfg as args dis) with|.ok d outs=>_|.ex c=>_|.no=>_)=_
 rw[e]
theorem Qju {par:Bool}{i:Nat}{f:List D->Fr}{p0 p x:D}{P:D->List D->Prop}(hi:ρ[i]? = some (some (mkS par p)))(h3:FW (f [p,x]) P)(h4:∀d os,P d os->∃q,os=[q]/\k (d,ρ.set i (some (mkS par q)))):W (cK par [some i,none] f ([p0,x],ρ)) k:=by
 refine QqA (dis:=[p]) ?_ h3 fun d os h=>?_
 ·show Yd par ρ [i]=_
  unfold Yd Yd;rw[hi];cases par<;>rfl
 ·obtain⟨q,rfl,h5⟩:=h4 d os h;exact h5
def flK (tg:D->Rho->Option Rho)(mb:MS)(r:List D×Rho):Rs (Fl×Rho):=forL tg mb r.1 r.2
theorem QoP {mi:MA}{tg:D->Rho->Option Rho}{mb:MS}:W (Qnq mi tg mb (s::ρ)) kf↔W (mi (s::ρ)) fun r=>W (flK tg mb r) kf:=Qi
theorem QoQ {tg:D->Rho->Option Rho}{mb:MS}{ds:List D}(Inv:Nat->Rho->Prop)(i:Inv 0 ρ)(step:∀i d ρ,ds[i]? = some d->Inv i ρ->∃ρ1,tg d ρ=some ρ1/\W (mb ρ1) fun r=>r.1=.nx/\Inv (i+1) r.2)
  (hk:∀ρ',Inv ds.length ρ'->kf (.nx,ρ')):W (flK tg mb (ds,ρ)) kf:=by
 have:=QfD Inv step ds.length 0 ρ (by simp) (z49 _) i hk
 rw[zm1] at this
 exact this
def fnK (tg:D->Rho->Option Rho)(mb:MS)(ds:List D)(r:Fl×Rho):Rs (Fl×Rho):=match r.1 with
  |.nx=>forL tg mb ds r.2
  |.ct=>forL tg mb ds r.2
  |.bk=>.ok (.nx,r.2)
  |.rt d=>.ok (.rt d,r.2)
theorem Qmv {tg:D->Rho->Option Rho}{mb:MS}:fnK tg mb xs (.nx,ρ)=flK tg mb (xs,ρ):=rfl
theorem Qmw {tg:D->Rho->Option Rho}{mb:MS}:fnK tg mb xs (.rt d,ρ)=.ok (.rt d,ρ):=rfl
def rgK (r:List D×Rho):Rs (List D×Rho):=(Rs.of (QcC r.1)).bind fun n=>.ok ((z47 n.toNat).map fun j=>.int ((0:Int)+(j:Nat)),r.2)
theorem Qmx {n:Int}:rgK ([.int n],ρ)=if -4611686018427387904<=n/\n<4611686018427387904 then .ok ((z47 n.toNat).map fun j=>.int ((0:Int)+(j:Nat)),ρ) else .no:=by
 have e:(2:Int) ^ 62=4611686018427387904:=by decide
 show(Rs.of (if -(2 ^ 62)<=n/\n<2 ^ 62 then some n else none)).bind _=_
 rw[e]
 split<;>rfl
theorem Qjv:liK ([.nd .tup xs],ρ)=if D.QL xs=true then .ok (.lst xs,ρ) else .no:=rfl
theorem Qmy:W (QgZ mr (s::ρ)) ka↔W (mr (s::ρ)) fun r=>W (rgK r) ka:=Qi
def siK (r:D×Rho):Rs (List D×Rho):=(Rs.of (QdX [r.1])).bind fun ds=>.ok (ds,r.2)
theorem Qjw:siK (.nd .lst xs,ρ)=.ok (xs,ρ):=rfl
theorem Qjx:siK (.nd .tup xs,ρ)=.ok (xs,ρ):=rfl
theorem Qmz:W (QaV m (s::ρ)) ka↔W (m (s::ρ)) fun r=>W (siK r) ka:=Qi
def enK (r:List D×Rho):Rs (List D×Rho):=(Rs.of (QdX r.1)).bind fun ds=>.ok (Qg8 ds,r.2)
theorem Qjy:enK ([.nd .lst xs],ρ)=.ok (Qg8 xs,ρ):=rfl
theorem Qjz:enK ([.nd .tup xs],ρ)=.ok (Qg8 xs,ρ):=rfl
theorem QmA:W (Qom mr (s::ρ)) ka↔W (mr (s::ρ)) fun r=>W (enK r) ka:=Qi
def cmK (par:Bool)(cs:List Cp)(j:Nat)(tc:MT)(te:ME)(r:List D×Rho):Rs (D×Rho):=(Rs.of (Yd par r.2 (cs.filterMap Cp.is))).bind fun di=>(Rs.of (Qan r.2 cs di)).bind fun ρb=>
 match Vg j tc te r.1 ρb [] with
 |.ok q=>(Rs.of (outs (ioB cs) q.2)).bind fun os=>.ok (.lst q.1,JP par r.2 (cs.filterMap Cp.is) os)
 |_=>.no
theorem QmB {par:Bool}{cs:List Cp}{j:Nat}{mi:MA}{tc:MT}{te:ME}:W (YT par cs j mi tc te (s::ρ)) k↔W (mi (s::ρ)) fun r=>W (cmK par cs j tc te r) k:=Qi
theorem Qab {f:D->D->Option Bool}:∀{ds:List D},(∀d∈ds,f d d=some true)->Qbl f ds ds=some true
 | [],_=>rfl
 |d::ds,h=>by
  rw[Qbl,h d z12,Qab fun x hx=>h x (z09 _ hx)];rfl
def D.pln:Nat->D->Bool
 |0,_=>false
 |n+1,.nd .lst ds=>ds.all (D.pln n)
 |n+1,.nd .tup ds=>ds.all (D.pln n)
 |_+1,.int _=>true
 |_+1,.str _=>true
 |_+1,.bl _=>true
 |_+1,.non=>true
 |_,_=>false
theorem VH:∀(n:Nat) (d:D),d.pln n=true->eqb n d d=some true
 |0,_,h=>absurd (show false=true from h) (by decide)
 |n+1,.nd .lst ds,h=>by
  show(if ds.length=ds.length then Qbl (eqb n) ds ds else _)=_
  rw[if_pos rfl]
  exact Qab fun d hd=>VH n d (z88.mp h d hd)
 |n+1,.nd .tup ds,h=>by
  show(if ds.length=ds.length then Qbl (eqb n) ds ds else _)=_
  rw[if_pos rfl]
  exact Qab fun d hd=>VH n d (z88.mp h d hd)
 |n+1,.int i,_=>by show eqS (V.int i) (V.int i)=_;unfold eqS;rw[if_pos (by rfl)];simp
 |n+1,.str i,_=>by show eqS (V.str i) (V.str i)=_;unfold eqS;rw[if_pos (by rfl)];simp
 |n+1,.bl i,_=>by show eqS (V.bl i) (V.bl i)=_;unfold eqS;rw[if_pos (by cases i<;>rfl)];simp
 |n+1,.non,_=>by show eqS (V.non) (V.non)=_;unfold eqS;rw[if_pos (by rfl)];simp
 |n+1,.nd (.ins _ _) _,h=>absurd (show false=true from h) (by decide)
 |n+1,.nd (.dT _) _,h=>absurd (show false=true from h) (by decide)
 |n+1,.nd (.dK _) _,h=>absurd (show false=true from h) (by decide)
 |n+1,.nd (.exc _) _,h=>absurd (show false=true from h) (by decide)
 |n+1,.ty _,h=>absurd (show false=true from h) (by decide)
 |n+1,.cls _,h=>absurd (show false=true from h) (by decide)
theorem Qa5 {d:D}(h:d.pln 30=true):gEq d d=some (.bl true):=by
 show(eqb 30 d d).map _=_
 rw[VH 30 d h];rfl
theorem Qdr {d:D}(h:d.pln 30=true):gNe d d=some (.bl false):=by
 show(eqb 30 d d).map _=_
 rw[VH 30 d h];rfl
end
section
variable {m:ME}{n:Nat}{nm f:Str}{k:Addr}
def QjA:List Str->List D->Str->Option D
 |n::ns,d::ds,f=>if(f == n)=true then some d else QjA ns ds f
 |_,_,_=>none
def QqB (k:Addr)(f:Str):D->Option D
 |.nd (.ins k' ns) ds=>if k'=k then QjA ns ds f else none
 |_=>none
def QjB (k:Addr)(nm:Str):D->Bool
 |.nd (.ins k' ns) _=>decide (k'=k) && ns.all (fun n=>!(nm == n))
 |_=>false
def QqC (k:Addr)(nm:Str)(m:ME):ME:=fun ρ=>(m ρ).bind fun r=>if QjB k nm r.1=true then .ok r else .no
end
section
variable {X:Cx}{C:Cn}{E:XE}{p:Bool}{o e:Expr}{m:ME}{pos apos cpos np:Pos}{rk:Kd}{x f:Str}
def QoR (i:Nat):ME:=fun ρ=>(Rs.of (Ys ρ i)).bind fun q=>(Rs.of (q.2[q.2.length - 1]?)).bind fun d=>if D.QL q.2=true then .ok (d,ρ.set i (some (mkS q.1 (.lst q.2.dropLast)))) else .no
theorem RL.dropLast {K:z02}{F:Hp}{vs:List L2.V}{ds:List D}(r:RL K F vs ds):RL K F vs.dropLast ds.dropLast:=by
 rw[zw1,zw1,r.length]
 exact r.take _
theorem Qa6 {ds:List D}(h:D.QL ds=true):D.QL ds.dropLast=true:=QaS fun d hd=>VB h d (List.dropLast_subset _ hd)
theorem QmC {i:Nat}(hN:X.N[i]? = some x)(hv:Vis X.env.scope x)(hbase:attributeBase (.Name x np) "pop" X.env (eval (.Name x np) X.env)=eval (.Name x np) X.env:=by rfl)(hline:(apos.endLine == cpos.line)=true:=by rfl)(hd:(x == ("__debug__" : Str))=false:=by decide)(hcd:(x == ("__classdict__" : Str))=false:=by decide) :
  PE X (.Call (.Attribute (.Name x np) "pop" apos) [] [] cpos) (tX .V C false E (QoR i)):=
 Qo (QkQ zb6 PySem.F.slot_list_pop PySem.F.type_list_pop QkR (Yh hN hv hd hcd) hbase hline) fun σ H Q ⟨F,ρ,τ,fp,I,h⟩=>by
  obtain⟨q,eq,h⟩:=h.split.of
  obtain⟨d,ed,h⟩:=h.split.of
  obtain⟨l,vs,f,rest,ex,hl,ol,pm,w,cl⟩:=I.QbW (Ju eq)
  by_cases hi:D.QL q.2=true
  ·rw[if_pos hi] at h
   have rl:=ol.rl hi
   have ef:f=[]:=ol.Qnm hi
   subst ef
   obtain⟨v,ev,rv⟩:=rl.get ed
   refine⟨_,ex,.inl ⟨rfl,vs,SqL.of hl⟩,l,vs,v,rfl,rfl,hl,by rw[rl.length];exact ev,?_⟩
   have J:=cl (f':=[]) (rl.dropLast.o (Qa6 hi)) (pm.nodup_iff.mp I.nd) (fun _ z=>nomatch z)
   exact h F _ _ v J ⟨Qn.refl _,fun z=>nomatch z⟩ rv
  ·rw[if_neg hi] at h;exact h.elim
def QpG (tg:D->Rho->Option Rho)(m:ME):MS:=fun ρ=>(m ρ).bind fun r=>(Rs.of (tg r.1 r.2)).bind fun ρ'=>.ok (.nx,ρ')
theorem QoS {tge:Expr}{g:TG}{tg:D->Rho->Option Rho}(hg:PG X tge g)(gd:GD C g tg)(he:PE X e (tX .V C p E m))(hs:swapsWithSole [tge] e pos.line X.env=pure false:=by rfl)(hw:swappedStores [tge] e X.env=pure none:=by rfl)(h1:(assignEach [tge] X.env).map (·.2)=[assign tge X.env]:=by rfl) :
  PS X (.Assign [tge] e pos) (tS rk C E (QpG tg m)):=QQ (Qeq he hg hs hw h1) fun D σ H ⟨F,ρ,fp,I,h⟩=>by
 refine⟨F,ρ,[],fp,I,h.split.run.mono fun r hr F1 H1 fp1 v I1 n1 f1=>?_⟩
 obtain⟨ρ',e1,h2⟩:=hr.split.of
 exact gd F1 H1 σ r.2 [] fp1 v r.1 ρ' I1 f1 e1 _ fun σ' fp' J _=>h2 F1 H1 σ' fp' n1.f J
end
end TL
namespace TL
open PySem PySem.Spec L2 L2.Srt
section
variable {α:Type}{lt:α->α->Bool}
def Qkg (lt:α->α->Bool)(x:α):List α->List α
 | []=>[x]
 |y::ys=>if lt x y=true then x::y::ys else y::Qkg lt x ys
noncomputable def Qaq (lt:α->α->Bool):List α->List α
 | []=>[]
 |x::xs=>Qkg lt x (Qaq lt xs)
theorem Qac (x:α):∀ys:List α,(Qkg lt x ys).Perm (x::ys)
 | []=>.refl _
 |y::ys=>by
  unfold Qkg
  split
  ·exact .refl _
  ·exact((Qac x ys).cons y).trans (.swap x y ys)
theorem Qs:∀xs:List α,(Qaq lt xs).Perm xs
 | []=>.refl _
 |x::xs=>(Qac x _).trans ((Qs xs).cons x)
theorem QfH (L:Lin lt){x:α}:∀{ys:List α},ys.Pairwise (fun a b=>lt a b=true)->x∉ys->(Qkg lt x ys).Pairwise (fun a b=>lt a b=true)
 | [],_,_=>List.pairwise_singleton _ _
 |y::ys,h,hn=>by
  unfold Qkg
  obtain⟨h1,h2⟩:=z66.mp h
  split
  ·rename_i hl
   exact z66.mpr ⟨fun a ha=>by
    rcases z26.mp ha with rfl|ha
    ·exact hl
    ·exact L.tr _ _ _ hl (h1 a ha),h⟩
  ·rename_i hl
   have hyx:lt y x=true:=L.tot _ _ (fun e=>hn (e▸z12)) (by simpa using hl)
   refine z66.mpr ⟨fun a ha=>?_,QfH L h2 fun hm=>hn (z09 _ hm)⟩
   rcases z26.mp ((Qac x ys).mem_iff.mp ha) with rfl|ha
   ·exact hyx
   ·exact h1 a ha
theorem JZ (L:Lin lt):∀{xs:List α},xs.Nodup->(Qaq lt xs).Pairwise (fun a b=>lt a b=true)
 | [],_=>.nil
 |x::xs,h=>by
  obtain⟨h1,h2⟩:=z53.mp h
  exact QfH L (JZ L h2) fun hm=>h1 ((Qs xs).mem_iff.mp hm)
theorem Vj (L:Lin lt):∀{xs ys:List α},xs.Pairwise (fun a b=>lt a b=true)->ys.Pairwise (fun a b=>lt a b=true)->xs.Perm ys->xs=ys
 | [],ys,_,_,p=>(List.nil_perm.mp p).symm
 |x::xs,[],_,_,p=>absurd p.length_eq (by simp)
 |x::xs,y::ys,h,h',p=>by
  obtain⟨a1,a2⟩:=z66.mp h
  obtain⟨b1,b2⟩:=z66.mp h'
  have e:x=y:=by
   rcases z26.mp (p.mem_iff.mp (z12 (a:=x) (l:=xs))) with e|hx
   ·exact e
   ·rcases z26.mp (p.mem_iff.mpr (z12 (a:=y) (l:=ys))) with e|hy
    ·exact e.symm
    ·have z1:=b1 x hx
     have z2:=a1 y hy
     have:=L.tr _ _ _ z1 z2
     rw[L.irr] at this;cases this
  subst e
  rw[Vj L a2 b2 (p.cons_inv)]
end
def npD (x:NP):D:=.tup [.int x.1,pl x.2]
def pnD (x:PN):D:=.tup [pl x.1,.int x.2]
def QqD:D->Option NP
 |.nd .tup [.int n,.nd .tup [.int a,.int b]]=>some (n,(a,b))
 |_=>none
def npL:List D->Option (List NP)
 | []=>some []
 |d::ds=>(QqD d).bind fun x=>(npL ds).map (x::·)
theorem QmD {K:z02}{F:Hp}{v:L2.V}{q:Int×Int}(r:R K F v (pl q)):∃a,v=.ref a/\F a=some (.tup [.int q.1,.int q.2]):=by
 obtain⟨a,vs,rfl,h1,h2⟩:=r.inv
 obtain⟨v1,v2,rfl,r1,r2⟩:=h2.two
 rw[R.int r1,R.int r2] at h1
 exact⟨a,rfl,h1⟩
section
variable {a b:Expr}{m:ME}{mr:MA}{ks:List Kd}
def QfI:List D->Option (List NP)
 | [.nd .lst ds]=>(npL ds).bind fun ps=>if ps.Nodup/\ps.length<=4000 then some (Qaq Qqe ps) else none
 |_=>none
def QmE (mr:MA):ME:=fun ρ=>(mr ρ).bind fun r=>(Rs.of (QfI r.1)).bind fun ps=>.ok (.lst (ps.map npD),r.2)
def QmF:List Key->Option (Int×Int)
 | [.inl a,.inl b]=>some (a,b)
 |_=>none
theorem QjC {k:List Key}{q:Int×Int}(h:QmF k=some q):k=Q9 q:=by
 unfold QmF at h
 split at h
 ·cases h;rfl
 ·cases h
noncomputable def QhX:List (List Key)->List D->Option (List PN)
 | [],[]=>some []
 |k::ks,.int n::ds=>(QmF k).bind fun q=>(QhX ks ds).map ((q,n)::·)
 |_,_=>none
def QfJ:D->Option (List PN)
 |.nd (.dT ks) ds=>QhX ks ds
 |_=>none
def QmG (m:ME):ME:=fun ρ=>(m ρ).bind fun r=>(Rs.of (QfJ r.1)).bind fun ps=>if ps.length<=4000 then .ok (.lst ((Qaq Qpp ps).map pnD),r.2) else .no
end
end TL
namespace TL
open PySem PySem.Spec L2
section
theorem hu3 {A:Around}{k:Nat}(hr:Y7 k A):A.units+3<cLine:=by have:=hr.units;omega
theorem Jf:z84 "sorted" = some (.builtin "sorted"):=by decide +kernel
end
def QoT (m:ME):MA:=fun ρ=>(m ρ).bind fun r=>(Rs.of (QdX [r.1])).bind fun ds=>if D.QL ds=true then .ok (ds,r.2) else .no
noncomputable def QfK:List (List Key)->List D->List Key->Option D
 |k::ks,d::ds,q=>if k=q then some d else QfK ks ds q
 |_,_,_=>none
theorem QfL {K:z02}{F:Hp}:∀{ks:List (List Key)} {vs:List L2.V} {ds:List D} {q:List Key},RL K F vs ds->(∀d,QfK ks ds q=some d->∃v,Qcg (ks.zip vs) q=some v/\R K F v d)/\(QfK ks ds q=none->ks.length=vs.length->Qcg (ks.zip vs) q=none)
 | [],_,_,q,h=>⟨(fun d e=>by cases h<;>cases e),fun _ _=>rfl⟩
 |k::ks,_,_,q,.nil=>⟨(fun d e=>by cases e),fun _ l=>by cases l⟩
 |k::ks,v::vs,d::ds,q,.cons r h=>by
  obtain⟨i1,i2⟩:=QfL (ks:=ks) (q:=q) h
  rw[z85]
  by_cases e:k=q
  ·subst e
   refine⟨fun d' e'=>?_,fun e'=>?_⟩
   ·rw[QfK,if_pos rfl] at e';cases e'
    exact⟨v,J9 rfl,r⟩
   ·rw[QfK,if_pos rfl] at e';cases e'
  ·refine⟨fun d' e'=>?_,fun e' l=>?_⟩
   ·rw[QfK,if_neg e] at e'
    rw[Jq e]
    exact i1 d' e'
   ·rw[QfK,if_neg e] at e'
    rw[Jq e]
    exact i2 e' (by simpa using l)
noncomputable def Qnu:D->Option (List (List Key)×List D)
 |.nd (.dT ks) ds=>some (ks,ds)
 |_=>none
theorem QfM {d:D}{q:List (List Key)×List D}(h:Qnu d=some q):d=.nd (.dT q.1) q.2:=by
 unfold Qnu at h
 split at h
 ·cases h;rfl
 ·cases h
def Qnv (q:List (List Key)×List D)(y x:D):Option D:=(Qd2 y).bind fun k=>match QfK q.1 q.2 k with
 |some d=>if d.imm=true then some d else none
 |none=>some x
def Qhc (md my mx:ME):ME:=fun ρ=>(md ρ).bind fun r1=>(Rs.of (Qnu r1.1)).bind fun q=>(my r1.2).bind fun r2=>(mx r2.2).bind fun r3=>Rs.of ((Qnv q r2.1 r3.1).map fun d=>(d,r3.2))
section
variable {X:Cx}{C:Cn}{E:XE}{pa:Bool}{o e f:Expr}{ma mb mc:ME}{apos cpos:Pos}{ka kb:Kd}
theorem QjD (hu:X.A.units+1<cLine)(ho:PE X o (tX ka C pa E ma))(he:PE X e (tX kb C true E mb))(hf:PE X f (tX .V C true E mc))(ok:ka.on true=true:=by rfl)(ok2:kb.on true=true:=by rfl)(m:M2 X o "get" apos e f cpos:=by exact⟨rfl,rfl,rfl,rfl⟩) :
  PE X (.Call (.Attribute o "get" apos) [e,f] [] cpos) (tX .V C pa E (Qhc ma mb mc)):=Qo (QgC hu ho he hf m) fun σ H Q ⟨F,ρ,τ,fp,I,h⟩=>by
 refine⟨F,ρ,τ,fp,I,h.split.mono fun r1 h1 F1 H1 fp1 v1 I1 n1 f1=>?_⟩
 rw[Kd.JL ok] at I1
 obtain⟨q,eq,h1⟩:=h1.split.of
 have g1:=Kd.stay ok f1 .refl I1
 rw[QfM eq] at g1
 obtain⟨a,us,rfl,at1,rl1⟩:=g1.inv
 refine⟨a,rfl,.inr ⟨q.1.zip us,.inl (JK I1.fh _ _ at1.2)⟩,F1,r1.2,τ,fp1,I1,h1.split.mono fun r2 h2 F2 H2 fp2 v2 I2 n2 f2=>?_⟩
 rw[Kd.JL ok2] at I2
 refine⟨F2,r2.2,τ,fp2,I2,h2.split.mono fun r3 h3 F3 H3 fp3 v3 I3 n3 f3=>?_⟩
 obtain⟨z,ez,h4⟩:=h3.of
 obtain⟨res,eg,rfl⟩:=z05.mp ez
 have n23:Nx true F1 H1 fp1 F3 H3 fp3:=n2.trans n3
 have gd:=Kd.stay ok f1 n23 I3
 rw[QfM eq] at gd
 have gy:=Kd.stay ok2 f2 n3 I3
 obtain⟨a',us',ea,at3,rl3⟩:=gd.inv
 cases ea
 obtain⟨k,ek,e2⟩:=z28.mp (show(Qd2 r2.1).bind _=some res from eg)
 obtain⟨bb,rfl,hb⟩:=QbX gy ek
 have dg:=Qcj.t (JK I3.fh _ _ at3.2) (JK I3.fh _ _ hb)
 obtain⟨w1,w2⟩:=QfL (ks:=q.1) (q:=k) rl3
 refine⟨_,dg,?_⟩
 cases ev:QfK q.1 q.2 k with
 |some d=>
  rw[ev] at e2
  obtain⟨v,ev1,rv⟩:=w1 d ev
  rw[ev1]
  by_cases hi:d.imm=true
  ·have e2:(if d.imm=true then some d else none)=some res:=e2
   rw[if_pos hi] at e2
   cases e2
   have:=I3.loL (.cons rv .nil) (by show(D.imm _ && true)=true;rw[hi];rfl)
   cases this with
   |cons r _=>exact h4 F3 H3 fp3 v I3 ((n1.trans n23).weak fun z=>by simp[z]) r
  ·have e2:(if d.imm=true then some d else none)=some res:=e2
   rw[if_neg hi] at e2;cases e2
 |none=>
  rw[ev] at e2
  have e2:some r3.1=some res:=e2
  cases e2
  rw[w2 ev at3.1]
  exact h4 F3 H3 fp3 v3 I3 ((n1.trans n23).weak fun z=>by simp[z]) f3
end
end TL
namespace TL
open PySem PySem.Spec L2 PyProof.Rows
section
variable {m:ME}{mr:MA}
def QmH (mr:MA):ME:=fun ρ=>(mr ρ).bind fun r=>(Rs.of (QcC r.1)).bind fun n=>if n.toNat<=2 ^ 24 then .ok (.lst (QpF 0 n.toNat),r.2) else .no
def QoU (m:ME):ME:=fun ρ=>(m ρ).bind fun r=>(Rs.of (asL r.1)).bind fun xs=>if D.QL xs.reverse=true then .ok (.lst xs.reverse,r.2) else .no
end
section
variable {e:Expr}
theorem RL.three {K:z02}{F:Hp}{vs:List L2.V}{d e g:D}(r:RL K F vs [d,e,g]):∃v u w,vs=[v,u,w]/\R K F v d/\R K F u e/\R K F w g:=by
 cases r with
 |cons h t=>obtain⟨u,w,rfl,h1,h2⟩:=t.two;exact⟨_,_,_,rfl,h,h1,h2⟩
end
end TL
namespace TL
open PySem PySem.Spec L2
def QpH (ρ:Rho)(i:Nat):Option (List D):=match ρ[i]? with
 |some (some (.own (.nd .lst ds)))=>some ds
 |_=>none
section
variable {P:Program}{w:World}{K:z02}{mg:Str->Option Value}{base:Heap}{x qual:Str}{st:Stmt}{f:Addr}{fd:FuncData}{N ps:List Str}{k:Nat}
theorem fnU {io:List Bool}{rk:Kd}{mb:MS}(Fn:Fun K x qual st f fd)(S:VN N ps (Qw st))(hio:io.length=ps.length)(hrk:rk=.V\/rk=.O)
  (hbody:∀{cdv:Value} {A:Around} {outer:List Env} {s:Shared} {H:Hp} {E:XK} {C:Cn},C.K=K->Y7 k (A.deeper (zh0 qual (Qw st) s.heap.objs.size f cdv))->A.handled=none->N.Nodup->PassesOwn (model P w) (A.deeper (zh0 qual (Qw st) s.heap.objs.size f cdv)) (zh0 qual (Qw st) s.heap.objs.size f cdv) (Qgm (CXe P w) P w K mg base N qual (Qw st) f cdv A outer s H E).xe->
   PSs (Qgm (CXe P w) P w K mg base N qual (Qw st) f cdv A outer s H E) (Js st) (tS rk C (fun _ _ _ _=>False) mb)):Qcf P w K mg base (CXe P w) (k+1) f fd ps (spF K io rk (Qam io N.length mb)):=
 fnT Fn S hio hrk fun _ _ _ _ _ _ _ hC hr hd=>hbody hC hr hd S.nd Qp8
end
section
variable {X:Cx}{C:Cn}{E:XE}{k:Kd}{ks:List Kd}{pa pb:Bool}{m:ME}{mr:MA}{es:List Expr}{p:Pos}
theorem Qnw {c:Const}{j:Nat}(ha:PE X (.Constant c j p) (tX k C pa E m))(hr:PA X es (tA ks C pb E mr))(ok:k.ona pb=true:=by rfl):PA X (.Constant c j p::es) (tA (k::ks) C (pa && pb) E (Qt m mr)):=Qd ha hr ok rfl
theorem QqE {l:List Expr}(ha:PE X (.List l p) (tX k C pa E m))(hr:PA X es (tA ks C pb E mr))(ok:k.ona pb=true:=by rfl):PA X (.List l p::es) (tA (k::ks) C (pa && pb) E (Qt m mr)):=Qd ha hr ok rfl
theorem QhY {l:List Expr}{j:Nat}(ha:PE X (.Tuple l j p) (tX k C pa E m))(hr:PA X es (tA ks C pb E mr))(ok:k.ona pb=true:=by rfl):PA X (.Tuple l j p::es) (tA (k::ks) C (pa && pb) E (Qt m mr)):=Qd ha hr ok rfl
theorem QfN {a b:Expr}{o:Operator}(ha:PE X (.BinOp a o b p) (tX k C pa E m))(hr:PA X es (tA ks C pb E mr))(ok:k.ona pb=true:=by rfl):PA X (.BinOp a o b p::es) (tA (k::ks) C (pa && pb) E (Qt m mr)):=Qd ha hr ok rfl
theorem QqF {a:Expr}{o:UnaryOp}(ha:PE X (.UnaryOp o a p) (tX k C pa E m))(hr:PA X es (tA ks C pb E mr))(ok:k.ona pb=true:=by rfl):PA X (.UnaryOp o a p::es) (tA (k::ks) C (pa && pb) E (Qt m mr)):=Qd ha hr ok rfl
end
structure Y where
 P:Program
 w:World
 mg:Str->Option Value
 base:Heap
abbrev Df (K:z02)(Cy:Y->Prop)(nm q:Str)(st:Stmt)(lv:Nat)(ps:List Str)(io:List Bool)(rk:Kd)(n:Nat)(Hy:Y->Prop->Prop):Type:=
 {m:MS // ∀{y:Y} {f:Addr} {fd:FuncData},Cy y->Fun K nm q st f fd->Hy y (Qcf y.P y.w K y.mg y.base (CXe y.P y.w) lv f fd ps (spF K io rk (Qam io n m)))}
abbrev Dg (K:z02)(Cy:Y->Prop)(nm:Str)(st:Stmt)(lv:Nat)(ps:List Str)(io:List Bool)(rk:Kd)(n:Nat)(Hy:Y->Prop->Prop):Type:=Df K Cy nm nm st lv ps io rk n Hy
section
variable {K:z02}{Cy:Y->Prop}{nm q:Str}{st:Stmt}{lv:Nat}{ps:List Str}{io:List Bool}{rk:Kd}{n:Nat}{Hy:Y->Prop->Prop}{c:Addr}
def dfn (d:Df K Cy nm q st lv ps io rk n Hy):List D->Fr:=Qam io n d.1
abbrev Tf (K:z02)(y:Y)(lv:Nat)(nm:Str)(ps:List Str)(io:List Bool)(rk:Kd)(f:List D->Fr):Prop:=Vb y.P y.w K y.mg y.base lv nm ps (spF K io rk f)
def Nf (K:z02)(nm q:Str)(st:Stmt):Prop:=∃f fd,zf5 K z67 nm=some (some (.ref f))/\Fun K nm q st f fd
abbrev Bn (K:z02)(nm q:Str)(st:Stmt)(ps:List Str):Prop:=∀(kV doc pm:Value) (an:Option Addr) (cdv ct:Value) (us:List Value),us.length=ps.length->bindArgs (zf6 nm q (Y8 st) (Js st) (Qw st) .none kV doc pm an cdv ct) ⟨us,[]⟩=pure (ps.zip us)
variable {y:Y}{h:Heap}
theorem Qd5 (X:K.In h)(G:h.Ns z67 y.mg)(c:Cy y)(a:Nf K nm q st)(d:Df K Cy nm q st lv ps io rk n Hy)(b:Bn K nm q st ps)(g:∀R,Hy y R->R):Tf K y lv nm ps io rk (dfn d):=
 let ⟨f,fd,e,F⟩:=a;⟨f,fd,g _ (d.2 c F),PySem.W.mg_of X G e,F.kp,F.binds b⟩
end
theorem ar0 {P:List Value->Prop}(h:P []):∀us,us.length=0->P us:=fun us e=>by rw[zc0.mp e];exact h
theorem arS {n:Nat}{P:List Value->Prop}(h:∀a us,us.length=n->P (a::us)):∀us,us.length=n+1->P us:=fun us e=>by cases us with
 |nil=>cases e
 |cons a us=>exact h a us (Nat.succ.inj e)
theorem ar1 {P:List Value->Prop}(h:∀a0,P [a0]):∀us,us.length=1->P us:=arS fun a=>ar0 (h a)
theorem ar2 {P:List Value->Prop}(h:∀a0 a1,P [a0,a1]):∀us,us.length=2->P us:=arS fun a=>ar1 (h a)
def QfO (K:z02):Sp:=fun vs H Q _=>∃(a:Addr) (ns:List Int),vs=[.ref a]/\SqL K H a (ns.map V.int)/\∀H',Q (.bl true) H'
theorem QfP {K:z02}{F:Hp}:∀(ns:List Int),RL K F (ns.map V.int) (ns.map D.int)
 | []=>.nil
 |a::l=>.cons (.sc rfl) (QfP l)
theorem QmI {K:z02}{f:List D->Fr}(e:∀ns:List Int,f [.lst (ns.map .int)]=.ok (.bl true) [])(vs:List L2.V)(H:Hp)(Q:VK)(E:XK)(h:QfO K vs H Q E):spF K [false] .V f vs H Q E:=by
 obtain⟨a,ns,rfl,hs,hq⟩:=h
 refine⟨H,[.lst (ns.map .int)],[],.val (.nd (t:=.lst) hs (QfP ns)) .nil,zi9,(fun _ z=>nomatch z),Qn.refl H,?_⟩
 rw[e ns]
 intro F' H' v fr fo _ _ _ _ _ r _ _ _ _ _
 obtain rfl:=r.1.Qv (w:=.bl true) rfl
 exact hq H'
theorem QmJ {l:zj8}{w:World}{K:z02}{h:Heap}{mg:Str->Option Value}{fa:Addr}{st:Stmt}{lv n:Nat}{Cy:Y->Prop}{Hy:Y->Prop->Prop}(X:K.In h)(G:h.Ns z67 mg)(hfa:mg "law" = some (.ref fa))(a:Nf K "law" "law" st)(d:Df K Cy "law" "law" st lv ["_law_script"] [false] .V n Hy)
  (c:∀base,Cy ⟨l.prog,w,mg,base⟩) (g:∀base R,Hy ⟨l.prog,w,mg,base⟩ R->R) (e:∀ns:List Int,dfn d [.lst (ns.map .int)]=.ok (.bl true) []) (b:∀(kV dc pm:Value) (an:Option Addr) (cd ct:Value) (s:Shared) (v:Value),BindsTo s (zf6 "law" "law" (Y8 st) (Js st) (Qw st) .none kV dc pm an cd ct) ⟨[v],[]⟩ [("_law_script",v)]) :
  ∃fd:FuncData,(∀(s:Shared) (v:Value),BindsTo s fd ⟨[v],[]⟩ [("_law_script",v)])/\∀base:Heap,K.In base->base.Ns z67 mg->Qcf l.prog w K mg base (CXe l.prog w) lv fa fd ["_law_script"] (QfO K):=by
 obtain⟨f,fd,e1,F⟩:=a
 cases hfa.symm.trans (PySem.W.mg_of X G e1)
 obtain⟨_,_,kV,dc,pm,an,cd,ct,_,rfl,_⟩:=F.ex
 exact⟨_,b kV dc pm an cd ct,fun base _ _=>(g base _ (d.2 (c base) F)).imp fun vs H Q E hh=>QmI e vs H Q E hh⟩
theorem walk {l:zj8}{q:Program}{loose:List Str}{XP:(Str->Option Value)->Heap->Prop}{YP:World->Heap->Prop}{d:DefRec}{K:Params->z02}{k:Nat}(hr:Y7 k callerA)(hn:l.most=some 63)(hdf:d.params.defaults=[])
  (hY:∀(w:World) (h:Heap),YP w h->(K w.params).In h)
  (F:∀(w:World) (mg:Str->Option Value) (fa:Addr) (h:Heap),(K w.params).In h->h.Ns z67 mg->mg d.name=some (.ref fa)->
   ∃fd:FuncData,(∀(s:Shared) (u:Value),BindsTo s fd ⟨[u],[]⟩ [("_law_script",u)])/\∀base:Heap,(K w.params).In base->base.Ns z67 mg->Qcf l.prog w (K w.params) mg base (CXe l.prog w) k fa fd ["_law_script"] (QfO (K w.params))) :
  PySem.W.WalkO q loose XP YP l.row.toRowW d [] (fun f vs=>zx8 f vs):=
 L2.Qis (n:=63) (k:=k) (x := "_law_script") (CX:=fun w=>CXe l.prog w) (sp:=fun w=>QfO (K w.params)) hn (by decide) hdf hr hY F (fun _ _ a ns hl _ hS=>⟨a,ns,rfl,hS,fun _=>rfl⟩) fun _ _ _ _ _ ⟨_,_,_,_,_,_,_,_,_,_,z⟩=>z
end TL
namespace L2.Srt
open PySem PySem.Spec PyProof.Rows L2
section
variable {X:Cx}
def QmK (K:z02):List V->Hp->VK->Prop:=fun xs H Q=>∃p qs ps M,xs=[.ref p]/\SqL K H p (qs.map V.ref)/\Paired (PT K H) qs ps/\Paired M qs ps/\ps.Nodup/\ps.length<=4000/\
 ∀(l:Addr) (qs':List Addr) (ps':List (Int×Int)),H l=none->Paired M qs' ps'->ps'.Perm ps->ps'.Pairwise (fun a b=>ltP a b=true)->Q (.ref l) (upd H l (.lst (qs'.map V.ref)))
theorem Qb2 (hu:X.A.units+3<cLine):VM X (.builtin "sorted") (QmK X.K):=by
 intro pins s σ H xs us Q I r h
 obtain⟨p,qs,ps,M,rfl,hq,pr,pM,nd,l64,k⟩:=h
 obtain⟨u,rfl,ru⟩:=vals1 r
 cases ru
 obtain⟨its,rv,pl,hz⟩:=I.list hq
 have ei:=V3 rv
 subst ei
 have pso:Paired (PO s.heap) qs ps:=Paired.imp' (fun _ _ z=>QgR I z) pr
 have lq:=z73 pso
 refine QaR (M:=M) hu l64 nd (fun R kR=>collect_list pl.isList ?_ (by rw[z14,z55];omega)) fun h' tk c L qs' ps' kp gs pM' pm pw hD=>?_
 ·have hsz:((s.heap.push (seqObj "list" #[] 0)).update s.heap.objs.size (z60 (·++(qs.map z32).toArray))).objs.size=s.heap.objs.size+1:=by
   rw[Heap.size_update,size_push']
  have keep:Kp s.heap ((s.heap.push (seqObj "list" #[] 0)).update s.heap.objs.size (z60 (·++(qs.map z32).toArray))):=fun b o q=>by
   have hlt:b<s.heap.objs.size:=z33 q
   rw[Heap.get?_update_ne _ _ _ _ (z51 hlt),Heap.get?_push_ne _ _ _ (z51 hlt)]
   exact q
  exact kR _ s.toks qs ps keep (by rw[hsz];exact za9 _) (Paired.imp' (fun _ _ z=>z.kp keep) pso) pM (.refl _)
 ·refine⟨.ref _,_,I.laid (t':=tk) (o:=.lst (qs'.map V.ref)) kp gs ⟨?_,_,c,YG _,hD⟩,rfl,k _ qs' ps' (I.hok.fresh gs) pM' pm pw⟩
  have:=z73 pM'
  rw[z14,this,pm.length_eq,z55];omega
def QmL (prog:Program)(w:World)(M:Addr->Int×Int->Prop)(a:Addr)(ps:List (Int×Int))(h:Heap):Prop:=
 ∃ps' o es ep t,ps'.Perm (upTo ps)/\h.get? a=some o/\o.ExactSet/\o.data=.set es ep t/\L2.St.Tp t es/\es.size * 5<t.mask * 3/\t.plain=true/\t.led=(!w.params.followText "set-order")/\Paired (fun(e:Int×Value) p=>∃q,e=(hP prog w p,.ref q)/\M q p) es.toList ps'
def QoV (prog:Program)(w:World)(K:z02):List V->Hp->VK->Prop:=fun xs H Q=>∃p qs ps M,xs=[.ref p]/\SqL K H p (qs.map V.ref)/\Paired (PT K H) qs ps/\Paired M qs ps/\ps.length<1900/\∀l,H l=none->Q (.ref l) (upd H l (.ext (QmL prog w M l ps)))
theorem Qa7 (hc:X.calm=true)(hu:X.A.units+8<cLine):VM X (.type "set") (QoV X.prog X.w X.K):=by
 intro pins s σ H xs us Q I r h
 obtain⟨p,qs,ps,M,rfl,hq,pr,pM,hn,k⟩:=h
 obtain⟨u,rfl,ru⟩:=vals1 r
 cases ru
 obtain⟨its,rv,pl,hz⟩:=I.list hq
 have ei:=V3 rv
 subst ei
 refine QeX (M:=M) (I.ok.hd hc) hu pl.isList (Paired.imp' (fun _ _ z=>QgR I z) pr) pM hn fun h' tk ps' hS pm kp=>?_
 obtain⟨o,es,ep,t,ho,hex,hd,T,hlo,hpl,QbL,hes,nd⟩:=hS
 refine⟨.ref _,_,I.laid (t':=tk) (o:=.ext (QmL X.prog X.w M s.heap.objs.size ps)) kp (z18 _) ⟨⟨ps',o,es,ep,t,pm,ho,hex,hd,T,hlo,hpl,QbL,Paired.imp' (fun _ _ ⟨q,e,_,m⟩=>⟨q,e,m⟩) hes⟩,⟨o,ho⟩,?_⟩,rfl,k _ (I.hok.fresh (z18 _))⟩
 rintro h1 h2 ⟨ps',o,es,ep,t,a1,a2,a3⟩ z
 exact⟨ps',o,es,ep,t,a1,z _ a2,a3⟩
def QmM (prog:Program)(w:World)(K:z02):List V->Hp->VK->Prop:=fun xs H Q=>∃l ps M,xs=[.ref l]/\H l=some (.ext (QmL prog w M l ps))/\(∀q p,M q p->PT K H q p)/\ps.length<1900/\
 ∀(L:Addr) (qs':List Addr) (ps':List (Int×Int)),H L=none->Paired M qs' ps'->ps'.Perm (upTo ps)->ps'.Pairwise (fun a b=>ltP a b=true)->Q (.ref L) (upd H L (.lst (qs'.map V.ref)))
theorem Qb3 (hc:X.calm=true)(hu:X.A.units+3<cLine):VM X (.builtin "sorted") (QmM X.prog X.w X.K):=by
 intro pins s σ H xs us Q I r h
 obtain⟨l,ps,M,rfl,hl,hM,hn,k⟩:=h
 obtain⟨u,rfl,ru⟩:=vals1 r
 cases ru
 obtain⟨⟨ps0,o,es,ep,t,pm0,ho,hex,hd,T,hlo,hpl,QbL,hes⟩,_,_⟩:=(show QV X.prog X.w H s.heap l (.ext (QmL X.prog X.w M l ps)) from I.hok l _ hl)
 have l1:(upTo ps).length<=ps.length:=YL ps
 have nd0:ps0.Nodup:=pm0.nodup_iff.mpr (Yr ps)
 refine QaR (M:=M) (ps:=upTo ps) hu (by omega) (Yr ps) (fun R kR=>QiR (M:=M) (ps:=ps0) (I.ok.hd hc) ⟨o,es,ep,t,ho,hex,hd,T,hlo,hpl,QbL,Paired.imp' (fun _ _ ⟨q,e,m⟩=>⟨q,e,QgR I (hM q _ m),m⟩) hes,nd0⟩ fun h1 tk qs ps' kp gs p1 p2 pm=>kR h1 tk qs ps' kp gs p1 p2 (pm.trans pm0)) fun h' tk c L qs' ps' kp gs pM' pm pw hD=>?_
 refine⟨.ref _,_,I.laid (t':=tk) (o:=.lst (qs'.map V.ref)) kp gs ⟨?_,_,c,YG _,hD⟩,rfl,k _ qs' ps' (I.hok.fresh gs) pM' pm pw⟩
 have:=z73 pM'
 rw[z14,this,pm.length_eq,z55];omega
def QmN:List V->Hp->VK->Prop:=fun xs H Q=>∃d kvs ps,xs=[.ref d]/\H d=some (.dT kvs)/\kvs.map (·.1)=ps.map Q9/\ps.length<=4000/\
 ∀(L:Addr) (qs':List Addr) (ps':List (Int×Int)),H L=none->Paired (fun q p=>H q=some (.tup [.int p.1,.int p.2])) qs' ps'->ps'.Perm ps->ps'.Pairwise (fun a b=>ltP a b=true)->Q (.ref L) (upd H L (.lst (qs'.map V.ref)))
theorem Qb4 (hc:X.calm=true)(hu:X.A.units+3<cLine):VM X (.builtin "sorted") QmN:=by
 intro pins s σ H xs us Q I r h
 obtain⟨d,kvs,ps,rfl,hd,ek,l64,k⟩:=h
 obtain⟨u,rfl,ru⟩:=vals1 r
 cases ru
 obtain⟨z1,z2,ys,pr,od,es,ep,e1,e2,e3,e4,nd⟩:=(show QV X.prog X.w H s.heap d (.dT kvs) from I.hok d _ hd)
 have ly:ys.length=ps.length:=by
  have h1:=pr.length
  have h2:=congrArg zf8 ek
  rw[z14,z14] at h2
  omega
 have at_:∀(kvs:List (List Key×V)) (ys:List (List Key×Addr×Value)) (ps:List (Int×Int)),Paired (fun(p:List Key×V) (q:List Key×Addr×Value)=>p.1=q.1/\H q.2.1=some (.tup (p.1.map kV))/\RelV p.2 q.2.2) kvs ys->kvs.map (·.1)=ps.map Q9->Paired (fun q p=>H q=some (.tup [.int p.1,.int p.2])) (ys.map (·.2.1)) ps/\ys.map (·.1)=ps.map Q9:=by
  intro kvs ys ps h
  induction h generalizing ps with
  |nil=>intro e;cases ps with
   |nil=>exact⟨.nil,rfl⟩
   |cons _ _=>cases e
  |cons r _ ih=>intro e;cases ps with
   |nil=>cases e
   |cons p ps=>
    simp only[z30,List.cons.injEq] at e
    obtain⟨i1,i2⟩:=ih ps e.2
    obtain⟨r1,r2,_⟩:=r
    rw[e.1] at r2
    exact⟨.cons r2 i1,by rw[z30,z30,i2,← r1,e.1]⟩
 obtain⟨pM,ey⟩:=at_ kvs ys ps pr ek
 have ndp:ps.Nodup:=by
  rw[ey] at nd
  exact(z91.mp nd).imp fun h e=>h (by rw[e])
 have eq:es.toList.map zr0=(ys.map (·.2.1)).map z32:=by
  rw[e4,zb8,zb8];rfl
 have sz:es.size=ps.length:=by rw[← z42,e4,z14,ly]
 refine QaR (M:=fun q p=>H q=some (.tup [.int p.1,.int p.2])) hu l64 ndp (fun R kR=>QgY (I.ok.hd hc) z2 e1 e2 e3 (by rw[sz,z55];omega) fun h1 tk kp gs=>?_) fun h' tk c L qs' ps' kp gs pM' pm pw hD=>?_
 ·rw[eq]
  exact kR h1 tk _ ps kp gs (Paired.imp' (fun _ _ z=>(QgR I (show PT X.K H _ _ from SqT.of z)).kp kp) pM) pM (.refl _)
 ·refine⟨.ref _,_,I.laid (t':=tk) (o:=.lst (qs'.map V.ref)) kp gs ⟨?_,_,c,YG _,hD⟩,rfl,k _ qs' ps' (I.hok.fresh gs) pM' pm pw⟩
  have:=z73 pM'
  rw[z14,this,pm.length_eq,z55];omega
end
end L2.Srt
namespace TL
open PySem PySem.Spec L2 L2.Srt
def Qnx:D->Option (Int×Int)
 |.nd .tup [.int a,.int b]=>some (a,b)
 |_=>none
theorem QjE {d:D}{x:Int×Int}(h:Qnx d=some x):d=pl x:=by
 unfold Qnx at h
 split at h
 ·cases h;rfl
 ·cases h
def plL:List D->Option (List (Int×Int))
 | []=>some []
 |d::ds=>(Qnx d).bind fun x=>(plL ds).map (x::·)
theorem QfQ:∀{ds:List D} {xs:List (Int×Int)},plL ds=some xs->ds=xs.map pl
 | [],_,h=>by cases h;rfl
 |d::ds,xs,h=>by
  obtain⟨x,e1,e2⟩:=z28.mp (show(Qnx d).bind _=some xs from h)
  obtain⟨ys,e3,rfl⟩:=z05.mp e2
  rw[QjE e1,QfQ e3];rfl
theorem QcK:∀{xs:List (Int×Int)},plL (xs.map pl)=some xs
 | []=>rfl
 |x::xs=>by rw[z30,plL,QcK];rfl
theorem Jg:∀xs:List (Int×Int),D.QL (xs.map pl)=true
 | []=>rfl
 |x::xs=>by rw[z30];show(true && D.QL (xs.map pl))=true;rw[Jg xs];rfl
theorem QfR {K:z02}{F:Hp}:∀{vs:List L2.V} {xs:List (Int×Int)},RL K F vs (xs.map pl)->∃qs:List Addr,vs=qs.map L2.V.ref/\Paired (fun q p=>R K F (.ref q) (pl p)) qs xs
 |_,[],.nil=>⟨[],rfl,.nil⟩
 |_,x::xs,.cons r t=>by
  obtain⟨a,rfl,h⟩:=QmD r
  obtain⟨qs,rfl,p⟩:=QfR t
  exact⟨a::qs,rfl,.cons r p⟩
theorem QfS {K:z02}{F:Hp}:∀{qs:List Addr} {xs:List (Int×Int)},Paired (fun q p=>R K F (.ref q) (pl p)) qs xs->RL K F (qs.map L2.V.ref) (xs.map pl)
 |_,_,.nil=>.nil
 |_,_,.cons r t=>.cons r (QfS t)
theorem QjF {F G H:Hp}{fp:List Addr}(s:Qn F G):Qn (jn F H fp) (jn G H fp):=fun b o e=>by
 by_cases z:b∈fp
 ·rw[Jl z] at e ⊢;exact e
 ·rw[QG z] at e ⊢;exact s b o e
theorem QmO {C:Cn}{F H:Hp}{fp:List Addr}{q:Addr}{o:HO}{σ:L2.St}{ρ:Rho}{τ:List (L2.V×D)}(I:SI C F H σ ρ τ fp)(hq:H q=none):Qn (jn F H fp) (jn F (upd H q o) fp):=fun b ob e=>by
 by_cases z:b∈fp
 ·rw[Jl z] at e ⊢
  rw[Qg (Qm e hq)];exact e
 ·rw[QG z] at e ⊢;exact e
section
variable {X:Cx}{C:Cn}{E:XE}{p:Bool}{e o:Expr}{mr:MA}{pos px px2 cpos:Pos}{ks:List Kd}{x y:Str}
theorem QjG {F H:Hp}(s:Qn F H){q:Addr}{v:Int×Int}(hK:C.K=X.K)(r:R C.K F (.ref q) (pl v)):PT X.K H q v:=by
 obtain⟨a,e,h⟩:=QmD r
 cases e
 exact SqT.of (s _ _ h)
def QfT:List D->Option (List (Int×Int))
 | [.nd .lst ds]=>(plL ds).bind fun ps=>if ps.Nodup/\ps.length<=4000 then some (Qaq ltP ps) else none
 |_=>none
def QhZ (mr:MA):ME:=fun ρ=>(mr ρ).bind fun r=>(Rs.of (QfT r.1)).bind fun ps=>.ok (.lst (ps.map pl),r.2)
theorem Qhd (hu:X.A.units+3<cLine)(hK:C.K=X.K)(hm:X.mg x=none)(hv:z84 x=some (.builtin "sorted"))(ha:PA X [e] (tA ks C p E mr))(ok:rdL ks=true:=by rfl)(hgl:Gl X x:=by rfl)(hn:x ≠ "__name__" := by decide)(hdb:(x == ("__debug__" : Str))=false:=by decide)
  (he:starEach [e] X.env=(false,eval e X.env)::starEach [] X.env:=by rfl) (hpl:(backTo pos (starEach [] X.env)).any (·.1)=false:=by rfl):PE X (.Call (.Name x px) [e] [] pos) (tX .O C p E (QhZ mr)):=
 Qo (Vw (Qb2 hu) hgl hm hv ha hn hdb he hpl) fun σ H Q ⟨F,ρ,τ,fp,I,h⟩=>by
  refine⟨F,ρ,τ,fp,I,h.split.mono fun r1 h1 F1 H1 fp1 vs I1 n1 f1=>?_⟩
  rw[Jd ok] at I1
  have rl:=f1.rd I1 ok
  obtain⟨ps',e1,h2⟩:=h1.split.of
  obtain⟨dr,ρ1⟩:=r1
  dsimp only at e1 rl h2
  unfold QfT at e1
  split at e1
  ·rename_i ds
   obtain⟨ps,e2,e3⟩:=z28.mp e1
   split at e3
   ·rename_i cnd
    cases e3
    rw[QfQ e2] at rl
    obtain⟨v,rfl,r1⟩:=rl.one
    obtain⟨a,us,rfl,h3,h4⟩:=r1.inv
    have rlF:=I1.loL h4 (Jg ps)
    obtain⟨qs,rfl,pM⟩:=QfR rlF
    refine⟨a,qs,ps,_,rfl,?_,Paired.imp' (fun _ _ z=>QjG I1.fh hK z) pM,pM,cnd.1,cnd.2,fun l qs' ps' hl pM' pm pw=>?_⟩
    ·rw[← hK];exact(At.same h3 (JK I1.fh)).sql
    ·have eq:ps'=Qaq ltP ps:=Vj Vf pw (JZ Vf cnd.1) (pm.trans (Qs ps).symm)
     subst eq
     exact h2 _ _ _ _ (I1.newList hl (QfS pM') (Jg _)) ((n1.trans (q:=true) ⟨Qn.refl _,fun _=>V6 I1 hl⟩).weak fun z=>by simp[z]) z59
   ·cases e3
  ·cases e1
def QfU:List D->Option (List (Int×Int))
 | [.nd .lst ds]=>(plL ds).bind fun ps=>if ps.length<1900 then some (Qaq ltP (upTo ps)) else none
 |_=>none
def QfV (mr:MA):ME:=fun ρ=>(mr ρ).bind fun r=>(Rs.of (QfU r.1)).bind fun ps=>.ok (.lst (ps.map pl),r.2)
theorem Qhe (hc:X.calm=true)(hu:X.A.units+8<cLine)(hK:C.K=X.K)(hm:X.mg x=none)(hv:z84 x=some (.builtin "sorted"))(hm2:X.mg y=none)(hv2:z84 y=some (.type "set"))(ha:PA X [e] (tA ks C p E mr))(ok:rdL ks=true:=by rfl)(hgl:Gl X x:=by rfl)(hn:x ≠ "__name__" := by decide)(hdb:(x == ("__debug__" : Str))=false:=by decide)(QqG:Gl X y:=by rfl)(hn2:y ≠ "__name__" := by decide)(QqH:(y == ("__debug__" : Str))=false:=by decide)
  (he:starEach [e] X.env=(false,eval e X.env)::starEach [] X.env:=by rfl) (hpl:(backTo cpos (starEach [] X.env)).any (·.1)=false:=by rfl)
  (he2:starEach [.Call (.Name y px2) [e] [] cpos] X.env=(false,eval (.Call (.Name y px2) [e] [] cpos) X.env)::starEach [] X.env:=by rfl) (QqI:(backTo pos (starEach [] X.env)).any (·.1)=false:=by rfl):PE X (.Call (.Name x px) [.Call (.Name y px2) [e] [] cpos] [] pos) (tX .O C p E (QfV mr)):=
 Qo (Vw (Qb3 hc (by omega)) hgl hm hv (Jp (VP (Qa7 hc hu) QqG hm2 hv2 ha hn2 QqH he hpl) YF he2) hn hdb he2 QqI) fun σ H Q ⟨F,ρ,τ,fp,I,h⟩=>by
  refine⟨F,ρ,τ,fp,I,h.split.mono fun r1 h1 F1 H1 fp1 vs I1 n1 f1=>?_⟩
  rw[Jd ok] at I1
  have rl:=f1.rd I1 ok
  obtain⟨ps',e1,h2⟩:=h1.split.of
  obtain⟨dr,ρ1⟩:=r1
  dsimp only at e1 rl h2
  unfold QfU at e1
  split at e1
  ·rename_i ds
   obtain⟨ps,e2,e3⟩:=z28.mp e1
   split at e3
   ·rename_i cnd
    cases e3
    rw[QfQ e2] at rl
    obtain⟨v,rfl,r1⟩:=rl.one
    obtain⟨a,us,rfl,h3,h4⟩:=r1.inv
    have rlF:=I1.loL h4 (Jg ps)
    obtain⟨qs,rfl,pM⟩:=QfR rlF
    refine⟨a,qs,ps,_,rfl,?_,Paired.imp' (fun _ _ z=>QjG I1.fh hK z) pM,pM,cnd,fun l hl=>?_⟩
    ·rw[← hK];exact(At.same h3 (JK I1.fh)).sql
    ·have J:=I1.lay0 (o:=.ext (QmL X.prog X.w (fun q p=>R C.K F1 (.ref q) (pl p)) l ps)) hl
     refine⟨l,ps,_,rfl,Ql,fun q v z=>QjG J.fh hK z,cnd,fun L qs' ps' hL pM' pm pw=>?_⟩
     have eq:ps'=Qaq ltP (upTo ps):=Vj Vf pw (JZ Vf (Yr ps)) (pm.trans (Qs _).symm)
     subst eq
     refine h2 _ _ _ _ (J.newList hL (QfS pM') (Jg _)) ((n1.trans (q:=true) ⟨Qn.refl _,fun _=>?_⟩).weak fun z=>by simp[z]) z59
     exact(QmO I1 hl).trans (V6 J hL)
   ·cases e3
  ·cases e1
def Qb5:List (List Key)->Option (List (Int×Int))
 | []=>some []
 |k::ks=>(QmF k).bind fun q=>(Qb5 ks).map (q::·)
theorem Qa8:∀{ks:List (List Key)} {ps:List (Int×Int)},Qb5 ks=some ps->ks=ps.map Q9
 | [],_,h=>by cases h;rfl
 |k::ks,ps,h=>by
  obtain⟨q,e1,e2⟩:=z28.mp (show(QmF k).bind _=some ps from h)
  obtain⟨qs,e3,rfl⟩:=z05.mp e2
  rw[QjC e1,Qa8 e3];rfl
theorem Qad:∀{ps:List (Int×Int)},Qb5 (ps.map Q9)=some ps
 | []=>rfl
 |p::ps=>by rw[z30,Qb5,Qad];rfl
def QfW:List D->Option (List (Int×Int))
 | [.nd (.dT ks) ds]=>(Qb5 ks).bind fun ps=>if ps.Nodup/\ps.length<=4000 then some (Qaq ltP ps) else none
 |_=>none
def QfX (mr:MA):ME:=fun ρ=>(mr ρ).bind fun r=>(Rs.of (QfW r.1)).bind fun ps=>.ok (.lst (ps.map pl),r.2)
theorem Qds (hc:X.calm=true)(hu:X.A.units+3<cLine)(hm:X.mg x=none)(hv:z84 x=some (.builtin "sorted"))(ha:PA X [e] (tA ks C p E mr))(ok:rdL ks=true:=by rfl)(hgl:Gl X x:=by rfl)(hn:x ≠ "__name__" := by decide)(hdb:(x == ("__debug__" : Str))=false:=by decide)
  (he:starEach [e] X.env=(false,eval e X.env)::starEach [] X.env:=by rfl) (hpl:(backTo pos (starEach [] X.env)).any (·.1)=false:=by rfl):PE X (.Call (.Name x px) [e] [] pos) (tX .O C p E (QfX mr)):=
 Qo (Vw (Qb4 hc hu) hgl hm hv ha hn hdb he hpl) fun σ H Q ⟨F,ρ,τ,fp,I,h⟩=>by
  refine⟨F,ρ,τ,fp,I,h.split.mono fun r1 h1 F1 H1 fp1 vs I1 n1 f1=>?_⟩
  rw[Jd ok] at I1
  have rl:=f1.rd I1 ok
  obtain⟨ps',e1,h2⟩:=h1.split.of
  obtain⟨dr,ρ1⟩:=r1
  dsimp only at e1 rl h2
  unfold QfW at e1
  split at e1
  ·rename_i kk ds
   obtain⟨ps,e2,e3⟩:=z28.mp e1
   split at e3
   ·rename_i cnd
    cases e3
    obtain⟨v,rfl,r1⟩:=rl.one
    obtain⟨d,vs,rfl,⟨hl,hd⟩,_⟩:=r1.inv
    have hd1:H1 d=some (.dT (kk.zip vs)):=JK I1.fh _ _ hd
    refine⟨d,_,ps,rfl,hd1,by rw[zk0 (by omega)];exact Qa8 e2,cnd.2,fun L qs' ps' hL pM pm pw=>?_⟩
    have eq:ps'=Qaq ltP ps:=Vj Vf pw (JZ Vf cnd.1) (pm.trans (Qs ps).symm)
    subst eq
    have qf:∀q∈qs',∃v:Int×Int,H1 q=some (.tup [.int v.1,.int v.2]):=fun q hq=>by
     obtain⟨j,hj⟩:=z75 hq
     obtain⟨b,_,r⟩:=Paired.get pM hj
     exact⟨b,r⟩
    let G:Hp:=fun b=>if b∈qs' then H1 b else F1 b
    have Gq:∀b,b∈qs'->G b=H1 b:=fun b z=>if_pos z
    have Go:∀b,b∉qs'->G b=F1 b:=fun b z=>if_neg z
    have sG:Qn F1 G:=fun b o e=>by
     by_cases y:b∈qs'
     ·rw[Gq b y];exact I1.fh b o e
     ·rw[Go b y];exact e
    have GH:Qn G H1:=fun b o e=>by
     by_cases y:b∈qs'
     ·rw[Gq b y] at e;exact e
     ·rw[Go b y] at e;exact I1.fh b o e
    have J:SI C G H1 σ ρ1 τ fp1:=by
     refine I1.step sG GH (fun _ _=>rfl) (fun a haf=>?_) (fun b o e=>?_) (fun b o _ _ e=>e) (fun b e=>e)
     ·rw[Go a fun y=>?_]
      ·exact I1.ap a haf
      ·obtain⟨o,e,m⟩:=I1.mem a haf
       obtain⟨v,e2⟩:=qf a y
       rw[e] at e2;cases e2;exact m
     ·by_cases y:b∈qs'
      ·rw[Gq b y] at e
       obtain⟨v,e2⟩:=qf b y
       rw[e] at e2;cases e2
       exact .inr (.inr z59)
      ·rw[Go b y] at e;exact .inl e
    have rr:∀(bs:List Addr) (ys:List (Int×Int)),(∀b∈bs,b∈qs')->Paired (fun q v=>H1 q=some (.tup [.int v.1,.int v.2])) bs ys->RL C.K G (bs.map L2.V.ref) (ys.map pl):=by
     intro bs
     induction bs with
     |nil=>intro ys _ h;cases h;exact .nil
     |cons b bs ih=>
      intro ys hb h
      cases h with
      |cons r h=>exact .cons (.nd (t:=.tup) (show G b=_ by rw[Gq b (hb b z12)];exact r) (.cons (.sc rfl) (.cons (.sc rfl) .nil))) (ih _ (fun c hc=>hb c (z09 _ hc)) h)
    refine h2 _ _ _ _ (J.newList hL (rr qs' _ (fun _ z=>z) pM) (Jg _)) ((n1.trans (q:=true) ⟨sG,fun _=>(QjF sG).trans (V6 J hL)⟩).weak fun z=>by simp[z]) z59
   ·cases e3
  ·cases e1
end
end TL
namespace L2
open PySem PySem.Spec PyProof.Rows
def QoW (hi:Int)(n:Nat):It:=⟨fun i _=>i<n,fun i H x H'=>H'=H/\x=.int (hi - i),fun i _=>n<=i⟩
theorem QfY {P:Program}{w:World}{K:z02}{tg:Expr}(it:Addr)(hi:Int)(n:Nat):Turn P w K tg (QoW hi n) [it] it (fun i h=>IsRangeIter h it (hi+(i:Nat) * (-1)) ((n:Int) - (i:Nat)) (-1)) where
 mem:=by simp
 obj:=fun i h st b hb=>by
  have e:b=it:=by simpa using hb
  subst e
  exact⟨_,st,fun v z=>by
   have z':Data.fields _=Data.cell v:=z
   cases z'⟩
 keep:=fun i h h' st k=>k it (by simp) _ st
 item:=by
  intro X hP hw hK hc i pins s σ H E I hf st hg
  subst hP hw hK
  obtain⟨f0,f1,f2,f3,f4,f5⟩:=hf it (by simp)
  have W:=Walks.range (prog:=X.prog) (w:=X.w) (I.ok.hd hc) it hi (-1) n
  refine W.item i s _ _ hg st fun v h' tk hv st' kk=>?_
  obtain⟨t,rfl⟩:=hv
  have I1:Inv X pins σ H { s with heap:=h',toks:=tk }:=I.turned (fun b o hb e=>kk b o (by simpa using hb) e) f0 f1 f3 f4 f5
  refine⟨_,rfl,Qgy (s:={ s with heap:=h',toks:=tk }) (n := "range_iterator") st' rfl rfl (by decide) ⟨.int (hi - i),H,I1,⟨t,?_⟩,⟨rfl,rfl⟩,st',fun b hb=>(hf b hb).1⟩⟩
  rw[show hi - (i:Int)=hi+(i:Int) * (-1) by omega]
 done:=by
  intro X hP hw hK hc i pins s σ H E I hf st hg
  subst hP hw hK
  obtain⟨f0,f1,f2,f3,f4,f5⟩:=hf it (by simp)
  exact zy9 (I.ok.hd hc) st (by have:n<=i:=hg;omega) fun h' eb=>⟨rfl,I.turned (t':=s.toks) (fun b o hb e=>eb b o hb e) f0 f1 f3 f4 f5⟩
 self:=fun _ _ _ _ _ st h=>zz1 st h
theorem Qb6 {a b:Int}:ze7 a b (-1)=((a - b).toNat:Nat):=by
 unfold ze7
 rw[if_neg (by decide)]
 simp only[Int.neg_neg,Int.ediv_one]
 split<;>omega
theorem small_down {a b:Int}(h1 : -(2 ^ 61)<=a)(h2:a<2 ^ 61)(h3 : -(2 ^ 61)<=b)(h4:b<2 ^ 61):zr2 a b (-1)=true:=by
 unfold zr2
 rw[Qb6]
 simp only[Builtin.Range.rangeFitsLong,z72,Bool.or_eq_true,decide_eq_true_eq,beq_iff_eq,show ¬ ((-1:Int) > 0) by decide,if_false]
 omega
def QoX (ta:TA):TI:=fun σ H R=>ta σ H fun vs H1=>∃i j:Int,vs=[.int i,.int j,.int (-1)]/\(-(2 ^ 61)<=i/\i<2 ^ 61/\-(2 ^ 61)<=j/\j<2 ^ 61)/\R (QoW i (i - j).toNat) H1
theorem QjH {X:Cx}{tg:Expr}{a b c:Expr}{ta:TA}{p pos:Pos}(hg:Gl X "range")(hm:X.mg "range" = none)(ha:PA X [a,b,c] ta)(hs:starEach [a,b,c] X.env=[(false,eval a X.env),(false,eval b X.env),(false,eval c X.env)]:=by rfl)(hs2:starEach [b,c] X.env=[(false,eval b X.env),(false,eval c X.env)]:=by rfl) :
  PI X tg (.Call (.Name "range" p) [a,b,c] [] pos) (QoX ta):=by
 intro pins s σ H R I h
 refine Call_ (QcS I hg hm boot_range (zh1 (thn (ha pos pins s σ H _ I h) fun us s1 ⟨vs,H1,I1,r1,q1⟩=>?_) (by rw[hs,hs2]) (by rw[hs2];rfl)))
 obtain⟨i,j,e,⟨q1,q2,q3,q4⟩,q⟩:=q1
 subst e
 cases r1 with
 |cons r rr=>
  cases rr with
  |cons r' rr=>
   cases rr with
   |cons r'' rr=>
    cases rr
    obtain⟨t,rfl⟩:=r
    obtain⟨t',rfl⟩:=r'
    obtain⟨t'',rfl⟩:=r''
    refine call_range_3 (by decide) ?_ (.inl (PyProof.noPylong_small (by omega)))
    refine wpAny_pyIter_range (IsRange.new ..) (small_down q1 q2 q3 q4) ?_
    generalize eo:({ cls:=.type "range",data:=.fields #[.int i t,.int j t',.int (-1) t'']}:Obj)=ro
    have I2:Inv X pins σ H1 { s1 with heap:=s1.heap.push ro,toks:=s1.toks }:=I1.kept fun b o e=>z16 _ e
    refine⟨(s1.heap.push ro).objs.size,[(s1.heap.push ro).objs.size],_,_,H1,rfl,I2.kept (t':=s1.toks) fun b o e=>z16 _ e,QfY _ i (i - j).toNat,?_,fun b hb=>?_,q⟩
    ·show IsRangeIter _ _ (i+((0:Nat):Int) * (-1)) ((((i - j).toNat:Nat):Int) - ((0:Nat):Int)) (-1)
     rw[show i+((0:Nat):Int) * (-1)=i by simp,show(((i - j).toNat:Nat):Int) - ((0:Nat):Int)=ze7 i j (-1) by rw[Qb6];simp]
     exact z37 _ rfl
    ·have e:b=(s1.heap.push ro).objs.size:=by simpa using hb
     subst e
     exact I2.Qni (z18 _) (I2.hok.fresh (z18 _))
theorem QmP {X:Cx}{pins:List (Addr×Obj)}{σ:St}{H:Hp}{s:Shared}{a b:Addr}{k:List Key}{v:V}{r:Value}{A:Around}{E:Value->Shared->Prop}{Q:Unit->Shared->Prop}(hu:A.units<cLine)(I:Inv X pins σ H s)(e:H a=some (.dT []))(eb:H b=some (.tup (k.map kV)))(rv:RelV v r)(h:∀s',Inv X pins σ (upd H a (.dT [(k,v)])) s'->Q () s') :
  wpAny (model X.prog X.w) A (dictSet a (.ref b) r) Q E s:=by
 obtain⟨z,hd,xs,rel,dd⟩:=Qif I.hok e
 cases rel
 refine wpAny_dictSet_heap (hsz:=z49 _) hu (Vn I.hok eb) dd fun h' dd' hs=>h _ ?_
 obtain⟨q,es,ep,hq,h2,h3,h4,_,h5⟩:=dd'
 refine VR I (by rw[e];exact z59) hs ⟨q,hq⟩ ⟨by rw[z55];simp,hd,[(k,b,r)],.cons ⟨rfl,?_,rv⟩ .nil,q,es,ep,hq,h2,h3,h4,h5⟩
 show upd H a _ b=_
 rw[Qg (Qek eb e (fun z=>nomatch z))]
 exact eb
def QmQ (tk tv:TE):TE:=fun σ H Q=>∀p,H p=none->tk σ (upd H p (.dT [])) fun x H1=>tv σ H1 fun y H2=>H2 p=some (.dT [])/\∃b k,x=.ref b/\H2 b=some (.tup (k.map kV))/\Q (.ref p) (upd H2 p (.dT [(k,y)]))
theorem Qhf {X:Cx}{pos:Pos}{k v:Expr}{tk tv:TE}(hu:X.A.units<cLine)(hk:PE X k tk)(hv:PE X v tv):PE X (.Dict [some k] [v] pos) (QmQ tk tv):=by
 intro pins s σ H Q I q
 have hn:=I.hok.fresh (z18 s.heap.objs.size)
 have I1:=I.laid (a:=s.heap.objs.size) (o:=.dT []) (h':=s.heap.push { cls:=.type "dict",data:=.dict #[]}) (t':=s.toks) (fun _ _ q=>z16 _ q) (z18 _) (QcX s.heap I.big)
 refine wpAny_Dict_any rfl rfl (by simp) (by simp) ?_
 refine pairTrees_cons_walk (thn (hk pins _ σ _ _ I1 (q _ hn)) fun u s1 hz=>?_)
 obtain⟨x,H1,I2,rx,q1⟩:=hz
 refine thn (hv pins s1 σ H1 _ I2 q1) fun w2 s2 hz=>?_
 obtain⟨y,H2,I3,ry,e,b,kk,ex,eb,q2⟩:=hz
 refine pairTrees_nil_walk ?_
 subst ex
 cases rx
 unfold storeAll
 simp only[zs0,List.forIn_nil]
 refine z00 (z00 (QmP hu I3 e eb ry fun s3 I4=>z06 (z06 ⟨.ref _,_,I4,rfl,q2⟩)))
end L2
namespace TL
open PySem PySem.Spec L2 L2.Srt
section
variable {X:Cx}{C:Cn}{E:XE}{p pa pb:Bool}{e a b c k v:Expr}{m mk mv:ME}{mr:MA}{pos px cpos:Pos}{ks:List Kd}{rk:Kd}{x:Str}
def QpI (i:Nat)(n:Int):MS:=fun ρ=>match ρ[i]? with
 |some (some (.frz (.int z)))=>(Rs.of (YC ρ i (.int (z+n)))).bind fun ρ'=>.ok (.nx,ρ')
 |_=>.no
theorem QoY {i:Nat}{n:Int}{j:Nat}{pos':Pos}(hN:X.N.Nodup)(hi:X.N[i]? = some x)(hx:Loc X.env.scope x)(hf:X.fn x=true\/X.env.scope.names.lookup x=some .local:=by first|exact .inl rfl|exact .inr rfl|assumption) :
  PS X (.AugAssign (.Name x pos') .Add (.Constant (.int n) j cpos) pos) (tS rk C E (QpI i n)):=QQ (Qkt hN hi hx QcR Qku hf) fun D σ H ⟨F,ρ,fp,I,h⟩=>by
 unfold QpI at h
 split at h
 ·rename_i z es
  obtain⟨ρ',e,h2⟩:=h.split.of
  obtain⟨y,f0,g0,rest,ey,s1,_⟩:=I.cut es
  cases s1 with
  |frz r=>
   obtain rfl:=r.Qv (w:=.int z) rfl
   obtain⟨fp',J,_⟩:=SI.YC I (R.sc (d:=.int (z+n)) rfl) e
   exact⟨_,ey,z,n,rfl,rfl,h2 F H _ fp' (Qn.refl _) J⟩
 ·exact h.elim
def QmR (mk mv:ME):ME:=fun ρ=>(mk ρ).bind fun r=>(mv r.2).bind fun s=>(Rs.of (Qd2 r.1)).bind fun k=>if s.1.imm=true then .ok (.nd (.dT [k]) [s.1],s.2) else .no
theorem Qhg (hu:X.A.units+1<cLine)(hk:PE X k (tX .V C pa E mk))(hv:PE X v (tX .V C pb E mv)):PE X (.Dict [some k] [v] pos) (tX .O C (pa && pb) E (QmR mk mv)):=Qo (Qhf (by omega) hk hv) fun σ H Q ⟨F,ρ,τ,fp,I,h⟩=>fun q hq=>by
 have J:=I.lay0 (o:=.dT []) hq
 have nq:q∉fp:=fun z=>by
  obtain⟨o,e,_⟩:=I.mem q z
  rw[hq] at e;cases e
 have J0:=J.push (v:=.ref q) (d:=.nd (.dT []) []) (f:=[q]) (.mt (t:=.dT []) (vs:=[]) ⟨rfl,Ql⟩ .nil) (fun a ha=>by rw[z19.mp ha];exact I.dm q hq) (fun a ha=>by rw[z19.mp ha];exact I.fh.free hq) (z07.mpr ⟨by simp,I.nd,fun x hx y hy z=>by subst z;rw[z19.mp hx] at hy;exact nq hy⟩)
 refine⟨F,ρ,_,_,J0,h.split.mono fun r1 h1 F1 H1 fp1 u I1 n1 f1=>⟨F1,r1.2,_,fp1,I1,h1.split.mono fun r2 h2 F2 H2 fp2 y I2 n2 f2=>?_⟩⟩
 obtain⟨kk,ek,h3⟩:=h2.split.of
 obtain⟨ft,QcE,ot,pmt,J',t0,tap,tnd⟩:=SI.pop I2
 have hq2:H2 q=some (.dT [])/\ft=[q]:=by
  cases ot with
  |sc e=>cases e
  |im m _ _=>cases m
  |mt h r=>cases r;exact⟨h.2,rfl⟩
 obtain⟨hq2,rfl⟩:=hq2
 obtain⟨bb,rfl,hb⟩:=QbX (R.same n2.f f1) ek
 refine⟨hq2,bb,kk,rfl,I2.fh _ _ hb,?_⟩
 split at h3
 ·rename_i im
  have qr:q∉QcE:=fun z=>(z07.mp tnd).2.2 q (by simp) q z rfl
  have Fq:F2 q=none:=tap q (by simp)
  have K:=J'.step (F':=F2) (H':=upd H2 q (.dT [(kk,y)])) (Qn.refl _) (fun b o e=>by rw[Qg (fun z=>by rw[z,Fq] at e;cases e)];exact J'.fh b o e) (fun a ha=>Qg (fun z=>qr (z▸ha))) J'.ap (fun b o e=>.inl e) (fun b o e _ e2=>by rw[Qg (fun z=>by rw[z,t0 q (by simp)] at e;cases e)];exact e2) (fun b e=>by
   by_cases z:b=q
   ·subst z;rw[Ql] at e;cases e
   ·rw[Qg z] at e;exact e)
  refine h3 F2 _ _ (.ref q) (K.push (f:=[q]) (.mt (t:=.dT [kk]) (vs:=[y]) ⟨rfl,Ql⟩ ((RL.cons f2 .nil).o (by show(r2.1.imm && true)=true;rw[im];rfl))) t0 tap tnd) ⟨n1.f.trans n2.f,fun hp b o e=>?_⟩ z59
  have hp:=z48.mp hp
  have bq:b≠q:=fun z=>by
   subst z
   by_cases c:b∈fp
   ·exact nq c
   ·rw[QG c,I.fh.free hq] at e;cases e
  have e2:=(n2.g hp.2) b o ((n1.g hp.1) b o (V6 I hq b o e))
  by_cases c:b∈QcE
  ·rw[Jl (pmt.mem_iff.mpr (by simp[c]))] at e2
   rw[Jl (by simp[c]),Qg bq];exact e2
  ·rw[QG (fun z=>by rcases z04.mp (pmt.mem_iff.mp z) with z|z<;>simp_all)] at e2
   rw[QG (by simp[c,bq])];exact e2
 ·exact h3.elim
theorem SI.setAt {F H:Hp}{σ:L2.St}{ρ:Rho}{τ:List (L2.V×D)}{fp:List Addr}{i j:Nat}{q:Bool×List D}{n:Int}{v:L2.V}{d:D}(I:SI C F H σ ρ τ fp)(eq:Ys ρ i=some q)(ej:ixN q.2.length n=some j)(r:R C.K F v d)(im:d.imm=true) :
  ∃l vs,σ[i]? = some (some (.ref l))/\H l=some (.lst vs)/\ixN vs.length n=some j/\∃fp',SI C F (upd H l (.lst (vs.set j v))) σ (ρ.set i (some (mkS q.1 (.lst (q.2.set j d))))) τ fp':=by
 obtain⟨l,vs,f,rest,ex,hl,ol,pm,w,cl⟩:=I.QbW (Ju eq)
 obtain⟨f1,fj,f2',v0,d0,rfl,_,_,_,ks⟩:=ol.setAt (QhT ej)
 refine⟨l,vs,ex,hl,by rw[ol.length];exact ej,_,cl (ks (Qn.refl _) (fun _ _=>rfl) (r.o im)) ?_ fun b hb=>?_⟩
 ·have big:=pm.nodup_iff.mp I.nd
  have pp:((l::(f1++(fj++f2')))++rest).Perm (fj++((l::(f1++([]++f2')))++rest)):=by
   rw[z79]
   intro a
   simp only[zb5,zl2,zl0]
   omega
  exact(z07.mp (pp.nodup_iff.mp big)).2.1
 ·simp only[z04,List.not_mem_nil,false_or] at hb
  rcases hb with z|z
  ·exact⟨I.ap b (pm.mem_iff.mpr (by simp[z])),w b (by simp[z])⟩
  ·exact⟨I.ap b (pm.mem_iff.mpr (by simp[z])),w b (by simp[z])⟩
theorem Qhh {ρ:Rho}{i:Nat}{b:Bool}{s:Option Sl}{ds:List D}(h:ρ[i]? = some s):Ys (ρ.set i (some (mkS b (.lst ds)))) i=some (b,ds):=by
 unfold Ys
 rw[z64 (z17.mp h).1]
 cases b<;>rfl
def intAt (ρ:Rho)(i:Nat):Option Int:=match ρ[i]? with
 |some (some (.frz (.int z)))=>some z
 |_=>none
theorem intAt_eq {ρ:Rho}{i:Nat}{z:Int}(h:intAt ρ i=some z):ρ[i]? = some (some (.frz (.int z))):=by
 unfold intAt at h
 split at h
 ·cases h;assumption
 ·cases h
def QmS:D->Option (D×D)
 |.nd .tup [x,y]=>if(x.imm && y.imm)=true then some (x,y) else none
 |_=>none
def QpJ (i ja jb:Nat)(m:ME):MS:=fun ρ=>(m ρ).bind fun r=>(Rs.of (QmS r.1)).bind fun t=>(Rs.of (Ys r.2 i)).bind fun q=>(Rs.of ((intAt r.2 ja).bind fun n=>ixN q.2.length n)).bind fun a=>(Rs.of ((intAt r.2 jb).bind fun n=>ixN q.2.length n)).bind fun b=>
 if i=ja\/i=jb then .no else .ok (.nx,r.2.set i (some (mkS q.1 (.lst ((q.2.set a t.1).set b t.2)))))
theorem SI.var {F H:Hp}{σ:L2.St}{ρ:Rho}{τ:List (L2.V×D)}{fp:List Addr}{i:Nat}{z:Int}(I:SI C F H σ ρ τ fp)(h:ρ[i]? = some (some (.frz (.int z)))):σ[i]? = some (some (.int z)):=by
 obtain⟨y,f0,g0,rest,ey,s1,_⟩:=I.cut h
 cases s1 with
 |frz r=>obtain rfl:=r.Qv (w:=.int z) rfl;exact ey
theorem QoZ {i ja jb:Nat}{tg:Expr}(hK:C.K=X.K)(he:PE X e (tX .V C pa E m))(hg:PG X tg (QnH X.K 2 (Qeo (L2.Qib (Qgl i) (Qgl ja) QgE) (Qeo (L2.Qib (Qgl i) (Qgl jb) QgE) QnG))))
  (hs:swapsWithSole [tg] e pos.line X.env=pure false:=by rfl) (hw:swappedStores [tg] e X.env=pure none:=by rfl) (h1:(assignEach [tg] X.env).map (·.2)=[assign tg X.env]:=by rfl) :
  PS X (.Assign [tg] e pos) (tS rk C E (QpJ i ja jb m)):=
 QQ (Qeq he hg hs hw h1) fun D σ H ⟨F,ρ,fp,I,h⟩=>by
 refine⟨F,ρ,[],fp,I,h.split.run.mono fun r hr F1 H1 fp1 v I1 n1 f1=>?_⟩
 obtain⟨t,et,hr⟩:=hr.split.of
 obtain⟨q,eq,hr⟩:=hr.split.of
 obtain⟨a,ea,hr⟩:=hr.split.of
 obtain⟨b,eb,hr⟩:=hr.split.of
 obtain⟨na,ea1,ea2⟩:=z28.mp ea
 obtain⟨nb,eb1,eb2⟩:=z28.mp eb
 unfold QmS at et
 split at et
 ·rename_i x y ed
  split at et
  ·rename_i im
   cases et
   obtain⟨im1,im2⟩:=z48.mp im
   split at hr
   ·exact hr.elim
   ·rename_i hij
    rw[ed] at f1
    obtain⟨ad,vs0,rfl,g1,g2⟩:=f1.inv
    obtain⟨v1,v2,rfl,r1,r2⟩:=g2.two
    obtain⟨l,vs,s1,s2,s3,fp2,J⟩:=SI.setAt I1 eq ea2 r1 im1
    have eq2:Ys (r.2.set i (some (mkS q.1 (.lst (q.2.set a x))))) i=some (q.1,q.2.set a x):=Qhh (Ju eq)
    obtain⟨l2,vs2,t1,t2,t3,fp3,J2⟩:=SI.setAt J eq2 (by rw[zg2];exact eb2) r2 im2
    have el:l2=l:=by rw[s1] at t1;cases t1;rfl
    subst el
    rw[Ql] at t2;cases t2
    refine⟨ad,[v1,v2],rfl,by rw[← hK];exact(At.same g1 I1.fh).sqt,rfl,v1,[v2],rfl,?_⟩
    refine⟨_,s1,_,SI.var I1 (intAt_eq ea1),l2,vs,na,a,rfl,rfl,s2,s3,v2,[],rfl,_,s1,_,SI.var I1 (intAt_eq eb1),l2,_,nb,b,rfl,rfl,Ql,t3,rfl,?_⟩
    rw[Qej] at J2 ⊢
    rw[zp3] at J2
    exact hr F1 _ σ _ n1.f J2
  ·cases et
 ·cases et
def QmT:List D->Option (Int×Int)
 | [.int i,.int j,.int n]=>if n = -1/\-(2 ^ 61)<=i/\i<2 ^ 61/\-(2 ^ 61)<=j/\j<2 ^ 61 then some (i,j) else none
 |_=>none
def QmU (mr:MA):MA:=fun ρ=>(mr ρ).bind fun r=>(Rs.of (QmT r.1)).bind fun n=>.ok ((z47 (n.1 - n.2).toNat).map fun j=>.int (n.1 - (j:Nat)),r.2)
theorem Qhi {K:z02}{F:Hp}{hi:Int}{n:Nat}:ItD K F ((z47 n).map fun j=>.int (hi - (j:Nat))) (QoW hi n):=by
 refine⟨fun{C F' H σ ρ τ fp i d} hk I s e=>?_,fun{C F' H σ ρ τ fp} hk I s=>?_⟩
 ·rw[z31] at e
  obtain⟨j,ej,rfl⟩:=z05.mp e
  have hj:i<n/\j=i:=by
   rw[z17] at ej
   obtain⟨h1,h2⟩:=ej
   rw[zi6] at h2
   rw[z70] at h1
   exact⟨h1,h2.symm⟩
  refine⟨hj.1,fun x H' hz=>?_⟩
  obtain⟨e1,e2⟩:=hz
  subst e1 e2
  rw[hj.2]
  exact⟨F',I,.refl,.sc rfl⟩
 ·show n<=_
  rw[z14,z70]
  exact z18 _
theorem QjI {tg:Expr}(hm:X.mg "range" = none)(ha:PA X [a,b,c] (tA ks C p E mr))(ok:rdL ks=true:=by rfl)(hg:Gl X "range" := by rfl)(hs:starEach [a,b,c] X.env=[(false,eval a X.env),(false,eval b X.env),(false,eval c X.env)]:=by rfl)(hs2:starEach [b,c] X.env=[(false,eval b X.env),(false,eval c X.env)]:=by rfl):PI X tg (.Call (.Name "range" px) [a,b,c] [] pos) (tI C p E (QmU mr)):=QcB (QjH hg hm ha hs hs2) fun σ H R ⟨F,ρ,τ,fp,I,h⟩=>by
 refine⟨F,ρ,τ,fp,I,h.split.mono fun r hr F1 H1 fp1 vs I1 n1 f1=>?_⟩
 rw[Jd ok] at I1
 obtain⟨n,eg,h2⟩:=hr.split.of
 have rl:=f1.rd I1 ok
 unfold QmT at eg
 split at eg
 ·next i j k ed=>
  rw[ed] at rl
  obtain⟨v,u,w,rfl,rv,ru,rw'⟩:=rl.three
  obtain rfl:=rv.Qv (w:=.int i) rfl
  obtain rfl:=ru.Qv (w:=.int j) rfl
  obtain rfl:=rw'.Qv (w:=.int k) rfl
  split at eg
  ·rename_i c
   cases eg
   obtain⟨rfl,c⟩:=c
   exact⟨i,j,rfl,c,h2 F1 H1 fp1 _ I1 n1 Qhi⟩
  ·cases eg
 ·cases eg
end
end TL
namespace L2.Srt
open PySem PySem.Spec PyProof.Rows L2
def hchk:List Nat->Nat->Bool
 | [],_=>true
 |r::rs,acc=>!acc.testBit r && hchk rs (acc ||| (1 <<< r))
theorem QfZ:∀(rs:List Nat) (acc:Nat),hchk rs acc=true->rs.Nodup/\∀r∈rs,acc.testBit r=false
 | [],_,_=>⟨.nil,fun _ z=>nomatch z⟩
 |r::rs,acc,h=>by
  obtain⟨h1,h2⟩:=z48.mp (show(!acc.testBit r && hchk rs (acc ||| (1 <<< r)))=true from h)
  obtain⟨n,a⟩:=QfZ rs _ h2
  have b:∀x∈rs,acc.testBit x=false/\x≠r:=fun x hx=>by
   have z:=a x hx
   rw[Nat.testBit_or,Bool.or_eq_false_iff] at z
   refine⟨z.1,fun e=>?_⟩
   rw[e,Nat.one_shiftLeft,zy1] at z
   simp at z
  refine⟨z53.mpr ⟨fun hr=>(b r hr).2 rfl,n⟩,fun x hx=>?_⟩
  rcases z26.mp hx with rfl|hx
  ·simpa using h1
  ·exact(b x hx).1
def hR (k:Nat):Nat:=(reduceHash (Builtin.Tuple.tupleHashOf [hashInt (k / 30:Nat),hashInt (k % 30:Nat)]) % 20001).toNat
theorem Qo0:((z47 900).map hR).Nodup:=(QfZ _ 0 (by decide +kernel)).1
def inG (p:Int×Int):Bool:=decide (0<=p.1) && decide (p.1<30) && decide (0<=p.2) && decide (p.2<30)
theorem QcL {p:Int×Int}:inG p=true↔0<=p.1/\p.1<30/\0<=p.2/\p.2<30:=by
 unfold inG
 simp only[z72,decide_eq_true_eq]
 omega
theorem Qhj {P:Program}{w:World}{p q:Int×Int}(hp:inG p=true)(hq:inG q=true)(h:tupleKeyHash (Qu P w) (Q9 p)=tupleKeyHash (Qu P w) (Q9 q)):p=q:=by
 rw[QcL] at hp hq
 obtain⟨a,b⟩:=p
 obtain⟨c,d⟩:=q
 dsimp only at hp hq
 obtain⟨a',rfl⟩:=zc7 hp.1
 obtain⟨b',rfl⟩:=zc7 hp.2.2.1
 obtain⟨c',rfl⟩:=zc7 hq.1
 obtain⟨d',rfl⟩:=zc7 hq.2.2.1
 have e:∀x y:Nat,y<30->hR (x * 30+y)=(tupleKeyHash (Qu P w) (Q9 ((x:Int),(y:Int))) % 20001).toNat:=fun x y hy=>by
  unfold hR
  rw[show(x * 30+y) / 30=x by omega,show(x * 30+y) % 30=y by omega]
  rfl
 have r:hR (a' * 30+b')=hR (c' * 30+d'):=by rw[e a' b' (by omega),e c' d' (by omega),h]
 have l1:a' * 30+b' < ((z47 900).map hR).length:=by simp;omega
 have l2:c' * 30+d' < ((z47 900).map hR).length:=by simp;omega
 have:=(zd0 (h₀:=l1) (h₁:=l2) Qo0).mp (by simpa using r)
 have h1:a'=c':=by omega
 have h2:b'=d':=by omega
 rw[h1,h2]
section
variable {prog:Program}{w:World}{A:Around}{E:Value->Shared->Prop}{s:Shared}{K:Type}[DecidableEq K]{knd:HeapKind prog w K}
theorem Qd6 {d a:Addr}{xs:List (K×Addr×Value)}{k:K}{v:Value}{Q:Unit->Shared->Prop}(hu:knd.room A)(hkey:knd.is s.heap k a)(hm:s.heap.DictOfH knd d xs)(hsz:xs.length<=z20)
  (hQ:∀h',h'.DictOfH knd d (storedH xs k a v)->zb0 d s.heap h'->Q () { s with heap:=h' }):wpAny (model prog w) A (dictSetHashed d (.ref a) (knd.hash k) v) Q E s:=by
 obtain⟨o,es,ep,ho,hc,hd,he,his,hn⟩:=hm
 have sb1:∀f:Array DictEntry->Array DictEntry,zb0 d s.heap (s.heap.update d (Obj.mapDictKeys f)):=fun f=>z65 ..
 have sb2:∀f:Array DictEntry->Array DictEntry,zb0 d s.heap (s.heap.update d (Obj.mapDict f)):=fun f=>z65 ..
 unfold dictSetHashed
 try with_reducible refine z82 ?_
 refine z00 (wpAny_dictFind_heap hu hkey ho hd he his hn (fun hno=>?_) fun j p hj=>?_)
 ·have ea:=storedH_new (atKey_none_of_get hno) a v
  refine z00 (zx3 (wpAny_updateDictKeys (hz:=by have e:=size_of_entries he;omega) ho hd (hQ _ ?_ (sb1 _))))
  rw[ea]
  refine⟨_,_,ep+1,z68 _ ho (zi2 (zf2 hd _)),hc.mapDictKeys _,zf2 hd _,by simp[he,entryOfKey],fun x hx=>?_,?_⟩
  ·rcases z04.mp hx with hx|hx
   ·exact knd.keeps (his x hx) ho hd (sb1 _)
   ·rw[z19.mp hx]
    exact knd.keeps hkey ho hd (sb1 _)
  ·rw[z50,z07]
   exact⟨hn,by simp,fun x hx y hy e=>not_mem_keys_of_get hno (by simp at hy;rw[← hy,← e];exact hx)⟩
 ·have ea:=storedH_old (atKey_of_get hn hj) a v
  refine z00 (zx3 (z00 (wpAny_updateDict ho hd (wpAny_point (hQ _ ?_ (sb2 _))))))
  rw[ea]
  refine⟨_,_,ep,z68 _ ho (zi2 (Obj.data_mapDict hd _)),hc.mapDict _,Obj.data_mapDict hd _,?_,fun x hx=>?_,by rw[keys_map_putAt];exact hn⟩
  ·have z:=modify_map_putAt (entryOfKey knd) (fun e:DictEntry=>{ e with val:=v }) k v (fun _ _=>rfl) hn hj
   rw[← he] at z
   obtain⟨l⟩:=es
   simpa using z
  ·obtain⟨y,hy,rfl⟩:=z87.mp hx
   unfold putAt
   split<;>exact knd.keeps (his y hy) ho hd (sb2 _)
end
def QK (kvs more:List (List Key×V)):List (List Key×V):=more.foldl (fun acc kv=>putK acc kv.1 kv.2) kvs
theorem QcM {kvs more:List (List Key×V)}{i:Nat}{kv:List Key×V}(h:more[i]? = some kv):QK kvs (more.take (i+1))=putK (QK kvs (more.take i)) kv.1 kv.2:=by
 unfold QK
 rw[zt5,h,zm5,zo7];rfl
theorem QaA:∀(more kvs:List (List Key×V)),(QK kvs more).length<=kvs.length+more.length
 | [],kvs=>z18 _
 |p::r,kvs=>by
  have h1:=QaA r (putK kvs p.1 p.2)
  have h2:=Jr kvs p.1 p.2
  show(QK (putK kvs p.1 p.2) r).length<=_
  rw[z25];omega
theorem Qd7 {more:List (List Key×V)}(nd:(more.map (·.1)).Nodup):QK [] more=more:=by
 have:∀(more acc:List (List Key×V)),((acc++more).map (·.1)).Nodup->QK acc more=acc++more:=by
  intro more
  induction more with
  |nil=>intro acc _;simp[QK]
  |cons p r ih=>
   intro acc h
   have e:putK acc p.1 p.2=acc++[p]:=by
    unfold putK
    rw[if_neg]
    intro z
    obtain⟨x,hx,e⟩:=zq4.mp z
    have e:=of_decide_eq_true e
    rw[z50,z07] at h
    exact h.2.2 x.1 (zm8 hx) p.1 (by simp) e
   show QK (putK acc p.1 p.2) r=_
   rw[e,ih (acc++[p]) (by rw[z15];exact h),z15];rfl
 have:=this more [] (by simpa using nd)
 simpa using this
section
variable {X:Cx}{pins:List (Addr×Obj)}{σ:St}{H:Hp}{s:Shared}{A:Around}{E:Value->Shared->Prop}
theorem QcN {a b:Addr}{kvs:List (List Key×V)}{k:List Key}{v:V}{r:Value}{Q:Unit->Shared->Prop}(hu:A.units<cLine)(I:L2.Inv X pins σ H s)(e:H a=some (.dT kvs))(eb:H b=some (.tup (k.map kV)))(rv:RelV v r)(l:kvs.length<z20)
  (h:∀h',L2.Inv X pins σ (upd H a (.dT (putK kvs k v))) { s with heap:=h' }->zb0 a s.heap h'->Q () { s with heap:=h' }):wpAny (model X.prog X.w) A (dictSetHashed a (.ref b) (tupleKeyHash (Qu X.prog X.w) k) r) Q E s:=by
 obtain⟨z,hd,xs,rel,dd⟩:=Qif I.hok e
 have hl:(putK kvs k v).length<=z20:=by have:=Jr kvs k v;omega
 refine Qd6 (knd:=tupleKind (Qu X.prog X.w)) hu (Vn I.hok eb) dd (by rw[← z73 rel];exact z) fun h' dd' hs=>h h' ?_ hs
 obtain⟨q,es,ep,hq,h2,h3,h4,_,h5⟩:=dd'
 refine VR (t':=s.toks) I (by rw[e];exact z59) hs ⟨q,hq⟩ ⟨hl,hd,_,(rel.put k eb rv).keeps fun c ys ec=>?_,q,es,ep,hq,h2,h3,h4,h5⟩
 rw[Qg (Qek ec e (fun z=>nomatch z))]
 exact ec
theorem fst_eq {α β γ:Type}{F:α×β->α×γ->Prop}{l:List (α×β)}{m:List (α×γ)}(h:Paired (fun p q=>p.1=q.1/\F p q) l m):m.map (·.1)=l.map (·.1):=by
 induction h with
 |nil=>rfl
 |cons r _ ih=>rw[z30,z30,ih,r.1]
theorem Qdt {h:Int}:∀{l:List DictEntry},l.Pairwise (fun a b=>a.hash≠b.hash)->(l.filter fun y=>y.hash == h).length<=1
 | [],_=>z49 _
 |x::l,hp=>by
  obtain⟨h1,h2⟩:=z66.mp hp
  rw[zk1]
  split
  ·rename_i e
   have:l.filter (fun y=>y.hash == h)=[]:=by
    rw[List.filter_eq_nil_iff]
    intro y hy z
    exact h1 y hy ((eq_of_beq e).trans (eq_of_beq z).symm)
   rw[this];exact z18 _
  ·exact Qdt h2
def QqJ:V->List V->Hp->VK->Prop:=fun x vs H Q=>∃d e kvs more,x=.ref d/\vs=[.ref e]/\d≠e/\H d=some (.dT kvs)/\H e=some (.dT more)/\kvs.length+more.length<=4000/\(kvs=[]->∃ps:List (Int×Int),more.map (·.1)=ps.map Q9/\∀p∈ps,inG p=true)/\Q .non (upd H d (.dT (QK kvs more)))
theorem Qhk {nm:String}{d e:Addr}{kvs more:List (List Key×V)}{Q:Unit->Shared->Prop}(hu:A.units<cLine)(I:L2.Inv X pins σ H s)(ne:d≠e)(hd:H d=some (.dT kvs))(he:H e=some (.dT more))(l:kvs.length+more.length<=4000)(g:kvs=[]->∃ps:List (Int×Int),more.map (·.1)=ps.map Q9/\∀p∈ps,inG p=true)
  (k:∀h',L2.Inv X pins σ (upd H d (.dT (QK kvs more))) { s with heap:=h' }->Q () { s with heap:=h' }):wpAny (model X.prog X.w) A (zp6 nm d e) Q E s:=by
 obtain⟨z1,z2,xs,rel,od,esd,epd,hod,hcd,hdd,hkd,hnd⟩:=(show QV X.prog X.w H s.heap d (.dT kvs) from I.hok d _ hd)
 obtain⟨y1,y2,ys,QmV,oo,eso,epo,hoo,hco,hdo,hko,hno⟩:=(show QV X.prog X.w H s.heap e (.dT more) from I.hok e _ he)
 have ly:ys.length=more.length:=(z73 QmV).symm
 have ls:eso.size=more.length:=by rw[← z42,hko,z14,ly]
 have keys:ys.map (·.1)=more.map (·.1):=fst_eq QmV
 have sl:(4000:Nat)<z20:=by rw[z55];decide
 unfold zp6
 rw[if_neg (by simpa using ne)]
 unfold zj1
 rw[if_neg (by rw[y2];exact z23)]
 refine z00 (z06 (z00 (z83 hoo hdo ?_)))
 have turn:∀(i:Nat) (h':Heap) (R:Unit->Shared->Prop),i<more.length->L2.Inv X pins σ (upd H d (.dT (QK kvs (more.take i)))) { s with heap:=h' }->h'.get? e=some oo->(∀h'',L2.Inv X pins σ (upd H d (.dT (QK kvs (more.take (i+1))))) { s with heap:=h'' }->h''.get? e=some oo->R () { s with heap:=h'' })->∀x,eso[i]? = some x->wpAny (model X.prog X.w) A (holding [x.key,x.val] (dictSetHashed d x.key x.hash x.val)) R E { s with heap:=h' }:=fun i h' R hi I' ho' k' x hx=>by
  obtain⟨y,ey,r1,r2,r3⟩:=Paired.get QmV (z03 hi)
  rw[← z13,hko,z31,ey] at hx
  cases hx
  obtain⟨y1,y2,y3⟩:=y
  dsimp only at r1 r2 r3
  subst r1
  have ml:=QaA (more.take i) kvs
  have mt:(more.take i).length<=more.length:=by rw[z39];omega
  refine z82 (QcN (H:=upd H d (.dT (QK kvs (more.take i)))) hu I' Ql (by rw[Qg (Qek r2 hd (fun z=>nomatch z))];exact r2) r3 (by omega) fun h'' I'' sb=>k' h'' ?_ ((sb.2 e (zg0 ne)).trans ho'))
  rw[Qej] at I''
  rw[QcM (z03 hi)]
  exact I''
 have QqK:upd H d (.dT kvs)=H:=by
  funext b
  by_cases c:b=d
  ·subst c;rw[Ql,hd]
  ·rw[Qg c]
 have base:L2.Inv X pins σ (upd H d (.dT (QK kvs (more.take 0)))) { s with heap:=s.heap }:=by
  show L2.Inv X pins σ (upd H d (.dT kvs)) s
  rw[QqK];exact I
 dsimp only
 split
 ·refine z00 (z83 hod hdd ?_)
  split
  ·rename_i hemp
   have hk0:kvs=[]:=by
    have h0:esd = #[]:=zy8.mp hemp
    have z:=congrArg zf8 hkd
    rw[h0,z14,← z73 rel] at z
    exact zc0.mp z.symm
   obtain⟨ps,ek',hg⟩:=g hk0
   subst hk0
   have ndp:ps.Nodup:=by
    rw[keys,ek'] at hno
    exact(z91.mp hno).imp fun h e=>h (by rw[e])
   have ndm:(more.map (·.1)).Nodup:=by rw[← keys];exact hno
   refine z00 ?_
   unfold Builtin.Dict.entriesForEmpty
   refine z00 (z83 hoo hdo ?_)
   rw[← zn6]
   refine z00 (zg1 _ (fun rest _ s'=>s'=s/\∀x∈rest,x∈eso.toList) _ ?_ ?_ _ _ ⟨rfl,fun _ z=>z⟩)
   ·rintro x rest r s' ⟨rfl,hall⟩
    have hx:=hall x z12
    obtain⟨b,ob,eb,ek,ec⟩:∃b ob,x.key=.ref b/\s'.heap.get? b=some ob/\ob.cls=.type "tuple" := by
     rw[hko] at hx
     obtain⟨y,hy,rfl⟩:=z87.mp hx
     obtain⟨j,hj⟩:=z75 hy
     have hjl:j<more.length:=by rw[← ly];exact(z17.mp hj).1
     obtain⟨y',ey,r1,r2,r3⟩:=Paired.get QmV (z03 hjl)
     rw[hj] at ey;cases ey
     obtain⟨_,its,rv,o,q1,q2,n,q3⟩:=(show QV X.prog X.w H s'.heap y.2.1 (.tup _) from I.hok _ _ r2)
     exact⟨_,o,rfl,q1,q2⟩
    rw[eb]
    unfold Builtin.Dict.quietEq
    refine z00 (z00 (zh2 ⟨ob,ek,ec⟩ PySem.F.slot_tuple_eq.lookup (z06 ?_)))
    rw[if_pos (by decide)]
    have pw:eso.toList.Pairwise fun a b=>a.hash≠b.hash:=by
     have z:eso.toList.map zp4=ps.map fun p=>tupleKeyHash (Qu X.prog X.w) (Q9 p):=by
      rw[hko,zb8,show(zp4∘entryOfKey (tupleKind (Qu X.prog X.w)))=(tupleKeyHash (Qu X.prog X.w))∘(·.1) from rfl,← zb8,keys,ek',zb8];rfl
     have z2:(eso.toList.map zp4).Pairwise (·≠·):=by
      rw[z,z91]
      exact zo1 (fun{a b} ha hb h e=>h (Qhj (hg a ha) (hg b hb) e)) ndp
     exact z91.mp z2
    have le:=Qdt (h:=x.hash) pw
    rw[if_neg (by rw[← z42,zx2];omega)]
    exact z06 ⟨rfl,fun y hy=>hall y (z09 _ hy)⟩
   ·rintro r s' ⟨rfl,_⟩
    refine z06 ?_
    rw[Qd7 ndm] at k
    split
    ·have hto:eso.size<=z20+1:=by omega
     refine z00 (wpAny_updateDictKeysTo hod hdd (z06 (k _ ?_)) hto)
     refine VR (t':=s'.toks) I (by rw[hd];exact z59) (z65 ..) ⟨_,z68 _ hod (zi2 (zf2 hdd _))⟩ ⟨y1,z2,ys,Paired.imp' (fun p q ⟨r1,r2,r3⟩=>⟨r1,by rw[Qg (Qek r2 hd (fun z=>nomatch z))];exact r2,r3⟩) QmV,_,_,epd+1,z68 _ hod (zi2 (zf2 hdd _)),hcd.mapDictKeys _,zf2 hdd _,hko,hno⟩
    ·rename_i hne
     have h0:eso = #[]:=zy8.mp (by simpa using hne)
     have hm0:more=[]:=zc0.mp (by rw[← ls,h0];rfl)
     subst hm0
     refine z06 (k s'.heap ?_)
     exact base
  ·refine z00 (zf0 hoo hdo (z00 (z83 hoo hdo (z00 ?_))))
   rw[z86]
   simp only[zf3,Nat.sub_zero,zi8,Nat.div_one]
   refine zg1 _ (fun rest _ s'=>∃h' i,s'={ s with heap:=h' }/\rest=zm7 i (eso.size - i)/\i<=eso.size/\L2.Inv X pins σ (upd H d (.dT (QK kvs (more.take i)))) { s with heap:=h' }/\h'.get? e=some oo) _ ?_ ?_ _ _ ⟨s.heap,0,rfl,by simp,z49 _,base,hoo⟩
   ·rintro x rest b s' ⟨h',i,rfl,hr,hi,I',ho'⟩
    have hlt:i<eso.size:=by
     rcases z62 i eso.size with h|h
     ·exact h
     ·rw[zw4 h] at hr;cases hr
    rw[show eso.size - i=(eso.size - (i+1))+1 by omega,zh4] at hr
    injection hr with r1 r2
    subst r1
    refine z00 (z83 ho' hdo ?_)
    rw[z11 hlt]
    refine z00 (turn x h' _ (by omega) I' ho' (fun h'' I'' ho''=>z00 (zf0 ho'' hdo ?_)) _ (z11 hlt))
    rw[if_neg (by simp)]
    exact z06 ⟨h'',x+1,rfl,r2,hlt,I'',ho''⟩
   ·rintro b s' ⟨h',i,rfl,hr,hi,I',ho'⟩
    have hin:i=more.length:=by
     rcases z62 i eso.size with h|h
     ·rw[show eso.size - i=(eso.size - (i+1))+1 by omega,zh4] at hr;cases hr
     ·omega
    rw[hin,zc8] at I'
    exact z06 (k h' I')
 ·refine z00 (zf0 hoo hdo (z00 (z83 hoo hdo (z00 ?_))))
  rw[z86]
  simp only[zf3,Nat.sub_zero,zi8,Nat.div_one]
  refine zg1 _ (fun rest _ s'=>∃h' i,s'={ s with heap:=h' }/\rest=zm7 i (eso.size - i)/\i<=eso.size/\L2.Inv X pins σ (upd H d (.dT (QK kvs (more.take i)))) { s with heap:=h' }/\h'.get? e=some oo) _ ?_ ?_ _ _ ⟨s.heap,0,rfl,by simp,z49 _,base,hoo⟩
  ·rintro x rest b s' ⟨h',i,rfl,hr,hi,I',ho'⟩
   have hlt:i<eso.size:=by
    rcases z62 i eso.size with h|h
    ·exact h
    ·rw[zw4 h] at hr;cases hr
   rw[show eso.size - i=(eso.size - (i+1))+1 by omega,zh4] at hr
   injection hr with r1 r2
   subst r1
   refine z00 (z83 ho' hdo ?_)
   rw[z11 hlt]
   refine z00 (turn x h' _ (by omega) I' ho' (fun h'' I'' ho''=>z00 (zf0 ho'' hdo ?_)) _ (z11 hlt))
   rw[if_neg (by simp)]
   exact z06 ⟨h'',x+1,rfl,r2,hlt,I'',ho''⟩
  ·rintro b s' ⟨h',i,rfl,hr,hi,I',ho'⟩
   have hin:i=more.length:=by
    rcases z62 i eso.size with h|h
    ·rw[show eso.size - i=(eso.size - (i+1))+1 by omega,zh4] at hr;cases hr
    ·omega
   rw[hin,zc8] at I'
   exact z06 (k h' I')
end
theorem Qf0 {X:Cx}(hu:X.A.units+1<cLine):MtR X "dict.update" QqJ:=by
 intro pins s σ H x vs v us Q I rx rv h
 obtain⟨d,e,kvs,more,rfl,rfl,ne,hd,he,l,g,q⟩:=h
 cases rx
 obtain⟨u,rfl,ru⟩:=vals1 rv
 cases ru
 obtain⟨_,_,_,_,od,esd,epd,hod,hcd,_⟩:=(show QV X.prog X.w H s.heap d (.dT kvs) from I.hok d _ hd)
 obtain⟨_,y2,_,_,oo,eso,epo,hoo,hco,_⟩:=(show QV X.prog X.w H s.heap e (.dT more) from I.hok e _ he)
 have tyd:s.TypeIs (.ref d) "dict" := ⟨od,hod,hcd.1⟩
 have tye:s.TypeIs (.ref e) "dict" := ⟨oo,hoo,hco.1⟩
 refine zb2 zr4 tyd PySem.F.entry_dict_update ?_ (PySem.F.args_dict_update_2 _ _)
 unfold Builtin.«dict.update» Builtin.Dict.selfAndRest
 refine z00 (z00 (wpAny_notOrdered_dict tyd ?_))
 show wpAny _ _ (pure (d,[z32 e])) _ _ s
 refine z06 ?_
 show wpAny _ _ (zo8 "dict.update" d (.ref e) [] .none) _ _ s
 unfold zo8 Builtin.Dict.merge Builtin.Dict.readDirectly
 refine z00 (zn0 tye ?_)
 rw[if_neg (by decide)]
 refine z00 (z00 (z00 (zi0 tye isSubtype_dict_dict ?_)))
 simp only[zc3,z29,if_false]
 refine z00 (zh2 tye zj4.lookup (z06 ?_))
 simp only[beq_self_eq_true,if_true]
 refine z00 (z06 (Qhk (by have:=units_in1 (A:=X.A);omega) I ne hd he l g fun h' I'=>?_))
 show wpAny _ _ (Builtin.Dict.addKeywords d [] >>= _) _ _ _
 exact z00 (z06 (z06 ⟨.none,rfl,.non,_,I',rfl,q⟩))
end L2.Srt
namespace L2.Srt
open PySem L2
theorem Qd8:∀{more acc:List (List Key×V)},((acc++more).map (·.1)).Nodup->QK acc more=acc++more:=by
 intro more
 induction more with
 |nil=>intro acc _;simp[QK]
 |cons p r ih=>
  intro acc h
  have e:putK acc p.1 p.2=acc++[p]:=by
   unfold putK
   rw[if_neg]
   intro z
   obtain⟨x,hx,e⟩:=zq4.mp z
   have e:=of_decide_eq_true e
   rw[z50,z07] at h
   exact h.2.2 x.1 (zm8 hx) p.1 (by simp) e
  show QK (putK acc p.1 p.2) r=_
  rw[e,ih (by rw[z15];exact h),z15];rfl
end L2.Srt
namespace TL
open PySem PySem.Spec L2 L2.Srt
section
variable {X:Cx}{C:Cn}{E:XE}{p:Bool}{e:Expr}{m:ME}{pos:Pos}{rk:Kd}
def QmW (ks:List (List Key))(ds:List D):D->Option (List (List Key)×List D)
 |.nd (.dT ks2) ds2=>(Qb5 ks2).bind fun ps=>if(ks++ks2).Nodup/\ks.length+ks2.length<=4000/\ps.all inG=true/\D.QL ds=true/\D.QL ds2=true then some (ks++ks2,ds++ds2) else none
 |_=>none
def Qo1 (i:Nat)(m:ME):MS:=fun ρ=>(Rs.of (Qd3 ρ i)).bind fun _=>(m ρ).bind fun r=>(Rs.of (Qd3 r.2 i)).bind fun q=>(Rs.of (QmW q.2.1 q.2.2 r.1)).bind fun t=>.ok (.nx,r.2.set i (some (mkS q.1 (.nd (.dT t.1) t.2))))
theorem Qo2 {i:Nat}{x:Str}{np apos cpos:Pos}(hu:X.A.units+1<cLine)(hN:X.N[i]? = some x)(hv:Vis X.env.scope x)(he:PE X e (tX .V C p E m))(hs:swapsWith (.Call (.Attribute (.Name x np) "update" apos) [e] [] cpos) none pos.line X.env=pure false:=by rfl)
  (hbase:attributeBase (.Name x np) "update" X.env (eval (.Name x np) X.env)=eval (.Name x np) X.env:=by rfl) (hfew:((backTo cpos (starEach [e] X.env)).all (fun x=>!x.1) && (backToKw cpos (keywordEach [] X.env)).all (fun x=>x.1.isSome) && decide ([e].length+([]:List Keyword).length+(if([]:List Keyword).isEmpty then 0 else 1)<30))=true:=by rfl)
  (hline:(apos.endLine == cpos.line)=true:=by rfl) (hst:starEach [e] X.env=(false,eval e X.env)::starEach [] X.env:=by rfl) (hplain:(backTo cpos (starEach [] X.env)).any (·.1)=false:=by rfl) (hd:(x == ("__debug__" : Str))=false:=by decide) (hcd:(x == ("__classdict__" : Str))=false:=by decide) :
  PS X (.Expr (.Call (.Attribute (.Name x np) "update" apos) [e] [] cpos) pos) (tS rk C E (Qo1 i m)):=
 QQ (VJ (QeC zs7 zr4 PySem.F.type_dict_update (Qf0 hu) (Yh hN hv hd hcd) (Jp he YF hst) hbase hfew hline hst hplain) hs) fun D σ H ⟨F,ρ,fp,I,h⟩=>by
 obtain⟨q0,e0,h⟩:=h.split.of
 obtain⟨l0,vs0,f0,QdY,ex0,hl0,_⟩:=SI.Qha I rfl (Qa1 e0)
 refine⟨_,ex0,?_,F,ρ,[],fp,I,h.split.run.mono fun r hr F1 H1 fp1 v I1 n1 f1=>?_⟩
 ·exact .inr (.inr (.inl ⟨rfl,.inr ⟨_,hl0.2⟩⟩))
 obtain⟨q,eq,h2⟩:=hr.split.of
 obtain⟨t,et,h3⟩:=h2.split.of
 obtain⟨l,vs,f,rest,ex,hl,ol,pm,w,cl⟩:=SI.Qha I1 rfl (Qa1 eq)
 have el:l=l0:=by rw[ex0] at ex;cases ex;rfl
 subst el
 unfold QmW at et
 split at et
 ·rename_i ks2 ds2 ed
  obtain⟨ps,ek,et⟩:=z28.mp et
  split at et
  ·rename_i cnd
   obtain⟨c1,c2,c3,c4,c5⟩:=cnd
   cases et
   rw[ed] at f1
   obtain⟨ee,vs2,rfl,⟨g1,g2⟩,rl2⟩:=f1.inv
   have rl:=ol.rl c4
   have ef:f=[]:=ol.Qnm c4
   subst ef
   have lv:q.2.1.length=vs.length:=hl.1
   have ne:l≠ee:=fun z=>by
    have:=I1.ap l (pm.mem_iff.mpr (by simp))
    rw[z,g2] at this;cases this
   refine⟨l,ee,_,_,rfl,rfl,ne,hl.2,I1.fh _ _ g2,by rw[zr8,zr8];omega,fun _=>⟨ps,by rw[zk0 (by omega)];exact Qa8 ek,fun x hx=>z88.mp c3 x hx⟩,?_⟩
   have em:QK (q.2.1.zip vs) (ks2.zip vs2)=(q.2.1++ks2).zip (vs++vs2):=by
    rw[Qd8 (by rw[z50,zk0 (by omega),zk0 (by omega)];exact c1),zr6 lv]
   rw[em]
   exact h3 F1 _ σ _ n1.f (cl (t':=.dT _) (vs':=vs++vs2) ⟨by rw[z10,z10,lv,g1],Ql⟩ ((rl.app rl2).o (Qde c4 c5)) (pm.nodup_iff.mp I1.nd) (fun _ z=>nomatch z))
  ·cases et
 ·cases et
end
end TL
namespace TL
open PySem PySem.Spec L2
theorem hu8 {A:Around}{k:Nat}(hr:Y7 k A):A.units+8<cLine:=by have:=hr.units;omega
end TL
namespace TL
open PySem PySem.Spec L2 L2.Srt
def QjJ:List D->Bool
 | []=>true
 |.nd .lst es::ds=>decide (es.length<=4000) && QjJ ds
 |_=>false
def Qf1 (i t:Nat):MS:=fun ρ=>(Rs.of (QpH ρ i)).bind fun ds=>if i≠t/\t<ρ.length/\ds.length<=4000/\QjJ ds=true then(match ρ[t]? with|some none=>.ok (.nx,ρ.set i none)|_=>.no) else .no
theorem Qf2 {K:z02}{F H:Hp}:∀{vs:List L2.V} {ds:List D} {f:List Addr},OL K F H vs ds f->QjJ ds=true->∀v∈vs,∃a us,v=.ref a/\a∈f/\H a=some (.lst us)/\us.length<=4000
 |_,_,_,.nil,_,_,h=>nomatch h
 |_,_,_,.cons (d:=d) o r,hl,v,hv=>by
  cases d with
  |nd tg es=>
   cases tg with
   |lst=>
    obtain⟨l1,l2⟩:=z48.mp (show(decide (es.length<=4000) && QjJ _)=true from hl)
    rcases z26.mp hv with rfl|hv
    ·obtain⟨l,us,g,rfl,rfl,hH,ol⟩:=O.Qdm o
     exact⟨l,us,rfl,by simp,hH,by rw[ol.length];exact of_decide_eq_true l1⟩
    ·obtain⟨a,us,e1,e2,e3⟩:=Qf2 r l2 v hv
     exact⟨a,us,e1,z01 _ e2,e3⟩
   |_=>cases hl
  |_=>cases hl
section
variable {X:Cx}{C:Cn}{E:XE}{rk:Kd}{mu:MS}{pos:Pos}{tg l:Expr}{bst st2:Stmt}{rest:List Stmt}
theorem Qhl {i t:Nat}{n1 n2:Int}(hp:PassesOwn (model X.prog X.w) X.A X.env X.xe)(hc:X.calm=true)(hl:PE X l (Qgl i))(hg:PG X tg (VL t))(hb:PS X bst (Qgw (tBM X.K "list" Qco (Qgl t) (Qev (Qpe (Qev (tC (.int n1)) (Qev (tC (.int n2)) QkB))) QkB))))
  (ha:PS X st2 (Qgw (tBM X.K "list" Qco (Qgl i) (Qev (Qpf QkB) QkB)))) (hr:PSs X rest (tS rk C E mu)) (hs:∀x,foldedSetIterable l X.env x=pure x:=by intro _;rfl):PSs X (.For tg l [bst] [] pos::st2::rest) (tS rk C E (Qi0 (Qf1 i t) mu)):=
 QaU (QaF (Qhv hp hc (Qhz hl) hg (Qen hb) hs) (QaF ha hr)) fun D σ H ⟨F,ρ,fp,I,h⟩=>by
 have h:=h.split
 unfold Qf1 at h
 obtain⟨ds,e1,h2⟩:=h.split.of
 split at h2
 ·rename_i cnd
  obtain⟨nit,tl,l4,ll⟩:=cnd
  split at h2
  ·rename_i et
   have es:ρ[i]? = some (some (.own (.nd .lst ds))):=by
    unfold QpH at e1
    split at e1
    ·next q=>cases e1;exact q
    ·cases e1
   obtain⟨v,f,rest',ev,o,pm,J,w0,w1⟩:=I.Qje es
   obtain⟨l,vs,g,rfl,rfl,hH,ol⟩:=O.Qdm o
   have nd:=pm.nodup_iff.mp I.nd
   have lg:l∉g:=fun z=>(z53.mp (z07.mp nd).1).1 z
   have els:=Qf2 ol ll
   have len:vs.length=ds.length:=ol.length
   have tσ:t<σ.length:=by rw[I.len];exact tl
   refine⟨.ref l,ev,l,true,rfl,⟨vs,SqL.of hH⟩,fun j mm σ' H'=>mm=vs.length - j/\j<=vs.length/\(∃y,σ'=σ.set t y\/σ'=σ)/\H' l=some (.lst vs)/\(∀v∈vs,∃a us,v=.ref a/\a∈g/\H' a=some (.lst us)/\us.length<=4000+j)/\(∀b o,H b=some o->b∉l::g->H' b=some o)/\(∀b,H' b=none->H b=none),⟨vs.length,by simp,z49 _,⟨none,.inr rfl⟩,hH,els,fun b o e _=>e,fun b e=>e⟩,?_⟩
   rintro j mm σ2 H2 ⟨rfl,hj,⟨y,hσ⟩,hl2,el2,k2,f2⟩
   have sq2:SqL X.K H2 l vs:=SqL.of hl2
   have tσ2:t<σ2.length:=by rcases hσ with rfl|rfl<;>simp[tσ]
   by_cases hlt:j<vs.length
   ·refine .inr ⟨⟨vs,vs[j],sq2,z03 hlt⟩,fun σ' H'=>j+1<=vs.length/\(∃y,σ'=σ.set t y\/σ'=σ)/\H' l=some (.lst vs)/\(∀v∈vs,∃a us,v=.ref a/\a∈g/\H' a=some (.lst us)/\us.length<=4000+(j+1))/\(∀b o,H b=some o->b∉l::g->H' b=some o)/\(∀b,H' b=none->H b=none),fun σ' H' z=>⟨_,by omega,rfl,z⟩,fun x H' hy=>?_⟩
    obtain⟨e4,e5⟩:=hy
    subst e4
    have e6:=e5 vs sq2
    rw[z03 hlt] at e6
    cases e6
    obtain⟨a,us,ea,ag,hHa,lu⟩:=el2 vs[j] (List.getElem_mem hlt)
    show Qgw _ _ (σ2.set t (some vs[j])) H'
    refine⟨vs[j],z64 tσ2,?_,?_⟩
    ·rw[ea];exact .inl ⟨rfl,us,SqL.of hHa⟩
    refine⟨by rw[z55];simp,fun q hq=>?_⟩
    rw[ea]
    have aq:a≠q:=Qm hHa hq
    have lq:l≠q:=Qm hl2 hq
    have la:l≠a:=fun z=>lg (z▸ag)
    refine⟨a,us,.ref q,rfl,rfl,by rw[Qg aq];exact hHa,by rw[z55];omega,hlt,⟨some (.ref a),.inl ?_⟩,?_,fun v hv=>?_,fun b o e n=>?_,fun b e=>?_⟩
    ·rcases hσ with rfl|rfl
     ·rw[zp3]
     ·rfl
    ·rw[Qg la,Qg lq];exact hl2
    ·obtain⟨a',us',e',ag',hH',lu'⟩:=el2 v hv
     by_cases c:a'=a
     ·subst c
      rw[hHa] at hH';cases hH'
      exact⟨a',_,e',ag',Ql,by rw[z10];simp;omega⟩
     ·exact⟨a',us',e',ag',by rw[Qg c,Qg (Qm hH' hq)];exact hH',by omega⟩
    ·have nb:b≠a:=fun z=>n (z09 _ (z▸ag))
     rw[Qg nb,Qg (Qm (k2 b o e n) hq)];exact k2 b o e n
    ·by_cases c:b=a
     ·subst c;rw[Ql] at e;cases e
     ·rw[Qg c] at e
      by_cases c':b=q
      ·subst c';rw[Ql] at e;cases e
      ·rw[Qg c'] at e;exact f2 b e
   ·refine .inl ⟨⟨vs,sq2,by omega⟩,?_⟩
    have evi:σ2[i]? = some (some (.ref l)):=by
     rcases hσ with rfl|rfl
     ·rw[z57 (fun z=>nit z.symm)];exact ev
     ·exact ev
    refine⟨.ref l,evi,.inl ⟨rfl,vs,sq2⟩,by rw[z55];simp,fun q hq=>?_⟩
    have lq:l≠q:=Qm hl2 hq
    refine⟨l,vs,.ref q,rfl,rfl,by rw[Qg lq];exact hl2,by rw[z55];omega,?_⟩
    have etn:(ρ.set i none)[t]? = some none:=by rw[z57 nit];exact et
    have lr:∀a∈rest',a∉l::g:=fun a ha z=>(z07.mp nd).2.2 a z a ha rfl
    have H3:∀b o,H b=some o->b∉l::g->upd (upd H2 q (.lst [])) l (.lst (vs++[.ref q])) b=some o:=fun b o e n=>by
     have e2:=k2 b o e n
     rw[Qg (fun z=>n (by rw[z];simp)),Qg (Qm e2 hq)];exact e2
    have J2:=J.step (F':=F) (H':=upd (upd H2 q (.lst [])) l (.lst (vs++[.ref q]))) (Qn.refl _) (fun b o e=>H3 b o (I.fh b o e) fun z=>by rw[w1 b z] at e;cases e) (fun a ha=>by
     obtain⟨o,e,_⟩:=J.mem a ha
     rw[H3 a o e (lr a ha),e]) J.ap (fun b o e=>.inl e) (fun b o e _ e2=>H3 b o e2 fun z=>by rw[w0 b z] at e;cases e) (fun b e=>by
     by_cases c:b=l
     ·subst c;rw[Ql] at e;cases e
     ·rw[Qg c] at e
      by_cases c':b=q
      ·subst c';rw[Ql] at e;cases e
      ·rw[Qg c'] at e;exact f2 b e)
    obtain⟨x0,f0,g0,rr,ex0,s1,pm2,w2,w3,cl⟩:=J2.cut etn
    have fin:∃fp',SI C F (upd (upd H2 q (.lst [])) l (.lst (vs++[.ref q]))) σ2 (ρ.set i none) [] fp':=by
     rcases hσ with rfl|rfl
     ·cases s1
      have K:=cl (x':=y) (s':=none) (f0':=[]) (g0':=[]) (Qn.refl _) J2.fh (fun _ _=>rfl) (fun b e=>e) (fun b o _ _ e=>e) (fun b o e=>.inl e) .non (by simpa using pm2.nodup_iff.mp J2.nd) (fun a ha=>J2.ap a (pm2.mem_iff.mpr (by simpa using ha))) (fun _ z=>nomatch z) (fun _ z=>nomatch z) (fun v hv=>by
       obtain⟨_,d,e⟩:=J2.pr t v hv
       rw[etn] at e;cases e)
      rw[show(ρ.set i none).set t none=ρ.set i none by
       apply ze4
       intro k
       by_cases c:k=t
       ·subst c;rw[z64 (by rw[zg2];exact tl),etn]
       ·rw[z57 (zg0 c)]] at K
      exact⟨_,K⟩
     ·exact⟨_,J2⟩
    obtain⟨fp',K⟩:=fin
    exact⟨F,_,fp',K,h2.mono fun q z=>z⟩
  ·exact h2.elim
 ·exact h2.elim
end
end TL
namespace TL
open PySem L2 L2.Srt
abbrev P2:=Int×Int
def nb (p:P2):List P2:=[(p.1 - 1,p.2),(p.1,p.2 - 1),(p.1,p.2+1),(p.1+1,p.2)]
theorem QmX {p q:P2}:q∈nb p↔(q.1=p.1 - 1/\q.2=p.2)\/(q.1=p.1/\q.2=p.2 - 1)\/(q.1=p.1/\q.2=p.2+1)\/(q.1=p.1+1/\q.2=p.2):=by
 obtain⟨a,b⟩:=p
 obtain⟨c,d⟩:=q
 simp only[nb,z26,List.not_mem_nil,or_false,Prod.mk.injEq]
theorem Qh0 {p q:P2}(h:q∈nb p):p∈nb q:=by
 rw[QmX] at h ⊢
 omega
inductive Rch (cs:List P2) (p:P2):P2->Prop
 |base:Rch cs p p
 |step {q r:P2} (h:Rch cs p q) (n:r∈nb q) (m:r∈cs):Rch cs p r
theorem Rch.trans {cs:List P2}{p q r:P2}(h:Rch cs p q)(h':Rch cs q r):Rch cs p r:=by
 induction h' with
 |base=>exact h
 |step _ n m ih=>exact .step ih n m
theorem Rch.mem {cs:List P2}{p q:P2}(h:Rch cs p q)(hp:p∈cs):q∈cs:=by
 cases h with
 |base=>exact hp
 |step _ _ m=>exact m
theorem Rch.sym {cs:List P2}{p q:P2}(h:Rch cs p q)(hp:p∈cs):Rch cs q p:=by
 induction h with
 |base=>exact .base
 |step h n m ih=>exact(Rch.step .base (Qh0 n) (h.mem hp)).trans ih
theorem Rch.congr {cs cs':List P2}(e:∀q,q∈cs↔q∈cs'){p q:P2}(h:Rch cs p q):Rch cs' p q:=by
 induction h with
 |base=>exact .base
 |step _ n m ih=>exact .step ih n ((e _).mp m)
theorem Qdu {l r:List P2}(hl:l.Nodup)(hr:r.Nodup)(h:∀x,x∈l↔x∈r):l.Perm r:=by
 rw[z79]
 intro a
 by_cases c:a∈l
 ·rw[hl.count,hr.count,if_pos c,if_pos ((h a).mp c)]
 ·rw[zd1 c,zd1 (fun z=>c ((h a).mpr z))]
theorem QjK {l r:List P2}(hl:l.Nodup)(hr:r.Nodup)(h:∀x,x∈l↔x∈r):Qaq ltP l=Qaq ltP r:=
 Vj Vf (JZ Vf hl) (JZ Vf hr) ((Qs l).trans ((Qdu hl hr h).trans (Qs r).symm))
def QB (ps:List P2):List P2:=Qaq ltP (upTo ps)
theorem Qdv {ps:List P2}{q:P2}:q∈QB ps↔q∈ps:=((Qs _).mem_iff).trans (Vz ps q)
theorem Qf3 (ps:List P2):(QB ps).Nodup:=(Qs _).nodup_iff.mpr (Yr ps)
theorem Qa9 (ps:List P2):(QB ps).length<=ps.length:=by rw[QB,(Qs _).length_eq];exact YL ps
theorem Qd9 {ps qs:List P2}(h:∀q,q∈ps↔q∈qs):QB ps=QB qs:=QjK (Yr _) (Yr _) fun x=>by rw[Vz,Vz];exact h x
open Classical in
noncomputable def cmp (cs:List P2)(p:P2):List P2:=Qaq ltP (cs.filter fun q=>decide (Rch cs p q))
theorem Vk {cs:List P2}{p q:P2}(hp:p∈cs):q∈cmp cs p↔Rch cs p q:=by
 unfold cmp
 rw[(Qs _).mem_iff,zl1]
 exact⟨fun h=>@of_decide_eq_true _ (zr1 _) h.2,fun h=>⟨h.mem hp,@decide_eq_true _ (zr1 _) h⟩⟩
theorem Qh1 {cs:List P2}(h:cs.Nodup)(p:P2):(cmp cs p).Nodup:=(Qs _).nodup_iff.mpr (h.filter _)
theorem Qh2 {cs fs:List P2}{p:P2}(h:cs.Nodup)(hp:p∈cs)(hf:fs.Nodup)(hm:∀q,q∈fs↔Rch cs p q):Qaq ltP fs=cmp cs p:=
 Vj Vf (JZ Vf hf) (JZ Vf (h.filter _)) ((Qs fs).trans ((Qdu hf ((Qs _).nodup_iff.mp (Qh1 h p)) fun x=>(hm x).trans ((Vk hp).symm.trans (Qs _).mem_iff)).trans (Qs _).symm))
theorem QjL {cs:List P2}(p:P2):(cmp cs p).length<=cs.length:=by
 unfold cmp
 rw[(Qs _).length_eq];exact List.length_filter_le _ _
noncomputable def YW (cs:List P2)(a:List (List P2)×List P2)(p:P2):List (List P2)×List P2:=if p∈a.2 then a else(a.1++[cmp cs p],a.2++cmp cs p)
noncomputable def Qdw (cs:List P2)(l:List P2):List (List P2)×List P2:=l.foldl (YW cs) ([],[])
noncomputable def shp (ps:List P2):List (List P2):=(Qdw (QB ps) (QB ps)).1
theorem Qb7 {cs l:List P2}{i:Nat}{p:P2}(h:l[i]? = some p):Qdw cs (l.take (i+1))=YW cs (Qdw cs (l.take i)) p:=by
 unfold Qdw
 rw[zt5,h,zm5,zo7];rfl
structure Cl (cs S:List P2):Prop where
 sub:∀q∈S,q∈cs
 cl:∀q∈S,∀r,Rch cs q r->r∈S
 nd:S.Nodup
theorem Cl.step {cs S:List P2}{acc:List (List P2)}{p:P2}(c:Cl cs S)(hn:cs.Nodup)(hp:p∈cs):Cl cs (YW cs (acc,S) p).2:=by
 unfold YW
 split
 ·exact c
 ·rename_i np
  refine⟨fun q hq=>?_,fun q hq r h=>?_,z07.mpr ⟨c.nd,Qh1 hn p,fun a ha b hb e=>?_⟩⟩
  ·rcases z04.mp hq with hq|hq
   ·exact c.sub q hq
   ·exact((Vk hp).mp hq).mem hp
  ·rcases z04.mp hq with hq|hq
   ·exact z08 _ (c.cl q hq r h)
   ·exact z01 _ ((Vk hp).mpr (((Vk hp).mp hq).trans h))
  ·subst e
   exact np (c.cl a ha p (((Vk hp).mp hb).sym hp))
theorem Cl.run {cs:List P2}(hn:cs.Nodup):∀(l:List P2),(∀p∈l,p∈cs)->Cl cs (Qdw cs l).2:=by
 intro l hl
 have:∀(l:List P2) (a:List (List P2)×List P2),(∀p∈l,p∈cs)->Cl cs a.2->Cl cs (l.foldl (YW cs) a).2:=by
  intro l
  induction l with
  |nil=>intro a _ c;exact c
  |cons p l ih=>intro a hl c;exact ih _ (fun q hq=>hl q (z09 _ hq)) (c.step hn (hl p z12))
 exact this l _ hl ⟨fun _ z=>(nomatch z),fun _ z=>(nomatch z),.nil⟩
theorem Vl {cs:List P2}:∀(l:List P2),(Qdw cs l).1.length<=l.length/\∀s∈(Qdw cs l).1,s.length<=cs.length:=by
 have:∀(l:List P2) (a:List (List P2)×List P2),(∀s∈a.1,s.length<=cs.length)->(l.foldl (YW cs) a).1.length<=a.1.length+l.length/\∀s∈(l.foldl (YW cs) a).1,s.length<=cs.length:=by
  intro l
  induction l with
  |nil=>intro a h;exact⟨z18 _,h⟩
  |cons p l ih=>
   intro a h
   have z:=ih (YW cs a p) (by
    unfold YW
    split
    ·exact h
    ·intro s hs
     rcases z04.mp hs with hs|hs
     ·exact h s hs
     ·rw[z19.mp hs];exact QjL p)
   refine⟨?_,z.2⟩
   have:(YW cs a p).1.length<=a.1.length+1:=by
    unfold YW
    split
    ·omega
    ·rw[z10];exact z18 _
   have z1:=z.1
   rw[zd8,z25]
   omega
 intro l
 have:=this l ([],[]) (fun _ z=>nomatch z)
 simpa[Qdw] using this
theorem sub_len {l r:List P2}(hl:l.Nodup)(h:∀x∈l,x∈r):l.length<=r.length:=by
 induction l generalizing r with
 |nil=>exact z49 _
 |cons a l ih=>
  obtain⟨n,nd⟩:=z53.mp hl
  have:=ih (r:=r.erase a) nd fun x hx=>(zw8 (fun e=>n (by rw[← e];exact hx))).mpr (h x (z09 _ hx))
  have ha:=h a z12
  rw[zu2 ha] at this
  have:=zv4 ha
  rw[z25];omega
def dct (ks:List P2)(f:P2->Bool):D:=.nd (.dT (ks.map Q9)) (ks.map fun q=>.bl (f q))
theorem YX {p q:P2}(h:Q9 p=Q9 q):p=q:=by
 unfold Q9 at h
 simp at h
 exact zx9 h.1 h.2
theorem Qae {p:P2}:Qd2 (pl p)=some (Q9 p):=rfl
theorem QcO {ks:List P2}{p:P2}:((ks.map Q9).any fun x=>decide (x=Q9 p))=decide (p∈ks):=by
 by_cases h:p∈ks
 ·rw[decide_eq_true h,zq4]
  exact⟨Q9 p,zm8 h,by simp⟩
 ·rw[decide_eq_false h,List.any_eq_false]
  intro x hx e
  obtain⟨q,hq,rfl⟩:=z87.mp hx
  exact h (YX (of_decide_eq_true e)▸hq)
theorem Qhm {ks:List P2}{f:P2->Bool}{p:P2}:QlE (pl p) (dct ks f)=some (decide (p∈ks)):=by
 show(Qd2 (pl p)).map (fun k=>(ks.map Q9).any fun x=>decide (x=k))=_
 rw[Qae,zf9,QcO]
theorem Qba (ks:List P2)(f:P2->Bool):D.QL (ks.map fun q=>D.bl (f q))=true:=by
 induction ks with
 |nil=>rfl
 |cons k ks ih=>rw[z30];show(true && D.QL _)=true;rw[ih];rfl
theorem Qdx {f:P2->Bool}{p:P2}:∀{ks:List P2},QfK (ks.map Q9) (ks.map fun q=>D.bl (f q)) (Q9 p)=if p∈ks then some (.bl (f p)) else none
 | []=>rfl
 |k::ks=>by
  rw[z30,z30,QfK]
  by_cases e:k=p
  ·subst e;rw[if_pos rfl,if_pos z12]
  ·rw[if_neg fun z=>e (YX z),Qdx]
   have:p∈k::ks↔p∈ks:=by rw[z26];exact⟨fun h=>h.resolve_left (fun z=>e z.symm),.inr⟩
   by_cases c:p∈ks
   ·rw[if_pos c,if_pos (this.mpr c)]
   ·rw[if_neg c,if_neg fun z=>c (this.mp z)]
def QjM (f:P2->Bool)(p:P2)(b:Bool):P2->Bool:=fun q=>if q=p then b else f q
theorem Qdy {ks:List P2}{f:P2->Bool}{p:P2}{b:Bool}(h:p∈ks):putD (ks.map Q9) (ks.map fun q=>D.bl (f q)) (Q9 p) (.bl b)=(ks.map Q9,ks.map fun q=>D.bl (QjM f p b q)):=by
 unfold putD
 rw[if_pos (by rw[QcO];exact decide_eq_true h)]
 refine zx9 rfl ?_
 show zb7 _ _ _=_
 clear h
 induction ks with
 |nil=>rfl
 |cons k ks ih=>
  rw[z30,z30,za4,z30,ih]
  congr 1
  unfold QjM
  by_cases e:k=p
  ·rw[if_pos (by rw[e]),if_pos e]
  ·rw[if_neg fun z=>e (YX z),if_neg e]
theorem Qhn {ks:List P2}{p:P2}(h:p∉ks):putD (ks.map Q9) (ks.map fun _=>D.bl true) (Q9 p) (.bl true)=((ks++[p]).map Q9,(ks++[p]).map fun _=>D.bl true):=by
 unfold putD
 rw[if_neg (by rw[QcO,decide_eq_false h];exact z23),z50,z50];rfl
theorem QjN {ks:List P2}{p:P2}:(D.nd (.dT (putD (ks.map Q9) (ks.map fun _=>D.bl true) (Q9 p) (.bl true)).1) (putD (ks.map Q9) (ks.map fun _=>D.bl true) (Q9 p) (.bl true)).2)=dct (Ji ks p) fun _=>true:=by
 unfold Ji
 by_cases h:p∈ks
 ·rw[if_pos h,Qdy (f:=fun _=>true) h]
  unfold dct QjM
  congr 1
  exact zf7 fun q _=>by split<;>rfl
 ·rw[if_neg h,Qhn h];rfl
end TL
namespace TL
open PySem PySem.Spec L2 L2.Srt
section
variable {s:Option Sl}{ρ ρ1 ρ2:Rho}{k:D×Rho->Prop}{kf:Fl×Rho->Prop}{a b m:ME}{mt:MT}{mr:MA}{mb:MS}{d x y:D}{xs:List D}{i:Nat}{c:Bool}
theorem Qb8 {r:Fr}{d:D}{os:List D}(h:FW r fun a b=>a=d/\b=os):r=.ok d os:=by obtain⟨a,b,e,rfl,rfl⟩:=h;exact e
theorem QmY:W (Qoa m (s::ρ)) kf↔W (m (s::ρ)) fun r=>kf (.nx,r.2):=by
 show W ((m (s::ρ)).bind fun r=>.ok (.nx,r.2)) kf↔_
 simp only[Qi,Qd4]
def nvK (r:D×Rho):Rs (D×Rho):=Rs.of ((asB r.1).map fun b=>(.bl (!b),r.2))
theorem QmZ:nvK (.bl c,ρ)=.ok (.bl (!c),ρ):=rfl
theorem Qm0:W (Qn6 m (s::ρ)) k↔W (m (s::ρ)) fun r=>W (nvK r) k:=Qi
theorem Qo3 {tg:D->Rho->Option Rho}:W (QpG tg m (s::ρ)) kf↔W (m (s::ρ)) fun r=>W (Rs.of (tg r.1 r.2)) fun ρ'=>kf (.nx,ρ'):=by
 show W ((m (s::ρ)).bind fun r=>(Rs.of (tg r.1 r.2)).bind fun ρ'=>.ok (.nx,ρ')) kf↔_
 simp only[Qi,Qd4]
theorem QjO {i j:Nat}:Qob i j (.nd .tup [x,y]) ρ=(YC ρ i x).bind fun ρ1=>YC ρ1 j y:=rfl
def QpK (k:Addr)(nm:Str)(r:D×Rho):Rs (D×Rho):=if QjB k nm r.1=true then .ok r else .no
theorem QjP {a:Addr}{nm:Str}:QpK a nm (d,ρ)=if QjB a nm d=true then .ok (d,ρ) else .no:=rfl
theorem Qo4 {a:Addr}{nm:Str}:W (QqC a nm m (s::ρ)) k↔W (m (s::ρ)) fun r=>W (QpK a nm r) k:=Qi
theorem Qo5 {a:Addr}{f:Str}:QqB a f (.nd (.ins a [f]) [d])=some d:=by
 show(if a=a then QjA [f] [d] f else none)=_
 rw[if_pos rfl]
 show(if(f == f)=true then some d else _)=_
 rw[if_pos (by simp)]
theorem Qo6 {par:Bool}(hi:ρ[i]? = some (some (mkS par (.lst (xs++[d])))))(hm:D.QL (xs++[d])=true)(h:k (d,ρ.set i (some (mkS par (.lst xs))))):W (QoR i ρ) k:=by
 have e1:Ys ρ i=some (par,xs++[d]):=by unfold Ys;rw[hi];cases par<;>rfl
 refine⟨_,?_,h⟩
 unfold QoR
 rw[e1]
 show((Rs.of ((xs++[d])[(xs++[d]).length - 1]?)).bind fun y=>if D.QL (xs++[d])=true then .ok (y,ρ.set i (some (mkS par (.lst (xs++[d]).dropLast)))) else .no)=_
 have e2:(xs++[d])[(xs++[d]).length - 1]? = some d:=by simp
 rw[e2]
 show(if D.QL (xs++[d])=true then Rs.ok (d,ρ.set i (some (mkS par (.lst (xs++[d]).dropLast)))) else .no)=_
 rw[if_pos hm,List.dropLast_concat]
theorem Qf4 {N n:Nat}(Inv:Nat->Rho->Prop)(step:∀n ρ,Inv n ρ->W (mt ρ) fun c=>(c.1=true->W (mb c.2) fun r=>r.1=.nx/\∃n',n' < n/\Inv n' r.2)/\(c.1=false->kf (.nx,c.2)))(h:Inv n ρ)(hn:n<N):W (QhM N mt mb ρ) kf:=by
 show W (whl mt mb N ρ) kf
 induction N generalizing n ρ with
 |zero=>omega
 |succ N ih=>
  obtain⟨⟨c,ρ1⟩,e,h1,h2⟩:=step n ρ h
  unfold whl
  rw[e]
  show W (if c=true then _ else _) kf
  cases c with
  |false=>rw[if_neg (by decide)];exact Qd4.mpr (h2 rfl)
  |true=>
   rw[if_pos rfl]
   obtain⟨⟨f,ρ2⟩,e2,e3,n',hn',hi⟩:=h1 rfl
   have e3:f=.nx:=e3
   subst e3
   rw[e2]
   exact ih hi (by omega)
def QqL (r:D×Rho):Rs (D×Rho):=(Rs.of (QfJ r.1)).bind fun ps=>if ps.length<=4000 then .ok (.lst ((Qaq Qpp ps).map pnD),r.2) else .no
theorem QjQ:W (QmG m (s::ρ)) k↔W (m (s::ρ)) fun r=>W (QqL r) k:=Qi
def QqM (r:List D×Rho):Rs (D×Rho):=(Rs.of (QfI r.1)).bind fun ps=>.ok (.lst (ps.map npD),r.2)
theorem QjR:W (QmE mr (s::ρ)) k↔W (mr (s::ρ)) fun r=>W (QqM r) k:=Qi
end
def sbK (r:D×Rho):Rs (List D×Rho):=(Rs.of (QdX [r.1])).bind fun ds=>if D.QL ds=true then .ok (ds,r.2) else .no
theorem Qm1 {m:ME}{s:Option Sl}{ρ:Rho}{ka:List D×Rho->Prop}:W (QoT m (s::ρ)) ka↔W (m (s::ρ)) fun r=>W (sbK r) ka:=Qi
theorem QqN {xs:List D}{i:Int}:gIx (.nd .lst xs) (.int i)=atI xs i:=rfl
theorem QqO {xs:List D}{i:Int}:gIx (.nd .tup xs) (.int i)=atI xs i:=rfl
theorem Qo7 {xs:List D}:Qjb [.nd .lst xs]=some (.int xs.length):=rfl
theorem Qo8 {xs:List D}:Qjb [.nd .tup xs]=some (.int xs.length):=rfl
theorem Qm2 {n:Nat}{i:Int}(h0:0<=i)(h1:i<n):ixN n i=some i.toNat:=by
 unfold ixN
 simp only[h0,h1]
 simp
theorem Qf5 {α:Type}(f:α->D)(d:α){xs:List α}{i:Int}(h0:0<=i)(h1:i<xs.length):atI (xs.map f) i=some (f (xs.getD i.toNat d)):=by
 unfold atI
 rw[z14,Qm2 h0 h1]
 show(xs.map f)[i.toNat]? = _
 have:i.toNat<xs.length:=by omega
 rw[z31,z03 this,z22,z03 this];rfl
end TL
namespace TL
open PySem PySem.Spec L2
section
variable {s:Option Sl}{ρ:Rho}{k:D×Rho->Prop}{m:ME}{mr:MA}
def rvK (r:D×Rho):Rs (D×Rho):=(Rs.of (asL r.1)).bind fun xs=>if D.QL xs.reverse=true then .ok (.lst xs.reverse,r.2) else .no
theorem Qm3 {xs:List D}:rvK (.nd .lst xs,ρ)=if D.QL xs.reverse=true then .ok (.lst xs.reverse,ρ) else .no:=rfl
theorem Qm4:W (QoU m (s::ρ)) k↔W (m (s::ρ)) fun r=>W (rvK r) k:=Qi
def lrK (r:List D×Rho):Rs (D×Rho):=(Rs.of (QcC r.1)).bind fun n=>if n.toNat<=2 ^ 24 then .ok (.lst (QpF 0 n.toNat),r.2) else .no
theorem QjS:W (QmH mr (s::ρ)) k↔W (mr (s::ρ)) fun r=>W (lrK r) k:=Qi
def tpK (ks:List Kd)(r:List D×Rho):Rs (D×Rho):=(Rs.of (Qhb ks r.1 r.2)).bind fun q=>if q.1.length<=z20 then .ok (.tup q.1,q.2) else .no
theorem Qm5 {ks:List Kd}:W (Qot ks mr (s::ρ)) k↔W (mr (s::ρ)) fun r=>W (tpK ks r) k:=Qi
theorem QjT {md my mx:ME}{ks:List (List Key)}{ds:List D}{y x d:D}{ρ:Rho}(h1:md ρ=.ok (.nd (.dT ks) ds,ρ))(h2:my ρ=.ok (y,ρ))(h3:mx ρ=.ok (x,ρ))(h4:Qnv (ks,ds) y x=some d):Qhc md my mx ρ=.ok (d,ρ):=by
 unfold Qhc
 have e1:Qnu (.nd (.dT ks) ds)=some (ks,ds):=rfl
 simp only[h1,h2,h3,h4,e1,Rs.bind,Rs.of,zf9]
end
end TL
namespace G72
open PySem PySem.Spec L2 TL
structure Z where
 K:z02
def top (i:Nat):Stmt:=PySem.Challenge.pw_glowcells_k72_whole_shapes.main.body.getD i (.Pass ⟨0,0,0,0⟩)
structure Con (z:Z)(y:Y):Prop where
 len:y.mg "len" = none
 Qm6:y.mg "list" = none
 range:y.mg "range" = none
 repr:y.mg "repr" = none
 QqP:y.mg "set" = none
 sorted:y.mg "sorted" = none
 tuple:y.mg "tuple" = none
 dummy:True
noncomputable section
set_option hygiene false in
local macro_rules
 | `($x^^^$y)=>`(Y7.mono $x (by decide))
 | `($x <<< $y)=>`(fnU (N:=$x) F ⟨rfl,rfl,rfl,by decide +kernel,rfl,by decide +kernel,by decide +kernel⟩ rfl (.inl rfl) fun hC hr hd S hown=>$y)
 | `($x ||| $y)=>`(QqT (N:=$x) F ⟨rfl,rfl,rfl,by decide +kernel,rfl,by decide +kernel,by decide +kernel⟩ rfl (.inl rfl) fun hC hr S=>$y)
 | `($x >>> $y)=>`(fnU (N:=$x) F ⟨rfl,rfl,rfl,by decide +kernel,rfl,by decide +kernel,by decide +kernel⟩ rfl (.inr rfl) fun hC hr hd S hown=>$y)
def Qbb (z:Z):Dg z.K (Con z) "around" (top 1)  1 ["place"] [false] .O 3 fun _ R=>R:=
 ⟨_,fun con F  => ["place","row","column"] >>> (Qk (QT (i:=1) S rfl (z46 rfl) (QiY hC (xv 0) Qh))
  (Qk (QT (i:=2) S rfl (z46 rfl) (QiY hC (xv 0) Qh))
  (QH (JW (YQ (QhY (Yi (QfN (JM Qbr QlA (xv 1) Qh) (Qd (xv 2) Qf))) (QhY (Yi (Qd (xv 1) (QfN (JM Qbr QlA (xv 2) Qh) Qf))) (QhY (Yi (Qd (xv 1) (QfN (JM Q3 Qbk (xv 2) Qh) Qf))) (QhY (Yi (QfN (JM Q3 Qbk (xv 1) Qh) (Qd (xv 2) Qf))) Qf)))))))))⟩
def Qdz (z:Z):List D->Fr:=Qam [false] 3 (Qbb z).1
abbrev QdA (z:Z)(y:Y):Prop:=Tf z.K y 1 "around" ["place"] [false] .O (Qdz z)
def Jv (z:Z):Dg z.K (Con z) "_law_cell" (top 6)  1 ["_law_script","_law_k"] [false,false] .V 2 fun _ R=>R:=
 ⟨_,fun con F  => ["_law_script","_law_k"] <<< (QH (JW (Qn8 (JV QgA dLt (xv 1) (V5 QaG (Qol hC) con.len zs5 (Qd (xv 0) Qf)) (Jc _)) (QiY hC (xv 0) (xv 1)) Qh)))⟩
def Qaf (z:Z):List D->Fr:=Qam [false,false] 2 (Jv z).1
abbrev Qag (z:Z)(y:Y):Prop:=Tf z.K y 1 "_law_cell" ["_law_script","_law_k"] [false,false] .V (Qaf z)
def Yu (z:Z):Dg z.K (Con z) "_law_rich" (top 7)  1 ["_law_cell_here"] [false] .V 4 fun _ R=>R:=
 ⟨_,fun con F  => ["_law_cell_here","_law_number","_law_k","_law_mixed"] <<< (Qk (QT (i:=1) S rfl (z46 rfl) Qh)
  (Qk (QaW hown rfl (QcD con.range (Qnw Qh Qf)) (QW (i:=2) S rfl (z46 rfl)) Jt (Qk (QT (i:=3) S rfl (z46 rfl) (JM QcU Qnr (JM Q3 Qbk (JM Q3 Qbk (JM Q3 Qbk (JM Vm QhP (JM QcU Qnr (xv 0) Qh) Qh) (JM Vm QhP (JM Vm QhP (xv 2) (xv 2)) Qh)) (JM Vm QhP Qh (xv 2))) Qh) Qh))
  (QH (QT (i:=1) S rfl (z46 rfl) (JM Q3 Qbk (JM Vm QhP (xv 1) Qh) (JM QcU Qnr (JM Q3 Qbk (JM Q3 Qbk (JM Vm QhP (xv 3) (xv 3)) (JM Vm QhP Qh (xv 3))) (xv 2)) Qh))))))
  (QH (JW (xv 1)))))⟩
def Jw (z:Z):List D->Fr:=Qam [false] 4 (Yu z).1
abbrev Yv (z:Z)(y:Y):Prop:=Tf z.K y 1 "_law_rich" ["_law_cell_here"] [false] .V (Jw z)
def Jx (z:Z):Dg z.K (Con z) "_law_around" (top 12)  1 ["_law_place"] [false] .O 3 fun _ R=>R:=
 ⟨_,fun con F  => ["_law_place","_law_r","_law_c"] >>> (Qk (QoS (Qht rfl (Vu (QW (i:=1) S rfl (z46 rfl)) (Vu (QW (i:=2) S rfl (z46 rfl)) Qep))) (Qi2 hC) (xv 0))
  (QH (JW (YQ (QhY (Yi (QfN (JM Qbr QlA (xv 1) Qh) (Qd (xv 2) Qf))) (QhY (Yi (Qd (xv 1) (QfN (JM Qbr QlA (xv 2) Qh) Qf))) (QhY (Yi (Qd (xv 1) (QfN (JM Q3 Qbk (xv 2) Qh) Qf))) (QhY (Yi (QfN (JM Q3 Qbk (xv 1) Qh) (Qd (xv 2) Qf))) Qf))))))))⟩
def YZ (z:Z):List D->Fr:=Qam [false] 3 (Jx z).1
abbrev Y0 (z:Z)(y:Y):Prop:=Tf z.K y 1 "_law_around" ["_law_place"] [false] .O (YZ z)
def J3 (z:Z):Dg z.K (Con z) "take_shape" (top 4)  2 ["free","first"] [true,false] .O 5 fun y R=>QdA z y->R:=
 ⟨_,fun con F Qbc=>["free","first","found","done","near"] >>> (Qk (Qb0 (i:=0) (Vt hr) rfl (by first|exact z46 rfl|exact z58 (z46 rfl)|exact z58 (z58 rfl)) QbO (xv 1))
  (Qk (Je (i:=2) S rfl (z46 rfl) (YQ (Qd (xv 1) Qf)))
  (Qk (QT (i:=3) S rfl (z46 rfl) Qh)
  (Qk (Qff (n:=1000000) hown (JV QgA dLt (xv 3) (V5 QaG (Qol hC) con.len zs5 (Qd (xb 2) Qf)) (Jc _)) (Qk (QaW hown rfl (Vp hC (Qeg (YS (spk Qbc hC) Qz (hr^^^0) (Qd (QbS hC (xb 2) (xv 3)) Qf)))) (QW (i:=4) S rfl (z46 rfl)) Jt (QH (Qgo (QhK (QjD (Vt hr) (xb 0) (xv 4) QbO)) (Qk (Qb0 (i:=0) (Vt hr) rfl (by first|exact z46 rfl|exact z58 (z46 rfl)|exact z58 (z58 rfl)) QbO (xv 4))
  (QH (Qg9 (i:=2) hC rfl (by first|exact z46 rfl|exact z58 (z46 rfl)|exact z58 (z58 rfl)) (QcA (xv 4))))) Qao)))
  (QH (QoY (i:=3) S rfl (z46 rfl)))))
  (QH (JW (Qhd (hu3 hr) hC con.sorted Jf (Qd (xb 2) Qf))))))))⟩
def Jh (z:Z):List D->Fr:=Qam [true,false] 5 (J3 z).1
abbrev Vr (z:Z)(y:Y):Prop:=Tf z.K y 2 "take_shape" ["free","first"] [true,false] .O (Jh z)
def J4 (z:Z):Dg z.K (Con z) "_law_purse" (top 8)  2 ["_law_script","_law_k"] [false,false] .O 3 fun y R=>Qag z y->Yv z y->R:=
 ⟨_,fun con F Yw Q6=>["_law_script","_law_k","_law_cell_here"] >>> (Qk (QT (i:=2) S rfl (z46 rfl) (YS (spk Yw hC) Qz (hr^^^0) (Qd (xv 0) (Qd (xv 1) Qf))))
  (Qk (Qgo (JV QgA dLt (xv 2) (JM Qkx Qqq Qh Qh) (Jc _)) (QH (JW (YQ (Qd (YS (spk Q6 hC) Qz (hr^^^0) (QfN (JM Q3 Qbk (xv 2) (JM Vm QhP Qh (xv 1))) Qf)) (Qd (xv 1) Qf))))) Qao)
  (QH (JW (YQ (Qd (xv 2) (Qd (xv 1) Qf)))))))⟩
def J5 (z:Z):List D->Fr:=Qam [false,false] 3 (J4 z).1
abbrev J6 (z:Z)(y:Y):Prop:=Tf z.K y 2 "_law_purse" ["_law_script","_law_k"] [false,false] .O (J5 z)
def Yx (z:Z):Dg z.K (Con z) "_law_take" (top 9)  2 ["_law_purse_here","_law_many"] [true,false] .V 3 fun y R=>Yv z y->R:=
 ⟨_,fun con F Q6=>["_law_purse_here","_law_many","_law_found"] <<< (Qk (Qgo (JV (V8 (Qgq hr)) (Qjf hC) (QbS hC (xb 0) Qh) Qh (Jc _)) (Qk (QcF (i:=0) hC rfl (by first|exact z46 rfl|exact z58 (z46 rfl)|exact z58 (z58 rfl)) (QcA (JM Q3 Qbk (QbS hC (xb 0) Qh) Qh)) Qh (hg:=Qbp (pv 0) Qh set_list))
  (QH (QcF (i:=0) hC rfl (by first|exact z46 rfl|exact z58 (z46 rfl)|exact z58 (z58 rfl)) (QcA (YS (spk Q6 hC) Qz (hr^^^0) (Qd (QbS hC (xb 0) Qh) Qf))) Qh (hg:=Qbp (pv 0) Qh set_list)))) Qao)
  (Qk (QT (i:=2) S rfl (z46 rfl) (JM QcU Qnr (QbS hC (xb 0) Qh) (xv 1)))
  (Qk (QcF (i:=0) hC rfl (by first|exact z46 rfl|exact z58 (z46 rfl)|exact z58 (z58 rfl)) (QcA (JM QgI Qqp (QbS hC (xb 0) Qh) (xv 1))) Qh (hg:=Qbp (pv 0) Qh set_list))
  (QH (JW (xv 2))))))⟩
def Qy (z:Z):List D->Fr:=Qam [true,false] 3 (Yx z).1
abbrev Jb (z:Z)(y:Y):Prop:=Tf z.K y 2 "_law_take" ["_law_purse_here","_law_many"] [true,false] .V (Qy z)
def Jj (z:Z):Dg z.K (Con z) "_law_reached" (top 13)  2 ["_law_cells","_law_place"] [false,false] .O 6 fun y R=>Y0 z y->R:=
 ⟨_,fun con F Jy=>["_law_cells","_law_place","_law_seen","_law_waiting","_law_here","_law_other"] >>> (Qk (Je (i:=2) S rfl (z46 rfl) (Qhg (Vt hr) (xv 1) QbO))
  (Qk (Je (i:=3) S rfl (z46 rfl) (YQ (Qd (xv 1) Qf)))
  (Qk (Qff (n:=1000000) hown (JV (Qfv (Qgq hr)) (Qou hC) (xb 3) (Qe8 Qf) (Jc _)) (Qk (QT (i:=4) S rfl (z46 rfl) (QmC (i:=3) rfl (by first|exact z46 rfl|exact z58 (z46 rfl)|exact z58 (z58 rfl))))
  (QH (QaW hown rfl (Vp hC (Qeg (Qdk (par:=false) (as:=[none]) (p:=true) (spk Jy hC) Qz (hr^^^0) (Qd (xv 4) Qf)))) (QW (i:=5) S rfl (z46 rfl)) Jt (QH (Qgo (PW.pt (QiV (QlG (Vt hr) (xv 5) (xv 0)) (Qlj (QbY (Vt hr) (xv 5) (xb 2))))) (Qk (Qb0 (i:=2) (Vt hr) rfl (by first|exact z46 rfl|exact z58 (z46 rfl)|exact z58 (z58 rfl)) QbO (xv 5))
  (QH (Qg9 (i:=3) hC rfl (by first|exact z46 rfl|exact z58 (z46 rfl)|exact z58 (z58 rfl)) (QcA (xv 5))))) Qao))))))
  (QH (JW (xo 2))))))⟩
def Yk (z:Z):List D->Fr:=Qam [false,false] 6 (Jj z).1
abbrev Yl (z:Z)(y:Y):Prop:=Tf z.K y 2 "_law_reached" ["_law_cells","_law_place"] [false,false] .O (Yk z)
def Qbd (z:Z):Dg z.K (Con z) "shapes" (top 3)  3 ["places"] [false] .O 5 fun y R=>Vr z y->R:=
 ⟨_,fun con F J7=>["places","ordered","free","place","told"] >>> (Qk (QT (i:=1) S rfl (z46 rfl) (Qeg (Qhe rfl (hu8 hr) hC con.sorted Jf con.QqP L2.boot_set (Qd (Qeg (Qfs (p:=true) (par:=false) (cs:=[.me]) (N:=["place"]) (j:=0) hC rfl Blk.of rfl rfl rfl (Vp hC (xv 0)) (fun _ _ _ _ _=>QhO) (fun _ _ _ _ _=>Qi7 fun Cb hb=>(QcA (Qdf con.tuple hb (Qd (xv 0) Qf)))))) Qf))))
  (Qk (Je (i:=2) S rfl (z46 rfl) QcH)
  (Qk (QaW hown rfl (Vp hC (xv 1)) (QW (i:=3) S rfl (z46 rfl)) Jt (QH (Qb0 (i:=2) (Vt hr) rfl (by first|exact z46 rfl|exact z58 (z46 rfl)|exact z58 (z58 rfl)) QbO (xv 3))))
  (Qk (Je (i:=4) S rfl (z46 rfl) (YQ Qf))
  (Qk (QaW hown rfl (Vp hC (xv 1)) (QW (i:=3) S rfl (z46 rfl)) Jt (QH (Qgo (QhK (QoN (Vt hr) (xb 2) (xv 3))) (QH (Qg9 (i:=4) hC rfl (by first|exact z46 rfl|exact z58 (z46 rfl)|exact z58 (z58 rfl)) (Qdk (par:=false) (as:=[some 2,none]) (p:=false) (spk J7 hC) Qz (hr^^^0) (Qd (xs 2) (Qd (xv 3) Qf))))) Qao)))
  (QH (JW (xo 4))))))))⟩
def Jz (z:Z):List D->Fr:=Qam [false] 5 (Qbd z).1
abbrev QdB (z:Z)(y:Y):Prop:=Tf z.K y 3 "shapes" ["places"] [false] .O (Jz z)
def Yy (z:Z):Dg z.K (Con z) "_law_size" (top 10)  3 ["_law_purse_here"] [true] .V 1 fun y R=>Jb z y->R:=
 ⟨_,fun con F Qp=>["_law_purse_here"] <<< (Qk (Qgo (JV (V8 (Qgq hr)) (Qjf hC) (Qdk (par:=true) (as:=[some 0,none]) (p:=false) (spk Qp hC) Qz (hr^^^0) (Qd (xs 0) (Qd Qh Qf))) Qh (Jc _)) (QH (JW (JM Q3 Qbk Qh (Qdk (par:=true) (as:=[some 0,none]) (p:=false) (spk Qp hC) Qz (hr^^^0) (Qd (xs 0) (Qd Qh Qf)))))) Qao)
  (QH (JW (JM Q3 Qbk Qh (Qdk (par:=true) (as:=[some 0,none]) (p:=false) (spk Qp hC) Qz (hr^^^0) (Qd (xs 0) (Qd Qh Qf)))))))⟩
def JB (z:Z):List D->Fr:=Qam [true] 1 (Yy z).1
abbrev Qah (z:Z)(y:Y):Prop:=Tf z.K y 3 "_law_size" ["_law_purse_here"] [true] .V (JB z)
def JC (z:Z):Dg z.K (Con z) "_law_shapes" (top 14)  3 ["_law_places"] [false] .O 6 fun y R=>Yl z y->R:=
 ⟨_,fun con F Jk=>["_law_places","_law_cells","_law_place","_law_seen","_law_found","_law_shape"] >>> (Qk (Je (i:=1) S rfl (z46 rfl) QcH)
  (Qk (QaW hown rfl (Vp hC (xv 0)) (QW (i:=2) S rfl (z46 rfl)) Jt (QH (Qb0 (i:=1) (Vt hr) rfl (by first|exact z46 rfl|exact z58 (z46 rfl)|exact z58 (z58 rfl)) QbO (xv 2))))
  (Qk (Je (i:=3) S rfl (z46 rfl) QcH)
  (Qk (Je (i:=4) S rfl (z46 rfl) (YQ Qf))
  (Qk (QaW hown rfl (Vp hC (Qeg (Qds rfl (hu3 hr) con.sorted Jf (Qd (xb 1) Qf)))) (QW (i:=2) S rfl (z46 rfl)) Jt (QH (Qgo (QbY (Vt hr) (xv 2) (xb 3)) (Qk (QT (i:=5) S rfl (z46 rfl) (Qeg (YS (spk Jk hC) Qz (hr^^^0) (Qd (xb 1) (Qd (xv 2) Qf)))))
  (Qk (Qo2 (i:=3) (Vt hr) rfl (by first|exact z46 rfl|exact z58 (z46 rfl)|exact z58 (z58 rfl)) (xv 5))
  (QH (Qg9 (i:=4) hC rfl (by first|exact z46 rfl|exact z58 (z46 rfl)|exact z58 (z58 rfl)) (Qds rfl (hu3 hr) con.sorted Jf (Qd (xv 5) Qf)))))) Qao)))
  (QH (JW (xo 4))))))))⟩
def Y4 (z:Z):List D->Fr:=Qam [false] 6 (JC z).1
abbrev Y5 (z:Z)(y:Y):Prop:=Tf z.K y 3 "_law_shapes" ["_law_places"] [false] .O (Y4 z)
def JD (z:Z):Dg z.K (Con z) "_law_turned" (top 15)  3 ["_law_purse_here","_law_things"] [true,false] .O 5 fun y R=>Jb z y->R:=
 ⟨_,fun con F Qp=>["_law_purse_here","_law_things","_law_found","_law_k","_law_other"] >>> (Qk (Je (i:=2) S rfl (z46 rfl) (Qfa (x := "") con.Qm6 hC (Qd (xv 1) Qf)))
  (Qk (QaW hown rfl (QjI con.range (QfN (JM Qbr QlA (V5 QaG (Qol hC) con.len zs5 (Qd (xb 2) Qf)) Qh) (Qnw Qh (QqF (QlB Qh) Qf)))) (QW (i:=3) S rfl (z46 rfl)) Jt (Qk (QT (i:=4) S rfl (z46 rfl) (Qdk (par:=true) (as:=[some 0,none]) (p:=false) (spk Qp hC) Qz (hr^^^0) (Qd (xs 0) (Qd (JM Q3 Qbk (xv 3) Qh) Qf))))
  (QH (QoZ (i:=2) (ja:=3) (jb:=4) hC (Yi (Qd (Qlh (QbS hC (xb 2) (xv 4))) (Qd (Qlh (QbS hC (xb 2) (xv 3))) Qf))) (Qht rfl (Vu (Qbp (pv 2) (pv 3) set_list) (Vu (Qbp (pv 2) (pv 4) set_list) Qep)))))))
  (QH (JW (xo 2)))))⟩
def Ja (z:Z):List D->Fr:=Qam [true,false] 5 (JD z).1
abbrev Y6 (z:Z)(y:Y):Prop:=Tf z.K y 3 "_law_turned" ["_law_purse_here","_law_things"] [true,false] .O (Ja z)
def Yz (z:Z):Dg z.K (Con z) "_law_grid" (top 11)  4 ["_law_script","_law_start"] [false,false] .O 9 fun y R=>J6 z y->Jb z y->Qah z y->R:=
 ⟨_,fun con F QJ Qp JF=>["_law_script","_law_start","_law_head","_law_high","_law_wide","_law_dense","_law_found","_law_r","_law_purse_here"] >>> (Qk (Je (i:=2) S rfl (z46 rfl) (YS (spk QJ hC) Qz (hr^^^0) (Qd (xv 0) (Qd (xv 1) Qf))))
  (Qk (QT (i:=3) S rfl (z46 rfl) (Qdk (par:=false) (as:=[some 2]) (p:=false) (spk JF hC) Qz (hr^^^0) (Qd (xs 2) Qf)))
  (Qk (QT (i:=4) S rfl (z46 rfl) (Qdk (par:=false) (as:=[some 2]) (p:=false) (spk JF hC) Qz (hr^^^0) (Qd (xs 2) Qf)))
  (Qk (QT (i:=5) S rfl (z58 rfl) (JM Q3 Qbk Qh (Qdk (par:=false) (as:=[some 2,none]) (p:=false) (spk Qp hC) Qz (hr^^^0) (Qd (xs 2) (Qd Qh Qf)))))
  (Qk (Je (i:=6) S rfl (z46 rfl) (YQ Qf))
  (Qk (QaW hown rfl (QcD con.range (Qd (xv 3) Qf)) (QW (i:=7) S rfl (z58 rfl)) Jt (Qk (Je (i:=8) S rfl (z58 rfl) (YS (spk QJ hC) Qz (hr^^^0) (Qd (xv 0) (QfN (JM Q3 Qbk (JM Q3 Qbk (xv 1) Qh) (xv 7)) Qf))))
  (QH (Qon (i:=6) hC rfl (by first|exact z46 rfl|exact z58 (z46 rfl)|exact z58 (z58 rfl)) (Qfs (p:=false) (par:=false) (cs:=[.me,.io 8,.fz 5,.fz 7]) (N:=["_law_c","_law_purse_here","_law_dense","_law_r"]) (j:=0) hC rfl Blk.of rfl rfl rfl (QcD con.range (Qd (xv 4) Qf)) (fun _ _ _ _ _=>Qlz fun Cb hb=>(JV QgA dLt (Qdk (par:=true) (as:=[some 1,none]) (p:=false) (spk Qp hb) Qz (hr^^^0) (Qd (xs 1) (Qd Qh Qf))) (xv 2) (Jc _))) (fun _ _ _ _ _=>Qi7 fun Cb hb=>(QcA (Yi (Qd (xv 3) (Qd (xv 0) Qf))))))))))
  (QH (JW (xo 6)))))))))⟩
def Qai (z:Z):List D->Fr:=Qam [false,false] 9 (Yz z).1
abbrev Qaj (z:Z)(y:Y):Prop:=Tf z.K y 4 "_law_grid" ["_law_script","_law_start"] [false,false] .O (Qai z)
def QjU (z:Z):Dg z.K (Con z) "law" (top 16)  5 ["_law_script"] [false] .V 8 fun y R=>J6 z y->Jb z y->QdB z y->Y5 z y->Y6 z y->Qaj z y->R:=
 ⟨_,fun con F QJ Qp Ye JG JH YB=>["_law_script","_law_places","_law_purse_here","_law_handed","_law_copy","_law_right","_law_told","_law_shape"] <<< (Qk (QT (i:=1) S rfl (z46 rfl) (Qeg (YS (spk YB hC) Qz (hr^^^0) (Qd (xv 0) (Qnw Qh Qf)))))
  (Qk (Je (i:=2) S rfl (z46 rfl) (YS (spk QJ hC) Qz (hr^^^0) (Qd (xv 0) (Qnw Qh Qf))))
  (Qk (QT (i:=3) S rfl (z46 rfl) (Qeg (Qdk (par:=false) (as:=[some 2,none]) (p:=false) (spk JH hC) Qz (hr^^^0) (Qd (xs 2) (Qd (QlC hC (xv 1) (Qoq hC (xv 1) Qop (Qjd (Qdk (par:=false) (as:=[some 2,none]) (p:=false) (spk Qp hC) Qz (hr^^^0) (Qd (xs 2) (Qd Qh Qf)))))) Qf)))))
  (Qk (Qgo (JV (V8 (Qgq hr)) (Qjf hC) (Qdk (par:=false) (as:=[some 2,none]) (p:=false) (spk Qp hC) Qz (hr^^^0) (Qd (xs 2) (Qd Qh Qf))) Qh (Jc _)) (QH (Qjg (i0:=3) (par:=false) (cs:=[.me]) (N:=["_law_place"]) (j:=0) hC rfl S rfl (z46 rfl) Blk.of rfl rfl rfl (Vp hC (xv 3)) (fun _ _ _ _ _=>QhO) (fun _ _ _ _ _=>Qi7 fun Cb hb=>(Qfa (x := "") con.Qm6 hb (Qd (xv 0) Qf))))) Qao)
  (Qk (Qgo (JV (V8 (Qgq hr)) (Qjf hC) (Qdk (par:=false) (as:=[some 2,none]) (p:=false) (spk Qp hC) Qz (hr^^^0) (Qd (xs 2) (Qd Qh Qf))) Qh (Jc _)) (QH (QT (i:=3) S rfl (z46 rfl) (Qdf con.tuple hC (Qd (xv 3) Qf)))) Qao)
  (Qk (QT (i:=4) S rfl (z46 rfl) (V5 (Qaz hr) (Qmr hC) con.repr L2.boot_repr (Qd (xv 3) Qf)))
  (Qk (QT (i:=5) S rfl (z46 rfl) (Qeg (YS (spk JG hC) Qz (hr^^^0) (Qd (xv 1) Qf))))
  (Qk (Je (i:=6) S rfl (z46 rfl) (YS (spk Ye hC) Qz (hr^^^0) (Qd (xv 3) Qf)))
  (Qk (Qgo (PW.pt (Qli (JV (Qfv (Qgq hr)) (Qou hC) (xb 6) (xv 5) (Jc _)) (Qlj (JV (Qfv (Qgq hr)) (Qou hC) (V5 (Qaz hr) (Qmr hC) con.repr L2.boot_repr (Qd (xv 3) Qf)) (xv 4) (Jc _))))) (QH (JW QbO)) Qao)
  (Qhl (i:=6) (t:=7) hown rfl (pv 6) (QW (i:=7) S rfl (z46 rfl)) (VJ (QeC zb6 zi5 zi4 VV (pv 7) (Jp (Qhw (Jp QcR (Jp QcR YF))) YF))) (VJ (QeC zb6 zi5 zi4 VV (pv 6) (Jp (Qew YF) YF)))
  (QH (JW (Qll (QiU (V8 (Qgq hr)) (Qjf hC) (Qeg (YS (spk Ye hC) Qz (hr^^^0) (Qd (xv 3) Qf))) (xv 5) (Jc _)) (Qll (QiU (V8 (Qgq hr)) (Qjf hC) (Qeg (YS (spk Ye hC) Qz (hr^^^0) (Qd (xv 1) Qf))) (xv 5) (Jc _)) (Qn7 (QiU (V8 (Qgq hr)) (Qjf hC) (Qeg (YS (spk Ye hC) Qz (hr^^^0) (QqE (Qe8 Qf) Qf))) (Qe8 Qf) (Jc _)))))))))))))))))⟩
def Qm7 (z:Z):List D->Fr:=Qam [false] 8 (QjU z).1
end
end G72
open PySem PySem.Spec L2 L2.Srt TL
local macro_rules
 | `(~~~$x)=>`(some (TL.Sl.frz $x))
local macro_rules
 | `(tactic| simp? only[$xs,*])=>`(tactic| simp only[w_S,QlP,QlQ,QlJ,QlK,w_V,QlL,QlM,QlN,w_B,QlO,w_O,w_C,Qow,w_I,QlR,Qqv,Qox,QlS,Qoy,Qoz,QlT,QoA,QlU,Qqw,QoC,QlW,QlX,QlY,Qjj,QlZ,QoD,Ql0,QoE,Ql1,Ql2,Ql3,Qjk,Ql4,Ql5,Ql6,QoF,Ql7,QoG,Ql8,Qqx,Ql9,Qma,Qmb,Qmc,Qmd,Qme,Qqy,Qjl,Qmf,Qjm,Qmg,QoI,Qmk,Qml,Qmm,Qmn,Qmo,Qjn,Qd4,Qi,Int.reduceEq,Qov,YC,Qgp,Qns,Ys,mkS,asB,asI,asL,QqN,QqO,atI,ixN,Qoj,TL.Qib,Qpz,QpA,QpB,QpC,gLt,gLe,gGt,gGe,gI0,gIc,Vi,Qji,Qqr,Qqs,gI2,Qo7,Qo8,Qlw,slot0,za4,List.zipWith_nil_left,List.zipWith_nil_right,zb1,List.cons_append,zl0,z61,z25,zr9,List.getElem?_cons_zero,zg3,List.getElem?_nil,List.set_cons_zero,List.set_cons_succ,List.set_nil,zf9,Option.map_none,z69,Option.bind_none,Nat.reduceAdd,Nat.reduceSub,z29,if_true,if_false,Nat.reduceLT,Nat.reduceLeDiff,Int.reduceLT,Int.reduceLE,Int.toNat_zero,Int.reduceToNat,Int.toNat_one,Int.cast_ofNat_Int,Cp.is,zc2,JP,Yd,Qfg,outs,List.filterMap_cons_none,List.filterMap_cons_some,List.filterMap_nil,id,D.imm,D.QL,zj7,Bool.and_true,Tag.mut,zm2,zc3,decide_eq_true_eq,Bool.decide_eq_true,Int.reduceNeg,z55,Nat.reducePow,Qqu,z89,Nat.succ_eq_add_one,ite_true,ite_false,Bool.not_eq_true,decide_true,decide_false,Qjq,Qjs,Qjt,Qms,Qmt,QoO,z30,zw0,QoP,Qmx,Qmy,Qjw,Qjx,Qmz,Qjy,Qjz,QmA,QmB,Qmv,Qmw,Qjv,Qmu,QmY,QmZ,Qm0,Qo3,QjO,QjP,Qo4,Qo5,QjQ,QjR,Qm1,Qm3,Qm4,QjS,Qmh,Qmi,QoJ,QoK,QoL,Qqz,Qmj,QoM,Qm5,QoB,QlV,$xs,*])
namespace G72
open PySem PySem.Spec L2 L2.Srt TL
variable {z:Z}
theorem Ws {m u:MS}{ρ:Rho}{k:Fl×Rho->Prop}(ρ0:Rho)(h1:W (m ρ) fun r=>r.1=.nx/\r.2=ρ0)(h2:W (u ρ0) k):W (Qi0 m u ρ) k:=Qaa (fun ρ=>ρ=ρ0) h1 (by rintro _ rfl;exact h2)
def Pot (d:D):Prop:=∃v k:Int,d=.lst [.int v,.int k]
def isInt (d:D):Prop:=∃r:Int,d=.int r
theorem Qh3 {n i:Nat}{d:D}(h:((z47 n).map fun j=>D.int ((0:Int)+(j:Nat)))[i]? = some d):d=.int i/\i<n:=by
 rw[z31] at h
 obtain⟨a,e,rfl⟩:=z05.mp h
 obtain⟨h1,h2⟩:=z17.mp e
 rw[zi6] at h2
 rw[z70] at h1
 subst h2
 exact⟨by rw[Int.zero_add],h1⟩
theorem QjV (c:Int):FW (Jw z [.int c]) (fun d os=>os=[]/\isInt d):=by
 unfold Jw
 refine Yt ?_
 dsimp only[Yu]
 simp? only[and_self]
 refine QoQ (fun i ρ=>∃r s t,ρ=[~~~(.int c),~~~(.int r),s,t]/\(s=none\/∃d,s = ~~~d)/\(t=none\/∃d,t = ~~~d)) ⟨0,_,_,rfl,.inl rfl,.inl rfl⟩ ?_ ?_
 ·rintro i d ρ hd ⟨r,s,t,rfl,hs,ht⟩
  obtain⟨rfl,hi⟩:=Qh3 hd
  have hi':(i:Int)<12:=by have:(Int.toNat 12)=12:=rfl;omega
  refine⟨[~~~(.int c),~~~(.int r),~~~(.int i),t],?_,?_⟩
  ·rcases hs with rfl|⟨_,rfl⟩<;>rfl
  ·have g1:(0:Int)<2147483629:=by decide
   have g2:(0:Int)<2147483647:=by decide
   have g3:(0:Int)<2147483587:=by decide
   have c1:∀a:Int,Qcc a 48271:=fun a=>.inr (by decide)
   have c2:Qcc (i:Int) (i:Int):=.inl ⟨by omega,by omega⟩
   have c3:∀a:Int,Qcc a 7919:=fun a=>.inr (by decide)
   have c4:∀a:Int,Qcc 31 a:=fun a=>.inl (by decide)
   have c5:∀a:Int,Qcc a 2147483587:=fun a=>.inr (by decide)
   have c6:∀a:Int,Qcc 40693 a:=fun a=>.inl (by decide)
   have c7:∀a:Int,Qcc (a % 2147483647) (a % 2147483647):=fun a=>.inl ⟨by have:=zl9 a (show(2147483647:Int)≠0 by decide);omega,by have:=zj0 a g2;omega⟩
   rcases ht with rfl|⟨_,rfl⟩ <;>
   ·simp? only[g1,g2,g3,c1,c2,c3,c4,c5,c6,c7]
    exact⟨trivial,_,_,_,rfl,.inr ⟨_,rfl⟩,.inr ⟨_,rfl⟩⟩
 ·rintro ρ ⟨r,s,t,rfl,hs,ht⟩
  simp? only[]
  refine⟨_,[],rfl,?_,rfl,_,rfl⟩
  rcases hs with rfl|⟨_,rfl⟩<;>rcases ht with rfl|⟨_,rfl⟩<;>rfl
theorem Qf6 (c:Int):∃r:Int,Jw z [.int c]=.ok (.int r) []:=by
 obtain⟨d,os,e,rfl,r,rfl⟩:=QjV (z:=z) c
 exact⟨r,e⟩
def spT (n:Int)(d:D)(os:List D):Prop:=∃r p,d=.int r/\os=[p]/\Pot p/\0<=r/\r<n
abbrev Qh4:Int:=115792089237316195423570985008687907853269984665640564039457584007913129639936
theorem Qbe {p:D}{n:Int}(hp:Pot p)(h0:0<n)(h1:n<Qh4):FW (Qy z [p,.int n]) (spT n):=by
 obtain⟨v,k,rfl⟩:=hp
 unfold Qy
 refine Yt ?_
 dsimp only[Yx]
 have cn:∀a,Qcq a n:=fun a=>⟨h0,h1⟩
 by_cases hv:v=0
 ·subst hv
  obtain⟨r,er⟩:=Qf6 (z:=z) (k+64)
  simp? only[Qjr er,cn,h0]
  exact⟨trivial,_,_,rfl,rfl,_,_,rfl,rfl,⟨_,_,rfl⟩,zl9 _ (by omega),zj0 _ h0⟩
 ·simp? only[hv,cn,h0]
  exact⟨_,_,rfl,rfl,_,_,rfl,rfl,⟨_,_,rfl⟩,zl9 _ (by omega),zj0 _ h0⟩
def script (xs:List Int):D:=.lst (xs.map .int)
def frO (s:Option Sl):Prop:=s=none\/∃d,s = ~~~d
theorem QjW (xs:List Int)(k:Int)(hk:0<=k):∃c:Int,Qaf z [script xs,.int k]=.ok (.int c) []:=by
 by_cases h:k<xs.length
 ·refine⟨xs.getD k.toNat 0,Qb8 (Yt ?_)⟩
  dsimp only[Jv]
  have g1:Qjb [script xs]=some (.int xs.length):=by show some (D.int ((xs.map D.int).length:Nat))=_;rw[z14]
  have g2:atI (xs.map D.int) k=some (.int (xs.getD k.toNat 0)):=Qf5 D.int 0 hk (by omega)
  have g3:gIx (script xs) (.int k)=some (.int (xs.getD k.toNat 0)):=g2
  simp? only[g1,h,g3]
  exact⟨_,_,rfl,rfl,rfl,rfl⟩
 ·refine⟨0,Qb8 (Yt ?_)⟩
  dsimp only[Jv]
  have g1:Qjb [script xs]=some (.int xs.length):=by show some (D.int ((xs.map D.int).length:Nat))=_;rw[z14]
  simp? only[g1,h]
  exact⟨_,_,rfl,rfl,rfl,rfl⟩
theorem Qho (xs:List Int)(k:Int)(hk:0<=k):FW (J5 z [script xs,.int k]) (fun d os=>os=[]/\Pot d):=Yt (by
 dsimp only[J4]
 obtain⟨c,ec⟩:=QjW (z:=z) xs k hk
 have c1:Qka 10 18:=⟨by decide,by decide,by decide⟩
 have c2:Qcc 101 k:=.inl (by decide)
 simp? only[Qjr ec,c1]
 refine⟨trivial,?_⟩
 refine QlI (fun h=>?_) (fun h=>?_)
 ·obtain⟨r,er⟩:=Qf6 (z:=z) (c+101 * k)
  simp? only[c2,Qjr er]
  exact⟨trivial,_,_,rfl,rfl,rfl,_,_,rfl⟩
 ·simp? only[]
  exact⟨_,_,rfl,rfl,rfl,_,_,rfl⟩)
section
variable {q:D}
def QpL (d:D)(os:List D):Prop:=∃n:Nat,∃q,d=.int n/\os=[q]/\Pot q/\1<=n/\n<=30
theorem QjX (hq:Pot q):FW (JB z [q]) QpL:=Yt (by
 dsimp only[Yy]
 simp? only[]
 refine Qju (p:=q) (P:=spT 8) rfl (Qbe hq (by decide) (by decide)) fun _ _ ⟨r1,q1,e1,e2,hq1,_,_⟩=>⟨q1,e2,?_⟩;subst e1
 simp? only[]
 refine QlI (fun h=>?_) (fun h=>?_)
 ·simp? only[]
  refine Qju (p:=q1) (P:=spT 30) rfl (Qbe hq1 (by decide) (by decide)) fun _ _ ⟨r2,q2,e1,e2,hq2,g0,g1⟩=>⟨q2,e2,?_⟩;subst e1
  simp? only[]
  exact⟨_,_,rfl,rfl,(1+r2).toNat,q2,by rw[zy4 (by omega)],rfl,hq2,by omega,by omega⟩
 ·simp? only[]
  refine Qju (p:=q1) (P:=spT 6) rfl (Qbe hq1 (by decide) (by decide)) fun _ _ ⟨r2,q2,e1,e2,hq2,g0,g1⟩=>⟨q2,e2,?_⟩;subst e1
  simp? only[]
  exact⟨_,_,rfl,rfl,(1+r2).toNat,q2,by rw[zy4 (by omega)],rfl,hq2,by omega,by omega⟩)
end
variable {z:Z}
theorem Qf7 {p:P2}:Qdz z [pl p]=.ok (.lst ((nb p).map pl)) []:=Qb8 (Yt (by
 dsimp only[Qbb]
 simp? only[pl]
 exact⟨_,_,rfl,rfl,rfl,rfl⟩))
theorem Qea {p:P2}:YZ z [pl p]=.ok (.lst ((nb p).map pl)) []:=Qb8 (Yt (by
 dsimp only[Jx]
 refine Ws [~~~(pl p),~~~(.int p.1),~~~(.int p.2)] ⟨_,rfl,rfl,rfl⟩ ?_
 simp? only[]
 exact⟨_,_,rfl,rfl,rfl,rfl⟩))
section
variable {ρ:Rho}{i:Nat}{par b:Bool}{cs ks fs:List P2}{f f0:P2->Bool}{p q:P2}{mv mk:ME}
theorem Qbf {n:Nat}(h:n<8000):n<z20:=by rw[z55];omega
theorem QaB (hi:ρ[i]? = some (some (mkS par (dct ks f)))):Qd3 ρ i=some (par,ks.map Q9,ks.map fun q=>.bl (f q)):=by
 unfold Qd3
 rw[hi];cases par<;>rfl
theorem Qf8 (hi:ρ[i]? = some (some (mkS par (dct ks f))))(hv:mv ρ=.ok (.bl b,ρ))(hk:mk ρ=.ok (pl p,ρ))(hp:p∈ks)(hl:ks.length<8000):Qfz i mv mk ρ=.ok (.nx,ρ.set i (some (mkS par (dct ks (QjM f p b))))):=by
 unfold Qfz
 rw[hv]
 show((Rs.of (Qd3 ρ i)).bind fun _=>_)=_
 rw[QaB hi]
 show((mk ρ).bind fun s=>_)=_
 rw[hk]
 show((Rs.of (Qd3 ρ i)).bind fun q=>_)=_
 rw[QaB hi]
 show((Rs.of (Qd2 (pl p))).bind fun k=>_)=_
 rw[Qae]
 show(if(ks.map Q9).length<z20 then _ else _)=_
 rw[if_pos (by rw[z14];exact Qbf hl),if_pos (by show(true && D.QL (ks.map fun q=>D.bl (f q)))=true;rw[Qba];rfl)]
 dsimp only
 rw[Qdy hp];rfl
theorem Qbg (hi:ρ[i]? = some (some (mkS par (dct ks fun _=>true))))(hv:mv ρ=.ok (.bl true,ρ))(hk:mk ρ=.ok (pl p,ρ))(hl:ks.length<8000):Qfz i mv mk ρ=.ok (.nx,ρ.set i (some (mkS par (dct (Ji ks p) fun _=>true)))):=by
 unfold Qfz
 rw[hv]
 show((Rs.of (Qd3 ρ i)).bind fun _=>_)=_
 rw[QaB hi]
 show((mk ρ).bind fun s=>_)=_
 rw[hk]
 show((Rs.of (Qd3 ρ i)).bind fun q=>_)=_
 rw[QaB hi]
 show((Rs.of (Qd2 (pl p))).bind fun k=>_)=_
 rw[Qae]
 show(if(ks.map Q9).length<z20 then _ else _)=_
 rw[if_pos (by rw[z14];exact Qbf hl),if_pos (by show(true && D.QL (ks.map fun q=>D.bl true))=true;rw[Qba ks fun _=>true];rfl)]
 dsimp only
 rw[← QjN]
theorem QjY:Qnv (ks.map Q9,ks.map fun q=>D.bl (f q)) (pl p) (.bl false)=some (.bl (decide (p∈ks) && f p)):=by
 unfold Qnv
 rw[Qae]
 dsimp only[z69]
 rw[Qdx]
 by_cases h:p∈ks
 ·rw[if_pos h,decide_eq_true h];rfl
 ·rw[if_neg h,decide_eq_false h];rfl
def fr (f0:P2->Bool)(fs:List P2):P2->Bool:=fun q=>f0 q && !decide (q∈fs)
theorem Qh5:fr f0 (fs++[q])=QjM (fr f0 fs) q false:=by
 funext r
 unfold fr QjM
 by_cases e:r=q
 ·subst e
  rw[if_pos rfl,decide_eq_true (z01 _ (z19.mpr rfl))];simp
 ·rw[if_neg e]
  dsimp only
  have:r∈fs++[q]↔r∈fs:=by rw[z04,z19];exact⟨fun h=>h.resolve_right e,.inl⟩
  by_cases c:r∈fs
  ·rw[decide_eq_true c,decide_eq_true (this.mpr c)]
  ·rw[decide_eq_false c,decide_eq_false fun z=>c (this.mp z)]
structure Bf (cs:List P2)(f0:P2->Bool)(p:P2)(fs:List P2)(done:Nat):Prop where
 nd:fs.Nodup
 st:p∈fs
 rc:∀q∈fs,q∈cs/\Rch cs p q/\f0 q=true
 dn:∀(j:Nat) (q:P2),j<done->fs[j]? = some q->∀r∈nb q,r∈cs->f0 r=true->r∈fs
theorem Bf.app {done:Nat}{r:P2}(B:Bf cs f0 p fs done)(hd:done<=fs.length)(hq:q∈fs)(hr:r∈nb q)(h1:r∈cs)(h2:f0 r=true)(h3:r∉fs):Bf cs f0 p (fs++[r]) done where
 nd:=z07.mpr ⟨B.nd,z53.mpr ⟨by simp,.nil⟩,fun a ha b hb e=>by rw[z19] at hb;subst hb;subst e;exact h3 ha⟩
 st:=z08 _ B.st
 rc:=fun x hx=>by
  rcases z04.mp hx with hx|hx
  ·exact B.rc x hx
  ·rw[z19.mp hx];exact⟨h1,(B.rc q hq).2.1.step hr h1,h2⟩
 dn:=fun j x hj hx y hy c1 c2=>by
  rw[z41 (by omega)] at hx
  exact z08 _ (B.dn j x hj hx y hy c1 c2)
theorem Bf.fin {S:List P2}(B:Bf cs f0 p fs fs.length)(c:Cl cs S)(hf:∀q∈cs,(f0 q=true↔q∉S))(hp:p∈cs):∀q,q∈fs↔Rch cs p q:=fun q=>by
 refine⟨fun h=>(B.rc q h).2.1,fun h=>?_⟩
 induction h with
 |base=>exact B.st
 | @step x y h n m ih=>
  obtain⟨j,hj⟩:=z75 ih
  refine B.dn j x (z17.mp hj).1 hj y n m ((hf y m).mpr fun hs=>?_)
  have hx:=h.mem hp
  exact(hf x hx).mp (B.rc x ih).2.2 (c.cl y hs x (.step .base (Qh0 n) hx))
def tsS (cs:List P2)(f:P2->Bool)(p:P2)(fs:List P2)(done:Nat)(s:Option Sl):Rho:=[some (.par (dct cs f)),~~~(pl p),some (.own (.lst (fs.map pl))),~~~(.int done),s]
theorem QjZ {n:Nat}(h:fs[n]? = some q):gIx (.lst (fs.map pl)) (.int n)=some (pl q):=by
 have e:=Qf5 (xs:=fs) pl (0,0) (i:=(n:Int)) (by omega) (by have:=(z17.mp h).1;omega)
 rw[za2,z22,h] at e
 exact e
theorem Qh6:Qjb [.lst (fs.map pl)]=some (.int fs.length):=by show some (D.int ((fs.map pl).length:Nat))=_;rw[z14]
theorem Qbh {S:List P2}(hn:cs.Nodup)(hl:cs.length<4000)(hp:p∈cs)(c:Cl cs S)(hf:∀q∈cs,(f0 q=true↔q∉S))(h0:f0 p=true):Jh z [dct cs f0,pl p]=.ok (.lst ((cmp cs p).map pl)) [dct cs (fr f0 (cmp cs p))]:=Qb8 (Yt (by
 dsimp only[J3]
 have e1:QjM f0 p false=fr f0 [p]:=by
  have:=Qh5 (f0:=f0) (fs:=[]) (q:=p)
  rw[zl0] at this
  rw[this]
  congr 1
  funext r;unfold fr;simp
 refine Ws [some (.par (dct cs (fr f0 [p]))),~~~(pl p),none,none,none] ⟨_,Qf8 (i:=0) (par:=true) (f:=f0) rfl rfl rfl hp (by omega),rfl,by rw[e1];rfl⟩ ?_
 refine Ws [some (.par (dct cs (fr f0 [p]))),~~~(pl p),some (.own (.lst ([p].map pl))),none,none] ⟨_,rfl,rfl,rfl⟩ ?_
 refine Ws (tsS cs (fr f0 [p]) p [p] 0 none) ⟨_,rfl,rfl,rfl⟩ ?_
 refine Qaa (fun ρ=>∃fs s,ρ=tsS cs (fr f0 fs) p fs fs.length s/\frO s/\Bf cs f0 p fs fs.length) ?_ ?_
 ·refine Qf4 (fun n ρ=>∃fs done s,ρ=tsS cs (fr f0 fs) p fs done s/\frO s/\done<=fs.length/\n=cs.length - done/\Bf cs f0 p fs done) (n:=cs.length) ?_ ⟨[p],0,none,rfl,.inl rfl,z49 _,by omega,⟨by simp,by simp,fun q hq=>by rw[z19.mp hq];exact⟨hp,.base,h0⟩,fun j q hj=>absurd hj (zd9 _)⟩⟩ (by omega)
  rintro n ρ ⟨fs,done,s,rfl,hs,hd,rfl,B⟩
  have lf:fs.length<=cs.length:=sub_len B.nd fun x hx=>(B.rc x hx).1
  refine⟨(decide ((done:Int)<(fs.length:Int)),tsS cs (fr f0 fs) p fs done s),Q8 (Jo rfl (VG (QR rfl rfl) Qh6) rfl),fun h=>?_,fun h=>?_⟩
  ·have hlt:done<fs.length:=by have:=of_decide_eq_true h;omega
   have hq:fs[done]? = some fs[done]:=z03 hlt
   generalize fs[done]=q at hq
   have qm:=z56 hq
   refine Qaa (fun ρ=>∃fs' s,ρ=tsS cs (fr f0 fs') p fs' done s/\frO s/\done<fs'.length/\Bf cs f0 p fs' (done+1)) ?_ ?_
   ·refine Qb1 (ds:=(nb q).map pl) (ρ1:=tsS cs (fr f0 fs) p fs done s) (fun i ρ=>∃fs' s,ρ=tsS cs (fr f0 fs') p fs' done s/\frO s/\(∃t,fs'=fs++t)/\Bf cs f0 p fs' done/\∀r∈(nb q).take i,r∈cs->f0 r=true->r∈fs') ?_ ⟨fs,s,rfl,hs,⟨[],by simp⟩,B,fun r hr=>by simp at hr⟩ ?_ ?_
    ·exact JX (.inl rfl) (Q0 (rk:=.O) (QR (Jo rfl rfl (QjZ hq)) rfl) Qf7 fun z=>nomatch z)
    ·rintro i d ρ hd' ⟨fs',s',rfl,hs',⟨t,rfl⟩,B',k'⟩
     rw[z31] at hd'
     obtain⟨r,hr,rfl⟩:=z05.mp hd'
     have rn:r∈nb q:=z56 hr
     have tk:(nb q).take (i+1)=(nb q).take i++[r]:=by rw[zj3,hr];rfl
     refine⟨tsS cs (fr f0 (fs++t)) p (fs++t) done (~~~(pl r)),by rcases hs' with rfl|⟨_,rfl⟩<;>rfl,?_⟩
     have tst:V4 (Qhc (mB 0) (mV 4) (mC (.bl false))) (tsS cs (fr f0 (fs++t)) p (fs++t) done (~~~(pl r)))=.ok (decide (r∈cs) && fr f0 (fs++t) r,tsS cs (fr f0 (fs++t)) p (fs++t) done (~~~(pl r))):=Q8 (QjT rfl rfl rfl QjY)
     refine V9 (QfE tst)▸?_
     cases e:decide (r∈cs) && fr f0 (fs++t) r with
     |true=>
      obtain⟨c1,c2⟩:=z48.mp e
      obtain⟨c2,c3⟩:=z48.mp (show(f0 r && !decide (r∈fs++t))=true from c2)
      have c1:=of_decide_eq_true c1
      have c3:r∉fs++t:=by simpa using c3
      have B2:=B'.app (by rw[z10];omega) (z08 _ qm) rn c1 c2 c3
      have lf2:(fs++t).length<=cs.length:=sub_len B'.nd fun x hx=>(B'.rc x hx).1
      rw[if_pos rfl]
      refine Ws (tsS cs (fr f0 (fs++t++[r])) p (fs++t) done (~~~(pl r))) ⟨_,Qf8 (i:=0) (par:=true) rfl rfl rfl c1 (by omega),rfl,by rw[Qh5];rfl⟩ ?_
      refine⟨(.nx,tsS cs (fr f0 (fs++t++[r])) p (fs++t++[r]) done (~~~(pl r))),?_,rfl,fs++t++[r],_,rfl,.inr ⟨_,rfl⟩,⟨t++[r],by rw[z15]⟩,B2,fun x hx h1 h2=>?_⟩
      ·unfold Qke
       show(if((fs++t).map pl).length<z20 then _ else _)=_
       rw[if_pos (by rw[z14];exact Qbf (by omega))]
       unfold tsS
       rw[z50 (l₁:=fs++t)];rfl
      ·rw[tk] at hx
       rcases z04.mp hx with hx|hx
       ·exact z08 _ (k' x hx h1 h2)
       ·exact z01 _ hx
     |false=>
      rw[if_neg z23]
      refine⟨_,rfl,rfl,fs++t,_,rfl,.inr ⟨_,rfl⟩,⟨t,rfl⟩,B',fun x hx h1 h2=>?_⟩
      rw[tk] at hx
      rcases z04.mp hx with hx|hx
      ·exact k' x hx h1 h2
      ·rw[z19] at hx
       subst hx
       rw[decide_eq_true h1,zj7] at e
       unfold fr at e
       rw[h2,zj7] at e
       exact of_decide_eq_true (by simpa only[zy7] using e)
    ·rintro ρ ⟨fs',s',rfl,hs',⟨t,rfl⟩,B',k'⟩
     have lt':done<(fs++t).length:=by rw[z10];omega
     refine⟨rfl,fs++t,s',rfl,hs',lt',B'.nd,B'.st,B'.rc,fun j x hj hx y hy c1 c2=>?_⟩
     rcases z62 j done with w|w
     ·exact B'.dn j x w hx y hy c1 c2
     ·have:j=done:=by omega
      subst this
      rw[z41 hlt,hq] at hx
      cases hx
      exact k' y (by rw[z76 (by simp)];exact hy) c1 c2
   ·rintro ρ ⟨fs',s',rfl,hs',lt',B'⟩
    refine⟨(.nx,tsS cs (fr f0 fs') p fs' (done+1) s'),rfl,rfl,cs.length - (done+1),?_,fs',done+1,s',rfl,hs',lt',rfl,B'⟩
    have:done<cs.length:=by omega
    omega
  ·have hge:done=fs.length:=by have:=of_decide_eq_false h;omega
   subst hge
   exact⟨rfl,fs,s,rfl,hs,B⟩
 ·rintro ρ ⟨fs,s,rfl,hs,B⟩
  have ec:=Qh2 hn hp B.nd (B.fin c hf hp)
  have lf:fs.length<=cs.length:=sub_len B.nd fun x hx=>(B.rc x hx).1
  have ef:fr f0 fs=fr f0 (cmp cs p):=by
   funext r
   unfold fr
   congr 2
   rw[← ec]
   exact decide_eq_decide.mpr ((Qs fs).mem_iff).symm
  refine⟨(.rt (.lst ((cmp cs p).map pl)),tsS cs (fr f0 fs) p fs fs.length s),?_,_,[dct cs (fr f0 fs)],rfl,by rcases hs with rfl|⟨_,rfl⟩<;>rfl,rfl,by rw[ef]⟩
  unfold Qnp QhZ
  rw[QR (show mB 2 (tsS cs (fr f0 fs) p fs fs.length s)=.ok (.lst (fs.map pl),_) from rfl) (show JN _=.ok ([],_) from rfl)]
  show(((Rs.of ((plL (fs.map pl)).bind fun ps=>if ps.Nodup/\ps.length<=4000 then some (Qaq ltP ps) else none)).bind fun ps=>_).bind _)=_
  rw[QcK,z69,if_pos ⟨B.nd,by omega⟩,ec];rfl))
end
variable {z:Z}
section
variable {ρ:Rho}{i:Nat}{par b:Bool}{cs ks fs ps:List P2}{f f0:P2->Bool}{p q:P2}
def plB (b:Bool)(p:P2):D:=if b then .lst [.int p.1,.int p.2] else pl p
def sqT (b:Bool)(ds:List D):D:=.nd (if b then .tup else .lst) ds
noncomputable def shD (s:List (List P2)):D:=.lst (s.map fun l=>.lst (l.map pl))
def toT:D->D
 |.nd _ ds=>.tup ds
 |d=>d
theorem Qj0:(ps.map (plB b)).map toT=ps.map pl:=by
 rw[zb8]
 exact zf7 fun p _=>by cases b<;>rfl
theorem Qak {i:Nat}{m:ME}{x:D}{ρ ρ1 ρ2:Rho}(e:m ρ=.ok (x,ρ1))(e1:YC ρ1 i x=some ρ2):QdZ i m ρ=.ok (.nx,ρ2):=by
 unfold QdZ
 rw[e]
 show((Rs.of (YC ρ1 i x)).bind _)=_
 rw[e1];rfl
theorem Qf9 {i:Nat}{m:ME}{x:D}{ρ ρ1 ρ2:Rho}(e:m ρ=.ok (x,ρ1))(e1:Qgp ρ1 i x=some ρ2):Qfc i m ρ=.ok (.nx,ρ2):=by
 unfold Qfc
 rw[e]
 show((Rs.of (Qgp ρ1 i x)).bind _)=_
 rw[e1];rfl
theorem Qga {i:Nat}{m:ME}{x:D}{ρ ρ1:Rho}{par:Bool}{ds:List D}(h0:Ys ρ i=some (par,ds))(e:m ρ=.ok (x,ρ1))(h1:Ys ρ1 i=some (par,ds))(hl:ds.length<8000):Qke i m ρ=.ok (.nx,ρ1.set i (some (mkS par (.lst (ds++[x]))))):=by
 unfold Qke
 rw[h0]
 show((m ρ).bind _)=_
 rw[e]
 show((Rs.of (Ys ρ1 i)).bind _)=_
 rw[h1]
 show(if ds.length<z20 then _ else _)=_
 rw[if_pos (Qbf hl)]
theorem Qhp {a b:Bool}{r:Rho}(hl:ps.length<1900):YT false [.me] 0 (QaV (mV 0)) Qly (mI (Qfb (Qt (mV 0) JN))) (~~~(sqT a (ps.map (plB b)))::r)=.ok (.lst (ps.map pl),~~~(sqT a (ps.map (plB b)))::r):=by
 have c:=comp_map (par:=false) (cs:=[.me]) (j:=0) (mi:=QaV (mV 0)) (te:=mI (Qfb (Qt (mV 0) JN))) (g:=toT) (ρ:= ~~~(sqT a (ps.map (plB b)))::r) (ρ1:= ~~~(sqT a (ps.map (plB b)))::r) (ρb:=[none]) (ds:=ps.map (plB b)) (di:=[]) (os:=[]) (JX (t:=if a then .tup else .lst) (by cases a<;>simp) rfl) rfl rfl (fun d hd=>by
  obtain⟨p,_,rfl⟩:=z87.mp hd
  exact⟨[~~~(plB b p)],rfl,by cases b<;>rfl,rfl⟩) (by rw[z14];exact zb9 (Qbf (by omega))) rfl rfl
 rw[c,Qj0]
theorem Qm8 {a b:Bool}{r:Rho}(hl:ps.length<1900):QfV (Qt (YT false [.me] 0 (QaV (mV 0)) Qly (mI (Qfb (Qt (mV 0) JN)))) JN) (~~~(sqT a (ps.map (plB b)))::r)=.ok (.lst ((QB ps).map pl),~~~(sqT a (ps.map (plB b)))::r):=by
 unfold QfV
 rw[QR (Qhp hl) (show JN _=.ok ([],_) from rfl)]
 show((Rs.of ((plL (ps.map pl)).bind fun ps=>if ps.length<1900 then some (Qaq ltP (upTo ps)) else none)).bind fun ps=>_)=_
 rw[QcK,z69,if_pos hl];rfl
def shS (h:D)(os:List P2)(s1 s2 s3:Option Sl):Rho:=[~~~h,~~~(.lst (os.map pl)),s1,s2,s3]
theorem QdC {f:P2->Bool}{p:P2}:∀{ks:List P2},p∈ks->Qa2 (ks.map Q9) (ks.map fun q=>D.bl (f q)) (Q9 p)=some (.bl (f p))
 | [],h=>nomatch h
 |k::ks,h=>by
  rw[z30,z30,Qa2]
  by_cases e:k=p
  ·subst e;rw[if_pos rfl]
  ·rw[if_neg fun z=>e (YX z)]
   exact QdC ((z26.mp h).resolve_left fun z=>e z.symm)
theorem Qm9 (hp:p∈ks):Qmq (dct ks f) (pl p)=some (.bl (f p)):=by
 show(Qd2 (pl p)).bind (fun k=>Qa2 (ks.map Q9) (ks.map fun q=>D.bl (f q)) k)=_
 rw[Qae,z69,QdC hp]
theorem Qeb {l:List P2}(hl:l.Nodup)(i:Nat)(h:l[i]? = some p):Ji (l.take i) p=l.take (i+1):=by
 have:p∉l.take i:=fun z=>by
  obtain⟨j,hj⟩:=z75 z
  rw[zy3] at hj
  split at hj
  ·rename_i ji
   obtain⟨a1,a2⟩:=z17.mp hj
   obtain⟨b1,b2⟩:=z17.mp h
   have:=(zd0 hl).mp (a2.trans b2.symm)
   omega
  ·cases hj
 unfold Ji
 rw[if_neg this,zj3,h];rfl
theorem Qj1 {S:List P2}(hf:f=fun q=>!decide (q∈S)):fr f fs=fun q=>!decide (q∈S++fs):=by
 funext q
 unfold fr
 rw[hf]
 dsimp only
 by_cases c1:q∈S<;>by_cases c2:q∈fs<;>simp[c1,c2]
theorem Qal {a b:Bool}(hl:ps.length<1900):Jz z [sqT a (ps.map (plB b))]=.ok (shD (shp ps)) []:=Qb8 (Yt (by
 dsimp only[Qbd]
 generalize hH:sqT a (ps.map (plB b))=hd
 have nd:=Qf3 ps
 have lo:(QB ps).length<1900:=zz4 (Qa9 ps) hl
 refine Ws (shS hd (QB ps) none none none) (by subst hH;exact⟨_,Qak (Qm8 hl) rfl,rfl,rfl⟩) ?_
 refine Ws (shS hd (QB ps) (some (.own (dct [] fun _=>true))) none none) ⟨_,rfl,rfl,rfl⟩ ?_
 refine Qaa (fun ρ=>∃s,ρ=shS hd (QB ps) (some (.own (dct (QB ps) fun _=>true))) s none/\frO s) ?_ ?_
 ·refine Qb1 (ds:=(QB ps).map pl) (ρ1:=shS hd (QB ps) (some (.own (dct [] fun _=>true))) none none) (fun i ρ=>∃s,ρ=shS hd (QB ps) (some (.own (dct ((QB ps).take i) fun _=>true))) s none/\frO s) (JX (.inl rfl) rfl) ⟨none,rfl,.inl rfl⟩ ?_ ?_
  ·rintro i d ρ hd' ⟨s,rfl,hs⟩
   rw[z31] at hd'
   obtain⟨p,hp,rfl⟩:=z05.mp hd'
   refine⟨shS hd (QB ps) (some (.own (dct ((QB ps).take i) fun _=>true))) (~~~(pl p)) none,by rcases hs with rfl|⟨_,rfl⟩<;>rfl,?_⟩
   exact⟨_,Qbg (i:=2) (par:=false) rfl rfl rfl (by rw[z39];omega),rfl,_,by rw[Qeb nd i hp];rfl,.inr ⟨_,rfl⟩⟩
  ·rintro ρ ⟨s,rfl,hs⟩
   refine⟨rfl,s,?_,hs⟩
   rw[z14,zc8]
 rintro ρ ⟨s,rfl,hs⟩
 refine Ws (shS hd (QB ps) (some (.own (dct (QB ps) fun _=>true))) s (some (.own (.lst [])))) ⟨_,rfl,rfl,rfl⟩ ?_
 refine Qaa (fun ρ=>∃f s,ρ=shS hd (QB ps) (some (.own (dct (QB ps) f))) s (some (.own (shD (shp ps))))/\frO s) ?_ ?_
 ·refine Qb1 (ds:=(QB ps).map pl) (ρ1:=shS hd (QB ps) (some (.own (dct (QB ps) fun _=>true))) s (some (.own (.lst [])))) (fun i ρ=>∃s,ρ=shS hd (QB ps) (some (.own (dct (QB ps) fun q=>!decide (q∈(Qdw (QB ps) ((QB ps).take i)).2)))) s (some (.own (shD (Qdw (QB ps) ((QB ps).take i)).1)))/\frO s) (JX (.inl rfl) rfl) ⟨s,rfl,hs⟩ ?_ ?_
  ·rintro i d ρ hd' ⟨s,rfl,hs⟩
   rw[z31] at hd'
   obtain⟨p,hp,rfl⟩:=z05.mp hd'
   have pm:p∈QB ps:=z56 hp
   have cl:=Cl.run nd ((QB ps).take i) fun x hx=>zb3 hx
   have sm:=Vl (cs:=QB ps) ((QB ps).take i)
   rw[Qb7 hp]
   generalize Qdw (QB ps) ((QB ps).take i)=A at cl sm
   refine⟨shS hd (QB ps) (some (.own (dct (QB ps) fun q=>!decide (q∈A.2)))) (~~~(pl p)) (some (.own (shD A.1))),by rcases hs with rfl|⟨_,rfl⟩<;>rfl,?_⟩
   have tst:V4 (mOp Qmq (mB 2) (mV 3)) (shS hd (QB ps) (some (.own (dct (QB ps) fun q=>!decide (q∈A.2)))) (~~~(pl p)) (some (.own (shD A.1))))=.ok (!decide (p∈A.2),shS hd (QB ps) (some (.own (dct (QB ps) fun q=>!decide (q∈A.2)))) (~~~(pl p)) (some (.own (shD A.1)))):=Q8 (Jo (x:=dct (QB ps) fun q=>!decide (q∈A.2)) (y:=pl p) (ρ1:=shS hd (QB ps) (some (.own (dct (QB ps) fun q=>!decide (q∈A.2)))) (~~~(pl p)) (some (.own (shD A.1)))) rfl rfl (Qm9 (f:=fun q=>!decide (q∈A.2)) pm))
   refine V9 (QfE tst)▸?_
   unfold YW
   by_cases c:p∈A.2
   ·rw[decide_eq_true c,if_neg (by decide),if_pos c]
    exact⟨_,rfl,rfl,_,rfl,.inr ⟨_,rfl⟩⟩
   ·rw[decide_eq_false c,if_pos (by decide),if_neg c]
    have ts:=Qbh (z:=z) (cs:=QB ps) (f0:=fun q=>!decide (q∈A.2)) (S:=A.2) nd (by omega) pm cl (fun q _=>by simp) (by simp[c])
    have l1:=sm.1
    rw[z39] at l1
    refine⟨(.nx,shS hd (QB ps) (some (.own (dct (QB ps) fun q=>!decide (q∈A.2++cmp (QB ps) p)))) (~~~(pl p)) (some (.own (shD (A.1++[cmp (QB ps) p]))))),?_,rfl,_,rfl,.inr ⟨_,rfl⟩⟩
    have ec:Jm false [some 2,none] (Jh z) (Qt (mS 2) (Qt (mV 3) JN)) (shS hd (QB ps) (some (.own (dct (QB ps) fun q=>!decide (q∈A.2)))) (~~~(pl p)) (some (.own (shD A.1))))=.ok (.lst ((cmp (QB ps) p).map pl),shS hd (QB ps) (some (.own (dct (QB ps) fun q=>!decide (q∈A.2++cmp (QB ps) p)))) (~~~(pl p)) (some (.own (shD A.1)))):=by
     unfold Jm
     rw[QR (show mS 2 (shS hd (QB ps) (some (.own (dct (QB ps) fun q=>!decide (q∈A.2)))) (~~~(pl p)) (some (.own (shD A.1))))=.ok (dct (QB ps) fun q=>!decide (q∈A.2),_) from rfl) (QR (show mV 3 _=.ok (pl p,_) from rfl) (show JN _=.ok ([],_) from rfl))]
     show(match Jh z [dct (QB ps) fun q=>!decide (q∈A.2),pl p] with
      |.ok d outs=>_
      |.ex c=>_
      |.no=>_)=_
     rw[ts,Qj1 rfl];rfl
    rw[Qga (i:=4) (par:=false) (ds:=A.1.map fun l=>.lst (l.map pl)) rfl ec rfl (by rw[z14];omega)]
    unfold shD
    rw[z50];rfl
  ·rintro ρ ⟨s,rfl,hs⟩
   rw[z14,zc8]
   exact⟨rfl,_,s,rfl,hs⟩
 rintro ρ ⟨f,s,rfl,hs⟩
 refine⟨_,rfl,_,[],rfl,?_,rfl,rfl⟩
 rcases hs with rfl|⟨_,rfl⟩<;>rfl))
end
variable {z:Z}
section
variable {ρ:Rho}{i:Nat}{par b:Bool}{ks K ws:List P2}{f:P2->Bool}{p q x:P2}
abbrev tru:P2->Bool:=fun _=>true
theorem Qgb {g:Bool->Bool}{my md:ME}(h1:my ρ=.ok (pl p,ρ))(h2:md ρ=.ok (dct ks f,ρ)):QlF g my md ρ=.ok (.bl (g (decide (p∈ks))),ρ):=by
 unfold QlF
 rw[h1]
 show((md ρ).bind _)=_
 rw[h2]
 show Rs.of ((QlE (pl p) (dct ks f)).map fun b=>(D.bl (g b),ρ))=_
 rw[Qhm];rfl
theorem Qhq {f:List D->Fr}{mr:MA}{ρ1:Rho}{x d:D}(h:mr ρ=.ok ([x],ρ1))(e:f [x]=.ok d []):Jm false [none] f mr ρ=.ok (d,ρ1):=by
 unfold Jm
 rw[h]
 show(match f [x] with
  |.ok d outs=>Rs.ok (d,JP false ρ1 [] outs)
  |.ex c=>(if([]:List Nat).isEmpty=true then Rs.ex c ρ1 else .no)
  |.no=>.no)=_
 rw[e];rfl
theorem Qj2 {ys:List D}:gNe (.lst ys) (.lst [])=some (.bl (!ys.isEmpty)):=by
 cases ys<;>rfl
structure Df (ks:List P2)(p:P2)(K ws:List P2):Prop where
 nd:K.Nodup
 st:p∈K
 rc:∀q∈K,q∈ks/\Rch ks p q
 sb:∀q∈ws,q∈K
 le:ws.length<=K.length
 dn:∀q∈K,q∉ws->∀r∈nb q,r∈ks->r∈K
def reS (ks:List P2)(p:P2)(K ws:List P2)(s4 s5:Option Sl):Rho:=[~~~(dct ks tru),~~~(pl p),some (.own (dct K tru)),some (.own (.lst (ws.map pl))),s4,s5]
theorem Qgc (h:p∉K):Ji K p=K++[p]:=if_neg h
theorem Qec (nd:K.Nodup)(h:p∉K):(K++[p]).Nodup:=z07.mpr ⟨nd,z53.mpr ⟨by simp,.nil⟩,fun a ha b hb e=>by rw[z19] at hb;subst hb;subst e;exact h ha⟩
theorem Qed (hk:ks.Nodup)(hl:ks.length<1900)(hp:p∈ks):FW (Yk z [dct ks tru,pl p]) (fun d os=>os=[]/\∃K,d=dct K tru/\K.Nodup/\∀q,q∈K↔Rch ks p q):=Yt (by
 dsimp only[Jj]
 refine Ws [~~~(dct ks tru),~~~(pl p),some (.own (dct [p] tru)),none,none,none] ⟨_,rfl,rfl,rfl⟩ ?_
 refine Ws (reS ks p [p] [p] none none) ⟨_,rfl,rfl,rfl⟩ ?_
 refine Qaa (fun ρ=>∃K s4 s5,ρ=reS ks p K [] s4 s5/\frO s4/\frO s5/\Df ks p K []) ?_ ?_
 ·refine Qf4 (fun n ρ=>∃K ws s4 s5,ρ=reS ks p K ws s4 s5/\frO s4/\frO s5/\n=2 * (ks.length - K.length)+ws.length/\Df ks p K ws) (n:=2 * (ks.length - 1)+1) ?_ ⟨[p],[p],none,none,rfl,.inl rfl,.inl rfl,rfl,by simp,by simp,fun q hq=>by rw[z19.mp hq];exact⟨hp,.base⟩,fun q hq=>hq,z18 _,fun q hq n=>absurd hq n⟩ (by omega)
  rintro n ρ ⟨K,ws,s4,s5,rfl,h4,h5,rfl,B⟩
  refine⟨(!(ws.map pl).isEmpty,reS ks p K ws s4 s5),Q8 (Jo rfl rfl Qj2),fun h=>?_,fun h=>?_⟩
  ·obtain⟨ws,x,rfl⟩:∃ws' x,ws=ws'++[x]:=by
    rcases List.eq_nil_or_concat ws with rfl|⟨l,x,rfl⟩
    ·cases h
    ·exact⟨l,x,by simp⟩
   have xK:x∈K:=B.sb x (by simp)
   refine Ws (reS ks p K ws (~~~(pl x)) s5) ?_ ?_
   ·refine Qi.mpr (Qo6 (par:=false) (xs:=ws.map pl) (d:=pl x) (by show some (some (Sl.own (D.lst ((ws++[x]).map pl))))=_;rw[z50];rfl) (by have:=Jg (ws++[x]);rw[z50] at this;exact this) ?_)
    refine⟨(.nx,reS ks p K ws (~~~(pl x)) s5),?_,rfl,rfl⟩
    rcases h4 with rfl|⟨_,rfl⟩<;>rfl
   refine Qb1 (ds:=(nb x).map pl) (ρ1:=reS ks p K ws (~~~(pl x)) s5) (fun i ρ=>∃t s5,ρ=reS ks p (K++t) (ws++t) (~~~(pl x)) s5/\frO s5/\(K++t).Nodup/\(∀q∈K++t,q∈ks/\Rch ks p q)/\∀r∈(nb x).take i,r∈ks->r∈K++t) ?_ ⟨[],s5,by simp,h5,by simpa using B.nd,by simpa using B.rc,fun r hr=>by simp at hr⟩ ?_ ?_
   ·refine JX (.inl rfl) ?_
    exact Qhq rfl Qea
   ·rintro i d ρ hd' ⟨t,s5,rfl,h5,nd,rc,k'⟩
    rw[z31] at hd'
    obtain⟨r,hr,rfl⟩:=z05.mp hd'
    have rn:r∈nb x:=z56 hr
    have tk:(nb x).take (i+1)=(nb x).take i++[r]:=by rw[zj3,hr];rfl
    refine⟨reS ks p (K++t) (ws++t) (~~~(pl x)) (~~~(pl r)),by rcases h5 with rfl|⟨_,rfl⟩<;>rfl,?_⟩
    refine V9 (QfE (and_eq (b:=decide (r∈ks)) (c:=!decide (r∈K++t)) (Q8 (Qgb (g:=id) (my:=mV 5) (md:=mV 0) (ρ:=reS ks p (K++t) (ws++t) (~~~(pl x)) (~~~(pl r))) rfl rfl)) (fun _=>Q8 (Qgb (g:=not) (my:=mV 5) (md:=mB 2) rfl rfl)) (fun _=>rfl)))▸?_
    have lk:(K++t).length<=ks.length:=sub_len nd fun q hq=>(rc q hq).1
    cases e:decide (r∈ks) && !decide (r∈K++t) with
    |true=>
     obtain⟨c1,c2⟩:=z48.mp e
     have c1:=of_decide_eq_true c1
     have c2:r∉K++t:=by
      intro z;rw[decide_eq_true z] at c2;cases c2
     rw[if_pos rfl]
     refine Ws (reS ks p (K++t++[r]) (ws++t) (~~~(pl x)) (~~~(pl r))) ⟨_,Qbg (i:=2) (par:=false) rfl rfl rfl (by omega),rfl,by rw[Qgc c2];rfl⟩ ?_
     refine⟨(.nx,reS ks p (K++t++[r]) (ws++t++[r]) (~~~(pl x)) (~~~(pl r))),?_,rfl,t++[r],_,by rw[z15,z15],.inr ⟨_,rfl⟩,by rw[← z15];exact Qec nd c2,fun q hq=>?_,fun y hy h1=>?_⟩
     ·have lws:(ws++t).length<8000:=by
       have:=B.le
       rw[z10] at this lk ⊢
       omega
      rw[Qga (i:=3) (par:=false) (ds:=(ws++t).map pl) (x:=pl r) (ρ1:=reS ks p (K++t++[r]) (ws++t) (~~~(pl x)) (~~~(pl r))) rfl rfl rfl (by rw[z14];exact lws)]
      unfold reS
      rw[z50 (l₁:=ws++t)];rfl
     ·rw[← z15] at hq
      rcases z04.mp hq with hq|hq
      ·exact rc q hq
      ·rw[z19.mp hq];exact⟨c1,(B.rc x xK).2.step rn c1⟩
     ·rw[← z15]
      rw[tk] at hy
      rcases z04.mp hy with hy|hy
      ·exact z08 _ (k' y hy h1)
      ·exact z01 _ hy
    |false=>
     rw[if_neg z23]
     refine⟨_,rfl,rfl,t,_,rfl,.inr ⟨_,rfl⟩,nd,rc,fun y hy h1=>?_⟩
     rw[tk] at hy
     rcases z04.mp hy with hy|hy
     ·exact k' y hy h1
     ·rw[z19] at hy
      subst hy
      rw[decide_eq_true h1,zj7] at e
      exact of_decide_eq_true (by simpa only[zy7] using e)
   ·rintro ρ ⟨t,s5,rfl,h5,nd,rc,k'⟩
    have lk:(K++t).length<=ks.length:=sub_len nd fun q hq=>(rc q hq).1
    rw[z10] at lk
    refine⟨rfl,2 * (ks.length - (K++t).length)+(ws++t).length,?_,K++t,ws++t,_,s5,rfl,.inr ⟨_,rfl⟩,h5,rfl,nd,z08 _ B.st,rc,fun q hq=>?_,by have:=B.le;rw[z10] at this ⊢;rw[z10];omega,fun q hq hw r hr hm=>?_⟩
    ·rw[z10,z10,z10,zd7];omega
    ·rcases z04.mp hq with hq|hq
     ·exact z08 _ (B.sb q (by simp[hq]))
     ·exact z01 _ hq
    ·by_cases e:q=x
     ·subst e
      exact k' r (by rw[z76 (by simp)];exact hr) hm
     ·have hqK:q∈K:=(z04.mp hq).resolve_right fun z=>hw (z01 _ z)
      exact z08 _ (B.dn q hqK (fun z=>by
       rcases z04.mp z with z|z
       ·exact hw (z08 _ z)
       ·exact e (z19.mp z)) r hr hm)
  ·have e:ws=[]:=by
    cases ws with
    |nil=>rfl
    |cons a l=>cases h
   subst e
   exact⟨rfl,K,s4,s5,rfl,h4,h5,B⟩
 ·rintro ρ ⟨K,s4,s5,rfl,h4,h5,B⟩
  refine⟨_,rfl,_,[],rfl,?_,rfl,K,rfl,B.nd,fun q=>⟨fun h=>(B.rc q h).2,fun h=>?_⟩⟩
  ·rcases h4 with rfl|⟨_,rfl⟩<;>rcases h5 with rfl|⟨_,rfl⟩<;>rfl
  ·induction h with
   |base=>exact B.st
   |step h n m ih=>exact B.dn _ ih (fun z=>nomatch z) _ n m)
end
variable {z:Z}
section
variable {ρ:Rho}{i:Nat}{par b:Bool}{cs ks ps K S:List P2}{f:P2->Bool}{p q x:P2}
theorem QdD {mr:MA}{ρ1:Rho}(h:mr ρ=.ok ([dct ks f],ρ1))(nd:ks.Nodup)(hl:ks.length<=4000):QfX mr ρ=.ok (.lst ((Qaq ltP ks).map pl),ρ1):=by
 unfold QfX
 rw[h]
 show((Rs.of ((Qb5 (ks.map Q9)).bind fun ps=>if ps.Nodup/\ps.length<=4000 then some (Qaq ltP ps) else none)).bind fun ps=>Rs.ok (D.lst (ps.map pl),ρ1))=_
 rw[Qad,z69,if_pos ⟨nd,hl⟩];rfl
theorem Qj3 {m:ME}(hi:ρ[i]? = some (some (mkS par (dct S tru))))(hm:m ρ=.ok (dct K tru,ρ))(nd:(S++K).Nodup)(hl:S.length+K.length<=4000)(hg:∀p∈K,inG p=true):Qo1 i m ρ=.ok (.nx,ρ.set i (some (mkS par (dct (S++K) tru)))):=by
 unfold Qo1
 rw[QaB hi]
 show((m ρ).bind _)=_
 rw[hm]
 show((Rs.of (Qd3 ρ i)).bind _)=_
 rw[QaB hi]
 show((Rs.of ((Qb5 (K.map Q9)).bind fun ps=>if(S.map Q9++K.map Q9).Nodup/\(S.map Q9).length+(K.map Q9).length<=4000/\ps.all inG=true/\D.QL (S.map fun q=>D.bl (tru q))=true/\D.QL (K.map fun q=>D.bl (tru q))=true then some (S.map Q9++K.map Q9,(S.map fun q=>D.bl (tru q))++K.map fun q=>D.bl (tru q)) else none)).bind fun t=>Rs.ok (Fl.nx,ρ.set i (some (mkS par (.nd (.dT t.1) t.2)))))=_
 have hnd:(S.map Q9++K.map Q9).Nodup:=by
  rw[← z50]
  exact z91.mpr (nd.imp fun h e=>h (YX e))
 rw[Qad,z69,if_pos ⟨hnd,by rw[z14,z14];exact hl,z88.mpr hg,Qba S tru,Qba K tru⟩]
 unfold dct
 rw[z50,z50];rfl
def lsS (ps:List P2)(s1 s2 s3 s4 s5:Option Sl):Rho:=[~~~(.lst (ps.map pl)),s1,s2,s3,s4,s5]
theorem Qee (hl:ps.length<1900)(hg:∀p∈ps,inG p=true):Y4 z [.lst (ps.map pl)]=.ok (shD (shp ps)) []:=Qb8 (Yt (by
 dsimp only[JC]
 have und:=Yr ps
 have ul:=YL ps
 have ond:=Qf3 ps
 have ol:=Qa9 ps
 have um:∀q,q∈upTo ps↔q∈QB ps:=fun q=>(Vz ps q).trans Qdv.symm
 refine Ws (lsS ps (some (.own (dct [] tru))) none none none none) ⟨_,rfl,rfl,rfl⟩ ?_
 refine Qaa (fun ρ=>∃s,ρ=lsS ps (some (.own (dct (upTo ps) tru))) s none none none/\frO s) ?_ ?_
 ·refine Qb1 (ds:=ps.map pl) (ρ1:=lsS ps (some (.own (dct [] tru))) none none none none) (fun i ρ=>∃s,ρ=lsS ps (some (.own (dct (upTo (ps.take i)) tru))) s none none none/\frO s) (JX (.inl rfl) rfl) ⟨none,rfl,.inl rfl⟩ ?_ ?_
  ·rintro i d ρ hd' ⟨s,rfl,hs⟩
   rw[z31] at hd'
   obtain⟨p,hp,rfl⟩:=z05.mp hd'
   have tk:ps.take (i+1)=ps.take i++[p]:=by rw[zj3,hp];rfl
   have:=YL (ps.take i)
   refine⟨lsS ps (some (.own (dct (upTo (ps.take i)) tru))) (~~~(pl p)) none none none,by rcases hs with rfl|⟨_,rfl⟩<;>rfl,?_⟩
   exact⟨_,Qbg (i:=1) (par:=false) rfl rfl rfl (by rw[z39] at this;omega),rfl,_,by rw[tk,QbM];rfl,.inr ⟨_,rfl⟩⟩
  ·rintro ρ ⟨s,rfl,hs⟩
   rw[z14,zc8]
   exact⟨rfl,s,rfl,hs⟩
 rintro ρ ⟨s,rfl,hs⟩
 refine Ws (lsS ps (some (.own (dct (upTo ps) tru))) s (some (.own (dct [] tru))) none none) ⟨_,rfl,rfl,rfl⟩ ?_
 refine Ws (lsS ps (some (.own (dct (upTo ps) tru))) s (some (.own (dct [] tru))) (some (.own (.lst []))) none) ⟨_,rfl,rfl,rfl⟩ ?_
 refine Qaa (fun ρ=>∃s S s5,ρ=lsS ps (some (.own (dct (upTo ps) tru))) s (some (.own (dct S tru))) (some (.own (shD (shp ps)))) s5/\frO s/\frO s5) ?_ ?_
 ·refine Qb1 (ds:=(QB ps).map pl) (ρ1:=lsS ps (some (.own (dct (upTo ps) tru))) s (some (.own (dct [] tru))) (some (.own (.lst []))) none) (fun i ρ=>∃s S s5,ρ=lsS ps (some (.own (dct (upTo ps) tru))) s (some (.own (dct S tru))) (some (.own (shD (Qdw (QB ps) ((QB ps).take i)).1))) s5/\frO s/\frO s5/\S.Nodup/\∀q,q∈S↔q∈(Qdw (QB ps) ((QB ps).take i)).2) (JX (.inl rfl) (QdD rfl und (by omega))) ⟨s,[],none,rfl,hs,.inl rfl,.nil,fun q=>zy5⟩ ?_ ?_
  ·rintro i d ρ hd' ⟨s,S,s5,rfl,hs,h5,Snd,Sm⟩
   rw[z31] at hd'
   obtain⟨p,hp,rfl⟩:=z05.mp hd'
   have pm:p∈QB ps:=z56 hp
   have cl:=Cl.run ond ((QB ps).take i) fun x hx=>zb3 hx
   have sm:=Vl (cs:=QB ps) ((QB ps).take i)
   rw[Qb7 hp]
   generalize Qdw (QB ps) ((QB ps).take i)=A at cl sm Sm
   refine⟨lsS ps (some (.own (dct (upTo ps) tru))) (~~~(pl p)) (some (.own (dct S tru))) (some (.own (shD A.1))) s5,by rcases hs with rfl|⟨_,rfl⟩<;>rfl,?_⟩
   have tst:V4 (QlF not (mV 2) (mB 3)) (lsS ps (some (.own (dct (upTo ps) tru))) (~~~(pl p)) (some (.own (dct S tru))) (some (.own (shD A.1))) s5)=.ok (!decide (p∈S),lsS ps (some (.own (dct (upTo ps) tru))) (~~~(pl p)) (some (.own (dct S tru))) (some (.own (shD A.1))) s5):=Q8 (Qgb rfl rfl)
   refine V9 (QfE tst)▸?_
   unfold YW
   by_cases c:p∈A.2
   ·rw[decide_eq_true ((Sm p).mpr c),if_neg (by decide),if_pos c]
    exact⟨_,rfl,rfl,_,S,s5,rfl,.inr ⟨_,rfl⟩,h5,Snd,Sm⟩
   ·rw[decide_eq_false fun z=>c ((Sm p).mp z),if_pos (by decide),if_neg c]
    obtain⟨d,os,er,rfl,K,rfl,Knd,Km⟩:=Qed (z:=z) und (by omega) ((um p).mpr pm)
    have Km':∀q,q∈K↔Rch (QB ps) p q:=fun q=>(Km q).trans ⟨Rch.congr um,Rch.congr fun q=>(um q).symm⟩
    have ec:=Qh2 ond pm Knd Km'
    have cm:∀q,q∈cmp (QB ps) p↔q∈K:=fun q=>(Vk pm).trans (Km' q).symm
    have cl2:=cl.step (acc:=A.1) (p:=p) ond pm
    unfold YW at cl2
    rw[if_neg c] at cl2
    have snd:(S++K).Nodup:=by
     refine z07.mpr ⟨Snd,Knd,fun a ha b hb e=>?_⟩
     subst e
     exact(z07.mp cl2.nd).2.2 a ((Sm a).mp ha) a ((cm a).mpr hb) rfl
    have sl:(S++K).length<=(QB ps).length:=sub_len snd fun x hx=>by
     rcases z04.mp hx with hx|hx
     ·exact cl.sub x ((Sm x).mp hx)
     ·exact((Km' x).mp hx).mem pm
    rw[z10] at sl
    have l1:=sm.1
    rw[z39] at l1
    refine Ws (lsS ps (some (.own (dct (upTo ps) tru))) (~~~(pl p)) (some (.own (dct S tru))) (some (.own (shD A.1))) (~~~(dct K tru))) ?_ ?_
    ·refine⟨_,Qak (Q0 (rk:=.O) (args:=[dct (upTo ps) tru,pl p]) rfl er fun z=>nomatch z) ?_,rfl,rfl⟩
     rcases h5 with rfl|⟨_,rfl⟩<;>rfl
    refine Ws (lsS ps (some (.own (dct (upTo ps) tru))) (~~~(pl p)) (some (.own (dct (S++K) tru))) (some (.own (shD A.1))) (~~~(dct K tru))) ⟨_,Qj3 (i:=3) (par:=false) rfl rfl snd (by omega) (fun x hx=>hg x (Qdv.mp (((Km' x).mp hx).mem pm))),rfl,rfl⟩ ?_
    refine⟨(.nx,lsS ps (some (.own (dct (upTo ps) tru))) (~~~(pl p)) (some (.own (dct (S++K) tru))) (some (.own (shD (A.1++[cmp (QB ps) p])))) (~~~(dct K tru))),?_,rfl,_,S++K,_,rfl,.inr ⟨_,rfl⟩,.inr ⟨_,rfl⟩,snd,fun q=>?_⟩
    ·rw[Qga (i:=4) (par:=false) (ds:=A.1.map fun l=>.lst (l.map pl)) rfl (QdD (ks:=K) (f:=tru) rfl Knd (by omega)) rfl (by rw[z14];omega),ec]
     unfold shD
     rw[z50];rfl
    ·rw[z04,z04,Sm q,cm q]
  ·rintro ρ ⟨s,S,s5,rfl,hs,h5,_,_⟩
   rw[z14,zc8]
   exact⟨rfl,s,S,s5,rfl,hs,h5⟩
 rintro ρ ⟨s,S,s5,rfl,hs,h5⟩
 refine⟨_,rfl,_,[],rfl,?_,rfl,rfl⟩
 rcases hs with rfl|⟨_,rfl⟩<;>rcases h5 with rfl|⟨_,rfl⟩<;>rfl))
end
variable {z:Z}
section
variable {ρ:Rho}{i:Nat}{par:Bool}{ps:List P2}{p q:P2}{d:D}{xs:List Int}
theorem Qbi {j:Nat}{tc:MT}{te:ME}{Inv:Rho->Prop}{Pd:D->Prop}:∀{ds:List D} {ρ:Rho} {acc:List D},(∀d∈ds,∀ρ,Inv ρ->∃ρ0,YC ρ j d=some ρ0/\W (tc ρ0) fun c=>(c.1=true->W (te c.2) fun r=>Inv (r.2.set j none)/\Pd r.1)/\(c.1=false->Inv (c.2.set j none)))->Inv ρ->(∀y∈acc,Pd y)->acc.length+ds.length<=z20->
  W (Vg j tc te ds ρ acc) fun q=>Inv q.2/\q.1.length<=acc.length+ds.length/\∀y∈q.1,Pd y
 | [],ρ,acc,h,i,ha,l=>Qd4.mpr ⟨i,z18 _,ha⟩
 |d::ds,ρ,acc,h,i,ha,l=>by
  obtain⟨ρ0,e0,h1⟩:=h d z12 ρ i
  unfold Vg
  rw[e0]
  rw[z25] at l
  refine Qi.mpr (Qov.mpr (Qi.mpr (h1.mono fun c hz=>?_)))
  obtain⟨h2,h3⟩:=hz
  cases hc:c.1 with
  |true=>
   rw[if_pos rfl]
   refine Qi.mpr ((h2 hc).mono fun r hz=>?_)
   obtain⟨h3,h4⟩:=hz
   rw[if_pos (by omega)]
   refine(Qbi (acc:=acc++[r.1]) (fun d' hd'=>h d' (z09 _ hd')) h3 (fun y hy=>?_) (by rw[z10,zd7];omega)).mono fun q ⟨h5,h6,h7⟩=>⟨h5,?_,h7⟩
   ·rcases z04.mp hy with hy|hy
    ·exact ha y hy
    ·rw[z19.mp hy];exact h4
   ·rw[z10,zd7] at h6
    rw[z25];omega
  |false=>
   rw[if_neg z23]
   refine(Qbi (acc:=acc) (fun d' hd'=>h d' (z09 _ hd')) (h3 hc) ha (by omega)).mono fun q hz=>?_
   obtain⟨h5,h6,h7⟩:=hz
   refine⟨h5,?_,h7⟩
   rw[z25];omega
theorem Qj4 {cs:List Cp}{j:Nat}{mi:MA}{tc:MT}{te:ME}{ρ1 ρb:Rho}{ds di:List D}{k:D×Rho->Prop}{Inv:Rho->Prop}{Pd:D->Prop}(h1:mi ρ=.ok (ds,ρ1))(h2:Yd par ρ1 (cs.filterMap Cp.is)=some di)(h3:Qan ρ1 cs di=some ρb)
  (hs:∀d∈ds,∀ρ,Inv ρ->∃ρ0,YC ρ j d=some ρ0/\W (tc ρ0) fun c=>(c.1=true->W (te c.2) fun r=>Inv (r.2.set j none)/\Pd r.1)/\(c.1=false->Inv (c.2.set j none))) (i:Inv ρb) (l:ds.length<=z20)
  (hk:∀ys ρ2,Inv ρ2->ys.length<=ds.length->(∀y∈ys,Pd y)->∃os,outs (ioB cs) ρ2=some os/\k (.lst ys,JP par ρ1 (cs.filterMap Cp.is) os)):W (YT par cs j mi tc te ρ) k:=by
 obtain⟨⟨q1,q2⟩,e,h4,h5,h7⟩:=Qbi (acc:=[]) hs i (fun _ z=>nomatch z) (by simpa using l)
 obtain⟨os,ho,h6⟩:=hk q1 q2 h4 (by simpa using h5) h7
 refine⟨_,?_,h6⟩
 unfold YT
 rw[h1]
 show((Rs.of (Yd par ρ1 (cs.filterMap Cp.is))).bind _)=_
 rw[h2]
 show((Rs.of (Qan ρ1 cs di)).bind _)=_
 rw[h3]
 show(match Vg j tc te ds ρb [] with|.ok q=>(Rs.of (outs (ioB cs) q.2)).bind fun os=>Rs.ok (D.lst q.1,JP par ρ1 (cs.filterMap Cp.is) os)|_=>.no)=_
 rw[e]
 show((Rs.of (outs (ioB cs) q2)).bind _)=_
 rw[ho]
 rfl
theorem tkE {par:Bool}{i:Nat}{mN:ME}{ρ:Rho}{p:D}{n:Int}(hp:Pot p)(h0:0<n)(h1:n<Qh4)(hi:ρ[i]? = some (some (mkS par p)))(hn:mN ρ=.ok (.int n,ρ)) :
  ∃r q,Pot q/\0<=r/\r<n/\Jm par [some i,none] (Qy z) (Qt (mS i) (Qt mN JN)) ρ=.ok (.int r,ρ.set i (some (mkS par q))):=by
 have e1:mS i ρ=.ok (p,ρ):=by unfold mS;rw[hi];cases par<;>rfl
 have h:W (Jm par [some i,none] (Qy z) (Qt (mS i) (Qt mN JN)) ρ) (fun a=>∃r q,Pot q/\0<=r/\r<n/\a=(.int r,ρ.set i (some (mkS par q)))):=by
  refine QfA (args:=[p,.int n]) (dis:=[p]) (P:=spT n) (ρ1:=ρ) (QR e1 (QR hn rfl)) ?_ (Qbe hp h0 h1) ?_
  ·show Yd par ρ [i]=_
   unfold Yd Yd;rw[hi];cases par<;>rfl
  ·rintro d os ⟨r,q,rfl,rfl,hq,g0,g1⟩
   exact⟨r,q,hq,g0,g1,rfl⟩
 obtain⟨_,e,r,q,a1,a2,a3,rfl⟩:=h
 exact⟨r,q,a1,a2,a3,e⟩
theorem size_eq {i:Nat}{ρ:Rho}{p:D}(hp:Pot p)(hi:ρ[i]? = some (some (.own p))):∃(n:Nat) (q:D),Pot q/\1<=n/\n<=30/\Jm false [some i] (JB z) (Qt (mS i) JN) ρ=.ok (.int n,ρ.set i (some (.own q))):=by
 have e1:mS i ρ=.ok (p,ρ):=by unfold mS;rw[hi]
 have h:W (Jm false [some i] (JB z) (Qt (mS i) JN) ρ) (fun a=>∃(n:Nat) (q:D),Pot q/\1<=n/\n<=30/\a=(.int n,ρ.set i (some (.own q)))):=by
  refine QfA (args:=[p]) (dis:=[p]) (P:=QpL) (ρ1:=ρ) (QR e1 rfl) ?_ (QjX hp) ?_
  ·show Yd false ρ [i]=_
   unfold Yd Yd;rw[hi];rfl
  ·rintro d os ⟨n,q,rfl,rfl,hq,g0,g1⟩
   exact⟨n,q,hq,g0,g1,rfl⟩
 obtain⟨_,e,n,q,a1,a2,a3,rfl⟩:=h
 exact⟨n,q,a1,a2,a3,e⟩
theorem Qbj (xs:List Int)(k:Int)(hk:0<=k):∃p,Pot p/\J5 z [script xs,.int k]=.ok p []:=by
 obtain⟨d,os,e,rfl,hp⟩:=Qho (z:=z) xs k hk
 exact⟨d,hp,e⟩
def QpM (d:D):Prop:=∃p:P2,d=pl p/\inG p=true
theorem Qgd:∀{ys:List D},(∀y∈ys,QpM y)->∃ps:List P2,ys=ps.map pl/\∀p∈ps,inG p=true
 | [],_=>⟨[],rfl,fun _ h=>nomatch h⟩
 |y::ys,h=>by
  obtain⟨ps,rfl,hp⟩:=Qgd fun x hx=>h x (z09 _ hx)
  obtain⟨p,rfl,g⟩:=h y z12
  exact⟨p::ps,rfl,fun x hx=>by
   rcases z26.mp hx with rfl|hx
   ·exact g
   ·exact hp x hx⟩
def grS (xs:List Int)(s2 s3 s4 s5 s6 s7 s8:Option Sl):Rho:=[~~~(script xs),~~~(.int 0),s2,s3,s4,s5,s6,s7,s8]
theorem Qj5 (xs:List Int):FW (Qai z [script xs,.int 0]) (fun d os=>os=[]/\∃ps:List P2,d=.lst (ps.map pl)/\ps.length<=900/\∀p∈ps,inG p=true):=Yt (by
 dsimp only[Yz]
 obtain⟨p0,hp0,e0⟩:=Qbj (z:=z) xs 0 (by omega)
 refine Ws (grS xs (some (.own p0)) none none none none none none) ⟨_,Qf9 (Q0 (rk:=.O) (args:=[script xs,.int 0]) rfl e0 fun z=>nomatch z) rfl,rfl,rfl⟩ ?_
 obtain⟨h,p1,hp1,h1,h2,e1⟩:=size_eq (z:=z) (i:=2) (ρ:=grS xs (some (.own p0)) none none none none none none) hp0 rfl
 refine Ws (grS xs (some (.own p1)) (~~~(.int h)) none none none none none) ⟨_,Qak e1 rfl,rfl,rfl⟩ ?_
 obtain⟨w,p2,hp2,w1,w2,e2⟩:=size_eq (z:=z) (i:=2) (ρ:=grS xs (some (.own p1)) (~~~(.int h)) none none none none none) hp1 rfl
 refine Ws (grS xs (some (.own p2)) (~~~(.int h)) (~~~(.int w)) none none none none) ⟨_,Qak e2 rfl,rfl,rfl⟩ ?_
 obtain⟨r,p3,hp3,r1,r2,e3⟩:=tkE (z:=z) (par:=false) (i:=2) (mN:=mC (.int 7)) (n:=7) (ρ:=grS xs (some (.own p2)) (~~~(.int h)) (~~~(.int w)) none none none none) hp2 (by decide) (by decide) rfl rfl
 refine Ws (grS xs (some (.own p3)) (~~~(.int h)) (~~~(.int w)) (~~~(.int (1+r))) none none none) ⟨_,Qak (Jo (x:=.int 1) (y:=.int r) (d:=.int (1+r)) rfl e3 rfl) rfl,rfl,rfl⟩ ?_
 refine Ws (grS xs (some (.own p3)) (~~~(.int h)) (~~~(.int w)) (~~~(.int (1+r))) (some (.own (.lst []))) none none) ⟨_,rfl,rfl,rfl⟩ ?_
 refine Qaa (fun ρ=>∃(ps:List P2) (s7 s8:Option Sl),ρ=grS xs (some (.own p3)) (~~~(.int h)) (~~~(.int w)) (~~~(.int (1+r))) (some (.own (.lst (ps.map pl)))) s7 s8/\frO s7/\(s8=none\/∃d,s8=some (.own d))/\ps.length<=900/\∀p∈ps,inG p=true) ?_ ?_
 ·refine Qb1 (ds:=(z47 h).map fun j=>.int ((0:Int)+(j:Nat))) (ρ1:=grS xs (some (.own p3)) (~~~(.int h)) (~~~(.int w)) (~~~(.int (1+r))) (some (.own (.lst []))) none none) (fun i ρ=>∃(ps:List P2) (s7 s8:Option Sl),ρ=grS xs (some (.own p3)) (~~~(.int h)) (~~~(.int w)) (~~~(.int (1+r))) (some (.own (.lst (ps.map pl)))) s7 s8/\frO s7/\(s8=none\/∃d,s8=some (.own d))/\ps.length<=30 * i/\i<=h/\∀p∈ps,inG p=true) ?_ ⟨[],none,none,rfl,.inl rfl,.inl rfl,z18 _,z49 _,fun _ z=>nomatch z⟩ ?_ ?_
  ·have:=QfB (mr:=Qt (mV 3) JN) (ρ:=grS xs (some (.own p3)) (~~~(.int h)) (~~~(.int w)) (~~~(.int (1+r))) (some (.own (.lst []))) none none) (n:=(h:Int)) rfl (by omega) (by omega)
   rw[za2] at this
   exact this
  ·rintro i d ρ hd' ⟨ps,s7,s8,rfl,h7,h8,lp,_,hg⟩
   obtain⟨rfl,hi⟩:=Qh3 hd'
   refine⟨grS xs (some (.own p3)) (~~~(.int h)) (~~~(.int w)) (~~~(.int (1+r))) (some (.own (.lst (ps.map pl)))) (~~~(.int i)) s8,by rcases h7 with rfl|⟨_,rfl⟩<;>rfl,?_⟩
   obtain⟨q0,hq0,eq0⟩:=Qbj (z:=z) xs (0+1+i) (by omega)
   refine Ws (grS xs (some (.own p3)) (~~~(.int h)) (~~~(.int w)) (~~~(.int (1+r))) (some (.own (.lst (ps.map pl)))) (~~~(.int i)) (some (.own q0))) ?_ ?_
   ·refine⟨_,Qf9 (Q0 (rk:=.O) (args:=[script xs,.int (0+1+i)]) rfl eq0 fun z=>nomatch z) ?_,rfl,rfl⟩
    rcases h8 with rfl|⟨_,rfl⟩<;>rfl
   unfold Qnt
   refine Qi.mpr ⟨(false,ps.map pl),rfl,Qi.mpr ?_⟩
   refine Qj4 (Inv:=fun ρ=>∃q,Pot q/\ρ=[none,some (.par q),~~~(.int (1+r)),~~~(.int i)]) (Pd:=QpM) (di:=[q0]) (ρb:=[none,some (.par q0),~~~(.int (1+r)),~~~(.int i)]) (ds:=(z47 w).map fun j=>.int ((0:Int)+(j:Nat))) (ρ1:=grS xs (some (.own p3)) (~~~(.int h)) (~~~(.int w)) (~~~(.int (1+r))) (some (.own (.lst (ps.map pl)))) (~~~(.int i)) (some (.own q0))) ?_ rfl rfl ?_ ⟨q0,hq0,rfl⟩ (by rw[z14,z70];exact zb9 (Qbf (by omega))) ?_
   ·have:=QfB (mr:=Qt (mV 4) JN) (ρ:=grS xs (some (.own p3)) (~~~(.int h)) (~~~(.int w)) (~~~(.int (1+r))) (some (.own (.lst (ps.map pl)))) (~~~(.int i)) (some (.own q0))) (n:=(w:Int)) rfl (by omega) (by omega)
    rw[za2] at this
    exact this
   ·rintro d hd ρ ⟨q,hq,rfl⟩
    obtain⟨j,hj,rfl⟩:=z87.mp hd
    have hj:=z92.mp hj
    refine⟨[~~~(.int (0+j)),some (.par q),~~~(.int (1+r)),~~~(.int i)],rfl,?_⟩
    obtain⟨v,q',hq',v1,v2,ev⟩:=tkE (z:=z) (par:=true) (i:=1) (mN:=mC (.int 8)) (n:=8) (ρ:=[~~~(.int (0+j)),some (.par q),~~~(.int (1+r)),~~~(.int i)]) hq (by decide) (by decide) rfl rfl
    refine⟨(decide (v<1+r),[~~~(.int (0+j)),some (.par q'),~~~(.int (1+r)),~~~(.int i)]),Q8 (Jo ev rfl rfl),fun _=>⟨(pl ((i:Int),0+(j:Int)),[~~~(.int (0+j)),some (.par q'),~~~(.int (1+r)),~~~(.int i)]),rfl,⟨q',hq',rfl⟩,_,rfl,?_⟩,fun _=>⟨q',hq',rfl⟩⟩
    rw[QcL]
    dsimp only
    omega
   ·rintro ys ρ2 ⟨q,hq,rfl⟩ ly hy
    obtain⟨ps',rfl,hg'⟩:=Qgd hy
    rw[z14,z14,z70] at ly
    refine⟨[q],rfl,?_⟩
    refine⟨(.nx,grS xs (some (.own p3)) (~~~(.int h)) (~~~(.int w)) (~~~(.int (1+r))) (some (.own (.lst ((ps++ps').map pl)))) (~~~(.int i)) (some (.own q))),?_,rfl,ps++ps',_,_,rfl,.inr ⟨_,rfl⟩,.inr ⟨_,rfl⟩,by rw[z10];omega,hi,fun x hx=>?_⟩
    ·show(if(ps.map pl).length+(ps'.map pl).length<=z20 then _ else _)=_
     rw[if_pos (by rw[z14,z14];exact zb9 (Qbf (by omega))),z50];rfl
    ·rcases z04.mp hx with hx|hx
     ·exact hg x hx
     ·exact hg' x hx
  ·rintro ρ ⟨ps,s7,s8,rfl,h7,h8,lp,_,hg⟩
   rw[z14,z70] at lp
   exact⟨rfl,ps,s7,s8,rfl,h7,h8,by omega,hg⟩
 ·rintro ρ ⟨ps,s7,s8,rfl,h7,h8,lp,hg⟩
  refine⟨_,rfl,_,[],rfl,?_,rfl,ps,rfl,lp,hg⟩
  rcases h7 with rfl|⟨_,rfl⟩<;>rcases h8 with rfl|⟨_,rfl⟩<;>rfl)
end
variable {z:Z}
section
variable {ρ:Rho}{i:Nat}{par b:Bool}{ps qs:List P2}{q:P2}{d:D}
def tuS (q d:D)(qs:List P2)(s3 s4:Option Sl):Rho:=[some (.par q),~~~d,some (.own (.lst (qs.map pl))),s3,s4]
theorem Qge {n k:Nat}{l:List D}(h:k<n)(hn:l.length=n:=by simp):ixN l.length (k:Int)=some k:=by
 unfold ixN
 rw[hn]
 rw[if_pos (by omega)]
 rw[if_pos (by omega),za2]
theorem Qna {m:ME}{d:D}{ρ1:Rho}(h:m ρ=.ok (d,ρ1))(hi:d.imm=true):mI m ρ=.ok (d,ρ1):=by
 unfold mI
 rw[h]
 exact if_pos hi
theorem Qgf {P:D}(hp:Pot P)(hl:ps.length<1900):FW (Ja z [P,.lst (ps.map pl)]) (fun d os=>∃(Q:D) (qs:List P2),os=[Q]/\Pot Q/\d=.lst (qs.map pl)/\qs.Perm ps):=Yt (by
 dsimp only[JD]
 refine Ws (tuS P (.lst (ps.map pl)) ps none none) ⟨_,Qf9 (x:=.lst (ps.map pl)) (ρ1:=[some (.par P),~~~(.lst (ps.map pl)),none,none,none]) (by unfold QbR;show(if D.QL (ps.map pl)=true then _ else _)=_;rw[if_pos (Jg ps)];rfl) rfl,rfl,rfl⟩ ?_
 refine Qaa (fun ρ=>∃Q qs s3 s4,ρ=tuS Q (.lst (ps.map pl)) qs s3 s4/\frO s3/\frO s4/\Pot Q/\qs.Perm ps) ?_ ?_
 ·refine Qb1 (ds:=(z47 (ps.length - 1)).map fun j=>.int ((ps.length:Int) - 1 - (j:Nat))) (ρ1:=tuS P (.lst (ps.map pl)) ps none none) (fun i ρ=>∃Q qs s3 s4,ρ=tuS Q (.lst (ps.map pl)) qs s3 s4/\frO s3/\frO s4/\Pot Q/\qs.Perm ps) ?_ ⟨P,ps,none,none,rfl,.inl rfl,.inl rfl,hp,.refl _⟩ ?_ ?_
  ·unfold QmU
   rw[QR (Jo (x:=.int ps.length) (y:=.int 1) (d:=.int ((ps.length:Int) - 1)) (ρ1:=tuS P (.lst (ps.map pl)) ps none none) (ρ2:=tuS P (.lst (ps.map pl)) ps none none) (VG (QR rfl rfl) Qh6) rfl rfl) (show(Qt (mC (.int 0)) (Qt (mUn Qns (mC (.int 1))) JN)) (tuS P (.lst (ps.map pl)) ps none none)=.ok ([.int 0,.int (-1)],tuS P (.lst (ps.map pl)) ps none none) from rfl)]
   show((Rs.of (if(-1:Int) = -1/\-(2 ^ 61)<=(ps.length:Int) - 1/\(ps.length:Int) - 1<2 ^ 61/\-(2 ^ 61)<=(0:Int)/\(0:Int)<2 ^ 61 then some ((ps.length:Int) - 1,(0:Int)) else none)).bind fun n=>Rs.ok ((z47 (n.1 - n.2).toNat).map fun j=>D.int (n.1 - (j:Nat)),tuS P (.lst (ps.map pl)) ps none none))=_
   rw[if_pos ⟨rfl,by omega,by omega,by omega,by omega⟩]
   show Rs.ok ((z47 ((ps.length:Int) - 1 - 0).toNat).map fun j=>D.int ((ps.length:Int) - 1 - (j:Nat)),tuS P (.lst (ps.map pl)) ps none none)=_
   rw[show((ps.length:Int) - 1 - 0).toNat=ps.length - 1 by omega]
  ·rintro i d ρ hd' ⟨Q,qs,s3,s4,rfl,h3,h4,hQ,pm⟩
   rw[z31] at hd'
   obtain⟨j,hj,rfl⟩:=z05.mp hd'
   obtain⟨hi,ej⟩:=z17.mp hj
   rw[zi6] at ej
   rw[z70] at hi
   subst ej
   have lq:=pm.length_eq
   obtain⟨k,hk⟩:∃k:Nat,(ps.length:Int) - 1 - (i:Nat)=k:=⟨ps.length - 1 - i,by omega⟩
   rw[hk]
   have kl:k<qs.length:=by omega
   refine⟨tuS Q (.lst (ps.map pl)) qs (~~~(.int k)) s4,by rcases h3 with rfl|⟨_,rfl⟩<;>rfl,?_⟩
   obtain⟨o,Q',hQ',o1,o2,eo⟩:=tkE (z:=z) (par:=true) (i:=0) (mN:=mOp Qoj (mV 3) (mC (.int 1))) (n:=(k:Int)+1) (ρ:=tuS Q (.lst (ps.map pl)) qs (~~~(.int k)) s4) hQ (by omega) (Int.lt_of_lt_of_le (b:=10000) (by omega) (by decide)) rfl (Jo rfl rfl rfl)
   obtain⟨o',rfl⟩:=zc7 o1
   have ol:o' < qs.length:=by omega
   refine Ws (tuS Q' (.lst (ps.map pl)) qs (~~~(.int k)) (~~~(.int o'))) ⟨_,Qak eo (by rcases h4 with rfl|⟨_,rfl⟩<;>rfl),rfl,by rcases h4 with rfl|⟨_,rfl⟩<;>rfl⟩ ?_
   refine⟨(.nx,tuS Q' (.lst (ps.map pl)) ((qs.set k qs[o']).set o' qs[k]) (~~~(.int k)) (~~~(.int o'))),?_,rfl,Q',_,_,_,rfl,.inr ⟨_,rfl⟩,.inr ⟨_,rfl⟩,hQ',(List.set_set_perm kl ol).trans pm⟩
   have ia:ixN (qs.map pl).length (k:Int)=some k:=Qge kl
   have ib:ixN (qs.map pl).length (o':Int)=some o':=Qge ol
   have ev:Qno (Qt (mI (mOp gIx (mB 2) (mV 4))) (Qt (mI (mOp gIx (mB 2) (mV 3))) JN)) (tuS Q' (.lst (ps.map pl)) qs (~~~(.int k)) (~~~(.int o')))=.ok (.tup [pl qs[o'],pl qs[k]],tuS Q' (.lst (ps.map pl)) qs (~~~(.int k)) (~~~(.int o'))):=by
    unfold Qno
    rw[QR (Qna (Jo rfl rfl (QjZ (z03 ol))) rfl) (QR (Qna (Jo rfl rfl (QjZ (z03 kl))) rfl) (show JN _=.ok ([],_) from rfl))]
    rfl
   unfold QpJ
   rw[ev]
   show((Rs.of ((some (k:Int)).bind fun n=>ixN (qs.map pl).length n)).bind fun a=>(Rs.of ((some (o':Int)).bind fun n=>ixN (qs.map pl).length n)).bind fun b=>Rs.ok (Fl.nx,(tuS Q' (.lst (ps.map pl)) qs (~~~(.int k)) (~~~(.int o'))).set 2 (some (mkS false (.lst (((qs.map pl).set a (pl qs[o'])).set b (pl qs[k])))))))=_
   rw[z69,z69,ia,ib]
   show Rs.ok (Fl.nx,(tuS Q' (.lst (ps.map pl)) qs (~~~(.int k)) (~~~(.int o'))).set 2 (some (mkS false (.lst (((qs.map pl).set k (pl qs[o'])).set o' (pl qs[k]))))))=_
   rw[← List.map_set,← List.map_set];rfl
  ·rintro ρ ⟨Q,qs,s3,s4,rfl,h3,h4,hQ,pm⟩
   exact⟨rfl,Q,qs,s3,s4,rfl,h3,h4,hQ,pm⟩
 ·rintro ρ ⟨Q,qs,s3,s4,rfl,h3,h4,hQ,pm⟩
  refine⟨_,rfl,_,[Q],rfl,?_,Q,qs,rfl,hQ,rfl,pm⟩
  rcases h3 with rfl|⟨_,rfl⟩<;>rcases h4 with rfl|⟨_,rfl⟩<;>rfl)
end
variable {z:Z}
section
variable {ρ:Rho}{i:Nat}{par a b:Bool}{ps qs:List P2}{p q:P2}{xs:List Int}{d:D}
theorem QpN:plB false=pl:=by funext p;rfl
theorem Qnb:D.lst (ps.map pl)=sqT false (ps.map (plB false)):=by rw[QpN];rfl
theorem Qj6 {lo hi:Option Int}:cutD (ps.map pl) lo hi=(cutD ps lo hi).map pl:=by
 unfold cutD
 rw[z14,← List.map_drop,← List.map_take]
theorem Qj7 {lo hi:Option Int}:∀x∈cutD ps lo hi,x∈ps:=fun x hx=>by
 unfold cutD at hx
 exact zb4 (zb3 hx)
theorem Qj8 {lo hi:Option Int}:(cutD ps lo hi).length<=ps.length:=by
 unfold cutD
 rw[z39,z96];omega
theorem Qgg (h:∀q,q∈ps↔q∈qs):shp ps=shp qs:=by
 unfold shp
 rw[Qd9 h]
theorem QcP {n:Nat}{t:Tag}{ds:List D}(ht:t=.lst\/t=.tup)(h:∀d∈ds,d.pln n=true):(D.nd t ds).pln (n+1)=true:=by
 rcases ht with rfl|rfl
 ·exact z88.mpr h
 ·exact z88.mpr h
theorem Qgh {s:List (List P2)}:(shD s).pln 30=true:=QcP (.inl rfl) fun d hd=>by
 obtain⟨l,_,rfl⟩:=z87.mp hd
 exact QcP (.inl rfl) fun d hd=>by
  obtain⟨p,_,rfl⟩:=z87.mp hd
  exact QcP (.inr rfl) fun d hd=>by
   rcases z26.mp hd with rfl|hd
   ·rfl
   ·rw[z19.mp hd];rfl
theorem Qgi:∀{s:List (List P2)},(∀l∈s,l.length<=4000)->QjJ (s.map fun l=>D.lst (l.map pl))=true
 | [],_=>rfl
 |l::s,h=>by
  rw[z30]
  show(decide ((l.map pl).length<=4000) && QjJ _)=true
  rw[Qgi fun x hx=>h x (z09 _ hx),z14,decide_eq_true (h l z12)];rfl
theorem Qgj {P:PyData->Prop}:∀{ds:List D},(∀d∈ds,∃q,toP d=some q/\P q)->∃qs,QfF ds=some qs/\qs.length=ds.length/\∀q∈qs,P q
 | [],_=>⟨[],by simp[QfF],rfl,fun _ h=>nomatch h⟩
 |d::ds,h=>by
  obtain⟨q,e1,p1⟩:=h d z12
  obtain⟨qs,e2,l2,p2⟩:=Qgj (ds:=ds) fun x hx=>h x (z09 _ hx)
  refine⟨q::qs,by rw[QfF,e1,e2];rfl,by simp[l2],fun x hx=>?_⟩
  rcases z26.mp hx with rfl|hx
  ·exact p1
  ·exact p2 x hx
theorem Qnc {k b:Nat}{c:Bool}{ds:List D}{m:Nat}(h:∀d∈ds,∃q,toP d=some q/\Sw k b q)(hm:ds.length<=m):∃q,toP (sqT c ds)=some q/\Sw (k+1) ((b+1) * m) q:=by
 obtain⟨qs,e1,l1,p1⟩:=Qgj h
 cases c
 ·exact⟨.list qs,by show(QfF ds).map _=_;rw[e1];rfl,Sw.list p1 (by omega)⟩
 ·exact⟨.tuple qs,by show(QfF ds).map _=_;rw[e1];rfl,Sw.tuple p1 (by omega)⟩
theorem Qnd:plB b p=sqT (!b) [.int p.1,.int p.2]:=by cases b<;>rfl
theorem Qj9 (hg:∀p∈qs,inG p=true)(hl:qs.length<=1800):∃s,Qjp [sqT a (qs.map (plB b))]=some (.str s):=by
 obtain⟨q,e,sw⟩:=Qnc (c:=a) (k:=1) (b:=(0+1) * 2) (m:=1800) (ds:=qs.map (plB b)) (fun d hd=>by
  obtain⟨p,hp,rfl⟩:=z87.mp hd
  have g:=QcL.mp (hg p hp)
  rw[Qnd]
  refine Qnc (k:=0) (b:=0) (m:=2) (fun d hd=>?_) (z18 _)
  have big:(10:Nat) ^ 62=100000000000000000000000000000000000000000000000000000000000000:=by decide
  rcases z26.mp hd with rfl|hd
  ·exact⟨.int p.1,rfl,Sw.int (by rw[big];omega)⟩
  ·rw[z19.mp hd];exact⟨.int p.2,rfl,Sw.int (by rw[big];omega)⟩) (by rw[z14];exact hl)
 have sh:=sw.shows (by omega) (by omega)
 refine⟨q.shown,?_⟩
 show(toP (sqT a (qs.map (plB b)))).bind _=_
 rw[e]
 exact if_pos ⟨sh.sh,sh.dp,sh.le⟩
def laS (xs:List Int)(s1 s2 s3 s4 s5 s6:Option Sl):Rho:=[~~~(script xs),s1,s2,s3,s4,s5,s6,none]
theorem Qhr {r:Rho}{s0 s1 s2:Option Sl}(hl:qs.length<1900):YT false [.me] 0 (QaV (mV 3)) Qly (QbR (Qt (mV 0) JN)) (s0::s1::s2::~~~(.lst (qs.map pl))::r)=.ok (.lst (qs.map (plB true)),s0::s1::s2::~~~(.lst (qs.map pl))::r):=by
 have c:=comp_map (par:=false) (cs:=[.me]) (j:=0) (mi:=QaV (mV 3)) (te:=QbR (Qt (mV 0) JN)) (g:=fun d=>match d with|.nd _ ds=>.lst ds|d=>d) (ρ:=s0::s1::s2::~~~(.lst (qs.map pl))::r) (ρ1:=s0::s1::s2::~~~(.lst (qs.map pl))::r) (ρb:=[none]) (ds:=qs.map pl) (di:=[]) (os:=[]) (JX (.inl rfl) rfl) rfl rfl (fun d hd=>by
  obtain⟨p,_,rfl⟩:=z87.mp hd
  exact⟨[~~~(pl p)],rfl,rfl,rfl⟩) (by rw[z14];exact zb9 (Qbf (by omega))) rfl rfl
 rw[c,zb8];rfl
theorem ifT {mt:MT}{A u:MS}{b:Bool}{ρ ρ1:Rho}{k:Fl×Rho->Prop}(t:mt ρ=.ok (b,ρ1))(J:Rho->Prop)(h1:b=true->W (A ρ1) fun r=>r.1=.nx/\J r.2)(h0:b=false->J ρ1)(h2:∀ρ,J ρ->W (u ρ) k):W (Qi0 (mIf mt A QiZ) u ρ) k:=by
 refine Qaa J ?_ h2
 refine V9 (QfE t)▸?_
 cases b with
 |true=>rw[if_pos rfl];exact h1 rfl
 |false=>rw[if_neg z23];exact⟨_,rfl,rfl,h0 rfl⟩
theorem Qne (ns:List Int):FW (Qm7 z [script ns]) (fun d os=>d=.bl true/\os=[]):=Yt (by
 dsimp only[QjU]
 obtain⟨_,_,eg,rfl,ps,rfl,lp,gp⟩:=Qj5 (z:=z) ns
 refine Ws (laS ns (~~~(.lst (ps.map pl))) none none none none none) ⟨_,Qak (Q0 (rk:=.O) (args:=[script ns,.int 0]) rfl eg fun z=>nomatch z) rfl,rfl,rfl⟩ ?_
 obtain⟨P0,hP0,e0⟩:=Qbj (z:=z) ns 31 (by omega)
 refine Ws (laS ns (~~~(.lst (ps.map pl))) (some (.own P0)) none none none none) ⟨_,Qf9 (Q0 (rk:=.O) (args:=[script ns,.int 31]) rfl e0 fun z=>nomatch z) rfl,rfl,rfl⟩ ?_
 obtain⟨r,P1,hP1,r0,r1,e1⟩:=tkE (z:=z) (par:=false) (i:=2) (mN:=mC (.int 5)) (n:=5) (ρ:=laS ns (~~~(.lst (ps.map pl))) (some (.own P0)) none none none none) hP0 (by decide) (by decide) rfl rfl
 have cl:=Qj8 (ps:=ps) (lo:=none) (hi:=some r)
 have ec:QcG (mV 1) (QhV (mV 1) Qkf (QhU (Jm false [some 2,none] (Qy z) (Qt (mS 2) (Qt (mC (.int 5)) JN))))) (laS ns (~~~(.lst (ps.map pl))) (some (.own P0)) none none none none)=.ok (.lst ((ps++cutD ps none (some r)).map pl),laS ns (~~~(.lst (ps.map pl))) (some (.own P1)) none none none none):=by
  unfold QcG
  show((QhV (mV 1) Qkf (QhU (Jm false [some 2,none] (Qy z) (Qt (mS 2) (Qt (mC (.int 5)) JN)))) (laS ns (~~~(.lst (ps.map pl))) (some (.own P0)) none none none none)).bind _)=_
  unfold QhV
  show(((QhU (Jm false [some 2,none] (Qy z) (Qt (mS 2) (Qt (mC (.int 5)) JN))) (laS ns (~~~(.lst (ps.map pl))) (some (.own P0)) none none none none)).bind _).bind _)=_
  unfold QhU
  rw[e1]
  show(if(ps.map pl).length+(cutD (ps.map pl) none (some r)).length<=z20 then _ else _)=_
  rw[Qj6,if_pos (by rw[z14,z14];exact zb9 (Qbf (by omega))),← z50];rfl
 obtain⟨P2',qs,hP2,pm,e2⟩:∃(P2':D) (qs:List P2),Pot P2'/\qs.Perm (ps++cutD ps none (some r))/\Jm false [some 2,none] (Ja z) (Qt (mS 2) (Qt (QcG (mV 1) (QhV (mV 1) Qkf (QhU (Jm false [some 2,none] (Qy z) (Qt (mS 2) (Qt (mC (.int 5)) JN)))))) JN)) (laS ns (~~~(.lst (ps.map pl))) (some (.own P0)) none none none none)=.ok (.lst (qs.map pl),laS ns (~~~(.lst (ps.map pl))) (some (.own P2')) none none none none):=by
  have h:W (Jm false [some 2,none] (Ja z) (Qt (mS 2) (Qt (QcG (mV 1) (QhV (mV 1) Qkf (QhU (Jm false [some 2,none] (Qy z) (Qt (mS 2) (Qt (mC (.int 5)) JN)))))) JN)) (laS ns (~~~(.lst (ps.map pl))) (some (.own P0)) none none none none)) (fun a=>∃(P2':D) (qs:List P2),Pot P2'/\qs.Perm (ps++cutD ps none (some r))/\a=(.lst (qs.map pl),laS ns (~~~(.lst (ps.map pl))) (some (.own P2')) none none none none)):=by
   refine QfA (args:=[P0,.lst ((ps++cutD ps none (some r)).map pl)]) (dis:=[P1]) (ρ1:=laS ns (~~~(.lst (ps.map pl))) (some (.own P1)) none none none none) (QR rfl (QR ec rfl)) rfl (Qgf hP1 (by rw[z10];omega)) ?_
   rintro d os ⟨Q,qs,rfl,hQ,rfl,pm⟩
   exact⟨Q,qs,hQ,pm,rfl⟩
  obtain⟨_,e,P2',qs,a1,a2,rfl⟩:=h
  exact⟨P2',qs,a1,a2,e⟩
 have qm:∀q,q∈ps↔q∈qs:=fun q=>by
  rw[pm.mem_iff,z04]
  exact⟨.inl,fun h=>h.elim id (Qj7 q)⟩
 have lq:qs.length<=1800:=by rw[pm.length_eq,z10];omega
 have gq:∀p∈qs,inG p=true:=fun p hp=>gp p ((qm p).mpr hp)
 have esh:shp qs=shp ps:=Qgg fun q=>(qm q).symm
 refine Ws (laS ns (~~~(.lst (ps.map pl))) (some (.own P2')) (~~~(.lst (qs.map pl))) none none none) ⟨_,Qak e2 rfl,rfl,rfl⟩ ?_
 obtain⟨r3,P3,hP3,_,_,e3⟩:=tkE (z:=z) (par:=false) (i:=2) (mN:=mC (.int 2)) (n:=2) (ρ:=laS ns (~~~(.lst (ps.map pl))) (some (.own P2')) (~~~(.lst (qs.map pl))) none none none) hP2 (by decide) (by decide) rfl rfl
 refine ifT (Q8 (Jo e3 rfl Vi)) (fun ρ=>∃b,ρ=laS ns (~~~(.lst (ps.map pl))) (some (.own P3)) (~~~(.lst (qs.map (plB b)))) none none none) (fun _=>⟨_,Qak (i:=3) (Qhr (by omega)) rfl,rfl,true,rfl⟩) (fun _=>⟨false,by rw[QpN];rfl⟩) ?_
 rintro ρ ⟨b,rfl⟩
 obtain⟨r4,P4,hP4,_,_,e4⟩:=tkE (z:=z) (par:=false) (i:=2) (mN:=mC (.int 2)) (n:=2) (ρ:=laS ns (~~~(.lst (ps.map pl))) (some (.own P3)) (~~~(.lst (qs.map (plB b)))) none none none) hP3 (by decide) (by decide) rfl rfl
 refine ifT (Q8 (Jo e4 rfl Vi)) (fun ρ=>∃a,ρ=laS ns (~~~(.lst (ps.map pl))) (some (.own P4)) (~~~(sqT a (qs.map (plB b)))) none none none) (fun _=>⟨_,rfl,rfl,true,rfl⟩) (fun _=>⟨false,rfl⟩) ?_
 rintro ρ ⟨a,rfl⟩
 obtain⟨t,et⟩:=Qj9 (a:=a) (b:=b) gq lq
 have es:=Qal (z:=z) (a:=a) (b:=b) (ps:=qs) (by omega)
 have el:=Qee (z:=z) (ps:=ps) (by omega) gp
 have ep:=Qal (z:=z) (a:=false) (b:=false) (ps:=ps) (by omega)
 have en:=Qal (z:=z) (a:=false) (b:=false) (ps:=[]) (by decide)
 rw[← Qnb] at ep
 rw[esh] at es
 generalize hH:sqT a (qs.map (plB b))=hd at et es
 refine Ws (laS ns (~~~(.lst (ps.map pl))) (some (.own P4)) (~~~hd) (~~~(.str t)) none none) ⟨_,Qak (VG (args:=[hd]) rfl et) rfl,rfl,rfl⟩ ?_
 refine Ws (laS ns (~~~(.lst (ps.map pl))) (some (.own P4)) (~~~hd) (~~~(.str t)) (~~~(shD (shp ps))) none) ⟨_,Qak (Q0 (rk:=.O) (args:=[.lst (ps.map pl)]) rfl el fun z=>nomatch z) rfl,rfl,rfl⟩ ?_
 refine Ws (laS ns (~~~(.lst (ps.map pl))) (some (.own P4)) (~~~hd) (~~~(.str t)) (~~~(shD (shp ps))) (some (.own (shD (shp ps))))) ⟨_,Qf9 (Q0 (rk:=.O) (args:=[hd]) rfl es fun z=>nomatch z) rfl,rfl,rfl⟩ ?_
 have sm:=Vl (cs:=QB ps) (QB ps)
 have ol:=Qa9 ps
 refine ifT (b:=false) (ρ1:=laS ns (~~~(.lst (ps.map pl))) (some (.own P4)) (~~~hd) (~~~(.str t)) (~~~(shD (shp ps))) (some (.own (shD (shp ps))))) (or_eq (b:=false) (c:=false) (Q8 (Jo rfl rfl (Qdr Qgh))) (fun _=>Q8 (Jo (x:=.str t) (y:=.str t) (VG (args:=[hd]) rfl et) rfl (Qdr rfl))) (fun _=>rfl)) (fun ρ=>ρ=laS ns (~~~(.lst (ps.map pl))) (some (.own P4)) (~~~hd) (~~~(.str t)) (~~~(shD (shp ps))) (some (.own (shD (shp ps))))) (fun h=>nomatch h) (fun _=>rfl) ?_
 rintro ρ rfl
 refine Ws (laS ns (~~~(.lst (ps.map pl))) (some (.own P4)) (~~~hd) (~~~(.str t)) (~~~(shD (shp ps))) none) ⟨(.nx,laS ns (~~~(.lst (ps.map pl))) (some (.own P4)) (~~~hd) (~~~(.str t)) (~~~(shD (shp ps))) none),?_,rfl,rfl⟩ ?_
 ·unfold Qf1
  show(if(6:Nat)≠7/\(7:Nat)<8/\((shp ps).map fun l=>D.lst (l.map pl)).length<=4000/\QjJ ((shp ps).map fun l=>D.lst (l.map pl))=true then _ else _)=_
  rw[if_pos ⟨by decide,by decide,by rw[z14];have:=sm.1;unfold shp;omega,Qgi fun l hl=>by have:=sm.2 l hl;omega⟩];rfl
 have f1:=Q0 (rk:=.O) (f:=Jz z) (mr:=Qt (mV 3) JN) (ρ:=laS ns (~~~(.lst (ps.map pl))) (some (.own P4)) (~~~hd) (~~~(.str t)) (~~~(shD (shp ps))) none) (args:=[hd]) rfl es fun z=>nomatch z
 have f2:=Q0 (rk:=.O) (f:=Jz z) (mr:=Qt (mV 1) JN) (ρ:=laS ns (~~~(.lst (ps.map pl))) (some (.own P4)) (~~~hd) (~~~(.str t)) (~~~(shD (shp ps))) none) (args:=[.lst (ps.map pl)]) rfl ep fun z=>nomatch z
 have f3:=Q0 (rk:=.O) (f:=Jz z) (mr:=Qt (Qkc JN) JN) (ρ:=laS ns (~~~(.lst (ps.map pl))) (some (.own P4)) (~~~hd) (~~~(.str t)) (~~~(shD (shp ps))) none) (args:=[.lst []]) rfl en fun z=>nomatch z
 refine⟨(.rt (.bl true),laS ns (~~~(.lst (ps.map pl))) (some (.own P4)) (~~~hd) (~~~(.str t)) (~~~(shD (shp ps))) none),?_,_,[],rfl,rfl,rfl,rfl⟩
 have g1:=Jo f1 (show mV 5 _=.ok (shD (shp ps),_) from rfl) (Qa5 Qgh)
 have g2:=Jo f2 (show mV 5 _=.ok (shD (shp ps),_) from rfl) (Qa5 Qgh)
 have g3:=Jo f3 (show Qkc JN _=.ok (.lst [],_) from rfl) (Qa5 (d:=.lst []) rfl)
 unfold Qnp QiW
 rw[g1]
 show(((mOp gEq (Vq .O (Jz z) (Qt (mV 1) JN)) (mV 5) _).bind _).bind _)=_
 rw[g2]
 show((mOp gEq (Vq .O (Jz z) (Qt (Qkc JN) JN)) (Qkc JN) _).bind _)=_
 rw[g3];rfl)
structure Zok (z:Z):Prop where
 t:True
theorem Qnf (hz:Zok z)(ns:List Int):Qm7 z [script ns]=.ok (.bl true) []:=Qb8 (Qne ns)
end
end G72
namespace G72
open PySem PySem.Spec L2 TL
theorem all_mk {l:zj8}{w:World}{K:z02}{h:Heap}{mg:Str->Option Value}{fa:Addr}(X:K.In h)(G:h.Ns z67 mg)(hfa:mg "law" = some (.ref fa))
  (a1:Nf K "around" "around" (top 1))
  (a2:Nf K "_law_cell" "_law_cell" (top 6))
  (a3:Nf K "_law_rich" "_law_rich" (top 7))
  (a4:Nf K "_law_around" "_law_around" (top 12))
  (a5:Nf K "take_shape" "take_shape" (top 4))
  (a6:Nf K "_law_purse" "_law_purse" (top 8))
  (a7:Nf K "_law_take" "_law_take" (top 9))
  (a8:Nf K "_law_reached" "_law_reached" (top 13))
  (a9:Nf K "shapes" "shapes" (top 3))
  (a10:Nf K "_law_size" "_law_size" (top 10))
  (a11:Nf K "_law_shapes" "_law_shapes" (top 14))
  (a12:Nf K "_law_turned" "_law_turned" (top 15))
  (a13:Nf K "_law_grid" "_law_grid" (top 11))
  (a14:Nf K "law" "law" (top 16))
  (z0:zf5 K z67 "len" = some none)
  (z1:zf5 K z67 "list" = some none)
  (z2:zf5 K z67 "range" = some none)
  (z3:zf5 K z67 "repr" = some none)
  (z4:zf5 K z67 "set" = some none)
  (z5:zf5 K z67 "sorted" = some none)
  (z6:zf5 K z67 "tuple" = some none)
  :
  ∃fd:FuncData,(∀(s:Shared) (v:Value),BindsTo s fd ⟨[v],[]⟩ [("_law_script",v)])/\∀base:Heap,K.In base->base.Ns z67 mg->Qcf l.prog w K mg base (CXe l.prog w) 5 fa fd ["_law_script"] (QfO K):=by
 let z:Z:=⟨K⟩
 have con:∀base,Con z ⟨l.prog,w,mg,base⟩:=fun _=>⟨za7 X G z0,za7 X G z1,za7 X G z2,za7 X G z3,za7 X G z4,za7 X G z5,za7 X G z6,z59⟩
 have hz:Zok z:=⟨z59⟩
 refine QmJ X G hfa a14 (QjU z) con (fun base R g=>?_) (fun ns=>Qnf hz ns) (fun _ _ _ _ _ _ _ _=>.of_eq rfl)
 let y:Y:=⟨l.prog,w,mg,base⟩
 have c:Con z y:=con base
 have Qbc:QdA z y:=Qd5 X G c a1 (Qbb z) (fun _ _ _ _ _ _=>ar1 fun _=>rfl) (fun _ g=>g)
 have Yw:Qag z y:=Qd5 X G c a2 (Jv z) (fun _ _ _ _ _ _=>ar2 fun _ _=>rfl) (fun _ g=>g)
 have Q6:Yv z y:=Qd5 X G c a3 (Yu z) (fun _ _ _ _ _ _=>ar1 fun _=>rfl) (fun _ g=>g)
 have Jy:Y0 z y:=Qd5 X G c a4 (Jx z) (fun _ _ _ _ _ _=>ar1 fun _=>rfl) (fun _ g=>g)
 have J7:Vr z y:=Qd5 X G c a5 (J3 z) (fun _ _ _ _ _ _=>ar2 fun _ _=>rfl) (fun _ g=>g Qbc)
 have QJ:J6 z y:=Qd5 X G c a6 (J4 z) (fun _ _ _ _ _ _=>ar2 fun _ _=>rfl) (fun _ g=>g Yw Q6)
 have Qp:Jb z y:=Qd5 X G c a7 (Yx z) (fun _ _ _ _ _ _=>ar2 fun _ _=>rfl) (fun _ g=>g Q6)
 have Jk:Yl z y:=Qd5 X G c a8 (Jj z) (fun _ _ _ _ _ _=>ar2 fun _ _=>rfl) (fun _ g=>g Jy)
 have Ye:QdB z y:=Qd5 X G c a9 (Qbd z) (fun _ _ _ _ _ _=>ar1 fun _=>rfl) (fun _ g=>g J7)
 have JF:Qah z y:=Qd5 X G c a10 (Yy z) (fun _ _ _ _ _ _=>ar1 fun _=>rfl) (fun _ g=>g Qp)
 have JG:Y5 z y:=Qd5 X G c a11 (JC z) (fun _ _ _ _ _ _=>ar1 fun _=>rfl) (fun _ g=>g Jk)
 have JH:Y6 z y:=Qd5 X G c a12 (JD z) (fun _ _ _ _ _ _=>ar2 fun _ _=>rfl) (fun _ g=>g Qp)
 have YB:Qaj z y:=Qd5 X G c a13 (Yz z) (fun _ _ _ _ _ _=>ar2 fun _ _=>rfl) (fun _ g=>g QJ Qp JF)
 exact g QJ Qp Ye JG JH YB
end G72
namespace PySem.W.Fast
def tw17101280530129252408:=()
def tw14863463961005850758:=()
def tw4427111881723692741:=()
def tw16552362348964395152:=()
def tw1230390501087894009:=()
def tw4222864846837961451:=()
def tw12534433998777684878:=()
def tw16391962803219248696:=()
def tw14600869523863612798:=()
def tw11581035031570199140:=()
def tw11438862829821322010:=()
def tw7839900318045584047:=()
def tw15476853893000905902:=()
def tw1345194430223618047:=()
def tw2350988033569710540:=()
def tw45777214539057301:=()
def tw8721811382862627771:=()
def tw18046499721057614090:=()
def tw1300274086255004416:=()
def tw6288639579238582196:=()
def tw18019069663330519267:=()
def tw9669407562657892360:=()
def tw17729436800834978842:=()
def tw13423112106254542504:=()
def tw2693791599284548661:=()
def tw17782020636164131305:=()
def tw4310475120911681363:=()
def tw11148395424021084557:=()
def tw15720291078918619323:=()
def tw4233780555143632651:=()
def tw18258478669699753761:=()
def tw10025915743638614293:=()
def tw18388474987400643720:=()
def tw4168650719536936636:=()
def tw17129102998265849531:=()
def tw13746251631779278150:=()
def tw6699321161538929690:=()
def tw3559529615724799882:=()
def tw12922878623685677174:=()
def tw7756489060773459436:=()
def tw18412499324749977576:=()
def tw6302017011618431481:=()
def tw8848205498955986541:=()
def tw15811846086767010219:=()
def tw3400380020867043295:=()
def tw1531395245410435765:=()
def tw11005432738808188333:=()
def tw93225252160187241:=()
def tw16519920594447135056:=()
def tw4718917289535030748:=()
def tw315083090190259379:=()
def tw12269702916715431471:=()
def tw8649698264710865133:=()
def tw16114649140338359325:=()
def tw14745032757063712503:=()
def tw4412446603801438715:=()
def tw4725883178574448763:=()
def tw4105163065322280543:=()
def tw6048814448284631071:=()
def tw13796403999465734668:=()
def tw5974979116062442616:=()
def tw1161892487137077612:=()
def tw9588175083589109508:=()
def tw2134331147820220226:=()
def tw10239922089601033974:=()
def tw8783267261467198495:=()
def tw6459065480481665281:=()
def tw5718576449950851025:=()
def tw17697960603023831943:=()
end PySem.W.Fast
open PySem PySem.W PyProof.Rows
set_option maxRecDepth 100000 in
set_option maxHeartbeats 0 in
theorem PySem.Challenge.cw_glowcells_k72_whole_shapes_holds : PySem.Challenge.rw_glowcells_k72_whole_shapes.Holds := by
 w_on;o_law;k_head;(case hw=>w_witness2)
 k_fill
 refine TL.walk (l:=PySem.Challenge.rw_glowcells_k72_whole_shapes) (k:=5) ⟨rfl,by decide,by decide,rfl⟩ rfl rfl (fun w h Y=>PySem.W.kIn_of Y) ?F
 case F=>
  intro w mg fa h KX GG hmg
  refine' _root_.G72.all_mk KX GG hmg ?a1 ?a2 ?a3 ?a4 ?a5 ?a6 ?a7 ?a8 ?a9 ?a10 ?a11 ?a12 ?a13 ?a14 ?z0 ?z1 ?z2 ?z3 ?z4 ?z5 ?z6
  all_goals try k_is
  all_goals try exact⟨_,_,by k_is,L2.QkS (by k_is) (by k_is) (by k_is)⟩
