import PyProof.Rows.All
import Wide.All
import OpenK.AllK
import Wide.FinOn
import Lean
import PyProof.EqAt
import PyProof.EqKinds
import PyProof.TupleCall
import PyProof.NeKinds
import KE.KTryMore
import PyProof.ExcBaseAll.ValueError
import OpenK.KOwn
import PyProof.ConsumeWalk
import KE.KIntText
import PyProof.EnumFor
import PyProof.EnumMake
import PyProof.StrWalks
import KE.KRevSl
import PyProof.ReprRoads
import PyProof.ReprBulk
import PyProof.Draws
import PyProof.TupleIter
import PyProof.WalksMore
import KE.KIsAll
import PyProof.RulesAs
import PyProof.NsDelKeeps
import PyProof.Rows.SetFrom
import PyProof.SetRoads
import PyProof.ListRange
import KE.KItemsList
import KE.KSortTup
import PyProof.Rows.MinMaxN
import PyProof.WalkInts
import PyProof.Rows.ListMulArg
import PyProof.Rows.SumAny
import PyProof.MaxThree
import PyProof.AttrMissHeap
import KE.KDictOf
import KE.KRevIter
import PyProof.CollectIter
import PySem.Challenge.RW_glowcells_k31_rows_and_places_refused
open PySem.W renaming Frag→z00,kitOne→z40,findIn→z51,nsIn→z61,mg_none_of→z67,emptyDict→z92,mg_of→za1,instObj→zb7,excIn→zd1,keepIn→zd9,fnOf→ze4,mroIn→ze8,exmOne→zf5,plainGet→zg0,hasDictIn→zh3,makesIn→zi9,OpenLaw→zj0,lookIn→zj5,plainGet_of→zj9,hideAll_get→zk0,callWith_K→zk8,specialIn→zl4,plainOver→zl5,methodObj→zl6,kitx_list→zl7,isFn→zm1,takesIn→zn4,takerIn→zn5,codeIn→zp1,clsIn→zq2,Looks→zq3,cellsFrom_some→zq9,methodCall_KW→zr8,hideAll_none→zs5,of_hideAll→zt5,kitx_tuple→zt6,kitx_dict→zu4,handedIn→zv4,hideAll→zw3,exm_one→zw4,kitAny→zx0
open List renaming length_map→z01,mem_append_right→z02,getElem?_eq_getElem→z04,mem_append→z05,mem_append_left→z06,mem_cons_self→z07,mem_cons_of_mem→z08,nodup_append→z09,getD_eq_getElem?_getD→z14,mem_cons→z15,length_append→z16,size_toArray→z18,append_assoc→z20,getElem?_map→z22,getElem?_eq_some_iff→z25,mem_singleton→z26,length_cons→z27,map_cons→z30,pairwise_append→z34,length_take→z44,getElem?_append_right→z46,take_append_drop→z47,mem_map→z48,getElem?_toArray→z49,append_nil→z52,length_drop→z58,mem_of_getElem?→z59,getElem?_set_ne→z60,getElem?_append_left→z62,length_range→z63,mem_filter→z64,range→z68,all_eq_true→z69,nodup_cons→z72,extract_eq_drop_take→z73,take_of_length_le→z75,map_map→z76,map_append→z77,lookup_cons→z78,pairwise_cons→z81,perm_iff_count→z83,filter_cons→z84,getElem?_set_self→z87,count_append→z88,zip_cons_cons→z89,map_congr_left→z94,drop_eq_getElem_cons→z96,length_set→z98,getElem_mem→z99,mem_of_mem_take→za2,mem_range→za4,length_reverse→za6,getElem_of_mem→za7,zipWith_cons_cons→za8,length_singleton→zb2,length_filter_le→zb3,replicate→zb4,pairwise_iff_getElem→zb5,getElem?_take_of_lt→zc1,zipWith→zc2,flatten_append→zc3,filterMap_cons→zc4,mem_reverse→zc7,perm_append_comm→zd3,all_map→zd4,reverse_perm→zd7,flatten_cons→zd8,mem_of_mem_drop→ze1,lookup→ze6,length→ze7,foldl_cons→zf1,find?_cons→zf2,any_cons→zf3,drop_of_length_le→zf6,nodup_nil→zg2,getElem_inj→zg4,filter_map→zg6,count_cons→zg7,take_sublist→zh8,take_add_one→zh9,ext_getElem?→zi0,map_id''→zi7,getElem?_cons_succ→zi8,nil_append→zj6,map→zk3,take_zero→zl0,reverse_append→zl2,mem_filterMap→zm2,map_take→zm3,length_zipIdx→zm4,getElem_range→zm5,all_cons→zm6,take_succ_eq_append_getElem→zm8,getElem_drop→zn1,drop_sublist→zn2,map_nil→zn7,take_length→zo1,take_append_of_le_length→zo2,not_mem_nil→zo3,ext_getElem→zo4,eq_nil_of_length_eq_zero→zo5,drop_length→zo6,cons_append→zo7,of_mem_zip→zp5,length_nil→zp6,take_take→zr2,mem_or_eq_of_mem_set→zr3,drop_zero→zr4,set_eq_of_length_le→zr9,map_drop→zs6,toArray→zt7,set_append_right→zt8,pairwise_reverse→zt9,dropLast_eq_take→zu0,reverse_reverse→zu8,map_eq_cons_iff→zu9,getElem?_zipIdx→zv0,range'→zv5,filter_eq_self→zv6,filter_append→zw5,reverse_cons→zx5,pairwise_map→zx6,getElem_take→zx7,getElem?_set→zx8
open Option renaming map_eq_some_iff→z03,bind_eq_some_iff→z23,getD_some→zb1,bind_some→ze3,getD_none→zi3,isSome_iff_exists→zq5,map_some→zx2
open PySem renaming wpAny_bind→z13,sizeLine→z17,wpAny_pure→z33,boot_len→z35,sizeLine_eq→z36,mainGlobals→z38,bootBuiltins→z74,mem_of_lookup→za5,wpAny_truthy_bool→za9,wpAny_mono→zb0,wpAny_holding→zc0,wpAny_passesOwn→ze2,wpAny_loadPart'→zf8,wpAny_Call_Name_kw→zf9,wpAny_call_entry→zg9,wpAny_execs_nil→zh4,wpAny_pyIter_tuple→zi6,wpAny_pyIter_enum→zj3,wpAny_callSpecial?_slot→zj7,intText?→zk6,Builtin→zl8,wpAny_field→zn3,wpAny_newList→zo8,wpAny_attempt→zo9,wpAny_newObj_type→zp9,codeAny_mono→zq8,ofString_length→zt0,Within→zt1,wpAny_letOwnedTupleGo_enum→zt4,wpAny_rule→zv2,wpAny_call→zv3,wpAny_standAt→zv9,call→zw2
open PySem.Heap renaming get?_push_of_some→z19,lt_size→z31,get?_push_size→z45,SameBut→zf0,get?_push_ne→zi1,get?_none_of_le→zk7,size_push→zl1,FlyingW→zn8,get?_update_other→zt2,get?_update_self→zu1,get?_update_ne→zv7
open Option.some renaming inj→z21
open Nat renaming le_refl→z24,lt_of_lt_of_le→z37,ne_of_lt→z50,le_trans→z65,zero_add→z90,add_sub_cancel_left→za3,zero_le→zb8,lt_irrefl→zc6,le_succ→zg1,mul_le_mul→zg3,min_eq_left→zh1,sub_self→zk2,lt_succ_of_lt→zn6,ne_of_gt→zo0,lt_succ_self→zp3,le_of_lt→zu6,le_of_eq→zu7,add_sub_cancel→zx4
open Or renaming inl→z28,inr→z57
open Bool renaming false_ne_true→z29,and_eq_true_iff→z66,and_eq_true→z70,false_eq_true→zd0,eq_iff_iff→zg8,eq_false_iff→zi2,and_true→zs7,or_eq_true_iff→zv8
open Array renaming getD_eq_getD_getElem?→z32,getElem?_toList→z43,toList_push→z53,toList_append→z56,size_push→z71,getElem?_eq_getElem→z79,length_toList→z82,toList_extract→z86,size_append→zd6,toList_reverse→ze0,toList_inj→zn9,toList_setIfInBounds→zp8,toList→zt3
open PySem.Value renaming none→z39,ref→z42,int→z80,builtin→zl3,bool→zm7,str→zp0,float→zu3
open PySem.NameKind renaming free→z41,cell→z93
open True renaming intro→z54
open PySem.Obj renaming mapSeq→z55,data_mapFields→zx3
open PySem.SeqAt.EqAt renaming int_int→z85,same→zh6,of_refs→zj4,str_int→zr6,int_str→zr7
open Int renaming le_trans→z91,toNat_natCast→z95,toNat_zero→z97,lt_of_lt_of_le→za0,le_refl→zd5,emod_nonneg→zk4,emod_lt_of_pos→zm9,le_antisymm→zq6,zero_add→zv1,toNat_of_nonneg→zw7
open PySem.Heap.SameBut renaming update→zb6
open Ne renaming symm→zb9
open PySem.Builtin.SmallTypes renaming nextOf→zc5
open False renaming elim→zc8
open List.Perm renaming append_left→zc9,refl→zf4,trans→zi4
open PyProof.Rows renaming envOfC→zd2,callWith_type1→zf7
open PySem.F renaming slot_tuple_iterator_next→ze5,plainAttrs_list→ze9,slot_dict_get→zj1,args_dict_get_3→zq4,entry_dict_get→zr1,args_tuple_iterator_next_1→zr5,entry_tuple_iterator_next→zs0,slot_enumerate_next→zw8
open PySem.Builtin.List renaming listTooLong→zg5
open Std.Legacy.Range renaming forIn_eq_forIn_range'→zh0,size→zm0
open Std.Legacy renaming Range→zh2
open PySem.SeqAt renaming EqAt→zh5,RcNeAt→zs9,RcAt→zw1
open PySem.Paired renaming length→zh7
open ForInStep renaming yield→zi5
open PySem.Calls renaming callWith_builtin→zj2,evalArgs_plain→zk5,spliced_cons→zl9,Name_function_global→zp7,call_function_entry→zq7,spliced_nil→zw9
open PySem.Str renaming ofString→zj8
open Prod.mk renaming inj→zk1,injEq→zk9
open PySem.Around renaming under→zn0
open Prod renaming ext→zp2
open PySem.Spec renaming log2_small→zp4
open Sum renaming inr→zq0,inl→zq1
open PySem.W.Looks renaming ld→zr0
open PySem.Builtin.Getset_descriptor renaming descrNameAndClass→zs1,descrGetter→zs2,descrCheckInstance→zs3
open PySem.SeqAt.RcAt renaming tuples→zs4
open Sum.inl renaming inj→zs8
open PySem.Code renaming isFrame→zu2
open PySem.PyData renaming leavesShort→zu5,showable→zx1
open PySem.Value.ref renaming inj→zw0
open List.cons renaming inj→zw6
open PySem.Builtin.ObjectAttr renaming find→zx9
set_option compiler.extract_closed false
set_option hygiene false
set_option Elab.async false
set_option genSizeOf false
set_option linter.all false
set_option maxRecDepth 100000
set_option hygiene false in
local macro_rules
|`(@0)=>`((by lia))
|`(@1)=>`((by decide))
|`(@2)=>`((fun _ z=>nomatch z))
|`(@3)=>`((by first|exact z28 rfl|exact z57 (z28 rfl)|exact z57 (z57 rfl)))
|`(@4)=>`((model X.prog X.w))
|`(@5)=>`((Qa1 (par:=true) (as:=[some 0,none]) (p:=false) (spk Qh hC) Qj (hr^^^0) (Qa (xs 0) (Qa Qf Qc))))
|`(@6)=>`((x == ("__debug__" : Str)))
|`(@7)=>`((LS z h w F N R ls ns q (~~~(.int y)) (~~~d) (~~~(.tup [x,.int m])) (~~~(.int a)) (~~~(.lst ((ls.take k).map pnD++.tup [x,.int m]::(ls.map pnD).drop k))) none))
|`(@8)=>`((fun _ _ _ _ _ _=>ar2 fun _ _=>rfl))
|`(@9)=>`((by simp))
|`(@10)=>`((fun _ _ _ _ _ _=>ar1 fun _=>rfl))
|`(@11)=>`((Addr×Obj))
set_option hygiene false in
local macro_rules
|`(@12)=>`((.lst (ls.map pnD)))
|`(@13)=>`((z28 rfl))
|`(@14)=>`((a.toList++b.toList))
|`(@15)=>`((model prog w))
|`(@16)=>`((s.heap.objs.size+1))
|`(@17)=>`((List Int))
|`(@18)=>`((@YQ _ _ _ _ _ _ _ _ _ _ _ _ _ Qf Qc rfl))
|`(@19)=>`((cs.filterMap Cp.is))
|`(@20)=>`((hr^^^0))
|`(@21)=>`((Qci (CXe P w) P w K mg base N qual scope f cd A outer s H E))
noncomputable section
namespace L2
open PySem PySem.Spec PyProof.Rows
abbrev Key:=Sum Int Str
def QiC:Key->Value->Bool
 |.inl k,v=>Value.isInt k v
 |.inr x,v=>Value.isStrOf x v
def QvI (w:World):Key->Int
 |.inl k=>hashInt k
 |.inr x=>hashStr w x
theorem Ja:∀{k:Key} {v:Value},QiC k v=true->(∃i t,k=zq1 i/\v=z80 i t)\/(∃x t,k=zq0 x/\v=zp0 x t)
 |.inl i,v,h=>by
  obtain⟨t,e⟩:=Value.isInt_shape (k:=i) (v:=v) h
  exact .inl ⟨i,t,rfl,e⟩
 |.inr x,v,h=>by
  obtain⟨t,e⟩:=Value.isStrOf_shape (x:=x) (v:=v) h
  exact .inr ⟨x,t,rfl,e⟩
theorem Qjq (i:Int)(t:Tok):QiC (.inl i) (.int i t)=true:=by simp[QiC,Value.isInt]
theorem Qjr (x:Str)(t:Tok):QiC (.inr x) (.str x t)=true:=by simp[QiC,Value.isStrOf]
theorem QpP (a b:Int):decide ((zq1 a:Key)=zq1 b)=(a == b):=by
 by_cases e:a=b
 ·subst e;simp
 ·have h:¬ (zq1 a:Key)=zq1 b:=fun q=>e (zs8 q)
  rw[decide_eq_false h]
  exact(beq_eq_false_iff_ne.mpr e).symm
theorem QpQ (a b:Str):decide ((zq0 a:Key)=zq0 b)=decide (a=b):=by
 by_cases e:a=b
 ·subst e;simp
 ·have h:¬ (zq0 a:Key)=zq0 b:=fun q=>e (Sum.inr.inj q)
  rw[decide_eq_false h,decide_eq_false e]
theorem QpR (a:Int)(b:Str):decide ((zq1 a:Key)=zq0 b)=false:=decide_eq_false (fun q=>nomatch q)
theorem QpS (a:Str)(b:Int):decide ((zq0 a:Key)=zq1 b)=false:=decide_eq_false (fun q=>nomatch q)
def JD (prog:Program)(w:World):PySem.KeyKind prog w Key where
 is:=QiC
 hash:=QvI w
 inj:=fun v a b ha hb=>by
  rcases Ja ha with⟨i,t,rfl,rfl⟩|⟨x,t,rfl,rfl⟩
  ·rcases Ja hb with⟨j,u,rfl,e⟩|⟨y,u,rfl,e⟩
   ·injection e with e1 _;rw[e1]
   ·exact nomatch e
  ·rcases Ja hb with⟨j,u,rfl,e⟩|⟨y,u,rfl,e⟩
   ·exact nomatch e
   ·injection e with e1 _;rw[e1]
 byValue:=fun k v h=>by
  rcases Ja h with⟨i,t,rfl,rfl⟩|⟨x,t,rfl,rfl⟩<;>rfl
 pyHash:=fun hv h=>by
  rcases Ja hv with⟨i,t,rfl,rfl⟩|⟨x,t,rfl,rfl⟩
  ·exact wpAny_pyHash_int h
  ·exact wpAny_pyHash_str h
 eqBool:=fun hu hv h=>by
  rcases Ja hu with⟨i,t,rfl,rfl⟩|⟨x,t,rfl,rfl⟩
  ·rcases Ja hv with⟨j,u,rfl,rfl⟩|⟨y,u,rfl,rfl⟩
   ·rw[QpP] at h;exact wpAny_eqBool_int h
   ·rw[QpR] at h;exact zr7 i t y u _ _ _ _ h
  ·rcases Ja hv with⟨j,u,rfl,rfl⟩|⟨y,u,rfl,rfl⟩
   ·rw[QpS] at h;exact zr6 x t j u _ _ _ _ h
   ·rw[QpQ] at h;exact wpAny_eqBool_str h
 «strs» := fun k x t v h=>by
  rcases Ja h with⟨i,u,rfl,e⟩|⟨y,u,rfl,e⟩
  ·exact nomatch e
  ·injection e with e1 _
   subst e1
   cases v<;>rfl
theorem QgE (prog:Program)(w:World)(i:Int)(t:Tok):(JD prog w).is (.inl i) (.int i t)=true:=Qjq i t
theorem QgF (prog:Program)(w:World)(x:Str)(t:Tok):(JD prog w).is (.inr x) (.str x t)=true:=Qjr x t
inductive V where
 |non|bl (b:Bool)|int (i:Int)|str (x:Str)|byt (b:Array UInt8)|flt (b:UInt64)|ref (a:Addr)|ty (n:String)
 deriving DecidableEq
def RelV:V->Value->Prop
 |.non,u=>u=z39
 |.bl b,u=>u=zm7 b
 |.int i,u=>∃t,u=z80 i t
 |.str x,u=>∃t,u=zp0 x t
 |.byt b,u=>∃t,u=Value.bytes b t
 |.flt b,u=>∃t,u=zu3 b t
 |.ref a,u=>u=z42 a
 |.ty n,u=>u=Value.type n
abbrev Vals:List V->List Value->Prop:=Paired RelV
theorem Vals.length {xs:List V}{us:List Value}(r:Vals xs us):xs.length=us.length:=zh7 r
theorem Vals.get:∀{xs:List V} {us:List Value} {i:Nat} {x:V},Vals xs us->xs[i]? = some x->∃u,us[i]? = some u/\RelV x u
 |_,_,_,_,.nil,e=>by simp at e
 |_,_,0,_,.cons r _,e=>by simp at e;subst e;exact⟨_,rfl,r⟩
 |_,_,i+1,x,.cons _ t,e=>by
  obtain⟨u,h1,h2⟩:=Vals.get (i:=i) (x:=x) t (by simpa using e)
  exact⟨u,by simpa using h1,h2⟩
theorem Vals.set {x:V}{u:Value}(r:RelV x u):∀{xs:List V} {us:List Value} (i:Nat),Vals xs us->Vals (xs.set i x) (us.set i u)
 |_,_,_,.nil=>.nil
 |_,_,0,.cons _ t=>.cons r t
 |_,_,i+1,.cons q t=>.cons q (Vals.set r i t)
theorem Vals.append:∀{xs ys:List V} {us ws:List Value},Vals xs us->Vals ys ws->Vals (xs++ys) (us++ws)
 |_,_,_,_,.nil,s=>s
 |_,_,_,_,.cons r t,s=>.cons r (Vals.append t s)
theorem Vals.take:∀{xs:List V} {us:List Value} (n:Nat),Vals xs us->Vals (xs.take n) (us.take n)
 |_,_,0,_=>.nil
 |_,_,_+1,.nil=>.nil
 |_,_,n+1,.cons r t=>.cons r (Vals.take n t)
theorem Vals.drop:∀{xs:List V} {us:List Value} (n:Nat),Vals xs us->Vals (xs.drop n) (us.drop n)
 |_,_,0,r=>r
 |_,_,_+1,.nil=>.nil
 |_,_,n+1,.cons _ t=>Vals.drop n t
def QgA:Option V->Option Value->Prop
 |some v,some u=>RelV v u
 |none,none=>True
 |_,_=>False
def KV {κ:Type}:List (κ×V)->List (κ×Value)->Prop:=Paired fun(p:κ×V) (q:κ×Value)=>p.1=q.1/\RelV p.2 q.2
def kV:Key->V
 |.inl i=>.int i
 |.inr x=>.str x
inductive HO where
 |lst (xs:List V)
 |tup (xs:List V)
 |dK (kvs:List (Key×V))|dT (kvs:List (List Key×V))
 |set (S:Int->Bool) (n:Nat)
 |ins (C dx:Addr) (fs:List (Str×V))
 |own (x:Addr)
 |xd (fs:List (Str×V))
 |met (f x:Addr)
 |rng (lo hi:Int)
 |frz (o:Obj) (u:HO)
 |tbl (ps:Array Value)
 |ext (φ:Heap->Prop)
abbrev Hp:=Addr->Option HO
def upd (H:Hp)(a:Addr)(o:HO):Hp:=fun b=>if b=a then some o else H b
theorem Qs {H:Hp}{a:Addr}{o:HO}:upd H a o a=some o:=by unfold upd;rw[if_pos rfl]
theorem Qk {H:Hp}{a b:Addr}{o:HO}(h:b≠a):upd H a o b=H b:=by unfold upd;rw[if_neg h]
theorem Qtb {H:Hp}{a b:Addr}{o u:HO}(h:H a=some o)(h':H b=some u)(d:o≠u):a≠b:=by
 intro e;subst e;rw[h] at h';exact d (z21 h')
theorem Qx {H:Hp}{a b:Addr}{o:HO}(h:H a=some o)(h':H b=none):a≠b:=by
 intro e;subst e;rw[h] at h';cases h'
section
variable (P:Program)(w:World)
def JM (H:Hp)(h:Heap)(a:Addr):HO->Prop
 |.lst xs=>xs.length<=z17/\∃(its:List Value) (n:Nat),Vals xs its/\h.get? a=some { cls:=.type "list",data:=.seq its.toArray n }
 |.tup xs=>xs.length<=z17/\∃its:List Value,Vals xs its/\IsTup h a its.toArray
 |.dK kvs=>kvs.length<=z17/\(a == sysModules)=false/\∃vs,KV kvs vs/\h.DictOf (JD P w) a vs
 |.dT kvs=>kvs.length<=z17/\(a == sysModules)=false/\∃xs:List (List Key×Addr×Value),
   Paired (fun(p:List Key×V) (q:List Key×Addr×Value)=>p.1=q.1/\H q.2.1=some (.tup (p.1.map kV))/\RelV p.2 q.2.2) kvs xs/\
   ∃o es ep,h.get? a=some o/\o.ExactDict/\o.data=.dict es ep/\es.toList=xs.map (entryOfKey (tupleKind (JD P w)))/\(xs.map (·.1)).Nodup
 |.set S n=>h.SetOf (intKind P w) a S n
 |.ins C dx fs=>H dx=some (.own a)/\fs.length<=1000/\dx≠a/\h.get? a=some (zb7 C dx)/\
   ∃mA,h.Ns1 dx mA/\(∀f,QgA (fs.lookup f) (mA f))/\zt1 mA (fs.map (·.1))
 |.own _=>∃o,h.get? a=some o
 |.xd fs=>∃mA,h.Ns1 a mA/\∀f,QgA (fs.lookup f) (mA f)
 |.rng lo hi=>∃t u v,h.get? a=some { cls:=.type "range",data:=.fields #[.int lo t,.int hi u,.int 1 v]}
 |.frz o u=>h.get? a=some o/\JM H h a u
 |.tbl ps=>h.get? a=some { cls:=.none,data:=.fields ps }
 |.met f x=>h.get? a=some (zl6 (.ref f) (.ref x))
 |.ext φ=>φ h/\(∃o,h.get? a=some o)/\∀h1 h2:Heap,φ h1->(∀o,h1.get? a=some o->h2.get? a=some o)->φ h2
def HOk (H:Hp)(h:Heap):Prop:=∀a o,H a=some o->JM P w H h a o
end
section
variable {P:Program}{w:World}{H H':Hp}{h h':Heap}{a:Addr}{o:HO}
theorem JM.lt (x:JM P w H h a o):a<h.objs.size:=by
 cases o with
 |lst xs=>obtain⟨_,_,_,_,e⟩:=x;exact z31 e
 |tup xs=>obtain⟨_,_,_,p⟩:=x;exact p.lt
 |dK kvs=>obtain⟨_,_,_,_,o,_,_,e,_⟩:=x;exact z31 e
 |dT kvs=>obtain⟨_,_,_,_,o,_,_,e,_⟩:=x;exact z31 e
 |set S n=>obtain⟨o,_,_,_,e,_⟩:=x;exact z31 e
 |ins C dx fs=>obtain⟨_,_,_,e,_⟩:=x;exact z31 e
 |own y=>obtain⟨_,e⟩:=x;exact z31 e
 |xd fs=>obtain⟨_,⟨_,_,_,e,_⟩,_⟩:=x;exact z31 e
 |rng lo hi=>obtain⟨_,_,_,e⟩:=x;exact z31 e
 |frz ob u=>obtain⟨e,_⟩:=x;exact z31 e
 |tbl ps=>exact z31 (show h.get? a=some _ from x)
 |met f y=>exact z31 (show h.get? a=some _ from x)
 |ext φ=>obtain⟨_,⟨_,e⟩,_⟩:=x;exact z31 e
theorem Paired.QsW {α β:Type}{F G:α->β->Prop}:∀{l₁:List α} {l₂:List β},Paired F l₁ l₂->(∀a b,F a b->G a b)->Paired G l₁ l₂
 |_,_,.nil,_=>.nil
 |_,_,.cons r t,f=>.cons (f _ _ r) (Paired.QsW t f)
theorem Paired.imp' {α β:Type}{F G:α->β->Prop}(f:∀a b,F a b->G a b){l₁:List α}{l₂:List β}(r:Paired F l₁ l₂):Paired G l₁ l₂:=Paired.QsW r f
theorem JM.stay (x:JM P w H h a o)(k:∀b u,(b=a\/H b=some (.own a))->h.get? b=some u->h'.get? b=some u)
  (ho:∀b,H b=some (.own a)->H' b=some (.own a)) (ht:∀b xs,H b=some (.tup xs)->H' b=some (.tup xs)):JM P w H' h' a o:=by
 induction o with
 |lst xs=>obtain⟨z,its,n,r,e⟩:=x;exact⟨z,its,n,r,k _ _ (.inl rfl) e⟩
 |tup xs=>obtain⟨z,its,r,ob,e,c⟩:=x;exact⟨z,its,r,ob,k _ _ (.inl rfl) e,c⟩
 |dK kvs=>obtain⟨z,y,vs,r,ob,es,ep,e,c⟩:=x;exact⟨z,y,vs,r,ob,es,ep,k _ _ (.inl rfl) e,c⟩
 |dT kvs=>
  obtain⟨z,y,xs,r,ob,es,ep,e,c⟩:=x
  exact⟨z,y,xs,Paired.QsW r fun p q z=>⟨z.1,ht _ _ z.2.1,z.2.2⟩,ob,es,ep,k _ _ (.inl rfl) e,c⟩
 |set S n=>obtain⟨ob,es,ep,t,e,c⟩:=x;exact⟨ob,es,ep,t,k _ _ (.inl rfl) e,c⟩
 |ins C dx fs=>
  obtain⟨d,z,ne,e,mA,⟨od,es,ep,e2,c⟩,r⟩:=x
  exact⟨ho _ d,z,ne,k _ _ (.inl rfl) e,mA,⟨od,es,ep,k _ _ (.inr d) e2,c⟩,r⟩
 |own y=>obtain⟨ob,e⟩:=x;exact⟨ob,k _ _ (.inl rfl) e⟩
 |xd fs=>obtain⟨mA,⟨od,es,ep,e,c⟩,r⟩:=x;exact⟨mA,⟨od,es,ep,k _ _ (.inl rfl) e,c⟩,r⟩
 |rng lo hi=>obtain⟨t,u,v,e⟩:=x;exact⟨t,u,v,k _ _ (.inl rfl) e⟩
 |frz ob u ih=>obtain⟨e,q⟩:=x;exact⟨k _ _ (.inl rfl) e,ih q⟩
 |tbl ps=>
  have e:h.get? a=some { cls:=.none,data:=.fields ps }:=x
  show h'.get? a=some { cls:=.none,data:=.fields ps }
  exact k a _ (.inl rfl) e
 |met f y=>
  have e:h.get? a=some (zl6 (.ref f) (.ref y)):=x
  show h'.get? a=some (zl6 (.ref f) (.ref y))
  exact k a _ (.inl rfl) e
 |ext φ=>obtain⟨p,⟨o,e⟩,st⟩:=x;exact⟨st _ _ p fun o q=>k _ _ (.inl rfl) q,⟨o,k _ _ (.inl rfl) e⟩,st⟩
theorem HOk.lt (x:HOk P w H h)(e:H a=some o):a<h.objs.size:=(x a o e).lt
theorem HOk.fresh (x:HOk P w H h)(e:h.objs.size<=a):H a=none:=by
 cases q:H a with
 |none=>rfl
 |some u=>exact absurd (z37 (x.lt q) e) (zc6 _)
theorem HOk.kept (x:HOk P w H h)(k:∀b u,h.get? b=some u->h'.get? b=some u):HOk P w H h':=fun a o e=>
 (x a o e).stay (fun b u _ q=>k b u q) (fun _ q=>q) fun _ _ q=>q
theorem HOk.laid (x:HOk P w H h)(k:∀b u,h.get? b=some u->h'.get? b=some u)(hp:h.objs.size<=a)(new:JM P w (upd H a o) h' a o):HOk P w (upd H a o) h':=fun b u e=>by
 have hn:=x.fresh hp
 by_cases hb:b=a
 ·subst hb;rw[Qs] at e;cases e;exact new
 ·rw[Qk hb] at e
  exact(x b u e).stay (fun c v _ q=>k c v q) (fun c q=>by rw[Qk (Qx q hn)];exact q) fun c xs q=>by rw[Qk (Qx q hn)];exact q
end
def Rd (H:Hp)(a:Addr)(u:HO):Prop:=H a=some u\/∃o,H a=some (.frz o u)
theorem Rd.of {H:Hp}{a:Addr}{u:HO}(h:H a=some u):Rd H a u:=.inl h
theorem Rd.ok {P:Program}{w:World}{H:Hp}{h:Heap}{a:Addr}{u:HO}(r:Rd H a u)(x:HOk P w H h):JM P w H h a u:=by
 rcases r with r|⟨o,r⟩
 ·exact x a u r
 ·obtain⟨_,q⟩:=x a _ r
  exact q
def Mut:Option HO->Prop
 |some (.lst _)=>True
 |some (.dK _)=>True
 |some (.dT _)=>True
 |some (.set _ _)=>True
 |some (.ins _ _ _)=>True
 |some (.ext _)=>True
 |_=>False
section
variable {P:Program}{w:World}{H:Hp}{h h':Heap}{x e:Addr}{o':HO}
theorem HOk.write (ok:HOk P w H h)(mu:Mut (H x))(he:e=x\/H e=some (.own x))(k:∀b u,b≠e->h.get? b=some u->h'.get? b=some u)(heo:∃u,h'.get? e=some u)
  (new:JM P w (upd H x o') h' x o'):HOk P w (upd H x o') h':=fun b u q=>by
 have Qu0:∀c y,H c=some (.own y)->c≠x:=fun c y r z=>by subst z;rw[r] at mu;exact mu
 have QvJ:∀c xs,H c=some (.tup xs)->c≠x:=fun c xs r z=>by subst z;rw[r] at mu;exact mu
 by_cases hb:b=x
 ·subst hb;rw[Qs] at q;cases q;exact new
 ·rw[Qk hb] at q
  by_cases hbe:b=e
  ·have q':H b=some (.own x):=by
    rcases he with z|z
    ·exact absurd (hbe.trans z) hb
    ·rw[hbe];exact z
   rw[q] at q';cases q'
   obtain⟨v,hv⟩:=heo
   exact⟨v,by rw[hbe];exact hv⟩
  ·refine(ok b u q).stay (fun c v hc r=>k c v ?_ r) (fun c r=>by rw[Qk (Qu0 c b r)];exact r) fun c xs r=>by rw[Qk (QvJ c xs r)];exact r
   rcases hc with rfl|hc
   ·exact hbe
   ·rintro rfl
    rcases he with z|z
    ·exact Qu0 c b hc z
    ·rw[hc] at z;cases z;exact hb rfl
end
structure Un (fs ex:List Addr)(H H':Hp)(h h':Heap):Prop where
 keep:∀b o,h.get? b=some o->H b=none->b∉fs->b∉ex->h'.get? b=some o
 slot:∀b o,h.get? b=some o->H b=none->b∈fs->b∉ex->∃sl,h'.get? b=some { o with slots:=sl }
 free:∀b o,h.get? b=some o->H b=none->b∉ex->H' b=none
 there:∀b o,h.get? b=some o->b∉ex->∃o',h'.get? b=some o'
 tups:∀b xs,H b=some (.tup xs)->H' b=some (.tup xs)
 QiD:∀b o u,H b=some (.frz o u)->H' b=some (.frz o u)
 Qjk:∀b ps,H b=some (.tbl ps)->∃more,H' b=some (.tbl (ps++more))
section
variable {fs ex:List Addr}{H H1:Hp}{h h1 h':Heap}{a x e:Addr}{o:HO}
theorem Un.any (u:Un fs ex H H1 h h1){b:Addr}{ob:Obj}(q:h.get? b=some ob)(n:H b=none)(hx:b∉ex):∃sl,h1.get? b=some { ob with slots:=sl }:=by
 by_cases hb:b∈fs
 ·exact u.slot b ob q n hb hx
 ·exact⟨ob.slots,u.keep b ob q n hb hx⟩
theorem Un.kept (k:∀b u,h.get? b=some u->h'.get? b=some u):Un fs ex H H h h':=
 ⟨fun b ob q _ _ _=>k b ob q,fun b ob q _ _ _=>⟨ob.slots,k b ob q⟩,fun _ _ _ n _=>n,fun b ob q _=>⟨ob,k b ob q⟩,fun _ _ q=>q,fun _ _ _ q=>q,fun _ ps q=>⟨#[],by rw[q];simp⟩⟩
theorem Un.refl:Un fs ex H H h h:=Un.kept fun _ _ q=>q
theorem Un.laid (k:∀b u,h.get? b=some u->h'.get? b=some u)(hp:h.objs.size<=a)(hn:H a=none):Un fs ex H (upd H a o) h h' where
 keep:=fun b u q _ _ _=>k b u q
 slot:=fun b u q _ _ _=>⟨u.slots,k b u q⟩
 free:=fun b u q n _=>by rw[Qk (z50 (z37 (z31 q) hp))];exact n
 there:=fun b u q _=>⟨u,k b u q⟩
 tups:=fun b xs q=>by rw[Qk (Qx q hn)];exact q
 QiD:=fun b u xs q=>by rw[Qk (Qx q hn)];exact q
 Qjk:=fun b ps q=>⟨#[],by rw[Qk (Qx q hn),q];simp⟩
theorem Un.write (mu:Mut (H x))(he:e=x\/H e=some (.own x))(k:∀b u,b≠e->h.get? b=some u->h'.get? b=some u)(heo:∃u,h'.get? e=some u):Un fs ex H (upd H x o) h h':=by
 have hx:∀b,H b=none->b≠x:=fun b n z=>by subst z;rw[n] at mu;exact mu
 have hb:∀b,H b=none->b≠e:=fun b n z=>by
  subst z
  rcases he with r|r
  ·exact hx b n r
  ·rw[n] at r;cases r
 have hm:∀b u,H b=some u->¬ Mut (some u)->b≠x:=fun b u q nm z=>by subst z;rw[q] at mu;exact nm mu
 refine⟨fun b u q n _ _=>k b u (hb b n) q,fun b u q n _ _=>⟨u.slots,k b u (hb b n) q⟩,fun b u q n _=>by rw[Qk (hx b n)];exact n,fun b u q _=>?_,
  fun b xs q=>by rw[Qk (hm b _ q fun z=>z)];exact q,fun b u xs q=>by rw[Qk (hm b _ q fun z=>z)];exact q,fun b ps q=>⟨#[],by rw[Qk (hm b _ q fun z=>z),q];simp⟩⟩
 by_cases hbe:b=e
 ·subst hbe;exact heo
 ·exact⟨u,k b u hbe q⟩
end
def trk (h:Heap)(H:Hp):List Addr:=(z68 h.objs.size).filter fun a=>(H a).isSome
def QlI (h:Heap)(H:Hp):Heap:=zw3 h (trk h H)
theorem Qjs (h:Heap)(H:Hp):(QlI h H).objs.size=h.objs.size:=PySem.W.hideAll_size _ _
theorem QlJ {h:Heap}{H:Hp}{b:Addr}{o:Obj}(e:h.get? b=some o)(n:H b=none):(QlI h H).get? b=some o:=
 zk0 _ e fun hm=>by
  have q:(H b).isSome=true:=(z64.mp hm).2
  rw[n] at q;simp at q
theorem QnG {h:Heap}{H:Hp}{b:Addr}{o:Obj}(e:(QlI h H).get? b=some o):h.get? b=some o/\H b=none:=by
 have e':h.get? b=some o:=zt5 (trk h H) e
 refine⟨e',?_⟩
 cases q:H b with
 |none=>rfl
 |some x=>
  have hm:b∈trk h H:=z64.mpr ⟨za4.mpr (z31 e'),by simp[q]⟩
  have z:(QlI h H).get? b=none:=zs5 (trk h H) hm
  rw[z] at e;cases e
structure Mod (K:z00)(mg:Str->Option Value)(base:Heap):Prop where
 kin:K.In base
 glob:base.Ns z38 mg
 blt:∃mb,base.Ns builtinsNs mb/\∀x:Str,x ≠ "__name__" -> mb x=z74 x
 nolimit:base.NoLimit
structure Cx where
 prog:Program
 w:World
 K:z00
 mg:Str->Option Value
 base:Heap
 A:Around
 N:List Str
 s₀:Shared
 H₀:Hp
 env:Env
 outer:List Env
 stack:List Env
 ex:List Addr
 fn:Str->Bool
 calm:Bool
 pn:List @11
 xe:Value->Shared->Prop
def frs (l:List Env):List Addr:=l.filterMap (·.frame)
abbrev Cx.fs (X:Cx):List Addr:=frs X.outer
def Vis (sc:Scope)(x:Str):Prop:=sc.names.lookup x=some .local\/sc.names.lookup x=some .cell\/sc.names.lookup x=some .free
def Loc (sc:Scope)(x:Str):Prop:=sc.names.lookup x=some .local\/sc.names.lookup x=some .cell
def Look (env:Env)(h:Heap)(m:Str->Option Value)(x:Str)(u:Value):Prop:=
 (env.kindOf x=some .local/\m x=some u)\/((env.kindOf x=some .cell\/env.kindOf x=some .free)/\∃c,env.cells.lookup x=some c/\h.IsCell c (some u))
structure Cx.Ok (X:Cx):Prop where
 mod:Mod X.K X.mg X.base
 kind:X.env.scope.kind=.function
 glob:X.env.globals=z38
 blt:X.env.builtins=builtinsNs
 above:X.s₀.heap.objs.size<=X.env.locals
 inj:∀x y c,X.env.cells.lookup x=some c->X.env.cells.lookup y=some c->x=y
 has:∀x,(X.env.kindOf x=some .cell\/X.env.kindOf x=some .free)->∃c,X.env.cells.lookup x=some c
 cab:∀x c,X.fn x=true->X.env.cells.lookup x=some c->X.s₀.heap.objs.size<=c
 hd:X.calm=true->X.A.handled=none
 frames:X.A.frames=some X.stack
 stk:X.stack=X.outer\/(X.stack=X.env::X.outer/\X.env.frame=some X.env.locals)
 exf:∀b∈X.ex,b≠X.env.locals/\∀x c,X.env.cells.lookup x=some c->c≠b
 bs:∀b o,X.base.get? b=some o->X.s₀.heap.get? b=some o/\X.H₀ b=none
 bsz:X.base.objs.size<=X.s₀.heap.objs.size
 QnH:∀b o,X.base.get? b=some o->b∉X.ex
 QnI:∀b∈X.ex,b∉X.fs
 Qhn:X.s₀.heap.FunFrames X.base X.outer
 frf:∀b∈X.fs,X.H₀ b=none
structure Inv (X:Cx)(pins:List @11)(σ:List (Option V))(H:Hp)(s:Shared):Prop where
 ok:X.Ok
 os:s.os=X.s₀.os
 bare:AllBare s.gens
 base:Un X.fs X.ex X.H₀ H X.s₀.heap s.heap
 loc:∃m,s.heap.Ns X.env.locals m/\∀(i:Nat) (x:Str) (v:V),X.N[i]? = some x->σ[i]? = some (some v)->Vis X.env.scope x->∃u,RelV v u/\Look X.env s.heap m x u
 cell:∀x c,X.env.cells.lookup x=some c->∃v,s.heap.IsCell c v
 free:H X.env.locals=none
 Qa7:∀x c,X.env.cells.lookup x=some c->H c=none
 pin:∀p∈X.pn++pins,s.heap.get? p.1=some p.2/\H p.1=none/\p.1≠X.env.locals/\p.1∉X.fs/\∀v,p.2.data≠.cell v
 hok:HOk X.prog X.w H s.heap
 len:σ.length=X.N.length
section
variable {X:Cx}{pins:List @11}{σ:List (Option V)}{H H':Hp}{s:Shared}{h':Heap}
theorem Cx.Ok.QvK (ok:X.Ok){b:Addr}{o:Obj}(e:X.base.get? b=some o):b∉X.fs:=fun hb=>by
 have:=(ok.Qhn.mem hb).1
 rw[e] at this;cases this
theorem Inv.bs (I:Inv X pins σ H s):∀b o,X.base.get? b=some o->s.heap.get? b=some o/\H b=none:=fun b o e=>
 ⟨I.base.keep b o (I.ok.bs b o e).1 (I.ok.bs b o e).2 (I.ok.QvK e) (I.ok.QnH b o e),I.base.free b o (I.ok.bs b o e).1 (I.ok.bs b o e).2 (I.ok.QnH b o e)⟩
theorem Inv.bk (I:Inv X pins σ H s):∀b o,X.base.get? b=some o->s.heap.get? b=some o:=fun b o e=>(I.bs b o e).1
theorem Inv.mod (I:Inv X pins σ H s):Mod X.K X.mg X.base:=I.ok.mod
theorem Inv.kIn (I:Inv X pins σ H s):X.K.In s.heap:=I.ok.mod.kin.keeps I.bk
theorem Inv.lt (I:Inv X pins σ H s):X.env.locals<s.heap.objs.size:=let ⟨_,hn,_⟩:=I.loc;hn.lt
theorem Inv.sz (I:Inv X pins σ H s):X.s₀.heap.objs.size<=s.heap.objs.size:=z65 I.ok.above (zu6 I.lt)
theorem Inv.Qu1 (I:Inv X pins σ H s){a:Addr}(h:s.heap.objs.size<=a):a∉X.fs:=fun hb=>by
 obtain⟨_,o,ho,_⟩:=I.ok.Qhn.mem hb
 exact absurd (z37 (z31 ho) (z65 I.sz h)) (zc6 _)
theorem Inv.cne (I:Inv X pins σ H s):∀x c,X.env.cells.lookup x=some c->c≠X.env.locals:=fun x c e z=>by
 obtain⟨v,o,ho,hd⟩:=I.cell x c e
 obtain⟨m,⟨o',es,ep,ho',hd',_⟩,_⟩:=I.loc
 rw[z,ho'] at ho;cases ho;rw[hd'] at hd;cases hd
theorem Inv.Qhn (I:Inv X pins σ H s):s.heap.FunFrames X.base X.outer:=by
 have all:∀(l:List Env),(∀b∈frs l,b∈X.fs)->X.s₀.heap.FunFrames X.base l->s.heap.FunFrames X.base l:=by
  intro l
  induction l with
  |nil=>intro _ _;trivial
  |cons env r ih=>
   intro hs hl
   obtain⟨hk,⟨L,o,hf,hn,ho,hd⟩,hr⟩:=hl
   have hL:L∈X.fs:=hs L (by unfold frs;rw[zc4,hf];exact z07)
   obtain⟨sl,e⟩:=I.base.slot L o ho (I.ok.frf L hL) hL fun z=>I.ok.QnI L z hL
   exact⟨hk,⟨L,_,hf,hn,e,hd⟩,ih (fun b hb=>hs b (by unfold frs;rw[zc4,hf];exact z08 _ hb)) hr⟩
 exact all X.outer (fun _ hb=>hb) I.ok.Qhn
theorem Inv.stack (I:Inv X pins σ H s):s.heap.FunFrames X.base X.stack:=by
 rcases I.ok.stk with e|⟨e,hf⟩
 ·rw[e];exact I.Qhn
 ·rw[e]
  obtain⟨m,hn,_⟩:=I.loc
  refine .cons (by rw[I.ok.kind];decide) hf hn ?_ I.Qhn
  exact zk7 (z65 I.ok.bsz I.ok.above)
theorem Inv.Qed (I:Inv X pins σ H s):∀b∈frs X.stack,b∈X.env.locals::X.fs:=fun b hb=>by
 rcases I.ok.stk with e|⟨e,hf⟩
 ·rw[e] at hb;exact z08 _ hb
 ·rw[e] at hb
  unfold frs at hb
  rw[zc4,hf] at hb
  exact hb
theorem Inv.QgG (I:Inv X pins σ H s):∀b∈frs X.stack,H b=none:=fun b hb=>by
 rcases z15.mp (I.Qed b hb) with e|hb
 ·rw[e];exact I.free
 ·obtain⟨_,o,ho,_⟩:=I.ok.Qhn.mem hb
  exact I.base.free b o ho (I.ok.frf b hb) fun z=>I.ok.QnI b z hb
theorem Inv.step {g':Array GenState}{t':Nat}{d':Drawn}{ch:List Addr}(I:Inv X pins σ H s)
  (hch:∀b∈ch,(b∈X.ex\/X.s₀.heap.objs.size<=b)/\b≠X.env.locals/\(∀x c,X.env.cells.lookup x=some c->c≠b)/\∀p∈X.pn++pins,p.1≠b)
  (keep:∀b o,b≠X.env.locals->b∉X.fs->b∉ch->s.heap.get? b=some o->H b=none->h'.get? b=some o)
  (slot:∀b o,b≠X.env.locals->b∈X.fs->b∉ch->s.heap.get? b=some o->H b=none->∃sl,h'.get? b=some { o with slots:=sl }) (free:∀b o,b∉ch->s.heap.get? b=some o->H b=none->H' b=none)
  (there:∀b o,b∉ch->s.heap.get? b=some o->∃o',h'.get? b=some o')
  (tups:∀b xs,H b=some (.tup xs)->H' b=some (.tup xs)) (QiD:∀b o u,H b=some (.frz o u)->H' b=some (.frz o u)) (Qjk:∀b ps,H b=some (.tbl ps)->∃more,H' b=some (.tbl (ps++more)))
  (ns:∀m,s.heap.Ns X.env.locals m->h'.Ns X.env.locals m) (hok:HOk X.prog X.w H' h') (hg:AllBare g') :
  Inv X pins σ H' { s with heap:=h',gens:=g',drawn:=d',toks:=t' }:=by
 have neL:∀b o,X.s₀.heap.get? b=some o->b≠X.env.locals:=fun b o e=>z50 (z37 (z31 e) I.ok.above)
 have neC:∀b o,X.s₀.heap.get? b=some o->b∉X.ex->b∉ch:=fun b o e hx hb=>by
  rcases(hch b hb).1 with z|z
  ·exact hx z
  ·exact absurd (z37 (z31 e) z) (zc6 _)
 have cellK:∀x c,X.env.cells.lookup x=some c->∀v,s.heap.IsCell c v->h'.IsCell c v:=fun x c e v ⟨o,ho,hd⟩=>by
  have nch:c∉ch:=fun z=>(hch c z).2.2.1 x c e rfl
  by_cases hc:c∈X.fs
  ·obtain⟨sl,q⟩:=slot c o (I.cne x c e) hc nch ho (I.Qa7 x c e)
   exact⟨_,q,hd⟩
  ·exact⟨o,keep c o (I.cne x c e) hc nch ho (I.Qa7 x c e),hd⟩
 refine⟨I.ok,I.os,hg,⟨fun b o e n hb hx=>?_,fun b o e n hb hx=>?_,fun b o e n hx=>?_,fun b o e hx=>?_,fun b xs e=>tups b xs (I.base.tups b xs e),fun b o xs e=>QiD b o xs (I.base.QiD b o xs e),fun b ps e=>?_⟩,?_,fun x c e=>?_,?_,fun x c e=>?_,fun p hp=>?_,hok,I.len⟩
 ·exact keep b o (neL b o e) hb (neC b o e hx) (I.base.keep b o e n hb hx) (I.base.free b o e n hx)
 ·obtain⟨sl,e1⟩:=I.base.slot b o e n hb hx
  obtain⟨sl',e2⟩:=slot b _ (neL b o e) hb (neC b o e hx) e1 (I.base.free b o e n hx)
  exact⟨sl',e2⟩
 ·obtain⟨o',e1⟩:=I.base.there b o e hx
  exact free b o' (neC b o e hx) e1 (I.base.free b o e n hx)
 ·obtain⟨o',e1⟩:=I.base.there b o e hx
  exact there b o' (neC b o e hx) e1
 ·obtain⟨m1,e1⟩:=I.base.Qjk b ps e
  obtain⟨m2,e2⟩:=Qjk b _ e1
  exact⟨m1++m2,by rw[e2,Array.append_assoc]⟩
 ·obtain⟨m,hn,hl⟩:=I.loc
  refine⟨m,ns m hn,fun i x v e1 e2 e3=>?_⟩
  obtain⟨u,r,l⟩:=hl i x v e1 e2 e3
  refine⟨u,r,?_⟩
  rcases l with l|⟨k,c,e,z⟩
  ·exact .inl l
  ·exact .inr ⟨k,c,e,cellK x c e _ z⟩
 ·obtain⟨v,z⟩:=I.cell x c e
  exact⟨v,cellK x c e v z⟩
 ·obtain⟨m,⟨o,_,_,ho,_⟩,_⟩:=I.loc
  exact free _ o (fun z=>(hch _ z).2.1 rfl) ho I.free
 ·obtain⟨v,o,ho,hd⟩:=I.cell x c e
  exact free c o (fun z=>(hch c z).2.2.1 x c e rfl) ho (I.Qa7 x c e)
 ·obtain⟨e,n,ne,nf,d⟩:=I.pin p hp
  have nch:p.1∉ch:=fun z=>(hch p.1 z).2.2.2 p hp rfl
  exact⟨keep p.1 p.2 ne nf nch e n,free p.1 p.2 nch e n,ne,nf,d⟩
theorem Inv.un {t':Nat}(I:Inv X pins σ H s)(u:Un X.fs [] H H' s.heap h')(hok:HOk X.prog X.w H' h'):Inv X pins σ H' { s with heap:=h',toks:=t' }:=by
 obtain⟨m,⟨o,es,ep,ho,r⟩,_⟩:=id I.loc
 obtain⟨sl,hL⟩:=u.any ho I.free @9
 exact I.step (g':=s.gens) (d':=s.drawn) (ch:=[]) @2 (fun b o _ hb _ e n=>u.keep b o e n hb @9) (fun b o _ hb _ e n=>u.slot b o e n hb @9) (fun b o _ e n=>u.free b o e n @9) (fun b o _ e=>u.there b o e @9) u.tups u.QiD u.Qjk (fun m' hm=>by
  obtain⟨o',es',ep',ho',r'⟩:=hm
  rw[ho] at ho';cases ho'
  exact⟨_,es',ep',hL,r'⟩) hok I.bare
theorem Inv.call {g':Array GenState}{t':Nat}{d':Drawn}{ch:List Addr}(I:Inv X pins σ H s)(u:Un (frs X.stack) ch H H' s.heap h')(hok:HOk X.prog X.w H' h')(hg:AllBare g')
  (hch:∀b∈ch,(b∈X.ex\/X.s₀.heap.objs.size<=b)/\b≠X.env.locals/\(∀x c,X.env.cells.lookup x=some c->c≠b)/\∀p∈X.pn++pins,p.1≠b) :
  Inv X pins σ H' { s with heap:=h',gens:=g',drawn:=d',toks:=t' }:=by
 obtain⟨m,⟨o,es,ep,ho,r⟩,_⟩:=id I.loc
 obtain⟨sl,hL⟩:=u.any ho I.free fun z=>(hch _ z).2.1 rfl
 exact I.step (ch:=ch) hch (fun b o hL hb hc e n=>u.keep b o e n (fun z=>(z15.mp (I.Qed b z)).elim hL hb) hc) (fun b o _ _ hc e n=>u.any e n hc) (fun b o hc e n=>u.free b o e n hc) (fun b o hc e=>u.there b o e hc) u.tups u.QiD u.Qjk (fun m' hm=>by
  obtain⟨o',es',ep',ho',r'⟩:=hm
  rw[ho] at ho';cases ho'
  exact⟨_,es',ep',hL,r'⟩) hok hg
theorem Inv.turned {t':Nat}{it:Addr}(I:Inv X pins σ H s)(k:∀b o,b≠it->s.heap.get? b=some o->h'.get? b=some o)(hn:H it=none)(hL:it≠X.env.locals)
  (h1:it∈X.ex\/X.s₀.heap.objs.size<=it) (h2:∀x c,X.env.cells.lookup x=some c->c≠it) (h3:∀p∈X.pn++pins,p.1≠it):Inv X pins σ H { s with heap:=h',toks:=t' }:=by
 have nit:∀b u,H b=some u->b≠it:=fun b u e z=>by rw[z,hn] at e;cases e
 refine I.step (g':=s.gens) (d':=s.drawn) (ch:=[it]) (fun b hb=>?_) (fun b o _ _ hc e _=>k b o (fun z=>hc (by simp[z])) e) (fun b o _ _ hc e _=>⟨o.slots,k b o (fun z=>hc (by simp[z])) e⟩) (fun _ _ _ _ n=>n)
  (fun b o hc e=>⟨o,k b o (fun z=>hc (by simp[z])) e⟩) (fun _ _ e=>e) (fun _ _ _ e=>e) (fun b ps e=>⟨#[],by rw[e];simp⟩) (fun m hm=>?_) (fun b u e=>?_) I.bare
 ·have e:b=it:=by simpa using hb
  subst e
  exact⟨h1,hL,h2,h3⟩
 ·obtain⟨o,es,ep,ho,r⟩:=hm
  exact⟨o,es,ep,k _ o (zb9 hL) ho,r⟩
 ·refine(I.hok b u e).stay (fun c v hc q=>k c v ?_ q) (fun _ q=>q) fun _ _ q=>q
  rcases hc with z|z
  ·rw[z];exact nit b u e
  ·exact nit c _ z
theorem Inv.tok (I:Inv X pins σ H s)(t:Nat):Inv X pins σ H { s with toks:=t }:=I.un (h':=s.heap) (t':=t) Un.refl I.hok
theorem Inv.kept {t':Nat}(I:Inv X pins σ H s)(k:∀b u,s.heap.get? b=some u->h'.get? b=some u):Inv X pins σ H { s with heap:=h',toks:=t' }:=I.un (Un.kept k) (I.hok.kept k)
theorem Inv.laid {a:Addr}{o:HO}{t':Nat}(I:Inv X pins σ H s)(k:∀b u,s.heap.get? b=some u->h'.get? b=some u)(hp:s.heap.objs.size<=a)(new:JM X.prog X.w (upd H a o) h' a o) :
  Inv X pins σ (upd H a o) { s with heap:=h',toks:=t' }:=I.un (Un.laid k hp (I.hok.fresh hp)) (I.hok.laid k hp new)
theorem Inv.write {x e:Addr}{o:HO}{t':Nat}(I:Inv X pins σ H s)(mu:Mut (H x))(he:e=x\/H e=some (.own x))(k:∀b u,b≠e->s.heap.get? b=some u->h'.get? b=some u)(heo:∃u,h'.get? e=some u)
  (new:JM X.prog X.w (upd H x o) h' x o):Inv X pins σ (upd H x o) { s with heap:=h',toks:=t' }:=I.un (Un.write mu he k heo) (I.hok.write mu he k heo new)
theorem Inv.weak {σ':List (Option V)}(I:Inv X pins σ H s)(hl:σ'.length=σ.length)(w:∀(i:Nat) v,σ'[i]? = some (some v)->σ[i]? = some (some v)):Inv X pins σ' H s:=
 ⟨I.ok,I.os,I.bare,I.base,let ⟨m,hn,hl'⟩:=I.loc;⟨m,hn,fun i x v e1 e2 e3=>hl' i x v e1 (w i v e2) e3⟩,I.cell,I.free,I.Qa7,I.pin,I.hok,hl.trans I.len⟩
theorem Inv.QeK {QiE:List @11}(I:Inv X pins σ H s)(h:∀p∈QiE,s.heap.get? p.1=some p.2/\H p.1=none/\p.1≠X.env.locals/\p.1∉X.fs/\∀v,p.2.data≠.cell v):Inv X QiE σ H s:=
 ⟨I.ok,I.os,I.bare,I.base,I.loc,I.cell,I.free,I.Qa7,fun p hp=>(z05.mp hp).elim (fun z=>I.pin p (z06 _ z)) (h p),I.hok,I.len⟩
theorem QeL {N:List Str}(hN:N.Nodup){i j:Nat}{x:Str}(a:N[i]? = some x)(b:N[j]? = some x):i=j:=by
 obtain⟨h1,e1⟩:=z25.mp a
 obtain⟨h2,e2⟩:=z25.mp b
 exact(zg4 hN).mp (e1.trans e2.symm)
theorem QfB {M:Model}{A:Around}{E:Value->Shared->Prop}{i:Nat}{x:Str}{v:V}{u:Value}{Q:Unit->Shared->Prop}(I:Inv X pins σ H s)(hN:X.N.Nodup)(hi:X.N[i]? = some x)(hx:Loc X.env.scope x)(r:RelV v u)
  (h:∀s',Inv X pins (σ.set i (some v)) H s'->(∃a,zf0 a s.heap s'.heap/\(a=X.env.locals\/X.env.cells.lookup x=some a))->Q () s') (hf:X.fn x=true\/X.env.scope.names.lookup x=some .local:=by first|exact .inl rfl|exact .inr rfl|assumption):wpAny M A (storeName X.env x u) Q E s:=by
 obtain⟨m,hn,hl⟩:=id I.loc
 have hcls:(X.env.scope.kind == .class || (X.env.scope.kind == .module && X.env.locals != X.env.globals))=false:=by rw[I.ok.kind];rfl
 have hiσ:i<σ.length:=by rw[I.len];exact(z25.mp hi).1
 have cne:=I.cne
 have tracked:∀{a:Addr} {h':Heap},(∃o,s.heap.get? a=some o/\H a=none)->zf0 a s.heap h'->HOk X.prog X.w H h':=fun{a h'} ha hs b ob e=>by
  obtain⟨_,_,hfree⟩:=ha
  refine(I.hok b ob e).stay (fun c w' hc q=>(hs.2 c ?_).trans q) (fun _ q=>q) fun _ _ q=>q
  rintro rfl
  rcases hc with rfl|hc
  ·rw[hfree] at e;cases e
  ·rw[hfree] at hc;cases hc
 rcases hx with hk|hk
 ·refine wpAny_storeName_local hk hn (fun h' hn' hs=>?_) hcls
  obtain⟨oL,_,_,hoL,_⟩:=id hn
  refine h _ ⟨I.ok,I.os,I.bare,⟨fun b o e n hb hx=>?_,fun b o e n hb hx=>?_,I.base.free,fun b o e hx=>?_,I.base.tups,I.base.QiD,I.base.Qjk⟩,⟨_,hn',fun j y v' e1 e2 e3=>?_⟩,fun y c e=>?_,I.free,I.Qa7,fun p hp=>?_,tracked ⟨oL,hoL,I.free⟩ hs,by simpa using I.len⟩ ⟨_,hs,.inl rfl⟩
  ·exact(hs.2 b (z50 (z37 (z31 e) I.ok.above))).trans (I.base.keep b o e n hb hx)
  ·obtain⟨sl,e1⟩:=I.base.slot b o e n hb hx
   exact⟨sl,(hs.2 b (z50 (z37 (z31 e) I.ok.above))).trans e1⟩
  ·obtain⟨o',e1⟩:=I.base.there b o e hx
   exact⟨o',(hs.2 b (z50 (z37 (z31 e) I.ok.above))).trans e1⟩
  ·by_cases hj:j=i
   ·subst hj
    rw[hi] at e1;cases e1
    rw[z87 hiσ] at e2
    cases e2
    exact⟨u,r,.inl ⟨hk,by simp⟩⟩
   ·rw[z60 (zb9 hj)] at e2
    obtain⟨u',r',q⟩:=hl j y v' e1 e2 e3
    refine⟨u',r',?_⟩
    rcases q with⟨k,e⟩|⟨k,c,e,z⟩
    ·refine .inl ⟨k,?_⟩
     have:y≠x:=fun e=>hj (QeL hN e1 (e▸hi))
     simp[this,e]
    ·exact .inr ⟨k,c,e,z.sameBut hs (cne y c e)⟩
  ·obtain⟨w',z⟩:=I.cell y c e
   exact⟨w',z.sameBut hs (cne y c e)⟩
  ·obtain⟨e,n,ne,nf,d⟩:=I.pin p hp
   exact⟨(hs.2 p.1 ne).trans e,n,ne,nf,d⟩
 ·have hfn:X.fn x=true:=by
   rcases hf with z|z
   ·exact z
   ·rw[z] at hk;cases hk
  obtain⟨c,hc⟩:=I.ok.has x (.inl hk)
  obtain⟨w',z⟩:=I.cell x c hc
  refine wpAny_storeName_cell I.ok.kind hk hc z (fun h' hc' hs=>?_)
  obtain⟨oc,hoc,QvL⟩:=id z
  refine h { s with heap:=h' } ⟨I.ok,I.os,I.bare,⟨fun b o e n hb hx=>?_,fun b o e n hb hx=>?_,I.base.free,fun b o e hx=>?_,I.base.tups,I.base.QiD,I.base.Qjk⟩,⟨m,hn.sameBut hs (zb9 (cne x c hc)),fun j y v' e1 e2 e3=>?_⟩,fun y c' e=>?_,I.free,I.Qa7,fun p hp=>?_,tracked ⟨oc,hoc,I.Qa7 x c hc⟩ hs,by simpa using I.len⟩ ⟨c,hs,.inr hc⟩
  ·exact(hs.2 b (z50 (z37 (z31 e) (I.ok.cab x c hfn hc)))).trans (I.base.keep b o e n hb hx)
  ·obtain⟨sl,e1⟩:=I.base.slot b o e n hb hx
   exact⟨sl,(hs.2 b (z50 (z37 (z31 e) (I.ok.cab x c hfn hc)))).trans e1⟩
  ·obtain⟨o',e1⟩:=I.base.there b o e hx
   exact⟨o',(hs.2 b (z50 (z37 (z31 e) (I.ok.cab x c hfn hc)))).trans e1⟩
  ·by_cases hj:j=i
   ·subst hj
    rw[hi] at e1;cases e1
    rw[z87 hiσ] at e2
    cases e2
    exact⟨u,r,.inr ⟨.inl hk,c,hc,hc'⟩⟩
   ·rw[z60 (zb9 hj)] at e2
    obtain⟨u',r',q⟩:=hl j y v' e1 e2 e3
    refine⟨u',r',?_⟩
    rcases q with q|⟨k,c',e,z'⟩
    ·exact .inl q
    ·refine .inr ⟨k,c',e,z'.sameBut hs ?_⟩
     rintro rfl
     exact hj (QeL hN e1 (I.ok.inj _ _ _ e hc▸hi))
  ·by_cases hcc:c'=c
   ·subst hcc;exact⟨_,hc'⟩
   ·obtain⟨w2,z2⟩:=I.cell y c' e
    exact⟨w2,z2.sameBut hs hcc⟩
  ·obtain⟨e,n,ne,nf,d⟩:=I.pin p hp
   refine⟨(hs.2 p.1 ?_).trans e,n,ne,nf,d⟩
   intro q
   rw[q,hoc] at e
   have q':oc=p.2:=z21 e
   exact d w' (by rw[← q'];exact QvL)
theorem QeM {M:Model}{A:Around}{E:Value->Shared->Prop}{i:Nat}{x:Str}{v:V}{u:Value}{Q:Unit->Shared->Prop}(I:Inv X pins σ H s)(hN:X.N.Nodup)(hi:X.N[i]? = some x)(hx:Loc X.env.scope x)(r:RelV v u)
  (h:∀s',Inv X pins (σ.set i (some v)) H s'->Q () s') (hf:X.fn x=true\/X.env.scope.names.lookup x=some .local:=by first|exact .inl rfl|exact .inr rfl|assumption):wpAny M A (storeName X.env x u) Q E s:=
 QfB I hN hi hx r (fun s' I' _=>h s' I') hf
theorem Inv.call' {s':Shared}{ch:List Addr}(I:Inv X pins σ H s)(ho:s'.os=s.os)(u:Un (frs X.stack) ch H H' s.heap s'.heap)(hok:HOk X.prog X.w H' s'.heap)(hg:AllBare s'.gens)
  (hch:∀b∈ch,(b∈X.ex\/X.s₀.heap.objs.size<=b)/\b≠X.env.locals/\(∀x c,X.env.cells.lookup x=some c->c≠b)/\∀p∈X.pn++pins,p.1≠b):Inv X pins σ H' s':=by
 obtain⟨h',g',d',t',o'⟩:=s'
 have e:o'=s.os:=ho
 subst e
 exact I.call (g':=g') (t':=t') (d':=d') u hok hg hch
end
abbrev XK:=Value->Option Addr->Hp->Prop
abbrev St:=List (Option V)
abbrev VK:=V->Hp->Prop
abbrev TE:=St->Hp->VK->Prop
abbrev TT:=St->Hp->(Bool->Hp->Prop)->Prop
abbrev TA:=St->Hp->(List V->Hp->Prop)->Prop
structure Ends where
 nx:St->Hp->Prop
 rt:VK
 bk:St->Hp->Prop:=fun _ _=>False
 ct:St->Hp->Prop:=fun _ _=>False
abbrev TS:=Ends->St->Hp->Prop
def EP (X:Cx)(pins:List @11)(σ:St)(Q:VK)(u:Value)(s':Shared):Prop:=∃v H',Inv X pins σ H' s'/\RelV v u/\Q v H'
def TP (X:Cx)(pins:List @11)(σ:St)(Q:Bool->Hp->Prop)(b:Bool)(s':Shared):Prop:=∃H',Inv X pins σ H' s'/\Q b H'
def AP (X:Cx)(pins:List @11)(σ:St)(Q:List V->Hp->Prop)(us:List Value)(s':Shared):Prop:=∃vs H',Inv X pins σ H' s'/\Vals vs us/\Q vs H'
def SP (X:Cx)(pins:List @11)(D:Ends)(f:Flow)(s':Shared):Prop:=
 match f with
 |.next=>∃σ' H',Inv X pins σ' H' s'/\D.nx σ' H'
 |.brk=>∃σ' H',Inv X pins σ' H' s'/\D.bk σ' H'
 |.cont=>∃σ' H',Inv X pins σ' H' s'/\D.ct σ' H'
 |.ret u=>∃v σ' H',Inv X pins σ' H' s'/\RelV v u/\D.rt v H'
def PE (X:Cx)(e:Expr)(t:TE):Prop:=
 ∀(pins:List @11) (s:Shared) (σ:St) (H:Hp) (Q:VK),Inv X pins σ H s->t σ H Q->wpAny @4 X.A (eval e X.env) (EP X pins σ Q) X.xe s
def PT (X:Cx)(e:Expr)(t:TT):Prop:=
 ∀(pins:List @11) (s:Shared) (σ:St) (H:Hp) (Q:Bool->Hp->Prop),Inv X pins σ H s->t σ H Q->wpAny @4 X.A (isTrue e X.env (eval e X.env)) (TP X pins σ Q) X.xe s
def PW (X:Cx)(e:Expr)(t:TT):Prop:=
 ∀(whole:Sem Value) (pins:List @11) (s:Shared) (σ:St) (H:Hp) (Q:Bool->Hp->Prop),Inv X pins σ H s->t σ H Q->wpAny @4 X.A (isTrue e X.env whole) (TP X pins σ Q) X.xe s
theorem PW.pt {X:Cx}{e:Expr}{t:TT}(h:PW X e t):PT X e t:=h _
def PA (X:Cx)(es:List Expr)(t:TA):Prop:=
 ∀(pos:Pos) (pins:List @11) (s:Shared) (σ:St) (H:Hp) (Q:List V->Hp->Prop),Inv X pins σ H s->t σ H Q->wpAny @4 X.A (spliced (backTo pos (starEach es X.env))) (AP X pins σ Q) X.xe s
def PS (X:Cx)(st:Stmt)(t:TS):Prop:=
 ∀(pins:List @11) (s:Shared) (σ:St) (H:Hp) (D:Ends),Inv X pins σ H s->t D σ H->wpAny @4 X.A (exec st X.env) (SP X pins D) X.xe s
def PSs (X:Cx)(st:List Stmt)(t:TS):Prop:=
 ∀(pins:List @11) (s:Shared) (σ:St) (H:Hp) (D:Ends),Inv X pins σ H s->t D σ H->wpAny @4 X.A (execs st X.env) (SP X pins D) X.xe s
theorem thn {α:Type}{t:Sem α}{Q Q':α->Shared->Prop}{M:Model}{A:Around}{E:Value->Shared->Prop}{s:Shared}(h:wpAny M A t Q E s)(hQ:∀a s,Q a s->Q' a s):wpAny M A t Q' E s:=zb0 h hQ fun _ _ x=>x
section
variable {X:Cx}
def QsX (i:Nat):TE:=fun σ H Q=>∃v,σ[i]? = some (some v)/\Q v H
def tC (v:V):TE:=fun _ H Q=>Q v H
theorem Qan {i:Nat}{x:Str}{pos:Pos}(hN:X.N[i]? = some x)(hv:Vis X.env.scope x)(hd:@6=false:=by decide)(hcd:(x == ("__classdict__" : Str))=false:=by decide):PE X (.Name x pos) (QsX i):=by
 intro pins s σ H Q I h
 obtain⟨v,e,h⟩:=h
 obtain⟨m,hn,hl⟩:=I.loc
 obtain⟨u,r,l⟩:=hl i x v hN e hv
 have fin:EP X pins σ Q u s:=⟨v,H,I,r,h⟩
 rcases l with⟨hk,hm⟩|⟨hk,c,hc,hcell⟩
 ·exact wpAny_Name (wpAny_loadName_local I.ok.kind hk hn hm fin) hd
 ·rcases hk with hk|hk
  ·exact wpAny_Name (wpAny_loadName_cell I.ok.kind hk hc hcell fin) hd
  ·exact wpAny_Name (wpAny_loadName_free I.ok.kind hk hc hcell fin hcd) hd
theorem QpT {i j pos}:PE X (.Constant (.int i) j pos) (tC (.int i)):=fun _ _ _ H _ I h=>wpAny_Constant_int ⟨.int i,H,I.tok _,⟨_,rfl⟩,h⟩
theorem Qtc {b j pos}:PE X (.Constant (.bool b) j pos) (tC (.bl b)):=fun _ _ _ H _ I h=>Constant_bool ⟨.bl b,H,I,rfl,h⟩
theorem QpU {j pos}:PE X (.Constant .none j pos) (tC .non):=fun _ _ _ H _ I h=>Constant_none ⟨.non,H,I,rfl,h⟩
theorem QpV {x j pos}:PE X (.Constant (.str x) j pos) (tC (.str x)):=fun _ _ _ H _ I h=>Calls.Constant_str ⟨.str x,H,I.tok _,⟨_,rfl⟩,h⟩
def Gl (X:Cx)(x:Str):Prop:=X.env.kindOf x=some .globalImplicit
theorem Qdb {E:Value->Shared->Prop}{pins:List @11}{s:Shared}{σ:St}{H:Hp}{x:Str}{u:Value}{pos:Pos}{Q:Value->Shared->Prop}(I:Inv X pins σ H s)(hg:Gl X x)(hm:X.mg x=some u)(h:Q u s)
  (hd:@6=false:=by decide):wpAny @4 X.A (eval (.Name x pos) X.env) Q E s:=
 zp7 I.ok.kind hg (Calls.loadGlobal_global (by rw[I.ok.glob];exact I.mod.glob.keeps I.bk) hm h) hd
theorem QfC {E:Value->Shared->Prop}{pins:List @11}{s:Shared}{σ:St}{H:Hp}{x:Str}{u:Value}{pos:Pos}{Q:Value->Shared->Prop}(I:Inv X pins σ H s)(hg:Gl X x)(hm:X.mg x=none)(hv:z74 x=some u)(h:Q u s)
  (hn:x ≠ "__name__" := by decide) (hd:@6=false:=by decide):wpAny @4 X.A (eval (.Name x pos) X.env) Q E s:=by
 obtain⟨mb,h1,h2⟩:=I.mod.blt
 exact zp7 I.ok.kind hg (Calls.loadGlobal_builtin (by rw[I.ok.glob];exact I.mod.glob.keeps I.bk) hm (by rw[I.ok.blt];exact h1.keeps I.bk) ((h2 x hn).trans hv) h) hd
theorem QnJ {x:Str}{v:V}{u:Value}{pos:Pos}(hg:Gl X x)(hm:X.mg x=some u)(r:RelV v u)(hd:@6=false:=by decide):PE X (.Name x pos) (tC v):=
 fun _ _ _ H _ I h=>Qdb I hg hm ⟨v,H,I,r,h⟩ hd
theorem QnK {x:Str}{v:V}{u:Value}{pos:Pos}(hg:Gl X x)(hm:X.mg x=none)(hv:z74 x=some u)(r:RelV v u)(hn:x ≠ "__name__" := by decide)(hd:@6=false:=by decide):PE X (.Name x pos) (tC v):=
 fun _ _ _ H _ I h=>QfC I hg hm hv ⟨v,H,I,r,h⟩ hn hd
variable {a b:Expr}{ta tb:TE}{pos:Pos}
def tB (t:TE):TT:=fun σ H Q=>t σ H fun x H1=>∃c,x=.bl c/\Q c H1
theorem QpW {e:Expr}{t:TE}(h:PE X e t)(he:∀whole,isTrue e X.env whole=(do let v ← whole;standAt e.pos;holding [v] (truthy v)):=by intro _;rfl):PT X e (tB t):=by
 intro pins s σ H Q I hw
 refine isTrue_plain (thn (h pins s σ H _ I hw) fun v s1 hz=>?_) (he _)
 obtain⟨x,H1,I1,r1,q1⟩:=hz
 obtain⟨d,rfl,q⟩:=q1
 cases r1
 exact za9 ⟨H1,I1,q⟩
variable {tA tB':TT}{rest:List Expr}
def QvM (t u:TT):TT:=fun σ H Q=>t σ H fun c H1=>if c=true then u σ H1 Q else Q false H1
def tOr (t u:TT):TT:=fun σ H Q=>t σ H fun c H1=>if c=true then Q true H1 else u σ H1 Q
def QvN (t:TT):TT:=fun σ H Q=>t σ H fun c H1=>Q (!c) H1
theorem QnL (ha:PT X a tA):PW X (.BoolOp .And [a] pos) tA:=by
 intro wh pins s σ H Q I h
 refine isTrue_and (thn (ha pins s σ H Q I h) fun c s1 e=>?_)
 cases c with
 |true=>exact isTrue_and_nil e
 |false=>exact e
theorem QpX (ha:PT X a tA):PW X (.BoolOp .Or [a] pos) tA:=by
 intro wh pins s σ H Q I h
 refine isTrue_or (thn (ha pins s σ H Q I h) fun c s1 e=>?_)
 cases c with
 |false=>exact isTrue_or_nil e
 |true=>exact e
theorem QpY (ha:PT X a tA)(hb:PW X (.BoolOp .And (b::rest) pos) tB'):PW X (.BoolOp .And (a::b::rest) pos) (QvM tA tB'):=by
 intro wh pins s σ H Q I h
 refine isTrue_and (thn (ha pins s σ H _ I h) fun c s1 hz=>?_)
 obtain⟨H1,I1,q1⟩:=hz
 cases c with
 |true=>exact hb wh pins s1 σ H1 Q I1 q1
 |false=>exact⟨H1,I1,q1⟩
theorem Qtd (ha:PT X a tA)(hb:PW X (.BoolOp .Or (b::rest) pos) tB'):PW X (.BoolOp .Or (a::b::rest) pos) (tOr tA tB'):=by
 intro wh pins s σ H Q I h
 refine isTrue_or (thn (ha pins s σ H _ I h) fun c s1 hz=>?_)
 obtain⟨H1,I1,q1⟩:=hz
 cases c with
 |true=>exact⟨H1,I1,q1⟩
 |false=>exact hb wh pins s1 σ H1 Q I1 q1
theorem QpZ (ha:PT X a tA):PT X (.UnaryOp .Not a pos) (QvN tA):=by
 intro pins s σ H Q I h
 exact isTrue_not (ha pins s σ H (fun c H1=>Q (!c) H1) I h)
def Qte (ta tb:TE):TE:=fun σ H Q=>ta σ H fun x H1=>∃c,x=.bl c/\if c=true then tb σ H1 Q else Q (.bl false) H1
def Qtf (ta:TE):TE:=fun σ H Q=>ta σ H fun x H1=>∃c,x=.bl c/\Q (.bl (!c)) H1
theorem Qp0 {op}{t:TE}(h:PE X a t):PE X (.BoolOp op [a] pos) t:=fun pins s σ H Q I hw=>BoolOp_one (h pins s σ H Q I hw)
theorem Qp1 (ha:PE X a ta)(hb:PE X (.BoolOp .And (b::rest) pos) tb):PE X (.BoolOp .And (a::b::rest) pos) (Qte ta tb):=by
 intro pins s σ H Q I h
 refine BoolOp_and (thn (ha pins s σ H _ I h) fun v s1 hz=>?_)
 obtain⟨x,H1,I1,r1,q1⟩:=hz
 obtain⟨c,rfl,q1⟩:=q1
 cases r1
 refine za9 ?_
 cases c with
 |true=>exact hb pins s1 σ H1 Q I1 q1
 |false=>exact⟨.bl false,H1,I1,rfl,q1⟩
theorem Qp2 (ha:PE X a ta):PE X (.UnaryOp .Not a pos) (Qtf ta):=by
 intro pins s σ H Q I h
 refine UnaryOp_ (thn (ha pins s σ H _ I h) fun v s1 hz=>?_)
 obtain⟨x,H1,I1,r1,q1⟩:=hz
 obtain⟨c,rfl,q1⟩:=q1
 cases r1
 exact not_of (za9 ⟨.bl (!c),H1,I1,rfl,q1⟩)
def tIf (t:TT)(ta tb:TE):TE:=fun σ H Q=>t σ H fun c H1=>if c=true then ta σ H1 Q else tb σ H1 Q
theorem QlK {c:Expr}(hc:PT X c tA)(ha:PE X a ta)(hb:PE X b tb):PE X (.IfExp c a b pos) (tIf tA ta tb):=by
 intro pins s σ H Q I h
 refine wpAny_IfExp (thn (hc pins s σ H _ I h) fun d s1 hz=>?_)
 obtain⟨H1,I1,q1⟩:=hz
 cases d with
 |true=>exact ha pins s1 σ H1 Q I1 q1
 |false=>exact hb pins s1 σ H1 Q I1 q1
end
def SqL (K:z00)(H:Hp)(a:Addr)(xs:List V):Prop:=
 Rd H a (.lst xs)\/
  ∃(o:Obj) (its:Array Value) (n:Nat),K.lookup a=some o/\o.cls=.type "list" /\ o.dict=none/\o.data=.seq its n/\its.size<=z17/\Vals xs its.toList
def SqT (K:z00)(H:Hp)(a:Addr)(xs:List V):Prop:=
 Rd H a (.tup xs)\/
  ∃(o:Obj) (its:Array Value) (n:Nat),K.lookup a=some o/\o.cls=.type "tuple" /\ o.data=.seq its n/\its.size<=z17/\Vals xs its.toList
def QvO:Value->Option V
 |.none=>some .non
 |.bool b=>some (.bl b)
 |.int i _=>some (.int i)
 |.str x _=>some (.str x)
 |.bytes b _=>some (.byt b)
 |.float b _=>some (.flt b)
 |.ref a=>some (.ref a)
 |.type n=>some (.ty n)
 |_=>none
theorem RelV.abs {x:V}{u:Value}(r:RelV x u):QvO u=some x:=by
 cases x with
 |non=>cases r;rfl
 |bl _=>cases r;rfl
 |int _=>obtain⟨t,rfl⟩:=r;rfl
 |str _=>obtain⟨t,rfl⟩:=r;rfl
 |byt _=>obtain⟨t,rfl⟩:=r;rfl
 |flt _=>obtain⟨t,rfl⟩:=r;rfl
 |ref _=>cases r;rfl
 |ty _=>cases r;rfl
theorem RelV.inj {x y:V}{u:Value}(r:RelV x u)(q:RelV y u):x=y:=z21 (r.abs.symm.trans q.abs)
theorem Vals.inj:∀{xs ys:List V} {us:List Value},Vals xs us->Vals ys us->xs=ys
 |_,_,_,.nil,.nil=>rfl
 |_,_,_,.cons r t,.cons r' t'=>by rw[r.inj r',Vals.inj t t']
section
variable {X:Cx}{pins:List @11}{σ:St}{H:Hp}{s:Shared}{a:Addr}{xs ys:List V}
theorem SqL.of {K:z00}(h:H a=some (.lst xs)):SqL K H a xs:=.inl (.inl h)
theorem SqT.of {K:z00}(h:H a=some (.tup xs)):SqT K H a xs:=.inl (.inl h)
theorem Inv.list (I:Inv X pins σ H s)(h:SqL X.K H a xs):∃its:List Value,Vals xs its/\PlainL s.heap a its.toArray/\xs.length<=z17:=by
 rcases h with h|⟨o,its,n,hk,hc,hd,hs,hz,r⟩
 ·obtain⟨z,its,n,r,e⟩:=h.ok I.hok
  exact⟨its,r,⟨_,n,e,rfl,rfl,rfl⟩,z⟩
 ·refine⟨its.toList,r,⟨o,n,I.kIn a o hk,hc,hd,by simpa using hs⟩,?_⟩
  have e:=r.length
  simp only[z82] at e
  lia
theorem Inv.tuple (I:Inv X pins σ H s)(h:SqT X.K H a xs):∃its:List Value,Vals xs its/\IsTup s.heap a its.toArray/\xs.length<=z17:=by
 rcases h with h|⟨o,its,n,hk,hc,hs,hz,r⟩
 ·obtain⟨z,its,r,p⟩:=h.ok I.hok
  exact⟨its,r,p,z⟩
 ·refine⟨its.toList,r,⟨o,I.kIn a o hk,hc,n,by simpa using hs⟩,?_⟩
  have e:=r.length
  simp only[z82] at e
  lia
theorem Inv.QeN (I:Inv X pins σ H s)(h:SqL X.K H a xs)(h':SqL X.K H a ys):xs=ys:=by
 obtain⟨its,r,⟨o,n,e,_,_,d⟩,_⟩:=I.list h
 obtain⟨its',r',⟨o',n',e',_,_,d'⟩,_⟩:=I.list h'
 rw[e] at e';cases e'
 rw[d] at d'
 injection d' with d1 _
 have:its=its':=by simpa using congrArg zt3 d1
 subst this
 exact r.inj r'
theorem Inv.Qdc (I:Inv X pins σ H s)(h:SqT X.K H a xs)(h':SqT X.K H a ys):xs=ys:=by
 obtain⟨its,r,⟨o,e,_,n,d⟩,_⟩:=I.tuple h
 obtain⟨its',r',⟨o',e',_,n',d'⟩,_⟩:=I.tuple h'
 rw[e] at e';cases e'
 rw[d] at d'
 injection d' with d1 _
 have:its=its':=by simpa using congrArg zt3 d1
 subst this
 exact r.inj r'
end
section
variable {X:Cx}{st:Stmt}{rest:List Stmt}{t u:TS}{e:Expr}{te:TE}{pos:Pos}
def Qtg:TS:=fun D σ H=>D.nx σ H
def QvP (t u:TS):TS:=fun D σ H=>t { D with nx:=u D } σ H
theorem QnM:PSs X [] Qtg:=fun _ _ σ H _ I h=>zh4 ⟨σ,H,I,h⟩
theorem Qho (h1:PS X st t)(h2:PSs X rest u):PSs X (st::rest) (QvP t u):=by
 intro pins s σ H D I h
 refine wpAny_execs_cons (thn (h1 pins s σ H { D with nx:=u D } I h) fun f s1 q=>?_)
 cases f with
 |next=>
  obtain⟨σ',H',I',q⟩:=q
  exact h2 pins s1 σ' H' D I' q
 |ret v=>exact q
 |brk=>exact q
 |cont=>exact q
theorem Qjt (h1:PS X st t):PSs X [st] t:=by
 intro pins s σ H D I h
 refine wpAny_execs_cons (thn (h1 pins s σ H D I h) fun f s1 q=>?_)
 cases f with
 |next=>exact zh4 q
 |ret v=>exact q
 |brk=>exact q
 |cont=>exact q
theorem Inv.quiet {pins:List @11}{σ:St}{H:Hp}{s:Shared}(I:Inv X pins σ H s):interactive X.env=false:=by simp[interactive,I.ok.kind]
def Qth (te:TE):TS:=fun D σ H=>te σ H fun _ H1=>D.nx σ H1
theorem QeO (he:PE X e te)(hs:swapsWith e none pos.line X.env=pure false:=by rfl):PS X (.Expr e pos) (Qth te):=by
 intro pins s σ H D I h
 exact wpAny_Expr_any (thn (he pins s σ H _ I h) fun v s1 ⟨x,H1,I1,r1,q1⟩=>⟨σ,H1,I1,q1⟩) I.quiet hs
def QvQ (te:TE):TS:=fun D σ H=>te σ H D.rt
theorem Qp3 (he:PE X e te):PS X (.Return (some e) pos) (QvQ te):=by
 intro pins s σ H D I h
 exact wpAny_Return_some (thn (he pins s σ H _ I h) fun v s1 ⟨x,H1,I1,r1,q1⟩=>⟨x,σ,H1,I1,r1,q1⟩)
def QvR (c:TT)(t u:TS):TS:=fun D σ H=>c σ H fun b H1=>if b=true then t D σ H1 else u D σ H1
theorem Qti {c:Expr}{a b:List Stmt}{tc:TT}(hc:PT X c tc)(ha:PSs X a t)(hb:PSs X b u):PS X (.If c a b pos) (QvR tc t u):=by
 intro pins s σ H D I h
 refine wpAny_If (thn (hc pins s σ H _ I h) fun d s1 hz=>?_)
 obtain⟨H1,I1,q1⟩:=hz
 cases d with
 |true=>exact ha pins s1 σ H1 D I1 q1
 |false=>exact hb pins s1 σ H1 D I1 q1
end
abbrev TG:=V->St->Hp->(St->Hp->Prop)->Prop
abbrev TGs:=List V->St->Hp->(St->Hp->Prop)->Prop
def PG (X:Cx)(target:Expr)(t:TG):Prop:=
 ∀(pins:List @11) (s:Shared) (σ:St) (H:Hp) (v:V) (u:Value) (Q:St->Hp->Prop),Inv X pins σ H s->RelV v u->t v σ H Q->
  wpAny @4 X.A (assign target X.env u) (fun _ s'=>∃σ' H',Inv X pins σ' H' s'/\Q σ' H') X.xe s
def PGs (X:Cx)(ts:List Expr)(t:TGs):Prop:=
 ∀(pins:List @11) (s:Shared) (σ:St) (H:Hp) (vs:List V) (us:List Value) (Q:St->Hp->Prop),Inv X pins σ H s->Vals vs us->t vs σ H Q->
  wpAny @4 X.A (assignInOrder ((assignEach ts X.env).map (·.2)) us) (fun _ s'=>∃σ' H',Inv X pins σ' H' s'/\Q σ' H') X.xe s
abbrev Qtj:=V->V->V->Hp->(Hp->Prop)->Prop
def Qu2 (X:Cx)(t:Qtj):Prop:=
 ∀(pins:List @11) (s:Shared) (σ:St) (H:Hp) (o i v:V) (ov iv u:Value) (Q:Hp->Prop),Inv X pins σ H s->RelV o ov->RelV i iv->RelV v u->t o i v H Q->
  wpAny @4 X.A (setItem ov iv u) (fun _ s'=>∃H',Inv X pins σ H' s'/\Q H') X.xe s
section
variable {X:Cx}{pos:Pos}
def Vl (i:Nat):TG:=fun v σ H Q=>Q (σ.set i (some v)) H
theorem QG {i:Nat}{x:Str}(hN:X.N.Nodup)(hi:X.N[i]? = some x)(hx:Loc X.env.scope x)(hf:X.fn x=true\/X.env.scope.names.lookup x=some .local:=by first|exact .inl rfl|exact .inr rfl|assumption):PG X (.Name x pos) (Vl i):=by
 intro pins s σ H v u Q I r h
 exact wpAny_assign_Name (QeM I hN hi hx r (fun s' I'=>⟨_,H,I',h⟩) hf)
def QnN:TGs:=fun vs σ H Q=>vs=[]/\Q σ H
def Qck (t:TG)(u:TGs):TGs:=fun vs σ H Q=>∃v r,vs=v::r/\t v σ H fun σ' H'=>u r σ' H' Q
theorem Qbo:PGs X [] QnN:=by
 intro pins s σ H vs us Q I r h
 obtain⟨e,h⟩:=h
 subst e
 cases r
 exact assignInOrder_nil ⟨σ,H,I,h⟩
theorem Jo {e:Expr}{es:List Expr}{t:TG}{u:TGs}(h1:PG X e t)(h2:PGs X es u)
  (hs:(assignEach (e::es) X.env).map (·.2)=assign e X.env::(assignEach es X.env).map (·.2):=by rfl):PGs X (e::es) (Qck t u):=by
 intro pins s σ H vs us Q I r h
 obtain⟨v,vr,e1,h⟩:=h
 subst e1
 cases r with
 |cons r rr=>
  rw[hs]
  refine assignInOrder_cons (thn (h1 pins s σ H _ _ _ I r h) fun _ s1 hz=>?_)
  obtain⟨σ1,H1,I1,q1⟩:=hz
  exact h2 pins s1 σ1 H1 _ _ Q I1 rr q1
def QnO (K:z00)(n:Nat)(t:TGs):TG:=fun v σ H Q=>∃a xs,v=.ref a/\SqT K H a xs/\xs.length=n/\t xs σ H Q
theorem Qdd {es:List Expr}{k:Nat}{t:TGs}{n:Nat}(hc:X.calm=true)(h:PGs X es t)
  (hn:(assignEach es X.env).length=n:=by rfl) (hst:(assignEach es X.env).findIdx? (·.1)=none:=by rfl):PG X (.Tuple es k pos) (QnO X.K n t):=by
 intro pins s σ H v u Q I r hw
 obtain⟨a,xs,e1,hq,hl,hw⟩:=hw
 subst e1
 cases r
 obtain⟨its,rv,ht,hz⟩:=I.tuple hq
 refine assign_Tuple_tuple (I.ok.hd hc) ht (by simp[hn,← hl,rv.length]) hst fun h' hx=>?_
 have I1:Inv X pins σ H { s with heap:=h' }:=I.kept (t':=s.toks) fun b o e=>hx b o (z50 (z31 e)) e
 exact h pins _ σ H xs _ Q I1 (by simpa using rv) hw
def QpD (to ti:TE)(t:Qtj):TG:=fun v σ H Q=>to σ H fun o H1=>ti σ H1 fun i H2=>t o i v H2 fun H3=>Q σ H3
theorem QcA {o i:Expr}{to ti:TE}{t:Qtj}(ho:PE X o to)(hi:PE X i ti)(hs:Qu2 X t)
  (ha:∀v,assign (.Subscript o i pos) X.env v=(do
   let ov ← holding [v] (eval o X.env)
   let iv ← holding [v,ov] (eval i X.env)
   standAt pos
   holding [v,ov,iv] (setItem ov iv v)
   release [v,ov,iv] []):=by intro _;rfl):PG X (.Subscript o i pos) (QpD to ti t):=by
 intro pins s σ H v u Q I r h
 rw[ha]
 refine z13 (zc0 (thn (ho pins s σ H _ I h) fun ov s1 hz=>?_))
 obtain⟨x,H1,I1,r1,q1⟩:=hz
 refine z13 (zc0 (thn (hi pins s1 σ H1 _ I1 q1) fun iv s2 hz=>?_))
 obtain⟨y,H2,I2,r2,q2⟩:=hz
 refine z13 (zv9 (z13 (zc0 (thn (hs pins s2 σ H2 x y v ov iv u _ I2 r1 r2 r q2) fun _ s3 hz=>?_))))
 obtain⟨H3,I3,q3⟩:=hz
 exact wpAny_release ⟨σ,H3,I3,q3⟩
def Qp4 (te:TE)(g:TG):TS:=fun D σ H=>te σ H fun x H1=>g x σ H1 D.nx
theorem Qju {tg e:Expr}{te:TE}{g:TG}(he:PE X e te)(hg:PG X tg g)(hs:swapsWithSole [tg] e pos.line X.env=pure false:=by rfl)(hw:swappedStores [tg] e X.env=pure none:=by rfl)
  (h1:(assignEach [tg] X.env).map (·.2)=[assign tg X.env]:=by rfl):PS X (.Assign [tg] e pos) (Qp4 te g):=by
 intro pins s σ H D I h
 refine wpAny_Assign_stores (thn (he pins s σ H _ I h) fun v s1 hz=>?_) hs hw
 obtain⟨x,H1,I1,r1,q1⟩:=hz
 rw[h1]
 exact thn (hg pins s1 σ H1 x v _ I1 r1 q1) fun _ s2 q=>q
theorem QmS {i:Nat}{x:Str}{e:Expr}{te:TE}{pos':Pos}(hN:X.N.Nodup)(hi:X.N[i]? = some x)(hx:Loc X.env.scope x)(he:PE X e te)(hs:swapsWith e (some (.Name x pos')) pos.line X.env=pure false:=by rfl)(hf:X.fn x=true\/X.env.scope.names.lookup x=some .local:=by first|exact .inl rfl|exact .inr rfl|assumption) :
  PS X (.Assign [.Name x pos'] e pos) (Qp4 te (Vl i)):=by
 intro pins s σ H D I h
 refine wpAny_Assign_Name (thn (he pins s σ H _ I h) fun v s1 hz=>?_) hs
 obtain⟨y,H1,I1,r1,q1⟩:=hz
 exact QeM I1 hN hi hx r1 (fun s2 I2=>⟨_,H1,I2,q1⟩) hf
end
section
variable {X:Cx}{pos:Pos}
def Qp5 (c:TT)(tb:TS):TS:=fun D σ H=>∃W:Nat->St->Hp->Prop,(∃m,W m σ H)/\∀m σ H,W m σ H->
 c σ H fun b H1=>if b=true then ∃N:St->Hp->Prop,(∀σ' H',N σ' H'->∃m',m' < m/\W m' σ' H')/\tb { D with nx:=N,ct:=N,bk:=D.nx } σ H1 else D.nx σ H1
theorem QlL {c:Expr}{body:List Stmt}{tc:TT}{tb:TS}(hp:PassesOwn @4 X.A X.env X.xe)(hc:PT X c tc)(hb:PSs X body tb):PS X (.While c body [] pos) (Qp5 tc tb):=by
 intro pins s σ H D I h
 obtain⟨W,⟨m0,w0⟩,turn⟩:=h
 refine wpAny_While (codeAny_whileLoop (fun n s'=>∃σ' H',Inv X pins σ' H' s'/\W n σ' H') ?_ m0 ⟨σ,H,I,w0⟩)
 rintro n s1 ⟨σ1,H1,I1,w1⟩
 refine ze2 hp (thn (hc pins s1 σ1 H1 _ I1 (turn n σ1 H1 w1)) fun b s2 hz=>?_)
 obtain⟨H2,I2,q2⟩:=hz
 cases b with
 |true=>
  obtain⟨N,hN,q2⟩:=q2
  rw[if_pos rfl]
  refine ze2 hp (thn (hb pins s2 σ1 H2 _ I2 q2) fun f s3 q3=>?_)
  cases f with
  |next=>
   obtain⟨σ3,H3,I3,n3⟩:=q3
   obtain⟨m',hm,w3⟩:=hN σ3 H3 n3
   exact⟨m',hm,σ3,H3,I3,w3⟩
  |cont=>
   obtain⟨σ3,H3,I3,n3⟩:=q3
   obtain⟨m',hm,w3⟩:=hN σ3 H3 n3
   exact⟨m',hm,σ3,H3,I3,w3⟩
  |brk=>exact q3
  |ret v=>exact q3
 |false=>
  rw[if_neg z29]
  exact zh4 ⟨σ1,H2,I2,q2⟩
end
structure It where
 go:Nat->Hp->Prop
 yld:Nat->Hp->V->Hp->Prop
 stop:Nat->Hp->Prop
def QlH (X:Cx)(pins:List @11)(H:Hp)(b:Addr):Prop:=
 H b=none/\b≠X.env.locals/\b∉X.fs/\(b∈X.ex\/X.s₀.heap.objs.size<=b)/\(∀x c,X.env.cells.lookup x=some c->c≠b)/\∀p∈X.pn++pins,p.1≠b
theorem Inv.Qp6 {X:Cx}{pins:List @11}{σ:St}{H H':Hp}{s:Shared}{b:Addr}(I:Inv X pins σ H s)(hb:s.heap.objs.size<=b)(hn:H' b=none):QlH X pins H' b:=by
 refine⟨hn,zo0 (z37 I.lt hb),I.Qu1 hb,.inr (z65 I.sz hb),fun x c e z=>?_,fun p hp z=>?_⟩
 ·obtain⟨v,q⟩:=I.cell x c e
  exact absurd (z37 q.lt (by rw[z];exact hb)) (zc6 _)
 ·exact absurd (z37 (z31 (I.pin p hp).1) (by rw[z];exact hb)) (zc6 _)
structure Turn (P:Program)(w:World)(K:z00)(tg:Expr)(J:It)(fp:List Addr)(it:Addr)(tn:Nat->Heap->Prop):Prop where
 mem:it∈fp
 obj:∀i h,tn i h->∀b∈fp,∃o,h.get? b=some o/\∀v,o.data≠.cell v
 keep:∀i h h',tn i h->(∀b∈fp,∀o,h.get? b=some o->h'.get? b=some o)->tn i h'
 item:∀(X:Cx),X.prog=P->X.w=w->X.K=K->X.calm=true->∀(i:Nat) (pins:List @11) (s:Shared) (σ:St) (H:Hp) (E:Value->Shared->Prop),Inv X pins σ H s->(∀b∈fp,QlH X pins H b)->tn i s.heap->J.go i H->
  wpAny (model P w) X.A (pyNext (.ref it)) (fun r s1=>∃u,r=some u/\
   wpAny (model P w) X.A (letOwnedTupleGo tg (.ref it) u) (fun _ s2=>∃x H',Inv X pins σ H' s2/\RelV x u/\J.yld i H x H'/\tn (i+1) s2.heap/\∀b∈fp,H' b=none) E s1) E s
 done:∀(X:Cx),X.prog=P->X.w=w->X.K=K->X.calm=true->∀(i:Nat) (pins:List @11) (s:Shared) (σ:St) (H:Hp) (E:Value->Shared->Prop),Inv X pins σ H s->(∀b∈fp,QlH X pins H b)->tn i s.heap->J.stop i H->
  wpAny (model P w) X.A (pyNext (.ref it)) (fun r s1=>r=none/\Inv X pins σ H s1) E s
 self:∀(A:Around) (i:Nat) (s:Shared) (Q:Value->Shared->Prop) (E:Value->Shared->Prop),tn i s.heap->Q (.ref it) s->wpAny (model P w) A (pyIter (.ref it)) Q E s
abbrev TI:=St->Hp->(It->Hp->Prop)->Prop
def PIE (X:Cx)(pins:List @11)(σ:St)(tg:Expr)(R:It->Hp->Prop)(itv:Value)(s2:Shared):Prop:=
 ∃(it:Addr) (fp:List Addr) (tn:Nat->Heap->Prop) (J:It) (H':Hp),itv=.ref it/\Inv X pins σ H' s2/\Turn X.prog X.w X.K tg J fp it tn/\tn 0 s2.heap/\(∀b∈fp,QlH X pins H' b)/\R J H'
def PI (X:Cx)(tg iter:Expr)(wi:TI):Prop:=
 ∀(pins:List @11) (s:Shared) (σ:St) (H:Hp) (R:It->Hp->Prop),Inv X pins σ H s->wi σ H R->
  wpAny @4 X.A (eval iter X.env) (fun v s1=>wpAny @4 X.A (pyIter v) (PIE X pins σ tg R) X.xe s1) X.xe s
theorem QnP {M:Model}{A:Around}{E:Value->Shared->Prop}{s:Shared}{tg:Expr}{it:Addr}{u:Value}{o:Obj}{n:String}{vs:Array Value}{Q:Unit->Shared->Prop}(ho:s.heap.get? it=some o)(hc:o.cls=.type n)(hd:o.data=.fields vs)
  (hn:["enumerate","zip","dict_itemiterator","dict_reverseitemiterator","odict_iterator","itertools.zip_longest","itertools.pairwise"].contains n=false) (hQ:Q () s):wpAny M A (letOwnedTupleGo tg (.ref it) u) Q E s:=by
 unfold letOwnedTupleGo
 cases tg<;>first
  |exact z33 hQ
  |(cases u<;>first
    |exact z33 hQ
    |(refine z13 (wpAny_load ho ?_);rw[hc,hd];show wpAny M A (if(["enumerate","zip","dict_itemiterator","dict_reverseitemiterator","odict_iterator","itertools.zip_longest","itertools.pairwise"].contains n && vs[0]? == some (rawInt _))=true then _ else _) Q E s;rw[if_neg (by intro h;rw[hn,Bool.false_and] at h;cases h)];exact z33 hQ))
def Itl (K:z00)(a:Addr):It:=
 ⟨fun i H=>∃xs x,SqL K H a xs/\xs[i]? = some x,fun i H x H'=>H'=H/\∀xs,SqL K H a xs->xs[i]? = some x,fun i H=>∃xs,SqL K H a xs/\xs.length<=i⟩
def Itt (K:z00)(a:Addr):It:=
 ⟨fun i H=>∃xs x,SqT K H a xs/\xs[i]? = some x,fun i H x H'=>H'=H/\∀xs,SqT K H a xs->xs[i]? = some x,fun i H=>∃xs,SqT K H a xs/\xs.length<=i⟩
def Itr (lo:Int)(n:Nat):It:=⟨fun i _=>i<n,fun i H x H'=>H'=H/\x=.int (lo+i),fun i _=>n<=i⟩
theorem Qjv {P:Program}{w:World}{K:z00}{tg:Expr}(a it:Addr):Turn P w K tg (Itl K a) [it] it (fun i h=>h.IsListIter it a i) where
 mem:=by simp
 obj:=fun i h st b hb=>by
  have e:b=it:=by simpa using hb
  subst e
  obtain⟨o,e,c,d⟩:=st
  exact⟨o,e,fun v z=>by rw[d] at z;cases z⟩
 keep:=fun i h h' st k=>st.at fun o e=>k it @9 o e
 item:=by
  intro X hP hw hK hc i pins s σ H E I hf st hg
  subst hP hw hK
  obtain⟨xs,x,hq,hx⟩:=hg
  obtain⟨its,rv,p,hz⟩:=I.list hq
  obtain⟨u,hu,ru⟩:=rv.get hx
  obtain⟨f0,f1,f2,f3,f4,f5⟩:=hf it @9
  refine wpAny_pyNext_list_item st p.isList (x:=u) (by simpa using hu) fun h' st' sb=>?_
  have I1:Inv X pins σ H { s with heap:=h' }:=I.turned (t':=s.toks) (fun b o hb e=>(sb.2 b hb).trans e) f0 f1 f3 f4 f5
  obtain⟨o,e,c,d⟩:=id st'
  exact⟨u,rfl,QnP (s:={ s with heap:=h' }) e c d @1 ⟨x,H,I1,ru,⟨rfl,fun ys hy=>by rw[I.QeN hy hq];exact hx⟩,st',fun b hb=>(hf b hb).1⟩⟩
 done:=by
  intro X hP hw hK hc i pins s σ H E I hf st hg
  subst hP hw hK
  obtain⟨xs,hq,hx⟩:=hg
  obtain⟨its,rv,p,hz⟩:=I.list hq
  obtain⟨f0,f1,f2,f3,f4,f5⟩:=hf it @9
  have hl:=rv.length
  exact wpAny_pyNext_list_end (I.ok.hd hc) st p.isList (by simp;lia) fun h' eb=>⟨rfl,I.turned (t':=s.toks) (fun b o hb e=>eb b o hb e) f0 f1 f3 f4 f5⟩
 self:=fun _ _ _ _ _ st h=>wpAny_pyIter_listiter st h
theorem QiF {P:Program}{w:World}{K:z00}{tg:Expr}(a it:Addr):Turn P w K tg (Itt K a) [it] it (fun i h=>h.IsTupleIter it a i) where
 mem:=by simp
 obj:=fun i h st b hb=>by
  have e:b=it:=by simpa using hb
  subst e
  obtain⟨o,e,c,d⟩:=st
  exact⟨o,e,fun v z=>by rw[d] at z;cases z⟩
 keep:=fun i h h' st k=>st.at fun o e=>k it @9 o e
 item:=by
  intro X hP hw hK hc i pins s σ H E I hf st hg
  subst hP hw hK
  obtain⟨xs,x,hq,hx⟩:=hg
  obtain⟨its,rv,p,hz⟩:=I.tuple hq
  obtain⟨u,hu,ru⟩:=rv.get hx
  obtain⟨f0,f1,f2,f3,f4,f5⟩:=hf it @9
  refine wpAny_pyNext_tuple_item st (show s.heap.IsTuple a its.toArray from p) (x:=u) (by simpa using hu) fun h' st' sb=>?_
  have I1:Inv X pins σ H { s with heap:=h' }:=I.turned (t':=s.toks) (fun b o hb e=>(sb.2 b hb).trans e) f0 f1 f3 f4 f5
  obtain⟨o,e,c,d⟩:=id st'
  exact⟨u,rfl,QnP (s:={ s with heap:=h' }) e c d @1 ⟨x,H,I1,ru,⟨rfl,fun ys hy=>by rw[I.Qdc hy hq];exact hx⟩,st',fun b hb=>(hf b hb).1⟩⟩
 done:=by
  intro X hP hw hK hc i pins s σ H E I hf st hg
  subst hP hw hK
  obtain⟨xs,hq,hx⟩:=hg
  obtain⟨its,rv,p,hz⟩:=I.tuple hq
  obtain⟨f0,f1,f2,f3,f4,f5⟩:=hf it @9
  have hl:=rv.length
  exact wpAny_pyNext_tuple_end (I.ok.hd hc) st (show s.heap.IsTuple a its.toArray from p) (by simp;lia) fun h' eb=>⟨rfl,I.turned (t':=s.toks) (fun b o hb e=>eb b o hb e) f0 f1 f3 f4 f5⟩
 self:=fun _ _ _ _ _ st h=>wpAny_pyIter_tupleiter st h
theorem QiG {P:Program}{w:World}{K:z00}{tg:Expr}(it:Addr)(lo:Int)(n:Nat):Turn P w K tg (Itr lo n) [it] it (fun i h=>IsRangeIter h it (lo+(i:Nat) * 1) ((n:Int) - (i:Nat)) 1) where
 mem:=by simp
 obj:=fun i h st b hb=>by
  have e:b=it:=by simpa using hb
  subst e
  exact⟨_,st,fun v z=>by
   have z':Data.fields _=Data.cell v:=z
   cases z'⟩
 keep:=fun i h h' st k=>k it @9 _ st
 item:=by
  intro X hP hw hK hc i pins s σ H E I hf st hg
  subst hP hw hK
  obtain⟨f0,f1,f2,f3,f4,f5⟩:=hf it @9
  have W:=Walks.range (prog:=X.prog) (w:=X.w) (I.ok.hd hc) it lo 1 n
  refine W.item i s _ _ hg st fun v h' tk hv st' kk=>?_
  obtain⟨t,rfl⟩:=hv
  have I1:Inv X pins σ H { s with heap:=h',toks:=tk }:=I.turned (fun b o hb e=>kk b o (by simpa using hb) e) f0 f1 f3 f4 f5
  refine⟨_,rfl,QnP (s:={ s with heap:=h',toks:=tk }) (n := "range_iterator") st' rfl rfl @1 ⟨.int (lo+i),H,I1,⟨t,?_⟩,⟨rfl,rfl⟩,st',fun b hb=>(hf b hb).1⟩⟩
  rw[Int.mul_one]
 done:=by
  intro X hP hw hK hc i pins s σ H E I hf st hg
  subst hP hw hK
  obtain⟨f0,f1,f2,f3,f4,f5⟩:=hf it @9
  exact wpAny_pyNext_range_end (I.ok.hd hc) st (by have:n<=i:=hg;lia) fun h' eb=>⟨rfl,I.turned (t':=s.toks) (fun b o hb e=>eb b o hb e) f0 f1 f3 f4 f5⟩
 self:=fun _ _ _ _ _ st h=>wpAny_pyIter_rangeiter st h
section
variable {X:Cx}{tg:Expr}
theorem QlM {pins:List @11}{σ:St}{H:Hp}{s:Shared}{R:It->Hp->Prop}{E:Value->Shared->Prop}{lo hi:Int}{t u v:Tok}{tk:Nat}(I:Inv X pins σ H s)(h1 : -(2 ^ 62)<=lo)(h2:lo<2 ^ 62)(h3 : -(2 ^ 62)<=hi)(h4:hi<2 ^ 62)
  (q:R (Itr lo (hi - lo).toNat) H):wpAny @4 X.A (pyIter (.ref s.heap.objs.size)) (PIE X pins σ tg R) E { s with heap:=s.heap.push { cls:=.type "range",data:=.fields #[.int lo t,.int hi u,.int 1 v]},toks:=tk }:=by
 refine wpAny_pyIter_range (IsRange.new ..) (small_one h1 h2 h3 h4) ?_
 have I1:Inv X pins σ H { s with heap:=s.heap.push { cls:=.type "range",data:=.fields #[.int lo t,.int hi u,.int 1 v]},toks:=tk }:=I.kept fun b o e=>z19 _ e
 refine⟨(s.heap.push { cls:=.type "range",data:=.fields #[.int lo t,.int hi u,.int 1 v]}).objs.size,[(s.heap.push { cls:=.type "range",data:=.fields #[.int lo t,.int hi u,.int 1 v]}).objs.size],_,_,H,rfl,
  I1.kept (t':=tk) fun b o e=>z19 _ e,QiG _ lo (hi - lo).toNat,?_,fun b hb=>?_,q⟩
 ·have e1:lo+((0:Nat):Int) * 1=lo:=by simp
  have e2:(((hi - lo).toNat:Nat):Int) - ((0:Nat):Int)=Builtin.Range.rangeSize lo hi 1:=by rw[rangeSize_one];split<;>lia
  show IsRangeIter _ _ (lo+((0:Nat):Int) * 1) ((((hi - lo).toNat:Nat):Int) - ((0:Nat):Int)) 1
  rw[e1,e2]
  exact z45 _ rfl
 ·have e:b=(s.heap.push { cls:=.type "range",data:=.fields #[.int lo t,.int hi u,.int 1 v]}).objs.size:=by simpa using hb
  subst e
  exact I1.Qp6 (z24 _) (I1.hok.fresh (z24 _))
def Qtk (ta:TA):TI:=fun σ H R=>ta σ H fun vs H1=>∃j:Int,vs=[.int j]/\-(2 ^ 62)<=j/\j<2 ^ 62/\R (Itr 0 j.toNat) H1
theorem Qjw {a:Expr}{ta:TA}{p pos:Pos}(hg:Gl X "range")(hm:X.mg "range" = none)(ha:PA X [a] ta)(hs:starEach [a] X.env=[(false,eval a X.env)]:=by rfl):PI X tg (.Call (.Name "range" p) [a] [] pos) (Qtk ta):=by
 intro pins s σ H R I h
 refine Call_ (QfC I hg hm boot_range (zf7 (thn (ha pos pins s σ H _ I h) fun us s1 hz=>?_) hs rfl))
 obtain⟨vs,H1,I1,r1,q1⟩:=hz
 obtain⟨j,e,q1,q2,q⟩:=q1
 subst e
 cases r1 with
 |cons r rr=>
  cases rr
  obtain⟨t,rfl⟩:=r
  exact call_range_1 (QlM I1 @0 @0 q1 q2 (by simpa using q))
def QvS (wi:TI)(g:TG)(tb:TS):TS:=fun D σ H=>wi σ H fun J H1=>∃W:Nat->Nat->St->Hp->Prop,(∃m,W 0 m σ H1)/\∀i m σ H,W i m σ H->
 (J.stop i H/\D.nx σ H)\/(J.go i H/\∃N:St->Hp->Prop,(∀σ' H',N σ' H'->∃m',m' < m/\W (i+1) m' σ' H')/\∀x H',J.yld i H x H'->g x σ H' fun σ2 H2=>tb { D with nx:=N,ct:=N,bk:=D.nx } σ2 H2)
def QbN (fp:List Addr)(h:Heap):List @11:=fp.filterMap fun b=>(h.get? b).map fun o=>(b,o)
theorem QaW {fp:List Addr}{h:Heap}{b:Addr}{o:Obj}(hb:b∈fp)(e:h.get? b=some o):(b,o)∈QbN fp h:=zm2.mpr ⟨b,hb,by rw[e];rfl⟩
theorem QfD {fp:List Addr}{h:Heap}{p:Addr×Obj}(hp:p∈QbN fp h):p.1∈fp/\h.get? p.1=some p.2:=by
 obtain⟨b,hb,e⟩:=zm2.mp hp
 cases q:h.get? b with
 |none=>rw[q] at e;cases e
 |some o=>
  rw[q] at e
  have e':(b,o)=p:=z21 e
  subst e'
  exact⟨hb,q⟩
theorem Inv.pinned {pins:List @11}{σ:St}{H:Hp}{s:Shared}{fp:List Addr}(I:Inv X pins σ H s)(hf:∀b∈fp,QlH X pins H b)(ho:∀b∈fp,∃o,s.heap.get? b=some o/\∀v,o.data≠.cell v):Inv X (pins++QbN fp s.heap) σ H s:=
 I.QeK fun p hp=>(z05.mp hp).elim (fun z=>I.pin p (z02 _ z)) fun z=>by
  obtain⟨hb,e⟩:=QfD z
  obtain⟨f0,f1,f2,_⟩:=hf p.1 hb
  obtain⟨o,e',d⟩:=ho p.1 hb
  rw[e] at e';cases e'
  exact⟨e,f0,f1,f2,d⟩
theorem Inv.QcY {pins pl:List @11}{σ:St}{H:Hp}{s:Shared}(I:Inv X (pins++pl) σ H s):Inv X pins σ H s:=I.QeK fun p hp=>I.pin p (z02 _ (z06 _ hp))
theorem Qp7 {iter:Expr}{body:List Stmt}{wi:TI}{g:TG}{tb:TS}{pos:Pos}(hp:PassesOwn @4 X.A X.env X.xe)(hc:X.calm=true)(hi:PI X tg iter wi)(hg:PG X tg g)(hb:PSs X body tb)
  (hs:∀x,foldedSetIterable iter X.env x=pure x:=by intro _;rfl):PS X (.For tg iter body [] pos) (QvS wi g tb):=by
 intro pins s σ H D I h
 refine wpAny_For (thn (hi pins s σ H _ I h) fun v s1 h1=>thn h1 fun itv s2 h2=>?_) hs
 obtain⟨it,fp,tn,J,H2,e,I2,T,st2,f2,W,⟨m0,w0⟩,turn⟩:=h2
 subst e
 -- what stays true of the iterator's objects through the loop
 have stat:∀{H':Hp},(∀b∈fp,H' b=none)->∀b∈fp,QlH X pins H' b:=fun hn b hb=>⟨hn b hb,(f2 b hb).2⟩
 refine codeAny_forLoop_any (fun n s'=>∃i σ' H',Inv X pins σ' H' s'/\tn i s'.heap/\(∀b∈fp,H' b=none)/\W i n σ' H') ?_ m0 ⟨0,σ,H2,I2,st2,fun b hb=>(f2 b hb).1,w0⟩
 rintro n s3 ⟨i,σ3,H3,I3,st3,fr3,w3⟩
 rcases turn i n σ3 H3 w3 with⟨stop,qn⟩|⟨go,N,hN,step⟩
 ·refine ze2 hp (thn (T.done X rfl rfl rfl hc i pins s3 σ3 H3 X.xe I3 (stat fr3) st3 stop) fun r s4 hz=>?_)
  obtain⟨hr,I4⟩:=hz
  subst hr
  exact zh4 ⟨σ3,H3,I4,qn⟩
 ·refine ze2 hp (thn (T.item X rfl rfl rfl hc i pins s3 σ3 H3 X.xe I3 (stat fr3) st3 go) fun r s4 hz=>?_)
  obtain⟨u,hr,h4⟩:=hz
  subst hr
  refine ze2 hp (thn h4 fun _ s5 hz=>?_)
  obtain⟨x,H5,I5,r5,y5,st5,fr5⟩:=hz
  have I5':=I5.pinned (stat fr5) (T.obj _ _ st5)
  refine ze2 hp (thn (hg _ s5 σ3 H5 x u _ I5' r5 (step x H5 y5)) fun _ s6 hz=>?_)
  obtain⟨σ6,H6,I6,q6⟩:=hz
  refine ze2 hp (thn (hb _ s6 σ6 H6 _ I6 q6) fun f s7 q7=>?_)
  have again:∀{σ7:St} {H7:Hp},Inv X (pins++QbN fp s5.heap) σ7 H7 s7->N σ7 H7->∃m,m<n/\∃i σ' H',Inv X pins σ' H' s7/\tn i s7.heap/\(∀b∈fp,H' b=none)/\W i m σ' H':=fun{σ7 H7} I7 n7=>by
   obtain⟨m',hm,w7⟩:=hN σ7 H7 n7
   refine⟨m',hm,i+1,σ7,H7,I7.QcY,T.keep _ _ _ st5 fun b hb o e=>(I7.pin (b,o) (z02 _ (z02 _ (QaW hb e)))).1,fun b hb=>?_,w7⟩
   obtain⟨o,e,d⟩:=T.obj _ _ st5 b hb
   exact(I7.pin (b,o) (z02 _ (z02 _ (QaW hb e)))).2.1
  cases f with
  |next=>obtain⟨σ7,H7,I7,n7⟩:=q7;exact again I7 n7
  |cont=>obtain⟨σ7,H7,I7,n7⟩:=q7;exact again I7 n7
  |brk=>obtain⟨σ7,H7,I7,q7⟩:=q7;exact⟨σ7,H7,I7.QcY,q7⟩
  |ret v=>obtain⟨x7,σ7,H7,I7,r7,q7⟩:=q7;exact⟨x7,σ7,H7,I7.QcY,r7,q7⟩
end
abbrev R2:=V->V->Hp->VK->Prop
def OpR (X:Cx)(f:Value->Value->Sem Value)(r:R2):Prop:=
 ∀(pins:List @11) (s:Shared) (σ:St) (H:Hp) (x y:V) (v u:Value) (Q:VK),Inv X pins σ H s->RelV x v->RelV y u->r x y H Q->
  wpAny @4 X.A (f v u) (EP X pins σ Q) X.xe s
def UnR (X:Cx)(f:Value->Sem Value)(r:V->Hp->VK->Prop):Prop:=
 ∀(pins:List @11) (s:Shared) (σ:St) (H:Hp) (x:V) (v:Value) (Q:VK),Inv X pins σ H s->RelV x v->r x H Q->
  wpAny @4 X.A (f v) (EP X pins σ Q) X.xe s
def Qaf (X:Cx)(f:Value)(r:List V->Hp->VK->Prop):Prop:=
 ∀(pins:List @11) (s:Shared) (σ:St) (H:Hp) (xs:List V) (us:List Value) (Q:VK),Inv X pins σ H s->Vals xs us->r xs H Q->
  wpAny @4 X.A (call f us) (EP X pins σ Q) X.xe s
def tOp (r:R2)(ta tb:TE):TE:=fun σ H Q=>ta σ H fun x H1=>tb σ H1 fun y H2=>r x y H2 Q
def tUn (r:V->Hp->VK->Prop)(ta:TE):TE:=fun σ H Q=>ta σ H fun x H1=>r x H1 Q
def rI (C:Int->Int->Prop)(g:Int->Int->V):R2:=fun x y H Q=>∃i j,x=.int i/\y=.int j/\C i j/\Q (g i j) H
def rI0 (g:Int->Int->V):R2:=fun x y H Q=>∃i j,x=.int i/\y=.int j/\Q (g i j) H
def rU (g:Int->V):V->Hp->VK->Prop:=fun x H Q=>∃i,x=.int i/\Q (g i) H
section
variable {X:Cx}{a b:Expr}{ta tb:TE}{pos:Pos}
theorem Qtl (ha:PE X a ta)(hb:PE X b tb){pins:List @11}{s:Shared}{σ:St}{H:Hp}{R:V->V->Hp->Prop}(I:Inv X pins σ H s)
  (h:ta σ H fun x H1=>tb σ H1 fun y H2=>R x y H2) {Q:Value->Shared->Prop} {f:Value->Value->Sem Value}
  (hf:∀v u s2 x y H2,Inv X pins σ H2 s2->RelV x v->RelV y u->R x y H2->wpAny @4 X.A (f v u) Q X.xe s2) :
  wpAny @4 X.A (eval a X.env) (fun v s₁=>wpAny @4 X.A (eval b X.env) (fun u s₂=>wpAny @4 X.A (f v u) Q X.xe s₂) X.xe s₁) X.xe s:=by
 refine thn (ha pins s σ H _ I h) fun v s1 hz=>?_
 obtain⟨x,H1,I1,r1,q1⟩:=hz
 refine thn (hb pins s1 σ H1 _ I1 q1) fun u s2 hz=>?_
 obtain⟨y,H2,I2,r2,q2⟩:=hz
 exact hf v u s2 x y H2 I2 r1 r2 q2
theorem QnQ {op:Operator}{r:R2}(ho:OpR X (binaryOp op) r)(ha:PE X a ta)(hb:PE X b tb):PE X (.BinOp a op b pos) (tOp r ta tb):=by
 intro pins s σ H Q I h
 exact wpAny_BinOp (Qtl ha hb I h fun v u s2 x y H2 I2 rx ry q=>ho pins s2 σ H2 x y v u Q I2 rx ry q)
theorem Qtm {op:UnaryOp}{r:V->Hp->VK->Prop}(ho:UnR X (unaryOp op) r)(ha:PE X a ta):PE X (.UnaryOp op a pos) (tUn r ta):=by
 intro pins s σ H Q I h
 exact UnaryOp_ (thn (ha pins s σ H _ I h) fun v s1 ⟨x,H1,I1,r1,q1⟩=>ho pins s1 σ H1 x v Q I1 r1 q1)
theorem opI {f:Value->Value->Sem Value}{C:Int->Int->Prop}{g:Int->Int->Int}
  (rule:∀(i j:Int) (t u:Tok) (s:Shared) (Q:Value->Shared->Prop) (E:Value->Shared->Prop),C i j->Q (.int (g i j) s.toks) { s with toks:=s.toks+1 }->wpAny @4 X.A (f (.int i t) (.int j u)) Q E s) :
  OpR X f (rI C fun i j=>.int (g i j)):=by
 intro pins s σ H x y v u Q I rx ry h
 obtain⟨i,j,rfl,rfl,hc,q⟩:=h
 obtain⟨t,rfl⟩:=rx
 obtain⟨t',rfl⟩:=ry
 exact rule i j t t' s _ _ hc ⟨.int (g i j),H,I.tok _,⟨_,rfl⟩,q⟩
theorem Qu3 {f:Value->Value->Sem Value}{g:Int->Int->Int}
  (rule:∀(i j:Int) (t u:Tok) (s:Shared) (Q:Value->Shared->Prop) (E:Value->Shared->Prop),Q (.int (g i j) s.toks) { s with toks:=s.toks+1 }->wpAny @4 X.A (f (.int i t) (.int j u)) Q E s) :
  OpR X f (rI0 fun i j=>.int (g i j)):=by
 intro pins s σ H x y v u Q I rx ry h
 obtain⟨i,j,rfl,rfl,q⟩:=h
 obtain⟨t,rfl⟩:=rx
 obtain⟨t',rfl⟩:=ry
 exact rule i j t t' s _ _ ⟨.int (g i j),H,I.tok _,⟨_,rfl⟩,q⟩
theorem Qtn {f:Value->Value->Sem Value}{g:Int->Int->Bool}
  (rule:∀(i j:Int) (t u:Tok) (s:Shared) (Q:Value->Shared->Prop) (E:Value->Shared->Prop),Q (.bool (g i j)) s->wpAny @4 X.A (f (.int i t) (.int j u)) Q E s) :
  OpR X f (rI0 fun i j=>.bl (g i j)):=by
 intro pins s σ H x y v u Q I rx ry h
 obtain⟨i,j,rfl,rfl,q⟩:=h
 obtain⟨t,rfl⟩:=rx
 obtain⟨t',rfl⟩:=ry
 exact rule i j t t' s _ _ ⟨.bl (g i j),H,I,rfl,q⟩
def QmT (i j:Int):Prop:=0<=j/\j<=1000000/\i.natAbs<2 ^ 64
def QgB (i j:Int):Prop:=(-(2 ^ 64)<i/\i<2 ^ 64)\/(-(2 ^ 64)<j/\j<2 ^ 64)
theorem QgB.ok {i j:Int}(h:QgB i j):IntMulOk i j:=by
 rcases h with⟨h1,h2⟩|⟨h1,h2⟩
 ·exact .of_left (intBits_le_64 h1 h2)
 ·exact .of_right (intBits_le_64 h1 h2)
theorem Q6:OpR X (binaryOp .Add) (rI0 fun i j=>.int (i+j)):=Qu3 fun _ _ _ _ _ _ _ q=>add_int q
theorem QcB:OpR X (binaryOp .Sub) (rI0 fun i j=>.int (i - j)):=Qu3 fun _ _ _ _ _ _ _ q=>sub_int q
theorem QbO:OpR X (binaryOp .Mult) (rI QgB fun i j=>.int (i * j)):=opI fun _ _ _ _ _ _ _ hc q=>mul_int q hc.ok
theorem Qee:OpR X (binaryOp .Mod) (rI (fun _ j=>0<j) fun i j=>.int (i % j)):=opI fun i j _ _ _ _ _ hc q=>by
 have h1:(0:Int)<j:=hc
 exact mod_int' @0 (by rw[Int.fmod_eq_emod_of_nonneg i @0];exact q)
theorem Qef:OpR X (binaryOp .Pow) (rI QmT fun i j=>.int (i ^ j.toNat)):=opI fun _ _ _ _ _ _ _ hc q=>pow_int_small hc.1 hc.2.1 hc.2.2 q
theorem unI {f:Value->Sem Value}{g:Int->Int}
  (rule:∀(i:Int) (t:Tok) (s:Shared) (Q:Value->Shared->Prop) (E:Value->Shared->Prop),Q (.int (g i) s.toks) { s with toks:=s.toks+1 }->wpAny @4 X.A (f (.int i t)) Q E s) :
  UnR X f (rU fun i=>.int (g i)):=by
 intro pins s σ H x v Q I rx h
 obtain⟨i,rfl,q⟩:=h
 obtain⟨t,rfl⟩:=rx
 exact rule i t s _ _ ⟨.int (g i),H,I.tok _,⟨_,rfl⟩,q⟩
theorem Qp8:UnR X (unaryOp .USub) (rU fun i=>.int (-i)):=unI fun _ _ _ _ _ q=>neg_int q
end
def Qp9:V->V->Bool
 |.non,.non=>true|.non,.int _=>true|.int _,.non=>true|.non,.bl _=>true|.bl _,.non=>true|.non,.str _=>true|.str _,.non=>true
 |.int _,.int _=>true|.bl _,.bl _=>true|.str _,.str _=>true|.byt _,.byt _=>true
 |.int _,.str _=>true|.str _,.int _=>true|.bl _,.str _=>true|.str _,.bl _=>true
 |_,_=>false
def rEq:R2:=fun x y H Q=>Qp9 x y=true/\Q (.bl (decide (x=y))) H
def rNe:R2:=fun x y H Q=>Qp9 x y=true/\Q (.bl (!decide (x=y))) H
theorem QgH {i j:Int}:decide (V.int i=V.int j)=(i == j):=by
 rw[zg8]
 simp
theorem Qjx {i j:Bool}:decide (V.bl i=V.bl j)=(i == j):=by
 rw[zg8]
 simp
theorem QgI {i j:Str}:decide (V.str i=V.str j)=(i == j):=by
 rw[zg8]
 simp
theorem Qjy {i j:Array UInt8}:decide (V.byt i=V.byt j)=(i.toList == j.toList):=by
 rw[zg8]
 cases i
 cases j
 simp
section
variable {X:Cx}{a b c:Expr}{ta tb tc:TE}{pos:Pos}
theorem Q0 {pins:List @11}{σ:St}{H:Hp}{s:Shared}{Q:VK}{k k':Bool}(I:Inv X pins σ H s)(q:Q (.bl k) H)(e:k=k'):EP X pins σ Q (.bool k') s:=by
 subst e
 exact⟨.bl k,H,I,rfl,q⟩
theorem Qde:OpR X (compareOp .Eq) rEq:=by
 intro pins s σ H x y v u Q I rx ry h
 obtain⟨hs,q⟩:=h
 cases x with
 |non=>
  cases rx
  cases y with
  |non=>cases ry;exact PySem.EqNone.eq_none_none (Q0 I q @9)
  |bl j=>cases ry;exact PySem.EqNone.eq_none_bool (Q0 I q @9)
  |int j=>obtain⟨t',rfl⟩:=ry;exact PySem.EqNone.eq_none_int (Q0 I q @9)
  |str j=>obtain⟨t',rfl⟩:=ry;exact PySem.EqNone.eq_none_str (Q0 I q @9)
  |_=>exact absurd (show false=true from hs) z29
 |bl i=>
  cases rx
  cases y with
  |non=>cases ry;exact PySem.EqNone.eq_bool_none (Q0 I q @9)
  |bl j=>cases ry;exact eq_bool (Q0 I q Qjx)
  |str j=>obtain⟨t',rfl⟩:=ry;exact PySem.EqMixed.eq_bool_str (Q0 I q @9)
  |_=>exact absurd (show false=true from hs) z29
 |int i=>
  obtain⟨t,rfl⟩:=rx
  cases y with
  |non=>cases ry;exact PySem.EqNone.eq_int_none (Q0 I q @9)
  |int j=>obtain⟨t',rfl⟩:=ry;exact eq_int (Q0 I q QgH)
  |str j=>obtain⟨t',rfl⟩:=ry;exact PySem.EqMixed.eq_int_str (Q0 I q @9)
  |_=>exact absurd (show false=true from hs) z29
 |str i=>
  obtain⟨t,rfl⟩:=rx
  cases y with
  |non=>cases ry;exact PySem.EqNone.eq_str_none (Q0 I q @9)
  |bl j=>cases ry;exact PySem.EqMixed.eq_str_bool (Q0 I q @9)
  |int j=>obtain⟨t',rfl⟩:=ry;exact PySem.EqMixed.eq_str_int (Q0 I q @9)
  |str j=>obtain⟨t',rfl⟩:=ry;exact eq_str (Q0 I q QgI)
  |_=>exact absurd (show false=true from hs) z29
 |byt i=>
  obtain⟨t,rfl⟩:=rx
  cases y with
  |byt j=>obtain⟨t',rfl⟩:=ry;exact PySem.W.eq_bytes (Q0 I q Qjy)
  |_=>exact absurd (show false=true from hs) z29
 |_=>cases y<;>exact absurd (show false=true from hs) z29
theorem Qto:OpR X (compareOp .NotEq) rNe:=by
 intro pins s σ H x y v u Q I rx ry h
 obtain⟨hs,q⟩:=h
 cases x with
 |non=>
  cases rx
  cases y with
  |non=>cases ry;exact PySem.EqNone.ne_none_none (Q0 I q @9)
  |bl j=>cases ry;exact PySem.EqNone.ne_none_bool (Q0 I q @9)
  |int j=>obtain⟨t',rfl⟩:=ry;exact PySem.EqNone.ne_none_int (Q0 I q @9)
  |str j=>obtain⟨t',rfl⟩:=ry;exact PySem.EqNone.ne_none_str (Q0 I q @9)
  |_=>exact absurd (show false=true from hs) z29
 |bl i=>
  cases rx
  cases y with
  |non=>cases ry;exact PySem.EqNone.ne_bool_none (Q0 I q @9)
  |bl j=>cases ry;exact ne_bool (Q0 I q (congrArg not Qjx))
  |str j=>obtain⟨t',rfl⟩:=ry;exact PySem.EqMixed.ne_bool_str (Q0 I q @9)
  |_=>exact absurd (show false=true from hs) z29
 |int i=>
  obtain⟨t,rfl⟩:=rx
  cases y with
  |non=>cases ry;exact PySem.EqNone.ne_int_none (Q0 I q @9)
  |int j=>obtain⟨t',rfl⟩:=ry;exact ne_int (Q0 I q (congrArg not QgH))
  |str j=>obtain⟨t',rfl⟩:=ry;exact PySem.EqMixed.ne_int_str (Q0 I q @9)
  |_=>exact absurd (show false=true from hs) z29
 |str i=>
  obtain⟨t,rfl⟩:=rx
  cases y with
  |non=>cases ry;exact PySem.EqNone.ne_str_none (Q0 I q @9)
  |bl j=>cases ry;exact PySem.EqMixed.ne_str_bool (Q0 I q @9)
  |int j=>obtain⟨t',rfl⟩:=ry;exact PySem.EqMixed.ne_str_int (Q0 I q @9)
  |str j=>obtain⟨t',rfl⟩:=ry;exact ne_str (Q0 I q (congrArg not QgI))
  |_=>exact absurd (show false=true from hs) z29
 |byt i=>
  obtain⟨t,rfl⟩:=rx
  cases y with
  |byt j=>obtain⟨t',rfl⟩:=ry;exact PySem.W.ne_bytes (Q0 I q (congrArg not Qjy))
  |_=>exact absurd (show false=true from hs) z29
 |_=>cases y<;>exact absurd (show false=true from hs) z29
theorem QfE:OpR X (compareOp .Lt) (rI0 fun i j=>.bl (decide (i<j))):=Qtn fun _ _ _ _ _ _ _ q=>lt_int q
theorem Qjz:OpR X (compareOp .LtE) (rI0 fun i j=>.bl (decide (i<=j))):=Qtn fun _ _ _ _ _ _ _ q=>le_int q
theorem QgJ:OpR X (compareOp .Gt) (rI0 fun i j=>.bl (decide (j<i))):=Qtn fun _ _ _ _ _ _ _ q=>gt_int q
theorem Qqa:OpR X (compareOp .Is) (fun x y H Q=>y=.non/\Q (.bl (decide (x=.non))) H):=by
 intro pins s σ H x y v u Q I rx ry h
 obtain⟨rfl,q⟩:=h
 cases ry
 refine is_none_gen (Q0 I q ?_)
 cases x<;>first
  |(cases rx;rfl)
  |(obtain⟨t,rfl⟩:=rx;rfl)
theorem QD (b:Expr){op:CmpOp}(h:op≠.In:=by decide)(h2:op≠.NotIn:=by decide):behindInMarks op b=false:=by
 have e1:(op == CmpOp.In)=false:=by cases op<;>first|rfl|exact absurd rfl h
 have e2:(op == CmpOp.NotIn)=false:=by cases op<;>first|rfl|exact absurd rfl h2
 cases b<;>simp[behindInMarks,e1,e2]
theorem QnR {op:CmpOp}{r:R2}(ho:OpR X (compareOp op) r)(ha:PE X a ta)(hb:PE X b tb)(hm:behindInMarks op b=false):PE X (.Compare a [op] [b] pos) (tOp r ta tb):=by
 intro pins s σ H Q I h
 exact wpAny_Compare1 (Qtl ha hb I h fun v u s2 x y H2 I2 rx ry q=>ho pins s2 σ H2 x y v u Q I2 rx ry q) hm
def QnS (t:TE):TT:=fun σ H Q=>t σ H fun x H'=>∃k,x=.bl k/\Q k H'
theorem QnT {op:CmpOp}{r:R2}(ho:OpR X (compareOp op) r)(ha:PE X a ta)(hb:PE X b tb)(hm:behindInMarks op b=false):PT X (.Compare a [op] [b] pos) (QnS (tOp r ta tb)):=by
 intro pins s σ H Q I h
 refine wpAny_isTrue_Compare1 (thn (ha pins s σ H _ I h) fun v s1 hz=>?_) hm
 obtain⟨x,H1,I1,r1,q1⟩:=hz
 refine thn (hb pins s1 σ H1 _ I1 q1) fun u s2 hz=>?_
 obtain⟨y,H2,I2,r2,q2⟩:=hz
 refine thn (ho pins s2 σ H2 x y v u _ I2 r1 r2 q2) fun c s3 hz=>?_
 obtain⟨z,H3,I3,r3,k,e,q3⟩:=hz
 subst e
 cases r3
 exact za9 ⟨H3,I3,q3⟩
def QjA (r r':R2)(ta tb tc:TE):TE:=fun σ H Q=>ta σ H fun x H1=>tb σ H1 fun y H2=>r x y H2 fun z H3=>∃k,z=.bl k/\
 (if k=true then tc σ H3 fun w' H4=>r' y w' H4 Q else Q (.bl false) H3)
theorem QlN {op op':CmpOp}{r r':R2}(ho:OpR X (compareOp op) r)(ho':OpR X (compareOp op') r')(ha:PE X a ta)(hb:PE X b tb)(hc:PE X c tc)
  (hm:lastMarks [op,op'] [b,c]=false:=by with_unfolding_all rfl):PE X (.Compare a [op,op'] [b,c] pos) (QjA r r' ta tb tc):=by
 intro pins s σ H Q I h
 refine Compare_chain (thn (ha pins s σ H _ I h) fun v s1 hz=>?_) hm
 obtain⟨x,H1,I1,r1,q1⟩:=hz
 refine chain_link (thn (hb pins s1 σ H1 _ I1 q1) fun u s2 hz=>?_)
 obtain⟨y,H2,I2,r2,q2⟩:=hz
 refine thn (ho pins s2 σ H2 x y v u _ I2 r1 r2 q2) fun d s3 hz=>?_
 obtain⟨z,H3,I3,r3,k,e,q3⟩:=hz
 subst e
 cases r3
 refine za9 ?_
 cases k with
 |false=>exact ite_ff ⟨.bl false,H3,I3,rfl,q3⟩
 |true=>exact ite_tt (chain_last (thn (hc pins s3 σ H3 _ I3 q3) fun w' s4 ⟨z',H4,I4,r4,q4⟩=>ho' pins s4 σ H4 y z' u w' Q I4 r2 r4 q4))
theorem QlO {op op':CmpOp}{r r':R2}(ho:OpR X (compareOp op) r)(ho':OpR X (compareOp op') r')(ha:PE X a ta)(hb:PE X b tb)(hc:PE X c tc)
  (hm:lastMarks [op,op'] [b,c]=false:=by with_unfolding_all rfl):PT X (.Compare a [op,op'] [b,c] pos) (QnS (QjA r r' ta tb tc)):=by
 intro pins s σ H Q I h
 refine isTrue_chain (thn (ha pins s σ H _ I h) fun v s1 hz=>?_) hm
 obtain⟨x,H1,I1,r1,q1⟩:=hz
 refine test_link (thn (hb pins s1 σ H1 _ I1 q1) fun u s2 hz=>?_)
 obtain⟨y,H2,I2,r2,q2⟩:=hz
 refine thn (ho pins s2 σ H2 x y v u _ I2 r1 r2 q2) fun d s3 hz=>?_
 obtain⟨z,H3,I3,r3,k,e,q3⟩:=hz
 subst e
 cases r3
 refine za9 ?_
 cases k with
 |false=>
  obtain⟨k',e',q'⟩:=q3
  cases e'
  exact ite_ff ⟨H3,I3,q'⟩
 |true=>
  refine ite_tt (test_last (thn (hc pins s3 σ H3 _ I3 q3) fun w' s4 hz=>?_))
  obtain⟨z',H4,I4,r4,q4⟩:=hz
  refine thn (ho' pins s4 σ H4 y z' u w' _ I4 r2 r4 q4) fun d' s5 hz=>?_
  obtain⟨z2,H5,I5,r5,k2,e2,q5⟩:=hz
  subst e2
  cases r5
  exact za9 ⟨H5,I5,q5⟩
theorem QfF:(z17:Nat)<2 ^ 63:=by rw[z36];decide
theorem vals1 {x:V}{us:List Value}(r:Vals [x] us):∃u,us=[u]/\RelV x u:=by
 cases r with
 |cons r1 r2=>cases r2;exact⟨_,rfl,r1⟩
theorem vals2 {x y:V}{us:List Value}(r:Vals [x,y] us):∃u w',us=[u,w']/\RelV x u/\RelV y w':=by
 cases r with
 |cons r1 r2=>
  cases r2 with
  |cons r3 r4=>cases r4;exact⟨_,_,rfl,r1,r3⟩
theorem QfG (hc:X.calm=true):Qaf X (.builtin "max") (fun xs H Q=>∃i j,xs=[.int i,.int j]/\Q (.int (if j > i then j else i)) H):=by
 intro pins s σ H xs us Q I r h
 obtain⟨i,j,rfl,q⟩:=h
 obtain⟨u,w',rfl,⟨t,rfl⟩,⟨t',rfl⟩⟩:=vals2 r
 refine max_two_ints (I.ok.hd hc) fun h' tk k=>⟨_,H,I.kept k,?_,q⟩
 by_cases hj:j > i
 ·rw[if_pos hj,if_pos hj];exact⟨_,rfl⟩
 ·rw[if_neg hj,if_neg hj];exact⟨_,rfl⟩
theorem QjB (hc:X.calm=true):Qaf X (.builtin "min") (fun xs H Q=>∃i j,xs=[.int i,.int j]/\Q (.int (if j<i then j else i)) H):=by
 intro pins s σ H xs us Q I r h
 obtain⟨i,j,rfl,q⟩:=h
 obtain⟨u,w',rfl,⟨t,rfl⟩,⟨t',rfl⟩⟩:=vals2 r
 refine min_two_ints (I.ok.hd hc) fun h' tk k=>⟨_,H,I.kept k,?_,q⟩
 by_cases hj:j<i
 ·rw[if_pos hj,if_pos hj];exact⟨_,rfl⟩
 ·rw[if_neg hj,if_neg hj];exact⟨_,rfl⟩
theorem QfH:Qaf X (.type "int") (fun xs H Q=>(∃i,xs=[.int i]/\Q (.int i) H)\/∃k,xs=[.bl k]/\Q (.int (if k then 1 else 0)) H):=by
 intro pins s σ H xs us Q I r h
 rcases h with⟨i,rfl,q⟩|⟨k,rfl,q⟩
 ·obtain⟨u,rfl,t,rfl⟩:=vals1 r
  exact call_int_int ⟨.int i,H,I,⟨_,rfl⟩,q⟩
 ·obtain⟨u,rfl,r1⟩:=vals1 r
  cases r1
  exact call_int_bool ⟨.int (if k then 1 else 0),H,I.tok _,⟨_,rfl⟩,q⟩
def Qu4 (K:z00)(x:V)(H:Hp)(n:Nat):Prop:=
 match x with
 |.str y=>y.length<=z17/\n=y.length
 |.byt y=>y.size<=z17/\n=y.size
 |.ref p=>(∃xs,SqL K H p xs/\n=xs.length)\/∃xs,SqT K H p xs/\n=xs.length
 |_=>False
theorem Qy:Qaf X (.builtin "len") (fun xs H Q=>∃x n,xs=[x]/\Qu4 X.K x H n/\Q (.int n) H):=by
 intro pins s σ H xs us Q I r h
 obtain⟨x,n,rfl,e,q⟩:=h
 obtain⟨u,rfl,rx⟩:=vals1 r
 have hl:=QfF
 have hs:z17=16777216:=z36
 cases x with
 |str y=>
  obtain⟨t,rfl⟩:=rx
  obtain⟨hy,e'⟩:y.length<=z17/\n=y.length:=e
  subst e'
  exact len_str @0 ⟨.int _,H,I.tok _,⟨_,rfl⟩,q⟩
 |byt y=>
  obtain⟨t,rfl⟩:=rx
  obtain⟨hy,e'⟩:y.size<=z17/\n=y.size:=e
  subst e'
  exact PySem.W.len_bytes @0 ⟨.int _,H,I.tok _,⟨_,rfl⟩,q⟩
 |ref p=>
  cases rx
  have e':(∃xs,SqL X.K H p xs/\n=xs.length)\/∃xs,SqT X.K H p xs/\n=xs.length:=e
  rcases e' with⟨xs,hx,e'⟩|⟨xs,hx,e'⟩
  ·subst e'
   obtain⟨its,r',pl,hz⟩:=I.list hx
   have hlen:=r'.length
   exact Calls.call_len_list pl.isList (by simp only[z18];lia) ⟨.int xs.length,H,I.tok _,⟨_,by simp only[z18];rw[hlen]⟩,q⟩
  ·subst e'
   obtain⟨its,r',pl,hz⟩:=I.tuple hx
   have hlen:=r'.length
   exact len_tuple pl (by simp only[z18];lia) ⟨.int xs.length,H,I.tok _,⟨_,by simp only[z18];rw[hlen]⟩,q⟩
 |_=>exact(show False from e).elim
end
structure QnU (h:Heap)(x dx C:Addr)(mA:Str->Option Value):Prop where
 obj:h.get? x=some (zb7 C dx)
 ns:h.Ns1 dx mA
 ne:dx≠x
theorem QjC {h:Heap}{dx:Addr}{mA:Str->Option Value}(n:h.Ns1 dx mA):∃od,h.get? dx=some od/\∀name,zj5 name od=some (mA name):=by
 obtain⟨o,es,ep,ho,hd,hk,_,hm⟩:=n
 refine⟨o,ho,fun name=>?_⟩
 have e:=hm name
 unfold nsFind findBy at e
 rw[← Array.find?_toList] at e
 unfold zj5
 rw[hd]
 dsimp only
 split
 ·rename_i y q
  rw[q] at e
  exact congrArg some e
 ·rename_i q
  rw[q] at e
  have a:es.toList.any (·.refKey)=false:=by
   rw[List.any_eq_false]
   intro y hy
   obtain⟨z,t,hkey⟩:=hk y (Array.mem_toList_iff.mp hy)
   simp[DictEntry.refKey,hkey]
  have a':¬ es.toList.any (·.refKey)=true:=by rw[a];exact z29
  rw[if_neg a']
  exact congrArg some e
theorem QnU.look {h:Heap}{x dx C:Addr}{mA:Str->Option Value}(I:QnU h x dx C mA):∃od,PySem.W.InstAt h x (zb7 C dx) C (some od)/\∀name,zj5 name od=some (mA name):=
 let ⟨od,ho,hl⟩:=QjC I.ns
 ⟨od,⟨I.obj,rfl,rfl,ho⟩,hl⟩
section
variable {prog:Program}{w:World}{A:Around}{E:Value->Shared->Prop}{s:Shared}{K:z00}{x dx C f:Addr}{mA:Str->Option Value}{name:Str}{v:Value}
theorem get_map {expr:Bool}{Q:Value->Shared->Prop}(X:K.In s.heap)(I:QnU s.heap x dx C mA)(hg:zg0 K C name=true)(hh:zh3 K C=true)
  (ha:z51 K (.ref C) name=some none) (hv:mA name=some v) (hv':zv4 v=true) (h:Q v { s with toks:=s.toks+1 }) :
  wpAny @15 A (getAttr (.ref x) name expr) Q E s:=by
 obtain⟨od,J,hl⟩:=I.look
 exact PySem.W.get_value X J (zj9 hg).1 (PySem.W.findObj_own hh ha rfl (by rw[hl,hv])) hv' h
theorem QlP {pl:Sem Bool}{Q:Value×List Value->Shared->Prop}(X:K.In s.heap)(I:QnU s.heap x dx C mA)(hg:zg0 K C name=true)
  (hf:z51 K (.ref C) name=some (some (.ref f))) (ht:zm1 K (.ref f)=true) (hv:mA name=none) (h:Q (.ref f,[.ref x]) s) :
  wpAny @15 A (getMethod (.ref x) name pl) Q E s:=by
 obtain⟨od,J,hl⟩:=I.look
 exact PySem.W.method_fn X J (zj9 hg).1 (zj9 hg).2 hf (beq_iff_eq.mp ht) (by show(zj5 name od).map (·.isSome)=some false;rw[hl,hv];rfl) h
theorem QnV {ns:List Str}{Q:Unit->Shared->Prop}(X:K.In s.heap)(I:QnU s.heap x dx C mA)
  (hs:z51 K (.ref C) "__setattr__" = some (some (.builtin "object.__setattr__"))) (hp:zl5 K C=true) (ht:zn5 K C name=some none) (hh:zh3 K C=true)
  (hw:zt1 mA ns) (hsz:ns.length<=z17)
  (h:∀h',QnU h' x dx C (fun y=>if y=name then some v else mA y)->zf0 dx s.heap h'->Q () { s with heap:=h',toks:=s.toks+2 }) :
  wpAny @15 A (setAttr (.ref x) name v) Q E s:=by
 obtain⟨od,J,hl⟩:=I.look
 refine PySem.W.set_plain X J hs (PySem.W.osa_open (s:={ s with toks:=s.toks+1 }) (r:=none) X J hp ht fun b=>?_)
 obtain⟨cd,hc,hd'⟩:=PySem.W.any_some hh
 have hx:s.heap.get? x=some ⟨.ref C,some dx,.plain,#[]⟩:=I.obj
 refine z13 (z33 (z13 (z13 (wpAny_loadPart hx (z13 (PySem.W.Looks.here (s:={ s with toks:=s.toks+1 }) (PySem.W.looks_clsIn X hc) ?_))))))
 rw[hd']
 refine z33 (a:=some dx) (z13 (z33 (z13 ?_)))
 refine wpAny_nsSet1 (s:={ s with toks:=s.toks+1 }) I.ns fun h' hn2 hs2=>?_
 obtain⟨oD,esD,epD,hoD,hdD,hcD⟩:=hn2.count (PySem.Within.cons name v hw)
 refine z13 (wpAny_lookBehind hoD (by rw[hdD];exact pastItsLine_dict (z65 hcD (by rw[z27];lia))) ?_)
 exact z33 (h _ ⟨(hs2.2 _ (zb9 I.ne)).trans I.obj,hn2,I.ne⟩ hs2)
theorem QlQ {R:Result->Shared->Prop}{vs:List Value}{kw:List (Str×Value)}(X:K.In s.heap)(hm:zi9 K C=true)
  (hi:z51 K (.ref C) "__init__" = some (some (.ref f))) (hf:PySem.W.typeIn K (.ref f)=some (.type "function"))
  (h:codeAny @15 (A.under (.builtin "type.__call__" ⟨.ref C::vs,kw⟩)) (.call (.ref f) ⟨.ref @16::vs,kw⟩) (PySem.W.InitBack @16 R)
   { s with heap:=(s.heap.push z92).push (zb7 C s.heap.objs.size)}) :
  codeAny @15 A (.call (.ref C) ⟨vs,kw⟩) R s:=by
 obtain⟨hh,g,d,t,os⟩:=s
 exact PySem.W.make_core (PySem.W.makes_of X hm) (PySem.W.looks_findIn X hi) (fun self=>PySem.W.bind_fn X self hf) (.inl rfl) h
end
def QgC (f:Str)(v:V):List (Str×V)->List (Str×V)
 | []=>[(f,v)]
 |(g,x)::r=>if g=f then(g,v)::r else(g,x)::QgC f v r
theorem Qdf (f g:Str)(v:V):∀fs:List (Str×V),(QgC f v fs).lookup g=if g=f then some v else fs.lookup g
 | []=>by
  show ze6 g [(f,v)]=_
  by_cases h:g=f
  ·have hb:(g == f)=true:=beq_iff_eq.mpr h
   simp only[ze6,hb,if_pos h]
  ·have hb:(g == f)=false:=beq_eq_false_iff_ne.mpr h
   simp only[ze6,hb,if_neg h]
 |(k,x)::r=>by
  have ih:=Qdf f g v r
  rw[show QgC f v ((k,x)::r)=(if k=f then(k,v)::r else(k,x)::QgC f v r) from rfl]
  by_cases hk:k=f
  ·rw[if_pos hk]
   by_cases h:g=k
   ·have hb:(g == k)=true:=beq_iff_eq.mpr h
    simp only[ze6,hb,if_pos (h.trans hk)]
   ·have hb:(g == k)=false:=beq_eq_false_iff_ne.mpr h
    simp only[ze6,hb,if_neg (fun e:g=f=>h (e.trans hk.symm))]
  ·rw[if_neg hk]
   by_cases h:g=k
   ·have hb:(g == k)=true:=beq_iff_eq.mpr h
    simp only[ze6,hb,if_neg (fun e:g=f=>hk (h.symm.trans e))]
   ·have hb:(g == k)=false:=beq_eq_false_iff_ne.mpr h
    simp only[ze6,hb]
    exact ih
theorem Qdg (f:Str)(v:V):∀fs:List (Str×V),f∈(QgC f v fs).map (·.1)/\∀g,g∈fs.map (·.1)->g∈(QgC f v fs).map (·.1)
 | []=>⟨by simp[QgC],fun g h=>by simp at h⟩
 |(k,x)::r=>by
  obtain⟨i1,i2⟩:=Qdg f v r
  rw[show QgC f v ((k,x)::r)=(if k=f then(k,v)::r else(k,x)::QgC f v r) from rfl]
  by_cases hk:k=f
  ·rw[if_pos hk]
   subst hk
   exact⟨by simp,fun g h=>by simpa using h⟩
  ·rw[if_neg hk]
   refine⟨?_,fun g h=>?_⟩
   ·rw[z30]
    exact z08 _ i1
   ·rw[z30] at h ⊢
    rcases z15.mp h with e|e
    ·exact z15.mpr (.inl e)
    ·exact z08 _ (i2 g e)
theorem Qdh (f:Str)(v:V):∀fs:List (Str×V),(QgC f v fs).length<=fs.length+1
 | []=>by simp[QgC]
 |(k,x)::r=>by
  have ih:=Qdh f v r
  rw[show QgC f v ((k,x)::r)=(if k=f then(k,v)::r else(k,x)::QgC f v r) from rfl]
  by_cases hk:k=f
  ·rw[if_pos hk,z27,z27];lia
  ·rw[if_neg hk,z27,z27];lia
theorem QgA.some_of {v:V}{o:Option Value}(r:QgA (some v) o):∃u,o=some u/\RelV v u:=by
 cases o with
 |none=>exact(show False from r).elim
 |some u=>exact⟨u,rfl,r⟩
theorem QgA.none_of {o:Option Value}(r:QgA none o):o=none:=by
 cases o with
 |none=>rfl
 |some u=>exact(show False from r).elim
theorem QjD {v:V}{u:Value}(r:RelV v u):zv4 u=true:=by
 cases v with
 |non=>cases(show u=z39 from r);rfl
 |bl b=>cases(show u=zm7 b from r);rfl
 |int i=>obtain⟨t,e⟩:=(show ∃t,u=z80 i t from r);cases e;rfl
 |str x=>obtain⟨t,e⟩:=(show ∃t,u=zp0 x t from r);cases e;rfl
 |byt b=>obtain⟨t,e⟩:=(show ∃t,u=Value.bytes b t from r);cases e;rfl
 |flt b=>obtain⟨t,e⟩:=(show ∃t,u=zu3 b t from r);cases e;rfl
 |ref a=>cases(show u=z42 a from r);rfl
 |ty n=>cases(show u=Value.type n from r);rfl
section
variable {P:Program}{w:World}{H:Hp}{h:Heap}{a C dx:Addr}{fs:List (Str×V)}
theorem QeP (hok:HOk P w H h)(e:H a=some (.ins C dx fs)):∃mA,QnU h a dx C mA/\(∀f,QgA (fs.lookup f) (mA f))/\zt1 mA (fs.map (·.1))/\fs.length<=1000/\H dx=some (.own a):=by
 obtain⟨d,z,ne,ob,mA,n,r,q⟩:=(show JM P w H h a (.ins C dx fs) from hok a _ e)
 exact⟨mA,⟨ob,n,ne⟩,r,q,z,d⟩
end
structure Cls (K:z00)(C:Addr):Prop where
 pg:zg0 K C Str.empty=true
 hd:zh3 K C=true
 po:zl5 K C=true
 sa:z51 K (.ref C) "__setattr__" = some (some (.builtin "object.__setattr__"))
theorem Cls.get {K:z00}{C:Addr}(c:Cls K C)(f:Str):zg0 K C f=true:=c.pg
def Qa9 (K:z00)(C:Addr)(f:Str):Prop:=z51 K (.ref C) f=some none
theorem Qa9.taker {K:z00}{C:Addr}{f:Str}(n:Qa9 K C f):zn5 K C f=some none:=by
 unfold zn5
 rw[show z51 K (.ref C) f=some none from n]
 rfl
structure Meth (K:z00)(C:Addr)(m:Str)(f:Addr):Prop where
 at_:z51 K (.ref C) m=some (some (.ref f))
 fn:zm1 K (.ref f)=true
 kp:zd9 K (.ref f)=true
section
variable {X:Cx}{pins:List @11}{σ:St}{H:Hp}{s:Shared}{a C dx:Addr}{fs:List (Str×V)}{f:Str}{v:V}{A:Around}{E:Value->Shared->Prop}
theorem QiH {b:Bool}{Q:Value->Shared->Prop}(I:Inv X pins σ H s)(e:H a=some (.ins C dx fs))(c:Cls X.K C)(n:Qa9 X.K C f)(l:fs.lookup f=some v)
  (h:∀u s',Inv X pins σ H s'->RelV v u->Q u s'):wpAny @4 A (getAttr (.ref a) f b) Q E s:=by
 obtain⟨mA,O,r,_,_,_⟩:=QeP I.hok e
 obtain⟨u,hu,ru⟩:=QgA.some_of (v:=v) (o:=mA f) (by rw[← l];exact r f)
 exact get_map I.kIn O (c.get f) c.hd n hu (QjD ru) (h u _ (I.tok _) ru)
theorem Qeg {m:Str}{g:Addr}{pl:Sem Bool}{Q:Value×List Value->Shared->Prop}(I:Inv X pins σ H s)(e:H a=some (.ins C dx fs))(c:Cls X.K C)(k:Meth X.K C m g)(l:fs.lookup m=none)
  (h:Q (.ref g,[.ref a]) s):wpAny @4 A (getMethod (.ref a) m pl) Q E s:=by
 obtain⟨mA,O,r,_,_,_⟩:=QeP I.hok e
 have hn:mA m=none:=QgA.none_of (by rw[← l];exact r m)
 exact QlP I.kIn O (c.get m) k.at_ k.fn hn h
theorem QiI {y:V}{u:Value}{Q:Unit->Shared->Prop}(I:Inv X pins σ H s)(e:H a=some (.ins C dx fs))(c:Cls X.K C)(n:Qa9 X.K C f)(hl:fs.length<1000)(ry:RelV y u)
  (h:∀s',Inv X pins σ (upd H a (.ins C dx (QgC f y fs))) s'->Q () s'):wpAny @4 A (setAttr (.ref a) f u) Q E s:=by
 obtain⟨mA,O,r,wi,_,ho⟩:=QeP I.hok e
 have hz:(fs.map (·.1)).length<=z17:=by rw[z01,z36];lia
 refine QnV I.kIn O c.sa c.po n.taker c.hd wi hz fun h' O' sb=>h _ ?_
 have hd:∃o,h'.get? dx=some o:=let ⟨o,_,_,e',_⟩:=O'.ns;⟨o,e'⟩
 refine I.write (x:=a) (e:=dx) (by rw[e];exact z54) (.inr ho) (fun b q hb z=>(sb.2 b hb).trans z) hd ?_
 refine⟨by rw[Qk O.ne];exact ho,?_,O.ne,O'.obj,_,O'.ns,fun g=>?_,fun g hg=>?_⟩
 ·have:=Qdh f y fs;lia
 ·show QgA ((QgC f y fs).lookup g) (if g=f then some u else mA g)
  rw[Qdf]
  by_cases q:g=f
  ·rw[if_pos q,if_pos q];exact ry
  ·rw[if_neg q,if_neg q];exact r g
 ·by_cases q:g=f
  ·rw[q];exact(Qdg f y fs).1
  ·refine(Qdg f y fs).2 g (wi g fun z=>hg ?_)
   show(if g=f then some u else mA g)=none
   rw[if_neg q];exact z
theorem Inv.made (I:Inv X pins σ H s):Inv X pins σ (upd (upd H s.heap.objs.size (.own @16)) @16 (.ins C s.heap.objs.size []))
  { s with heap:=(s.heap.push z92).push (zb7 C s.heap.objs.size)}:=by
 have e1:(s.heap.push z92).get? s.heap.objs.size=some z92:=z45 s.heap rfl
 have e2:((s.heap.push z92).push (zb7 C s.heap.objs.size)).get? @16=some (zb7 C s.heap.objs.size):=by
  have:=z45 (s.heap.push z92) (o:=zb7 C s.heap.objs.size) rfl
  rwa[zl1] at this
 have e3:(s.heap.push z92).Ns s.heap.objs.size (fun _=>none):=⟨z92,#[],_,e1,rfl,(fun e he=>absurd he @9),fun _=>rfl⟩
 have I1:=I.laid (a:=s.heap.objs.size) (o:=.own @16) (h':=s.heap.push z92) (t':=s.toks) (fun b u q=>z19 _ q) (z24 _) ⟨_,e1⟩
 refine I1.laid (a:=s.heap.objs.size+1) (o:=.ins C s.heap.objs.size []) (t':=s.toks) (fun b u q=>z19 _ q) (zu7 (zl1 _ _)) ?_
 have ne:s.heap.objs.size≠s.heap.objs.size+1:=z50 (zp3 _)
 refine⟨by rw[Qk ne,Qs],zb8 _,ne,e2,fun _=>none,(Heap.Ns1.of_empty e3).at fun o q=>z19 _ q,fun _=>z54,fun y hy=>absurd rfl hy⟩
theorem QnW {prog:Program}{w:World}{env:Env}{e:Expr}{f:Str}{pos:Pos}{s:Shared}{Q:Value->Shared->Prop}(hb:attributeBase e f env (eval e env)=eval e env)
  (h:wpAny @15 A (eval e env) (fun o s₁=>wpAny @15 A (getAttr o f true) Q E s₁) E s):wpAny @15 A (eval (.Attribute e f pos) env) Q E s:=
 Attribute_any_ h (by rw[arm_eval_Attribute,hb])
end
def QvT (K:z00)(ta:TE)(f:Str):TE:=fun σ H Q=>ta σ H fun x H1=>∃a C dx fs v,x=.ref a/\H1 a=some (.ins C dx fs)/\Cls K C/\Qa9 K C f/\fs.lookup f=some v/\Q v H1
def QvU (K:z00)(ta tv:TE)(f:Str):TS:=fun D σ H=>tv σ H fun y H1=>ta σ H1 fun x H2=>∃a C dx fs,x=.ref a/\H2 a=some (.ins C dx fs)/\Cls K C/\Qa9 K C f/\fs.length<1000/\
 D.nx σ (upd H2 a (.ins C dx (QgC f y fs)))
section
variable {X:Cx}{o e value:Expr}{f:Str}{pos pos':Pos}{ta tv:TE}
theorem Qqb (he:PE X e ta)(hb:attributeBase e f X.env (eval e X.env)=eval e X.env):PE X (.Attribute e f pos) (QvT X.K ta f):=by
 intro pins s σ H Q I h
 refine QnW hb (thn (he pins s σ H _ I h) fun u s1 hz=>?_)
 obtain⟨x,H1,I1,rx,a,C,dx,fs,v,ex,ea,c,n,l,q⟩:=hz
 subst ex
 obtain rfl:u=z42 a:=rx
 exact QiH I1 ea c n l fun u' s2 I2 ru=>⟨v,H1,I2,ru,q⟩
theorem Qqc (ha:PE X o ta)(hv:PE X value tv)(hs:swapsWith value (some (.Attribute o f pos')) pos.line X.env=pure false):PS X (.Assign [.Attribute o f pos'] value pos) (QvU X.K ta tv f):=by
 intro pins s σ H D I h
 refine plainObj_wpAny_Assign_Attribute (thn (hv pins s σ H _ I h) fun u s1 hz=>?_) hs
 obtain⟨y,H1,I1,ry,q⟩:=hz
 refine thn (ha pins s1 σ H1 _ I1 q) fun ov s2 hz=>?_
 obtain⟨x,H2,I2,rx,a,C,dx,fs,ex,ea,c,n,l,q2⟩:=hz
 subst ex
 obtain rfl:ov=z42 a:=rx
 exact QiI I2 ea c n l ry fun s3 I3=>⟨σ,_,I3,q2⟩
end
section
variable {H:Hp}
inductive Qjl (K:z00) (H:Hp):V->Value->Prop where
 |non:Qjl K H .non (.type "NoneType")
 |bl (x:Bool):Qjl K H (.bl x) (.type "bool")
 |int (i:Int):Qjl K H (.int i) (.type "int")
 |str (x:Str):Qjl K H (.str x) (.type "str")
 |flt (x:UInt64):Qjl K H (.flt x) (.type "float")
 |lst {a:Addr} {xs:List V} (e:H a=some (.lst xs)):Qjl K H (.ref a) (.type "list")
 |frz {a:Addr} {o:Obj} {xs:List V} (e:H a=some (.frz o (.lst xs))):Qjl K H (.ref a) (.type "list")
 |tup {a:Addr} {xs:List V} (e:H a=some (.tup xs)):Qjl K H (.ref a) (.type "tuple")
 |dK {a:Addr} {kvs:List (Key×V)} (e:H a=some (.dK kvs)):Qjl K H (.ref a) (.type "dict")
 |dT {a:Addr} {kvs:List (List Key×V)} (e:H a=some (.dT kvs)):Qjl K H (.ref a) (.type "dict")
 |ins {a C dx:Addr} {fs:List (Str×V)} (e:H a=some (.ins C dx fs)) (cl:Cls K C) (ha:z51 K (.ref C) "__class__" = some (some (.builtin "object.__class__")))
   (hn:zl4 K (.builtin "object.__class__") "__get__" = some (some (.builtin "getset_descriptor.__get__"))) (htk:zn4 K (.builtin "object.__class__")=some true)
   (hm:ze8 K C (.type "object")=some true):Qjl K H (.ref a) (.ref C)
end
structure Qag (k:Nat)(A:Around):Prop where
 hd:A.handled=none
 dp:A.depth+3 * k+5<recursionLimit
 un:A.units+16 * k+200<cLine
 gd:A.guards=some []
theorem Qag.mono {j k:Nat}{A:Around}(r:Qag k A)(h:j<=k):Qag j A:=⟨r.hd,by have:=r.dp;lia,by have:=r.un;lia,r.gd⟩
theorem Qag.deeper {k:Nat}{A:Around}(r:Qag (k+1) A)(env:Env):Qag k (A.deeper env):=
 ⟨r.hd,by have:=r.dp;show A.depth+1+3 * k+5<_;lia,by have:=r.un;show A.units+3+16 * k+200<_;lia,r.gd⟩
theorem QiJ {A:Around}{C:Addr}{us:List Value}{kw:List (Str×Value)}:(A.under (.builtin "type.__call__" ⟨.ref C::us,kw⟩)).depth=A.depth+1:=by
 first|rfl|simp[zn0,Code.weight,Code.isCreation,Code.isGuard,Code.isCaller,Code.frames,zu2,guardIds]
theorem QiK {A:Around}{C:Addr}{us:List Value}{kw:List (Str×Value)}:(A.under (.builtin "type.__call__" ⟨.ref C::us,kw⟩)).units=A.units+1:=by
 first|rfl|simp[zn0,Code.cUnits,Code.frames,zu2]
theorem QnX {A:Around}{C:Addr}{us:List Value}{kw:List (Str×Value)}(h:A.guards=some []):(A.under (.builtin "type.__call__" ⟨.ref C::us,kw⟩)).guards=some []:=by
 have e:(Code.builtin "type.__call__" ⟨.ref C::us,kw⟩).guards=[]:=by simp[Code.guards,Code.isGuard,guardIds]
 unfold zn0
 dsimp only
 rw[e,h]
 rfl
theorem Qag.make {k:Nat}{A:Around}(r:Qag (k+1) A)(C:Addr)(us:List Value)(kw:List (Str×Value)):Qag k (A.under (.builtin "type.__call__" ⟨.ref C::us,kw⟩)):=
 ⟨r.hd,by have:=r.dp;rw[QiJ];lia,by have:=r.un;rw[QiK];lia,QnX r.gd⟩
theorem Qag.depth {k:Nat}{A:Around}(r:Qag k A):A.depth<recursionLimit:=by have:=r.dp;lia
theorem Qag.units {k:Nat}{A:Around}(r:Qag k A):A.units+64<cLine:=by have:=r.un;lia
def Qtp:TA:=fun _ H Q=>Q [] H
def Qtq (ta:TE)(tr:TA):TA:=fun σ H Q=>ta σ H fun x H1=>tr σ H1 fun xs H2=>Q (x::xs) H2
section
variable {X:Cx}{e:Expr}{es:List Expr}{te:TE}{t:TA}{pos:Pos}
theorem QjE:PA X [] Qtp:=fun _ _ _ _ H Q I h=>zw9 ⟨[],H,I,.nil,h⟩
theorem QgK (ha:PE X e te)(hr:PA X es t)(hs:starEach (e::es) X.env=(false,eval e X.env)::starEach es X.env:=by rfl):PA X (e::es) (Qtq te t):=by
 intro pos pins s σ H Q I h
 rw[hs]
 show wpAny _ _ (spliced ((false,eval e X.env)::backTo pos (starEach es X.env))) _ _ s
 refine zl9 (thn (ha pins s σ H _ I h) fun u s1 hz=>?_)
 obtain⟨x,H1,I1,r1,q1⟩:=hz
 exact thn (hr pos pins s1 σ H1 _ I1 q1) fun us s2 ⟨xs,H2,I2,r2,q2⟩=>⟨x::xs,H2,I2,.cons r1 r2,q2⟩
def QvV (t:TA):TE:=fun σ H Q=>t σ H fun xs H1=>xs.length<=z17/\∀p,H1 p=none->Q (.ref p) (upd H1 p (.tup xs))
def QvW (t:TA):TE:=fun σ H Q=>t σ H fun xs H1=>xs.length<=z17/\∀p,H1 p=none->Q (.ref p) (upd H1 p (.lst xs))
theorem QmU {x1}(h:PA X es t):PE X (.Tuple es x1 pos) (QvV t):=by
 intro pins s σ H Q I hq
 refine wpAny_Tuple_spliced (thn (h pos pins s σ H _ I hq) fun us s1 ⟨xs,H1,I1,r,z,q⟩=>⟨by rw[← r.length];exact z,?_⟩)
 have hf:H1 s1.heap.objs.size=none:=I1.hok.fresh (z24 _)
 refine⟨.ref s1.heap.objs.size,upd H1 s1.heap.objs.size (.tup xs),I1.laid (t':=s1.toks) (fun b u e=>z19 _ e) (z24 _) ?_,rfl,q _ hf⟩
 exact⟨z,us,r,⟨_,z45 _ rfl,rfl,_,rfl⟩⟩
theorem QjF (h:PA X es t):PE X (.List es pos) (QvW t):=by
 intro pins s σ H Q I hq
 refine wpAny_List_spliced (thn (h pos pins s σ H _ I hq) fun us s1 ⟨xs,H1,I1,r,z,q⟩=>⟨by rw[← r.length];exact z,?_⟩)
 have hf:H1 s1.heap.objs.size=none:=I1.hok.fresh (z24 _)
 refine⟨.ref s1.heap.objs.size,upd H1 s1.heap.objs.size (.lst xs),I1.laid (t':=s1.toks) (fun b u e=>z19 _ e) (z24 _) ?_,rfl,q _ hf⟩
 exact⟨z,us,0,r,z45 _ rfl⟩
end
abbrev Sp:=List V->Hp->VK->XK->Prop
abbrev CXT:=List Env->Hp->Shared->XK->Value->Shared->Prop
structure QnY (P:Program)(w:World)(K:z00)(mg:Str->Option Value)(base:Heap)(A:Around)(outer:List Env)(s:Shared)(H:Hp):Prop where
 frames:A.frames=some outer
 mod:Mod K mg base
 bs:∀b o,base.get? b=some o->s.heap.get? b=some o/\H b=none
 bsz:base.objs.size<=s.heap.objs.size
 Qhn:s.heap.FunFrames base outer
 frf:∀b∈frs outer,H b=none
 hok:HOk P w H s.heap
 bare:AllBare s.gens
def CE (outer:List Env)(P:Program)(w:World)(H:Hp)(s:Shared)(Q:VK)(u:Value)(s':Shared):Prop:=
 ∃v H',s'.os=s.os/\AllBare s'.gens/\Un (frs outer) [] H H' s.heap s'.heap/\HOk P w H' s'.heap/\RelV v u/\Q v H'
def CR (CX:CXT)(outer:List Env)(P:Program)(w:World)(H:Hp)(s:Shared)(Q:VK)(E:XK)(r:Result)(s':Shared):Prop:=
 match r with
 |.ok (.ret u)=>CE outer P w H s Q u s'
 |.ok _=>False
 |.error e=>CX outer H s E e s'
structure Qeh (P:Program)(w:World)(K:z00)(mg:Str->Option Value)(base:Heap)(CX:CXT)(k:Nat)(f:Addr)(fd:FuncData)(ps:List Str)(sp:Sp):Prop where
 len:∀vs H Q E,sp vs H Q E->vs.length=ps.length
 run:∀(A:Around) (outer:List Env) (s:Shared) (H:Hp) (args:Args) (us:List Value) (vs:List V) (Q:VK) (E:XK),Qag k A->QnY P w K mg base A outer s H->BindsTo s fd args (ps.zip us)->Vals vs us->sp vs H Q E->
  codeAny (model P w) A (.call (.ref f) args) (CR CX outer P w H s Q E) s
theorem Qeh.imp {P:Program}{w:World}{K:z00}{mg:Str->Option Value}{base:Heap}{CX:CXT}{k:Nat}{f:Addr}{fd:FuncData}{ps:List Str}{sp sp':Sp}(F:Qeh P w K mg base CX k f fd ps sp)
  (h:∀vs H Q E,sp' vs H Q E->sp vs H Q E):Qeh P w K mg base CX k f fd ps sp':=
 ⟨fun vs H Q E q=>F.len vs H Q E (h _ _ _ _ q),fun A outer s H args us vs Q E hr he hb hv hs=>F.run A outer s H args us vs Q E hr he hb hv (h _ _ _ _ hs)⟩
theorem QnY.make {P:Program}{w:World}{K:z00}{mg:Str->Option Value}{base:Heap}{A:Around}{outer:List Env}{s:Shared}{H:Hp}(e:QnY P w K mg base A outer s H)(C:Addr)(us:List Value)(kw:List (Str×Value)) :
  QnY P w K mg base (A.under (.builtin "type.__call__" ⟨.ref C::us,kw⟩)) outer s H:=⟨by first|exact e.frames|(simpa[zn0,Code.envs,zu2,pushEnvs] using e.frames),e.mod,e.bs,e.bsz,e.Qhn,e.frf,e.hok,e.bare⟩
section
variable {X:Cx}{pins:List @11}{σ:St}{H:Hp}{s s':Shared}
theorem Inv.env0 (I:Inv X pins σ H s):QnY X.prog X.w X.K X.mg X.base X.A X.stack s H:=
 ⟨I.ok.frames,I.ok.mod,I.bs,z65 I.ok.bsz I.sz,I.stack,I.QgG,I.hok,I.bare⟩
theorem Inv.after {Q:VK}{u:Value}(I:Inv X pins σ H s)(h:CE X.stack X.prog X.w H s Q u s'):EP X pins σ Q u s':=by
 obtain⟨v,H',os,bare,un,hok,r,q⟩:=h
 obtain⟨hh,g,d,t,os'⟩:=s'
 obtain rfl:os'=s.os:=os
 exact⟨v,H',I.call (h':=hh) (g':=g) (d':=d) (t':=t) (ch:=[]) un hok bare (fun b z=>absurd z @9),r,q⟩
end
def Binds (K:z00)(fd:FuncData)(ps:List Str)(ds:List Value):Prop:=
 ∀(s:Shared) (us:List Value),K.In s.heap->(us++ds).length=ps.length->BindsTo s fd ⟨us,[]⟩ (ps.zip (us++ds))
theorem Binds.all {K:z00}{fd:FuncData}{ps:List Str}(h:∀us:List Value,us.length=ps.length->bindArgs fd ⟨us,[]⟩=pure (ps.zip us)):Binds K fd ps []:=fun s us _ hl=>by
 rw[z52] at hl ⊢
 exact .of_eq (h us hl)
def Passes (CX:CXT)(X:Cx)(E:XK):Prop:=∀(pins:List @11) (σ:St) (H:Hp) (s:Shared) (e:Value) (s':Shared),Inv X pins σ H s->CX X.stack H s E e s'->X.xe e s'
section
variable {f C:Addr}
structure Mk (K:z00)(C f:Addr):Prop where
 makes:zi9 K C=true
 init:z51 K (.ref C) "__init__" = some (some (.ref f))
 fn:zm1 K (.ref f)=true
 kp:zd9 K (.ref C)=true
end
structure Qbp (N P:List Str)(sc:Scope):Prop where
 kind:sc.kind=.function
 co:sc.isCoroutine=false
 gen:sc.isGenerator=false
 nd:N.Nodup
 pre:N.take P.length=P
 par:∀x∈P,sc.names.lookup x=some .local\/sc.names.lookup x=some .cell
 Qqd:∀y∈sc.names,y.2≠.free
theorem QfI {kindOf:Str->Option NameKind}{x:Str}:∀{binds:List (Str×Value)} {m:Str->Option Value},(∀v,(x,v)∉binds)->bindL kindOf binds m x=m x
 | [],_,_=>rfl
 |(n,v)::r,m,h=>by
  unfold bindL
  rw[QfI fun w hw=>h w (z08 _ hw)]
  split
  ·have:x≠n:=by rintro rfl;exact h v z07
   simp[this]
  ·rfl
theorem QfJ {kindOf:Str->Option NameKind}{x:Str}:∀{binds:List (Str×Value)} {m:Str->Option Value},(∀v,(x,v)∉binds)->bindC kindOf binds m x=m x
 | [],_,_=>rfl
 |(n,v)::r,m,h=>by
  unfold bindC
  rw[QfJ fun w hw=>h w (z08 _ hw)]
  split
  ·rfl
  ·have:x≠n:=by rintro rfl;exact h v z07
   simp[this]
theorem QfK {kindOf:Str->Option NameKind}{x:Str}{v:Value}:∀{P:List Str} {vs:List Value} {i:Nat} {m:Str->Option Value},P.Nodup->P[i]? = some x->vs[i]? = some v->kindOf x=some .local->
  bindL kindOf (P.zip vs) m x=some v
 | [],_,_,_,_,h,_,_=>by simp at h
 |_::_,[],_,_,_,_,h,_=>by simp at h
 |p::P,w::vs,0,m,nd,h1,h2,hk=>by
  simp at h1 h2;subst h1;subst h2
  show bindL kindOf ((p,w)::P.zip vs) m p=_
  unfold bindL
  rw[QfI fun v hv=>(z72.mp nd).1 (zp5 hv).1,if_pos hk]
  simp
 |p::P,w::vs,i+1,m,nd,h1,h2,hk=>by
  show bindL kindOf ((p,w)::P.zip vs) m x=_
  unfold bindL
  exact QfK (i:=i) (z72.mp nd).2 (by simpa using h1) (by simpa using h2) hk
theorem QfL {kindOf:Str->Option NameKind}{x:Str}{v:Value}:∀{P:List Str} {vs:List Value} {i:Nat} {m:Str->Option Value},P.Nodup->P[i]? = some x->vs[i]? = some v->kindOf x≠some .local->
  bindC kindOf (P.zip vs) m x=some v
 | [],_,_,_,_,h,_,_=>by simp at h
 |_::_,[],_,_,_,_,h,_=>by simp at h
 |p::P,w::vs,0,m,nd,h1,h2,hk=>by
  simp at h1 h2;subst h1;subst h2
  show bindC kindOf ((p,w)::P.zip vs) m p=_
  unfold bindC
  rw[QfJ fun v hv=>(z72.mp nd).1 (zp5 hv).1,if_neg hk]
  simp
 |p::P,w::vs,i+1,m,nd,h1,h2,hk=>by
  show bindC kindOf ((p,w)::P.zip vs) m x=_
  unfold bindC
  exact QfL (i:=i) (z72.mp nd).2 (by simpa using h1) (by simpa using h2) hk
def start (N:List Str)(vs:List V):St:=vs.map some++zb4 (N.length - vs.length) none
def Qci (CX:CXT)(P:Program)(w:World)(K:z00)(mg:Str->Option Value)(base:Heap)(N:List Str)(qual:Str)(scope:Scope)(f:Addr)(cd:Value)(A:Around)(outer:List Env)(s:Shared)(H:Hp)(E:XK):Cx where
 prog:=P
 w:=w
 K:=K
 mg:=mg
 base:=base
 A:=A.deeper (envOfC qual scope s.heap.objs.size f cd)
 N:=N
 s₀:=s
 H₀:=H
 env:=envOfC qual scope s.heap.objs.size f cd
 outer:=outer
 stack:=envOfC qual scope s.heap.objs.size f cd::outer
 ex:=[]
 calm:=true
 fn:=fun _=>true
 pn:=[]
 xe:=fun e s'=>wpAny (model P w) (A.deeper (envOfC qual scope s.heap.objs.size f cd)) (leaving (envOfC qual scope s.heap.objs.size f cd) e) (fun _ s''=>CX outer H s E e s'') (fun e' s''=>CX outer H s E e' s'') s'
theorem Qhp {sc:Scope}{n:Nat}{x:Str}(h:sc.names.lookup x=some .cell):∃c,(cellsFrom n sc.names []).lookup x=some c:=by
 have q:=zq9 sc.names n [] (.inl h)
 exact zq5.mp q
theorem QjG {CX:CXT}{P:Program}{w:World}{K:z00}{mg:Str->Option Value}{base:Heap}{N ps:List Str}{qual:Str}{scope:Scope}{f:Addr}{cd:Value}{A:Around}{outer:List Env}{s s1:Shared}{H:Hp}{E:XK}{us:List Value}{vs:List V}
  (S:Qbp N ps scope) (hd:A.handled=none) (e0:QnY P w K mg base A outer s H) (hl:vs.length=ps.length) (r:Vals vs us)
  (x:InCallC s s.heap.objs.size (bindL (envOfC qual scope s.heap.objs.size f cd).kindOf (ps.zip us) fun _=>none) (cellsFrom @16 scope.names []) (bindC (envOfC qual scope s.heap.objs.size f cd).kindOf (ps.zip us) fun _=>none) s1) :
  Inv (Qci CX P w K mg base N qual scope f cd A outer s H E) [] (start N vs) H s1:=by
 have hpl:ps.length<=N.length:=by have:=congrArg ze7 S.pre;rw[z44] at this;lia
 obtain⟨h1,tk,rfl,hk⟩:=x.done
 have noA:∀b:Addr,b∉(Qci CX P w K mg base N qual scope f cd A outer s H E).ex:=fun b z=>absurd (show b∈([]:List Addr) from z) @9
 refine⟨⟨e0.mod,S.kind,rfl,rfl,z24 _,fun y z c h1 h2=>?_,fun y hy=>?_,fun y c _ h=>?_,fun _=>hd,Around.frames_deeper e0.frames,.inr ⟨rfl,rfl⟩,fun b z=>absurd z (noA b),e0.bs,e0.bsz,fun b _ _=>noA b,fun b z=>absurd z (noA b),e0.Qhn,e0.frf⟩,
  rfl,e0.bare,Un.kept hk,⟨_,x.toInCall.ns,fun i y v h1 h2 h3=>?_⟩,fun y c h=>⟨_,x.cell y c h⟩,e0.hok.fresh (z24 _),fun y c h=>?_,fun p hp=>absurd (show p∈([]:List @11) from hp) @9,e0.hok.kept hk,?_⟩
 ·exact name_of_addr x.apart (za5 h1) (za5 h2)
 ·have hy:scope.names.lookup y=some .cell\/scope.names.lookup y=some .free:=hy
  rcases hy with hy|hy
  ·exact Qhp hy
  ·exact absurd rfl (S.Qqd _ (za5 hy))
 ·exact zu6 (x.above y c (za5 h))
 ·have hi:i<vs.length:=by
   unfold start at h2
   by_cases hi:i<vs.length
   ·exact hi
   ·rw[z46 (by simpa using hi)] at h2
    rw[List.getElem?_replicate] at h2
    split at h2<;>cases h2
  have ha:vs[i]? = some v:=by
   unfold start at h2
   rw[z62 (by simpa using hi),z22] at h2
   cases e:vs[i]? with
   |none=>rw[e] at h2;cases h2
   |some a=>rw[e] at h2;cases h2;rfl
  obtain⟨u,hu,rv⟩:=r.get ha
  have hp:ps[i]? = some y:=by
   rw[← S.pre,zc1 @0];exact h1
  have ndP:ps.Nodup:=by rw[← S.pre];exact S.nd.sublist (zh8 _ _)
  refine⟨u,rv,?_⟩
  rcases S.par y (z59 hp) with k|k
  ·exact .inl ⟨k,QfK ndP hp hu k⟩
  ·obtain⟨c,e⟩:=Qhp (n:=s.heap.objs.size+1) k
   refine .inr ⟨.inl k,c,e,?_⟩
   have q:=x.cell y c e
   rw[QfL ndP hp hu (by show scope.names.lookup y≠_;rw[k];decide)] at q
   exact q
 ·exact e0.hok.fresh (zu6 (x.above y c (za5 h)))
 ·unfold start
  show _=N.length
  rw[z16,z01,List.length_replicate]
  lia
theorem Qtr {CX:CXT}{P:Program}{w:World}{K:z00}{mg:Str->Option Value}{base:Heap}{k:Nat}{f:Addr}{name qual:Str}{params:Arguments}{body:List Stmt}{scope:Scope}{dV kV doc pm cdv ct oc:Value}{an od:Option Addr}
  {osl:Array (Option Value)} {N ps:List Str} {sp:Sp} (lk:K.lookup f=some ⟨oc,od,.func (ze4 name qual params body scope dV kV doc pm an cdv ct),osl⟩) (hcd:zp1 K cdv qual=true) (S:Qbp N ps scope)
  (len:∀vs H Q E,sp vs H Q E->vs.length=ps.length)
  (hbody:∀(A:Around) (outer:List Env) (s:Shared) (H:Hp) (vs:List V) (Q:VK) (E:XK),Qag k (A.deeper (envOfC qual scope s.heap.objs.size f cdv))->sp vs H Q E->
   ∃t,PSs (Qci CX P w K mg base N qual scope f cdv A outer s H E) body t/\t { nx:=fun _ H'=>Q .non H',rt:=Q } (start N vs) H) :
  Qeh P w K mg base CX (k+1) f (ze4 name qual params body scope dV kV doc pm an cdv ct) ps sp:=by
 refine⟨len,fun A outer s H args us vs Q E hr e0 hb r hsp=>?_⟩
 have hl:=len _ _ _ _ hsp
 have KX:K.In s.heap:=e0.mod.kin.keeps fun b o e=>(e0.bs b o e).1
 have lim:s.heap.NoLimit:=e0.mod.nolimit.keeps fun b o e=>(e0.bs b o e).1
 have hkind:∀y∈ps.zip us,scope.names.lookup y.1=some .local\/(scope.names.lookup y.1=some .cell/\((cellsFrom @16 scope.names []).lookup y.1).isSome=true):=fun⟨n,v⟩ hy=>by
  rcases S.par n (zp5 hy).1 with q|q
  ·exact .inl q
  ·exact .inr ⟨q,zq9 _ _ _ (.inl q)⟩
 refine codeAny_call_function hr.depth (KX _ _ lk) rfl S.co S.gen rfl (PySem.W.codeRec_of KX hcd) (hb _ _ _ _ ?_)
 refine wpAny_newFunctionEnv_cells S.kind hkind fun env he s1 x=>?_
 subst he
 refine⟨lim.keeps x.toInCall.keep,codeAny_func ?_⟩
 obtain⟨t,ht,hq⟩:=hbody A outer s H vs Q E (hr.deeper _) hsp
 have I:Inv (Qci CX P w K mg base N qual scope f cdv A outer s H E) [] (start N vs) H s1:=QjG S hr.hd e0 hl r x
 refine zb0 (ht [] s1 (start N vs) H _ I hq) (fun fl s' hs=>?_) fun e s' hs=>hs
 have fin:∀{σ':St} {H':Hp} {v:V} {u:Value},Inv (Qci CX P w K mg base N qual scope f cdv A outer s H E) [] σ' H' s'->RelV v u->Q v H'->CE outer P w H s Q u s':=
  fun{σ' H' v u} J rv q=>⟨v,H',J.os,J.bare,J.base,J.hok,rv,q⟩
 cases fl with
 |ret u=>
  obtain⟨v,σ',H',J,rv,q⟩:=hs
  exact fin J rv q
 |next=>
  obtain⟨σ',H',J,q⟩:=hs
  exact fin (v:=V.non) (u:=z39) J rfl q
 |brk=>
  obtain⟨_,_,_,q⟩:=hs
  exact zc8 q
 |cont=>
  obtain⟨_,_,_,q⟩:=hs
  exact zc8 q
section
variable {X:Cx}{x:Str}{p pos:Pos}{e:Expr}{es:List Expr}{t:TA}{id T:String}{r:List V->Hp->VK->Prop}
def tCB (r:List V->Hp->VK->Prop)(t:TA):TE:=fun σ H Q=>t σ H fun vs H1=>r vs H1 Q
theorem Qhq (hc:Qaf X (.builtin id) r)(hg:Gl X x)(hm:X.mg x=none)(hv:z74 x=some (.builtin id))(ha:PA X (e::es) t)(hn:x ≠ "__name__" := by decide)(hdb:@6=false:=by decide)
  (he:starEach (e::es) X.env=(false,eval e X.env)::starEach es X.env:=by rfl) (hpl:(backTo pos (starEach es X.env)).any (·.1)=false:=by rfl):PE X (.Call (.Name x p) (e::es) [] pos) (tCB r t):=by
 intro pins s σ H Q I h
 refine zf9 (QfC I hg hm hv ?_ hn hdb)
 exact PyProof.Rows.callWith_builtin1 (thn (ha pos pins s σ H _ I h) fun us s1 ⟨vs,H1,I1,r1,q1⟩=>hc pins s1 σ H1 vs us Q I1 r1 q1) he hpl
theorem Qdi (hc:Qaf X (.type T) r)(hg:Gl X x)(hm:X.mg x=none)(hv:z74 x=some (.type T))(ha:PA X (e::es) t)(hn:x ≠ "__name__" := by decide)(hdb:@6=false:=by decide)
  (he:starEach (e::es) X.env=(false,eval e X.env)::starEach es X.env:=by rfl) (hpl:(backTo pos (starEach es X.env)).any (·.1)=false:=by rfl):PE X (.Call (.Name x p) (e::es) [] pos) (tCB r t):=by
 intro pins s σ H Q I h
 refine zf9 (QfC I hg hm hv ?_ hn hdb)
 exact zf7 (thn (ha pos pins s σ H _ I h) fun us s1 ⟨vs,H1,I1,r1,q1⟩=>hc pins s1 σ H1 vs us Q I1 r1 q1) he hpl
end
section
variable {κ:Type}[DecidableEq κ]
def QiL (kvs:List (κ×V))(k:κ):Option V:=(kvs.find? fun kv=>decide (kv.1=k)).map (·.2)
def putK (kvs:List (κ×V))(k:κ)(v:V):List (κ×V):=
 if(kvs.any fun kv=>decide (kv.1=k))=true then kvs.map (fun kv=>if kv.1=k then(kv.1,v) else kv) else kvs++[(k,v)]
theorem QcZ {p:κ×V}{r:List (κ×V)}{k:κ}(e:p.1=k):QiL (p::r) k=some p.2:=by simp[QiL,zf2,e]
theorem QbP {p:κ×V}{r:List (κ×V)}{k:κ}(e:¬ p.1=k):QiL (p::r) k=QiL r k:=by simp[QiL,zf2,e]
theorem Qhr (k:κ):∀kvs:List (κ×V),(kvs.any fun kv=>decide (kv.1=k))=(QiL kvs k).isSome
 | []=>rfl
 |p::r=>by
  rw[zf3]
  by_cases e:p.1=k
  ·simp only[QcZ e,decide_eq_true e,Bool.true_or,Option.isSome_some]
  ·rw[QbP e,decide_eq_false e,Bool.false_or];exact Qhr k r
theorem Qdj (kvs:List (κ×V))(k:κ)(v:V):(putK kvs k v).length<=kvs.length+1:=by
 unfold putK
 split
 ·rw[z01];lia
 ·rw[z16,z27,zp6];lia
theorem QgA.QjH {o:Option V}{u:Option Value}(r:QgA o u):o.isSome=u.isSome:=by
 cases o with
 |none=>cases u with
  |none=>rfl
  |some _=>exact(show False from r).elim
 |some _=>cases u with
  |none=>exact(show False from r).elim
  |some _=>rfl
theorem QgA.getD {o:Option V}{u:Option Value}{d:V}{d':Value}(r:QgA o u)(rd:RelV d d'):RelV (o.getD d) (u.getD d'):=by
 cases o with
 |none=>cases u with
  |none=>exact rd
  |some _=>exact(show False from r).elim
 |some _=>cases u with
  |none=>exact(show False from r).elim
  |some _=>exact r
theorem KV.val {kvs:List (κ×V)}{vs:List (κ×Value)}(r:KV kvs vs)(k:κ):QgA (QiL kvs k) (valueAt vs k):=by
 unfold KV at r
 induction r with
 |nil=>exact z54
 | @cons p q ps qs h t ih=>
  obtain⟨h1,h2⟩:=h
  by_cases e:p.1=k
  ·have e':q.1=k:=h1.symm.trans e
   have b:valueAt (q::qs) k=some q.2:=by simp[valueAt,zf2,e']
   rw[QcZ e,b];exact h2
  ·have e':¬ q.1=k:=fun z=>e (h1.trans z)
   have b:valueAt (q::qs) k=valueAt qs k:=by simp[valueAt,zf2,e']
   rw[QbP e,b];exact ih
theorem KV.any {kvs:List (κ×V)}{vs:List (κ×Value)}(r:KV kvs vs)(k:κ):(kvs.any fun kv=>decide (kv.1=k))=vs.any fun kv=>decide (kv.1=k):=by
 unfold KV at r
 induction r with
 |nil=>rfl
 |cons h t ih=>rw[zf3,zf3,ih,h.1]
theorem KV.repl {kvs:List (κ×V)}{vs:List (κ×Value)}(r:KV kvs vs)(k:κ){y:V}{u:Value}(ry:RelV y u) :
  KV (kvs.map fun kv=>if kv.1=k then(kv.1,y) else kv) (vs.map fun kv=>if kv.1=k then(kv.1,u) else kv):=by
 unfold KV at r ⊢
 induction r with
 |nil=>exact .nil
 | @cons p q ps qs h t ih=>
  rw[z30,z30]
  refine .cons ?_ ih
  obtain⟨h1,h2⟩:=h
  by_cases e:p.1=k
  ·rw[if_pos e,if_pos (h1.symm.trans e)];exact⟨h1,ry⟩
  ·rw[if_neg e,if_neg (fun z=>e (h1.trans z))];exact⟨h1,h2⟩
theorem KV.put {kvs:List (κ×V)}{vs:List (κ×Value)}(r:KV kvs vs)(k:κ){y:V}{u:Value}(ry:RelV y u):KV (putK kvs k y) (stored vs k u):=by
 unfold putK stored
 rw[r.any k]
 by_cases e:(vs.any fun kv=>decide (kv.1=k))=true
 ·rw[if_pos e,if_pos e];exact r.repl k ry
 ·rw[if_neg e,if_neg e];exact Paired.snoc r ⟨rfl,ry⟩
theorem KV.length {kvs:List (κ×V)}{vs:List (κ×Value)}(r:KV kvs vs):kvs.length=vs.length:=zh7 r
end
theorem QnZ {P:Program}{w:World}{k:Key}{u:Value}(r:RelV (kV k) u):(JD P w).is k u=true:=by
 cases k with
 |inl i=>obtain⟨t,e⟩:=(show ∃t,u=z80 i t from r);subst e;exact QgE P w i t
 |inr x=>obtain⟨t,e⟩:=(show ∃t,u=zp0 x t from r);subst e;exact QgF P w x t
theorem QfM {P:Program}{w:World}:∀{ks:List Key} {us:List Value},Vals (ks.map kV) us->ItemsAre (JD P w) ks us
 | [],_,r=>by rw[zn7] at r;cases r;exact .nil
 |k::ks,_,r=>by
  rw[z30] at r
  cases r with
  |cons h t=>exact .cons (QnZ h) (QfM t)
abbrev KT (H:Hp):List (List Key×V)->List (List Key×Addr×Value)->Prop:=Paired fun p q=>p.1=q.1/\H q.2.1=some (.tup (p.1.map kV))/\RelV p.2 q.2.2
theorem KT.val {H:Hp}{kvs:List (List Key×V)}{xs:List (List Key×Addr×Value)}(r:KT H kvs xs)(k:List Key):QgA (QiL kvs k) ((atKey xs k).map (·.2)):=by
 induction r with
 |nil=>exact z54
 | @cons p q ps qs h t ih=>
  obtain⟨h1,_,h2⟩:=h
  by_cases e:p.1=k
  ·have e':q.1=k:=h1.symm.trans e
   have b:atKey (q::qs) k=some q.2:=by simp[atKey,zf2,e']
   rw[QcZ e,b];exact h2
  ·have e':¬ q.1=k:=fun z=>e (h1.trans z)
   have b:atKey (q::qs) k=atKey qs k:=by simp[atKey,zf2,e']
   rw[QbP e,b];exact ih
theorem KT.repl {H:Hp}{kvs:List (List Key×V)}{xs:List (List Key×Addr×Value)}(r:KT H kvs xs)(k:List Key){y:V}{u:Value}(ry:RelV y u) :
  KT H (kvs.map fun kv=>if kv.1=k then(kv.1,y) else kv) (xs.map (putAt k u)):=by
 induction r with
 |nil=>exact .nil
 | @cons p q ps qs h t ih=>
  rw[z30,z30]
  refine .cons ?_ ih
  obtain⟨h1,h2,h3⟩:=h
  unfold putAt
  by_cases e:p.1=k
  ·rw[if_pos e,if_pos (h1.symm.trans e)];exact⟨h1,h2,ry⟩
  ·rw[if_neg e,if_neg (fun z=>e (h1.trans z))];exact⟨h1,h2,h3⟩
theorem KT.put {H:Hp}{kvs:List (List Key×V)}{xs:List (List Key×Addr×Value)}(r:KT H kvs xs)(k:List Key){b:Addr}{y:V}{u:Value}(hb:H b=some (.tup (k.map kV)))(ry:RelV y u) :
  KT H (putK kvs k y) (storedH xs k b u):=by
 have e:(kvs.any fun kv=>decide (kv.1=k))=(atKey xs k).isSome:=by
  rw[Qhr,(r.val k).QjH,Option.isSome_map]
 unfold putK storedH
 rw[e]
 by_cases q:(atKey xs k).isSome=true
 ·rw[if_pos q,if_pos q];exact r.repl k ry
 ·rw[if_neg q,if_neg q];exact Paired.snoc r ⟨rfl,hb,ry⟩
theorem KT.keeps {H H':Hp}{kvs:List (List Key×V)}{xs:List (List Key×Addr×Value)}(r:KT H kvs xs)(ht:∀b ys,H b=some (.tup ys)->H' b=some (.tup ys)):KT H' kvs xs:=
 Paired.QsW r fun _ _ z=>⟨z.1,ht _ _ z.2.1,z.2.2⟩
section
variable {P:Program}{w:World}{H:Hp}{h:Heap}{a:Addr}
theorem Qqe {u:HO}(ok:HOk P w H h)(e:Rd H a u):JM P w H h a u:=e.ok ok
theorem Qn0 {kvs:List (Key×V)}(ok:HOk P w H h)(e:Rd H a (.dK kvs)):kvs.length<=z17/\(a == sysModules)=false/\∃vs,KV kvs vs/\h.DictOf (JD P w) a vs:=
 show JM P w H h a (.dK kvs) from Qqe ok e
theorem Qts {kvs:List (Key×V)}(ok:HOk P w H h)(e:H a=some (.dK kvs)):kvs.length<=z17/\(a == sysModules)=false/\∃vs,KV kvs vs/\h.DictOf (JD P w) a vs:=Qn0 ok (.inl e)
theorem QjI {ks:List Key}(ok:HOk P w H h)(e:H a=some (.tup (ks.map kV))):(tupleKind (JD P w)).is h ks a:=by
 obtain⟨_,its,r,o,h1,h2,n,h3⟩:=(show JM P w H h a (.tup (ks.map kV)) from ok a _ e)
 exact⟨o,its.toArray,n,h1,h2,h3,by simpa using QfM r⟩
theorem Qn1 {kvs:List (List Key×V)}(ok:HOk P w H h)(e:Rd H a (.dT kvs)):kvs.length<=z17/\(a == sysModules)=false/\
  ∃xs,KT H kvs xs/\h.DictOfH (tupleKind (JD P w)) a xs:=by
 obtain⟨z,y,xs,r,o,es,ep,h1,h2,h3,h4,h5⟩:=(show JM P w H h a (.dT kvs) from Qqe ok e)
 refine⟨z,y,xs,r,o,es,ep,h1,h2,h3,h4,fun x hx=>?_,h5⟩
 have all:∀{l:List (List Key×V)} {m:List (List Key×Addr×Value)},KT H l m->∀x∈m,(tupleKind (JD P w)).is h x.1 x.2.1:=by
  intro l m q
  induction q with
  |nil=>intro x hx;exact nomatch hx
  | @cons p q ps qs hq t ih=>
   intro x hx
   rcases z15.mp hx with e|hx
   ·subst e
    exact QjI ok (by rw[← hq.1];exact hq.2.1)
   ·exact ih x hx
 exact all r x hx
theorem Qtt {kvs:List (List Key×V)}(ok:HOk P w H h)(e:H a=some (.dT kvs)):kvs.length<=z17/\(a == sysModules)=false/\
  ∃xs,KT H kvs xs/\h.DictOfH (tupleKind (JD P w)) a xs:=Qn1 ok (.inl e)
end
def Qqf (H:Hp)(a:Addr)(y:V)(r:Option V):Prop:=
 (∃kvs k,Rd H a (.dK kvs)/\y=kV k/\r=QiL kvs k)\/∃kvs k b,Rd H a (.dT kvs)/\y=.ref b/\H b=some (.tup (k.map kV))/\r=QiL kvs k
def Qqg (H:Hp)(a:Addr)(y v:V)(H':Hp):Prop:=
 (∃kvs k,H a=some (.dK kvs)/\y=kV k/\kvs.length<z17/\H'=upd H a (.dK (putK kvs k v)))\/
 ∃kvs k b,H a=some (.dT kvs)/\y=.ref b/\H b=some (.tup (k.map kV))/\kvs.length<z17/\H'=upd H a (.dT (putK kvs k v))
theorem Qqf.t {H:Hp}{a b:Addr}{kvs:List (List Key×V)}{k:List Key}(e:H a=some (.dT kvs))(eb:H b=some (.tup (k.map kV))):Qqf H a (.ref b) (QiL kvs k):=.inr ⟨kvs,k,b,.inl e,rfl,eb,rfl⟩
theorem Qqg.t {H:Hp}{a b:Addr}{kvs:List (List Key×V)}{k:List Key}{v:V}(e:H a=some (.dT kvs))(eb:H b=some (.tup (k.map kV)))(hl:kvs.length<z17) :
  Qqg H a (.ref b) v (upd H a (.dT (putK kvs k v))):=.inr ⟨kvs,k,b,e,rfl,eb,hl,rfl⟩
section
variable {X:Cx}{pins:List @11}{σ:St}{H:Hp}{s:Shared}{a:Addr}{y v:V}{u r:Value}{A:Around}{E:Value->Shared->Prop}
theorem Inv.big (I:Inv X pins σ H s):sysModules<s.heap.objs.size:=by
 have h:z38<s.heap.objs.size:=(I.mod.glob.keeps I.bk).lt
 exact Nat.lt_trans @1 h
theorem QjJ {h':Heap}{t':Nat}{ob:HO}(I:Inv X pins σ H s)(mu:Mut (H a))(hs:zf0 a s.heap h')(he:∃q,h'.get? a=some q)(new:JM X.prog X.w (upd H a ob) h' a ob) :
  Inv X pins σ (upd H a ob) { s with heap:=h',toks:=t' }:=
 I.write (x:=a) (e:=a) mu (.inl rfl) (fun b q hb z=>(hs.2 b hb).trans z) he new
theorem Qqh {P:Program}{w:World}{H':Hp}{h':Heap}{kvs:List (Key×V)}{vs:List (Key×Value)}(z:kvs.length<=z17)(hd:(a == sysModules)=false)(rel:KV kvs vs)(dd:h'.DictOf (JD P w) a vs) :
  JM P w H' h' a (.dK kvs):=⟨z,hd,vs,rel,dd⟩
theorem QjK {H':Hp}{Q:Unit->Shared->Prop}(hu:A.units+1<cLine)(I:Inv X pins σ H s)(g:Qqg H a y v H')(ry:RelV y u)(rv:RelV v r)(h:∀s',Inv X pins σ H' s'->Q () s') :
  wpAny @4 A (setItem (.ref a) u r) Q E s:=by
 rcases g with⟨kvs,k,e,ey,l,eH⟩|⟨kvs,k,b,e,ey,eb,l,eH⟩
 ·subst ey eH
  obtain⟨z,hd,vs,rel,dd⟩:=Qts I.hok e
  have hz:vs.length<=z17:=by rw[← rel.length];exact z
  have hl:(putK kvs k v).length<=z17:=by have:=Qdj kvs k v;lia
  refine wpAny_setItem_pairs (hsz:=hz) (QnZ ry) dd fun h' dd' hs=>h _ ?_
  have he:∃q,h'.get? a=some q:=let ⟨q,_,_,hq,_⟩:=dd';⟨q,hq⟩
  exact QjJ I (by rw[e];exact z54) hs he (Qqh hl hd (rel.put k rv) dd')
 ·subst ey eH
  cases(show u=z42 b from ry)
  obtain⟨z,hd,xs,rel,dd⟩:=Qtt I.hok e
  have hz:xs.length<=z17:=by rw[← zh7 rel];exact z
  have hl:(putK kvs k v).length<=z17:=by have:=Qdj kvs k v;lia
  refine wpAny_setItem_heap (hsz:=hz) (tupleKind_room_in1 hu) (QjI I.hok eb) dd fun h' dd' hs=>h _ ?_
  obtain⟨q,es,ep,hq,h2,h3,h4,_,h5⟩:=dd'
  refine QjJ I (by rw[e];exact z54) hs ⟨q,hq⟩ ⟨hl,hd,_,(rel.put k eb rv).keeps fun c ys ec=>?_,q,es,ep,hq,h2,h3,h4,h5⟩
  rw[Qk (Qtb ec e (fun z=>nomatch z))]
  exact ec
end
def Qtu (td ty tv:TE):TS:=fun D σ H=>tv σ H fun v H1=>td σ H1 fun x H2=>ty σ H2 fun y H3=>∃a H4,x=.ref a/\Qqg H3 a y v H4/\D.nx σ H4
section
variable {X:Cx}{o i value:Expr}{pos pos':Pos}{td ty tv:TE}
theorem Qn2 (hu:X.A.units+1<cLine)(ho:PE X o td)(hi:PE X i ty)(hv:PE X value tv)(hs:swapsWith value (some (.Subscript o i pos')) pos.line X.env=pure false) :
  PS X (.Assign [.Subscript o i pos'] value pos) (Qtu td ty tv):=by
 intro pins s σ H D I h
 refine wpAny_Assign_Subscript (thn (hv pins s σ H _ I h) fun r s1 hz=>?_) hs
 obtain⟨v,H1,I1,rv,q1⟩:=hz
 refine thn (ho pins s1 σ H1 _ I1 q1) fun u s2 hz=>?_
 obtain⟨x,H2,I2,rx,q2⟩:=hz
 refine thn (hi pins s2 σ H2 _ I2 q2) fun iv s3 hz=>?_
 obtain⟨y,H3,I3,ry,a,H4,ex,g,q3⟩:=hz
 subst ex
 obtain rfl:u=z42 a:=rx
 exact QjK hu I3 g ry rv fun s4 I4=>⟨σ,H4,I4,q3⟩
end
theorem QlR {P:Program}{w:World}{H:Hp}(h:Heap)(hb:sysModules<h.objs.size):JM P w H (h.push { cls:=.type "dict",data:=.dict #[]}) h.objs.size (.dT []):=
 ⟨zb8 _,beq_eq_false_iff_ne.mpr (zb9 (z50 hb)),[],.nil,_,#[],0,z45 _ rfl,⟨rfl,rfl,rfl⟩,rfl,rfl,zg2⟩
def Qqi:TE:=fun _ H Q=>∀p,H p=none->Q (.ref p) (upd H p (.dT []))
section
variable {X:Cx}{pos:Pos}
theorem QlS:PE X (.Dict [] [] pos) Qqi:=fun pins s σ H Q I h=>
 wpAny_Dict_empty ⟨.ref s.heap.objs.size,_,I.laid (a:=s.heap.objs.size) (o:=.dT []) (t':=s.toks) (fun _ _ q=>z19 _ q) (z24 _) (QlR s.heap I.big),rfl,h _ (I.hok.fresh (z24 _))⟩
end
structure M2 (X:Cx)(o:Expr)(m:Str)(apos:Pos)(e f:Expr)(cpos:Pos):Prop where
 base:attributeBase o m X.env (eval o X.env)=eval o X.env
 few:((backTo cpos (starEach [e,f] X.env)).all (fun x=>!x.1) && (backToKw cpos (keywordEach [] X.env)).all (fun x=>x.1.isSome)
  && decide (([e,f]:List Expr).length+([]:List Keyword).length+(if([]:List Keyword).isEmpty then 0 else 1)<30))=true
 line:(apos.endLine == cpos.line)=true
 trees:backTo cpos (starEach [e,f] X.env)=[(false,eval e X.env),(false,eval f X.env)]
def IsD (H:Hp)(a:Addr):Prop:=(∃kvs,Rd H a (.dK kvs))\/∃kvs,Rd H a (.dT kvs)
theorem Qqj {X:Cx}{pins:List @11}{σ:St}{H:Hp}{s:Shared}{a:Addr}(I:Inv X pins σ H s)(d:IsD H a) :
  s.TypeIs (.ref a) "dict" /\ (∀b,z42 a=.ref b->∃ob,s.heap.get? b=some ob/\ob.dict=none)/\(a == sysModules)=false:=by
 rcases d with⟨kvs,e⟩|⟨kvs,e⟩
 ·obtain⟨_,hd,vs,_,dd⟩:=Qn0 I.hok e
  refine⟨dd.typeIs,fun b q=>?_,hd⟩
  cases q
  obtain⟨ob,_,_,h1,h2,_⟩:=dd
  exact⟨ob,h1,h2.2.1⟩
 ·obtain⟨_,hd,xs,_,dd⟩:=Qn1 I.hok e
  refine⟨dd.typeIs,fun b q=>?_,hd⟩
  cases q
  obtain⟨ob,_,_,h1,h2,_⟩:=dd
  exact⟨ob,h1,h2.2.1⟩
section
variable {X:Cx}{pins:List @11}{σ:St}{H:Hp}{s:Shared}{a:Addr}{y d:V}{u r:Value}{o:Option V}{A:Around}{E:Value->Shared->Prop}
theorem Qqk {Q:Value->Shared->Prop}(hu:A.units+1<cLine)(I:Inv X pins σ H s)(g:Qqf H a y o)(ry:RelV y u)(rd:RelV d r)(h:∀w' s',Inv X pins σ H s'->RelV (o.getD d) w'->Q w' s') :
  wpAny @4 A (call (.builtin "dict.get") [.ref a,u,r]) Q E s:=by
 rcases g with⟨kvs,k,e,ey,l⟩|⟨kvs,k,b,e,ey,eb,l⟩
 ·subst ey
  obtain⟨z,hd,vs,rel,dd⟩:=Qn0 I.hok e
  refine call_meetsIn zj1 dd.typeIs zr1 (zq4 _ _ _) (meets_dict_get_default (JD X.prog X.w) a (QnZ ry) hd r) ⟨_,dd.mapOf,h _ _ (I.tok _) ?_⟩
  rw[l]
  exact(rel.val k).getD rd
 ·subst ey
  cases(show u=z42 b from ry)
  obtain⟨z,hd,xs,rel,dd⟩:=Qn1 I.hok e
  refine call_meetsIn zj1 dd.typeIs zr1 (zq4 _ _ _) (meetsH_dict_get_default (tupleKind (JD X.prog X.w)) a b hd r) ⟨tupleKind_room_in1 hu,k,xs,QjI I.hok eb,dd,h _ _ (I.tok _) ?_⟩
  rw[l]
  exact(rel.val k).getD rd
end
def Qql (td ty tx:TE):TE:=fun σ H Q=>td σ H fun x H1=>∃a,x=.ref a/\IsD H1 a/\ty σ H1 fun y H2=>tx σ H2 fun z H3=>∃o,Qqf H3 a y o/\Q (o.getD z) H3
section
variable {X:Cx}{o e f:Expr}{apos cpos:Pos}{td ty tx:TE}
theorem QlT (hu:X.A.units+1<cLine)(ho:PE X o td)(he:PE X e ty)(hf:PE X f tx)(m:M2 X o "get" apos e f cpos):PE X (.Call (.Attribute o "get" apos) [e,f] [] cpos) (Qql td ty tx):=by
 intro pins s σ H Q I h
 refine wpAny_Call_method m.base m.few m.line PySem.F.plainAttrs_dict zj1 PySem.F.type_dict_get (thn (ho pins s σ H _ I h) fun u s1 hz=>?_)
 obtain⟨x,H1,I1,rx,a,ex,d,q1⟩:=hz
 subst ex
 obtain rfl:u=z42 a:=rx
 obtain⟨t1,t2,_⟩:=Qqj I1 d
 refine⟨t1,t2,?_⟩
 rw[m.trees]
 refine zj2 rfl (zk5 (zl9 (thn (he pins s1 σ H1 _ I1 q1) fun iv s2 hz=>?_)))
 obtain⟨y,H2,I2,ry,q2⟩:=hz
 refine zl9 (thn (hf pins s2 σ H2 _ I2 q2) fun fv s3 hz=>?_)
 obtain⟨z,H3,I3,rz,ov,g,q3⟩:=hz
 refine zw9 ?_
 exact Qqk hu I3 g ry rz fun w' s4 I4 rw'=>⟨_,H3,I4,rw',q3⟩
end
end L2
namespace HT
open PySem PyProof.Rows
theorem QeQ (A:Around)(s:Shared)(a:Int)(t:Tok)(c:Int)(u:Tok)(prog:Program)(w:World)(E:Value->Shared->Prop)(Q:Value->Shared->Prop)(h:Q (.bool (decide (a<c))) s) :
  wpAny @15 A (richCompare .Lt (.int a t) (.int c u)) Q E s:=
 (PyProof.Rows.lt_int h:wpAny @15 A (compareOp .Lt (.int a t) (.int c u)) Q E s)
section
open PySem.SeqAt
open PySem.AutoSeq1 (wpAny_loadPart')
open PySem.MeetsSeq PySem.MeetsSeq2 PySem.MeetsSeq3
end
section
def sIx (n d:Nat):Option Int->Nat
 |none=>d
 |some v=>if v<0 then(v+(n:Int)).toNat else min v.toNat n
theorem Qhs (n d:Nat):sIx n d none=d:=rfl
theorem QjL (n d k:Nat):sIx n d (some (k:Int))=min k n:=by
 show(if(k:Int)<0 then((k:Int)+(n:Int)).toNat else min (k:Int).toNat n)=min k n
 rw[if_neg @0,z95]
end
end HT
namespace L2
open PySem PySem.Spec PyProof.Rows
abbrev TO:=St->Hp->(Option Int->Hp->Prop)->Prop
def PO (X:Cx)(e:Option Expr)(t:TO):Prop:=
 ∀(pins:List @11) (s:Shared) (σ:St) (H:Hp) (Q:Option Int->Hp->Prop),Inv X pins σ H s->t σ H Q->
  wpAny @4 X.A (evalPart e X.env) (fun u s'=>∃o H',Inv X pins σ H' s'/\IsPart u o/\Q o H') X.xe s
def Qn3:TO:=fun _ H Q=>Q none H
def Qtv (t:TE):TO:=fun σ H Q=>t σ H fun x H1=>∃i,x=.int i/\Q (some i) H1
theorem intsAre_of {ns:List Int}:∀{us:List Value},Vals (ns.map V.int) us->IntsAre us ns:=by
 induction ns with
 |nil=>intro us r;rw[zn7] at r;cases r;exact .nil
 |cons n ns ih=>
  intro us r
  rw[z30] at r
  cases r with
  |cons r1 r2=>
   obtain⟨t,e⟩:=r1
   subst e
   exact .cons n t (ih r2)
section
variable {X:Cx}{e:Expr}{te:TE}{lo hi:Option Expr}{tl th:TO}{pos p2:Pos}
theorem Qn4:PO X none Qn3:=by
 intro pins s σ H Q I h
 rw[evalPart_none]
 exact z33 ⟨none,H,I,.none,h⟩
theorem Qn5 (h:PE X e te):PO X (some e) (Qtv te):=by
 intro pins s σ H Q I hw
 rw[evalPart_some]
 refine thn (h pins s σ H _ I hw) fun u s1 hz=>?_
 obtain⟨x,H1,I1,r1,q1⟩:=hz
 obtain⟨i,rfl,q⟩:=q1
 obtain⟨t,rfl⟩:=r1
 exact⟨some i,H1,I1,.int i t,q⟩
def SlR (X:Cx)(r:V->Option Int->Option Int->Hp->VK->Prop):Prop:=
 ∀(pins:List @11) (s:Shared) (σ:St) (H:Hp) (x:V) (v vl vu:Value) (lo hi:Option Int) (sl:Addr) (Q:VK),Inv X pins σ H s->RelV x v->s.heap.IsSliceOf sl vl vu .none->IsPart vl lo->IsPart vu hi->r x lo hi H Q->
  ∃T id,typeLookup (.type T) "__getitem__" = pure (some (.builtin id))/\s.TypeIs v T/\wpAny @4 X.A (getItem v (.ref sl)) (EP X pins σ Q) X.xe s
def tSl (r:V->Option Int->Option Int->Hp->VK->Prop)(te:TE)(tl th:TO):TE:=fun σ H Q=>te σ H fun x H1=>tl σ H1 fun l H2=>th σ H2 fun u H3=>r x l u H3 Q
theorem Qht {r:V->Option Int->Option Int->Hp->VK->Prop}(hr:SlR X r)(he:PE X e te)(hl:PO X lo tl)(hu:PO X hi th):PE X (.Subscript e (.Slice lo hi none p2) pos) (tSl r te tl th):=by
 intro pins s σ H Q I h
 refine Subscript_ (thn (he pins s σ H _ I h) fun v s1 hz=>?_)
 obtain⟨x,H1,I1,r1,q1⟩:=hz
 refine wpAny_Slice (thn (hl pins s1 σ H1 _ I1 q1) fun vl s2 hz=>?_)
 obtain⟨l,H2,I2,pl,q2⟩:=hz
 refine thn (hu pins s2 σ H2 _ I2 q2) fun vu s3 hz=>?_
 obtain⟨u,H3,I3,pu,q3⟩:=hz
 rw[evalPart_none]
 refine z33 ?_
 have I4:Inv X pins σ H3 { s3 with heap:=s3.heap.push { cls:=.type "slice",data:=.fields #[vl,vu,.none]}}:=I3.kept (t':=s3.toks) fun b ob q=>z19 _ q
 obtain⟨T,id,hT,ht,hg⟩:=hr pins { s3 with heap:=s3.heap.push { cls:=.type "slice",data:=.fields #[vl,vu,.none]}} σ H3 x v vl vu l u s3.heap.objs.size Q I4 r1 (Heap.IsSliceOf.new ..) pl pu q3
 show wpAny @4 X.A (subscriptTail e (.Slice lo hi none p2) v (.ref s3.heap.objs.size)) (EP X pins σ Q) X.xe { s3 with heap:=s3.heap.push { cls:=.type "slice",data:=.fields #[vl,vu,.none]}}
 exact tail_any (ops:=[.ref s3.heap.objs.size,v]) ht hT hg (by with_unfolding_all rfl)
def Qn6 (xs:List V)(lo hi:Option Int):List V:=(xs.drop (HT.sIx xs.length 0 lo)).take (HT.sIx xs.length xs.length hi - HT.sIx xs.length 0 lo)
theorem QgL (xs:List V)(lo hi:Option Int):(Qn6 xs lo hi).length<=xs.length:=by
 unfold Qn6
 rw[z44,z58]
 lia
end
noncomputable def ixN (n:Nat)(i:Int):Option Nat:=if 0<=i then(if i<n then some i.toNat else none) else if -(n:Int)<=i then some (i+n).toNat else none
noncomputable def atI {α:Type}(xs:List α)(i:Int):Option α:=(ixN xs.length i).bind fun j=>xs[j]?
theorem QjM {n:Nat}{i:Int}{j:Nat}(h:ixN n i=some j):seqIndex? i n=some j/\j<n/\-(n:Int)<=i/\i<n:=by
 unfold ixN at h
 by_cases h0:0<=i
 ·rw[if_pos h0] at h
  by_cases h1:i<n
  ·rw[if_pos h1] at h
   have e:i.toNat=j:=z21 h
   exact⟨by rw[seqIndex_of h0 h1,e],by lia,by lia,h1⟩
  ·rw[if_neg h1] at h;cases h
 ·rw[if_neg h0] at h
  by_cases h1 : -(n:Int)<=i
  ·rw[if_pos h1] at h
   have e:(i+n).toNat=j:=z21 h
   exact⟨by rw[seqIndex_neg @0 h1,e],by lia,h1,by lia⟩
  ·rw[if_neg h1] at h;cases h
theorem QgM {α:Type}{xs:List α}{i:Int}{v:α}(h:atI xs i=some v):∃j,seqIndex? i xs.length=some j/\xs[j]? = some v/\j<xs.length/\-(xs.length:Int)<=i/\i<xs.length:=by
 unfold atI at h
 cases e:ixN xs.length i with
 |none=>rw[e] at h;cases h
 |some j=>
  rw[e] at h
  obtain⟨h1,h2,h3,h4⟩:=QjM e
  exact⟨j,h1,h,h2,h3,h4⟩
def QeR (b:Expr):Prop:=∀o i,subscripted b false o i=operate [o,i] (getItem o i)
def IxR (X:Cx)(r:R2):Prop:=
 ∀(value slice:Expr) (pins:List @11) (s:Shared) (σ:St) (H:Hp) (x y:V) (v u:Value) (Q:VK),Inv X pins σ H s->RelV x v->RelV y u->r x y H Q->
  subscripted slice false v u=operate [v,u] (getItem v u)->wpAny @4 X.A (subscriptTail value slice v u) (EP X pins σ Q) X.xe s
def MtR (X:Cx)(id:String)(r:V->List V->Hp->VK->Prop):Prop:=
 ∀(pins:List @11) (s:Shared) (σ:St) (H:Hp) (x:V) (xs:List V) (v:Value) (us:List Value) (Q:VK),Inv X pins σ H s->RelV x v->Vals xs us->r x xs H Q->
  wpAny @4 X.A (call (.builtin id) (v::us)) (EP X pins σ Q) X.xe s
section
variable {X:Cx}{a b:Expr}{ta tb:TE}{pos:Pos}
theorem IxR.or {r r':R2}(h:IxR X r)(h':IxR X r'):IxR X (fun x y H Q=>r x y H Q\/r' x y H Q):=by
 intro value slice pins s σ H x y v u Q I rx ry q hs
 rcases q with q|q
 ·exact h value slice pins s σ H x y v u Q I rx ry q hs
 ·exact h' value slice pins s σ H x y v u Q I rx ry q hs
theorem QiM {r:R2}(hr:IxR X r)(ha:PE X a ta)(hb:PE X b tb)(hs:QeR b):PE X (.Subscript a b pos) (tOp r ta tb):=by
 intro pins s σ H Q I h
 exact Subscript_ (Qtl ha hb I h fun v u s2 x y H2 I2 rx ry q=>hr a b pins s2 σ H2 x y v u Q I2 rx ry q (hs _ _))
def Qtw (K:z00):R2:=fun x y H Q=>∃p xs i v,x=.ref p/\y=.int i/\SqL K H p xs/\atI xs i=some v/\Q v H
def Qu5 (K:z00):R2:=fun x y H Q=>∃p xs i v,x=.ref p/\y=.int i/\SqT K H p xs/\atI xs i=some v/\Q v H
def Qu6:R2:=fun x y H Q=>∃z i c,x=.str z/\y=.int i/\z.length<=z17/\atI z.cps.toList i=some c/\Q (.str ⟨#[c]⟩) H
theorem QeS:IxR X (Qtw X.K):=by
 intro value slice pins s σ H x y v u Q I rx ry h hs
 obtain⟨p,xs,i,z,rfl,rfl,hq,he,q⟩:=h
 cases rx
 obtain⟨t,rfl⟩:=ry
 obtain⟨its,r,pl,hz⟩:=I.list hq
 obtain⟨j,h1,h2,h3,h4,h5⟩:=QgM he
 obtain⟨w,ew,rw'⟩:=r.get h2
 have hl:=r.length
 have hn:=QfF
 have fin:EP X pins σ Q w s:=⟨z,H,I,rw',q⟩
 by_cases h0:0<=i
 ·have hj:i.toNat=j:=by
   rw[seqIndex_of h0 h5] at h1
   exact z21 h1
  exact item_listR pl.isList h0 @0 (by rw[hj];simpa using ew) fin hs
 ·have hj:(i+(its.toArray.size:Int)).toNat=j:=by
   rw[seqIndex_neg @0 h4] at h1
   rw[z18,← hl]
   exact z21 h1
  exact subscriptTail_builtinR (x:=w) pl.isList.typeIs slot_list_getitem.lookup
   (wpAny_getItem_list_neg (Q:=fun r s'=>r=w/\EP X pins σ Q r s') pl.isList @0 (by rw[z18]<;>lia) @0 (by rw[hj];simpa using ew) ⟨rfl,fin⟩) hs
theorem Qqm:IxR X (Qu5 X.K):=by
 intro value slice pins s σ H x y v u Q I rx ry h hs
 obtain⟨p,xs,i,z,rfl,rfl,hq,he,q⟩:=h
 cases rx
 obtain⟨t,rfl⟩:=ry
 obtain⟨its,r,pl,hz⟩:=I.tuple hq
 obtain⟨j,h1,h2,h3,h4,h5⟩:=QgM he
 obtain⟨w,ew,rw'⟩:=r.get h2
 have hl:=r.length
 have hn:=QfF
 have fin:EP X pins σ Q w s:=⟨z,H,I,rw',q⟩
 exact subscriptTail_builtinR (x:=w) pl.typeIs slot_tuple_getitem.lookup
  (getItem_tuple (j:=j) (Q:=fun r s'=>r=w/\EP X pins σ Q r s') pl @0 @0 (by rw[z18,← hl];exact h1) (by simpa using ew) ⟨rfl,fin⟩) hs
theorem Qqn:IxR X Qu6:=by
 intro value slice pins s σ H x y v u Q I rx ry h hs
 obtain⟨z,i,c,rfl,rfl,hz,he,q⟩:=h
 obtain⟨t,rfl⟩:=rx
 obtain⟨t',rfl⟩:=ry
 obtain⟨j,h1,h2,h3,h4,h5⟩:=QgM he
 have hl:z.cps.toList.length=z.length:=by simp[Str.length]
 rw[hl] at h1 h4 h5
 have hn:=QfF
 exact tail_any (typeIs_str s z t) slot_str_getitem.lookup (getItem_str (c:=c) (by
  have e1:decide (i < -(2 ^ 63:Int))=false:=decide_eq_false @0
  have e2:decide (i ≥ 2 ^ 63)=false:=decide_eq_false @0
  rw[e1,e2,Bool.or_false]) (by rw[h1];simpa using h2) ⟨.str ⟨#[c]⟩,H,I.tok _,⟨_,rfl⟩,q⟩) hs
def rIx (K:z00):R2:=fun x y H Q=>Qtw K x y H Q\/Qu5 K x y H Q\/Qu6 x y H Q
theorem QjN:IxR X (rIx X.K):=QeS.or (Qqm.or Qqn)
theorem QiN (its:List Value)(n j:Nat)(u:Value):z55 (·.setIfInBounds j u) { cls:=.type "list",data:=.seq its.toArray n }={ cls:=.type "list",data:=.seq (its.set j u).toArray n }:=by
 simp[z55]
theorem Inv.lst {pins:List @11}{σ:St}{H:Hp}{s:Shared}{p:Addr}{xs:List V}(I:Inv X pins σ H s)(h:H p=some (.lst xs)) :
  ∃(its:List Value) (n:Nat),Vals xs its/\s.heap.get? p=some { cls:=.type "list",data:=.seq its.toArray n }/\xs.length<=z17:=by
 obtain⟨z,its,n,r,e⟩:=I.hok p _ h
 exact⟨its,n,r,e,z⟩
theorem Inv.Qqo {pins:List @11}{σ:St}{H:Hp}{s:Shared}{p:Addr}{xs ys:List V}{its its':List Value}{n n':Nat}{f:Obj->Obj}(I:Inv X pins σ H s)(h:H p=some (.lst xs))
  (ho:s.heap.get? p=some { cls:=.type "list",data:=.seq its.toArray n }) (hf:f { cls:=.type "list",data:=.seq its.toArray n }={ cls:=.type "list",data:=.seq its'.toArray n' }) (r:Vals ys its') (hz:ys.length<=z17) (t:Nat) :
  Inv X pins σ (upd H p (.lst ys)) { s with heap:=s.heap.update p f,toks:=t }:=by
 have e:(s.heap.update p f).get? p=some { cls:=.type "list",data:=.seq its'.toArray n' }:=by
  rw[zu1 f ho (by rw[hf]<;>rfl),hf]
 refine I.write (x:=p) (e:=p) (by rw[h];trivial) (.inl rfl) (fun b u hb q=>(zt2 _ _ (zb9 hb)).trans q) ⟨_,e⟩ ?_
 exact⟨hz,its',n',r,e⟩
def Qn7:V->V->V->Hp->(Hp->Prop)->Prop:=fun o i v H Q=>∃p xs k j,o=.ref p/\i=.int k/\H p=some (.lst xs)/\ixN xs.length k=some j/\Q (upd H p (.lst (xs.set j v)))
theorem set_list:Qu2 X Qn7:=by
 intro pins s σ H o i v ov iv u Q I ro ri rv h
 obtain⟨p,xs,k,j,rfl,rfl,hp,hj,q⟩:=h
 cases ro
 obtain⟨t,rfl⟩:=ri
 obtain⟨its,n,r,ho,hz⟩:=I.lst hp
 obtain⟨h1,h2,h3,h4⟩:=QjM hj
 have hl:=r.length
 have hn:=QfF
 have I':Inv X pins σ (upd H p (.lst (xs.set j v))) { s with heap:=s.heap.update p (z55 (·.setIfInBounds j u))}:=
  I.Qqo hp ho (QiN its n j u) (r.set rv j) (by rw[z98];exact hz) s.toks
 by_cases h0:0<=k
 ·have hk:k.toNat=j:=by
   rw[seqIndex_of h0 h4] at h1
   exact z21 h1
  exact PySem.W.ki_setAt ho h0 @0 (by rw[z18,← hl];exact h4) (by rw[hk];exact⟨_,I',q⟩)
 ·have hk:(k+(its.toArray.size:Int)).toNat=j:=by
   rw[seqIndex_neg @0 h3] at h1
   rw[z18,← hl]
   exact z21 h1
  exact PySem.W.ki_setBack ho @0 (by rw[z18,← hl];exact h3) @0 (by rw[hk];exact⟨_,I',q⟩)
theorem QfN (lo hi:Option Int)(n:Nat):(sliceBounds lo hi none n).1=((HT.sIx n 0 lo:Nat):Int)/\(sliceBounds lo hi none n).2.1=((HT.sIx n n hi:Nat):Int)/\(sliceBounds lo hi none n).2.2=1:=by
 refine⟨?_,?_,rfl⟩
 ·cases lo with
  |none=>simp[sliceBounds,HT.sIx]
  |some i=>
   simp only[sliceBounds,HT.sIx,zi3,show(1:Int) > 0 by decide,if_true]
   by_cases h:i<0
   ·simp only[h,if_true]<;>lia
   ·simp only[h,if_false]<;>lia
 ·cases hi with
  |none=>simp[sliceBounds,HT.sIx]
  |some i=>
   simp only[sliceBounds,HT.sIx,zi3,show(1:Int) > 0 by decide,if_true]
   by_cases h:i<0
   ·simp only[h,if_true]<;>lia
   ·simp only[h,if_false]<;>lia
theorem QeT (its:List Value)(lo hi:Option Int):slicePick its.toArray lo hi none=((its.drop (HT.sIx its.length 0 lo)).take (HT.sIx its.length its.length hi - HT.sIx its.length 0 lo)).toArray:=by
 obtain⟨h1,h2,h3⟩:=QfN lo hi its.toArray.size
 unfold slicePick
 rw[h1,h2,h3]
 simp only[sliceRange_one,pick_run,z18]<;>rfl
def QvX (K:z00):V->Option Int->Option Int->Hp->VK->Prop:=fun x lo hi H Q=>∃a xs,x=.ref a/\SqL K H a xs/\∀p,H p=none->Q (.ref p) (upd H p (.lst (Qn6 xs lo hi)))
theorem QjO:SlR X (QvX X.K):=by
 intro pins s σ H x v vl vu lo hi sl Q I rx hs pl pu h
 obtain⟨a,xs,rfl,hx,q⟩:=h
 cases rx
 obtain⟨its,r,ht,hz⟩:=I.list hx
 have hlen:=r.length
 refine⟨"list",_,slot_list_getitem.lookup,ht.isList.typeIs,?_⟩
 refine wpAny_getItem_list_slice ht.isList hs pl pu .none @9 ?_ (by rw[z18]<;>lia)
 rw[QeT,← hlen]
 refine⟨.ref s.heap.objs.size,_,I.laid (t':=s.toks) (o:=.lst (Qn6 xs lo hi)) (fun b ob q=>z19 _ q) (z24 _) ?_,rfl,q _ (I.hok.fresh (z24 _))⟩
 exact⟨z65 (QgL xs lo hi) hz,_,0,(r.drop (HT.sIx xs.length 0 lo)).take (HT.sIx xs.length xs.length hi - HT.sIx xs.length 0 lo),z45 _ rfl⟩
def QfO:V->Bool
 |.non=>true
 |.bl _=>true
 |.int _=>true
 |.str _=>true
 |_=>false
def eqV:V->V->Bool
 |.non,.non=>true
 |.bl a,.bl b=>a == b
 |.bl a,.int b=>(if a then 1 else 0) == b
 |.int a,.bl b=>a == (if b then 1 else 0)
 |.int a,.int b=>a == b
 |.str a,.str b=>a == b
 |_,_=>false
theorem Qqp {A:Around}{s:Shared}{y x:V}{u v:Value}(ry:RelV y u)(rx:RelV x v)(fy:QfO y=true)(fx:QfO x=true):zh5 A s u v (eqV y x):=by
 cases y with
 |non=>
  cases ry
  cases x with
  |non=>cases rx;exact zh6 _
  |bl b=>cases rx;exact SeqAt.EqAt.none_bool b
  |int b=>obtain⟨t,rfl⟩:=rx;exact SeqAt.EqAt.none_int b t
  |str b=>obtain⟨t,rfl⟩:=rx;exact SeqAt.EqAt.none_str b t
  |_=>exact absurd (show false=true from fx) z29
 |bl a=>
  cases ry
  cases x with
  |non=>cases rx;exact SeqAt.EqAt.bool_none a
  |bl b=>cases rx;exact SeqAt.EqAt.bool_bool a b
  |int b=>obtain⟨t,rfl⟩:=rx;exact SeqAt.EqAt.bool_int a b t
  |str b=>obtain⟨t,rfl⟩:=rx;exact SeqAt.EqAt.bool_str a b t
  |_=>exact absurd (show false=true from fx) z29
 |int a=>
  obtain⟨t',rfl⟩:=ry
  cases x with
  |non=>cases rx;exact SeqAt.EqAt.int_none a t'
  |bl b=>cases rx;exact SeqAt.EqAt.int_bool a t' b
  |int b=>obtain⟨t,rfl⟩:=rx;exact z85 a t' b t
  |str b=>obtain⟨t,rfl⟩:=rx;exact zr7 a t' b t
  |_=>exact absurd (show false=true from fx) z29
 |str a=>
  obtain⟨t',rfl⟩:=ry
  cases x with
  |non=>cases rx;exact SeqAt.EqAt.str_none a t'
  |bl b=>cases rx;exact SeqAt.EqAt.str_bool a t' b
  |int b=>obtain⟨t,rfl⟩:=rx;exact zr6 a t' b t
  |str b=>obtain⟨t,rfl⟩:=rx;exact SeqAt.EqAt.str_str a t' b t
  |_=>exact absurd (show false=true from fx) z29
 |_=>exact absurd (show false=true from fy) z29
theorem QfP:Qaf X (.type "list") (fun xs H Q=>∃p ys,xs=[.ref p]/\(SqL X.K H p ys\/SqT X.K H p ys)/\∀l,H l=none->Q (.ref l) (upd H l (.lst ys))):=by
 intro pins s σ H xs us Q I r h
 obtain⟨p,ys,rfl,hq,q⟩:=h
 obtain⟨u,rfl,rx⟩:=vals1 r
 cases rx
 have fin:∀(its:List Value),Vals ys its->ys.length<=z17->∀(h':Heap) (c':Nat),(∀b o',s.heap.get? b=some o'->h'.get? b=some o')->
   h'.get? s.heap.objs.size=some { cls:=.type "list",dict:=none,data:=.seq its.toArray c',slots:=#[]}->EP X pins σ Q (.ref s.heap.objs.size) { s with heap:=h' }:=fun its r' hz h' c' kp e=>
  ⟨.ref s.heap.objs.size,_,I.laid (t':=s.toks) kp (z24 _) (show JM X.prog X.w _ h' _ (.lst ys) from⟨hz,its,c',r',e⟩),rfl,q _ (I.hok.fresh (z24 _))⟩
 rcases hq with hq|hq
 ·obtain⟨its,r',pl,hz⟩:=I.list hq
  have hlen:=r'.length
  obtain⟨o,ho,hc,n,hd⟩:=pl.isList
  exact call_list_seq p (.inl rfl) ho hc hd (fun h' c' kp e=>fin its r' hz h' c' kp e) (by simp only[z18]<;>lia)
 ·obtain⟨its,r',pl,hz⟩:=I.tuple hq
  have hlen:=r'.length
  obtain⟨o,ho,hc,n,hd⟩:=pl
  exact call_list_seq p (.inr rfl) ho hc hd (fun h' c' kp e=>fin its r' hz h' c' kp e) (by simp only[z18]<;>lia)
theorem QeU:Qaf X (.type "tuple") (fun xs H Q=>∃p ys,xs=[.ref p]/\((SqL X.K H p ys/\∀l,H l=none->Q (.ref l) (upd H l (.tup ys)))\/(SqT X.K H p ys/\Q (.ref p) H))):=by
 intro pins s σ H xs us Q I r h
 obtain⟨p,ys,rfl,h⟩:=h
 obtain⟨u,rfl,rx⟩:=vals1 r
 cases rx
 rcases h with⟨hq,q⟩|⟨hq,q⟩
 ·obtain⟨its,r',pl,hz⟩:=I.list hq
  have hlen:=r'.length
  refine call_tuple_list pl.isList (fun h' kp=>?_) (by simp only[z18]<;>lia)
  have I1:Inv X pins σ H { s with heap:=h' }:=I.kept (t':=s.toks) kp
  have I2:Inv X pins σ (upd H h'.objs.size (.tup ys)) { s with heap:=h'.push { cls:=.type "tuple",data:=.seq its.toArray }}:=
   I1.laid (t':=s.toks) (fun b o e=>z19 _ e) (z24 _) (show JM X.prog X.w _ _ _ (.tup ys) from⟨hz,its,r',IsTup.new _ _⟩)
  exact⟨.ref h'.objs.size,_,I2,rfl,q _ (I1.hok.fresh (z24 _))⟩
 ·obtain⟨its,r',pl,hz⟩:=I.tuple hq
  exact call_tuple_same pl ⟨.ref p,H,I,rfl,q⟩
def tyV (K:z00)(T:String)(x:V)(H:Hp):Prop:=match x with
 |.str _=>T = "str"
 |.int _=>T = "int"
 |.ref p=>(T = "list" /\ ∃xs,SqL K H p xs)\/(T = "tuple" /\ ∃o,K.lookup p=some o/\o.cls=.type "tuple" /\ o.dict=none)\/
   (T = "dict" /\ ((∃kvs,H p=some (.dK kvs))\/∃kvs,H p=some (.dT kvs)))\/(T = "set" /\ ∃S n,H p=some (.set S n))
 |_=>False
theorem QmV {pins:List @11}{σ:St}{H:Hp}{s:Shared}{T:String}{x:V}{v:Value}(I:Inv X pins σ H s)(r:RelV x v)(ty:tyV X.K T x H) :
  s.TypeIs v T/\∀a,v=.ref a->∃ob,s.heap.get? a=some ob/\ob.dict=none:=by
 cases x with
 |str z=>
  obtain⟨t,rfl⟩:=r
  cases(show T = "str" from ty)
  exact⟨typeIs_str s z t,fun _ e=>nomatch e⟩
 |int i=>
  obtain⟨t,rfl⟩:=r
  cases(show T = "int" from ty)
  exact⟨typeIs_int s i t,fun _ e=>nomatch e⟩
 |ref p=>
  cases r
  rcases ty with⟨rfl,xs,hq⟩|⟨rfl,o,hk,hc,hd⟩|⟨rfl,hk⟩|⟨rfl,S,n,hk⟩
  ·obtain⟨its,_,pl,_⟩:=I.list hq
   refine⟨pl.isList.typeIs,fun a e=>?_⟩
   cases e
   obtain⟨o,n,e,c,hd,_⟩:=pl
   exact⟨o,e,hd⟩
  ·refine⟨⟨o,I.kIn p o hk,hc⟩,fun a e=>?_⟩
   cases e
   exact⟨o,I.kIn _ o hk,hd⟩
  ·have z:∃o,s.heap.get? p=some o/\o.ExactDict:=by
    rcases hk with⟨kvs,hk⟩|⟨kvs,hk⟩
    ·obtain⟨_,_,_,_,o,_,_,e,ex,_⟩:=I.hok p _ hk
     exact⟨o,e,ex⟩
    ·obtain⟨_,_,_,_,o,_,_,e,ex,_⟩:=I.hok p _ hk
     exact⟨o,e,ex⟩
   obtain⟨o,e,ex⟩:=z
   refine⟨⟨o,e,ex.1⟩,fun a e2=>?_⟩
   cases e2
   exact⟨o,e,ex.2.1⟩
  ·obtain⟨o,_,_,_,e,ex,_⟩:=I.hok p _ hk
   refine⟨⟨o,e,ex.1⟩,fun a e2=>?_⟩
   cases e2
   exact⟨o,e,ex.2.1⟩
 |_=>exact zc8 ty
def QvY (K:z00)(T:String)(r:V->List V->Hp->VK->Prop)(to:TE):TE:=fun σ H Q=>to σ H fun x H1=>tyV K T x H1/\r x [] H1 Q
def tBM (K:z00)(T:String)(r:V->List V->Hp->VK->Prop)(to:TE)(t:TA):TE:=fun σ H Q=>to σ H fun x H1=>tyV K T x H1/\t σ H1 fun xs H2=>r x xs H2 Q
variable {o e:Expr}{es:List Expr}{to:TE}{t:TA}{name:Str}{apos cpos:Pos}{T id:String}{r:V->List V->Hp->VK->Prop}
theorem Qqq (pa:PlainAttrs T)(slot:Slot T name id)(hty:typeOf (.builtin id)=pure (.type "method_descriptor"))(hm:MtR X id r)(ho:PE X o to)
  (hbase:attributeBase o name X.env (eval o X.env)=eval o X.env:=by rfl) (hline:(apos.endLine == cpos.line)=true:=by rfl):PE X (.Call (.Attribute o name apos) [] [] cpos) (QvY X.K T r to):=by
 intro pins s σ H Q I h
 refine wpAny_Call_method0_late hbase hline (thn (ho pins s σ H _ I h) fun v s1 hz=>?_)
 obtain⟨x,H1,I1,r1,ty,q1⟩:=hz
 obtain⟨h1,h2⟩:=QmV I1 r1 ty
 exact⟨T,id,pa,slot,hty,h1,h2,zj2 rfl (PySem.evalArgs_none (hm pins s1 σ H1 x [] v [] Q I1 r1 .nil q1))⟩
theorem Qn8 (pa:PlainAttrs T)(slot:Slot T name id)(hty:typeOf (.builtin id)=pure (.type "method_descriptor"))(hm:MtR X id r)(ho:PE X o to)(ha:PA X (e::es) t)
  (hbase:attributeBase o name X.env (eval o X.env)=eval o X.env:=by rfl)
  (hfew:((backTo cpos (starEach (e::es) X.env)).all (fun x=>!x.1) && (backToKw cpos (keywordEach [] X.env)).all (fun x=>x.1.isSome)
   && decide ((e::es).length+([]:List Keyword).length+(if([]:List Keyword).isEmpty then 0 else 1)<30))=true:=by rfl)
  (hline:(apos.endLine == cpos.line)=true:=by rfl) (hs:starEach (e::es) X.env=(false,eval e X.env)::starEach es X.env:=by rfl) (hplain:(backTo cpos (starEach es X.env)).any (·.1)=false:=by rfl) :
  PE X (.Call (.Attribute o name apos) (e::es) [] cpos) (tBM X.K T r to t):=by
 intro pins s σ H Q I h
 refine wpAny_Call_method_late hbase hfew hline rfl (thn (ho pins s σ H _ I h) fun v s1 hz=>?_)
 obtain⟨x,H1,I1,r1,ty,q1⟩:=hz
 obtain⟨h1,h2⟩:=QmV I1 r1 ty
 refine⟨T,id,pa,slot,hty,h1,h2,?_⟩
 have hA:=ha cpos pins s1 σ H1 _ I1 q1
 rw[hs] at hA ⊢
 refine zj2 (by show(false || (backTo cpos (starEach es X.env)).any (·.1))=false;rw[hplain]<;>rfl) (zk5 ?_)
 exact thn hA fun us s2 ⟨vs,H2,I2,r2,q2⟩=>hm pins s2 σ H2 x vs v us Q I2 r1 r2 q2
end
def MtM (X:Cx)(id:String)(r:V->List V->Hp->VK->Prop):Prop:=
 ∀(pins:List @11) (s:Shared) (σ:St) (H:Hp) (x:V) (xs:List V) (v:Value) (us:List Value) (Q:VK),Inv X pins σ H s->RelV x v->Vals xs us->r x xs H Q->
  wpAny @4 X.A (call (.builtin id) (v::us)) (EP X pins σ Q) X.xe s
theorem Vals.one {x:V}{us:List Value}(h:Vals [x] us):∃u,us=[u]/\RelV x u:=by
 cases h with
 |cons r t=>cases t;exact⟨_,rfl,r⟩
theorem Vals.two {x y:V}{us:List Value}(h:Vals [x,y] us):∃u v,us=[u,v]/\RelV x u/\RelV y v:=by
 cases h with
 |cons r t=>obtain⟨u,rfl,q⟩:=Vals.one t;exact⟨_,_,rfl,r,q⟩
theorem Vals.zero:∀{us:List Value},Vals [] us->us=[]
 |_,.nil=>rfl
theorem Vals.dropLast {xs:List V}{us:List Value}(h:Vals xs us):Vals xs.dropLast us.dropLast:=by
 induction h with
 |nil=>exact .nil
 |cons r t ih=>
  cases t with
  |nil=>exact .nil
  |cons q t'=>exact .cons r ih
theorem QiO {α:Type}(l:List α):l.eraseIdx (l.length - 1)=l.dropLast:=by
 induction l with
 |nil=>rfl
 |cons a r ih=>
  cases r with
  |nil=>rfl
  |cons b r=>
   have e:(a::b::r).length - 1=((b::r).length - 1)+1:=by
    have h1:(a::b::r).length=r.length+2:=rfl
    have h2:(b::r).length=r.length+1:=rfl
    lia
   rw[e,List.eraseIdx_cons_succ,ih]
   all_goals rfl
section
variable {X:Cx}{pins:List @11}{σ:St}{H:Hp}{s:Shared}{l:Addr}{xs ys:List V}
theorem Inv.QsY {its its':List Value}{n:Nat}{f:Array Value->Array Value}{t':Nat}(I:Inv X pins σ H s)(hH:H l=some (.lst xs))
  (e:s.heap.get? l=some { cls:=.type "list",data:=.seq its.toArray n }) (hf:f its.toArray=its'.toArray) (hv:Vals ys its') (hz:ys.length<=z17) :
  Inv X pins σ (upd H l (.lst ys)) { s with heap:=s.heap.update l (z55 f),toks:=t' }:=by
 have q:=PySem.IsL.update e f
 rw[hf] at q
 refine I.write (x:=l) (e:=l) (by rw[hH];exact trivial) (.inl rfl) (fun b' u hb hu=>(zt2 s.heap (z55 f) (zb9 hb)).trans hu) ⟨_,q⟩ ?_
 exact⟨hz,its',_,hv,q⟩
theorem Inv.QvZ {its:List Value}{t':Nat}(I:Inv X pins σ H s)(hv:Vals ys its)(hz:ys.length<=z17) :
  Inv X pins σ (upd H s.heap.objs.size (.lst ys)) { s with heap:=s.heap.push { cls:=.type "list",data:=.seq its.toArray },toks:=t' }:=
 I.laid (fun _ _ q=>z19 _ q) (z24 _) ⟨hz,its,0,hv,z45 _ rfl⟩
theorem Inv.fresh (I:Inv X pins σ H s):H s.heap.objs.size=none:=I.hok.fresh (z24 _)
theorem Inv.Qqr (I:Inv X pins σ H s)(hH:H l=some (.lst xs)):xs.length<=z17/\∃(its:List Value) (n:Nat),Vals xs its/\xs.length=its.length/\s.heap.get? l=some { cls:=.type "list",data:=.seq its.toArray n }:=by
 obtain⟨z,its,n,r,e⟩:=I.hok l _ hH
 exact⟨z,its,n,r,r.length,e⟩
theorem QlU {n:Nat}(h:n<=z17):zg5 n=false:=by
 unfold zg5
 exact decide_eq_false @0
end
section
variable {X:Cx}
def Qn9:V->List V->Hp->VK->Prop:=fun x vs H Q=>∃l xs y,x=.ref l/\vs=[y]/\H l=some (.lst xs)/\xs.length<z17/\Q .non (upd H l (.lst (xs++[y])))
theorem QjP:MtM X "list.append" Qn9:=by
 intro pins s σ H x vs v us Q I rx rv h
 obtain⟨l,xs,y,rfl,rfl,hH,hz,q⟩:=h
 cases rx
 obtain⟨u,rfl,ru⟩:=rv.one
 obtain⟨z,its,n,r,hl,e⟩:=I.Qqr hH
 refine call_meets F.slot_list_append ⟨_,e,rfl⟩ F.entry_list_append (F.args_list_append_2 _ _) (PySem.list_append l its.toArray n u (by rw[z18];lia)) ⟨e,?_⟩
 refine⟨.non,_,I.QsY (its':=its++[u]) hH e @9 (r.append (.cons ru .nil)) ?_,rfl,q⟩
 rw[z16,zb2]
 lia
def Qoa:V->List V->Hp->VK->Prop:=fun x vs H Q=>∃l b xs zs,x=.ref l/\vs=[.ref b]/\H l=some (.lst xs)/\H b=some (.lst zs)/\xs.length+zs.length<=z17/\Q .non (upd H l (.lst (xs++zs)))
theorem QjQ:MtM X "list.extend" Qoa:=by
 intro pins s σ H x vs v us Q I rx rv h
 obtain⟨l,b,xs,zs,rfl,rfl,hH,hB,hz,q⟩:=h
 cases rx
 obtain⟨u,rfl,ru⟩:=rv.one
 cases ru
 obtain⟨z,its,n,r,hl,e⟩:=I.Qqr hH
 obtain⟨z2,its2,n2,r2,hl2,e2⟩:=I.Qqr hB
 have hsz:its.toArray.size+its2.toArray.size<=z17:=by rw[z18,z18];lia
 have Qtx:¬ (!its.toArray.isEmpty && zg5 (its.toArray.size+its2.toArray.size))=true:=by
  rw[QlU hsz,Bool.and_false]
  exact z29
 refine call_meets F.slot_list_extend ⟨_,e,rfl⟩ F.entry_list_extend (F.args_list_extend_2 _ _)
  (AutoSeq1.list_extend_list_list_0 l its.toArray n b its2.toArray n2 Qtx (by rw[z18];lia) @0) ⟨e,e2,?_⟩
 refine⟨.non,_,I.QsY (its':=its++its2) hH e @9 (r.append r2) ?_,rfl,q⟩
 rw[z16]
 lia
def Qv0:V->List V->Hp->VK->Prop:=fun x vs H Q=>∃l xs y,x=.ref l/\vs=[]/\H l=some (.lst xs)/\xs[xs.length - 1]? = some y/\Q y (upd H l (.lst xs.dropLast))
theorem Qqs:MtM X "list.pop" Qv0:=by
 intro pins s σ H x vs v us Q I rx rv h
 obtain⟨l,xs,y,rfl,rfl,hH,hy,q⟩:=h
 cases rx
 have hus:=rv.zero
 subst hus
 obtain⟨z,its,n,r,hl,e⟩:=I.Qqr hH
 obtain⟨u,hu,ru⟩:=r.get hy
 have hy':its.toArray[its.toArray.size - 1]? = some u:=by
  show its.toArray[its.length - 1]? = some u
  rw[← z43,← hl]
  exact hu
 refine call_meets F.slot_list_pop ⟨_,e,rfl⟩ F.entry_list_pop (F.args_list_pop_1 _) (MeetsSeq.list_pop_last l its.toArray n u hy' (by rw[z18];lia)) ⟨e,?_⟩
 refine⟨y,_,I.QsY (its':=its.dropLast) hH e ?_ r.dropLast ?_,ru,q⟩
 ·show its.toArray.eraseIdxIfInBounds (its.toArray.size - 1)=its.dropLast.toArray
  rw[z18,List.eraseIdxIfInBounds_toArray,QiO]
 ·rw[List.length_dropLast]
  lia
end
end L2
namespace Att
open PySem PySem.W PySem.Calls PyProof.Rows
theorem Qdk {P:Params}{h:Heap}:∀(ns:List Int) (vs:List Value),WellAll P h vs (ns.map WData.int)->IntsAre vs ns:=by
 intro ns
 induction ns with
 |nil=>
  intro vs w
  rw[zn7] at w
  cases w
  exact .nil
 |cons n ns ih=>
  intro vs w
  rw[z30] at w
  cases w with
  |cons a b=>
   cases a
   exact .cons _ _ (ih _ b)
theorem QjR {l:OpenLaw}{n:Nat}(hn:l.most=some n){P:Params}{h:Heap}{args:List WData}{vals:List Value}
  (hpre:l.row.toRowW.claim.pre args=true) (hwl:WellAll P h vals args) :
  ∃a vs ns,vals=[z42 a]/\args=[WData.list (ns.map WData.int)]/\h.get? a=some { cls:=.type "list",data:=.seq vs.toArray }/\IntsAre vs ns/\ns.length<=n:=by
 have hsh:WShape.hasAll [] args [.list .int]=true:=(pre_splitW hpre).1
 have hc:l.pre.holds [] { args:=args }=true:=(pre_splitW hpre).2
 obtain⟨d,r,rfl,h1,h2⟩:=hasAllW_cons hsh
 obtain rfl:=hasAllW_nil h2
 obtain⟨xs,rfl,h3⟩:=hasW_list h1
 obtain⟨ns,rfl⟩:=items_int h3
 have hlen:ns.length<=n:=by
  unfold OpenLaw.pre at hc
  have h4:(WTm.not (.lt (.lit (.int (n:Int))) (.len (.arg 0)))).holds [] { args:=[.list (ns.map .int)]}=true:=by
   have h4:=(holds_andW hc).1
   rw[hn] at h4
   exact h4
  have h5:=condW_of h4 (w_not (w_lt w_lit (w_len_list (w_arg rfl))))
  rw[z01] at h5
  refine Nat.le_of_not_lt fun q=>?_
  have q':(n:Int)<((ns.length:Nat):Int):=by lia
  first
   |(rw[decide_eq_true q'] at h5;exact absurd h5 @1)
   |(simp at h5;lia)
 cases hwl with
 |cons w1 w2=>
  cases w2
  cases w1 with
  |list ho hall=>exact⟨_,_,ns,rfl,rfl,ho,Qdk ns _ hall,hlen⟩
theorem QjS (l:OpenLaw)(args:List WData):l.row.toRowW.claim.post args (.bool true) args=true:=
 postW_of (r:=l.row.toRowW) (X:=(true == true))
  (show WShape.has [] (.bool true) .bool=true by first|rfl|decide|simp[WShape.has,WShape.arms,WShape.armsAll])
  (show(WTm.eq .res (.lit (.bool true))).value [] { args:=args,res:=some (.bool true),after:=args }=some (.bool (true == true)) from w_eq_bool (w_res rfl) w_lit) rfl
theorem QgN {l:OpenLaw}{n:Nat}{q:Program}{loose:List Str}{XP:(Str->Option Value)->Heap->Prop}{YP:World->Heap->Prop}{d:DefRec}
  (hn:l.most=some n) (hdf:d.params.defaults=[])
  (call:∀(w:World) (s₀ s₁:Shared) (mg mb:Str->Option Value) (fa:Addr) (o:Obj) (pm cd doc:Value) (a:Addr) (vs:List Value) (ns:List Int),
   Ground q loose [] XP w s₀ mg mb s₁.heap->YP w s₁.heap->
   s₁.heap.get? fa=some o->o.data=.func (docDef d.name d.params d.body d.scope pm cd doc)->s₁.heap.CodeRec cd d.name->mg d.name=some (.ref fa)->
   s₁.heap.get? a=some { cls:=.type "list",data:=.seq vs.toArray }->IntsAre vs ns->ns.length<=n->s₁.gens = #[]->
   codeAny (model l.prog w) callerA (.call (.ref fa) ⟨[.ref a],[]⟩) (fun r s'=>r=.ok (.ret (.bool true))/\OldK s₁.heap s'.heap/\s'.os=s₁.os/\AllBare s'.gens) s₁) :
  WalkO q loose XP YP l.row.toRowW d [] (fun f vs=>zw2 f vs):=by
 intro w s₀ s₁ mg mb G Y fa o pm cd doc dV kV ho hd hcd hD hmg hg args vals as hpre hlay hrd hwl hlo
 obtain rfl:dV=.none:=Dflts.none hD hdf
 obtain rfl:kV=.none:=Dflts.noKw hD
 obtain⟨a,vs,ns,rfl,rfl,hobj,hints,hlen⟩:=QjR hn hpre hwl
 refine enter_call (zq8 (call w s₀ s₁ mg mb fa o pm cd doc a vs ns G Y ho (fd_plain hd) hcd hmg hobj hints hlen hg) fun r s' hq=>?_)
 obtain⟨rfl,h2,h3,h4⟩:=hq
 exact⟨.inl ⟨.bool true,.bool true,[],rfl,fun _=>rfl,.bool true,QjS l _,fun _=>⟨List.Pairwise.nil,fun _ hm=>(nomatch hm)⟩⟩,h2,h3,h4⟩
end Att
namespace L2
open PySem PySem.Spec PyProof.Rows
theorem QfQ:∀{vs:List Value} {ns:List Int},IntsAre vs ns->Vals (ns.map V.int) vs
 |_,_,.nil=>.nil
 |_,_,.cons n t h=>.cons ⟨t,rfl⟩ (QfQ h)
def Only (H:Hp):Prop:=∀b,H b=none\/∃o xs,H b=some (.frz o (.lst xs))
theorem QlV {P:Program}{w:World}{K:z00}{mg mb:Str->Option Value}{CX:CXT}{k:Nat}{fa a:Addr}{fd:FuncData}{x:Str}{sp:Sp}{s₁:Shared}{vs:List Value}{ns:List Int}
  (KX:K.In s₁.heap) (hns:s₁.heap.Ns z38 mg) (hb:s₁.heap.Ns builtinsNs mb) (hbb:∀x:Str,x ≠ "__name__" -> mb x=z74 x) (hlim:s₁.heap.NoLimit) (hg:s₁.gens = #[])
  (ha:s₁.heap.get? a=some { cls:=.type "list",data:=.seq vs.toArray }) (hi:IntsAre vs ns) (hl:ns.length<=z17) (hr:Qag k callerA)
  (F:∀base:Heap,K.In base->base.Ns z38 mg->Qeh P w K mg base CX k fa fd [x] sp) (hbind:∀(s:Shared) (u:Value),BindsTo s fd ⟨[u],[]⟩ [(x,u)])
  (hsp:∀H:Hp,Only H->SqL K H a (ns.map V.int)->sp [.ref a] H (fun v _=>v=.bl true) fun _ _ _=>False)
  (hCX:∀H e s',CX [] H s₁ (fun _ _ _=>False) e s'->False) :
  codeAny (model P w) callerA (.call (.ref fa) ⟨[.ref a],[]⟩) (fun r s'=>r=.ok (.ret (.bool true))/\OldK s₁.heap s'.heap/\s'.os=s₁.os/\AllBare s'.gens) s₁:=by
 have rv:=QfQ hi
 have lenV:=hi.length
 -- from an abstract heap in which nothing but the script may be tracked
 have core:∀H:Hp,Only H->SqL K H a (ns.map V.int)->HOk P w H s₁.heap->(∀b,H b≠none->b=a)->(H a≠none->K.lookup a=none)->
   codeAny (model P w) callerA (.call (.ref fa) ⟨[.ref a],[]⟩) (fun r s'=>r=.ok (.ret (.bool true))/\OldK s₁.heap s'.heap/\s'.os=s₁.os/\AllBare s'.gens) s₁:=by
  intro H hO hS hok hA hK
  have QjT:∀{b:Addr} {o:Obj},s₁.heap.get? b=some o->H b=none->(QlI s₁.heap H).get? b=some o:=fun e n=>QlJ e n
  have noA:∀{b:Addr} {o:Obj} {es:Array DictEntry} {ep:Nat},s₁.heap.get? b=some o->o.data=.dict es ep->H b=none:=fun{b o es ep} e d=>by
   cases q:H b with
   |none=>rfl
   |some u=>
    have e':b=a:=hA b (by rw[q];simp)
    subst e'
    rw[ha] at e;cases e
    have d':Data.seq vs.toArray _=Data.dict es ep:=d
    cases d'
  have nsK:∀{b:Addr} {m:Str->Option Value},s₁.heap.Ns b m->(QlI s₁.heap H).Ns b m:=fun{b m} ⟨o,es,ep,e,d,r⟩=>⟨o,es,ep,QjT e (noA e d),d,r⟩
  have hKb:K.In (QlI s₁.heap H):=fun b o e=>QjT (KX b o e) (by
   cases q:H b with
   |none=>rfl
   |some u=>
    have e':b=a:=hA b (by rw[q];simp)
    subst e'
    rw[hK (by rw[q];simp)] at e;cases e)
  have hM:Mod K mg (QlI s₁.heap H):=⟨hKb,nsK hns,⟨mb,nsK hb,hbb⟩,let ⟨mc,h1,h2⟩:=hlim;⟨mc,nsK h1,h2⟩⟩
  have e0:QnY P w K mg (QlI s₁.heap H) callerA [] s₁ H:=⟨rfl,hM,fun b o e=>QnG e,zu7 (Qjs _ _),trivial,fun b hb=>absurd (show b∈([]:List Addr) from hb) @9,hok,.of_eq hg⟩
  refine zq8 ((F _ hKb (nsK hns)).run callerA [] s₁ H ⟨[.ref a],[]⟩ [.ref a] [.ref a] _ _ hr e0 (hbind s₁ (.ref a)) (.cons rfl .nil) (hsp H hO hS)) fun r s' h=>?_
  cases r with
  |error e=>exact(hCX H e s' h).elim
  |ok fl=>
   cases fl with
   |next=>exact zc8 h
   |brk=>exact zc8 h
   |cont=>exact zc8 h
   |ret u=>
    obtain⟨v,H',os,bare,un,hok',r',q⟩:=h
    have q':v=.bl true:=q
    subst q'
    obtain rfl:u=zm7 true:=r'
    refine⟨rfl,OldK.of_keep fun b o e=>?_,os,bare⟩
    cases q:H b with
    |none=>exact un.keep b o e q (by intro z;exact absurd (show b∈([]:List Addr) from z) @9) @9
    |some u=>
     rcases hO b with z|⟨ob,xs,z⟩
     ·rw[q] at z;cases z
     ·have z2:=un.QiD b ob _ z
      obtain⟨e1,_⟩:=hok b _ z
      obtain⟨e2,_⟩:=hok' b _ z2
      rw[e] at e1;cases e1
      exact e2
 cases hk:K.lookup a with
 |some o=>
  -- the script is one of the module's own objects
  have e:=KX a o hk
  rw[ha] at e
  cases e
  refine core (fun _=>none) (fun _=>.inl rfl) (.inr ⟨_,vs.toArray,_,hk,rfl,rfl,rfl,by rw[z18,lenV];exact hl,by simpa using rv⟩) (fun b u z=>by have z':(none:Option HO)=some u:=z;cases z') (fun b z=>absurd rfl z) fun z=>absurd rfl z
 |none=>
  refine core (fun b=>if b=a then some (.frz { cls:=.type "list",data:=.seq vs.toArray } (.lst (ns.map V.int))) else none) (fun b=>?_) (.inl (.inr ⟨{ cls:=.type "list",data:=.seq vs.toArray },if_pos rfl⟩)) (fun b u z=>?_) (fun b z=>?_) fun _=>hk
  ·by_cases hb:b=a
   ·exact .inr ⟨_,_,if_pos hb⟩
   ·exact .inl (if_neg hb)
  ·by_cases hb:b=a
   ·have z':=(if_pos hb).symm.trans z
    cases z'
    subst hb
    exact⟨ha,by rw[z01];exact hl,vs,_,rv,ha⟩
   ·have z':=(if_neg hb).symm.trans z
    cases z'
  ·by_cases hb:b=a
   ·exact hb
   ·exact absurd (if_neg hb) z
theorem Qob {l:zj0}{n k:Nat}{q:Program}{loose:List Str}{XP:(Str->Option Value)->Heap->Prop}{YP:World->Heap->Prop}{d:DefRec}{K:Params->z00}{CX:World->CXT}{sp:World->Sp}{x:Str}
  (hn:l.most=some n) (hn2:n<=z17) (hdf:d.params.defaults=[]) (hr:Qag k callerA)
  (hY:∀(w:World) (h:Heap),YP w h->(K w.params).In h)
  (F:∀(w:World) (mg:Str->Option Value) (fa:Addr) (h:Heap),(K w.params).In h->h.Ns z38 mg->mg d.name=some (.ref fa)->
   ∃fd:FuncData,(∀(s:Shared) (u:Value),BindsTo s fd ⟨[u],[]⟩ [(x,u)])/\
    ∀base:Heap,(K w.params).In base->base.Ns z38 mg->Qeh l.prog w (K w.params) mg base (CX w) k fa fd [x] (sp w))
  (hsp:∀(w:World) (H:Hp) (a:Addr) (ns:List Int),ns.length<=n->Only H->SqL (K w.params) H a (ns.map V.int)->sp w [.ref a] H (fun v _=>v=.bl true) fun _ _ _=>False)
  (hCX:∀(w:World) (H:Hp) (s:Shared) (e:Value) (s':Shared),CX w [] H s (fun _ _ _=>False) e s'->False) :
  PySem.W.WalkO q loose XP YP l.row.toRowW d [] (fun f vs=>zw2 f vs):=by
 refine Att.QgN hn hdf fun w s₀ s₁ mg mb fa o pm cd doc a vs ns G Y ho hd hcd hmg hobj hints hlen hg=>?_
 have KX:=hY w _ Y
 obtain⟨fd,hb,hF⟩:=F w mg fa _ KX G.T.g hmg
 exact QlV KX G.T.g G.T.b G.T.builtins G.T.nolimit hg hobj hints (z65 hlen hn2) hr hF hb (fun H hO hS=>hsp w H a ns hlen hO hS) fun H e s'=>hCX w H s₁ e s'
def inClass (s:Stmt)(j:Nat):Stmt:=match s with
 |.ClassDef _ _ _ body _ _ _ _ _ _ _=>body.getD j (.Pass ⟨0,0,0,0⟩)
 |_=>.Pass ⟨0,0,0,0⟩
def Qcl (s:Stmt):Arguments:=match s with
 |.FunctionDef _ a _ _ _ _ _ _ _ _=>a
 |_=>{ posonlyargs:=[],args:=[],vararg:=none,kwonlyargs:=[],kw_defaults:=[],kwarg:=none,defaults:=[]}
def Y5 (s:Stmt):List Stmt:=match s with
 |.FunctionDef _ _ b _ _ _ _ _ _ _=>b
 |_=>[]
def QL (s:Stmt):Scope:=match s with
 |.FunctionDef _ _ _ _ _ _ sc _ _ _=>sc
 |_=>{ kind:=.function,names:=[],isGenerator:=false,isCoroutine:=false }
abbrev CX0:CXT:=fun _ _ _ _ _ _=>False
structure Fun (K:z00)(x qual:Str)(st:Stmt)(f:Addr)(fd:FuncData):Prop where
 ex:∃(oc:Value) (od:Option Addr) (kV doc pm:Value) (an:Option Addr) (cdv ct:Value) (osl:Array (Option Value)),
  fd=ze4 x qual (Qcl st) (Y5 st) (QL st) .none kV doc pm an cdv ct/\K.lookup f=some ⟨oc,od,.func fd,osl⟩/\zp1 K cdv qual=true
 kp:zd9 K (.ref f)=true
section
variable {K:z00}
theorem Fun.binds {x qual:Str}{st:Stmt}{f:Addr}{fd:FuncData}{ps:List Str}(F:Fun K x qual st f fd)
  (h:∀(kV doc pm:Value) (an:Option Addr) (cdv ct:Value) (us:List Value),us.length=ps.length->bindArgs (ze4 x qual (Qcl st) (Y5 st) (QL st) .none kV doc pm an cdv ct) ⟨us,[]⟩=pure (ps.zip us)):Binds K fd ps []:=by
 obtain⟨oc,od,kV,doc,pm,an,cdv,ct,osl,rfl,lk,hcd⟩:=F.ex
 exact .all (h kV doc pm an cdv ct)
theorem QmW {x qual:Str}{st:Stmt}{f:Addr}{oc:Value}{od an:Option Addr}{osl:Array (Option Value)}{kV doc pm cdv ct:Value}(l:K.lookup f=some ⟨oc,od,.func (ze4 x qual (Qcl st) (Y5 st) (QL st) .none kV doc pm an cdv ct),osl⟩)
  (c:zp1 K cdv qual=true) (k:zd9 K (.ref f)=true):Fun K x qual st f (ze4 x qual (Qcl st) (Y5 st) (QL st) .none kV doc pm an cdv ct):=⟨⟨oc,od,kV,doc,pm,an,cdv,ct,osl,rfl,l,c⟩,k⟩
end
theorem QlW {A:Around}{k:Nat}(hr:Qag k A):A.units+1<cLine:=Nat.lt_of_le_of_lt (Nat.add_le_add_left (by decide:1<=64) _) hr.units
section
variable {X:Cx}
theorem pv (i:Nat){x:Str}{pos:Pos}(hN:X.N[i]? = some x:=by rfl)(hv:Vis X.env.scope x:=by first|exact z28 rfl|exact z57 @13|exact z57 (z57 rfl))(hd:@6=false:=by decide)
  (hcd:(x == ("__classdict__" : Str))=false:=by decide):PE X (.Name x pos) (QsX i):=Qan hN hv hd hcd
end
def Qu (H H':Hp):Prop:=∀b o,H b=some o->H' b=some o
theorem Qu.refl (H:Hp):Qu H H:=fun _ _ h=>h
theorem Qu.trans {H H1 H2:Hp}(a:Qu H H1)(b:Qu H1 H2):Qu H H2:=fun c o h=>b c o (a c o h)
theorem Qu.free {H H':Hp}(e:Qu H H'){l:Addr}(h:H' l=Option.none):H l=Option.none:=by
 cases q:H l with
 |none=>rfl
 |some o=>
  rw[e l o q] at h
  cases h
section
variable {κ:Type}[DecidableEq κ]
end
end L2
set_option maxHeartbeats 4000000
namespace L2
open PySem PySem.Spec PyProof.Rows
theorem QiP {α β:Type}{l:List α}{f:α->β->Sem (ForInStep β)}{g:α->β->β}(h:∀x∈l,∀c,f x c=pure (.yield (g x c))):∀c:β,forIn l c f=pure (l.foldl (fun c x=>g x c) c):=by
 induction l with
 |nil=>intro c;rfl
 |cons x l ih=>
  intro c
  rw[List.forIn_cons,h x z07,pure_bind]
  exact ih (fun y hy=>h y (z08 _ hy)) _
def QfR (cells:List (Str×Addr))(names:List (Str×NameKind)):List (Str×Addr):=
 names.foldl (fun c x=>if(x.2 == z41)=true then(x.1,(cells.lookup x.1).getD 0)::c else c) []
theorem QiQ {scope:Scope}{env:Env}(h:∀x∈scope.names,x.2=.free->∃c,env.cells.lookup x.1=some c):closureFor scope env=pure (QfR env.cells scope.names):=by
 simp only[closureFor]
 rw[QiP (g:=fun(x:Str×NameKind) c=>if(x.2 == z41)=true then(x.1,(env.cells.lookup x.1).getD 0)::c else c) (fun x hx c=>by
  obtain⟨n,kind⟩:=x
  by_cases hk:kind=.free
  ·subst hk
   obtain⟨a,ha⟩:=h _ hx rfl
   simp[cellOf,ha]
  ·have hb:(kind == z41)=false:=by simpa using hk
   simp only[hb,zd0,if_false])]
 rfl
theorem Qei {cells:List (Str×Addr)}:∀(names:List (Str×NameKind)) (acc:List (Str×Addr)),(∀x∈names,x.2=.free->∃c,cells.lookup x.1=some c)->(∀p∈acc,cells.lookup p.1=some p.2)->
  ∀p∈names.foldl (fun c (x:Str×NameKind)=>if(x.2 == z41)=true then(x.1,(cells.lookup x.1).getD 0)::c else c) acc,cells.lookup p.1=some p.2
 | [],_,_,ha=>ha
 |(n,k)::r,acc,h,ha=>by
  rw[zf1]
  refine Qei r _ (fun x hx=>h x (z08 _ hx)) ?_
  by_cases hk:k=.free
  ·subst hk
   obtain⟨a,e⟩:=h (n,.free) z07 rfl
   intro p hp
   simp only[beq_self_eq_true,if_true] at hp
   rcases z15.mp hp with rfl|hp
   ·show cells.lookup n=some ((cells.lookup n).getD 0)
    have e':cells.lookup n=some a:=e
    rw[e'];rfl
   ·exact ha p hp
  ·have hb:(k == z41)=false:=by simpa using hk
   simp only[hb,zd0,if_false]
   exact ha
theorem Qcm {cells:List (Str×Addr)}{y:Str}:∀(names:List (Str×NameKind)) (acc:List (Str×Addr)),((y,z41)∈names\/y∈acc.map (·.1))->
  y∈(names.foldl (fun c (x:Str×NameKind)=>if(x.2 == z41)=true then(x.1,(cells.lookup x.1).getD 0)::c else c) acc).map (·.1)
 | [],acc,h=>h.elim (fun z=>nomatch z) fun z=>z
 |(n,k)::r,acc,h=>by
  rw[zf1]
  refine Qcm r _ ?_
  rcases h with h|h
  ·rcases z15.mp h with e|h
   ·cases e
    refine .inr ?_
    simp
   ·exact .inl h
  ·refine .inr ?_
   split
   ·exact z08 _ h
   ·exact h
theorem Qcn {y:Str}:∀{l:List (Str×Addr)},y∈l.map (·.1)->∃c,l.lookup y=some c
 | [],h=>nomatch h
 |(n,a)::r,h=>by
  by_cases e:y=n
  ·subst e
   exact⟨a,by simp[z78]⟩
  ·have hb:(y == n)=false:=by simpa using e
   have hr:y∈r.map (·.1):=(z15.mp h).resolve_left e
   obtain⟨c,hc⟩:=Qcn hr
   exact⟨c,by rw[z78,hb];exact hc⟩
theorem Qao {env:Env}{y:Str}:∀{names:List (Str×NameKind)} {k:NameKind},(∀z∈names,z.2≠.cell)->
  (names.map fun(n,k)=>if(k == z41 && env.scope.kind == .function && env.kindOf n == some .cell) then(n,z93) else(n,k)).lookup y=some k->k=.cell\/k=.free->(y,z41)∈names
 | [],_,_,h,_=>by simp at h
 |(n,k0)::r,k,hc,h,hk=>by
  rw[z30] at h
  by_cases e:y=n
  ·subst e
   by_cases c:(k0 == z41 && env.scope.kind == .function && env.kindOf y == some .cell)=true
   ·have hf:k0=.free:=by
     have:=c
     simp only[z70] at this
     simpa using this.1.1
    subst hf
    exact z07
   ·have h':k0=k:=by
     rw[show(match (y,k0) with|(n,k)=>if(k == z41 && env.scope.kind == .function && env.kindOf n == some .cell)=true then(n,z93) else(n,k))=(y,k0) from if_neg c] at h
     simpa[z78] using h
    subst h'
    rcases hk with rfl|rfl
    ·exact absurd rfl (hc _ z07)
    ·exact z07
  ·have hb:(y == n)=false:=by simpa using e
   refine z08 _ (Qao (env:=env) (k:=k) (fun z hz=>hc z (z08 _ hz)) ?_ hk)
   by_cases c:(k0 == z41 && env.scope.kind == .function && env.kindOf n == some .cell)=true
   ·rw[show(match (n,k0) with|(n,k)=>if(k == z41 && env.scope.kind == .function && env.kindOf n == some .cell)=true then(n,z93) else(n,k))=(n,z93) from if_pos c,z78,hb] at h
    exact h
   ·rw[show(match (n,k0) with|(n,k)=>if(k == z41 && env.scope.kind == .function && env.kindOf n == some .cell)=true then(n,z93) else(n,k))=(n,k0) from if_neg c,z78,hb] at h
    exact h
theorem Qap {env:Env}{y:Str}:∀{names:List (Str×NameKind)},names.lookup y=some .free->
  (names.map fun(n,k)=>if(k == z41 && env.scope.kind == .function && env.kindOf n == some .cell) then(n,z93) else(n,k)).lookup y=some .cell\/
  (names.map fun(n,k)=>if(k == z41 && env.scope.kind == .function && env.kindOf n == some .cell) then(n,z93) else(n,k)).lookup y=some .free
 | [],h=>by simp at h
 |(n,k)::r,h=>by
  have ih:=@Qap env y r
  show ze6 y ((if(k == z41 && env.scope.kind == .function && env.kindOf n == some .cell)=true then(n,z93) else(n,k))::_)=_\/ze6 y ((if(k == z41 && env.scope.kind == .function && env.kindOf n == some .cell)=true then(n,z93) else(n,k))::_)=_
  cases hx:y == n with
  |true=>
   simp only[z78,hx] at h
   cases h
   by_cases hc:(z41 == z41 && env.scope.kind == .function && env.kindOf n == some .cell)=true
   ·rw[if_pos hc];simp[z78,hx]
   ·rw[if_neg hc];simp[z78,hx]
  |false=>
   simp only[z78,hx] at h
   by_cases hc:(k == z41 && env.scope.kind == .function && env.kindOf n == some .cell)=true
   ·rw[if_pos hc];simp only[z78,hx];exact ih h
   ·rw[if_neg hc];simp only[z78,hx];exact ih h
structure Blk (X:Cx)(scope:Scope)(N:List Str)(ix:List (Option Nat)):Prop where
 kind:scope.kind=.function
 Qhu:∀y∈scope.names,y.2≠.cell
 names:∀y∈scope.names,y.2=.local->scope.names.lookup y.1=some .local
 free:∀y∈scope.names,y.2=.free->X.env.kindOf y.1=some .cell\/X.env.kindOf y.1=some .free
 nd:N.Nodup
 len:ix.length=N.length
 slots:∀(j i:Nat) (y:Str),ix[j]? = some (some i)->N[j]? = some y->X.N[i]? = some y/\scope.names.lookup y=some .free
def Jw (ix:List (Option Nat))(σ:St):St:=ix.map fun o=>o.bind fun i=>(σ[i]?).join
def Cx.blk (X:Cx)(scope:Scope)(N:List Str)(pins:List @11)(C:Addr)(s:Shared)(H:Hp)(ex:List Addr):Cx:=
 { X with N:=N,s₀:=s,H₀:=H,env:=compEnvC scope (QfR X.env.cells scope.names) C X.env,outer:=X.stack,stack:=X.stack,ex:=ex,fn:=fun _=>false,pn:=X.pn++pins,xe:=fun _ _=>False }
def PIf (X:Cx)(ifs:List Expr)(t:TT):Prop:=
 ∀(pins:List @11) (s:Shared) (σ:St) (H:Hp) (Q:Bool->Hp->Prop),Inv X pins σ H s->t σ H Q->
  wpAny @4 X.A (forIn ifs true fun c r=>if r=true then do let ok ← isTrue c X.env (eval c X.env);pure (zi5 ok) else pure (zi5 r)) (TP X pins σ Q) X.xe s
def Qv1:TT:=fun _ H Q=>Q true H
theorem Qoc {X:Cx}:PIf X [] Qv1:=fun pins s σ H Q I h=>wpAny_tests_nil ⟨H,I,h⟩
theorem Qod {X:Cx}{c:Expr}{t:TT}(h:PT X c t):PIf X [c] t:=fun pins s σ H Q I q=>wpAny_tests_one (h pins s σ H Q I q)
theorem Qbq {prog:Program}{w:World}{A:Around}{R:Result->Shared->Prop}{s:Shared}{elt target iter:Expr}{ifs:List Expr}{scope:Scope}{pos:Pos}{it acc:Value}{env:Env}(I:Nat->Shared->Prop)
  (turn:∀n s,I n s->wpAny @15 A (pyNext it) (fun r s₁=>match r with
   |none=>R (.ok .next) s₁
   |some v=>wpAny @15 A (letOwnedTupleGo target it v) (fun _ s₀=>wpAny @15 A (assign target env v) (fun _ s₂=>
     wpAny @15 A (forIn ifs true fun c r=>if r=true then do let ok ← isTrue c env (eval c env);pure (zi5 ok) else pure (zi5 r)) (fun ok s₃=>
      if ok=true then wpAny @15 A (eval elt env) (fun x s₄=>
       wpAny @15 A (call (.builtin "list.append") [acc,x]) (fun _ s₅=>∃m,m<n/\I m s₅) (fun _ _=>False) s₄) (fun _ _=>False) s₃
      else ∃m,m<n/\I m s₃) (fun _ _=>False) s₂) (fun _ _=>False) s₀) (fun _ _=>False) s₁) (fun _ _=>False) s)
  (n:Nat) (h:I n s) :
  codeAny @15 A (.compLoop (.ListComp elt [⟨target,iter,ifs,0⟩] scope pos) 0 it acc env) R s:=by
 refine codeAny_loop rfl I (fun n s hI=>?_) n h
 show wpAny _ A ((compTurn (.ListComp elt [⟨target,iter,ifs,0⟩] scope pos) 0 it acc env).onRaise (fun x=>do noteFrame x env;theTreesLotGoes x)) _ _ s
 refine wpAny_noted ?_
 rw[compTurn_list]
 refine z13 (zv9 (z13 (zb0 (turn n s hI) (fun r s₁ h₁=>?_) fun _ _ h'=>h'.elim)))
 cases r with
 |none=>exact z33 h₁
 |some v=>
  refine z13 (zb0 h₁ (fun _ s₀ h₀=>?_) fun _ _ h'=>h'.elim)
  refine z13 (zb0 h₀ (fun _ s₂ h₂=>z13 (zb0 h₂ (fun ok s₃ h₃=>?_) fun _ _ h'=>h'.elim)) fun _ _ h'=>h'.elim)
  cases ok with
  |false=>exact z33 ⟨rfl,h₃⟩
  |true=>
   exact z13 (z13 (zb0 h₃ (fun x s₄ h₄=>z13 (zb0 h₄ (fun _ s₅ h₅=>z33 (z33 ⟨rfl,h₅⟩)) fun _ _ h'=>h'.elim)) fun _ _ h'=>h'.elim))
theorem HOk.track {P:Program}{w:World}{H:Hp}{h:Heap}{a:Addr}{o:HO}(x:HOk P w H h)(hn:H a=none)(new:JM P w (upd H a o) h a o):HOk P w (upd H a o) h:=fun b u e=>by
 by_cases hb:b=a
 ·subst hb;rw[Qs] at e;cases e;exact new
 ·rw[Qk hb] at e
  exact(x b u e).stay (fun c v _ q=>q) (fun c q=>by rw[Qk (Qx q hn)];exact q) fun c xs q=>by rw[Qk (Qx q hn)];exact q
theorem HOk.but {P:Program}{w:World}{H:Hp}{h h':Heap}{a:Addr}(x:HOk P w H h)(hn:H a=none)(sb:zf0 a h h'):HOk P w H h':=fun b u e=>by
 refine(x b u e).stay (fun c v hc q=>(sb.2 c ?_).trans q) (fun _ q=>q) fun _ _ q=>q
 rintro rfl
 rcases hc with rfl|hc
 ·rw[hn] at e;cases e
 ·rw[hn] at hc;cases hc
section
variable {X:Cx}
def Qd3 (i j:Int):Prop:=0<j/\j<115792089237316195423570985008687907853269984665640564039457584007913129639936
theorem QlX {j:Int}(h:Qd3 0 j):j.natAbs.log2<9000:=by
 have h1:(0:Int)<j:=h.1
 have h2:j<115792089237316195423570985008687907853269984665640564039457584007913129639936:=h.2
 have e:(2:Nat) ^ 256=115792089237316195423570985008687907853269984665640564039457584007913129639936:=by decide
 have h3:j.natAbs<2 ^ 256:=by rw[e];lia
 have h4:j.natAbs.log2<256:=(Nat.log2_lt @0).mpr h3
 lia
theorem QeV:OpR X (binaryOp .FloorDiv) (rI Qd3 fun i j=>.int (i / j)):=opI fun i j _ _ _ _ _ hc q=>by
 have h1:(0:Int)<j:=hc.1
 exact floordiv_int @0 (by rw[Int.fdiv_eq_ediv_of_nonneg i @0];exact q) (.inl (PyProof.noPylong_of_log2 (QlX ⟨hc.1,hc.2⟩)))
theorem Qej {pins:List @11}{σ:St}{H:Hp}{s:Shared}{x:V}{u t:Value}(I:Inv X pins σ H s)(rx:RelV x u)(ty:Qjl X.K H x t) :
  ∃Z:Heap->Prop,PySem.W.KitX X.K u t Z/\Z s.heap/\u≠.builtin "__main__.__loader__#opaque" := by
 cases ty with
 |non=>cases(show u=z39 from rx);exact⟨_,PySem.W.kitx_none,z54,fun z=>nomatch z⟩
 |bl y=>cases(show u=zm7 y from rx);exact⟨_,PySem.W.kitx_bool,z54,fun z=>nomatch z⟩
 |int i=>obtain⟨t,q⟩:=(show ∃t,u=z80 i t from rx);cases q;exact⟨_,PySem.W.kitx_int,z54,fun z=>nomatch z⟩
 |str y=>obtain⟨t,q⟩:=(show ∃t,u=zp0 y t from rx);cases q;exact⟨_,PySem.W.kitx_str,z54,fun z=>nomatch z⟩
 |flt y=>obtain⟨t,q⟩:=(show ∃t,u=zu3 y t from rx);cases q;exact⟨_,PySem.W.kitx_float,z54,fun z=>nomatch z⟩
 | @lst a xs ea=>
  cases(show u=z42 a from rx)
  obtain⟨_,_,n,_,h1⟩:=(show JM X.prog X.w H s.heap a (.lst xs) from I.hok a _ ea)
  exact⟨_,zl7,⟨_,h1,rfl⟩,fun z=>nomatch z⟩
 | @frz a ob xs ea=>
  cases(show u=z42 a from rx)
  obtain⟨_,_,_,n,_,h1⟩:=(show JM X.prog X.w H s.heap a (.frz ob (.lst xs)) from I.hok a _ ea)
  exact⟨_,zl7,⟨_,h1,rfl⟩,fun z=>nomatch z⟩
 | @tup a xs ea=>
  cases(show u=z42 a from rx)
  obtain⟨_,_,_,p⟩:=(show JM X.prog X.w H s.heap a (.tup xs) from I.hok a _ ea)
  obtain⟨o,h1,h2,_⟩:=p
  exact⟨_,zt6,⟨o,h1,h2⟩,fun z=>nomatch z⟩
 | @dK a kvs ea=>
  cases(show u=z42 a from rx)
  obtain⟨_,_,vs,_,p⟩:=(show JM X.prog X.w H s.heap a (.dK kvs) from I.hok a _ ea)
  obtain⟨o,es,ep,h1,h2,_⟩:=p
  exact⟨_,zu4,⟨o,h1,h2.1⟩,fun z=>nomatch z⟩
 | @dT a kvs ea=>
  cases(show u=z42 a from rx)
  obtain⟨_,_,xs,_,o,es,ep,h1,h2,_⟩:=(show JM X.prog X.w H s.heap a (.dT kvs) from I.hok a _ ea)
  exact⟨_,zu4,⟨o,h1,h2.1⟩,fun z=>nomatch z⟩
 | @ins a C dx fs ea cl ha hn htk hm=>
  cases(show u=z42 a from rx)
  obtain⟨mA,O,_⟩:=QeP I.hok ea
  obtain⟨od,J,_⟩:=O.look
  exact⟨_,PySem.W.kitx_own (cl.get _) cl.hd ha hn htk hm,J,fun z=>nomatch z⟩
theorem QjU:∀{cs:List String} {us:List Value},Vals (cs.map V.ty) us->us=cs.map Value.type
 | [],_,.nil=>rfl
 |c::cs,_,.cons r t=>by
  cases r
  rw[QjU t];rfl
theorem Paired.get {α β:Type}{F:α->β->Prop}:∀{l:List α} {m:List β} {i:Nat} {a:α},Paired F l m->l[i]? = some a->∃b,m[i]? = some b/\F a b
 |_,_,_,_,.nil,e=>by simp at e
 |_,_,0,_,.cons r _,e=>by simp at e;subst e;exact⟨_,rfl,r⟩
 |_,_,i+1,x,.cons _ t,e=>by
  obtain⟨u,h1,h2⟩:=Paired.get (i:=i) (a:=x) t (by simpa using e)
  exact⟨u,by simpa using h1,h2⟩
end
theorem Blk.of {X:Cx}{scope:Scope}{N:List Str}{ix:List (Option Nat)}(kind:scope.kind=.function:=by rfl)
  (c1:(scope.names.all fun y=>y.2 != z93)=true:=by rfl)
  (c2:(scope.names.all fun y=>y.2 != NameKind.local || scope.names.lookup y.1 == some NameKind.local)=true:=by rfl)
  (c3:(scope.names.all fun y=>y.2 != z41 || (X.env.scope.names.lookup y.1 == some z93 || X.env.scope.names.lookup y.1 == some z41))=true:=by rfl)
  (nd:N.Nodup:=by decide +kernel) (len:ix.length=N.length:=by rfl)
  (c4:((List.zip ix N).all fun p=>match p.1 with|none=>true|some i=>X.N[i]? == some p.2 && scope.names.lookup p.2 == some z41)=true:=by rfl):Blk X scope N ix where
 kind:=kind
 Qhu:=fun y hy e=>by
  have q:=z69.mp c1 y hy
  rw[e] at q
  exact absurd q @1
 names:=fun y hy e=>by
  have q:=z69.mp c2 y hy
  rw[e] at q
  exact beq_iff_eq.mp (by simpa using q)
 free:=fun y hy e=>by
  have q:=z69.mp c3 y hy
  rw[e] at q
  have q':(X.env.scope.names.lookup y.1 == some z93 || X.env.scope.names.lookup y.1 == some z41)=true:=by simpa using q
  rcases zv8.mp q' with z|z
  ·exact .inl (beq_iff_eq.mp z)
  ·exact .inr (beq_iff_eq.mp z)
 nd:=nd
 len:=len
 slots:=fun j i y h1 h2=>by
  have hm:(some i,y)∈List.zip ix N:=by
   have e:(List.zip ix N)[j]? = some (some i,y):=by rw[List.getElem?_zip_eq_some];exact⟨h1,h2⟩
   exact z59 e
  have q:=z69.mp c4 _ hm
  have q':(X.N[i]? == some y && scope.names.lookup y == some z41)=true:=q
  obtain⟨z1,z2⟩:=z66.mp q'
  exact⟨beq_iff_eq.mp z1,beq_iff_eq.mp z2⟩
def sq:Bool->List V->HO
 |true,xs=>.lst xs
 |false,xs=>.tup xs
def SqB (kd:Bool)(K:z00)(H:Hp)(a:Addr)(xs:List V):Prop:=match kd with
 |true=>SqL K H a xs
 |false=>SqT K H a xs
def Itb (kd:Bool)(K:z00)(a:Addr):It:=match kd with
 |true=>Itl K a
 |false=>Itt K a
theorem SqB.of {kd:Bool}{K:z00}{H:Hp}{a:Addr}{xs:List V}(h:H a=some (sq kd xs)):SqB kd K H a xs:=by
 cases kd with
 |true=>exact SqL.of h
 |false=>exact SqT.of h
def Qv2 (K:z00)(tl:TE):TI:=fun σ H R=>tl σ H fun x H1=>∃a kd,x=.ref a/\(∃xs,SqB kd K H1 a xs)/\R (Itb kd K a) H1
theorem Qqt {X:Cx}{tg l:Expr}{tl:TE}(hl:PE X l tl):PI X tg l (Qv2 X.K tl):=by
 intro pins s σ H R I h
 refine thn (hl pins s σ H _ I h) fun v s1 hz=>?_
 obtain⟨x,H1,I1,r1,q1⟩:=hz
 obtain⟨a,kd,e,⟨xs,hq⟩,q⟩:=q1
 subst e
 cases r1
 cases kd with
 |true=>
  obtain⟨its,rv,p,hz⟩:=I1.list (show SqL X.K H1 a xs from hq)
  refine wpAny_pyIter_list p.isList ?_
  refine⟨s1.heap.objs.size,[s1.heap.objs.size],_,_,H1,rfl,I1.kept (t':=s1.toks) fun b o e=>z19 _ e,Qjv a _,⟨_,z45 _ rfl,rfl,rfl⟩,fun b hb=>?_,q⟩
  have e:b=s1.heap.objs.size:=by simpa using hb
  subst e
  exact I1.Qp6 (z24 _) (I1.hok.fresh (z24 _))
 |false=>
  obtain⟨its,rv,p,hz⟩:=I1.tuple (show SqT X.K H1 a xs from hq)
  refine zi6 (show s1.heap.IsTuple a its.toArray from p) ?_
  refine⟨s1.heap.objs.size,[s1.heap.objs.size],_,_,H1,rfl,I1.kept (t':=s1.toks) fun b o e=>z19 _ e,QiF a _,⟨_,z45 _ rfl,rfl,rfl⟩,fun b hb=>?_,q⟩
  have e:b=s1.heap.objs.size:=by simpa using hb
  subst e
  exact I1.Qp6 (z24 _) (I1.hok.fresh (z24 _))
theorem Qu.upd {H:Hp}{a:Addr}{o:HO}(h:H a=none):Qu H (upd H a o):=fun b u e=>by rw[Qk (Qx e h)];exact e
structure ExcAt (s:Shared)(H:Hp)(h:Heap)(e:Addr)(cv:Value):Prop where
 new:s.heap.get? e=none
 free:H e=none
 tr:∃oe vs a0 T oT ts,h.get? e=some oe/\oe.cls=cv/\vs[0]? = some a0/\oe.data=.fields vs/\vs[1]? = some (.ref T)/\T≠e/\s.heap.get? T=none/\H T=none/\h.get? T=some oT/\oT.data=.fields ts/\ts[3]? = some .none
def CXe (P:Program)(w:World):CXT:=fun outer H s E ev s'=>∃e cv H',ev=.ref e/\s'.os=s.os/\AllBare s'.gens/\Un (frs outer) [] H H' s.heap s'.heap/\HOk P w H' s'.heap/\ExcAt s H' s'.heap e cv/\E cv none H'
structure Qco (X:Cx):Prop where
 stk:X.stack=X.env::X.outer
 fr:X.env.frame=some X.env.locals
 ex:X.ex=[]
section
variable {X:Cx}{pins:List @11}{σ:St}{H:Hp}{s:Shared}
theorem Inv.frames (I:Inv X pins σ H s):∀b∈frs X.stack,∃o,s.heap.get? b=some o/\∀vs,o.data≠.fields vs:=fun b hb=>(I.stack.mem hb).2
theorem Qoe {l:List Env}:∀env∈l,∀a,env.frame=some a->a∈frs l:=fun env he a hf=>zm2.mpr ⟨env,he,hf⟩
structure Flew (X:Cx)(extra:List Addr)(h h':Heap):Prop where
 keep:∀b o,h.get? b=some o->b∉frs X.stack->b∉extra->h'.get? b=some o
 slot:∀b o,h.get? b=some o->b∈frs X.stack->∃sl,h'.get? b=some { o with slots:=sl }
theorem Inv.baseOf {h':Heap}{extra:List Addr}(I:Inv X pins σ H s)(hs:∀b∈frs X.stack,b=X.env.locals\/b∈X.fs)(hx:∀b∈extra,X.s₀.heap.get? b=none)(f:Flew X extra s.heap h')(hfs:∀b∈X.fs,b∈frs X.stack) :
  Un X.fs X.ex X.H₀ H X.s₀.heap h':=by
 have nx:∀b o,X.s₀.heap.get? b=some o->b∉extra:=fun b o e z=>by rw[hx b z] at e;cases e
 have nl:∀b o,X.s₀.heap.get? b=some o->b∉X.fs->b∉frs X.stack:=fun b o e n z=>by
  rcases hs b z with q|q
  ·exact absurd (z37 (z31 e) I.ok.above) (by rw[q];exact zc6 _)
  ·exact n q
 refine⟨fun b o e n hb hx'=>f.keep b o (I.base.keep b o e n hb hx') (nl b o e hb) (nx b o e),fun b o e n hb hx'=>?_,I.base.free,fun b o e hx'=>?_,I.base.tups,I.base.QiD,I.base.Qjk⟩
 ·obtain⟨sl,q⟩:=I.base.slot b o e n hb hx'
  obtain⟨sl',q'⟩:=f.slot b _ q (hfs b hb)
  exact⟨sl',q'⟩
 ·obtain⟨o',q⟩:=I.base.there b o e hx'
  by_cases hb:b∈frs X.stack
  ·obtain⟨sl,q'⟩:=f.slot b o' q hb
   exact⟨_,q'⟩
  ·exact⟨o',f.keep b o' q hb (nx b o e)⟩
theorem Inv.Qqu {h':Heap}{extra:List Addr}(I:Inv X pins σ H s)(hx:∀b∈extra,H b=none)(f:Flew X extra s.heap h'):HOk X.prog X.w H h':=fun a o e=>by
 have Qqv:∀b u,(∃z,H b=some z)->s.heap.get? b=some u->h'.get? b=some u:=fun b u ⟨z,hz⟩ q=>f.keep b u q (fun m=>by rw[I.QgG b m] at hz;cases hz) fun m=>by rw[hx b m] at hz;cases hz
 refine(I.hok a o e).stay (fun b u hb q=>Qqv b u ?_ q) (fun _ q=>q) fun _ _ q=>q
 rcases hb with rfl|hb
 ·exact⟨_,e⟩
 ·exact⟨_,hb⟩
theorem Qco.Qhv (d:Qco X)(b:Addr)(hb:b∈frs X.stack):b=X.env.locals\/b∈X.fs:=by
 rw[d.stk] at hb
 unfold frs at hb
 rw[zc4,d.fr] at hb
 exact z15.mp hb
theorem Qco.Qof (d:Qco X)(b:Addr)(hb:b∈X.fs):b∈frs X.stack:=by
 rw[d.stk]
 unfold frs
 rw[zc4,d.fr]
 exact z08 _ hb
theorem Inv.flew {h':Heap}{extra:List Addr}(d:Qco X)(I:Inv X pins σ H s)
  (x1:∀b∈extra,X.s₀.heap.get? b=none) (x2:∀b∈extra,H b=none) (x3:∀b∈extra,b≠X.env.locals) (x4:∀b∈extra,∀y c,X.env.cells.lookup y=some c->c≠b) (x5:∀b∈extra,∀p∈X.pn++pins,p.1≠b)
  (f:Flew X extra s.heap h'):Inv X pins σ H { s with heap:=h' }:=by
 have one:∀b o,s.heap.get? b=some o->b∉extra->∃sl,h'.get? b=some { o with slots:=sl }:=fun b o e n=>by
  by_cases hb:b∈frs X.stack
  ·exact f.slot b o e hb
  ·exact⟨o.slots,f.keep b o e hb n⟩
 have cellK:∀y c,X.env.cells.lookup y=some c->∀v,s.heap.IsCell c v->Heap.IsCell h' c v:=fun y c e v ⟨o,ho,hd⟩=>by
  obtain⟨sl,q⟩:=one c o ho fun z=>x4 c z y c e rfl
  exact⟨_,q,hd⟩
 refine⟨I.ok,I.os,I.bare,I.baseOf d.Qhv x1 f d.Qof,?_,fun y c e=>?_,I.free,I.Qa7,fun p hp=>?_,I.Qqu x2 f,I.len⟩
 ·obtain⟨m,⟨o,es,ep,ho,r⟩,hl⟩:=I.loc
  obtain⟨sl,q⟩:=one _ o ho fun z=>x3 _ z rfl
  refine⟨m,⟨_,es,ep,q,r⟩,fun i y v e1 e2 e3=>?_⟩
  obtain⟨u,ru,l⟩:=hl i y v e1 e2 e3
  refine⟨u,ru,?_⟩
  rcases l with l|⟨k,c,e,z⟩
  ·exact .inl l
  ·exact .inr ⟨k,c,e,cellK y c e _ z⟩
 ·obtain⟨v,z⟩:=I.cell y c e
  exact⟨v,cellK y c e v z⟩
 ·obtain⟨p1,p2,p3,p4,p5⟩:=I.pin p hp
  exact⟨f.keep _ _ p1 (fun z=>(z15.mp (I.Qed p.1 z)).elim p3 p4) fun z=>x5 _ z p hp rfl,p2,p3,p4,p5⟩
def Qjm (X:Cx)(extra:List Addr)(h:Heap):Heap:=zw3 h (frs X.stack++extra)
theorem Qcp {extra:List Addr}{h:Heap}:(Qjm X extra h).StaysIn h:=fun b o e=>zt5 _ e
theorem Qbr {extra:List Addr}(I:Inv X pins σ H s):s.heap.FunFrames (Qjm X extra s.heap) X.stack:=PySem.W.funFrames_hide I.stack fun env he a hf=>z06 _ (Qoe env he a hf)
theorem QbQ {extra:List Addr}{h:Heap}{b:Addr}(hb:b∈extra):(Qjm X extra h).get? b=none:=zs5 _ (z02 _ hb)
theorem QgO {extra:List Addr}{h':Heap}(I:Inv X pins σ H s)(k:(Qjm X extra s.heap).StaysIn h')(u:s.heap.UpToSlots h'):Flew X extra s.heap h':=by
 refine⟨fun b o e n1 n2=>k b o (zk0 _ e fun z=>(z05.mp z).elim n1 n2),fun b o e hb=>?_⟩
 obtain⟨o',e',hd⟩:=I.frames b hb
 rw[e] at e';cases e'
 exact u b o e hd
theorem Inv.there {T:Addr}{o:HO}(I:Inv X pins σ H s)(q:H T=some o):∃ob,s.heap.get? T=some ob:=by
 have z:=I.hok T o q
 cases o with
 |lst xs=>obtain⟨_,_,_,_,e⟩:=z;exact⟨_,e⟩
 |tup xs=>obtain⟨_,_,_,ob,e,_⟩:=z;exact⟨_,e⟩
 |dK kvs=>obtain⟨_,_,_,_,ob,_,_,e,_⟩:=z;exact⟨_,e⟩
 |dT kvs=>obtain⟨_,_,_,_,ob,_,_,e,_⟩:=z;exact⟨_,e⟩
 |set S n=>obtain⟨ob,_,_,_,e,_⟩:=z;exact⟨_,e⟩
 |ins C dx fs=>obtain⟨_,_,_,e,_⟩:=z;exact⟨_,e⟩
 |own y=>obtain⟨_,e⟩:=z;exact⟨_,e⟩
 |xd fs=>obtain⟨_,⟨_,_,_,e,_⟩,_⟩:=z;exact⟨_,e⟩
 |rng lo hi=>obtain⟨_,_,_,e⟩:=z;exact⟨_,e⟩
 |frz ob u=>obtain⟨e,_⟩:=z;exact⟨_,e⟩
 |tbl ps=>exact⟨_,(show s.heap.get? T=some _ from z)⟩
 |met f y=>exact⟨_,(show s.heap.get? T=some _ from z)⟩
 |ext φ=>obtain⟨_,⟨_,e⟩,_⟩:=z;exact⟨_,e⟩
theorem Inv.Qqw {T:Addr}(I:Inv X pins σ H s)(h:s.heap.get? T=none):H T=none:=by
 cases q:H T with
 |none=>rfl
 |some o=>
  obtain⟨ob,q'⟩:=I.there q
  rw[h] at q';cases q'
theorem Qqx {extra:List Addr}{h':Heap}{T:Addr}{oT:Obj}{ts:Array Value}(I:Inv X pins σ H s)(hex:X.ex=[])(x1:∀b∈extra,X.s₀.heap.get? b=none)(x2:∀b∈extra,H b=none)(f:Flew X extra s.heap h')
  (hB:(Qjm X extra s.heap).get? T=none) (hT:h'.get? T=some oT) (hd:oT.data=.fields ts):X.s₀.heap.get? T=none/\H T=none:=by
 have nf:T∉frs X.stack:=fun z=>by
  obtain⟨o,e,nd⟩:=I.frames T z
  obtain⟨sl,q⟩:=f.slot T o e z
  rw[hT] at q;cases q
  exact nd ts hd
 have key:T∈extra\/s.heap.get? T=none:=by
  by_cases hm:T∈extra
  ·exact .inl hm
  ·refine .inr ?_
   cases e:s.heap.get? T with
   |none=>rfl
   |some o=>
    have q:(Qjm X extra s.heap).get? T=some o:=zk0 _ e fun z=>(z05.mp z).elim nf hm
    rw[hB] at q;cases q
 rcases key with m|e
 ·exact⟨x1 T m,x2 T m⟩
 ·refine⟨?_,?_⟩
  ·cases q:X.s₀.heap.get? T with
   |none=>rfl
   |some o=>
    obtain⟨o',q'⟩:=I.base.there T o q (by rw[hex];simp)
    rw[e] at q';cases q'
  ·cases q:H T with
   |none=>rfl
   |some o=>
    obtain⟨ob,q'⟩:=I.there q
    rw[e] at q';cases q'
theorem QmX {h':Heap}{extra:List Addr}{e:Addr}{cv:Value}{E:XK}(d:Qco X)(I:Inv X pins σ H s)(x1:∀b∈extra,X.s₀.heap.get? b=none)(x2:∀b∈extra,H b=none)(f:Flew X extra s.heap h')(x:ExcAt X.s₀ H h' e cv)(k:E cv none H) :
  CXe X.prog X.w X.outer X.H₀ X.s₀ E (.ref e) { s with heap:=h' }:=by
 have u:=I.baseOf d.Qhv x1 f d.Qof
 rw[d.ex] at u
 exact⟨e,cv,H,rfl,I.os,I.bare,u,I.Qqu x2 f,x,k⟩
theorem Inv.old (I:Inv X pins σ H s)(hex:X.ex=[]){b:Addr}(h:s.heap.get? b=none):X.s₀.heap.get? b=none:=by
 cases q:X.s₀.heap.get? b with
 |none=>rfl
 |some o=>
  obtain⟨o',q'⟩:=I.base.there b o q (by rw[hex];simp)
  rw[h] at q';cases q'
theorem Qqy {B h':Heap}{l:List Env}{e:Addr}{cv a0:Value}{extra:List Addr}(I:Inv X pins σ H s)(hex:X.ex=[])(x1:∀b∈extra,X.s₀.heap.get? b=none)(x2:∀b∈extra,H b=none)(f:Flew X extra s.heap h')
  (fl:zn8 (Qjm X extra s.heap) l e cv a0 h') (e1:X.s₀.heap.get? e=none) (e2:H e=none):ExcAt X.s₀ H h' e cv:=by
 obtain⟨_,_,_,oe,vs,T,oT,ts,he,⟨hc,h0⟩,hd,h1,hB,hTe,hT,hdT,h3⟩:=fl
 obtain⟨n1,n2⟩:=Qqx I hex x1 x2 f hB hT hdT
 exact⟨e1,e2,oe,vs,a0,T,oT,ts,he,hc,h0,hd,h1,hTe,n1,n2,hT,hdT,h3⟩
theorem QiR {h1:Heap}{e:Addr}{cv:Value}{args:List Value}{E:XK}{E1:Value->Shared->Prop}(d:Qco X)(I:Inv X pins σ H s)(m:Heap.MadeExcOf s.heap h1 e cv args)(k:E cv none H) :
  wpAny @4 X.A (leaving X.env (.ref e)) (fun _ s2=>CXe X.prog X.w X.outer X.H₀ X.s₀ E (.ref e) s2) E1 { s with heap:=h1 }:=by
 have fr:X.A.frames=some (X.env::X.outer):=by rw[I.ok.frames,d.stk]
 have hl:s.heap.FunFrames (Qjm X [] s.heap) (X.env::X.outer):=by rw[← d.stk];exact Qbr I
 refine wpAny_leaves_madeW (h:=s.heap) fr d.fr Qcp hl m fun h' t fl _ _ up=>?_
 have f:Flew X [] s.heap h':=QgO I fl.1 ((Heap.UpToSlots.of_keeps m.keeps).trans up)
 have no:∀{Pr:Addr->Prop},∀b∈([]:List Addr),Pr b:=fun b z=>absurd z @9
 exact QmX (s:=s) (extra:=[]) d I no no f (Qqy (B:=s.heap) I d.ex no no f fl (I.old d.ex m.new) (I.Qqw m.new)) k
theorem QlY {e:Addr}{cv:Value}{E:XK}{E1:Value->Shared->Prop}(d:Qco X)(I:Inv X pins σ H s)(x:ExcAt X.s₀ H s.heap e cv)(k:E cv none H) :
  wpAny @4 X.A (leaving X.env (.ref e)) (fun _ s2=>CXe X.prog X.w X.outer X.H₀ X.s₀ E (.ref e) s2) E1 s:=by
 obtain⟨e1,e2,oe,vs,a0,T,oT,ts,he,hc,h0,hd,h1,hTe,n1,n2,hT,hdT,h3⟩:=x
 have fr:X.A.frames=some (X.env::X.outer):=by rw[I.ok.frames,d.stk]
 have x1:∀b∈[e,T],X.s₀.heap.get? b=none:=fun b hb=>by
  rcases z15.mp hb with rfl|hb
  ·exact e1
  ·rw[z26.mp hb];exact n1
 have x2:∀b∈[e,T],H b=none:=fun b hb=>by
  rcases z15.mp hb with rfl|hb
  ·exact e2
  ·rw[z26.mp hb];exact n2
 have fly:zn8 (Qjm X [e,T] s.heap) (X.env::X.outer) e cv a0 s.heap:=
  ⟨Qcp,QbQ @9,by rw[← d.stk];exact Qbr I,oe,vs,T,oT,ts,he,⟨hc,h0⟩,hd,h1,QbQ @9,hTe,hT,hdT,h3⟩
 refine wpAny_leaves_onW fr d.fr fly fun h' fl up=>?_
 have f:Flew X [e,T] s.heap h':=QgO I fl.1 up
 exact QmX (s:=s) d I x1 x2 f (Qqy (B:=s.heap) I d.ex x1 x2 f fl e1 e2) k
theorem Inv.raised {e:Value}{E:XK}{s':Shared}(I:Inv X pins σ H s)(h:CXe X.prog X.w X.stack H s E e s'):∃ea cv H',e=.ref ea/\Inv X pins σ H' s'/\ExcAt s H' s'.heap ea cv/\E cv none H':=by
 obtain⟨ea,cv,H',rfl,os,bare,un,hok,x,k⟩:=h
 exact⟨ea,cv,H',rfl,I.call' (ch:=[]) os un hok bare (fun b z=>absurd z @9),x,k⟩
theorem ExcAt.older {s':Shared}{h:Heap}{e:Addr}{cv:Value}(x:ExcAt s H h e cv)(k:∀b,s.heap.get? b=none->s'.heap.get? b=none):ExcAt s' H h e cv:=by
 obtain⟨e1,e2,oe,vs,a0,T,oT,ts,he,hc,h0,hd,h1,hTe,n1,n2,r⟩:=x
 exact⟨k _ e1,e2,oe,vs,a0,T,oT,ts,he,hc,h0,hd,h1,hTe,k _ n1,n2,r⟩
end
section
variable {CX:CXT}{P:Program}{w:World}{K:z00}{mg:Str->Option Value}{base:Heap}{N:List Str}{qual:Str}{scope:Scope}{f:Addr}{cd:Value}{A:Around}{outer:List Env}{s:Shared}{H:Hp}{E:XK}
theorem QeW:Qco (Qci CX P w K mg base N qual scope f cd A outer s H E):=⟨rfl,rfl,rfl⟩
theorem Qty:Passes (CXe P w) @21 E:=fun pins σ H1 s1 e s' I h=>by
 obtain⟨ea,cv,H',rfl,I',x,k⟩:=I.raised h
 exact QlY QeW I' (x.older fun b z=>I.old rfl z) k
theorem Qu7:PassesOwn (model P w) (A.deeper (envOfC qual scope s.heap.objs.size f cd)) (envOfC qual scope s.heap.objs.size f cd) (Qci (CXe P w) P w K mg base N qual scope f cd A outer s H E).xe:=PassesOwn.leaving
theorem QjV {h:Heap}{C:Addr}{bmB:List Value}{newId:String}(X:K.In h)(q:zd1 K C bmB newId=true) :
  ∃bm N nm qn bs hdc sn sub ab col dd k0 k1 k2 k3 k5 mN,h.get? C=some (excClassObj nm qn C N bs bm hdc sn sub ab col dd k0 k1 k2 k3 k5 newId)/\h.Ns N mN/\mN "__init__" = none/\OwnTail h bmB bm:=by
 unfold zd1 at q
 split at q
 ·next dd cd sl ho=>
  split at q
  ·next C' bm k0 k1 k2 k3 n k5 hm hs=>
   rw[z70,z70,z70,z70,z70] at q
   obtain⟨⟨⟨⟨⟨q1,q2⟩,q3⟩,q4⟩,q5⟩,q6⟩:=q
   have r1:=beq_iff_eq.mp q1
   have r2:=beq_iff_eq.mp q2
   have r6:=beq_iff_eq.mp q6
   subst r1 r2
   obtain⟨nm,bs,mro,ns,qn,hdc,sn,sub,ab,col,del⟩:=cd
   have r3:del=false:=by simpa using q3
   have r7:mro=.ref C'::bm:=hm
   subst r3 r7
   obtain⟨ls⟩:=sl
   have r8:ls=[k0,k1,k2,k3,some (.builtin n),k5]:=hs
   subst r8
   exact⟨bm,ns,nm,qn,bs,hdc,sn,sub,ab,col,dd,k0,k1,k2,k3,k5,_,X _ _ ho,.of_isNs (PySem.W.isNs_of_in X q5),PySem.W.nsMap_none_of_in X q5 r6,PySem.W.tail_of_in X q4⟩
  ·cases q
 ·cases q
def Qqz (C:Addr)(E:XK)(ta:TA):TS:=fun _ σ H=>ta σ H fun vs H1=>vs.length<=z17/\E (.ref C) none H1
abbrev bmV:List Value:=[.type "ValueError",.type "Exception",.type "BaseException",.type "object"]
theorem QlZ {x:Str}{np cpos pos:Pos}{e:Expr}{es:List Expr}{ta:TA}{C:Addr}(hr:A.handled=none)(hx:zd1 K C bmV "ValueError.__new__" = true)
  (hg:Gl @21 x) (hm:mg x=some (.ref C)) (ha:PA @21 (e::es) ta)
  (hdb:@6=false:=by decide) (hs:starEach (e::es) (Qci (CXe P w) P w K mg base N qual scope f cd A outer s H E).env=(false,eval e (Qci (CXe P w) P w K mg base N qual scope f cd A outer s H E).env)::starEach es (Qci (CXe P w) P w K mg base N qual scope f cd A outer s H E).env:=by rfl)
  (hpl:(backTo cpos (starEach (e::es) (Qci (CXe P w) P w K mg base N qual scope f cd A outer s H E).env)).any (·.1)=false:=by rfl) :
  PS @21 (.Raise (some (.Call (.Name x np) (e::es) [] cpos)) none pos) (Qqz C E ta):=by
 intro pins s1 σ H1 D I h
 obtain⟨bm,N',nm,qn,bs,hdc,sn,sub,ab,col,dd,k0,k1,k2,k3,k5,mN,hC,hN,hni,TL⟩:=QjV I.mod.kin hx
 have hb:bm.contains (.type "BaseException")=true:=TL.hasType (by decide +kernel)
 refine wpAny_Raise_call_subT (nm:=nm) (q:=qn) (N:=N') (bs:=bs) (hdct:=hdc) (sn:=sn) (sub:=sub) (ab:=ab) (col:=col) (dd:=dd) (k0:=k0) (k1:=k1) (k2:=k2) (k3:=k3) (k5:=k5) PySem.F.excBase_ValueError hb hr hpl hni (Qdb I hg hm ⟨rfl,?_⟩ hdb)
 have hA:=ha cpos pins s1 σ H1 _ I h
 rw[hs] at hA ⊢
 refine zk5 (thn hA fun us s2 hz=>?_)
 obtain⟨vs,H2,I2,r2,hz,k⟩:=hz
 refine⟨rfl,by rw[← r2.length];exact hz,I2.bk _ _ hC,hN.keeps I2.bk,TL.keeps I2.bk,fun h' ea m=>?_⟩
 exact QiR QeW I2 m k
end
theorem Fun.okE {P:Program}{w:World}{K:z00}{mg:Str->Option Value}{base:Heap}{x qual:Str}{st:Stmt}{f:Addr}{fd:FuncData}{N ps:List Str}{k:Nat}{sp:Sp}(F:Fun K x qual st f fd)(S:Qbp N ps (QL st))(len:∀vs H Q E,sp vs H Q E->vs.length=ps.length)
  (hbody:∀(cdv:Value) (A:Around) (outer:List Env) (s:Shared) (H:Hp) (vs:List V) (Q:VK) (E:XK),Qag k (A.deeper (envOfC qual (QL st) s.heap.objs.size f cdv))->A.handled=none->sp vs H Q E->
   ∃t,PSs (Qci (CXe P w) P w K mg base N qual (QL st) f cdv A outer s H E) (Y5 st) t/\t { nx:=fun _ H'=>Q .non H',rt:=Q } (start N vs) H):Qeh P w K mg base (CXe P w) (k+1) f fd ps sp:=by
 obtain⟨oc,od,kV,doc,pm,an,cdv,ct,osl,rfl,lk,hcd⟩:=F.ex
 exact Qtr lk hcd S len fun A outer s H vs Q E hr hsp=>hbody cdv A outer s H vs Q E hr hr.hd hsp
def Cx.sui (X:Cx)(ev:Value):Cx:={ X with A:=X.A.mark (some ev),calm:=false,xe:=fun _ _=>False }
def Cx.Qog (X:Cx)(hs:List ExceptHandler)(pins:List @11)(D:Ends):Cx:=
 { X with pn:=X.pn++pins,xe:=fun e s₁=>wpAny @4 X.A (noteFrame e X.env) (fun _ s₂=>wpAny @4 X.A (setFlight e none) (fun _ s₃=>wpAny @4 X.A (handleBy e X.env hs) (SP X pins D) X.xe s₃) X.xe s₂) X.xe s₁ }
section
variable {X:Cx}{hs:List ExceptHandler}{pins QiE:List @11}{σ:St}{H:Hp}{s:Shared}{D:Ends}
theorem Inv.into (I:Inv X pins σ H s):Inv (X.Qog hs pins D) [] σ H s:=
 ⟨⟨I.ok.mod,I.ok.kind,I.ok.glob,I.ok.blt,I.ok.above,I.ok.inj,I.ok.has,I.ok.cab,I.ok.hd,I.ok.frames,I.ok.stk,I.ok.exf,I.ok.bs,I.ok.bsz,I.ok.QnH,I.ok.QnI,I.ok.Qhn,I.ok.frf⟩,I.os,I.bare,I.base,I.loc,I.cell,I.free,I.Qa7,fun p hp=>I.pin p (by have z:p∈(X.pn++pins)++[]:=hp;rw[z52] at z;exact z),I.hok,I.len⟩
theorem Inv.QiS (I:Inv (X.Qog hs pins D) QiE σ H s):Inv X pins σ H s:=
 ⟨⟨I.ok.mod,I.ok.kind,I.ok.glob,I.ok.blt,I.ok.above,I.ok.inj,I.ok.has,I.ok.cab,I.ok.hd,I.ok.frames,I.ok.stk,I.ok.exf,I.ok.bs,I.ok.bsz,I.ok.QnH,I.ok.QnI,I.ok.Qhn,I.ok.frf⟩,I.os,I.bare,I.base,I.loc,I.cell,I.free,I.Qa7,fun p hp=>I.pin p (z06 _ hp),I.hok,I.len⟩
theorem Inv.QqA {ev:Value}(I:Inv X pins σ H s):Inv (X.sui ev) pins σ H s:=
 ⟨⟨I.ok.mod,I.ok.kind,I.ok.glob,I.ok.blt,I.ok.above,I.ok.inj,I.ok.has,I.ok.cab,fun z=>absurd (show false=true from z) z29,I.ok.frames,I.ok.stk,I.ok.exf,I.ok.bs,I.ok.bsz,I.ok.QnH,I.ok.QnI,I.ok.Qhn,I.ok.frf⟩,I.os,I.bare,I.base,I.loc,I.cell,I.free,I.Qa7,I.pin,I.hok,I.len⟩
theorem Inv.Qhw {ev:Value}(hd:X.calm=true->X.A.handled=none)(I:Inv (X.sui ev) pins σ H s):Inv X pins σ H s:=
 ⟨⟨I.ok.mod,I.ok.kind,I.ok.glob,I.ok.blt,I.ok.above,I.ok.inj,I.ok.has,I.ok.cab,hd,I.ok.frames,I.ok.stk,I.ok.exf,I.ok.bs,I.ok.bsz,I.ok.QnH,I.ok.QnI,I.ok.Qhn,I.ok.frf⟩,I.os,I.bare,I.base,I.loc,I.cell,I.free,I.Qa7,I.pin,I.hok,I.len⟩
end
structure Qcq (P:Program)(w:World)(K:z00)(mg:Str->Option Value)(base:Heap)(k:Nat)(x:Str)(ps:List Str)(sp:Sp):Prop where
 ex:∃f fd,Qeh P w K mg base (CXe P w) k f fd ps sp/\mg x=some (.ref f)/\zd9 K (.ref f)=true/\Binds K fd ps []
structure Vy (P:Program)(w:World)(K:z00)(mg:Str->Option Value)(base:Heap)(C:Addr)(k:Nat)(m:Str)(ps:List Str)(sp:Sp):Prop where
 ex:∃f fd,Qeh P w K mg base (CXe P w) k f fd ps sp/\Meth K C m f/\Binds K fd ps []
structure QbR (P:Program)(w:World)(K:z00)(mg:Str->Option Value)(base:Heap)(C:Addr)(k:Nat)(x:Str)(ps:List Str)(sp:Sp):Prop where
 ex:∃f fd,Qeh P w K mg base (CXe P w) k f fd ps sp/\Mk K C f/\mg x=some (.ref C)/\Binds K fd ps []
def Ext (σ τ:St):Prop:=τ.length=σ.length/\∀(i:Nat) v,σ[i]? = some (some v)->τ[i]? = some (some v)
def QfS (wi:TI)(ix:List (Option Nat))(g:TG)(tc:TT)(te:TE):TE:=fun σ H Q=>wi σ H fun J H1=>∃W:Nat->Nat->List V->Hp->Prop,(∃m,W 0 m [] H1)/\∀i m ys H,W i m ys H->
 (J.stop i H/\∀D,H D=none->Q (.ref D) (upd H D (.lst ys)))\/
 (J.go i H/\∃N:List V->Hp->Prop,(∀ys' H',N ys' H'->∃m',m' < m/\W (i+1) m' ys' H')/\∀x H',J.yld i H x H'->
  g x (Jw ix σ) H' fun τ H1'=>Ext (Jw ix σ) τ/\tc τ H1' fun c H2=>if c=true then te τ H2 fun y H3=>ys.length<z17/\N (ys++[y]) H3 else N ys H2)
theorem Qhx {X:Cx}{elt iter tg:Expr}{pos:Pos}{ifs:List Expr}{scope:Scope}{N:List Str}{ix:List (Option Nat)}{wi:TI}{g:TG}{tc:TT}{te:TE}
  (hc:X.calm=true) (B:Blk X scope N ix) (hi:PI X tg iter wi) (hg:∀pins C s H ex,PG (X.blk scope N pins C s H ex) tg g)
  (ht:∀pins C s H ex,PIf (X.blk scope N pins C s H ex) ifs tc) (he:∀pins C s H ex,PE (X.blk scope N pins C s H ex) elt te)
  (hs:∀x,foldedSetIterable iter X.env x=pure x) {pins:List @11} {s:Shared} {σ:St} {H:Hp} {Q:VK} {pos':Pos} {use:Option (Value->Sem Unit)} {Qtz:Value->Shared->Prop} (I:Inv X pins σ H s) (h:QfS wi ix g tc te σ H Q)
  (fin:∀{s4:Shared} {H3:Hp} {D C:Addr} {ys:List V} {m:Str->Option Value},s4.heap.Ns C m->(∀h',zf0 C s4.heap h'->Inv X pins σ (upd H3 D (.lst ys)) { s4 with heap:=h' })->C≠X.env.locals->(∀y c,X.env.cells.lookup y=some c->c≠C)->(∀p∈X.pn++pins,p.1≠C)->X.s₀.heap.objs.size<=C->upd H3 D (.lst ys) C=none->Q (.ref D) (upd H3 D (.lst ys))->∀v,compPost @4 X.A X.xe use Qtz (.ref D) C (.ok v) s4) :
  wpAny @4 X.A (comprehension (.ListComp elt [⟨tg,iter,ifs,0⟩] scope pos) scope X.env pos' (newList []) false (eval iter X.env) use) Qtz X.xe s:=by
 have hcl:∀y∈scope.names,y.2=.free->∃c,X.env.cells.lookup y.1=some c:=fun y hy hf=>I.ok.has y.1 (B.free y hy hf)
 refine wpAny_comprehension_free (use:=use) (cl:=QfR X.env.cells scope.names) rfl hs (QiQ hcl) B.kind B.names ?_
 refine thn (hi pins s σ H _ I h) fun v s1 h1=>thn h1 fun itv s2 h2=>?_
 obtain⟨it,fp,tn,J,H2,e,I2,T,st2,f2,W,⟨m0,w0⟩,turn⟩:=h2
 subst e
 refine zp9 (wpAny_newFunctionEnv B.Qhu (by intro y hy;simp at hy) (fun h₁ QqB QpE=>?_) B.kind)
 dsimp only at QqB QpE ⊢
 generalize hHp:s2.heap.push { cls:=.type "list",dict:=none,data:=.seq ([]:List Value).toArray }=Hq at QqB QpE ⊢
 generalize hD:s2.heap.objs.size=D at QqB QpE ⊢
 generalize hCq:Hq.objs.size=C at QqB QpE ⊢
 have hC:C=D+1:=by rw[← hCq,← hHp,zl1,hD]
 have hDC:D≠C:=by lia
 have below:∀b o,s2.heap.get? b=some o->b≠C/\b≠D:=fun b o e=>by
  have h1:b<D:=by rw[← hD];exact z31 e
  exact⟨z50 (z37 h1 (by rw[hC];exact zg1 D)),z50 h1⟩
 have old:∀b o,s2.heap.get? b=some o->h₁.get? b=some o:=fun b o e=>QpE.extBut b o (below b o e).1 (z19 _ (hHp▸z19 _ e))
 have QtA:h₁.get? D=some { cls:=.type "list",data:=.seq ([]:List Value).toArray }:=
  QpE.extBut _ _ hDC (z19 _ (hHp▸hD▸z45 _ rfl))
 have H2D:H2 D=none:=I2.hok.fresh (by rw[hD];exact z24 _)
 have H2C:H2 C=none:=I2.hok.fresh (by rw[hD];lia)
 have clM:∀y c,(QfR X.env.cells scope.names).lookup y=some c->X.env.cells.lookup y=some c:=fun y c e=>Qei scope.names [] hcl (fun p hp=>nomatch hp) (y,c) (za5 e)
 have QtB:∀b∈fp,∃o,s2.heap.get? b=some o:=fun b hb=>let ⟨o,e,_⟩:=T.obj 0 _ st2 b hb;⟨o,e⟩
 have QqC:∀p∈X.pn++pins,s2.heap.get? p.1=some p.2:=fun p hp=>(I2.pin p hp).1
 have QmY:∀y c,X.env.cells.lookup y=some c->∃o,s2.heap.get? c=some o:=fun y c e=>let ⟨v,o,ho,_⟩:=I2.cell y c e;⟨o,ho⟩
 let Xb:Cx:=X.blk scope N pins C s2 H2 fp
 have okb:Xb.Ok:=by
  refine⟨I2.ok.mod,B.kind,I2.ok.glob,I2.ok.blt,?_,fun y z c e1 e2=>I2.ok.inj y z c (clM y c e1) (clM z c e2),fun y hy=>?_,fun y c hf _=>?_,I2.ok.hd,I2.ok.frames,.inl rfl,fun b hb=>?_,I2.bs,z65 I2.ok.bsz I2.sz,fun b o e hb=>?_,fun b hb hf=>?_,I2.stack,I2.QgG⟩
  ·show s2.heap.objs.size<=C
   rw[hD];lia
  ·have hy':(y,z41)∈scope.names:=by
    rcases hy with hy|hy
    ·exact Qao (env:=X.env) B.Qhu (show(relabel scope X.env).names.lookup y=some .cell from hy) (.inl rfl)
    ·exact Qao (env:=X.env) B.Qhu (show(relabel scope X.env).names.lookup y=some .free from hy) (.inr rfl)
   exact Qcn (Qcm scope.names [] (.inl hy'))
  ·exact absurd (show false=true from hf) z29
  ·obtain⟨o,e⟩:=QtB b hb
   refine⟨(below b o e).1,fun y c hy=>?_⟩
   exact(f2 b hb).2.2.2.2.1 y c (clM y c hy)
  ·rcases(f2 b hb).2.2.2.1 with z|z
   ·exact I2.ok.QnH b o e z
   ·exact absurd (z37 (z31 e) (z65 I2.ok.bsz z)) (zc6 _)
  ·rcases z15.mp (I2.Qed b hf) with z|z
   ·exact(f2 b hb).2.1 z
   ·exact(f2 b hb).2.2.1 z
 have Qv3:(Jw ix σ).length=N.length:=by unfold Jw;rw[z01];exact B.len
 have QtC:∀p∈X.pn++pins,p.1∉frs X.stack:=fun p hp z=>by
  obtain⟨_,_,n1,n2,_⟩:=I2.pin p hp
  exact(z15.mp (I2.Qed p.1 z)).elim n1 n2
 have DFs:D∉frs X.stack:=fun z=>by
  rcases z15.mp (I2.Qed D z) with q|q
  ·have h3:=I2.lt
   rw[hD,← q] at h3
   exact absurd h3 (zc6 _)
  ·exact I2.Qu1 (by rw[hD];exact z24 _) q
 -- at the block's start
 have Ib:Inv Xb [(D,{ cls:=.type "list",data:=.seq ([]:List Value).toArray })] (Jw ix σ) H2 { s2 with heap:=h₁,toks:=s2.toks+([]:List (Str×Value)).length }:=by
  refine⟨okb,rfl,I2.bare,Un.kept old,⟨_,QqB,fun a y v e1 e2 e3=>?_⟩,fun y c e=>?_,H2C,fun y c e=>I2.Qa7 y c (clM y c e),fun p hp=>?_,I2.hok.kept old,Qv3⟩
  ·unfold Jw at e2
   rw[z22] at e2
   cases q:ix[a]? with
   |none=>rw[q] at e2;cases e2
   |some o=>
    rw[q] at e2
    cases o with
    |none=>cases e2
    |some i=>
     have e2':(σ[i]?).join=some v:=z21 e2
     have Qv4:σ[i]? = some (some v):=by
      cases r:σ[i]? with
      |none=>rw[r] at e2';cases e2'
      |some t=>rw[r] at e2';exact congrArg some e2'
     obtain⟨n1,n2'⟩:=B.slots a i y q e1
     have n2:(y,z41)∈scope.names:=za5 n2'
     have kf:=B.free _ n2 rfl
     obtain⟨m,_,hl⟩:=I2.loc
     obtain⟨u,r,l⟩:=hl i y v n1 Qv4 (kf.elim (fun z=>.inr (.inl z)) fun z=>.inr (.inr z))
     refine⟨u,r,?_⟩
     rcases l with⟨l,_⟩|⟨_,c,hc1,hc2⟩
     ·rcases kf with z|z<;>(rw[show X.env.kindOf y=some .local from l] at z;cases z)
     ·obtain⟨c',hc'⟩:=Qcn (Qcm (cells:=X.env.cells) scope.names [] (.inl n2))
      have:c'=c:=z21 ((clM y c' hc').symm.trans hc1)
      subst this
      have kb:(relabel scope X.env).names.lookup y=some .cell\/(relabel scope X.env).names.lookup y=some .free:=Qap n2'
      obtain⟨oc,hoc,hcd⟩:=hc2
      exact .inr ⟨kb,c',hc',oc,old _ _ hoc,hcd⟩
  ·obtain⟨v,oc,hoc,hcd⟩:=I2.cell y c (clM y c e)
   exact⟨v,oc,old _ _ hoc,hcd⟩
  ·rcases z05.mp hp with hp|hp
   ·obtain⟨p1,p2,p3,p4,p5⟩:=I2.pin p hp
    exact⟨old _ _ p1,p2,(below _ _ p1).1,QtC p hp,p5⟩
   ·have e:p=(D,{ cls:=.type "list",data:=.seq ([]:List Value).toArray }):=by simpa using hp
    subst e
    exact⟨QtA,H2D,hDC,DFs,fun v z=>nomatch z⟩
 have stat:∀{H':Hp} {ob:Obj},(∀b∈fp,H' b=none)->∀b∈fp,QlH Xb [(D,ob)] H' b:=fun{H' ob} hn b hb=>by
  obtain⟨o,e⟩:=QtB b hb
  refine⟨hn b hb,(below b o e).1,okb.QnI b hb,.inl hb,fun y c hy=>(f2 b hb).2.2.2.2.1 y c (clM y c hy),fun p hp z=>?_⟩
  rcases z05.mp hp with hp|hp
  ·exact(f2 b hb).2.2.2.2.2 p hp z
  ·have q:p=(D,ob):=by simpa using hp
   subst q
   exact(below b o e).2 z.symm
 have loop:codeAny @4 X.A (.compLoop (.ListComp elt [⟨tg,iter,ifs,0⟩] scope pos) 0 (.ref it) (.ref D) (compEnvC scope (QfR X.env.cells scope.names) C X.env))
   (compPost @4 X.A X.xe use Qtz (.ref D) C) { s2 with heap:=h₁,toks:=s2.toks+([]:List (Str×Value)).length }:=by
  refine Qbq (fun n s'=>∃i ys H' its k,Inv Xb [(D,{ cls:=.type "list",data:=.seq (zt7 its) k })] (Jw ix σ) H' s'/\tn i s'.heap/\(∀b∈fp,H' b=none)/\Vals ys its/\ys.length<=z17/\W i n ys H') ?_ m0
   ⟨0,[],H2,[],_,Ib,T.keep _ _ _ st2 fun b _ o e=>old b o e,fun b hb=>(f2 b hb).1,.nil,zb8 _,w0⟩
  rintro n s3 ⟨i,ys,H3,its,k,I3,st3,fr3,hv3,hz3,w3⟩
  rcases turn i n ys H3 w3 with⟨stop,qn⟩|⟨go,N',hN,step⟩
  ·refine thn (T.done Xb rfl rfl rfl hc i _ s3 _ H3 (fun _ _=>False) I3 (stat fr3) st3 stop) fun r s4 hz=>?_
   obtain⟨hr,I4⟩:=hz
   subst hr
   obtain⟨m,hn,_⟩:=I4.loc
   have hp4:=I4.pin (D,{ cls:=.type "list",data:=.seq its.toArray k }) @9
   obtain⟨gD,nD,_,_,_⟩:=hp4
   have all:∀h',zf0 C s4.heap h'->Inv X pins σ (upd H3 D (.lst ys)) { s4 with heap:=h' }:=fun h' sb=>by
    have n3C:H3 C=none:=I4.free
    have un4:Un (frs X.stack) fp H2 H3 s2.heap s4.heap:=I4.base
    have gD':h'.get? D=some { cls:=.type "list",data:=.seq its.toArray k }:=(sb.2 D hDC).trans gD
    have up:∀b o,s2.heap.get? b=some o->h'.get? b=s4.heap.get? b:=fun b o e=>sb.2 b (below b o e).1
    refine I2.call' (ch:=fp) (s':={ s4 with heap:=h' }) I4.os ?_ ?_ I4.bare fun b hb=>⟨(f2 b hb).2.2.2.1,(f2 b hb).2.1,(f2 b hb).2.2.2.2.1,(f2 b hb).2.2.2.2.2⟩
    ·refine⟨fun b o e n hb hx=>(up b o e).trans (un4.keep b o e n hb hx),fun b o e n hb hx=>?_,fun b o e n hx=>?_,fun b o e hx=>?_,fun b xs e=>?_,fun b o u e=>?_,fun b ps e=>?_⟩
     ·obtain⟨sl,q⟩:=un4.slot b o e n hb hx
      exact⟨sl,(up b o e).trans q⟩
     ·rw[Qk (below b o e).2];exact un4.free b o e n hx
     ·obtain⟨o',q⟩:=un4.there b o e hx
      exact⟨o',(up b o e).trans q⟩
     ·have q:=un4.tups b xs e
      rw[Qk (Qx q nD)];exact q
     ·have q:=un4.QiD b o u e
      rw[Qk (Qx q nD)];exact q
     ·obtain⟨more,q⟩:=un4.Qjk b ps e
      exact⟨more,by rw[Qk (Qx q nD)];exact q⟩
    ·exact(HOk.but I4.hok n3C sb).track nD ⟨hz3,its,k,hv3,gD'⟩
   refine fin (C:=C) hn all (fun z=>?_) (fun y' c hy' z=>?_) (fun p hp z=>?_) (z65 I2.sz (by rw[hD];lia)) (by rw[Qk (zb9 hDC)];exact I4.free) (qn D nD) _
   ·have l1:=I2.lt
    rw[hD,← z,hC] at l1
    exact absurd l1 (Nat.not_lt.mpr (zg1 D))
   ·obtain⟨o,q'⟩:=QmY y' c hy'
    exact(below c o q').1 z
   ·exact(below _ _ (QqC p hp)).1 z
  ·refine thn (T.item Xb rfl rfl rfl hc i _ s3 _ H3 (fun _ _=>False) I3 (stat fr3) st3 go) fun r s4 hz=>?_
   obtain⟨u,hr,h4⟩:=hz
   subst hr
   refine thn h4 fun _ s5 hz=>?_
   obtain⟨x5,H5,I5,r5,y5,st5,fr5⟩:=hz
   have I5':=I5.pinned (stat fr5) (T.obj _ _ st5)
   refine thn (hg pins C s2 H2 fp _ s5 _ H5 x5 u _ I5' r5 (step x5 H5 y5)) fun _ s6 hz=>?_
   obtain⟨σ6,H6,I6,Qu8,q6⟩:=hz
   refine thn (ht pins C s2 H2 fp _ s6 _ _ _ I6 q6) fun ok s7 hz=>?_
   obtain⟨H7,I7,q7⟩:=hz
   have back:∀{H8:Hp} {s8:Shared} {ob:Obj} {ys':List V} {its':List Value} {k':Nat},Inv Xb ([(D,ob)]++QbN fp s5.heap) σ6 H8 s8->ob={ cls:=.type "list",data:=.seq its'.toArray k' }->Vals ys' its'->ys'.length<=z17->N' ys' H8->
     ∃m,m<n/\∃i ys H' its k,Inv Xb [(D,{ cls:=.type "list",data:=.seq (zt7 its) k })] (Jw ix σ) H' s8/\tn i s8.heap/\(∀b∈fp,H' b=none)/\Vals ys its/\ys.length<=z17/\W i m ys H':=fun{H8 s8 ob ys' its' k'} I8 eo hv8 hz8 n8=>by
    subst eo
    obtain⟨m',hm,w8⟩:=hN ys' H8 n8
    refine⟨m',hm,i+1,ys',H8,its',k',?_,T.keep _ _ _ st5 fun b hb o e=>(I8.pin (b,o) (z02 _ (z02 _ (QaW hb e)))).1,fun b hb=>?_,hv8,hz8,w8⟩
    ·exact(I8.QcY).weak Qu8.1.symm Qu8.2
    ·obtain⟨o,e,d⟩:=T.obj _ _ st5 b hb
     exact(I8.pin (b,o) (z02 _ (z02 _ (QaW hb e)))).2.1
   cases ok with
   |false=>exact back I7 rfl hv3 hz3 q7
   |true=>
    have q7':te σ6 H7 fun y H3=>ys.length<z17/\N' (ys++[y]) H3:=q7
    show wpAny _ _ (eval elt _) _ _ _
    refine thn (he pins C s2 H2 fp _ s7 _ H7 _ I7 q7') fun y8 s8 hz=>?_
    obtain⟨v8,H8,I8,r8,hz8,q8⟩:=hz
    have gD8:=(I8.pin (D,{ cls:=.type "list",data:=.seq its.toArray k }) @9).1
    have nD8:=(I8.pin (D,{ cls:=.type "list",data:=.seq its.toArray k }) @9).2.1
    have hl8:=hv3.length
    refine wpAny_list_append_plain (hsz:=by rw[z18];lia) ⟨k,gD8⟩ fun h9 pl9 sb9=>?_
    obtain⟨k9,g9⟩:=pl9
    have g9':h9.get? D=some { cls:=.type "list",data:=.seq (its++[y8]).toArray k9 }:=by rw[g9];simp
    have QtD:∀p∈QbN fp s5.heap,p.1≠D:=fun p hp z=>by
     obtain⟨hb,_⟩:=QfD hp
     obtain⟨o,e⟩:=QtB p.1 hb
     exact(below _ o e).2 z
    have I8':Inv Xb (QbN fp s5.heap) σ6 H8 s8:=I8.QeK fun p hp=>I8.pin p (z02 _ (z02 _ hp))
    have I9:Inv Xb (QbN fp s5.heap) σ6 H8 { s8 with heap:=h9 }:=I8'.turned (t':=s8.toks) (fun b o hb e=>(sb9.2 b hb).trans e) nD8 hDC (.inr (by show s2.heap.objs.size<=D;rw[hD];exact z24 _))
     (fun y c hy z=>by obtain⟨o,e⟩:=QmY y c (clM y c hy);exact(below c o e).2 z)
     (fun p hp z=>by
      rcases z05.mp hp with hp|hp
      ·exact(below _ _ (QqC p hp)).2 z
      ·exact QtD p hp z)
    have I10:Inv Xb ([(D,{ cls:=.type "list",data:=.seq (its++[y8]).toArray k9 })]++QbN fp s5.heap) σ6 H8 { s8 with heap:=h9 }:=I9.QeK fun p hp=>by
     rcases z05.mp hp with hp|hp
     ·have q:p=(D,{ cls:=.type "list",data:=.seq (its++[y8]).toArray k9 }):=by simpa using hp
      subst q
      exact⟨g9',nD8,hDC,DFs,fun v z=>nomatch z⟩
     ·exact I9.pin p (z02 _ hp)
    exact back I10 rfl (hv3.append (.cons r8 .nil)) (by rw[z16,zb2];lia) q8
 exact codeAny_compStart_list loop (T.self _ 0 _ _ _ (T.keep _ _ _ st2 fun b _ o e=>old b o e) loop)
theorem QeX {X:Cx}{elt iter tg:Expr}{y:Str}{py pos spos:Pos}{ifs:List Expr}{scope:Scope}{N:List Str}{ix:List (Option Nat)}{i0:Nat}{wi:TI}{g:TG}{tc:TT}{te:TE}
  (hc:X.calm=true) (hXN:X.N.Nodup) (hi0:X.N[i0]? = some y) (hy:Loc X.env.scope y) (B:Blk X scope N ix) (hi:PI X tg iter wi) (hg:∀pins C s H ex,PG (X.blk scope N pins C s H ex) tg g)
  (ht:∀pins C s H ex,PIf (X.blk scope N pins C s H ex) ifs tc) (he:∀pins C s H ex,PE (X.blk scope N pins C s H ex) elt te)
  (hsw:swapsWith (.ListComp elt [⟨tg,iter,ifs,0⟩] scope pos) (some (.Name y py)) spos.line X.env=pure true:=by rfl)
  (hf:X.fn y=true\/X.env.scope.names.lookup y=some .local:=by first|exact .inl rfl|exact .inr rfl|assumption)
  (hs:∀x,foldedSetIterable iter X.env x=pure x:=by intro _;rfl):PS X (.Assign [.Name y py] (.ListComp elt [⟨tg,iter,ifs,0⟩] scope pos) spos) (Qp4 (QfS wi ix g tc te) (Vl i0)):=by
 intro pins s σ H DD I h
 rw[exec_Assign_Name_used _ _ _ _ hsw]
 refine z13 (zv9 (z13 ?_))
 show wpAny _ X.A (do
  let _ ← comprehension (.ListComp elt [⟨tg,iter,ifs,0⟩] scope pos) scope X.env _ (newList []) false (eval iter X.env) (some (assign (.Name y py) X.env))) _ _ s
 refine z13 (thn (Q:=fun _ s'=>SP X pins DD .next s') ?_ fun _ s' hq=>z33 (z33 hq))
 refine Qhx hc B hi hg ht he hs I h fun{s4 H3 D C ys m} hn all c1 c2 c3 c4 c5 qn _=>?_
 show wpAny _ X.A (assign (.Name y py) X.env (.ref D)) _ _ s4
 refine wpAny_assign_Name (QfB (all s4.heap (Heap.SameBut.refl _ _)) hXN hi0 hy (show RelV (.ref D) (.ref D) from rfl) (fun s5 I5 hz=>?_) hf)
 obtain⟨a,sb,ha⟩:=hz
 refine⟨m,hn.sameBut sb fun z=>?_,fun h' sb'=>⟨_,_,I5.turned (t':=s5.toks) (it:=C) (fun b o hb e=>(sb'.2 b hb).trans e) c5 c1 (.inr c4) c2 c3,qn⟩⟩
 rcases ha with q|q
 ·exact c1 (z.trans q)
 ·exact c2 y a q z.symm
theorem Qhy {X:Cx}{elt iter tg:Expr}{pos:Pos}{ifs:List Expr}{scope:Scope}{N:List Str}{ix:List (Option Nat)}{wi:TI}{g:TG}{tc:TT}{te:TE}
  (hc:X.calm=true) (B:Blk X scope N ix) (hi:PI X tg iter wi) (hg:∀pins C s H ex,PG (X.blk scope N pins C s H ex) tg g)
  (ht:∀pins C s H ex,PIf (X.blk scope N pins C s H ex) ifs tc) (he:∀pins C s H ex,PE (X.blk scope N pins C s H ex) elt te)
  (hs:∀x,foldedSetIterable iter X.env x=pure x:=by intro _;rfl):PE X (.ListComp elt [⟨tg,iter,ifs,0⟩] scope pos) (QfS wi ix g tc te):=by
 intro pins s σ H Q I h
 rw[eval_ListComp]
 exact Qhx hc B hi hg ht he hs I h fun{s4 H3 D C ys m} hn all _ _ _ _ _ q _=>⟨m,hn,fun h' sb=>⟨.ref D,upd H3 D (.lst ys),all h' sb,rfl,q⟩⟩
section
variable {X:Cx}
theorem Qd4 (hc:X.calm=true):Qaf X (.builtin "all") (fun xs H Q=>∃(p:Addr) (bs:List Bool),xs=[.ref p]/\SqL X.K H p (bs.map V.bl)/\Q (.bl (bs.all fun b=>b)) H):=by
 intro pins s σ H xs us Q I r h
 obtain⟨p,bs,rfl,hp,q⟩:=h
 obtain⟨u,rfl,ru⟩:=vals1 r
 cases ru
 obtain⟨its,rv,pl,hz⟩:=I.list hp
 have lt:=pl.isList
 have ltp:p<s.heap.objs.size:=by obtain⟨o,ho,_⟩:=lt;exact z31 ho
 refine call_all_walk (wpAny_pyIter_list lt ?_)
 have hlen:=rv.length
 have W:=Walks.list (prog:=X.prog) (w:=X.w) (A:=X.A.in1) (I.ok.hd hc) s.heap.objs.size p (z50 ltp) its.toArray
 refine⟨_,_,_,_,_,_,fun j=>bs.getD j true,rfl,W,⟨⟨_,z45 _ rfl,rfl,rfl⟩,lt.at fun o e=>z19 _ e⟩,fun i v s1 Q1 E1 hP hQ=>?_,fun h' tk k=>?_⟩
 ·obtain⟨hi,hv⟩:∃hi:i<its.length,v=its[i]:=by
   have z:its.toArray[i]? = some v:=hP
   rw[z49] at z
   obtain⟨h1,h2⟩:=z25.mp z
   exact⟨h1,h2.symm⟩
  obtain⟨b,hb⟩:∃b,bs[i]? = some b:=⟨bs[i]'(by rw[z01] at hlen;lia),z04 _⟩
  obtain⟨u,hu,rb⟩:=rv.get (show(bs.map V.bl)[i]? = some (.bl b) by rw[z22,hb];rfl)
  have e:v=.bool b:=by
   rw[z04 hi] at hu
   rw[hv,z21 hu]
   exact rb
  subst e
  have e2:bs.getD i true=b:=by rw[z14,hb];rfl
  have hQ':Q1 (bs.getD i true) s1:=hQ
  rw[e2] at hQ'
  exact za9 hQ'
 ·have e:(z68 its.toArray.size).all (fun j=>bs.getD j true)=bs.all fun b=>b:=by
   have l2:its.toArray.size=bs.length:=by rw[z18,← hlen,z01]
   rw[l2,zg8,z69,z69]
   constructor
   ·intro h b hb
    obtain⟨i,hi⟩:=List.getElem?_of_mem hb
    have z:=h i (za4.mpr (z25.mp hi).1)
    rw[z14,hi] at z
    exact z
   ·intro h i hi
    have hi:=za4.mp hi
    rw[z14,z04 hi]
    exact h _ (z99 hi)
  rw[e]
  have I0:Inv X pins σ H { s with heap:=s.heap.push { cls:=.type "list_iterator",data:=.fields #[.ref p,.int 0 0]}}:=I.kept (t':=s.toks) fun b o z=>z19 _ z
  have fp:=I.Qp6 (b:=s.heap.objs.size) (H':=H) (z24 _) I.fresh
  obtain⟨f0,f1,f2,f3,f4,f5⟩:=fp
  exact⟨.bl _,H,I0.turned (t':=tk) (it:=s.heap.objs.size) (fun b o hb z=>k b o (by simpa using hb) z) f0 f1 f3 f4 f5,rfl,q⟩
end
section
variable {X:Cx}{pins:List @11}{σ:St}{H:Hp}{s:Shared}{h':Heap}
theorem Inv.QjW {t':Nat}{ch:List Addr}(I:Inv X pins σ H s)(k:∀b o,b∉ch->s.heap.get? b=some o->h'.get? b=some o)(f:∀b∈ch,QlH X pins H b):Inv X pins σ H { s with heap:=h',toks:=t' }:=by
 have nit:∀b u,H b=some u->b∉ch:=fun b u e z=>by rw[(f b z).1] at e;cases e
 refine I.step (g':=s.gens) (d':=s.drawn) (ch:=ch) (fun b hb=>?_) (fun b o _ _ hc e _=>k b o hc e) (fun b o _ _ hc e _=>⟨o.slots,k b o hc e⟩) (fun _ _ _ _ n=>n)
  (fun b o hc e=>⟨o,k b o hc e⟩) (fun _ _ e=>e) (fun _ _ _ e=>e) (fun b ps e=>⟨#[],by rw[e];simp⟩) (fun m hm=>?_) (fun b u e=>?_) I.bare
 ·obtain⟨f0,f1,f2,f3,f4,f5⟩:=f b hb
  exact⟨f3,f1,f4,f5⟩
 ·obtain⟨o,es,ep,ho,r⟩:=hm
  exact⟨o,es,ep,k _ o (fun z=>(f _ z).2.1 rfl) ho,r⟩
 ·refine(I.hok b u e).stay (fun c v hc q=>k c v ?_ q) (fun _ q=>q) fun _ _ q=>q
  rcases hc with z|z
  ·rw[z];exact nit b u e
  ·exact nit c _ z
theorem Inv.QqD {t':Nat}{ch:List Addr}{a:Addr}{o:HO}(I:Inv X pins σ H s)(k:∀b o,b∉ch->s.heap.get? b=some o->h'.get? b=some o)(f:∀b∈ch,QlH X pins H b)(hp:s.heap.objs.size<=a)(new:JM X.prog X.w (upd H a o) h' a o):Inv X pins σ (upd H a o) { s with heap:=h',toks:=t' }:=by
 have nit:∀b u,H b=some u->b∉ch:=fun b u e z=>by rw[(f b z).1] at e;cases e
 have hn:H a=none:=I.hok.fresh hp
 have na:∀b u,H b=some u->b≠a:=fun b u e z=>by rw[z,hn] at e;cases e
 refine I.step (g':=s.gens) (d':=s.drawn) (ch:=ch) (fun b hb=>?_) (fun b o _ _ hc e _=>k b o hc e) (fun b o _ _ hc e _=>⟨o.slots,k b o hc e⟩) (fun b o _ e n=>?_)
  (fun b o hc e=>⟨o,k b o hc e⟩) (fun b xs e=>?_) (fun b o u e=>?_) (fun b ps e=>⟨#[],?_⟩) (fun m hm=>?_) (fun b u e=>?_) I.bare
 ·obtain⟨f0,f1,f2,f3,f4,f5⟩:=f b hb
  exact⟨f3,f1,f4,f5⟩
 ·rw[Qk (z50 (z37 (z31 e) hp))];exact n
 ·rw[Qk (na _ _ e)];exact e
 ·rw[Qk (na _ _ e)];exact e
 ·rw[Qk (na _ _ e),e];simp
 ·obtain⟨o,es,ep,ho,r⟩:=hm
  exact⟨o,es,ep,k _ o (fun z=>(f _ z).2.1 rfl) ho,r⟩
 ·by_cases z:b=a
  ·subst z
   rw[Qs] at e
   cases e
   exact new
  ·rw[Qk z] at e
   refine(I.hok b u e).stay (fun c v hc q=>k c v ?_ q) (fun _ q=>?_) fun _ _ q=>?_
   ·rcases hc with z|z
    ·rw[z];exact nit b u e
    ·exact nit c _ z
   ·first|exact q|(rw[Qk (na _ _ q)];exact q)
   ·first|exact q|(rw[Qk (na _ _ q)];exact q)
end
section
variable {X:Cx}
theorem QeY:Qaf X (.type "int") (fun xs H Q=>∃(x:Str) (n:Int),xs=[.str x]/\zk6 x=some n/\x.length<=640/\Q (.int n) H):=by
 intro pins s σ H xs us Q I r h
 obtain⟨x,n,rfl,hn,hl,q⟩:=h
 obtain⟨u,rfl,t,rfl⟩:=vals1 r
 exact PySem.W.KIN.call_text hn hl ⟨.int n,H,I.tok _,⟨_,rfl⟩,q⟩
def Ite (K:z00)(a:Addr):It:=
 ⟨fun i H=>∃xs x,SqL K H a xs/\xs[i]? = some x,fun i H v H'=>∃T x,H T=none/\v=.ref T/\H'=upd H T (.tup [.int (i:Nat),x])/\∀xs,SqL K H a xs->xs[i]? = some x,fun i H=>∃xs,SqL K H a xs/\xs.length<=i⟩
theorem QjX {P:Program}{w:World}{K:z00}{es:List Expr}{k:Nat}{tp:Pos}(a e it:Addr)(hne:e≠it):Turn P w K (.Tuple es k tp) (Ite K a) [e,it] e (fun i h=>(∃old,IsEnum h e it ((i:Nat):Int) old)/\h.IsListIter it a i) where
 mem:=by simp
 obj:=fun i h st b hb=>by
  obtain⟨⟨old,he⟩,o,ho,c,d⟩:=st
  rcases z15.mp hb with rfl|hb
  ·exact⟨_,he,fun v z=>by cases z⟩
  ·have q:b=it:=by simpa using hb
   subst q
   exact⟨o,ho,fun v z=>by rw[d] at z;cases z⟩
 keep:=fun i h h' st k=>by
  obtain⟨⟨old,he⟩,hit⟩:=st
  exact⟨⟨old,k e @9 _ he⟩,hit.at fun o q=>k it @9 o q⟩
 item:=by
  intro X hP hw hK hc i pins s σ H E I hf st hg
  subst hP hw hK
  obtain⟨⟨old,he⟩,hit⟩:=st
  obtain⟨xs,x,hq,hx⟩:=hg
  obtain⟨its,rv,p,hz⟩:=I.list hq
  obtain⟨u,hu,ru⟩:=rv.get hx
  refine wpAny_pyNext_enum_item he hit p.isList (x:=u) (by simpa using hu) hne fun h1 heo hit1 ht1 hz1 hk1=>?_
  refine⟨_,rfl,zt4 heo fun h2 he2 hs2=>?_⟩
  have hel:e<s.heap.objs.size:=z31 he
  have hT:H s.heap.objs.size=none:=I.hok.fresh (z24 _)
  have kk:∀b o,b∉[e,it]->s.heap.get? b=some o->h2.get? b=some o:=fun b o hb q=>by
   have nb:b≠e:=fun z=>hb (by simp[z])
   have ni:b≠it:=fun z=>hb (by simp[z])
   exact(hs2.2 b nb).trans (hk1 b o nb ni q)
  have gT:h2.get? s.heap.objs.size=some { cls:=.type "tuple",data:=.seq #[.int i s.toks,u]}:=(hs2.2 _ (zo0 hel)).trans ht1
  -- the heap ahead of the tuple
  have I1:Inv X pins σ (upd H s.heap.objs.size (.tup [.int (i:Nat),x])) { s with heap:=h2,toks:=s.toks+1 }:=I.QqD kk hf (z24 _) ⟨by show 2<=z17;decide,[.int i s.toks,u],.cons ⟨_,rfl⟩ (.cons ru .nil),⟨_,gT,rfl,_,rfl⟩⟩
  refine⟨.ref s.heap.objs.size,_,I1,rfl,⟨s.heap.objs.size,x,hT,rfl,rfl,fun ys hy=>by rw[I.QeN hy hq];exact hx⟩,⟨⟨u,?_⟩,hit1.extBut hs2.extBut (zb9 hne)⟩,fun b hb=>?_⟩
  ·have:((i+1:Nat):Int)=(i:Int)+1:=by push_cast;rfl
   rw[this];exact he2
  ·have nb:b≠s.heap.objs.size:=by
    rcases z15.mp hb with rfl|hb
    ·exact z50 hel
    ·have q:b=it:=by simpa using hb
     subst q
     obtain⟨o,ho,_⟩:=hit
     exact z50 (z31 ho)
   rw[Qk nb]
   exact(hf b hb).1
 done:=by
  intro X hP hw hK hc i pins s σ H E I hf st hg
  subst hP hw hK
  obtain⟨⟨old,he⟩,hit⟩:=st
  obtain⟨xs,hq,hx⟩:=hg
  obtain⟨its,rv,p,hz⟩:=I.list hq
  have hl:=rv.length
  exact wpAny_pyNext_enum_end (I.ok.hd hc) he hit p.isList (by simp;lia) fun h' eb=>⟨rfl,I.QjW (ch:=[e,it]) (t':=s.toks) (fun b o hb q=>eb b o (fun z=>hb (by simp[z])) q) hf⟩
 self:=fun _ _ _ _ _ st h=>let ⟨_,he⟩:=st.1;zj3 he h
theorem QjY:z74 "enumerate" = some (.type "enumerate"):=by decide +kernel
end
section
variable {prog:Program}{w:World}{A:Around}{E:Value->Shared->Prop}{s:Shared}
theorem QiT {it tp:Addr}{j:Nat}{ys:Array Value}{y:Value}{Q:Value->Shared->Prop}(jt:s.heap.IsTupleIter it tp j)(jl:s.heap.IsTuple tp ys)(jx:ys[j]? = some y)
  (K:∀h2,h2.IsTupleIter it tp (j+1)->zf0 it s.heap h2->Q y { s with heap:=h2 }):wpAny @15 A (zc5 (.ref it)) Q E s:=by
 obtain⟨oi,hi,ci,di⟩:=id jt
 obtain⟨ot,htp,_,nt,dt⟩:=jl
 unfold zc5
 refine z13 (zj7 (name:=zj8 "__next__") jt.typeIs ze5 (zg9 ze5 jt.typeIs zs0 ?_ (zr5 _)))
 show wpAny _ _ (field (.ref it) 0 >>= _) _ _ s
 refine z13 (zn3 hi di (x:=.ref tp) rfl ?_)
 show wpAny _ _ (if(z42 tp == z39)=true then _ else _) _ _ s
 rw[if_neg (show ¬ ((z42 tp == z39)=true) from z29)]
 show wpAny _ _ (field (.ref it) 1 >>= _) _ _ s
 refine z13 (zn3 hi di (x:=.int j 0) rfl ?_)
 show wpAny _ _ (seqItems? (.ref tp) >>= _) _ _ s
 refine z13 (wpAny_seqItems htp dt ?_)
 simp only[z95,jx]
 refine z13 (wpAny_setField hi di @9 (z33 ⟨y,rfl,z33 (K _ ?_ (zb6 ..))⟩))
 exact⟨_,zu1 _ hi (Obj.isFreed_of_fields (zx3 di _)),(Obj.cls_mapFields ..).trans ci,by rw[zx3 di];simp[rawInt]⟩
theorem QfT {it tp:Addr}{j:Nat}{ys:Array Value}{Q:Value->Shared->Prop}(hh:A.handled=none)(jt:s.heap.IsTupleIter it tp j)(jl:s.heap.IsTuple tp ys)(jx:ys[j]? = none)
  (K:∀h2 x,Heap.ExtBut it s.heap h2->(∃o,h2.get? x=some o/\o.cls=.type "StopIteration")->E (.ref x) { s with heap:=h2 }):wpAny @15 A (zc5 (.ref it)) Q E s:=by
 obtain⟨oi,hi,ci,di⟩:=id jt
 obtain⟨ot,htp,_,nt,dt⟩:=jl
 unfold zc5
 refine z13 (zj7 (name:=zj8 "__next__") jt.typeIs ze5 (zg9 ze5 jt.typeIs zs0 ?_ (zr5 _)))
 show wpAny _ _ (field (.ref it) 0 >>= _) _ _ s
 refine z13 (zn3 hi di (x:=.ref tp) rfl ?_)
 show wpAny _ _ (if(z42 tp == z39)=true then _ else _) _ _ s
 rw[if_neg (show ¬ ((z42 tp == z39)=true) from z29)]
 show wpAny _ _ (field (.ref it) 1 >>= _) _ _ s
 refine z13 (zn3 hi di (x:=.int j 0) rfl ?_)
 show wpAny _ _ (seqItems? (.ref tp) >>= _) _ _ s
 refine z13 (wpAny_seqItems htp dt ?_)
 simp only[z95,jx]
 refine z13 (zv2 (z13 (wpAny_setField hi di @9 ?_)))
 show wpAny _ _ (newExc (.type "StopIteration") [] >>= _) _ _ _
 refine z13 ?_
 simp only[newExc,newTuple]
 refine z13 (zp9 ?_ (by size_fits))
 refine z13 (m:=firstArgMember _ _) (wpAny_of_eq (a:=z39) (by first|rfl|(simp only[firstArgMember];rfl)) ?_)
 refine zp9 ?_ (by size_fits)
 simp only[raiseNew]
 refine z13 (wpAny_handled ?_)
 first|rw[show A.in1.handled=none from hh]|rw[hh]
 refine z13 (z33 (wpAny_throw ?_))
 exact K _ _ (((zb6 ..).extBut.push _).push _) ⟨_,z45 _ rfl,rfl⟩
theorem QqE {prog:Program}{w:World}{A:Around}(hh:A.handled=none)(it tp:Addr)(hne:tp≠it)(ys:Array Value) :
  Draws prog w A it [it,tp] ys.size (fun i v=>ys[i]? = some v) (fun i h=>h.IsTupleIter it tp i/\h.IsTuple tp ys) where
 live:=fun _ _ st=>let ⟨o,ho,_⟩:=st.1;⟨o,ho⟩
 frame:=fun _ _ _ st hk=>by
  obtain⟨⟨o,ho,r⟩,o',ho',r'⟩:=st
  exact⟨⟨o,hk it @9 o ho,r⟩,o',hk tp @9 o' ho',r'⟩
 item:=fun i s Q E hi st hQ=>by
  refine QiT st.1 st.2 (y:=ys[i]) (by simp[hi]) fun h' hit' hs'=>?_
  exact hQ _ h' s.toks (by simp[hi]) ⟨hit',st.2.extBut hs'.extBut hne⟩ hs'
 done:=fun s Q E st hE=>QfT hh st.1 st.2 @9 hE
open AutoSeq1 (wpAny_loadPart') in
theorem QqF (l:Addr)(ys:Array Value)(n:Nat)(dd:Option Addr)(zz:Array (Option Value)) :
  Meets (Builtin.«enumerate.__new__» ⟨[.type "enumerate",.ref l],[]⟩) (fun _ R s=>s.heap.get? l=some { cls:=.type "tuple",dict:=dd,data:=.seq ys n,slots:=zz }/\
   R (.ok (.ret (.ref (s.heap.push { cls:=.type "tuple_iterator",data:=.fields #[.ref l,.int 0 0]}).objs.size)))
    { s with heap:=(s.heap.push { cls:=.type "tuple_iterator",data:=.fields #[.ref l,.int 0 0]}).push { cls:=.type "enumerate",data:=.fields #[.none,.bool false,.ref s.heap.objs.size,rawInt 0,.none,.none]}}):=
 .of_wp fun prog w A R s h=>by
  obtain⟨hp,g,d,tk,os⟩:=s;obtain⟨hl,h⟩:=h
  have hsub:=sub_enumerate
  have hT:Heap.IsTuple (Shared.heap ⟨hp,g,d,tk,os⟩) l ys:=⟨_,hl,rfl,n,rfl⟩
  wp_walk using zf8 hl
  refine wpAny_stack_any fun st=>z33 ?_
  split
  ·rename_i c _ _ _ _ _
   cases(c == Value.type "enumerate")
   ·wp_walk using zf8 hl,zi6 hT
    exact⟨_,rfl,h⟩
   ·wp_walk using zf8 hl,zi6 hT
    exact⟨_,rfl,h⟩
  ·wp_walk using zf8 hl,zi6 hT
   exact⟨_,rfl,h⟩
theorem QiU {l:Addr}{ys:Array Value}{Q:Value->Shared->Prop}(hL:s.heap.IsTuple l ys)
  (h:∀h',IsEnum h' @16 s.heap.objs.size 0 .none->h'.IsTupleIter s.heap.objs.size l 0->(∀b o,s.heap.get? b=some o->h'.get? b=some o)->Q (.ref @16) { s with heap:=h' }) :
  wpAny @15 A (call (.type "enumerate") [.ref l]) Q E s:=by
 obtain⟨⟨c,dd,dt,zz⟩,hl,hc,n,hd⟩:=hL
 replace hc:c=.type "tuple" := hc
 replace hd:dt=.seq ys n:=hd
 subst hc hd
 refine callType_new F.called_enumerate @1 (F.typeCall_enumerate_1 _) (F.newCall_enumerate_1 _) (fun obj=>F.args_object_init_2 obj _) F.entry_enumerate_new (QqF l ys n dd zz) ⟨hl,?_⟩
 have hz:(s.heap.push { cls:=.type "tuple_iterator",data:=.fields #[.ref l,.int 0 0]}).objs.size=s.heap.objs.size+1:=zl1 ..
 show _/\_
 rw[hz]
 have he:IsEnum ((s.heap.push { cls:=.type "tuple_iterator",data:=.fields #[.ref l,.int 0 0]}).push { cls:=.type "enumerate",data:=.fields #[.none,.bool false,.ref s.heap.objs.size,rawInt 0,.none,.none]}) @16 s.heap.objs.size 0 .none:=by
  have q:=z45 (s.heap.push { cls:=.type "tuple_iterator",data:=.fields #[.ref l,.int 0 0]}) (o:={ cls:=.type "enumerate",data:=.fields #[.none,.bool false,.ref s.heap.objs.size,rawInt 0,.none,.none]}) rfl
  rw[hz] at q;exact q
 exact⟨⟨_,he,rfl⟩,h _ he ⟨_,z19 _ (z45 _ rfl),rfl,rfl⟩ fun b o x=>z19 _ (z19 _ x)⟩
end
section
variable {X:Cx}
def QtE (K:z00)(a:Addr):It:=
 ⟨fun i H=>∃xs x,SqT K H a xs/\xs[i]? = some x,fun i H v H'=>∃T x,H T=none/\v=.ref T/\H'=upd H T (.tup [.int (i:Nat),x])/\∀xs,SqT K H a xs->xs[i]? = some x,fun i H=>∃xs,SqT K H a xs/\xs.length<=i⟩
theorem QiV {P:Program}{w:World}{K:z00}{es:List Expr}{k:Nat}{tp:Pos}(a e it:Addr)(hne:e≠it)(hae:e≠a)(hai:a≠it):Turn P w K (.Tuple es k tp) (QtE K a) [e,it] e (fun i h=>(∃old,IsEnum h e it ((i:Nat):Int) old)/\h.IsTupleIter it a i) where
 mem:=by simp
 obj:=fun i h st b hb=>by
  obtain⟨⟨old,he⟩,o,ho,c,d⟩:=st
  rcases z15.mp hb with rfl|hb
  ·exact⟨_,he,fun v z=>by cases z⟩
  ·have q:b=it:=by simpa using hb
   subst q
   exact⟨o,ho,fun v z=>by rw[d] at z;cases z⟩
 keep:=fun i h h' st k=>by
  obtain⟨⟨old,he⟩,o,ho,r⟩:=st
  exact⟨⟨old,k e @9 _ he⟩,o,k it @9 o ho,r⟩
 item:=by
  intro X hP hw hK hc i pins s σ H E I hf st hg
  subst hP hw hK
  obtain⟨⟨old,he⟩,hit⟩:=st
  obtain⟨xs,x,hq,hx⟩:=hg
  obtain⟨its,rv,p,hz⟩:=I.tuple hq
  obtain⟨u,hu,ru⟩:=rv.get hx
  have hlt:i<its.toArray.size:=by
   rcases Nat.lt_or_ge i its.toArray.size with z|z
   ·exact z
   ·rw[z18] at z
    rw[List.getElem?_eq_none z] at hu
    cases hu
  refine wpAny_pyNext_enum_itemD (QqE (show X.A.in1.handled=none from I.ok.hd hc) it a hai its.toArray) he ⟨hit,p⟩ hlt hne (by simp[hne,hae]) fun y h1 tk hy heo hst ht1 hz1 hk1=>?_
  obtain⟨hit1,_⟩:=hst
  have eu:y=u:=by
   have:its[i]? = some y:=by simpa using hy
   rw[hu] at this
   exact(z21 this).symm
  subst eu
  refine⟨_,rfl,zt4 heo fun h2 he2 hs2=>?_⟩
  have hel:e<s.heap.objs.size:=z31 he
  have hT:H s.heap.objs.size=none:=I.hok.fresh (z24 _)
  have kk:∀b o,b∉[e,it]->s.heap.get? b=some o->h2.get? b=some o:=fun b o hb q=>by
   have nb:b≠e:=fun z=>hb (by simp[z])
   have ni:b≠it:=fun z=>hb (by simp[z])
   exact(hs2.2 b nb).trans (hk1 b o nb ni q)
  have gT:h2.get? s.heap.objs.size=some { cls:=.type "tuple",data:=.seq #[.int i tk,y]}:=(hs2.2 _ (zo0 hel)).trans ht1
  have I1:Inv X pins σ (upd H s.heap.objs.size (.tup [.int (i:Nat),x])) { s with heap:=h2,toks:=tk+1 }:=I.QqD kk hf (z24 _) ⟨by show 2<=z17;decide,[.int i tk,y],.cons ⟨_,rfl⟩ (.cons ru .nil),⟨_,gT,rfl,_,rfl⟩⟩
  refine⟨.ref s.heap.objs.size,_,I1,rfl,⟨s.heap.objs.size,x,hT,rfl,rfl,fun zs hy=>by rw[I.Qdc hy hq];exact hx⟩,⟨⟨y,?_⟩,hit1.extBut hs2.extBut (zb9 hne)⟩,fun b hb=>?_⟩
  ·have:((i+1:Nat):Int)=(i:Int)+1:=by push_cast;rfl
   rw[this];exact he2
  ·have nb:b≠s.heap.objs.size:=by
    rcases z15.mp hb with rfl|hb
    ·exact z50 hel
    ·have q:b=it:=by simpa using hb
     subst q
     obtain⟨o,ho,_⟩:=hit
     exact z50 (z31 ho)
   rw[Qk nb]
   exact(hf b hb).1
 done:=by
  intro X hP hw hK hc i pins s σ H E I hf st hg
  subst hP hw hK
  obtain⟨⟨old,he⟩,hit⟩:=st
  obtain⟨xs,hq,hx⟩:=hg
  obtain⟨its,rv,p,hz⟩:=I.tuple hq
  have hl:=rv.length
  have hT:s.TypeIs (.ref e) "enumerate" := ⟨_,he,rfl⟩
  unfold pyNext
  refine z13 (zo9 (zj7 (name:=zj8 "__next__") hT zw8 (zg9 zw8 hT F.entry_enumerate_next ?_ (F.args_enumerate_next_1 _))))
  show wpAny _ _ (field (.ref e) 2 >>= _) _ _ _
  refine z13 (zn3 he rfl (x:=.ref it) rfl ?_)
  refine z13 (QfT (I.ok.hd hc) hit p (by simp;lia) fun h' x eb hx'=>?_)
  obtain⟨o,ho,hc'⟩:=hx'
  refine z13 (wpAny_isInstance (T := "StopIteration") (b:=true) ⟨o,ho,hc'⟩ isSubtype_stop ?_)
  exact z33 ⟨rfl,I.QjW (ch:=[e,it]) (t':=s.toks) (fun b o hb q=>eb b o (fun z=>hb (by simp[z])) q) hf⟩
 self:=fun _ _ _ _ _ st h=>let ⟨_,he⟩:=st.1;zj3 he h
def Itq (kd:Bool)(K:z00)(a:Addr):It:=match kd with
 |true=>Ite K a
 |false=>QtE K a
def QqG (K:z00)(ta:TA):TI:=fun σ H R=>ta σ H fun vs H1=>∃a kd,vs=[.ref a]/\(∃xs,SqB kd K H1 a xs)/\R (Itq kd K a) H1
theorem Ql0 {es:List Expr}{k:Nat}{tp:Pos}{e:Expr}{ta:TA}{p pos:Pos}(hg:Gl X "enumerate")(hm:X.mg "enumerate" = none)(ha:PA X [e] ta)(hs:starEach [e] X.env=(false,eval e X.env)::starEach [] X.env:=by rfl)
  (hpl:(backTo pos (starEach [] X.env)).any (·.1)=false:=by rfl):PI X (.Tuple es k tp) (.Call (.Name "enumerate" p) [e] [] pos) (QqG X.K ta):=by
 intro pins s σ H R I h
 refine zf9 (QfC I hg hm QjY ?_ @1 @1)
 refine zf7 (thn (ha pos pins s σ H _ I h) fun us s1 ⟨vs,H1,I1,r1,a,kd,e1,⟨xs,hq⟩,q⟩=>?_) hs hpl
 subst e1
 obtain⟨u,rfl,ru⟩:=vals1 r1
 cases ru
 have fz:∀b∈[s1.heap.objs.size+1,s1.heap.objs.size],QlH X pins H1 b:=fun b hb=>by
  have hb':s1.heap.objs.size<=b:=by
   rcases z15.mp hb with rfl|hb
   ·exact zg1 _
   ·have z:b=s1.heap.objs.size:=by simpa using hb
    rw[z];exact z24 _
  exact I1.Qp6 (H':=H1) hb' (I1.hok.fresh hb')
 cases kd with
 |true=>
  obtain⟨its,rv,pl,hz⟩:=I1.list (show SqL X.K H1 a xs from hq)
  refine call_enumerate_list pl.isList fun h' he hit hsz kp=>zj3 he ?_
  have I2:Inv X pins σ H1 { s1 with heap:=h' }:=I1.kept (t':=s1.toks) kp
  exact⟨s1.heap.objs.size+1,[s1.heap.objs.size+1,s1.heap.objs.size],_,Ite X.K a,H1,rfl,I2,QjX a _ _ (Nat.succ_ne_self _),⟨⟨_,he⟩,hit⟩,fz,q⟩
 |false=>
  obtain⟨its,rv,pl,hz⟩:=I1.tuple (show SqT X.K H1 a xs from hq)
  have hal:a<s1.heap.objs.size:=by
   obtain⟨o,e,_⟩:=pl
   exact z31 e
  refine QiU (show s1.heap.IsTuple a its.toArray from pl) fun h' he hit kp=>zj3 he ?_
  have I2:Inv X pins σ H1 { s1 with heap:=h' }:=I1.kept (t':=s1.toks) kp
  exact⟨s1.heap.objs.size+1,[s1.heap.objs.size+1,s1.heap.objs.size],_,QtE X.K a,H1,rfl,I2,QiV a _ _ (Nat.succ_ne_self _) (zo0 (zn6 hal)) (z50 hal),⟨⟨_,he⟩,hit⟩,fz,q⟩
end
structure Sh (k b:Nat)(d:PyData):Prop where
 sh:d.showable=true
 dp:d.depth<=k
 bk:d.bulk<=b
 sl:d.leavesShort 61=true
theorem Sh.int {n:Int}(h:n.natAbs<10 ^ 60):Sh 0 0 (.int n) where
 sh:=by
  simp only[zx1]
  exact decide_eq_true (zp4 (z37 h (by decide +kernel)))
 dp:=by simp[PyData.depth]
 bk:=by simp[PyData.bulk]
 sl:=by
  have e:=int_text_length_le10 (k:=60) @1 h
  simp only[zu5]
  refine decide_eq_true ?_
  show(zj8 (toString n)).length<=61
  rw[zt0];exact e
section
variable {X:Cx}{pins:List @11}{σ:St}{H:Hp}{s:Shared}
theorem Inv.track {a:Addr}{o:HO}(I:Inv X pins σ H s)(h0:X.s₀.heap.get? a=none)(hn:H a=none)(nl:a≠X.env.locals)(nc:∀y c,X.env.cells.lookup y=some c->c≠a)(np:∀p∈X.pn++pins,p.1≠a)(hb:X.base.get? a=none)(hf:∀b∈X.fs,b≠a)
  (new:JM X.prog X.w (upd H a o) s.heap a o):Inv X pins σ (upd H a o) s:=by
 have ne0:∀b z,X.s₀.heap.get? b=some z->b≠a:=fun b z e q=>by rw[q,h0] at e;cases e
 refine⟨I.ok,I.os,I.bare,⟨I.base.keep,I.base.slot,fun b z e n hx=>by rw[Qk (ne0 b z e)];exact I.base.free b z e n hx,I.base.there,fun b xs e=>?_,fun b z u e=>?_,fun b ps e=>?_⟩,I.loc,I.cell,by rw[Qk (zb9 nl)];exact I.free,fun y c e=>by rw[Qk (nc y c e)];exact I.Qa7 y c e,fun p hp=>?_,I.hok.track hn new,I.len⟩
 ·have q:=I.base.tups b xs e
  rw[Qk (Qx q hn)];exact q
 ·have q:=I.base.QiD b z u e
  rw[Qk (Qx q hn)];exact q
 ·obtain⟨more,q⟩:=I.base.Qjk b ps e
  exact⟨more,by rw[Qk (Qx q hn)];exact q⟩
 ·obtain⟨e,n,r⟩:=I.pin p hp
  exact⟨e,by rw[Qk (np p hp)];exact n,r⟩
theorem QbS {M:Model}{A:Around}{E:Value->Shared->Prop}{i:Nat}{x:Str}{pos:Pos}{Q:Unit->Shared->Prop}(I:Inv X pins σ H s)(hN:X.N.Nodup)(hi:X.N[i]? = some x)(hk:X.env.kindOf x=some .local)
  (h:∀s',Inv X pins (σ.set i none) H s'->Q () s'):wpAny M A (do bindName X.env x .none;unbindBehindTheSuite X.env x pos) Q E s:=by
 obtain⟨m,hn,hl⟩:=id I.loc
 have hcls:(X.env.scope.kind == .class || (X.env.scope.kind == .module && X.env.locals != X.env.globals))=false:=by rw[I.ok.kind];rfl
 have hiσ:i<σ.length:=by rw[I.len];exact(z25.mp hi).1
 have cne:=I.cne
 refine wpAny_nameGoes_keeps hk hn hcls (fun h' v hn' hs=>?_)
 have up:∀b o,X.s₀.heap.get? b=some o->b≠X.env.locals:=fun b o e=>z50 (z37 (z31 e) I.ok.above)
 refine h _ ⟨I.ok,I.os,I.bare,⟨fun b o e n hb hx=>?_,fun b o e n hb hx=>?_,I.base.free,fun b o e hx=>?_,I.base.tups,I.base.QiD,I.base.Qjk⟩,⟨_,hn',fun j y v' e1 e2 e3=>?_⟩,fun y c e=>?_,I.free,I.Qa7,fun p hp=>?_,fun b ob e=>?_,by simpa using I.len⟩
 ·exact(hs.2 b (up b o e)).trans (I.base.keep b o e n hb hx)
 ·obtain⟨sl,e1⟩:=I.base.slot b o e n hb hx
  exact⟨sl,(hs.2 b (up b o e)).trans e1⟩
 ·obtain⟨o',e1⟩:=I.base.there b o e hx
  exact⟨o',(hs.2 b (up b o e)).trans e1⟩
 ·by_cases hj:j=i
  ·subst hj
   rw[z87 hiσ] at e2
   cases e2
  ·rw[z60 (zb9 hj)] at e2
   obtain⟨u',r',q⟩:=hl j y v' e1 e2 e3
   refine⟨u',r',?_⟩
   rcases q with⟨k,e⟩|⟨k,c,e,z⟩
   ·refine .inl ⟨k,?_⟩
    have ny:y≠x:=fun e=>hj (QeL hN e1 (e▸hi))
    simp[ny,e]
   ·exact .inr ⟨k,c,e,z.sameBut hs (cne y c e)⟩
 ·obtain⟨w',z⟩:=I.cell y c e
  exact⟨w',z.sameBut hs (cne y c e)⟩
 ·obtain⟨e,n,ne,nf,d⟩:=I.pin p hp
  exact⟨(hs.2 p.1 ne).trans e,n,ne,nf,d⟩
 ·refine(I.hok b ob e).stay (fun c w' hc q=>(hs.2 c ?_).trans q) (fun _ q=>q) fun _ _ q=>q
  rintro rfl
  rcases hc with rfl|hc
  ·rw[I.free] at e;cases e
  ·rw[I.free] at hc;cases hc
def QgP (a:Addr)(cv:Value):HO:=.ext fun h=>∃o,h.get? a=some o/\o.cls=cv
def Ends.less (D:Ends)(i:Nat):Ends:={ D with nx:=fun σ H=>D.nx (σ.set i none) H,ct:=fun σ H=>D.ct (σ.set i none) H,bk:=fun σ H=>D.bk (σ.set i none) H }
def PHA (X:Cx):List ExceptHandler->List (Addr×Nat×TS)->Prop
 |.ExceptHandler (some (.Name x np)) (some n) (b₀::suite) pos::rest,(C,i,ts)::r=>Gl X x/\X.mg x=some (.ref C)/\@6=false/\X.N.Nodup/\X.N[i]? = some n/\X.env.kindOf n=some .local/\X.env.scope.names.lookup n=some .local/\(∀ev,PSs (X.sui ev) (b₀::suite) ts)/\PHA X rest r
 | [],[]=>True
 |_,_=>False
variable {hs:List ExceptHandler}
theorem Ql1 {x n:Str}{np pos:Pos}{b₀:Stmt}{suite:List Stmt}{rest:List ExceptHandler}{C:Addr}{i:Nat}{ts:TS}{r:List (Addr×Nat×TS)}(hm:X.mg x=some (.ref C))(hN:X.N.Nodup)(hsu:∀ev,PSs (X.sui ev) (b₀::suite) ts)(hr:PHA X rest r)(hi:X.N[i]? = some n:=by rfl)(hk:X.env.kindOf n=some .local:=by rfl)(hl:X.env.scope.names.lookup n=some .local:=by rfl)(hg:Gl X x:=by rfl)(hdb:@6=false:=by decide) :
  PHA X (.ExceptHandler (some (.Name x np)) (some n) (b₀::suite) pos::rest) ((C,i,ts)::r):=⟨hg,hm,hdb,hN,hi,hk,hl,hsu,hr⟩
theorem Qoh:PHA X [] []:=z54
theorem Qoi {K:z00}{a:Addr}{t c:Value}(e:z40 K t c=some true):Answers (fun s=>K.In s.heap/\∃o,s.heap.get? a=some o/\o.cls=t) (.ref a) c true:=by
 intro dep tk prog w A R s hs
 obtain⟨h0,g,d,tt,os⟩:=s
 obtain⟨⟨X,o,ho,hc⟩,hq⟩:=hs
 have LT:zq3 @15 h0 (typeOf (.ref a)) t:=hc▸(zr0 ho).andThen .now
 unfold z40 at e
 unfold Builtin.«isinstance.nested»
 refine z13 (LT.at ?_)
 by_cases q:(t == c)=true
 ·rw[if_pos q]
  first
   |((repeat lk);exact hq tt)
   |exact z13 (zv2 (hq tt))
   |exact z13 (zv2 (z33 (hq tt)))
 ·rw[if_neg q] at e
  rw[if_neg q]
  obtain⟨hty,his,hsub⟩:=PySem.W.kit_cls (M:=model prog w) X e
  have LI:zq3 @15 h0 (isInstance (.ref a) c) true:=LT.andThen hsub
  refine z13 (hty.at ?_)
  rw[if_pos @1]
  k_delta "plainIsInstance"
  refine z13 (z13 (his.at ?_))
  simp only[Bool.not_true,zd0,if_false]
  refine z13 (LI.at ?_)
  first
   |exact z33 (z33 (hq tt))
   |(simp only[if_true];first|exact z33 (z33 (hq tt))|exact z33 (hq tt)|exact z13 (z33 (z33 (hq tt))))
end
structure Sw (k b:Nat)(d:PyData):Prop where
 sh:d.showable=true
 dp:d.depth<=k
 bk:d.bulk<=b
 sl:d.leavesShort 64=true
theorem Sw.int {n:Int}(h:n.natAbs<10 ^ 62):Sw 0 0 (.int n) where
 sh:=by
  simp only[zx1]
  exact decide_eq_true (zp4 (z37 h (by decide +kernel)))
 dp:=by simp[PyData.depth]
 bk:=by simp[PyData.bulk]
 sl:=by
  have e:=int_text_length_le10 (k:=62) @1 h
  simp only[zu5]
  refine decide_eq_true ?_
  show(zj8 (toString n)).length<=64
  rw[zt0];exact z65 e @1
end L2
namespace L2
open PySem PySem.Spec PySem.Calls PyProof.Rows PySem.W Builtin Builtin.ObjectAttr Builtin.Getset_descriptor
def JB (K:Frag)(D:Addr):Bool:=
 decide (findIn K (.ref D) "__getattribute__" = some (some (.builtin "BaseException.__getattribute__"))) && decide (findIn K (.ref D) "__getattr__" = some none) && (clsIn K D).isSome && decide (findIn K (.ref D) "__class__" = some (some (.builtin "object.__class__"))) && decide (specialIn K (.builtin "object.__class__") "__get__" = some (some (.builtin "getset_descriptor.__get__")))
  && decide (takesIn K (.builtin "object.__class__")=some true) && decide (mroIn K D (.type "object")=some true) && decide (mroIn K D (.type "BaseException")=some true)
section
variable {K:Frag}{x D:Addr}{s:Shared}{A:Around}{E:Value->Shared->Prop}{prog:Program}{w:World}
theorem QiW {M:Model}{h:Heap}{name:Str}{g a t:Value}(X:K.In h)(ha:findIn K (.ref D) name=some (some a))(hg:specialIn K a "__get__" = some (some g))(ht:takesIn K a=some true) :
  Looks M h (zx9 t (.ref D) name) (.bind g a):=by
 refine(looks_findIn X ha).andThen ((looks_specialIn X hg).andThen ?_)
 refine Looks.andThen (a:=some (g,a)) ?_ (Looks.tag .now)
 exact(looks_takesIn X ht).andThen .now
theorem Ql2 {tp:Value}{R:Result->Shared->Prop}(X:K.In s.heap)(L0:Looks @15 s.heap (typeOf (.ref x)) (.ref D))(hm:mroIn K D (.type "object")=some true)
  (h:R (.ok (.ret (.ref D))) s):codeAny @15 A (.call (.builtin "getset_descriptor.__get__") ⟨[.builtin "object.__class__",.ref x,tp],[]⟩) R s:=by
 obtain⟨hh,g,dr,t,os⟩:=s
 have L1:=looks_mroIn (M:=model prog w) X hm
 refine codeAny_call_builtin KF.slot_gs.plain KF.entry_gs (KF.slot_gs.check _ _ _ _ _ _ _ _ KF.type_class (KF.args_gs _ _ _) ?_)
 unfold Builtin.«getset_descriptor.__get__» descrGet
 rw[dga_obj]
 refine z13 (z33 ?_)
 unfold zs2 zs3 zs1 isInstance
 simp only[KF.owner_class]
 repeat lk
 refine⟨Code.quiet_builtin _ (by decide +kernel),codeAny_builtin KF.entry_class ?_⟩
 unfold Builtin.«object.__class__» shownTypeOf
 repeat lk
 exact h
theorem Ql3 {M:Model}{nv:Value}{Q:Unit->Shared->Prop}(X:K.In s.heap)(L0:Looks M s.heap (typeOf (.ref x)) (.ref D))(hm:mroIn K D (.type "BaseException")=some true)(hq:Q () s):wpAny M A (checkBuiltinCall "BaseException.__getattribute__" ⟨[.ref x,nv],[]⟩) Q E s:=by
 have hk:builtinKind "BaseException.__getattribute__" = some .slot:=by decide +kernel
 have hsplit:splitId "BaseException.__getattribute__" = some ("BaseException","__getattribute__"):=by decide +kernel
 have ha:=F.args_bexc_ga (.ref x) nv
 have L4:=looks_mroIn (M:=M) X hm
 simp only[checkBuiltinCall,hk,hsplit]
 refine z13 ?_
 unfold isInstance
 repeat (any_goals (first|assumption|lk|wp_step))
theorem QjZ {Q:Option Value->Shared->Prop}{o:Obj}(p:JB K D=true)(X:K.In s.heap)(ho:s.heap.get? x=some o)(hc:o.cls=.ref D)(h:Q (some (.ref D)) { s with toks:=s.toks+1 }) :
  wpAny @15 A (getAttr? (.ref x) "__class__") Q E s:=by
 unfold JB at p
 simp only[z70,decide_eq_true_eq] at p
 obtain⟨⟨⟨⟨⟨⟨⟨p0,p1⟩,p2⟩,p3⟩,p4⟩,p5⟩,p6⟩,p7⟩:=p
 obtain⟨hh,g,d,t,os⟩:=s
 have L0:Looks @15 hh (typeOf (.ref x)) (.ref D):=hc▸(Looks.ld ho).andThen .now
 have L1:=looks_findIn (M:=model prog w) X p0
 have L2:=QiW (M:=model prog w) (t:=.ref x) X p3 p4 p5
 have L3:=looks_findIn (M:=model prog w) X p1
 have f3:=F.attr_ValueError.ga.bind (.ref x)
 have hx2:(zl3 "BaseException.__getattribute__" == zl3 "object.__getattribute__")=false:=by decide +kernel
 have hx1:¬ ((onTheHeap (z42 D) && zl3 "BaseException.__getattribute__" == zl3 "object.__getattribute__")=true):=by rw[hx2,Bool.and_false];decide
 unfold getAttr? getAttrBy? getAttrBy
 refine z13 (wpAny_mkText (z13 (zo9 (zc0 (z13 (L0.at (z13 (L1.at ?_))))))))
 dsimp only
 rw[if_neg hx1]
 unfold getAttrByItsOwn
 refine z13 ?_
 show wpAny _ _ (typeLookup (.ref D) "__getattr__") _ _ _
 refine L3.at ?_
 refine z13 (zo9 (zc0 ?_))
 show wpAny _ _ (boundAndCalled _ _ _) _ _ _
 unfold boundAndCalled
 refine z13 (wpAny_of_eq f3 ?_)
 refine zv3 (codeAny_call_builtin F.attr_ValueError.ga.plain F.entry_bexc_ga (Ql3 (D:=D) X L0 p7 ?_))
 unfold Builtin.«object.__getattribute__»
 refine z13 (z33 (z13 (z33 (z13 (L0.at (z13 (L2.at ?_)))))))
 show wpAny _ _ (ObjectAttr.bindTo _ _ _ _) _ _ _
 show wpAny _ _ (holding [_] (call _ [_,.ref x,.ref D]) >>= ret) _ _ _
 refine z13 (zc0 (zv3 (Ql2 (s:=⟨hh,g,d,t+1,os⟩) X L0 p6 ?_)))
 refine z33 ?_
 exact handed_on rfl (z33 h)
theorem Ql4 (p:JB K D=true):KitX K (.ref x) (.ref D) (fun h=>∃o,h.get? x=some o/\o.cls=.ref D):=by
 have pc:∃cd,clsIn K D=some cd:=by
  unfold JB at p
  simp only[z70] at p
  exact zq5.mp p.1.1.1.1.1.2
 obtain⟨cd,hcd⟩:=pc
 unfold clsIn at hcd
 split at hcd
 ·rename_i c' d' cd' sl' ho
  refine⟨fun _ _ _ ⟨o,h1,h2⟩=>h2▸(Looks.ld h1).andThen .now,fun M h X _=>?_,fun h tp dd its n sl X htp=>?_,fun X ⟨o,h1,h2⟩ k=>QjZ p X h1 h2 k⟩
  ·intro A' Q' E' s' k q
   unfold isType loadHead
   exact z13 (wpAny_loadPart (k _ _ (X _ _ ho)) (z33 q))
  ·refine zi2.mpr fun q=>?_
   have e:D=tp:=zw0 (beq_iff_eq.mp q)
   subst e
   have z:=(X _ _ ho).symm.trans htp
   cases z
 ·cases hcd
end
section
variable {X:Cx}
def Qu9:V->Option Value
 |.ref C=>some (.ref C)
 |.ty n=>some (.type n)
 |_=>none
def QqH (K:z00):List V->Hp->VK->Prop:=fun xs H Q=>∃a t cv c b,xs=[.ref a,cv]/\Qu9 cv=some c/\H a=some (QgP a (.ref t))/\z40 K (.ref t) c=some b/\(b=false->JB K t=true)/\Q (.bl b) H
theorem Vm:Qaf X (.builtin "isinstance") (QqH X.K):=by
 intro pins s σ H xs us Q I r h
 obtain⟨a,t,cv,c,b,rfl,hcv,ha,e,hb,q⟩:=h
 obtain⟨u,v,rfl,ru,rv⟩:=vals2 r
 cases ru
 have ev:v=c:=by
  unfold Qu9 at hcv
  split at hcv<;>cases hcv<;>exact rv
 subst ev
 obtain⟨⟨o,ho,hc⟩,_⟩:=I.hok a _ ha
 cases b with
 |true=>
  exact call_isinstance (S:=fun _ R s=>(X.K.In s.heap/\∃o,s.heap.get? a=some o/\o.cls=.ref t)/\∀tk,R (.ok (.ret (.bool true))) { s with toks:=tk })
   (fun prog w A R s hs=>isinstance_outer (Qoi e 0 _ prog w A R s hs) (fun z=>nomatch z)) ⟨⟨I.kIn,o,ho,hc⟩,fun tk=>⟨.bl true,H,I.tok _,rfl,q⟩⟩
 |false=>
  exact call_isinstance (S:=fun _ R s=>(X.K.In s.heap/\∃o,s.heap.get? a=some o/\o.cls=.ref t)/\∀tk,R (.ok (.ret (.bool false))) { s with toks:=tk })
   (fun prog w A R s hs=>isinstance_outer (kit_ans (Ql4 (hb rfl)) e 0 _ prog w A R s hs) (fun z=>nomatch z)) ⟨⟨I.kIn,o,ho,hc⟩,fun tk=>⟨.bl false,H,I.tok _,rfl,q⟩⟩
end
end L2
namespace L2.Srt
open PySem PySem.W PyProof.Rows
structure Ord (n:Nat)(lt:Nat->Nat->Bool):Prop where
 ir:∀i,lt i i=false
 tr:∀i j k,lt i j=true->lt j k=true->lt i k=true
 to:∀i j,i<n->j<n->i≠j->lt i j=false->lt j i=true
end L2.Srt
namespace L2.Srt
open PySem PyProof.Rows
def Qoj:Bool->Keyed->Array Keyed->Nat->Nat->Nat->StateT SortSt Sem (Option Nat):=sortPriv% PySem.Builtin.gallop
def Ql5:Array Keyed->Array Keyed->StateT SortSt Sem (Array Keyed):=sortPriv% PySem.Builtin.mergeLo
def Ql6:Array Keyed->Array Keyed->StateT SortSt Sem (Array Keyed):=sortPriv% PySem.Builtin.mergeHi
section
variable {J:Shared->Prop}{M:Model}{A:Around}{E:Value->Shared->Prop}{α β:Type}{st:SortSt}
def wpT (J:Shared->Prop)(M:Model)(A:Around)(E:Value->Shared->Prop){α:Type}(m:StateT SortSt Sem α)(Q:α->SortSt->Prop)(st:SortSt):Prop:=
 ∀s,J s->wpAny M A (m st) (fun r s'=>J s'/\Q r.1 r.2) E s
theorem QfU {m:StateT SortSt Sem α}{Q:α->SortSt->Prop}(h:wpT J M A E m Q st){s:Shared}(hs:J s):wpAny M A (m st) (fun r s'=>J s'/\Q r.1 r.2) E s:=h s hs
theorem Qe {a:α}{Q:α->SortSt->Prop}(h:Q a st):wpT J M A E (pure a:StateT SortSt Sem α) Q st:=fun s hs=>z33 ⟨hs,h⟩
theorem Qd {m:StateT SortSt Sem α}{f:α->StateT SortSt Sem β}{Q:β->SortSt->Prop}(h:wpT J M A E m (fun a st'=>wpT J M A E (f a) Q st') st):wpT J M A E (m >>= f) Q st:=fun s hs=>
 z13 (zb0 (h s hs) (fun r s' h'=>h'.2 s' h'.1) fun _ _ e=>e)
theorem QR {m:StateT SortSt Sem α}{Q Q':α->SortSt->Prop}(h:wpT J M A E m Q st)(k:∀a st',Q a st'->Q' a st'):wpT J M A E m Q' st:=fun s hs=>
 zb0 (h s hs) (fun r _ h'=>⟨h'.1,k _ _ h'.2⟩) fun _ _ e=>e
theorem J0 {Q:SortSt->SortSt->Prop}(h:Q st st):wpT J M A E (get:StateT SortSt Sem SortSt) Q st:=fun s hs=>z33 ⟨hs,h⟩
theorem Qok {st':SortSt}{Q:PUnit->SortSt->Prop}(h:Q ⟨⟩ st'):wpT J M A E (set st':StateT SortSt Sem PUnit) Q st:=fun s hs=>z33 ⟨hs,h⟩
theorem Jj {f:SortSt->SortSt}{Q:PUnit->SortSt->Prop}(h:Q ⟨⟩ (f st)):wpT J M A E (modify f:StateT SortSt Sem PUnit) Q st:=fun s hs=>z33 ⟨hs,h⟩
theorem QaX {x:String}{Q:Unit->SortSt->Prop}(h:Q () st):wpT J M A E (liftM (rule x):StateT SortSt Sem Unit) Q st:=fun s hs=>by
 show wpAny M A (rule x >>= fun a=>pure (a,st)) _ E s
 exact z13 (zv2 (z33 ⟨hs,h⟩))
theorem Ql {c:Prop}[Decidable c]{m u:StateT SortSt Sem α}{Q:α->SortSt->Prop}(h1:c->wpT J M A E m Q st)(h2:¬c->wpT J M A E u Q st):wpT J M A E (if c then m else u) Q st:=by
 by_cases h:c
 ·rw[if_pos h];exact h1 h
 ·rw[if_neg h];exact h2 h
theorem Qhz (f:Nat->β->StateT SortSt Sem (ForInStep β))(I:Nat->β->SortSt->Prop)(Q:β->SortSt->Prop)(b0:Nat)
  (step:∀i c st,i<b0->I i c st->wpT J M A E (f i c) (fun r st'=>match r with|.done c'=>Q c' st'|.yield c'=>I (i+1) c' st') st) (fin:∀c st,I b0 c st->Q c st) :
  ∀(n i:Nat) (c:β) (st:SortSt),i+n=b0->I i c st->wpT J M A E (forIn (zv5 i n 1) c f) Q st:=fun n=>by
 induction n with
 |zero=>intro i c st e h;have:i=b0:=e;subst this;rw[List.range'_zero,List.forIn_nil];exact Qe (fin _ _ h)
 |succ n ih=>
  intro i c st e h
  rw[List.range'_succ,List.forIn_cons]
  refine Qd (QR (step i c st @0 h) fun r st' h'=>?_)
  cases r with
  |done c'=>exact Qe h'
  |yield c'=>exact ih (i+1) c' st' @0 h'
theorem JP {b0:Nat}{f:Nat->β->StateT SortSt Sem (ForInStep β)}(I:Nat->β->SortSt->Prop){Q:β->SortSt->Prop}
  (step:∀i c st,i<b0->I i c st->wpT J M A E (f i c) (fun r st'=>match r with|.done c'=>Q c' st'|.yield c'=>I (i+1) c' st') st)
  (fin:∀c st,I b0 c st->Q c st) {c:β} (h:I 0 c st):wpT J M A E (forIn [:b0] c f) Q st:=by
 rw[zh0]
 have hsz:([:b0]:zh2).size=b0:=by simp[zm0]
 show wpT J M A E (forIn (zv5 0 ([:b0]:zh2).size 1) c f) Q st
 rw[hsz]
 exact Qhz f I Q b0 step fin b0 0 c st @0 h
theorem QeZ {a b0:Nat}(hab:a<=b0){f:Nat->β->StateT SortSt Sem (ForInStep β)}(I:Nat->β->SortSt->Prop){Q:β->SortSt->Prop}
  (step:∀i c st,a<=i->i<b0->I i c st->wpT J M A E (f i c) (fun r st'=>match r with|.done c'=>Q c' st'|.yield c'=>I (i+1) c' st') st)
  (fin:∀c st,I b0 c st->Q c st) {c:β} (h:I a c st):wpT J M A E (forIn [a:b0] c f) Q st:=by
 rw[zh0]
 have hsz:([a:b0]:zh2).size=b0 - a:=by simp[zm0]
 show wpT J M A E (forIn (zv5 a ([a:b0]:zh2).size 1) c f) Q st
 rw[hsz]
 refine Qhz f (fun i c st=>a<=i/\I i c st) Q b0 (fun i c st hi h=>QR (step i c st h.1 hi h.2) fun r st' h'=>?_) (fun c st h=>fin c st h.2) (b0 - a) a c st @0 ⟨z24 _,h⟩
 cases r with
 |done c'=>exact h'
 |yield c'=>exact⟨by lia,h'⟩
end
structure Od (U:Keyed->Prop)(L:Keyed->Keyed->Bool):Prop where
 tr:∀x y z,L x y=true->L y z=true->L x z=true
 ir:∀x,L x x=false
 to:∀x y,U x->U y->x≠y->L x y=false->L y x=true
abbrev Sd (L:Keyed->Keyed->Bool)(l:List Keyed):Prop:=l.Pairwise fun x y=>L x y=true
abbrev H (a:Array Keyed)(i:Nat):Keyed:=a.getD i (z39,z39)
theorem QiX {a:Array Keyed}{i:Nat}(h:i<a.size):a[i]? = some (H a i):=by
 rw[H,z32,z79 h];rfl
def Ask (J:Shared->Prop)(M:Model)(A:Around)(E:Value->Shared->Prop)(κ:SortKind)(U:Keyed->Prop)(L:Keyed->Keyed->Bool):Prop:=
 ∀x y st (Q:Option Bool->SortSt->Prop),kindOf st=κ->U x->U y->Q (some (L x y)) st->wpT J M A E (lt' x y) Q st
section
variable {J:Shared->Prop}{M:Model}{A:Around}{E:Value->Shared->Prop}{st:SortSt}{κ:SortKind}{U:Keyed->Prop}{L:Keyed->Keyed->Bool}
theorem Qt {a:Array Keyed}{i:Nat}{Q:Keyed->SortSt->Prop}(h:i<a.size)(q:Q (H a i) st):wpT J M A E (elem' a i) Q st:=by
 rw[elem'_eq,QiX h];exact Qe q
structure Mg (L:Keyed->Keyed->Bool)(T O A1 B1:List Keyed):Prop where
 pm:(O++(A1++B1)).Perm T
 so:Sd L O
 oa:∀x∈O,∀y∈A1,L x y=true
 ob:∀x∈O,∀y∈B1,L x y=true
 sa:Sd L A1
 sb:Sd L B1
variable {T O A1 A2 B1 B2 P:List Keyed}{x:Keyed}
theorem Mg.mvA (m:Mg L T O (P++A2) B1)(h:∀x∈P,∀y∈B1,L x y=true):Mg L T (O++P) A2 B1:=by
 obtain⟨s1,s2,s3⟩:=z34.mp m.sa
 refine⟨?_,z34.mpr ⟨m.so,s1,fun x hx y hy=>m.oa x hx y (z06 _ hy)⟩,fun x hx y hy=>?_,fun x hx y hy=>?_,s2,m.sb⟩
 ·have:=m.pm
  rw[z20] at this ⊢
  exact this
 ·rcases z05.mp hx with hx|hx
  ·exact m.oa x hx y (z02 _ hy)
  ·exact s3 x hx y hy
 ·rcases z05.mp hx with hx|hx
  ·exact m.ob x hx y hy
  ·exact h x hx y hy
theorem Mg.mvB (m:Mg L T O A1 (P++B2))(h:∀x∈P,∀y∈A1,L x y=true):Mg L T (O++P) A1 B2:=by
 obtain⟨s1,s2,s3⟩:=z34.mp m.sb
 refine⟨?_,z34.mpr ⟨m.so,s1,fun x hx y hy=>m.ob x hx y (z06 _ hy)⟩,fun x hx y hy=>?_,fun x hx y hy=>?_,m.sa,s2⟩
 ·refine zi4 ?_ m.pm
  rw[z20]
  refine zc9 O ?_
  rw[← z20,← z20]
  exact List.Perm.append_right _ zd3
 ·rcases z05.mp hx with hx|hx
  ·exact m.oa x hx y hy
  ·exact h x hx y hy
 ·rcases z05.mp hx with hx|hx
  ·exact m.ob x hx y (z02 _ hy)
  ·exact s3 x hx y hy
theorem Mg.Qva (m:Mg L T O A1 []):(O++A1).Perm T/\Sd L (O++A1):=by
 refine⟨?_,z34.mpr ⟨m.so,m.sa,m.oa⟩⟩
 have:=m.pm
 rw[z52] at this;exact this
theorem Mg.Qvb (m:Mg L T O [] B1):(O++B1).Perm T/\Sd L (O++B1):=⟨m.pm,z34.mpr ⟨m.so,m.sb,m.ob⟩⟩
theorem Mg.Qvc (m:Mg L T O [x] B1)(h:∀y∈B1,L y x=true):(O++B1++[x]).Perm T/\Sd L (O++B1++[x]):=by
 refine⟨?_,?_⟩
 ·refine zi4 ?_ m.pm
  rw[z20]
  exact zc9 O zd3
 ·rw[z20]
  exact z34.mpr ⟨m.so,z34.mpr ⟨m.sb,z81.mpr ⟨@2,.nil⟩,fun y hy z hz=>by rw[z26.mp hz];exact h y hy⟩,fun y hy z hz=>by
   rcases z05.mp hz with hz|hz
   ·exact m.ob y hy z hz
   ·exact m.oa y hy z hz⟩
def bey (L:Keyed->Keyed->Bool)(left:Bool)(key:Keyed)(a:Array Keyed)(b i:Nat):Bool:=if left=true then L (H a (b+i)) key else !(L key (H a (b+i)))
theorem QhA {n:Nat}{g:Nat->Bool}{f:Nat->Option (Option Nat)×Nat×Nat->StateT SortSt Sem (ForInStep (Option (Option Nat)×Nat×Nat))}(mono:∀i j,i<=j->j<n->g j=true->g i=true)
  (hf:∀x lo hi (R:ForInStep (Option (Option Nat)×Nat×Nat)->SortSt->Prop),lo<hi->hi<=n->R (if g (lo+(hi - lo) / 2)=true then .yield (none,lo+(hi - lo) / 2+1,hi) else .yield (none,lo,lo+(hi - lo) / 2)) st->wpT J M A E (f x (none,lo,hi)) R st)
  (hf2:∀x lo hi (R:ForInStep (Option (Option Nat)×Nat×Nat)->SortSt->Prop),lo ≥ hi->R (.done (none,lo,hi)) st->wpT J M A E (f x (none,lo,hi)) R st)
  {lo hi:Nat} (h1:lo<=hi) (h2:hi<=n) (h3:∀i<lo,g i=true) (h4:∀i,hi<=i->i<n->g i=false) :
  wpT J M A E (forIn [:n] (none,lo,hi) f) (fun c st'=>∃k,c=(none,k,k)/\st'=st/\k<=n/\(∀i<k,g i=true)/\(∀i,k<=i->i<n->g i=false)) st:=by
 refine JP (I:=fun x c st'=>∃lo hi,c=(none,lo,hi)/\st'=st/\lo<=hi/\hi<=n/\hi - lo<=n - x/\(∀i<lo,g i=true)/\(∀i,hi<=i->i<n->g i=false)) ?_ ?_ ⟨lo,hi,rfl,rfl,h1,h2,by lia,h3,h4⟩
 ·rintro x c st' hx ⟨lo,hi,rfl,rfl,g1,g2,g3,g4,g5⟩
  by_cases c:lo ≥ hi
  ·have:lo=hi:=by lia
   subst this
   exact hf2 x lo lo _ c ⟨lo,rfl,rfl,g2,g4,g5⟩
  ·refine hf x lo hi _ @0 g2 ?_
   cases e:g (lo+(hi - lo) / 2) with
   |true=>exact⟨_,hi,rfl,rfl,by lia,g2,by lia,fun i hi'=>mono i _ @0 @0 e,g5⟩
   |false=>
    refine⟨lo,_,rfl,rfl,by lia,by lia,by lia,g4,fun i i1 i2=>?_⟩
    cases e2:g i with
    |false=>rfl
    |true=>rw[mono _ i i1 i2 e2] at e;cases e
 ·rintro c st' ⟨lo,hi,rfl,rfl,g1,g2,g3,g4,g5⟩
  have:lo=hi:=by lia
  subst this
  exact⟨lo,rfl,rfl,g2,g4,g5⟩
theorem JG (ask:Ask J M A E κ U L){left:Bool}{key:Keyed}{a:Array Keyed}{b n h:Nat}{Q:Option Nat->SortSt->Prop}(hk:kindOf st=κ)(uk:U key)(ua:∀i<n,U (H a (b+i)))(hn:h<n)(hb:b+n<=a.size)
  (mono:∀i j,i<=j->j<n->bey L left key a b j=true->bey L left key a b i=true)
  (K:∀k,k<=n->(∀i<k,bey L left key a b i=true)->(∀i,k<=i->i<n->bey L left key a b i=false)->Q (some k) st):wpT J M A E (Qoj left key a b n h) Q st:=by
 intro s hs
 wp_delta
 wp_delta
 refine QfU ?_ hs
 have by_:∀{i:Nat} {R:Option Bool->SortSt->Prop},i<n->R (some (bey L left key a b i)) st->wpT J M A E (do
   let x ← elem' a (b+i)
   if left=true then lt' x key else do
    let r ← lt' key x
    pure (Option.map (fun x=>!x) r)) R st:=fun{i R} hi r=>by
  refine Qd (Qt @0 ?_)
  unfold bey at r
  cases left with
  |true=>rw[if_pos rfl];exact ask _ _ _ _ hk (ua i hi) uk r
  |false=>rw[if_neg @1];exact Qd (ask _ _ _ _ hk uk (ua i hi) (Qe r))
 refine Qd (by_ hn ?_)
 dsimp only
 cases e0:bey L left key a b h with
 |true=>
  rw[if_pos rfl]
  refine Qd (QR (JP (I:=fun x c st'=>∃lf f,c=(none,lf,f)/\st'=st/\lf<f/\x+1<=f/\h+lf<n/\bey L left key a b (h+lf)=true)
   (Q:=fun c st'=>∃lf f,c=(none,lf,f)/\st'=st/\lf<f/\h+lf<n/\bey L left key a b (h+lf)=true/\(n - h<=f\/bey L left key a b (h+f)=false)) ?_ ?_ ⟨0,1,rfl,rfl,by lia,by lia,by lia,e0⟩) ?_)
  ·rintro x c st' hx ⟨lf,f,rfl,rfl,g1,g2,g3,g4⟩
   dsimp only
   refine Ql (fun c=>Qe ⟨lf,f,rfl,rfl,g1,g3,g4,.inl c⟩) (fun c=>?_)
   refine Qd (by_ (i:=h+f) @0 ?_)
   cases e:bey L left key a b (h+f) with
   |true=>exact Qe ⟨f,_,rfl,rfl,by lia,by lia,by lia,e⟩
   |false=>exact Qe ⟨lf,f,rfl,rfl,g1,g3,g4,.inr e⟩
  ·rintro c st' ⟨lf,f,rfl,rfl,g1,g2,g3,g4⟩
   exact⟨lf,f,rfl,rfl,g1,g3,g4,.inl @0⟩
  ·rintro c st' ⟨lf,f,rfl,rfl,g1,g3,g4,g5⟩
   refine Qd (QR (QhA (g:=bey L left key a b) mono (fun x lo hi R l1 l2 r=>by
     dsimp only
     rw[if_neg @0]
     refine Qd (by_ @0 ?_)
     cases e:bey L left key a b (lo+(hi - lo) / 2) with
     |true=>rw[e,if_pos rfl] at r;exact Qe r
     |false=>rw[e,if_neg @1] at r;exact Qe r) (fun x lo hi R l1 r=>by
     dsimp only
     rw[if_pos l1];exact Qe r) (lo:=h+lf+1) (hi:=h+min f (n - h)) @0 @0 (fun i hi=>mono i (h+lf) @0 g3 g4) (fun i i1 i2=>?_)) fun c st' q=>by
    obtain⟨k,rfl,rfl,g1,g2,g3⟩:=q
    exact Qe (K k g1 g2 g3))
   rcases g5 with g5|g5
   ·lia
   ·cases e2:bey L left key a b i with
    |false=>rfl
    |true=>rw[mono (h+f) i @0 i2 e2] at g5;cases g5
 |false=>
  rw[if_neg @1]
  refine Qd (QR (JP (I:=fun x c st'=>∃lf f,c=(none,lf,f)/\st'=st/\lf<f/\x+1<=f/\lf<=h/\bey L left key a b (h - lf)=false)
   (Q:=fun c st'=>∃lf f,c=(none,lf,f)/\st'=st/\lf<f/\lf<=h/\bey L left key a b (h - lf)=false/\(h+1<=f\/(f<=h/\bey L left key a b (h - f)=true))) ?_ ?_ ⟨0,1,rfl,rfl,by lia,by lia,by lia,e0⟩) ?_)
  ·rintro x c st' hx ⟨lf,f,rfl,rfl,g1,g2,g3,g4⟩
   dsimp only
   refine Ql (fun c=>Qe ⟨lf,f,rfl,rfl,g1,g3,g4,.inl c⟩) (fun c=>?_)
   refine Qd (by_ (i:=h - f) @0 ?_)
   cases e:bey L left key a b (h - f) with
   |true=>exact Qe ⟨lf,f,rfl,rfl,g1,g3,g4,.inr ⟨by lia,e⟩⟩
   |false=>exact Qe ⟨f,_,rfl,rfl,by lia,by lia,by lia,e⟩
  ·rintro c st' ⟨lf,f,rfl,rfl,g1,g2,g3,g4⟩
   exact⟨lf,f,rfl,rfl,g1,g3,g4,.inl @0⟩
  ·rintro c st' ⟨lf,f,rfl,rfl,g1,g3,g4,g5⟩
   refine Qd (QR (QhA (g:=bey L left key a b) mono (fun x lo hi R l1 l2 r=>by
     dsimp only
     rw[if_neg @0]
     refine Qd (by_ @0 ?_)
     cases e:bey L left key a b (lo+(hi - lo) / 2) with
     |true=>rw[e,if_pos rfl] at r;exact Qe r
     |false=>rw[e,if_neg @1] at r;exact Qe r) (fun x lo hi R l1 r=>by
     dsimp only
     rw[if_pos l1];exact Qe r) (lo:=h+1 - min f (h+1)) (hi:=h - lf) @0 @0 (fun i hi=>?_) (fun i i1 i2=>?_)) fun c st' q=>by
    obtain⟨k,rfl,rfl,g1,g2,g3⟩:=q
    exact Qe (K k g1 g2 g3))
   ·rcases g5 with g5|⟨g5,g6⟩
    ·lia
    ·exact mono i (h - f) @0 @0 g6
   ·cases e2:bey L left key a b i with
    |false=>rfl
    |true=>rw[mono (h - lf) i i1 i2 e2] at g4;cases g4
end
def QtF:Nat->StateT SortSt Sem Unit:=sortPriv% PySem.Builtin.setMinGallop
structure Ev (st st':SortSt):Prop where
 k:kindOf st'=kindOf st
 a:arrOf st'=arrOf st
 p:pendingOf st'=pendingOf st
 f:failedOf st'=failedOf st
theorem Ev.refl (st:SortSt):Ev st st:=⟨rfl,rfl,rfl,rfl⟩
theorem Ev.trans {s t u:SortSt}(h:Ev s t)(k:Ev t u):Ev s u:=⟨k.k.trans h.k,k.a.trans h.a,k.p.trans h.p,k.f.trans h.f⟩
section
variable {J:Shared->Prop}{M:Model}{A:Around}{E:Value->Shared->Prop}{st:SortSt}{κ:SortKind}{U:Keyed->Prop}{L:Keyed->Keyed->Bool}{a b:Array Keyed}
theorem Qc0 {g:Nat}{Q:Unit->SortSt->Prop}(h:∀st',Ev st st'->Q () st'):wpT J M A E (QtF g) Q st:=by
 intro s hs
 wp_delta
 wp_delta
 exact z33 ⟨hs,h _ ⟨rfl,rfl,rfl,rfl⟩⟩
theorem J3 {i:Nat}(h:i<a.size):H a i∈a.toList:=by
 have:=QiX h
 rw[← z43] at this
 exact z59 this
theorem QhB {i:Nat}(h:i<a.size):a.toList.drop i=H a i::a.toList.drop (i+1):=by
 have e:=QiX h
 rw[z79 h] at e
 rw[z96 (by simpa using h),← z21 e];simp
theorem QmZ (s:Sd L a.toList){i j:Nat}(h:i<j)(hj:j<a.size):L (H a i) (H a j)=true:=by
 have e1:=QiX (show i<a.size by lia)
 have e2:=QiX hj
 rw[z79 @0] at e1 e2
 rw[← z21 e1,← z21 e2]
 have:=zb5.mp s i j (by simpa using(show i<a.size by lia)) (by simpa using hj) h
 simpa using this
theorem QaY {i:Nat}{y:Keyed}(hy:y∈a.toList.drop i):∃j,i<=j/\j<a.size/\y=H a j:=by
 obtain⟨k,hk,e⟩:=za7 hy
 rw[zn1] at e
 have hl:i+k<a.size:=by rw[z58] at hk;simp at hk;lia
 refine⟨i+k,by lia,hl,?_⟩
 have e1:=QiX hl
 rw[z79 hl] at e1
 rw[← z21 e1,← e];simp
theorem Qcr (o:Od U L)(s:Sd L a.toList){i:Nat}{x:Keyed}(h:L x (H a i)=true):∀y∈a.toList.drop i,L x y=true:=fun y hy=>by
 obtain⟨j,h1,h2,rfl⟩:=QaY hy
 by_cases e:i=j
 ·subst e;exact h
 ·exact o.tr _ _ _ h (QmZ s @0 h2)
theorem QhC {i k:Nat}(h:i+k<=a.size):a.toList.drop i=(a.extract i (i+k)).toList++a.toList.drop (i+k):=by
 rw[z86,z73,← List.drop_drop,za3,z47]
theorem Qe0 {i:Nat}:(a.extract i).toList=a.toList.drop i:=by
 rw[z86,z73,z75]
 rw[z58];simp
theorem Qj0 {i k:Nat}{y:Keyed}(h:i+k<=a.size)(hy:y∈(a.extract i (i+k)).toList):∃j,j<k/\y=H a (i+j):=by
 obtain⟨j,hj,e⟩:=za7 hy
 have hl:j<k:=by simp at hj;lia
 refine⟨j,hl,?_⟩
 have e1:=QiX (show i+j<a.size by lia)
 rw[z79 @0] at e1
 rw[← z21 e1,← e];simp
theorem Qj1 (o:Od U L)(s:Sd L a.toList){key:Keyed}{i n:Nat}(hn:i+n<=a.size):∀u v,u<=v->v<n->bey L false key a i v=true->bey L false key a i u=true:=fun u v h1 h2 h=>by
 unfold bey at h ⊢
 rw[if_neg @1] at h ⊢
 by_cases e:u=v
 ·subst e;exact h
 ·cases c:L key (H a (i+u)) with
  |false=>rfl
  |true=>rw[o.tr _ _ _ c (QmZ s (show i+u<i+v by lia) @0)] at h;cases h
theorem QfV (o:Od U L)(s:Sd L a.toList){key:Keyed}{i n:Nat}(hn:i+n<=a.size):∀u v,u<=v->v<n->bey L true key a i v=true->bey L true key a i u=true:=fun u v h1 h2 h=>by
 unfold bey at h ⊢
 rw[if_pos rfl] at h ⊢
 by_cases e:u=v
 ·subst e;exact h
 ·exact o.tr _ _ _ (QmZ s (show i+u<i+v by lia) @0) h
variable {T O:List Keyed}{i j:Nat}
structure Two (U:Keyed->Prop)(L:Keyed->Keyed->Bool)(a b:Array Keyed):Prop where
 sa:Sd L a.toList
 sb:Sd L b.toList
 ua:∀x∈a.toList,U x
 ub:∀x∈b.toList,U x
 ne:∀x∈a.toList,∀y∈b.toList,x≠y
theorem Mg.Ql7 (o:Od U L)(t:Two U L a b)(m:Mg L T O (a.toList.drop i) (b.toList.drop j))(hj:j<b.size)(h:L (H b j) (H a i)=true):Mg L T (O++[H b j]) (a.toList.drop i) (b.toList.drop (j+1)):=by
 rw[QhB hj] at m
 exact Mg.mvB (P:=[H b j]) m fun x hx=>by rw[z26.mp hx];exact Qcr o t.sa h
theorem Mg.Qj2 (o:Od U L)(t:Two U L a b)(m:Mg L T O (a.toList.drop i) (b.toList.drop j))(hi:i<a.size)(h:L (H a i) (H b j)=true):Mg L T (O++[H a i]) (a.toList.drop (i+1)) (b.toList.drop j):=by
 rw[QhB hi] at m
 exact Mg.mvA (P:=[H a i]) m fun x hx=>by rw[z26.mp hx];exact Qcr o t.sb h
theorem Two.flip (o:Od U L)(t:Two U L a b)(hi:i<a.size)(hj:j<b.size)(h:L (H b j) (H a i)=false):L (H a i) (H b j)=true:=
 o.to _ _ (t.ub _ (J3 hj)) (t.ua _ (J3 hi)) (zb9 (t.ne _ (J3 hi) _ (J3 hj))) h
theorem Mg.Qv5 (o:Od U L)(t:Two U L a b)(m:Mg L T O (a.toList.drop i) (b.toList.drop j))(hj:j<b.size){k:Nat}(hk:i+k<=a.size)(h:∀u<k,bey L false (H b j) a i u=true):Mg L T (O++(a.extract i (i+k)).toList) (a.toList.drop (i+k)) (b.toList.drop j):=by
 rw[QhC hk] at m
 refine Mg.mvA m fun x hx=>?_
 obtain⟨u,hu,rfl⟩:=Qj0 hk hx
 have:=h u hu
 unfold bey at this
 rw[if_neg @1] at this
 exact Qcr o t.sb (t.flip o @0 hj (by simpa using this))
theorem Mg.Qvd (o:Od U L)(t:Two U L a b)(m:Mg L T O (a.toList.drop i) (b.toList.drop j)){k:Nat}(hk:j+k<=b.size)(h:∀u<k,bey L true (H a i) b j u=true):Mg L T (O++(b.extract j (j+k)).toList) (a.toList.drop i) (b.toList.drop (j+k)):=by
 rw[QhC hk] at m
 refine Mg.mvB m fun x hx=>?_
 obtain⟨u,hu,rfl⟩:=Qj0 hk hx
 have:=h u hu
 unfold bey at this
 rw[if_pos rfl] at this
 exact Qcr o t.sa this
theorem Mg.len {out:Array Keyed}(m:Mg L @14 out.toList (a.toList.drop i) (b.toList.drop j))(hi:i<=a.size)(hj:j<=b.size):out.size+(a.size - i)+(b.size - j)=a.size+b.size:=by
 have:=m.pm.length_eq
 rw[z16,z16,z16,z58,z58] at this
 simp at this
 lia
def Gd (L:Keyed->Keyed->Bool)(a b r:Array Keyed):Prop:=r.toList.Perm @14/\Sd L r.toList
theorem Mg.done {out:Array Keyed}(m:Mg L @14 out.toList (a.toList.drop i) (b.toList.drop j))(h:i=a.size\/j=b.size):Gd L a b (out++a.extract i++b.extract j):=by
 unfold Gd
 rw[z56,z56,Qe0,Qe0]
 rcases h with rfl|rfl
 ·have e:a.toList.drop a.size=[]:=zf6 @9
  rw[e] at m ⊢
  rw[z52];exact m.Qvb
 ·have e:b.toList.drop b.size=[]:=zf6 @9
  rw[e] at m ⊢
  rw[z52];exact m.Qva
theorem Mg.last {out:Array Keyed}(m:Mg L @14 out.toList (a.toList.drop i) (b.toList.drop j))(h:i+1=a.size)(hl:∀y∈b.toList,L y (H a (a.size - 1))=true):Gd L a b (out++b.extract j++a.extract i):=by
 unfold Gd
 rw[z56,z56,Qe0,Qe0]
 have e:a.toList.drop i=[H a i]:=by
  rw[QhB @0,h]
  rw[zf6 @9]
 rw[e] at m ⊢
 refine m.Qvc fun y hy=>?_
 have:=hl y (ze1 hy)
 rw[show a.size - 1=i by lia] at this
 exact this
theorem Qm0 {α β:Type}{c:Prop}[Decidable c]{B:β->StateT SortSt Sem α}{y:β}{p:β->Prop}{Q:α->SortSt->Prop}(h:∀v,wpT J M A E (B v) Q st):∀x,p x->wpT J M A E (if c then B x else B y) Q st:=fun x _=>Ql (fun _=>h x) (fun _=>h y)
theorem QgQ (ask:Ask J M A E κ U L)(o:Od U L){Q:Array Keyed->SortSt->Prop}(hk:kindOf st=κ)(t:Two U L a b)(na:0<a.size)(nb:0<b.size)(hb:L (H b 0) (H a 0)=true)(hl:∀y∈b.toList,L y (H a (a.size - 1))=true)
  (K:∀r st',Ev st st'->Gd L a b r->Q r st'):wpT J M A E (Ql5 a b) Q st:=by
 intro s hs
 wp_delta
 wp_delta
 refine QfU ?_ hs
 refine Qd (QaX ?_)
 refine Qd (Qt nb ?_)
 have m0:Mg L @14 [] (a.toList.drop 0) (b.toList.drop 0):=⟨zf4 _,.nil,@2,@2,t.sa,t.sb⟩
 have m1:Mg L @14 (#[H b 0]:Array Keyed).toList (a.toList.drop 0) (b.toList.drop 1):=m0.Ql7 o t nb hb
 refine Ql (fun c=>Qe (K _ _ (.refl _) (m1.done (.inr (by simpa using c))))) (fun c1=>?_)
 refine Ql (fun c=>Qe (K _ _ (.refl _) (m1.last (by simpa using c) hl))) (fun c2=>?_)
 have c1:¬ 1=b.size:=by simpa using c1
 have c2:¬ 0+1=a.size:=by simpa using c2
 refine Qd (J0 ?_)
 refine Qd (QR (JP (I:=fun x c st'=>∃out i j g,c=(none,out,i,j,g)/\Ev st st'/\i+1<a.size/\j<b.size/\x+1<=out.size/\Mg L @14 out.toList (a.toList.drop i) (b.toList.drop j))
  (Q:=fun c st'=>∃r w,c=(some r,w)/\Ev st st'/\Gd L a b r) ?_ ?_ ⟨_,0,1,_,rfl,.refl _,by lia,by lia,by simp,m1⟩) ?_)
 ·rintro x c st1 hx ⟨Qbs,i,j,g,rfl,ev,hi,hj,hx1,m⟩
  dsimp only
  refine Qd (QR (JP (I:=fun y c st'=>∃out i j ac bc,c=(none,out,i,j,ac,bc)/\Ev st st'/\i+1<a.size/\j<b.size/\Qbs.size<=out.size/\Mg L @14 out.toList (a.toList.drop i) (b.toList.drop j))
   (Q:=fun c st'=>(∃r w,c=(some r,w)/\Ev st st'/\Gd L a b r)\/∃out i j ac bc,c=(none,out,i,j,ac,bc)/\Ev st st'/\i+1<a.size/\j<b.size/\Qbs.size<=out.size/\Mg L @14 out.toList (a.toList.drop i) (b.toList.drop j)) ?_ ?_ ⟨_,i,j,0,0,rfl,ev,hi,hj,z24 _,m⟩) ?_)
  ·rintro y c st2 hy ⟨out,i,j,ac,bc,rfl,ev,hi,hj,ho,m⟩
   dsimp only
   refine Qd (Qt hj (Qd (Qt @0 (Qd (ask _ _ _ _ (ev.k.trans hk) (t.ub _ (J3 hj)) (t.ua _ (J3 @0)) ?_)))))
   cases e:L (H b j) (H a i) with
   |true=>
    dsimp only
    rw[if_pos rfl]
    refine Qd (Qt hj ?_)
    have m2:=m.Ql7 o t hj e
    rw[← z53] at m2
    refine Ql (fun c=>Qe (.inl ⟨_,_,rfl,ev,m2.done (.inr (by simpa using c))⟩)) (fun c=>?_)
    have c:¬ j+1=b.size:=by simpa using c
    have hs:Qbs.size<=(out.push (H b j)).size:=by rw[z71];lia
    refine Ql (fun _=>Qe (.inr ⟨_,i,j+1,_,_,rfl,ev,hi,by lia,hs,m2⟩)) (fun _=>Qe ⟨_,i,j+1,_,_,rfl,ev,hi,by lia,hs,m2⟩)
   |false=>
    dsimp only
    rw[if_neg @1]
    refine Qd (Qt @0 ?_)
    have m2:=m.Qj2 o t @0 (t.flip o @0 hj e)
    rw[← z53] at m2
    refine Ql (fun c=>Qe (.inl ⟨_,_,rfl,ev,m2.last (by simpa using c) hl⟩)) (fun c=>?_)
    have c:¬ i+1+1=a.size:=by simpa using c
    have hs:Qbs.size<=(out.push (H a i)).size:=by rw[z71];lia
    refine Ql (fun _=>Qe (.inr ⟨_,i+1,j,_,_,rfl,ev,by lia,hj,hs,m2⟩)) (fun _=>Qe ⟨_,i+1,j,_,_,rfl,ev,by lia,hj,hs,m2⟩)
  ·rintro c st2 h
   exact .inr h
  rintro c st2 (⟨r,w,rfl,ev,gd⟩|⟨out,i,j,ac,bc,rfl,ev,hi,hj,ho,m⟩)
  ·exact Qe ⟨r,_,rfl,ev,gd⟩
  dsimp only
  refine Qd (QaX ?_)
  refine Qd (QR (JP (I:=fun y c st'=>∃out i j g ac bc,c=(none,out,i,j,g,ac,bc)/\Ev st st'/\i+1<a.size/\j<b.size/\Qbs.size+y<=out.size/\Mg L @14 out.toList (a.toList.drop i) (b.toList.drop j))
   (Q:=fun c st'=>(∃r w,c=(some r,w)/\Ev st st'/\Gd L a b r)\/∃out i j g ac bc,c=(none,out,i,j,g,ac,bc)/\Ev st st'/\i+1<a.size/\j<b.size/\Qbs.size+1<=out.size/\Mg L @14 out.toList (a.toList.drop i) (b.toList.drop j)) ?_ ?_ ⟨_,i,j,_,ac,bc,rfl,ev,hi,hj,ho,m⟩) ?_)
  ·rintro y c st3 hy ⟨out,i,j,g,ac,bc,rfl,ev,hi,hj,ho,m⟩
   dsimp only
   generalize hx:g - 1=x1
   revert x1
   refine Qm0 fun v=>?_
   all_goals
    refine Qd (Qc0 fun st4 ev4=>?_)
    have ev:=ev.trans ev4
    clear ev4
    refine Qd (Qt hj ?_)
    refine Qd (JG ask (ev.k.trans hk) (t.ub _ (J3 hj)) (fun u hu=>t.ua _ (J3 @0)) @0 @0 (Qj1 o t.sa @0) fun k k1 k2 k3=>?_)
    have m2:Mg L @14 (out++a.extract i (i+k)).toList (a.toList.drop (i+k)) (b.toList.drop j):=by
     rw[z56 (xs:=out)];exact m.Qv5 o t hj (k:=k) @0 k2
    have hs2:(out++a.extract i (i+k)).size=out.size+k:=by rw[zd6,Array.size_extract];lia
    have hq:i+k<a.size->L (H b j) (H a (i+k))=true:=fun h=>by
     have:=k3 k (z24 _) @0
     unfold bey at this
     rw[if_neg @1] at this
     simpa using this
    refine Ql (fun k0=>Ql (fun c=>Qe (.inl ⟨_,_,rfl,ev,m2.last (by simpa using c) hl⟩)) (fun c=>Ql (fun c=>Qe (.inl ⟨_,_,rfl,ev,m2.done (.inl (by simpa using c))⟩)) (fun c'=>?_))) (fun k0=>?_)
    rotate_left
    ·have k0:k=0:=by lia
     subst k0
     have hc:=hq (show i+0<a.size by lia)
     rw[Nat.add_zero] at hc
     refine Qd (Qt hj ?_)
     have n1:=Mg.Ql7 o t m hj hc
     rw[← z53] at n1
     have z1:Qbs.size+y+1<=(out.push (H b j)).size:=by rw[z71];have:=ho;lia
     refine Ql (fun c=>Qe (.inl ⟨_,_,rfl,ev,n1.done (.inr (by simpa using c))⟩)) (fun c=>?_)
     have hj1:j+1<b.size:=by
      have c:¬ j+1=b.size:=by simpa using c
      lia
     clear c
     generalize out.push (H b j)=Qdl at n1 z1 ⊢
     refine Qd (Qt @0 ?_)
     refine Qd (JG ask (ev.k.trans hk) (t.ua _ (J3 @0)) (fun u hu=>t.ub _ (J3 @0)) @0 @0 (QfV o t.sb @0) fun k' q1 q2 q3=>?_)
     have n2:Mg L @14 (Qdl++b.extract (j+1) (j+1+k')).toList (a.toList.drop i) (b.toList.drop (j+1+k')):=by
      rw[z56 (xs:=Qdl)];exact n1.Qvd o t (k:=k') @0 q2
     have z2:Qbs.size+y+1<=(Qdl++b.extract (j+1) (j+1+k')).size:=by rw[zd6];lia
     have hq2:j+1+k' < b.size->L (H a i) (H b (j+1+k'))=true:=fun h=>by
      have:=q3 k' (z24 _) @0
      unfold bey at this
      rw[if_pos rfl] at this
      exact t.flip o @0 h this
     refine Ql (fun k1=>Ql (fun c=>Qe (.inl ⟨_,_,rfl,ev,n2.done (.inr (by simpa using c))⟩)) (fun c=>?_)) (fun k1=>?_)
     ·have hj2:j+1+k' < b.size:=by
       have c:¬ j+1+k'=b.size:=by simpa using c
       lia
      have hc2:=hq2 hj2
      generalize Qdl++b.extract (j+1) (j+1+k')=Qol at n2 z2 ⊢
      generalize j+1+k'=j3 at n2 hj2 hc2 ⊢
      refine Qd (Qt @0 ?_)
      have n3:=n2.Qj2 o t @0 hc2
      rw[← z53] at n3
      refine Ql (fun c=>Qe (.inl ⟨_,_,rfl,ev,n3.last (by simpa using c) hl⟩)) (fun c=>?_)
      have c:¬ i+1+1=a.size:=by simpa using c
      have z3:Qbs.size+y+1<=(Qol.push (H a i)).size:=by rw[z71];lia
      exact Ql (fun _=>Qe (.inr ⟨_,_,_,_,_,_,rfl,ev,by lia,hj2,by lia,n3⟩)) (fun _=>Qe ⟨_,_,_,_,_,_,rfl,ev,by lia,hj2,by lia,n3⟩)
     ·have k1:k'=0:=by lia
      subst k1
      have hc2:=hq2 hj1
      refine Qd (Qt @0 ?_)
      have n3:=n1.Qj2 o t @0 hc2
      rw[← z53] at n3
      refine Ql (fun c=>Qe (.inl ⟨_,_,rfl,ev,n3.last (by simpa using c) hl⟩)) (fun c=>?_)
      have c:¬ i+1+1=a.size:=by simpa using c
      have z3:Qbs.size+y+1<=(Qdl.push (H a i)).size:=by rw[z71];lia
      exact Ql (fun _=>Qe (.inr ⟨_,_,_,_,_,_,rfl,ev,by lia,hj1,by lia,n3⟩)) (fun _=>Qe ⟨_,_,_,_,_,_,rfl,ev,by lia,hj1,by lia,n3⟩)
    ·have hi2:i+k+1<a.size:=by
      have c:¬ i+k+1=a.size:=by simpa using c
      have c':¬ i+k=a.size:=by simpa using c'
      lia
     have hc:=hq @0
     have ho2:Qbs.size+y<=(out++a.extract i (i+k)).size:=by rw[hs2];lia
     clear hs2 hq k2 k3 c c'
     generalize out++a.extract i (i+k)=QqI at m2 ho2 ⊢
     generalize i+k=i1 at m2 hi2 hc ⊢
     refine Qd (Qt hj ?_)
     have n1:=Mg.Ql7 o t m2 hj hc
     rw[← z53] at n1
     have z1:Qbs.size+y+1<=(QqI.push (H b j)).size:=by rw[z71];have:=ho2;lia
     refine Ql (fun c=>Qe (.inl ⟨_,_,rfl,ev,n1.done (.inr (by simpa using c))⟩)) (fun c=>?_)
     have hj1:j+1<b.size:=by
      have c:¬ j+1=b.size:=by simpa using c
      lia
     clear c
     generalize QqI.push (H b j)=Qdl at n1 z1 ⊢
     refine Qd (Qt @0 ?_)
     refine Qd (JG ask (ev.k.trans hk) (t.ua _ (J3 @0)) (fun u hu=>t.ub _ (J3 @0)) @0 @0 (QfV o t.sb @0) fun k' q1 q2 q3=>?_)
     have n2:Mg L @14 (Qdl++b.extract (j+1) (j+1+k')).toList (a.toList.drop i1) (b.toList.drop (j+1+k')):=by
      rw[z56 (xs:=Qdl)];exact n1.Qvd o t (k:=k') @0 q2
     have z2:Qbs.size+y+1<=(Qdl++b.extract (j+1) (j+1+k')).size:=by rw[zd6];lia
     have hq2:j+1+k' < b.size->L (H a i1) (H b (j+1+k'))=true:=fun h=>by
      have:=q3 k' (z24 _) @0
      unfold bey at this
      rw[if_pos rfl] at this
      exact t.flip o @0 h this
     refine Ql (fun k1=>Ql (fun c=>Qe (.inl ⟨_,_,rfl,ev,n2.done (.inr (by simpa using c))⟩)) (fun c=>?_)) (fun k1=>?_)
     ·have hj2:j+1+k' < b.size:=by
       have c:¬ j+1+k'=b.size:=by simpa using c
       lia
      have hc2:=hq2 hj2
      generalize Qdl++b.extract (j+1) (j+1+k')=Qol at n2 z2 ⊢
      generalize j+1+k'=j3 at n2 hj2 hc2 ⊢
      refine Qd (Qt @0 ?_)
      have n3:=n2.Qj2 o t @0 hc2
      rw[← z53] at n3
      refine Ql (fun c=>Qe (.inl ⟨_,_,rfl,ev,n3.last (by simpa using c) hl⟩)) (fun c=>?_)
      have c:¬ i1+1+1=a.size:=by simpa using c
      have z3:Qbs.size+y+1<=(Qol.push (H a i1)).size:=by rw[z71];lia
      exact Ql (fun _=>Qe (.inr ⟨_,_,_,_,_,_,rfl,ev,by lia,hj2,by lia,n3⟩)) (fun _=>Qe ⟨_,_,_,_,_,_,rfl,ev,by lia,hj2,by lia,n3⟩)
     ·have k1:k'=0:=by lia
      subst k1
      have hc2:=hq2 hj1
      refine Qd (Qt @0 ?_)
      have n3:=n1.Qj2 o t @0 hc2
      rw[← z53] at n3
      refine Ql (fun c=>Qe (.inl ⟨_,_,rfl,ev,n3.last (by simpa using c) hl⟩)) (fun c=>?_)
      have c:¬ i1+1+1=a.size:=by simpa using c
      have z3:Qbs.size+y+1<=(Qdl.push (H a i1)).size:=by rw[z71];lia
      exact Ql (fun _=>Qe (.inr ⟨_,_,_,_,_,_,rfl,ev,by lia,hj1,by lia,n3⟩)) (fun _=>Qe ⟨_,_,_,_,_,_,rfl,ev,by lia,hj1,by lia,n3⟩)
  ·rintro c st3 ⟨out,i,j,g,ac,bc,rfl,ev,hi,hj,ho,m⟩
   exact .inr ⟨out,i,j,g,ac,bc,rfl,ev,hi,hj,by lia,m⟩
  rintro c st3 (⟨r,w,rfl,ev,gd⟩|⟨out,i,j,g,ac,bc,rfl,ev,hi,hj,ho,m⟩)
  ·exact Qe ⟨r,_,rfl,ev,gd⟩
  dsimp only
  refine Qd (Qc0 fun st4 ev4=>?_)
  exact Qe ⟨out,i,j,_,rfl,ev.trans ev4,hi,hj,by lia,m⟩
 ·rintro c st1 ⟨out,i,j,g,rfl,ev,hi,hj,hx,m⟩
  have:=m.len @0 @0
  lia
 ·rintro c st1 ⟨r,w,rfl,ev,gd⟩
  exact Qe (K r st1 ev gd)
end
def fl (L:Keyed->Keyed->Bool)(x y:Keyed):Bool:=L y x
section
variable {J:Shared->Prop}{M:Model}{A:Around}{E:Value->Shared->Prop}{st:SortSt}{κ:SortKind}{U:Keyed->Prop}{L:Keyed->Keyed->Bool}{a b:Array Keyed}{T O:List Keyed}{i j:Nat}
abbrev tk (a:Array Keyed)(n:Nat):List Keyed:=(a.toList.take n).reverse
theorem QtG (h:i<a.size):tk a (i+1)=H a i::tk a i:=by
 have e:=QiX h
 rw[z79 h] at e
 unfold tk
 rw[zm8 (by simpa using h),zl2,← z21 e];simp
theorem Qek {y:Keyed}(hi:i<=a.size)(hy:y∈tk a i):∃j,j<i/\y=H a j:=by
 obtain⟨k,hk,e⟩:=za7 (zc7.mp hy)
 rw[zx7] at e
 have hl:k<i:=by rw[z44] at hk;lia
 refine⟨k,hl,?_⟩
 have e1:=QiX (show k<a.size by lia)
 rw[z79 @0] at e1
 rw[← z21 e1,← e];simp
theorem Ql8 (o:Od U L)(s:Sd L a.toList)(h1:0<i)(hi:i<=a.size){x:Keyed}(h:L (H a (i - 1)) x=true):∀y∈tk a i,L y x=true:=fun y hy=>by
 obtain⟨j,hj,rfl⟩:=Qek hi hy
 by_cases e:j=i - 1
 ·subst e;exact h
 ·exact o.tr _ _ _ (QmZ s (show j<i - 1 by lia) @0) h
theorem Qm1 {k:Nat}(h:k<=i)(hi:i<=a.size):tk a i=(a.extract k i).toList.reverse++tk a k:=by
 unfold tk
 rw[← zl2]
 congr 1
 rw[z86,z73]
 have:=z47 k (a.toList.take i)
 rw[zr2,zh1 h,List.drop_take] at this
 exact this.symm
theorem QhD {k:Nat}{y:Keyed}(hi:i<=a.size)(hy:y∈(a.extract k i).toList):∃j,k<=j/\j<i/\y=H a j:=by
 obtain⟨j,hj,e⟩:=za7 hy
 have hl:k+j<i:=by simp at hj;lia
 refine⟨k+j,by lia,hl,?_⟩
 have e1:=QiX (show k+j<a.size by lia)
 rw[z79 @0] at e1
 rw[← z21 e1,← e];simp
theorem Mg.QiY (o:Od U L)(t:Two U L a b)(m:Mg (fl L) T O (tk a (i+1)) (tk b j))(hi:i<a.size)(j0:0<j)(hj:j<=b.size)(h:L (H b (j - 1)) (H a i)=true):Mg (fl L) T (O++[H a i]) (tk a i) (tk b j):=by
 rw[QtG hi] at m
 exact Mg.mvA (P:=[H a i]) m fun x hx=>by rw[z26.mp hx];exact Ql8 o t.sb j0 hj h
theorem Mg.Qom (o:Od U L)(t:Two U L a b)(m:Mg (fl L) T O (tk a i) (tk b (j+1)))(hj:j<b.size)(i0:0<i)(hi:i<=a.size)(h:L (H a (i - 1)) (H b j)=true):Mg (fl L) T (O++[H b j]) (tk a i) (tk b j):=by
 rw[QtG hj] at m
 exact Mg.mvB (P:=[H b j]) m fun x hx=>by rw[z26.mp hx];exact Ql8 o t.sa i0 hi h
theorem Mg.QtH (o:Od U L)(t:Two U L a b)(m:Mg (fl L) T O (tk a i) (tk b j))(j0:0<j)(hj:j<=b.size){k:Nat}(hk:k<=i)(hi:i<=a.size)(h:∀u,k<=u->u<i->bey L false (H b (j - 1)) a 0 u=false):Mg (fl L) T (O++(a.extract k i).toList.reverse) (tk a k) (tk b j):=by
 rw[Qm1 hk hi] at m
 refine Mg.mvA m fun x hx=>?_
 obtain⟨u,u1,u2,rfl⟩:=QhD hi (zc7.mp hx)
 have:=h u u1 u2
 unfold bey at this
 rw[if_neg @1,z90] at this
 exact Ql8 o t.sb j0 hj (by simpa using this)
theorem Mg.QqJ (o:Od U L)(t:Two U L a b)(m:Mg (fl L) T O (tk a i) (tk b j))(i0:0<i)(hi:i<=a.size){k:Nat}(hk:k<=j)(hj:j<=b.size)(h:∀u,k<=u->u<j->bey L true (H a (i - 1)) b 0 u=false):Mg (fl L) T (O++(b.extract k j).toList.reverse) (tk a i) (tk b k):=by
 rw[Qm1 hk hj] at m
 refine Mg.mvB m fun x hx=>?_
 obtain⟨u,u1,u2,rfl⟩:=QhD hj (zc7.mp hx)
 have:=h u u1 u2
 unfold bey at this
 rw[if_pos rfl,z90] at this
 exact Ql8 o t.sa i0 hi (t.flip o @0 @0 this)
theorem Qj3 {l:List Keyed}(h:Sd (fl L) l):Sd L l.reverse:=zt9.mpr h
theorem Qm2 {l:List Keyed}(h:Sd L l):Sd (fl L) l.reverse:=zt9.mpr h
theorem Mg.Qv6 {out:Array Keyed}(m:Mg (fl L) @14 out.toList (tk a i) (tk b j))(hi:i<=a.size)(hj:j<=b.size):out.size+i+j=a.size+b.size:=by
 have:=m.pm.length_eq
 rw[z16,z16,z16,za6,za6,z44,z44] at this
 simp at this
 lia
theorem Mg.Qe1 {out:Array Keyed}(m:Mg (fl L) @14 out.toList (tk a i) (tk b j))(h:i=0\/j=0):Gd L a b (a.extract 0 i++b.extract 0 j++out.reverse):=by
 unfold Gd
 have e:(a.extract 0 i++b.extract 0 j++out.reverse).toList=(out.toList++tk b j++tk a i).reverse:=by
  rw[z56,z56,ze0,z86,z86,z73,z73]
  simp[tk]
 rw[e]
 have g:(out.toList++tk b j++tk a i).Perm @14/\Sd (fl L) (out.toList++tk b j++tk a i):=by
  rcases h with rfl|rfl
  ·have z:tk a 0=[]:=by simp[tk]
   rw[z] at m ⊢
   rw[z52];exact m.Qvb
  ·have z:tk b 0=[]:=by simp[tk]
   rw[z] at m ⊢
   rw[z52];exact m.Qva
 exact⟨(zd7 _).trans g.1,Qj3 g.2⟩
theorem Mg.Qel {out:Array Keyed}(m:Mg (fl L) @14 out.toList (tk a i) (tk b 1))(hb:0<b.size)(hi:i<=a.size)(h0:∀y∈a.toList,L (H b 0) y=true):Gd L a b (b.extract 0 1++a.extract 0 i++out.reverse):=by
 unfold Gd
 have e:(b.extract 0 1++a.extract 0 i++out.reverse).toList=(out.toList++tk a i++tk b 1).reverse:=by
  rw[z56,z56,ze0,z86,z86,z73,z73]
  simp[tk]
 rw[e]
 have z:tk b 1=[H b 0]:=by
  rw[show 1=0+1 from rfl,QtG hb];simp[tk]
 have m':Mg (fl L) @14 out.toList [H b 0] (tk a i):=by
  rw[z] at m
  refine⟨?_,m.so,m.ob,m.oa,m.sb,m.sa⟩
  exact zi4 (zc9 _ zd3) m.pm
 have g:=m'.Qvc fun y hy=>by
  obtain⟨k,hk,rfl⟩:=Qek hi hy
  exact h0 _ (J3 @0)
 rw[z]
 exact⟨(zd7 _).trans g.1,Qj3 g.2⟩
theorem QgR (ask:Ask J M A E κ U L)(o:Od U L){Q:Array Keyed->SortSt->Prop}(hk:kindOf st=κ)(t:Two U L a b)(na:0<a.size)(nb:0<b.size)(h0:∀y∈a.toList,L (H b 0) y=true)(hl:L (H b (b.size - 1)) (H a (a.size - 1))=true)
  (K:∀r st',Ev st st'->Gd L a b r->Q r st'):wpT J M A E (Ql6 a b) Q st:=by
 intro s hs
 wp_delta
 wp_delta
 refine QfU ?_ hs
 refine Qd (QaX ?_)
 refine Qd (Qt @0 ?_)
 have m0:Mg (fl L) @14 [] (tk a (a.size - 1+1)) (tk b b.size):=by
  rw[show a.size - 1+1=a.size by lia]
  have ea:tk a a.size=a.toList.reverse:=by unfold tk;rw[z75 @9]
  have eb:tk b b.size=b.toList.reverse:=by unfold tk;rw[z75 @9]
  rw[ea,eb]
  exact⟨show(a.toList.reverse++b.toList.reverse).Perm @14 from List.Perm.append (zd7 _) (zd7 _),.nil,@2,@2,Qm2 t.sa,Qm2 t.sb⟩
 have m1:Mg (fl L) @14 (#[H a (a.size - 1)]:Array Keyed).toList (tk a (a.size - 1)) (tk b b.size):=m0.QiY o t @0 nb (z24 _) hl
 refine Ql (fun c=>Qe (K _ _ (.refl _) (m1.Qe1 (.inl (by simpa using c))))) (fun c1=>?_)
 refine Ql (fun c=>Qe (K _ _ (.refl _) ?_)) (fun c2=>?_)
 ·have c:b.size=1:=by simpa using c
  rw[c] at m1 ⊢
  exact m1.Qel nb @0 h0
 have c1:¬ a.size - 1=0:=by simpa using c1
 have c2:¬ b.size=1:=by simpa using c2
 refine Qd (J0 ?_)
 refine Qd (QR (JP (I:=fun x c st'=>∃out i j g,c=(none,i,j,out,g)/\Ev st st'/\0<i/\i<=a.size/\1<j/\j<=b.size/\x+1<=out.size/\Mg (fl L) @14 out.toList (tk a i) (tk b j))
  (Q:=fun c st'=>∃r w,c=(some r,w)/\Ev st st'/\Gd L a b r) ?_ ?_ ⟨_,a.size - 1,b.size,_,rfl,.refl _,by lia,by lia,by lia,by lia,by simp,m1⟩) ?_)
 ·rintro x c st1 hx ⟨Qbs,i,j,g,rfl,ev,i0,hi,j0,hj,hx1,m⟩
  dsimp only
  refine Qd (QR (JP (I:=fun y c st'=>∃out i j ac bc,c=(none,i,j,out,ac,bc)/\Ev st st'/\0<i/\i<=a.size/\1<j/\j<=b.size/\Qbs.size<=out.size/\Mg (fl L) @14 out.toList (tk a i) (tk b j))
   (Q:=fun c st'=>(∃r w,c=(some r,w)/\Ev st st'/\Gd L a b r)\/∃out i j ac bc,c=(none,i,j,out,ac,bc)/\Ev st st'/\0<i/\i<=a.size/\1<j/\j<=b.size/\Qbs.size<=out.size/\Mg (fl L) @14 out.toList (tk a i) (tk b j)) ?_ ?_ ⟨_,i,j,0,0,rfl,ev,i0,hi,j0,hj,z24 _,m⟩) ?_)
  ·rintro y c st2 hy ⟨out,i,j,ac,bc,rfl,ev,i0,hi,j0,hj,ho,m⟩
   dsimp only
   refine Qd (Qt @0 (Qd (Qt @0 (Qd (ask _ _ _ _ (ev.k.trans hk) (t.ub _ (J3 @0)) (t.ua _ (J3 @0)) ?_)))))
   cases e:L (H b (j - 1)) (H a (i - 1)) with
   |true=>
    dsimp only
    rw[if_pos rfl]
    refine Qd (Qt @0 ?_)
    have m2:=Mg.QiY (i:=i - 1) o t (by rw[show i - 1+1=i by lia];exact m) @0 @0 hj e
    rw[← z53] at m2
    refine Ql (fun c=>Qe (.inl ⟨_,_,rfl,ev,m2.Qe1 (.inl (by simpa using c))⟩)) (fun c=>?_)
    have c:¬ i - 1=0:=by simpa using c
    have hs:Qbs.size<=(out.push (H a (i - 1))).size:=by rw[z71];lia
    exact Ql (fun _=>Qe (.inr ⟨_,_,_,_,_,rfl,ev,by lia,by lia,j0,hj,hs,m2⟩)) (fun _=>Qe ⟨_,_,_,_,_,rfl,ev,by lia,by lia,j0,hj,hs,m2⟩)
   |false=>
    dsimp only
    rw[if_neg @1]
    refine Qd (Qt @0 ?_)
    have m2:=Mg.Qom (j:=j - 1) o t (by rw[show j - 1+1=j by lia];exact m) @0 i0 hi (t.flip o @0 @0 e)
    rw[← z53] at m2
    refine Ql (fun c=>Qe (.inl ⟨_,_,rfl,ev,?_⟩)) (fun c=>?_)
    ·have c:j - 1=1:=by simpa using c
     rw[c] at m2 ⊢
     exact m2.Qel nb hi h0
    have c:¬ j - 1=1:=by simpa using c
    have hs:Qbs.size<=(out.push (H b (j - 1))).size:=by rw[z71];lia
    exact Ql (fun _=>Qe (.inr ⟨_,_,_,_,_,rfl,ev,i0,hi,by lia,by lia,hs,m2⟩)) (fun _=>Qe ⟨_,_,_,_,_,rfl,ev,i0,hi,by lia,by lia,hs,m2⟩)
  ·rintro c st2 h
   exact .inr h
  rintro c st2 (⟨r,w,rfl,ev,gd⟩|⟨out,i,j,ac,bc,rfl,ev,i0,hi,j0,hj,ho,m⟩)
  ·exact Qe ⟨r,_,rfl,ev,gd⟩
  refine Qd (QaX ?_)
  refine Qd (QR (JP (I:=fun y c st'=>∃out i j g ac bc,c=(none,i,j,out,g,ac,bc)/\Ev st st'/\0<i/\i<=a.size/\1<j/\j<=b.size/\Qbs.size+y<=out.size/\Mg (fl L) @14 out.toList (tk a i) (tk b j))
   (Q:=fun c st'=>(∃r w,c=(some r,w)/\Ev st st'/\Gd L a b r)\/∃out i j g ac bc,c=(none,i,j,out,g,ac,bc)/\Ev st st'/\0<i/\i<=a.size/\1<j/\j<=b.size/\Qbs.size+1<=out.size/\Mg (fl L) @14 out.toList (tk a i) (tk b j)) ?_ ?_ ⟨_,i,j,_,ac,bc,rfl,ev,i0,hi,j0,hj,ho,m⟩) ?_)
  ·rintro y c st3 hy ⟨out,i,j,g,ac,bc,rfl,ev,i0,hi,j0,hj,ho,m⟩
   dsimp only
   generalize hx:g - 1=x1
   revert x1
   refine Qm0 fun v=>?_
   all_goals
    refine Qd (Qc0 fun st4 ev4=>?_)
    have ev:=ev.trans ev4
    clear ev4
    refine Qd (Qt @0 ?_)
    refine Qd (JG ask (ev.k.trans hk) (t.ub _ (J3 @0)) (fun u hu=>t.ua _ (J3 @0)) @0 @0 (Qj1 o t.sa @0) fun k k1 k2 k3=>?_)
    have m2:Mg (fl L) @14 (out++(a.extract k i).reverse).toList (tk a k) (tk b j):=by
     rw[z56 (xs:=out),ze0];exact m.QtH o t @0 hj k1 hi k3
    have hq:0<k->L (H a (k - 1)) (H b (j - 1))=true:=fun h=>by
     have:=k2 (k - 1) @0
     unfold bey at this
     rw[if_neg @1,z90] at this
     exact t.flip o @0 @0 (by simpa using this)
    refine Ql (fun k0=>Ql (fun c=>Qe (.inl ⟨_,_,rfl,ev,m2.Qe1 (.inl (by simpa using c))⟩)) (fun c=>?_)) (fun k0=>?_)
    rotate_left
    ·have k0:k=i:=by lia
     subst k0
     have hc:=hq i0
     refine Qd (Qt @0 ?_)
     have n1:=Mg.Qom (j:=j - 1) o t (by rw[show j - 1+1=j by lia];exact m) @0 i0 hi hc
     rw[← z53] at n1
     have z1:Qbs.size+y+1<=(out.push (H b (j - 1))).size:=by rw[z71];have:=ho;lia
     refine Ql (fun c=>Qe (.inl ⟨_,_,rfl,ev,?_⟩)) (fun c=>?_)
     ·have c:j - 1=1:=by simpa using c
      rw[c] at n1 ⊢
      exact n1.Qel nb hi h0
     have hj1:1<j - 1:=by
      have c:¬ j - 1=1:=by simpa using c
      lia
     clear c
     generalize out.push (H b (j - 1))=Qdl at n1 z1 ⊢
     have hjb:j - 1<=b.size:=by lia
     generalize j - 1=j2 at n1 hj1 hjb ⊢
     refine Qd (Qt @0 ?_)
     refine Qd (JG ask (ev.k.trans hk) (t.ua _ (J3 @0)) (fun u hu=>t.ub _ (J3 @0)) @0 @0 (QfV o t.sb @0) fun k' q1 q2 q3=>?_)
     have n2:Mg (fl L) @14 (Qdl++(b.extract k' j2).reverse).toList (tk a k) (tk b k'):=by
      rw[z56 (xs:=Qdl),ze0];exact n1.QqJ o t i0 hi q1 hjb q3
     have z2:Qbs.size+y+1<=(Qdl++(b.extract k' j2).reverse).size:=by rw[zd6];lia
     have hq2:0<k'->L (H b (k' - 1)) (H a (k - 1))=true:=fun h=>by
      have:=q2 (k' - 1) @0
      unfold bey at this
      rw[if_pos rfl,z90] at this
      exact this
     refine Ql (fun k1=>Ql (fun c=>Qe (.inl ⟨_,_,rfl,ev,?_⟩)) (fun c=>Ql (fun c'=>Qe (.inl ⟨_,_,rfl,ev,n2.Qe1 (.inr (by simpa using c'))⟩)) (fun c'=>?_))) (fun k1=>?_)
     ·have c:k'=1:=by simpa using c
      subst c
      exact n2.Qel nb hi h0
     ·have hj3:1<k':=by
       have c:¬ k'=1:=by simpa using c
       have c':¬ k'=0:=by simpa using c'
       lia
      have hc2:=hq2 @0
      generalize Qdl++(b.extract k' j2).reverse=Qol at n2 z2 ⊢
      have n3:=Mg.QiY (i:=k - 1) o t (by rw[show k - 1+1=k by lia];exact n2) @0 @0 @0 hc2
      rw[← z53] at n3
      refine Qd (Qt @0 ?_)
      refine Ql (fun c=>Qe (.inl ⟨_,_,rfl,ev,n3.Qe1 (.inl (by simpa using c))⟩)) (fun c=>?_)
      have c:¬ k - 1=0:=by simpa using c
      have z3:Qbs.size+y+1<=(Qol.push (H a (k - 1))).size:=by rw[z71];lia
      exact Ql (fun _=>Qe (.inr ⟨_,_,_,_,_,_,rfl,ev,by lia,by lia,hj3,by lia,by lia,n3⟩)) (fun _=>Qe ⟨_,_,_,_,_,_,rfl,ev,by lia,by lia,hj3,by lia,by lia,n3⟩)
     ·have k1:k'=j2:=by lia
      subst k1
      have hc2:=hq2 @0
      have n3:=Mg.QiY (i:=k - 1) o t (by rw[show k - 1+1=k by lia];exact n1) @0 @0 @0 hc2
      rw[← z53] at n3
      refine Qd (Qt @0 ?_)
      refine Ql (fun c=>Qe (.inl ⟨_,_,rfl,ev,n3.Qe1 (.inl (by simpa using c))⟩)) (fun c=>?_)
      have c:¬ k - 1=0:=by simpa using c
      have z3:Qbs.size+y+1<=(Qdl.push (H a (k - 1))).size:=by rw[z71];lia
      exact Ql (fun _=>Qe (.inr ⟨_,_,_,_,_,_,rfl,ev,by lia,by lia,hj1,by lia,by lia,n3⟩)) (fun _=>Qe ⟨_,_,_,_,_,_,rfl,ev,by lia,by lia,hj1,by lia,by lia,n3⟩)
    ·have i2:0<k:=by
      have c:¬ k=0:=by simpa using c
      lia
     have hc:=hq i2
     have his:k<=a.size:=by lia
     have ho2:Qbs.size+y<=(out++(a.extract k i).reverse).size:=by rw[zd6];lia
     generalize out++(a.extract k i).reverse=QqI at m2 ho2 ⊢
     refine Qd (Qt @0 ?_)
     have n1:=Mg.Qom (j:=j - 1) o t (by rw[show j - 1+1=j by lia];exact m2) @0 i2 his hc
     rw[← z53] at n1
     have z1:Qbs.size+y+1<=(QqI.push (H b (j - 1))).size:=by rw[z71];have:=ho2;lia
     refine Ql (fun c=>Qe (.inl ⟨_,_,rfl,ev,?_⟩)) (fun c=>?_)
     ·have c:j - 1=1:=by simpa using c
      rw[c] at n1 ⊢
      exact n1.Qel nb his h0
     have hj1:1<j - 1:=by
      have c:¬ j - 1=1:=by simpa using c
      lia
     clear c
     generalize QqI.push (H b (j - 1))=Qdl at n1 z1 ⊢
     have hjb:j - 1<=b.size:=by lia
     generalize j - 1=j2 at n1 hj1 hjb ⊢
     refine Qd (Qt @0 ?_)
     refine Qd (JG ask (ev.k.trans hk) (t.ua _ (J3 @0)) (fun u hu=>t.ub _ (J3 @0)) @0 @0 (QfV o t.sb @0) fun k' q1 q2 q3=>?_)
     have n2:Mg (fl L) @14 (Qdl++(b.extract k' j2).reverse).toList (tk a k) (tk b k'):=by
      rw[z56 (xs:=Qdl),ze0];exact n1.QqJ o t i2 his q1 hjb q3
     have z2:Qbs.size+y+1<=(Qdl++(b.extract k' j2).reverse).size:=by rw[zd6];lia
     have hq2:0<k'->L (H b (k' - 1)) (H a (k - 1))=true:=fun h=>by
      have:=q2 (k' - 1) @0
      unfold bey at this
      rw[if_pos rfl,z90] at this
      exact this
     refine Ql (fun k1=>Ql (fun c=>Qe (.inl ⟨_,_,rfl,ev,?_⟩)) (fun c=>Ql (fun c'=>Qe (.inl ⟨_,_,rfl,ev,n2.Qe1 (.inr (by simpa using c'))⟩)) (fun c'=>?_))) (fun k1=>?_)
     ·have c:k'=1:=by simpa using c
      subst c
      exact n2.Qel nb his h0
     ·have hj3:1<k':=by
       have c:¬ k'=1:=by simpa using c
       have c':¬ k'=0:=by simpa using c'
       lia
      have hc2:=hq2 @0
      generalize Qdl++(b.extract k' j2).reverse=Qol at n2 z2 ⊢
      have n3:=Mg.QiY (i:=k - 1) o t (by rw[show k - 1+1=k by lia];exact n2) @0 @0 @0 hc2
      rw[← z53] at n3
      refine Qd (Qt @0 ?_)
      refine Ql (fun c=>Qe (.inl ⟨_,_,rfl,ev,n3.Qe1 (.inl (by simpa using c))⟩)) (fun c=>?_)
      have c:¬ k - 1=0:=by simpa using c
      have z3:Qbs.size+y+1<=(Qol.push (H a (k - 1))).size:=by rw[z71];lia
      exact Ql (fun _=>Qe (.inr ⟨_,_,_,_,_,_,rfl,ev,by lia,by lia,hj3,by lia,by lia,n3⟩)) (fun _=>Qe ⟨_,_,_,_,_,_,rfl,ev,by lia,by lia,hj3,by lia,by lia,n3⟩)
     ·have k1:k'=j2:=by lia
      subst k1
      have hc2:=hq2 @0
      have n3:=Mg.QiY (i:=k - 1) o t (by rw[show k - 1+1=k by lia];exact n1) @0 @0 @0 hc2
      rw[← z53] at n3
      refine Qd (Qt @0 ?_)
      refine Ql (fun c=>Qe (.inl ⟨_,_,rfl,ev,n3.Qe1 (.inl (by simpa using c))⟩)) (fun c=>?_)
      have c:¬ k - 1=0:=by simpa using c
      have z3:Qbs.size+y+1<=(Qdl.push (H a (k - 1))).size:=by rw[z71];lia
      exact Ql (fun _=>Qe (.inr ⟨_,_,_,_,_,_,rfl,ev,by lia,by lia,hj1,by lia,by lia,n3⟩)) (fun _=>Qe ⟨_,_,_,_,_,_,rfl,ev,by lia,by lia,hj1,by lia,by lia,n3⟩)
  ·rintro c st3 ⟨out,i,j,g,ac,bc,rfl,ev,i0,hi,j0,hj,ho,m⟩
   exact .inr ⟨out,i,j,g,ac,bc,rfl,ev,i0,hi,j0,hj,by lia,m⟩
  rintro c st3 (⟨r,w,rfl,ev,gd⟩|⟨out,i,j,g,ac,bc,rfl,ev,i0,hi,j0,hj,ho,m⟩)
  ·exact Qe ⟨r,_,rfl,ev,gd⟩
  refine Qd (Qc0 fun st4 ev4=>?_)
  exact Qe ⟨out,i,j,_,rfl,ev.trans ev4,i0,hi,j0,hj,by lia,m⟩
 ·rintro c st1 ⟨out,i,j,g,rfl,ev,i0,hi,j0,hj,hx,m⟩
  have:=m.Qv6 hi hj
  lia
 ·rintro c st1 ⟨r,w,rfl,ev,gd⟩
  exact Qe (K r st1 ev gd)
end
section
variable {J:Shared->Prop}{M:Model}{A:Around}{E:Value->Shared->Prop}{st:SortSt}{κ:SortKind}{U:Keyed->Prop}{L:Keyed->Keyed->Bool}{a:Array Keyed}{pre X Y post:List Keyed}{i:Nat}
theorem QtI {l:List Keyed}{n:Nat}(e:a.toList=pre++l):H a (pre.length+n)=H l.toArray n:=by
 rw[H,H,z32,z32,← z43,e,z46 @0,za3,z49]
theorem QqK {X Y:List Keyed}{n:Nat}(h:n<X.length):H (X++Y).toArray n=H X.toArray n:=by
 rw[H,H,z32,z32,z49,z49,z62 h]
theorem QcC {left:Bool}{key:Keyed}{b u:Nat}{x:Array Keyed}(h:H a (b+u)=H x u):bey L left key a b u=bey L left key x 0 u:=by
 unfold bey;rw[h,z90]
theorem QhE:∀(l q p t:List Keyed) (a:Array Keyed) (c n:Nat),a.toList=p++(q++t)->q.length=l.length->p.length=c+n->
  ((l.zipIdx n).foldl (fun a x=>match x with|(y,j)=>a.setIfInBounds (c+j) y) a).toList=p++(l++t)
 | [],[],p,t,a,c,n,e,_,_=>e
 | [],_::_,_,_,_,_,_,_,h,_=>nomatch h
 |_::_,[],_,_,_,_,_,_,h,_=>nomatch h
 |y::l,z::q,p,t,a,c,n,e,h,hp=>by
  rw[List.zipIdx_cons,zf1]
  have e2:(a.setIfInBounds (c+n) y).toList=(p++[y])++(q++t):=by
   rw[zp8,e,zt8 _ _ @0,hp,zk2]
   simp
  rw[QhE l q (p++[y]) t _ c (n+1) e2 (by simpa using h) (by rw[z16,hp];rfl)]
  simp
theorem QgS (ask:Ask J M A E κ U L)(o:Od U L){pw pw2:Nat}{Q:Bool->SortSt->Prop}(hk:kindOf st=κ)(hf:failedOf st=none)(ea:(arrOf st).toList=pre++(X++(Y++post)))
  (hp1:(pendingOf st)[i]? = some (pre.length,X.length,pw)) (hp2:(pendingOf st)[i+1]? = some (pre.length+X.length,Y.length,pw2)) (sX:Sd L X) (sY:Sd L Y) (nX:0<X.length) (nY:0<Y.length) (uX:∀x∈X,U x) (uY:∀x∈Y,U x) (ne:∀x∈X,∀y∈Y,x≠y)
  (K:∀st' Z,kindOf st'=κ->failedOf st'=none->(arrOf st').toList=pre++(Z++post)->Z.Perm (X++Y)->Sd L Z->pendingOf st'=((pendingOf st).setIfInBounds i (pre.length,X.length+Y.length,pw)).eraseIdxIfInBounds (i+1)->Q true st'):wpT J M A E (mergeAt' i) Q st:=by
 intro s hs
 wp_delta
 wp_delta
 refine QfU ?_ hs
 refine Qd (J0 ?_)
 rw[show(pendingOf st)[i]? = _ from hp1,show(pendingOf st)[i+1]? = _ from hp2]
 refine Qd (Qok ?_)
 have sz:(arrOf st).size=pre.length+(X.length+(Y.length+post.length)):=by
  have:=congrArg ze7 ea
  simpa using this
 have hX:∀u,u<X.length->H (arrOf st) (pre.length+u)=H X.toArray u:=fun u hu=>by rw[QtI ea,QqK hu]
 have hY:∀u,u<Y.length->H (arrOf st) (pre.length+X.length+u)=H Y.toArray u:=fun u hu=>by
  have e2:(arrOf st).toList=(pre++X)++(Y++post):=by rw[ea,z20]
  have:=QtI (n:=u) e2
  rw[z16] at this
  rw[this,QqK hu]
 have hy0:H (arrOf st) (pre.length+X.length)=H Y.toArray 0:=hY 0 nY
 have tXY:Two U L X.toArray Y.toArray:=⟨sX,sY,uX,uY,ne⟩
 have nXs:X.toArray.size=X.length:=by simp
 have nYs:Y.toArray.size=Y.length:=by simp
 refine Qd (Qt (a:=arrOf st) @0 ?_)
 rw[hy0]
 refine Qd (JG (a:=arrOf st) ask hk (uY _ (J3 (a:=Y.toArray) @0)) (fun u hu=>by rw[hX u hu];exact uX _ (J3 (a:=X.toArray) @0)) nX @0
  (fun u v h1 h2 h3=>by rw[QcC (hX v h2)] at h3;rw[QcC (hX u @0)];exact Qj1 o (a:=X.toArray) (n:=X.length) sX @0 u v h1 h2 h3) fun k k1 k2 k3=>?_)
 have g1:∀u,u<k->L (H X.toArray u) (H Y.toArray 0)=true:=fun u hu=>by
  have:=k2 u hu
  rw[QcC (hX u @0)] at this
  unfold bey at this
  rw[if_neg @1,z90] at this
  exact tXY.flip o @0 @0 (by simpa using this)
 have g2:∀u,k<=u->u<X.length->L (H Y.toArray 0) (H X.toArray u)=true:=fun u h1 h2=>by
  have:=k3 u h1 h2
  rw[QcC (hX u h2)] at this
  unfold bey at this
  rw[if_neg @1,z90] at this
  simpa using this
 have pX:∀x∈X.take k,∀y∈Y,L x y=true:=fun x hx y hy=>by
  obtain⟨u,hu,rfl⟩:=Qek (a:=X.toArray) (i:=k) @0 (zc7.mpr hx)
  exact Qcr o (a:=Y.toArray) (i:=0) sY (g1 u hu) y hy
 refine Ql (fun c=>Qe (K _ (X++Y) hk hf (by rw[z20];exact ea) (zf4 _) (z34.mpr ⟨sX,sY,?_⟩) rfl)) (fun c=>?_)
 ·have c:X.length - k=0:=by simpa using c
  rw[z75 @0] at pX
  exact pX
 have kx:k<X.length:=by
  have c:¬ X.length - k=0:=by simpa using c
  lia
 clear c
 have hxl:H (arrOf st) (pre.length+k+(X.length - k) - 1)=H X.toArray (X.length - 1):=by
  rw[show pre.length+k+(X.length - k) - 1=pre.length+(X.length - 1) by lia];exact hX _ @0
 refine Qd (Qt (a:=arrOf st) @0 ?_)
 rw[hxl]
 refine Qd (JG (a:=arrOf st) ask hk (uX _ (J3 (a:=X.toArray) @0)) (fun u hu=>by rw[hY u hu];exact uY _ (J3 (a:=Y.toArray) @0)) @0 @0
  (fun u v h1 h2 h3=>by rw[QcC (hY v h2)] at h3;rw[QcC (hY u @0)];exact QfV o (a:=Y.toArray) (n:=Y.length) sY @0 u v h1 h2 h3) fun m m1 m2 m3=>?_)
 have f1:∀u,u<m->L (H Y.toArray u) (H X.toArray (X.length - 1))=true:=fun u hu=>by
  have:=m2 u hu
  rw[QcC (hY u @0)] at this
  unfold bey at this
  rw[if_pos rfl,z90] at this
  exact this
 have f2:∀u,m<=u->u<Y.length->L (H X.toArray (X.length - 1)) (H Y.toArray u)=true:=fun u h1 h2=>by
  have:=m3 u h1 h2
  rw[QcC (hY u h2)] at this
  unfold bey at this
  rw[if_pos rfl,z90] at this
  exact tXY.flip o @0 @0 this
 have m0:0<m:=by
  rcases Nat.eq_zero_or_pos m with e|e
  ·subst e
   have a1:=f2 0 (z24 _) nY
   have a2:=g2 (X.length - 1) @0 @0
   have:=o.tr _ _ _ a1 a2
   rw[o.ir] at this;cases this
  ·exact e
 refine Ql (fun c=>absurd (show m=0 by simpa using c) @0) (fun c=>?_)
 clear c
 have ex:((arrOf st).extract (pre.length+k) (pre.length+X.length)).toList=X.drop k:=by
  rw[z86,z73,ea,List.drop_append,zf6 @0,zj6,show pre.length+k - pre.length=k by lia,List.drop_append_of_le_length @0,show pre.length+X.length - (pre.length+k)=(X.drop k).length by rw[z58];lia,List.take_left]
 have ey:((arrOf st).extract (pre.length+X.length) (pre.length+X.length+m)).toList=Y.take m:=by
  have e2:(arrOf st).toList=(pre++X)++(Y++post):=by rw[ea,z20]
  rw[z86,z73,e2,show pre.length+X.length=(pre++X).length by rw[z16],List.drop_left,za3,zo2 m1]
 generalize (arrOf st).extract (pre.length+k) (pre.length+X.length)=x at ex ⊢
 generalize (arrOf st).extract (pre.length+X.length) (pre.length+X.length+m)=y at ey ⊢
 have xs:x.size=X.length - k:=by rw[← z82,ex,z58]
 have ys:y.size=m:=by rw[← z82,ey,z44];lia
 have hx:∀u,u<x.size->H x u=H X.toArray (k+u):=fun u hu=>by
  rw[H,H,z32,z32,← z43,ex,List.getElem?_drop,z49]
 have hy:∀u,u<y.size->H y u=H Y.toArray u:=fun u hu=>by
  rw[H,H,z32,z32,← z43,ey,zc1 @0,z49]
 have txy:Two U L x y:=⟨by rw[ex];exact sX.sublist (zn2 _ _),by rw[ey];exact sY.sublist (zh8 _ _),fun v hv=>uX v (ze1 (ex▸hv)),fun v hv=>uY v (za2 (ey▸hv)),fun v hv w hw=>ne v (ze1 (ex▸hv)) w (za2 (ey▸hw))⟩
 have b0:L (H y 0) (H x 0)=true:=by rw[hy 0 @0,hx 0 @0];exact g2 _ @0 @0
 have lx:H x (x.size - 1)=H X.toArray (X.length - 1):=by rw[hx _ @0];congr 1;lia
 have bl:∀w∈y.toList,L w (H x (x.size - 1))=true:=fun w hw=>by
  obtain⟨u,hu,rfl⟩:=Qek (a:=y) (i:=y.size) (z24 _) (zc7.mpr (by rw[z75 @9];exact hw))
  rw[lx,hy u hu];exact f1 u @0
 have fin:∀(r:Array Keyed) (st':SortSt),Ev (setPending st (((pendingOf st).setIfInBounds i (pre.length,X.length+Y.length,pw)).eraseIdxIfInBounds (i+1))) st'->Gd L x y r->
   Q true (setArr st' (List.foldl (fun a x=>match x with|(p,j)=>a.setIfInBounds (pre.length+k+j) p) (arrOf st') r.toList.zipIdx)):=fun r st' ev gd=>by
  have pm:r.toList.Perm (X.drop k++Y.take m):=by have:=gd.1;rw[ex,ey] at this;exact this
  have pY:∀v∈r.toList,∀w∈Y.drop m,L v w=true:=fun v hv w hw=>by
   obtain⟨j,j1,j2,rfl⟩:=QaY (a:=Y.toArray) hw
   rcases z05.mp (pm.mem_iff.mp hv) with z|z
   ·obtain⟨u,u1,u2,rfl⟩:=QaY (a:=X.toArray) z
    have q:=f2 j j1 @0
    by_cases e:u=X.length - 1
    ·subst e;exact q
    ·exact o.tr _ _ _ (QmZ (a:=X.toArray) sX (show u<X.length - 1 by lia) @0) q
   ·obtain⟨u,hu,rfl⟩:=Qek (a:=Y.toArray) (i:=m) @0 (zc7.mpr z)
    exact QmZ (a:=Y.toArray) sY @0 j2
  have pT:∀v∈X.take k,∀w∈r.toList,L v w=true:=fun v hv w hw=>by
   rcases z05.mp (pm.mem_iff.mp hw) with z|z
   ·exact(z34.mp (show Sd L (X.take k++X.drop k) by rw[z47];exact sX)).2.2 v hv w z
   ·exact pX v hv w (za2 z)
  have e0:(arrOf st').toList=(pre++X.take k)++((X.drop k++Y.take m)++(Y.drop m++post)):=by
   rw[ev.a]
   show(arrOf st).toList=_
   rw[ea]
   simp only[z20]
   rw[← z20 (X.take k),z47,← z20 (Y.take m),z47]
  have e1:=QhE r.toList (X.drop k++Y.take m) (pre++X.take k) (Y.drop m++post) (arrOf st') (pre.length+k) 0 e0 pm.length_eq.symm (by rw[z16,z44];lia)
  refine K _ (X.take k++(r.toList++Y.drop m)) (ev.k.trans hk) (ev.f.trans hf) ?_ ?_ ?_ ev.p
  ·refine Eq.trans e1 ?_
   simp only[z20]
  ·have q:(r.toList++Y.drop m).Perm (X.drop k++Y):=by
    refine(pm.append_right _).trans ?_
    rw[z20,z47]
   refine(q.append_left _).trans ?_
   rw[← z20,z47]
  ·refine z34.mpr ⟨sX.sublist (zh8 _ _),z34.mpr ⟨gd.2,sY.sublist (zn2 _ _),pY⟩,fun v hv w hw=>?_⟩
   rcases z05.mp hw with z|z
   ·exact pT v hv w z
   ·exact pX v hv w (ze1 z)
 refine Ql (fun _=>?_) (fun _=>?_)
 ·refine Qd (QgQ ask o hk txy @0 @0 b0 bl fun r st' ev gd=>?_)
  have ff:failedOf st'=none:=ev.f.trans hf
  refine Qd (Jj (Qd (J0 (Qe ?_))))
  show Q (failedOf st').isNone _
  rw[ff]
  exact fin r st' ev gd
 ·refine Qd (QgR ask o hk txy @0 @0 (fun v hv=>Qcr o (a:=x) (i:=0) txy.sa b0 v hv) (bl _ (J3 @0)) fun r st' ev gd=>?_)
  have ff:failedOf st'=none:=ev.f.trans hf
  refine Qd (Jj (Qd (J0 (Qe ?_))))
  show Q (failedOf st').isNone _
  rw[ff]
  exact fin r st' ev gd
end
section
variable {J:Shared->Prop}{M:Model}{A:Around}{E:Value->Shared->Prop}{st:SortSt}{κ:SortKind}{U:Keyed->Prop}{L:Keyed->Keyed->Bool}{a:Array Keyed}{pre S:List Keyed}{i n:Nat}
theorem Ql9 (ask:Ask J M A E κ U L){i j:Nat}{Q:Option Bool->SortSt->Prop}(hk:kindOf st=κ)(hi:i<(arrOf st).size)(hj:j<(arrOf st).size)(ui:U (H (arrOf st) i))(uj:U (H (arrOf st) j))(q:Q (some (L (H (arrOf st) i) (H (arrOf st) j))) st):wpT J M A E (ltAt' i j) Q st:=by
 rw[ltAt'_eq]
 exact Qd (J0 (Qd (Qt hi (Qd (Qt hj (ask _ _ _ _ hk ui uj q))))))
structure Rst (κ:SortKind)(U:Keyed->Prop)(pre S:List Keyed)(st:SortSt):Prop where
 k:kindOf st=κ
 f:failedOf st=none
 e:(arrOf st).toList=pre++S
 u:∀x∈S,U x
 nd:S.Nodup
theorem Rst.sz (r:Rst κ U pre S st):(arrOf st).size=pre.length+S.length:=by
 have:=congrArg ze7 r.e
 simpa using this
theorem Rst.H (r:Rst κ U pre S st):Srt.H (arrOf st) (pre.length+i)=Srt.H S.toArray i:=QtI r.e
theorem Rst.uH (r:Rst κ U pre S st)(h:i<S.length):U (Srt.H S.toArray i):=r.u _ (J3 (a:=S.toArray) (by simpa using h))
theorem Rst.ne (r:Rst κ U pre S st){j:Nat}(hi:i<S.length)(hj:j<S.length)(h:i≠j):Srt.H S.toArray i≠Srt.H S.toArray j:=fun z=>by
 have e1:=QiX (a:=S.toArray) (show i<S.toArray.size by simpa using hi)
 have e2:=QiX (a:=S.toArray) (show j<S.toArray.size by simpa using hj)
 rw[z49,z04 hi] at e1
 rw[z49,z04 hj] at e2
 rw[← z21 e1,← z21 e2] at z
 exact h ((zg4 r.nd).mp z)
theorem Rst.ask (r:Rst κ U pre S st)(ask:Ask J M A E κ U L){u v:Nat}{Q:Option Bool->SortSt->Prop}(hu:u<S.length)(hv:v<S.length)(q:Q (some (L (Srt.H S.toArray u) (Srt.H S.toArray v))) st):wpT J M A E (ltAt' (pre.length+u) (pre.length+v)) Q st:=by
 refine Ql9 ask r.k (by rw[r.sz];lia) (by rw[r.sz];lia) (by rw[r.H];exact r.uH hu) (by rw[r.H];exact r.uH hv) ?_
 rw[r.H,r.H];exact q
theorem Qe2 (h:n<S.length):S.take (n+1)=S.take n++[H S.toArray n]:=by
 have e:=QiX (a:=S.toArray) (show n<S.toArray.size by simpa using h)
 rw[z49,z04 h] at e
 rw[zm8 h,z21 e]
theorem QiZ {y:Keyed}(hn:n<=S.length)(hy:y∈S.take n):∃j,j<n/\y=H S.toArray j:=Qek (a:=S.toArray) (by simpa using hn) (zc7.mpr hy)
theorem QgT (o:Od U L){L':Keyed->Keyed->Bool}(tr:∀x y z,L' x y=true->L' y z=true->L' x z=true)(h0:0<n)(h:n<S.length)(s:Sd L' (S.take n))(c:L' (H S.toArray (n - 1)) (H S.toArray n)=true):Sd L' (S.take (n+1)):=by
 rw[Qe2 h]
 refine z34.mpr ⟨s,z81.mpr ⟨@2,.nil⟩,fun x hx y hy=>?_⟩
 rw[z26.mp hy]
 rw[show n=(n - 1)+1 by lia,Qe2 @0] at hx s
 rcases z05.mp hx with hx|hx
 ·have:=(z34.mp s).2.2 x hx _ (z26.mpr rfl)
  exact tr _ _ _ this c
 ·rw[z26.mp hx];exact c
theorem QhF (r:Rst κ U pre S st)(o:Od U L)(h0:0<n)(h:n<S.length)(c:L (Srt.H S.toArray n) (Srt.H S.toArray (n - 1))=false):L (Srt.H S.toArray (n - 1)) (Srt.H S.toArray n)=true:=
 o.to _ _ (r.uH h) (r.uH @0) (r.ne h @0 @0) c
theorem QgU {X Y:List Keyed}(e:a.toList=pre++(X++Y)):(mirror a pre.length (pre.length+X.length) ((pre.length+X.length - pre.length) / 2)).toList=pre++(X.reverse++Y):=by
 have sz:a.size=pre.length+(X.length+Y.length):=by
  have:=congrArg ze7 e
  simpa using this
 refine zi0 fun k=>?_
 have g1:∀u,(pre++(X++Y))[u]? = if u<pre.length then pre[u]? else if u<pre.length+X.length then X[u - pre.length]? else Y[u - pre.length - X.length]?:=fun u=>by
  by_cases c:u<pre.length
  ·rw[if_pos c,z62 c]
  ·rw[if_neg c,z46 @0]
   by_cases c2:u<pre.length+X.length
   ·rw[if_pos c2,z62 @0]
   ·rw[if_neg c2,z46 @0]
 have g2:(pre++(X.reverse++Y))[k]? = if k<pre.length then pre[k]? else if k<pre.length+X.length then X.reverse[k - pre.length]? else Y[k - pre.length - X.length]?:=by
  by_cases c:k<pre.length
  ·rw[if_pos c,z62 c]
  ·rw[if_neg c,z46 @0]
   by_cases c2:k<pre.length+X.length
   ·rw[if_pos c2,z62 (by rw[za6];lia)]
   ·rw[if_neg c2,z46 (by rw[za6];lia),za6]
 rw[z43,getElem?_mirror_all @0,← z43,← z43,e,g1,g1,g2]
 by_cases c:pre.length<=k/\k<pre.length+X.length
 ·rw[if_pos c,if_neg @0,if_pos @0,if_neg @0,if_pos c.2,List.getElem?_reverse @0]
  congr 1;lia
 ·rw[if_neg c]
  by_cases c1:k<pre.length
  ·rw[if_pos c1,if_pos c1]
  ·rw[if_neg c1,if_neg c1,if_neg @0,if_neg @0]
theorem Qj4 (ask:Ask J M A E κ U L)(o:Od U L)(r:Rst κ U pre S st)(h0:0<S.length){Q:Option Nat->SortSt->Prop}
  (K:∀n st' S',Rst κ U pre S' st'->pendingOf st'=pendingOf st->S'.Perm S->0<n->n<=S'.length->Sd L (S'.take n)->Q (some n) st'):wpT J M A E (countRun' pre.length S.length) Q st:=by
 rw[countRun'_eq]
 have asc:∀{st:SortSt} {S:List Keyed} (r:Rst κ U pre S st) (n0:Nat),0<n0->n0<=S.length->Sd L (S.take n0)->∀{f:Nat->Option (Option Nat)×Nat->StateT SortSt Sem (ForInStep (Option (Option Nat)×Nat))},
   (∀i n (R:ForInStep (Option (Option Nat)×Nat)->SortSt->Prop),0<n->n<S.length->(L (H S.toArray n) (H S.toArray (n - 1))=true->R (.done (none,n)) st)->(L (H S.toArray n) (H S.toArray (n - 1))=false->R (.yield (none,n+1)) st)->wpT J M A E (f i (none,n)) R st)->
   wpT J M A E (forIn [n0:S.length] (none,n0) f) (fun c st'=>∃n,c=(none,n)/\st=st'/\n0<=n/\n<=S.length/\Sd L (S.take n)/\(n<S.length->L (H S.toArray n) (H S.toArray (n - 1))=true)) st:=fun{st S} r n0 n1 n2 s f hf=>by
  refine QeZ n2 (I:=fun i c st'=>c=(none,i)/\st=st'/\n0<=i/\Sd L (S.take i)) ?_ ?_ ⟨rfl,rfl,z24 _,s⟩
  ·rintro i c st' i1 i2 ⟨rfl,rfl,i3,s⟩
   refine hf i i _ @0 i2 (fun c=>⟨i,rfl,rfl,i3,by lia,s,fun _=>c⟩) (fun c=>⟨rfl,rfl,by lia,QgT o o.tr @0 i2 s (QhF r o @0 i2 c)⟩)
  ·rintro c st' ⟨rfl,rfl,i3,s⟩
   exact⟨S.length,rfl,rfl,i3,z24 _,s,fun h=>absurd h (zc6 _)⟩
 have s1:Sd L (S.take 1):=by
  rw[Qe2 (n:=0) h0,zl0]
  exact z81.mpr ⟨@2,.nil⟩
 refine Qd (QR (asc r 1 @0 h0 s1 fun i n R n1 n2 h3 h4=>?_) ?_)
 ·dsimp only
  rw[show pre.length+n - 1=pre.length+(n - 1) by lia]
  refine Qd (r.ask ask n2 @0 ?_)
  cases c:L (H S.toArray n) (H S.toArray (n - 1)) with
  |true=>exact Qe (h3 c)
  |false=>exact Qe (h4 c)
 rintro c st' ⟨n,rfl,rfl,n1,n2,s,hc⟩
 refine Ql (fun c=>Qe (K n _ S r rfl (zf4 _) @0 n2 s)) (fun c=>?_)
 have c:¬ n=S.length:=by simpa using c
 refine Ql (fun c1=>?_) (fun c1=>?_)
 ·rw[show pre.length+n - 1=pre.length+(n - 1) by lia]
  have q:L (H S.toArray 0) (H S.toArray (n - 1))=true:=by
   have:=QmZ (a:=(S.take n).toArray) s (show 0<n - 1 by lia) (by simp;lia)
   have h1:∀u,u<n->H (S.take n).toArray u=H S.toArray u:=fun u hu=>by
    rw[H,H,z32,z32,z49,z49,zc1 hu]
   rw[h1 0 @0,h1 (n - 1) @0] at this
   exact this
  refine Qd (r.ask ask (u:=0) (v:=n - 1) @0 @0 ?_)
  rw[q]
  dsimp only
  rw[if_pos rfl]
  exact Qe (K n _ S r rfl (zf4 _) @0 n2 s)
 have e1:n=1:=by lia
 subst e1
 have d1:=hc @0
 refine Qd (QaX ?_)
 have sd1:Sd (fl L) (S.take 1):=by
  rw[Qe2 (n:=0) h0,zl0]
  exact z81.mpr ⟨@2,.nil⟩
 have trf:∀x y z,fl L x y=true->fl L y z=true->fl L x z=true:=fun x y z h1 h2=>o.tr z y x h2 h1
 have sd2:Sd (fl L) (S.take 2):=QgT o trf (n:=1) @0 @0 sd1 d1
 refine Qd (QR (QeZ (a:=1+1) @0 (I:=fun i c st'=>c=(none,i,0)/\st=st'/\2<=i/\Sd (fl L) (S.take i)) (Q:=fun c st'=>∃n,c=(none,n,0)/\st=st'/\2<=n/\n<=S.length/\Sd (fl L) (S.take n)) ?_ ?_ ⟨rfl,rfl,z24 _,sd2⟩) ?_)
 ·rintro i c st' i1 i2 ⟨rfl,rfl,i3,s⟩
  dsimp only
  rw[show pre.length+i - 1=pre.length+(i - 1) by lia]
  refine Qd (r.ask ask i2 @0 ?_)
  cases c:L (H S.toArray i) (H S.toArray (i - 1)) with
  |true=>
   dsimp only
   rw[if_pos rfl,if_neg @0]
   exact Qe ⟨rfl,rfl,by lia,QgT o trf @0 i2 s c⟩
  |false=>
   dsimp only
   rw[if_neg @1]
   refine Qd (r.ask ask @0 i2 ?_)
   rw[QhF r o @0 i2 c]
   dsimp only
   rw[if_pos rfl]
   exact Qe ⟨i,rfl,rfl,i3,by lia,s⟩
 ·rintro c st' ⟨rfl,rfl,i3,s⟩
  exact⟨S.length,rfl,rfl,i3,z24 _,s⟩
 rintro c st' ⟨n,rfl,rfl,n1,n2,s⟩
 dsimp only
 rw[if_neg @0]
 rw[reverseSlice'_eq]
 refine Qd (Jj ?_)
 have r2:Rst κ U pre ((S.take n).reverse++S.drop n) (setArr st (mirror (arrOf st) pre.length (pre.length+n) ((pre.length+n - pre.length) / 2))):=by
  have pm:((S.take n).reverse++S.drop n).Perm S:=by
   have:=(zd7 (S.take n)).append_right (S.drop n)
   rw[z47] at this
   exact this
  refine⟨r.k,r.f,?_,fun x hx=>r.u x (pm.mem_iff.mp hx),pm.nodup_iff.mpr r.nd⟩
  have ln:(S.take n).length=n:=by rw[z44];lia
  have:=QgU (a:=arrOf st) (pre:=pre) (X:=S.take n) (Y:=S.drop n) (by rw[z47];exact r.e)
  rw[ln] at this
  exact this
 have pm:((S.take n).reverse++S.drop n).Perm S:=by
  have:=(zd7 (S.take n)).append_right (S.drop n)
  rw[z47] at this
  exact this
 have sl:((S.take n).reverse++S.drop n).length=S.length:=pm.length_eq
 have st1:Sd L (((S.take n).reverse++S.drop n).take n):=by
  rw[zo2 (by rw[za6,z44];lia),z75 (by rw[za6,z44];lia)]
  exact Qj3 s
 generalize hS2:(S.take n).reverse++S.drop n=S2 at r2 pm sl st1
 have hp:pendingOf (setArr st (mirror (arrOf st) pre.length (pre.length+n) ((pre.length+n - pre.length) / 2)))=pendingOf st:=rfl
 generalize setArr st (mirror (arrOf st) pre.length (pre.length+n) ((pre.length+n - pre.length) / 2))=st2 at r2 hp ⊢
 rw[← sl]
 refine Qd (QR (asc r2 n @0 @0 st1 fun i m R m1 m2 h3 h4=>?_) ?_)
 ·dsimp only
  rw[show pre.length+m - 1=pre.length+(m - 1) by lia]
  refine Qd (r2.ask ask m2 @0 ?_)
  cases c:L (H S2.toArray m) (H S2.toArray (m - 1)) with
  |true=>exact Qe (h3 c)
  |false=>exact Qe (h4 c)
 rintro c st3 ⟨m,rfl,rfl,m1,m2,s3,_⟩
 exact Qe (K m _ S2 r2 hp pm @0 m2 s3)
end
section
variable {J:Shared->Prop}{M:Model}{A:Around}{E:Value->Shared->Prop}{st:SortSt}{κ:SortKind}{U:Keyed->Prop}{L:Keyed->Keyed->Bool}{a:Array Keyed}{pre S:List Keyed}{i n:Nat}
theorem QgV {P R t:List Keyed}{x:Keyed}(e:a.toList=P++(R++(x::t))):(bubble a (P.length+R.length) R.length).toList=P++(x::(R++t)):=by
 have sz:a.size=P.length+(R.length+(t.length+1)):=by
  have:=congrArg ze7 e
  simpa using this
 refine zi0 fun k=>?_
 have g1:∀u,(P++(R++(x::t)))[u]? = if u<P.length then P[u]? else if u<P.length+R.length then R[u - P.length]? else(x::t)[u - P.length - R.length]?:=fun u=>by
  by_cases c:u<P.length
  ·rw[if_pos c,z62 c]
  ·rw[if_neg c,z46 @0]
   by_cases c2:u<P.length+R.length
   ·rw[if_pos c2,z62 @0]
   ·rw[if_neg c2,z46 @0]
 have g2:(P++(x::(R++t)))[k]? = if k<P.length then P[k]? else if k=P.length then some x else if k<=P.length+R.length then R[k - P.length - 1]? else t[k - P.length - 1 - R.length]?:=by
  by_cases c:k<P.length
  ·rw[if_pos c,z62 c]
  ·rw[if_neg c,z46 @0]
   by_cases c1:k=P.length
   ·rw[if_pos c1,c1,zk2];rfl
   ·rw[if_neg c1,show k - P.length=(k - P.length - 1)+1 by lia,zi8,zx4]
    by_cases c2:k<=P.length+R.length
    ·rw[if_pos c2,z62 @0]
    ·rw[if_neg c2,z46 @0]
 rw[z43,getElem?_bubble @0 _ @0,← z43,← z43,← z43,e,g1,g1,g1,g2,zx4]
 by_cases c1:k=P.length
 ·rw[if_pos c1,if_neg @0,if_neg @0,if_neg @0,if_pos c1,za3,zk2];rfl
 ·rw[if_neg c1]
  by_cases c2:P.length<k/\k<=P.length+R.length
  ·rw[if_pos c2,if_neg @0,if_pos @0,if_neg @0,if_neg c1,if_pos c2.2]
   congr 1;lia
  ·rw[if_neg c2]
   by_cases c3:k<P.length
   ·rw[if_pos c3,if_pos c3]
   ·rw[if_neg c3,if_neg @0,if_neg c3,if_neg c1,if_neg @0,show k - P.length - R.length=(k - P.length - 1 - R.length)+1 by lia,zi8]
theorem Qon (ask:Ask J M A E κ U L)(o:Od U L)(r:Rst κ U pre S st){ok:Nat}(h1:0<ok)(h2:ok<=n)(h3:n<=S.length)(s:Sd L (S.take ok)){Q:Bool->SortSt->Prop}
  (K:∀st' S',Rst κ U pre S' st'->pendingOf st'=pendingOf st->S'.Perm S->Sd L (S'.take n)->Q true st'):wpT J M A E (binarySort' pre.length n ok) Q st:=by
 rw[binarySort'_eq,show max ok 1=ok by lia]
 refine Qd (QR (QeZ h2 (I:=fun k c st'=>c=(none,())/\∃S',Rst κ U pre S' st'/\pendingOf st'=pendingOf st/\S'.Perm S/\Sd L (S'.take k)) (Q:=fun c st'=>c=(none,())/\∃S',Rst κ U pre S' st'/\pendingOf st'=pendingOf st/\S'.Perm S/\Sd L (S'.take n)) ?_ (fun _ _ h=>h) ⟨rfl,S,r,rfl,zf4 _,s⟩) ?_)
 ·rintro k c st1 k1 k2 ⟨rfl,S1,r1,hp,pm,s⟩
  have sl:=pm.length_eq
  refine Qd (QR (JP (I:=fun y c st'=>∃l q,c=(none,l,q)/\st1=st'/\l<=q/\q<=k/\q - l<=k - y/\(∀u,u<l->L (H S1.toArray u) (H S1.toArray k)=true)/\(∀u,q<=u->u<k->L (H S1.toArray k) (H S1.toArray u)=true))
   (Q:=fun c st'=>∃l q,c=(none,l,q)/\st1=st'/\l<=k/\(∀u,u<l->L (H S1.toArray u) (H S1.toArray k)=true)/\(∀u,l<=u->u<k->L (H S1.toArray k) (H S1.toArray u)=true)) ?_ ?_ ⟨0,k,rfl,rfl,by lia,by lia,by lia,(fun u h=>absurd h (Nat.not_lt_zero _)),fun u a b=>absurd b @0⟩) ?_)
  ·rintro y c st2 hy ⟨l,q,rfl,rfl,g1,g2,g3,g4,g5⟩
   dsimp only
   refine Ql (fun c=>Qe ⟨l,q,rfl,rfl,by lia,g4,fun u a b=>g5 u @0 b⟩) (fun c=>?_)
   have hm:(l+q) / 2<q/\l<=(l+q) / 2:=by lia
   have srt:∀u v,u<v->v<k->L (H S1.toArray u) (H S1.toArray v)=true:=fun u v a b=>by
    have:=QmZ (a:=(S1.take k).toArray) s a (by simp;lia)
    have h1:∀u,u<k->H (S1.take k).toArray u=H S1.toArray u:=fun u hu=>by
     rw[H,H,z32,z32,z49,z49,zc1 hu]
    rw[h1 u @0,h1 v b] at this
    exact this
   refine Qd (r1.ask ask (u:=k) (v:=(l+q) / 2) @0 @0 ?_)
   cases e:L (H S1.toArray k) (H S1.toArray ((l+q) / 2)) with
   |true=>
    refine Qe ⟨l,_,rfl,rfl,by lia,by lia,by lia,g4,fun u a b=>?_⟩
    by_cases z:u=(l+q) / 2
    ·subst z;exact e
    ·exact o.tr _ _ _ e (srt _ u @0 b)
   |false=>
    have e2:=o.to _ _ (r1.uH @0) (r1.uH @0) (r1.ne (i:=k) (j:=(l+q) / 2) @0 @0 @0) e
    refine Qe ⟨_,q,rfl,rfl,by lia,g2,by lia,fun u a=>?_,g5⟩
    by_cases z:u=(l+q) / 2
    ·subst z;exact e2
    ·exact o.tr _ _ _ (srt u _ (show u<(l+q) / 2 by lia) @0) e2
  ·rintro c st2 ⟨l,q,rfl,rfl,g1,g2,g3,g4,g5⟩
   exact⟨l,q,rfl,rfl,by lia,g4,fun u a b=>g5 u @0 b⟩
  rintro c st2 ⟨l,q,rfl,rfl,l1,g4,g5⟩
  dsimp only
  rw[moveDown'_eq]
  refine Qd (Jj (Qe ⟨rfl,?_⟩))
  have hk:k<S1.length:=by lia
  have eS:S1=S1.take l++((S1.take k).drop l++(H S1.toArray k::S1.drop (k+1))):=by
   have a1:S1.take k=S1.take l++(S1.take k).drop l:=by
    have:=z47 l (S1.take k)
    rw[zr2,zh1 l1] at this
    exact this.symm
   have a2:=QhB (a:=S1.toArray) (i:=k) (by simpa using hk)
   have a2:S1.drop k=H S1.toArray k::S1.drop (k+1):=a2
   rw[← a2,← z20,← a1,z47]
  have lP:(S1.take l).length=l:=by rw[z44];lia
  have lR:((S1.take k).drop l).length=k - l:=by rw[z58,z44];lia
  have mP:∀y∈S1.take l,∃u,u<l/\y=H S1.toArray u:=fun y hy=>QiZ @0 hy
  have mR:∀y∈(S1.take k).drop l,∃u,l<=u/\u<k/\y=H S1.toArray u:=fun y hy=>by
   obtain⟨u,u1,u2,e⟩:=QaY (a:=(S1.take k).toArray) hy
   have u2:u<k:=by simp at u2;lia
   refine⟨u,u1,u2,?_⟩
   rw[e,H,H,z32,z32,z49,z49,zc1 u2]
  have sPR:Sd L (S1.take l++(S1.take k).drop l):=by
   have:=z47 l (S1.take k)
   rw[zr2,zh1 l1] at this
   rw[this];exact s
  have eA:=r1.e
  generalize S1.take l=P at eS lP mP sPR
  generalize (S1.take k).drop l=R at eS lR mR sPR
  generalize hx:H S1.toArray k=x at eS g4 g5
  generalize S1.drop (k+1)=t at eS
  have pm2:(P++(x::(R++t))).Perm S1:=by
   rw[eS]
   refine zc9 P ?_
   exact(List.perm_middle (l₁:=R)).symm
  refine⟨P++(x::(R++t)),⟨r1.k,r1.f,?_,fun y hy=>r1.u y (pm2.mem_iff.mp hy),pm2.nodup_iff.mpr r1.nd⟩,hp,pm2.trans pm,?_⟩
  ·rw[eS] at eA
   have eB:(arrOf st1).toList=(pre++P)++(R++(x::t)):=by rw[eA,z20]
   have:=QgV eB
   rw[z16,lP,lR] at this
   show(bubble (arrOf st1) (pre.length+k) (pre.length+k - (pre.length+l))).toList=_
   rw[show pre.length+k - (pre.length+l)=k - l by lia]
   rw[show pre.length+l+(k - l)=pre.length+k by lia] at this
   rw[this,z20]
  ·have ek:(P++(x::(R++t))).take (k+1)=P++(x::R):=by
    have:(P++(x::(R++t)))=(P++(x::R))++t:=by rw[z20];rfl
    rw[this,List.take_left' (by rw[z16,z27,lP,lR];lia)]
   rw[ek]
   obtain⟨s1,s2,s3⟩:=z34.mp sPR
   refine z34.mpr ⟨s1,z81.mpr ⟨fun y hy=>?_,s2⟩,fun y hy w hw=>?_⟩
   ·obtain⟨u,u1,u2,rfl⟩:=mR y hy
    exact g5 u u1 u2
   ·rcases z15.mp hw with rfl|hw
    ·obtain⟨u,hu,rfl⟩:=mP y hy
     exact g4 u hu
    ·exact s3 y hy w hw
 ·rintro c st1 ⟨rfl,S1,r1,hp,pm,s⟩
  exact Qe (K st1 S1 r1 hp pm s)
end
def layR:Nat->List (List Keyed)->List (Nat×Nat)
 |_,[]=>[]
 |n,r::rs=>(n,r.length)::layR (n+r.length) rs
abbrev p2 (t:Nat×Nat×Nat):Nat×Nat:=(t.1,t.2.1)
theorem Qc1:∀(n:Nat) (a b:List (List Keyed)),layR n (a++b)=layR n a++layR (n+a.flatten.length) b
 |n,[],b=>by simp[layR]
 |n,r::a,b=>by
  show(n,r.length)::layR (n+r.length) (a++b)=(n,r.length)::(layR (n+r.length) a++_)
  rw[Qc1 (n+r.length) a b,zd8,z16,Nat.add_assoc]
theorem Qe3:∀(n:Nat) (a:List (List Keyed)),(layR n a).length=a.length
 |_,[]=>rfl
 |n,r::a=>by show(layR _ a).length+1=_;rw[Qe3];rfl
section
variable {J:Shared->Prop}{M:Model}{A:Around}{E:Value->Shared->Prop}{st:SortSt}{κ:SortKind}{U:Keyed->Prop}{L:Keyed->Keyed->Bool}{T rest:List Keyed}{rs r1 r2:List (List Keyed)}{X Y:List Keyed}{i n:Nat}
structure Rn (κ:SortKind)(L:Keyed->Keyed->Bool)(T:List Keyed)(rs:List (List Keyed))(rest:List Keyed)(st:SortSt):Prop where
 k:kindOf st=κ
 f:failedOf st=none
 e:(arrOf st).toList=rs.flatten++rest
 pm:(arrOf st).toList.Perm T
 p:(pendingOf st).toList.map p2=layR 0 rs
 s:∀r∈rs,Sd L r/\0<r.length
theorem Rn.psz (r:Rn κ L T rs rest st):(pendingOf st).size=rs.length:=by
 have:=congrArg ze7 r.p
 rw[z01,Qe3] at this
 simpa using this
theorem Rn.merge (ask:Ask J M A E κ U L)(o:Od U L)(uT:∀x∈T,U x)(nT:T.Nodup)(r:Rn κ L T (r1++X::Y::r2) rest st)(hi:r1.length=i){Q:Bool->SortSt->Prop}
  (K:∀st' Z,Rn κ L T (r1++Z::r2) rest st'->Z.length=X.length+Y.length->Q true st'):wpT J M A E (mergeAt' i) Q st:=by
 have ea:(arrOf st).toList=r1.flatten++(X++(Y++(r2.flatten++rest))):=by
  rw[r.e];simp only[zc3,zd8,z20]
 have hp:=r.p
 rw[Qc1,z90] at hp
 have hp':(pendingOf st).toList.map p2=layR 0 r1++((r1.flatten.length,X.length)::(r1.flatten.length+X.length,Y.length)::layR (r1.flatten.length+X.length+Y.length) r2):=hp
 obtain⟨P1,Pr,eP,q1,q2⟩:=List.map_eq_append_iff.mp hp'
 obtain⟨x,Pr,rfl,q3,q4⟩:=zu9.mp q2
 obtain⟨y,P2,rfl,q5,q6⟩:=zu9.mp q4
 obtain⟨x1,x2,x3⟩:=x
 obtain⟨y1,y2,y3⟩:=y
 obtain⟨rfl,rfl⟩:=zk1 q3
 obtain⟨rfl,rfl⟩:=zk1 q5
 have l1:P1.length=i:=by
  have:=congrArg ze7 q1
  rw[z01,Qe3] at this
  rw[this,hi]
 have g1:(pendingOf st)[i]? = some (r1.flatten.length,X.length,x3):=by
  rw[← z43,eP,← l1,z46 (z24 _),zk2];rfl
 have g2:(pendingOf st)[i+1]? = some (r1.flatten.length+X.length,Y.length,y3):=by
  rw[← z43,eP,← l1,z46 @0,za3];rfl
 have hX:=r.s X (z02 _ z07)
 have hY:=r.s Y (z02 _ (z08 _ z07))
 have mem:∀v,v∈X++Y->v∈T:=fun v hv=>r.pm.mem_iff.mp (by
  rw[ea]
  rcases z05.mp hv with z|z
  ·exact z02 _ (z06 _ z)
  ·exact z02 _ (z02 _ (z06 _ z)))
 have nd:(r1.flatten++(X++(Y++(r2.flatten++rest)))).Nodup:=by rw[← ea];exact r.pm.nodup_iff.mpr nT
 have ne:∀v∈X,∀w∈Y,v≠w:=fun v hv w hw e=>by
  have n2:=(z09.mp nd).2.1
  exact(z09.mp n2).2.2 v hv w (z06 _ hw) e
 refine QgS ask o r.k r.f ea g1 g2 hX.1 hY.1 hX.2 hY.2 (fun v hv=>uT v (mem v (z06 _ hv))) (fun v hv=>uT v (mem v (z02 _ hv))) ne fun st' Z z1 z2 z3 z4 z5 z6=>?_
 have lZ:Z.length=X.length+Y.length:=by rw[z4.length_eq,z16]
 refine K st' Z ⟨z1,z2,?_,?_,?_,fun v hv=>?_⟩ lZ
 ·rw[z3];simp only[zc3,zd8,z20]
 ·rw[z3]
  refine zi4 ?_ r.pm
  rw[ea]
  refine zc9 _ ?_
  rw[← z20 X]
  exact z4.append_right _
 ·have e6:(pendingOf st').toList=P1++((r1.flatten.length,X.length+Y.length,x3)::P2):=by
   rw[z6,Array.toList_eraseIdxIfInBounds,zp8,eP,← l1,zt8 _ _ (z24 _),zk2,List.eraseIdx_append_of_length_le @0,za3]
   rfl
  rw[e6,z77,q1,z30,q6,Qc1,z90]
  show layR 0 r1++((r1.flatten.length,X.length+Y.length)::_)=layR 0 r1++((r1.flatten.length,Z.length)::layR (r1.flatten.length+Z.length) r2)
  rw[lZ,Nat.add_assoc]
 ·rcases z05.mp hv with z|z
  ·exact r.s v (z06 _ z)
  ·rcases z15.mp z with rfl|z
   ·exact⟨z5,by rw[lZ];have:=hX.2;lia⟩
   ·exact r.s v (z02 _ (z08 _ (z08 _ z)))
theorem Qdm (h:i+1<rs.length):∃r1 X Y r2,rs=r1++X::Y::r2/\r1.length=i:=by
 refine⟨rs.take i,rs[i],rs[i+1],rs.drop (i+1+1),?_,by rw[z44];lia⟩
 rw[← z96,← z96,z47]
theorem Qoo (h:∀r∈rs,Sd L r/\0<r.length):rs.length<=rs.flatten.length:=by
 induction rs with
 |nil=>exact z24 _
 |cons r rs ih=>
  rw[zd8,z16,z27]
  have:=ih fun x hx=>h x (z08 _ hx)
  have:=(h r z07).2
  lia
theorem Qm3 {a:Array (Nat×Nat×Nat)}{i:Nat}{f:Nat×Nat×Nat->Nat×Nat×Nat}(h:∀t,p2 (f t)=p2 t):(a.modify i f).toList.map p2=a.toList.map p2:=by
 refine zi0 fun k=>?_
 rw[z22,z22,z43,z43,Array.getElem?_modify]
 split
 ·rw[Option.map_map]
  congr 1
  funext t
  exact h t
 ·rfl
theorem Qma (ask:Ask J M A E κ U L)(o:Od U L)(uT:∀x∈T,U x)(nT:T.Nodup)(hk:kindOf st=κ)(hf:failedOf st=none)(hp:pendingOf st = #[])(ea:(arrOf st).toList=T)(h1:0<T.length){Q:Unit->SortSt->Prop}
  (K:∀st',failedOf st'=none->(arrOf st').toList.Perm T->Sd L (arrOf st').toList->Q () st'):wpT J M A E sortRuns' Q st:=by
 rw[sortRuns'_eq]
 refine Qd (J0 ?_)
 have sz:(arrOf st).size=T.length:=by rw[← ea];simp
 dsimp only
 rw[sz]
 generalize minRun' T.length T.length 0=mr
 refine Qd (QR (JP (I:=fun x c st'=>∃rs rest,c=(none,rs.flatten.length)/\x<=rs.flatten.length/\Rn κ L T rs rest st') (Q:=fun c st'=>∃rs n,c=(none,n)/\Rn κ L T rs [] st') ?_ ?_ ⟨[],T,rfl,z24 _,⟨hk,hf,ea,by rw[ea],by rw[hp];rfl,fun _ z=>nomatch z⟩⟩) ?_)
 ·rintro x c st1 hx ⟨rs,rest,rfl,hx2,r⟩
  have tl:rs.flatten.length+rest.length=T.length:=by rw[← r.pm.length_eq,r.e,z16]
  refine Ql (fun c=>Qe ?_) (fun c=>?_)
  ·have:rest=[]:=zo5 @0
   subst this
   exact⟨rs,_,rfl,r⟩
  rw[show T.length - rs.flatten.length=rest.length by lia]
  have Qv7:∀x∈rest,x∈T:=fun x hx=>r.pm.mem_iff.mp (by rw[r.e];exact z02 _ hx)
  have ndR:rest.Nodup:=(z09.mp (show(rs.flatten++rest).Nodup by rw[← r.e];exact r.pm.nodup_iff.mpr nT)).2.1
  have q0:Rst κ U rs.flatten rest st1:=⟨r.k,r.f,r.e,fun x hx=>uT x (Qv7 x hx),ndR⟩
  have again:∀{st2:SortSt} {S2:List Keyed} {m:Nat},Rst κ U rs.flatten S2 st2->pendingOf st2=pendingOf st1->S2.Perm rest->0<m->m<=S2.length->Sd L (S2.take m)->Rn κ L T rs S2 st2:=fun{st2 S2 m} r2 e pm _ _ _=>by
   refine⟨r2.k,r2.f,r2.e,?_,by rw[e];exact r.p,r.s⟩
   rw[r2.e]
   refine(pm.append_left _).trans ?_
   rw[← r.e];exact r.pm
  have more:∀{st2:SortSt} {S2:List Keyed} {m:Nat} {rs2:List (List Keyed)},Rn κ L T rs2 S2 st2->rs2.flatten.length=rs.flatten.length->0<m->m<=S2.length->Sd L (S2.take m)->∃rs3 Qi0,((none,rs.flatten.length+m):Option Unit×Nat)=(none,rs3.flatten.length)/\x+1<=rs3.flatten.length/\Rn κ L T rs3 Qi0 (setPending st2 ((pendingOf st2).push (rs.flatten.length,m,0))):=fun{st2 S2 m rs2} r2 e m1 m2 s=>by
   have lt:(S2.take m).length=m:=by rw[z44];lia
   have fl:(rs2++[S2.take m]).flatten.length=rs.flatten.length+m:=by rw[zc3,z16,e];simp[m2]
   refine⟨rs2++[S2.take m],S2.drop m,by rw[fl],by rw[fl];lia,r2.k,r2.f,?_,r2.pm,?_,fun v hv=>?_⟩
   ·show(arrOf st2).toList=_
    rw[r2.e,zc3]
    simp
   ·show((pendingOf st2).push _).toList.map p2=_
    rw[z53,z77,r2.p,Qc1,z90,e]
    show layR 0 rs2++[(rs.flatten.length,m)]=layR 0 rs2++[(rs.flatten.length,(S2.take m).length)]
    rw[lt]
   ·rcases z05.mp hv with z|z
    ·exact r2.s v z
    ·rw[z26.mp z];exact⟨s,by rw[lt];exact m1⟩
  refine Qd (Qj4 ask o q0 @0 fun m st2 S2 t1 t2 t3 t4 t5 t6=>?_)
  refine Ql (fun c=>Qd (QaX (Qd (Qon ask o t1 (n:=min rest.length mr) t4 (by rw[t3.length_eq] at t5;lia) (by rw[t3.length_eq];lia) t6 fun st3 S3 v1 v2 v3 v4=>?_)))) (fun c=>?_)
  ·rw[if_neg @1]
   have m1:0<min rest.length mr:=by lia
   have m2:min rest.length mr<=S3.length:=by rw[v3.length_eq,t3.length_eq];lia
   have rn:=again v1 (v2.trans t2) (v3.trans t3) m1 m2 v4
   generalize min rest.length mr=m' at m1 m2 v4 ⊢
   refine Qd (J0 ?_)
   cases hb:(pendingOf st3).back? with
   |none=>
    exact Qd (Jj (Qe (more rn rfl m1 m2 v4)))
   |some t=>
    obtain⟨u1,u2,u3⟩:=t
    refine Qd (QR (JP (I:=fun y c st'=>c=(none,())/\∃rs2,Rn κ L T rs2 S3 st'/\rs2.flatten.length=rs.flatten.length) (Q:=fun c st'=>c=(none,())/\∃rs2,Rn κ L T rs2 S3 st'/\rs2.flatten.length=rs.flatten.length) ?_ (fun _ _ h=>h) ⟨rfl,rs,rn,rfl⟩) ?_)
    ·rintro y c st4 hy ⟨rfl,rs2,r2,e2⟩
     refine Qd (J0 ?_)
     have ps:=r2.psz
     by_cases c1:(pendingOf st4).size > 1
     ·rw[if_pos c1]
      cases hg:(pendingOf st4)[(pendingOf st4).size - 2]? with
      |none=>exact Qe ⟨rfl,rs2,r2,e2⟩
      |some v=>
       obtain⟨v1,v2,v3⟩:=v
       refine Ql (fun _=>Qe ⟨rfl,rs2,r2,e2⟩) (fun _=>?_)
       obtain⟨q1,X,Y,q2,e,li⟩:=Qdm (rs:=rs2) (i:=(pendingOf st4).size - 2) @0
       subst e
       refine Qd (r2.merge ask o uT nT li fun st5 Z rz lz=>?_)
       rw[if_neg @1]
       refine Qe ⟨rfl,_,rz,?_⟩
       rw[← e2]
       simp only[zc3,zd8,z16]
       lia
     ·rw[if_neg c1]
      exact Qe ⟨rfl,rs2,r2,e2⟩
    ·rintro c st4 ⟨rfl,rs2,r2,e2⟩
     refine Qd (Jj ?_)
     refine Qd (Jj (Qe (more (rs2:=rs2) ⟨r2.k,r2.f,r2.e,r2.pm,?_,r2.s⟩ e2 m1 m2 v4)))
     rw[← r2.p]
     exact Qm3 fun _=>rfl
  ·have rn:=again t1 t2 t3 t4 t5 t6
   refine Qd (J0 ?_)
   cases hb:(pendingOf st2).back? with
   |none=>
    exact Qd (Jj (Qe (more rn rfl t4 t5 t6)))
   |some t=>
    obtain⟨u1,u2,u3⟩:=t
    refine Qd (QR (JP (I:=fun y c st'=>c=(none,())/\∃rs2,Rn κ L T rs2 S2 st'/\rs2.flatten.length=rs.flatten.length) (Q:=fun c st'=>c=(none,())/\∃rs2,Rn κ L T rs2 S2 st'/\rs2.flatten.length=rs.flatten.length) ?_ (fun _ _ h=>h) ⟨rfl,rs,rn,rfl⟩) ?_)
    ·rintro y c st4 hy ⟨rfl,rs2,r2,e2⟩
     refine Qd (J0 ?_)
     have ps:=r2.psz
     by_cases c1:(pendingOf st4).size > 1
     ·rw[if_pos c1]
      cases hg:(pendingOf st4)[(pendingOf st4).size - 2]? with
      |none=>exact Qe ⟨rfl,rs2,r2,e2⟩
      |some v=>
       obtain⟨v1,v2,v3⟩:=v
       refine Ql (fun _=>Qe ⟨rfl,rs2,r2,e2⟩) (fun _=>?_)
       obtain⟨q1,X,Y,q2,e,li⟩:=Qdm (rs:=rs2) (i:=(pendingOf st4).size - 2) @0
       subst e
       refine Qd (r2.merge ask o uT nT li fun st5 Z rz lz=>?_)
       rw[if_neg @1]
       refine Qe ⟨rfl,_,rz,?_⟩
       rw[← e2]
       simp only[zc3,zd8,z16]
       lia
     ·rw[if_neg c1]
      exact Qe ⟨rfl,rs2,r2,e2⟩
    ·rintro c st4 ⟨rfl,rs2,r2,e2⟩
     refine Qd (Jj ?_)
     refine Qd (Jj (Qe (more (rs2:=rs2) ⟨r2.k,r2.f,r2.e,r2.pm,?_,r2.s⟩ e2 t4 t5 t6)))
     rw[← r2.p]
     exact Qm3 fun _=>rfl
 ·rintro c st1 ⟨rs,rest,rfl,hx2,r⟩
  have tl:rs.flatten.length+rest.length=T.length:=by rw[← r.pm.length_eq,r.e,z16]
  have:rest=[]:=zo5 @0
  subst this
  exact⟨rs,_,rfl,r⟩
 rintro c st1 ⟨rs,n,rfl,r⟩
 have l0:rs.length<=T.length:=by
  have:=Qoo r.s
  have e:=r.pm.length_eq
  rw[r.e,z52] at e
  lia
 refine Qd (QR (JP (I:=fun x c st'=>∃rs,c=(none,())/\Rn κ L T rs [] st'/\(rs.length<=1\/rs.length<=T.length - x)) (Q:=fun c st'=>∃rs,c=(none,())/\Rn κ L T rs [] st'/\rs.length<=1) ?_ ?_ ⟨rs,rfl,r,.inr @0⟩) ?_)
 ·rintro x c st2 hx ⟨rs,rfl,r,hl⟩
  refine Qd (J0 ?_)
  have ps:=r.psz
  refine Ql (fun c=>Qe ⟨rs,rfl,r,by lia⟩) (fun c=>?_)
  have l2:2<=rs.length:=by lia
  have ok:∀i',i' + 1<rs.length->wpT J M A E (mergeAt' i') (fun r st'=>r=true/\∃rs,Rn κ L T rs [] st'/\rs.length<=T.length - (x+1)) st2:=fun i' h=>by
   obtain⟨r1,X,Y,r2,e,li⟩:=Qdm h
   subst e
   refine r.merge ask o uT nT li fun st' Z rz _=>⟨rfl,_,rz,?_⟩
   simp only[z16,z27] at hl ⊢
   simp only[z16,z27] at l2
   lia
  refine Qd (QR (ok _ ?_) ?_)
  ·rw[ps]
   repeat' split
   all_goals lia
  ·rintro b st3 ⟨rfl,rs',r',l'⟩
   rw[if_neg @1]
   exact Qe ⟨rs',rfl,r',.inr l'⟩
 ·rintro c st2 ⟨rs,rfl,r,hl⟩
  exact⟨rs,rfl,r,by lia⟩
 rintro c st2 ⟨rs,rfl,r,hl⟩
 refine Qe (K st2 r.f r.pm ?_)
 have el:=r.pm.length_eq
 rw[r.e,z52] at el ⊢
 match rs,hl,r.s with
 | [],_,_=>exact .nil
 | [x],_,s=>
  have:=(s x z07).1
  simpa using this
end
end L2.Srt
namespace L2.Srt
open PySem PySem.W PySem.Calls PyProof.Rows
section
variable {prog:Program}{w:World}{A:Around}{E:Value->Shared->Prop}{s:Shared}
def Kp (h h':Heap):Prop:=∀b o,h.get? b=some o->h'.get? b=some o
theorem Qj5 {a:Addr}{vs:List Value}{n:Nat}{κ:SortKind}{lt:Nat->Nat->Bool}{h0:Heap}{P:PySem.Fin->Shared->Prop}(ho:s.heap.get? a=some (seqObj "list" vs.toArray n))(h0k:Kp h0 s.heap)(h0a:h0.get? a=none)(h2:2<=vs.length)(h64:vs.length<=4000)(nv:vs.Nodup)(o:Ord vs.length lt)
  (hk:∀(h':Heap) (tk:Nat) (Q:SortKind->Shared->Prop),Kp h0 h'->Q κ { s with heap:=h',toks:=tk }->wpAny @15 A (keyKind' vs.toArray) Q (fun _ _=>False) { s with heap:=h',toks:=tk })
  (hc:∀(h':Heap) (tk i j:Nat) (Q:Bool->Shared->Prop),Kp h0 h'->i<vs.length->j<vs.length->(∀tk',Q (lt i j) { s with heap:=h',toks:=tk' })->wpAny @15 A (keyLt' κ (vs.getD i z39) (vs.getD j z39)) Q (fun _ _=>False) { s with heap:=h',toks:=tk })
  (hQ:∀(h':Heap) (tk:Nat) (is:List Nat) (c:Nat),is.Perm (z68 vs.length)->is.Pairwise (fun i j=>lt i j=true)->Kp h0 h'->h'.get? a=some (seqObj "list" (is.map fun i=>vs.getD i z39).toArray c)->P (.done (.ret .none)) { s with heap:=h',toks:=tk }) :
  wpAny @15 A (Builtin.«list.sort» ⟨[.ref a],[]⟩) P E s:=by
 have ha:a<s.heap.objs.size:=z31 ho
 have s1:=zb6 s.heap a (z55 fun _=>(#[]:Array Value))
 obtain⟨e1,ho1⟩:∃e1,(s.heap.update a (z55 fun _=>(#[]:Array Value))).get? a=some (seqObj "list" #[] e1):=⟨_,get?_update_seq ho fun _=>#[]⟩
 have ne:∀b o,h0.get? b=some o->b≠a:=fun b o e z=>by rw[z,h0a] at e;cases e
 have kp3:Kp h0 (((s.heap.update a (z55 fun _=>(#[]:Array Value))).push (seqObj "tuple" vs.toArray 0)).push (seqObj "list" #[] 0)):=fun b x e=>
  z19 _ (z19 _ ((s1.2 b (ne b x e)).trans (h0k b x e)))
 have ho3:(((s.heap.update a (z55 fun _=>(#[]:Array Value))).push (seqObj "tuple" vs.toArray 0)).push (seqObj "list" #[] 0)).get? a=some (seqObj "list" #[] e1):=z19 _ (z19 _ ho1)
 rw[list_sort_plain]
 refine z13 (listItems_at ho rfl ?_)
 refine z13 (listUpdate_at ho rfl ?_ (by rw[z18,z36];lia) (zb8 _))
 refine z13 (seqEpoch_at ho1 rfl ?_)
 refine z13 (wpAny_newTuple ?_ (by show vs.length<=_;rw[z36];lia))
 refine z13 (zo8 ?_ (zb8 _))
 refine zc0 ?_
 show wpAny @15 A _ P E { s with heap:=((s.heap.update a (z55 fun _=>(#[]:Array Value))).push (seqObj "tuple" vs.toArray 0)).push (seqObj "list" #[] 0)}
 generalize ((s.heap.update a (z55 fun _=>(#[]:Array Value))).push (seqObj "tuple" vs.toArray 0)).push (seqObj "list" #[] 0)=h3 at kp3 ho3 ⊢
 dsimp only
 have hn2:¬ vs.toArray.size<2:=by rw[z18];lia
 rw[if_neg hn2,if_neg hn2]
 refine z13 (zb0 (hk h3 s.toks (fun κ' s'=>κ'=κ/\s'={ s with heap:=h3 }) kp3 ⟨rfl,rfl⟩) (fun κ' s0 hk'=>?_) fun _ _ x=>x.elim)
 obtain⟨rfl,rfl⟩:=hk'
 obtain⟨g,hg⟩:∃g:Keyed->Nat,∀i,i<vs.length->g (vs.getD i z39,vs.getD i z39)=i:=by
  classical
  refine⟨fun x=>if h:∃i,i<vs.length/\vs.getD i z39=x.1 then h.choose else 0,fun i hi=>?_⟩
  have h:∃j,j<vs.length/\vs.getD j z39=vs.getD i z39:=⟨i,hi,rfl⟩
  dsimp only
  rw[dif_pos h]
  obtain⟨h1,h2⟩:=h.choose_spec
  generalize h.choose=c at h1 h2 ⊢
  rw[z14,z14,z04 h1,z04 hi] at h2
  exact(zg4 nv).mp h2
 have eT:vs.map (fun v=>(v,v))=(z68 vs.length).map fun i=>((vs.getD i z39,vs.getD i z39):Keyed):=by
  apply zo4
  ·simp
  ·intro i h1 h2
   rw[z01] at h1
   simp[z14,z04 h1]
 have uT:∀x∈vs.map (fun v=>((v,v):Keyed)),∃i,i<vs.length/\x=(vs.getD i z39,vs.getD i z39):=fun x hx=>by
  rw[eT] at hx
  obtain⟨i,hi,rfl⟩:=z48.mp hx
  exact⟨i,za4.mp hi,rfl⟩
 have gT:(vs.map fun v=>((v,v):Keyed)).map g=z68 vs.length:=by
  rw[eT,z76]
  conv=>rhs;rw[← List.map_id (z68 vs.length)]
  exact z94 fun i hi=>hg i (za4.mp hi)
 have nT:(vs.map fun v=>((v,v):Keyed)).Nodup:=List.Pairwise.map _ (fun a b ne e=>ne (zk1 e).1) nv
 have run:=QfU (s:={ s with heap:=h3 }) (J:=fun s'=>∃tk,s'={ s with heap:=h3,toks:=tk }) (Qma (M:=model prog w) (A:=A) (E:=E) (κ:=κ') (U:=fun x=>∃i,i<vs.length/\x=(vs.getD i z39,vs.getD i z39)) (L:=fun x y=>lt (g x) (g y)) (T:=vs.map fun v=>(v,v)) (st:=SortSt.mk' κ' (vs.toArray.zip vs.toArray) #[] 7 none)
  (Q:=fun _ st'=>failedOf st'=none/\(arrOf st').toList.Perm (vs.map fun v=>(v,v))/\Sd (fun x y=>lt (g x) (g y)) (arrOf st').toList) ?ask ⟨fun x y z=>o.tr _ _ _,fun x=>o.ir _,?od⟩ uT nT rfl rfl rfl ?arr (by rw[z01];lia) fun st' a1 a2 a3=>⟨a1,a2,a3⟩) ⟨s.toks,rfl⟩
 case ask=>
  rintro x y st Q hk ⟨i,hi,rfl⟩ ⟨j,hj,rfl⟩ q
  dsimp only at q
  rw[hg i hi,hg j hj] at q
  rw[lt'_eq]
  refine Qd (J0 ?_)
  rw[hk]
  refine Qd ?_
  rintro s1 ⟨tk,rfl⟩
  show wpAny @15 A (Sem.attempt (keyLt' κ' (vs.getD i z39) (vs.getD j z39)) >>= fun a=>pure (a,st)) _ E _
  refine z13 (zo9 (zb0 (hc h3 tk i j (fun c s'=>c=lt i j/\∃tk',s'={ s with heap:=h3,toks:=tk' }) kp3 hi hj fun tk'=>⟨rfl,tk',rfl⟩) (fun c s' hc'=>?_) fun _ _ hF=>hF.elim))
  obtain⟨rfl,hs⟩:=hc'
  exact z33 ⟨hs,Qe q⟩
 case od=>
  rintro x y ⟨i,hi,rfl⟩ ⟨j,hj,rfl⟩ ne e
  rw[hg i hi,hg j hj] at e ⊢
  exact o.to i j hi hj (fun z=>ne (by rw[z])) e
 case arr=>
  show(vs.toArray.zip vs.toArray).toList=_
  rw[Array.toList_zip]
  have:∀l:List Value,l.zip l=l.map fun v=>(v,v):=fun l=>by
   induction l with
   |nil=>rfl
   |cons a l ih=>rw[z89,ih];rfl
  exact this vs
 refine z13 (zb0 run ?_ fun _ _ e=>e)
 ·rintro⟨⟨⟩,st'⟩ s' ⟨⟨tk,rfl⟩,hf,pm,sd⟩
  dsimp only
  dsimp only at hf pm sd
  have hout:(arrOf st').map (·.2)=(((arrOf st').toList.map g).map fun i=>vs.getD i z39).toArray:=by
   apply zn9.mp
   rw[Array.toList_map,z76]
   refine z94 fun x hx=>?_
   obtain⟨i,hi,rfl⟩:=uT x (pm.mem_iff.mp hx)
   show _=vs.getD (g _) z39
   rw[hg i hi]
  have pr:=pm.map g
  rw[gT] at pr
  rw[hout]
  have pw:((arrOf st').toList.map g).Pairwise (fun i j=>lt i j=true):=zx6.mpr sd
  generalize (arrOf st').toList.map g=is at pr pw ⊢
  have hsz:(is.map fun i=>vs.getD i z39).toArray.size=vs.length:=by rw[z18,z01,pr.length_eq,z63]
  have s2:=zb6 h3 a (z55 fun _=>(is.map fun i=>vs.getD i z39).toArray)
  obtain⟨c2,hc2⟩:∃c2,(h3.update a (z55 fun _=>(is.map fun i=>vs.getD i z39).toArray)).get? a=some (seqObj "list" (is.map fun i=>vs.getD i z39).toArray c2):=⟨_,get?_update_seq ho3 fun _=>(is.map fun i=>vs.getD i z39).toArray⟩
  refine z13 (seqEpoch_at ho3 rfl ?_)
  refine z13 (listUpdate_at ho3 rfl ?_ (zb8 _) (z65 (zu7 hsz) (by rw[z36];lia)))
  rw[hf]
  simp only[bne_self_eq_false,zd0,if_false]
  exact z33 (hQ _ tk is c2 pr pw (fun b x e=>(s2.2 b (ne b x e)).trans (kp3 b x e)) hc2)
theorem QgW {l:Addr}{vs:List Value}{κ:SortKind}{lt:Nat->Nat->Bool}{Q:Value->Shared->Prop}(hl:s.heap.IsList l vs.toArray)(h2:2<=vs.length)(h64:vs.length<=4000)(nv:vs.Nodup)(o:Ord vs.length lt)
  (hk:∀(h':Heap) (tk:Nat) (Q:SortKind->Shared->Prop),Kp s.heap h'->Q κ { s with heap:=h',toks:=tk }->wpAny @15 A.in1.in1 (keyKind' vs.toArray) Q (fun _ _=>False) { s with heap:=h',toks:=tk })
  (hc:∀(h':Heap) (tk i j:Nat) (Q:Bool->Shared->Prop),Kp s.heap h'->i<vs.length->j<vs.length->(∀tk',Q (lt i j) { s with heap:=h',toks:=tk' })->wpAny @15 A.in1.in1 (keyLt' κ (vs.getD i z39) (vs.getD j z39)) Q (fun _ _=>False) { s with heap:=h',toks:=tk })
  (hQ:∀(h':Heap) (tk:Nat) (is:List Nat) (c:Nat),is.Perm (z68 vs.length)->is.Pairwise (fun i j=>lt i j=true)->Kp s.heap h'->h'.get? @16=some (seqObj "list" (is.map fun i=>vs.getD i z39).toArray c)->Q (.ref @16) { s with heap:=h',toks:=tk }) :
  wpAny @15 A (call (.builtin "sorted") [.ref l]) Q E s:=by
 refine zq7 kind_sorted plain_sorted entry_sorted (args_sorted1 _) ?_
 unfold Builtin.«sorted»
 refine z13 (m:=checkCount "sorted" 1 1 _) (z33 ?_)
 refine z13 (collect_list hl ?_ (by rw[z36];lia))
 refine z13 (zo8 ?_ (by rw[z36];lia))
 have hsz:((s.heap.push (seqObj "list" #[] 0)).update s.heap.objs.size (z55 (·++vs.toArray))).objs.size=s.heap.objs.size+1:=by
  rw[Heap.size_update,size_push']
 have hoL:(((s.heap.push (seqObj "list" #[] 0)).update s.heap.objs.size (z55 (·++vs.toArray))).push (seqObj "list" vs.toArray 0)).get? @16=some (seqObj "list" vs.toArray 0):=by
  rw[← hsz];exact z45 _ rfl
 have keep:Kp s.heap (((s.heap.push (seqObj "list" #[] 0)).update s.heap.objs.size (z55 (·++vs.toArray))).push (seqObj "list" vs.toArray 0)):=fun b o q=>by
  have hlt:b<s.heap.objs.size:=z31 q
  rw[zi1 _ _ _ (by rw[hsz];exact z50 (zn6 hlt)),zv7 _ _ _ _ (z50 hlt),zi1 _ _ _ (z50 hlt)]
  exact q
 have hn0:s.heap.get? @16=none:=zk7 (zg1 _)
 show wpAny _ _ _ _ _ { s with heap:=((s.heap.push (seqObj "list" #[] 0)).update s.heap.objs.size (z55 (·++vs.toArray))).push (seqObj "list" vs.toArray 0)}
 rw[hsz]
 refine z13 (zc0 (zg9 slot_list_sort ⟨_,hoL,rfl⟩ entry_list_sort ?body (args_list_sort _)))
 case body=>
  refine Qj5 (s:={ s with heap:=((s.heap.push (seqObj "list" #[] 0)).update s.heap.objs.size (z55 (·++vs.toArray))).push (seqObj "list" vs.toArray 0)}) (h0:=s.heap) (κ:=κ) (lt:=lt) hoL keep hn0 h2 h64 nv o (fun h' tk Q kp q=>hk h' tk Q kp q) (fun h' tk i j Q kp hi hj q=>hc h' tk i j Q kp hi hj q) fun h' tk p c pp up kp hD=>?_
  exact⟨_,rfl,z33 ⟨_,rfl,hQ h' tk p c pp up kp hD⟩⟩
end
section
variable {prog:Program}{w:World}{A:Around}{E:Value->Shared->Prop}{s:Shared}
theorem Qi1 {a:Addr}{vs:List Value}{n:Nat}{h0:Heap}{P:PySem.Fin->Shared->Prop}(ho:s.heap.get? a=some (seqObj "list" vs.toArray n))(h0k:Kp h0 s.heap)(h0a:h0.get? a=none)(h2:vs.length<2)
  (hQ:∀(h':Heap) (tk:Nat) (c:Nat),Kp h0 h'->h'.get? a=some (seqObj "list" vs.toArray c)->P (.done (.ret .none)) { s with heap:=h',toks:=tk }) :
  wpAny @15 A (Builtin.«list.sort» ⟨[.ref a],[]⟩) P E s:=by
 have s1:=zb6 s.heap a (z55 fun _=>(#[]:Array Value))
 obtain⟨e1,ho1⟩:∃e1,(s.heap.update a (z55 fun _=>(#[]:Array Value))).get? a=some (seqObj "list" #[] e1):=⟨_,get?_update_seq ho fun _=>#[]⟩
 have ne:∀b o,h0.get? b=some o->b≠a:=fun b o e z=>by rw[z,h0a] at e;cases e
 have kp3:Kp h0 (((s.heap.update a (z55 fun _=>(#[]:Array Value))).push (seqObj "tuple" vs.toArray 0)).push (seqObj "list" #[] 0)):=fun b x e=>
  z19 _ (z19 _ ((s1.2 b (ne b x e)).trans (h0k b x e)))
 have ho3:(((s.heap.update a (z55 fun _=>(#[]:Array Value))).push (seqObj "tuple" vs.toArray 0)).push (seqObj "list" #[] 0)).get? a=some (seqObj "list" #[] e1):=z19 _ (z19 _ ho1)
 rw[list_sort_plain]
 refine z13 (listItems_at ho rfl ?_)
 refine z13 (listUpdate_at ho rfl ?_ (by rw[z18,z36];lia) (zb8 _))
 refine z13 (seqEpoch_at ho1 rfl ?_)
 refine z13 (wpAny_newTuple ?_ (by show vs.length<=_;rw[z36];lia))
 refine z13 (zo8 ?_ (zb8 _))
 refine zc0 ?_
 show wpAny @15 A _ P E { s with heap:=((s.heap.update a (z55 fun _=>(#[]:Array Value))).push (seqObj "tuple" vs.toArray 0)).push (seqObj "list" #[] 0)}
 generalize ((s.heap.update a (z55 fun _=>(#[]:Array Value))).push (seqObj "tuple" vs.toArray 0)).push (seqObj "list" #[] 0)=h3 at kp3 ho3 ⊢
 dsimp only
 have hn2:vs.toArray.size<2:=by rw[z18];lia
 rw[if_pos hn2,if_pos hn2]
 refine z13 (z33 ?_)
 rw[StateT.run_pure]
 refine z13 (z33 ?_)
 dsimp only
 have e2:(arrOf (SortSt.mk' general' (vs.toArray.zip vs.toArray) #[] 7 none)).map (·.2)=vs.toArray:=by
  show((vs.toArray.zip vs.toArray)).map (·.2)=vs.toArray
  apply zn9.mp
  simp[List.map_snd_zip]
 rw[e2]
 have s2:=zb6 h3 a (z55 fun _=>vs.toArray)
 obtain⟨c2,hc2⟩:∃c2,(h3.update a (z55 fun _=>vs.toArray)).get? a=some (seqObj "list" vs.toArray c2):=⟨_,get?_update_seq ho3 fun _=>vs.toArray⟩
 refine z13 (seqEpoch_at ho3 rfl ?_)
 refine z13 (listUpdate_at ho3 rfl ?_ (zb8 _) (by rw[z18,z36];lia))
 simp only[bne_self_eq_false,zd0,if_false]
 exact z33 (hQ _ s.toks c2 (fun b x e=>(s2.2 b (ne b x e)).trans (kp3 b x e)) hc2)
end
section
variable {prog:Program}{w:World}{A:Around}{E:Value->Shared->Prop}{s:Shared}
theorem Qi2 {l:Addr}{vs:List Value}{κ:SortKind}{lt:Nat->Nat->Bool}{Q:Value->Shared->Prop}(hl:s.heap.IsList l vs.toArray)(h64:vs.length<=4000)(nv:vs.Nodup)(o:Ord vs.length lt)
  (hk:2<=vs.length->∀(h':Heap) (tk:Nat) (Q:SortKind->Shared->Prop),Kp s.heap h'->Q κ { s with heap:=h',toks:=tk }->wpAny @15 A.in1.in1 (keyKind' vs.toArray) Q (fun _ _=>False) { s with heap:=h',toks:=tk })
  (hc:∀(h':Heap) (tk i j:Nat) (Q:Bool->Shared->Prop),Kp s.heap h'->i<vs.length->j<vs.length->(∀tk',Q (lt i j) { s with heap:=h',toks:=tk' })->wpAny @15 A.in1.in1 (keyLt' κ (vs.getD i z39) (vs.getD j z39)) Q (fun _ _=>False) { s with heap:=h',toks:=tk })
  (hQ:∀(h':Heap) (tk:Nat) (is:List Nat) (c:Nat),is.Perm (z68 vs.length)->is.Pairwise (fun i j=>lt i j=true)->Kp s.heap h'->h'.get? @16=some (seqObj "list" (is.map fun i=>vs.getD i z39).toArray c)->Q (.ref @16) { s with heap:=h',toks:=tk }) :
  wpAny @15 A (call (.builtin "sorted") [.ref l]) Q E s:=by
 by_cases h2:2<=vs.length
 ·exact QgW hl h2 h64 nv o (hk h2) hc hQ
 ·refine zq7 kind_sorted plain_sorted entry_sorted (args_sorted1 _) ?_
  unfold Builtin.«sorted»
  refine z13 (m:=checkCount "sorted" 1 1 _) (z33 ?_)
  refine z13 (collect_list hl ?_ (by rw[z36];lia))
  refine z13 (zo8 ?_ (by rw[z36];lia))
  have hsz:((s.heap.push (seqObj "list" #[] 0)).update s.heap.objs.size (z55 (·++vs.toArray))).objs.size=s.heap.objs.size+1:=by
   rw[Heap.size_update,size_push']
  have hoL:(((s.heap.push (seqObj "list" #[] 0)).update s.heap.objs.size (z55 (·++vs.toArray))).push (seqObj "list" vs.toArray 0)).get? @16=some (seqObj "list" vs.toArray 0):=by
   rw[← hsz];exact z45 _ rfl
  have keep:Kp s.heap (((s.heap.push (seqObj "list" #[] 0)).update s.heap.objs.size (z55 (·++vs.toArray))).push (seqObj "list" vs.toArray 0)):=fun b o q=>by
   have hlt:b<s.heap.objs.size:=z31 q
   rw[zi1 _ _ _ (by rw[hsz];exact z50 (zn6 hlt)),zv7 _ _ _ _ (z50 hlt),zi1 _ _ _ (z50 hlt)]
   exact q
  have hn0:s.heap.get? @16=none:=zk7 (zg1 _)
  show wpAny _ _ _ _ _ { s with heap:=((s.heap.push (seqObj "list" #[] 0)).update s.heap.objs.size (z55 (·++vs.toArray))).push (seqObj "list" vs.toArray 0)}
  rw[hsz]
  refine z13 (zc0 (zg9 slot_list_sort ⟨_,hoL,rfl⟩ entry_list_sort ?body (args_list_sort _)))
  case body=>
   refine Qi1 (s:={ s with heap:=((s.heap.push (seqObj "list" #[] 0)).update s.heap.objs.size (z55 (·++vs.toArray))).push (seqObj "list" vs.toArray 0)}) (h0:=s.heap) hoL keep hn0 @0 fun h' tk c kp hD=>?_
   refine⟨_,rfl,z33 ⟨_,rfl,hQ h' tk (z68 vs.length) c (zf4 _) ?_ kp ?_⟩⟩
   ·rw[zb5]
    intro i j hi hj hij
    rw[z63] at hj
    lia
   ·rw[hD]
    congr 2
    refine congrArg zt7 ?_
    apply zo4
    ·simp
    ·intro i h1 h2
     simp[z14,z04 h1]
end
def ltP (a b:Int×Int):Bool:=decide (a.1<b.1\/(a.1=b.1/\a.2<b.2))
def PT (K:z00)(H:Hp)(q:Addr)(pr:Int×Int):Prop:=SqT K H q [.int pr.1,.int pr.2]
def PO (h:Heap)(q:Addr)(pr:Int×Int):Prop:=∃o t u n,h.get? q=some o/\o.cls=.type "tuple" /\ o.data=.seq #[.int pr.1 t,.int pr.2 u] n
theorem PO.kp {h h':Heap}{q:Addr}{pr:Int×Int}(p:PO h q pr)(k:Kp h h'):PO h' q pr:=by
 obtain⟨o,t,u,n,e,r⟩:=p
 exact⟨o,t,u,n,k _ _ e,r⟩
theorem QtJ {X:Cx}{pins:List @11}{σ:St}{H:Hp}{s:Shared}(I:Inv X pins σ H s){q:Addr}{pr:Int×Int}(h:PT X.K H q pr):PO s.heap q pr:=by
 obtain⟨its,rv,⟨o,e,c,n,d⟩,_⟩:=I.tuple h
 obtain⟨u,v,rfl,⟨t,rfl⟩,⟨t',rfl⟩⟩:=Vals.two rv
 exact⟨o,t,t',n,e,c,d⟩
theorem range_getD {α:Type}(d:α)(l:List α):(z68 l.length).map (fun i=>l.getD i d)=l:=by
 apply zo4
 ·simp
 ·intro i h1 h2
  simp[z14,z04 h2]
section
theorem QfW:∀{qs:List Addr} {us:List Value},Vals (qs.map V.ref) us->us=qs.map z42
 | [],_,.nil=>rfl
 |q::qs,_,.cons r t=>by cases r;rw[QfW t];rfl
theorem QfX:∀(qs:List Addr),Vals (qs.map V.ref) (qs.map z42)
 | []=>.nil
 |q::qs=>.cons rfl (QfX qs)
end
inductive Qe4 (A:Around) (s:Shared) (fin:Bool):List (Value×Value)->Bool->Prop
 |nil:Qe4 A s fin [] fin
 |eq {p q:Value} {r:List (Value×Value)} {b:Bool} (h:zh5 A s p q true) (t:Qe4 A s fin r b):Qe4 A s fin ((p,q)::r) b
 |lt {p q:Value} {r:List (Value×Value)} {b:Bool} (h:zh5 A s p q false) (t:∀(prog:Program) (w:World) (E Q:Value->Shared->Prop),Q (.bool b) s->wpAny @15 A (richCompare .Lt p q) Q E s):Qe4 A s fin ((p,q)::r) b
section
open PySem.SeqAt
open PySem.AutoSeq1 (wpAny_loadPart')
open PySem.MeetsSeq PySem.MeetsSeq2 PySem.MeetsSeq3
theorem QfY (l b:Addr)(items items2:Array Value)(n n2:Nat)(dd dd2:Option Addr)(sl sl2:Array (Option Value))(res:Bool) :
  Meets (Builtin.«tuple.__lt__» ⟨[.ref l,.ref b],[]⟩)
   (fun A R s=>s.heap.get? l=some { cls:=.type "tuple",dict:=dd,data:=.seq items n,slots:=sl }/\s.heap.get? b=some { cls:=.type "tuple",dict:=dd2,data:=.seq items2 n2,slots:=sl2 }/\
    Qe4 A.in1 s (decide (items.size<items2.size)) (items.toList.zip items2.toList) res/\R (.ok (.ret (.bool res))) s):=
 .of_wp fun prog w A R s h=>by
  obtain⟨hp,g,d,tk,os⟩:=s;obtain⟨hl,hb,hx,h⟩:=h
  have f2:=AutoSeq1.sub_tuple_tuple
  wp_walk using zf8 hl,zf8 hb,wpAny_forIn_list _ (fun rest b s'=>b.1=none/\s'=⟨hp,g,d,tk,os⟩/\Qe4 A.in1 ⟨hp,g,d,tk,os⟩ (decide (items.size<items2.size)) rest res) _
  case turn=>
   rintro⟨y,x⟩ rest b s' ⟨hb',rfl,hL⟩
   cases hL with
   |eq he hr=>
    refine z13 (he prog w _ _ ?_)
    wp_walk
    exact⟨rfl,rfl,hr⟩
   |lt he hlt=>
    refine z13 (he prog w _ _ ?_)
    have hri:=hlt prog w
    wp_walk using hri
    exact⟨_,rfl,by simpa using h⟩
  case fin=>
   rintro⟨b1,b2⟩ s' ⟨hb',rfl,hL⟩
   simp only at hb'
   subst hb'
   cases hL
   wp_walk
   exact⟨_,rfl,by simpa[Builtin.Tuple.tupleCompareSizes] using h⟩
  case h=>exact⟨rfl,rfl,hx⟩
end
theorem Qm4 {prog:Program}{w:World}{A:Around}{E:Value->Shared->Prop}{s:Shared}{l b:Addr}{o o2:Obj}{items items2:Array Value}{n n2:Nat}{res:Bool}{Q:Value->Shared->Prop}(h1:s.heap.get? l=some o)(c1:o.cls=.type "tuple")(d1:o.data=.seq items n)(h2:s.heap.get? b=some o2)(c2:o2.cls=.type "tuple")(d2:o2.data=.seq items2 n2)
  (hu:A.units<cLine) (hx:Qe4 A.in1 s (decide (items.size<items2.size)) (items.toList.zip items2.toList) res) (h:Q (.bool res) s):wpAny @15 A (compareOp .Lt (.ref l) (.ref b)) Q E s:=by
 obtain⟨cls,dd,data,sl⟩:=o
 obtain⟨cls2,dd2,data2,sl2⟩:=o2
 simp only at c1 d1 c2 d2
 subst c1 d1 c2 d2
 exact richCompare_meets_room (op:=.Lt) ⟨_,h1,rfl⟩ ⟨_,h2,rfl⟩ PySem.F.slot_tuple_lt PySem.F.entry_tuple_lt (PySem.F.args_tuple_lt_2 _ _) (QfY l b items items2 n n2 dd dd2 sl sl2 res)
  ⟨h1,h2,hx,show zm7 res≠Value.notImplemented/\Q (.bool res) s from⟨(fun x=>nomatch x),h⟩⟩ hu
abbrev NP:=Int×(Int×Int)
abbrev PN:=(Int×Int)×Int
def Vx (a b:NP):Bool:=decide (a.1<b.1) || (decide (a.1=b.1) && ltP a.2 b.2)
def Qve (a b:PN):Bool:=ltP a.1 b.1 || (decide (a.1=b.1) && decide (a.2<b.2))
def PO1 (h:Heap)(q:Addr)(x:NP):Prop:=∃o t r n,h.get? q=some o/\o.cls=.type "tuple" /\ o.data=.seq #[.int x.1 t,.ref r] n/\PO h r x.2
theorem PO1.kp {h h':Heap}{q:Addr}{x:NP}(p:PO1 h q x)(k:Kp h h'):PO1 h' q x:=by
 obtain⟨o,t,r,n,e,c,d,p⟩:=p
 exact⟨o,t,r,n,k _ _ e,c,d,p.kp k⟩
theorem PO.det {h:Heap}{q:Addr}{x y:Int×Int}(p:PO h q x)(p':PO h q y):x=y:=by
 obtain⟨o,t,u,n,e,c,d⟩:=p
 obtain⟨o',t',u',n',e',c',d'⟩:=p'
 rw[e] at e';cases e'
 rw[d] at d'
 injection d' with d1 d2
 have:=congrArg zt3 d1
 simp at this
 exact zp2 this.1.1 this.2.1
theorem Qop {A:Around}{s:Shared}{q r:Addr}{x y:Int×Int}(hu:A.units<cLine)(hq:PO s.heap q x)(hr:PO s.heap r y):zh5 A s (.ref q) (.ref r) (decide (x=y)):=by
 by_cases e:q=r
 ·subst e
  rw[decide_eq_true (hq.det hr)]
  exact zh6 _
 ·obtain⟨o,t1,t2,n,e1,c1,d1⟩:=hq
  obtain⟨o',t3,t4,n',e2,c2,d2⟩:=hr
  refine zj4 e ?_
  have key:=zs4 (A:=A) (e:=fun j=>if j=0 then x.1 == y.1 else x.2 == y.2) (show s.heap.IsTuple q [z80 x.1 t1,z80 x.2 t2].toArray from⟨o,e1,c1,n,d1⟩) (show s.heap.IsTuple r [z80 y.1 t3,z80 y.2 t4].toArray from⟨o',e2,c2,n',d2⟩) hu (fun j h1 h2=>by
   have hj:j=0\/j=1:=by simp at h1;lia
   rcases hj with rfl|rfl
   ·exact z85 x.1 t1 y.1 t3
   ·exact z85 x.2 t2 y.2 t4)
  have e2:((z68 (min [z80 x.1 t1,z80 x.2 t2].toArray.size [z80 y.1 t3,z80 y.2 t4].toArray.size)).all (fun j=>if j=0 then x.1 == y.1 else x.2 == y.2) && [z80 x.1 t1,z80 x.2 t2].toArray.size == [z80 y.1 t3,z80 y.2 t4].toArray.size)=decide (x=y):=by
   obtain⟨x1,x2⟩:=x
   obtain⟨y1,y2⟩:=y
   by_cases h1:x1=y1<;>by_cases h2:x2=y2<;>simp[h1,h2,List.range_succ]
  rw[e2] at key
  exact key
theorem Qvf {prog:Program}{w:World}{A:Around}{E:Value->Shared->Prop}{s:Shared}{q r:Addr}{x y:Int×Int}{Q:Value->Shared->Prop}(hu:A.units<cLine)(hq:PO s.heap q x)(hr:PO s.heap r y)(h:Q (.bool (ltP x y)) s):wpAny @15 A (compareOp .Lt (.ref q) (.ref r)) Q E s:=by
 obtain⟨o,t1,t2,n,e1,c1,d1⟩:=hq
 obtain⟨o',t3,t4,n',e2,c2,d2⟩:=hr
 refine Qm4 e1 c1 d1 e2 c2 d2 hu ?_ h
 show Qe4 _ s false [(z80 x.1 t1,z80 y.1 t3),(z80 x.2 t2,z80 y.2 t4)] _
 by_cases h1:x.1=y.1
 ·refine .eq (by have:=z85 (A:=A.in1) (s:=s) x.1 t1 y.1 t3;rwa[beq_iff_eq.mpr h1] at this) ?_
  by_cases h2:x.2=y.2
  ·have z:ltP x y=false:=decide_eq_false @0
   rw[z]
   exact .eq (by have:=z85 (A:=A.in1) (s:=s) x.2 t2 y.2 t4;rwa[beq_iff_eq.mpr h2] at this) .nil
  ·have z:ltP x y=decide (x.2<y.2):=by unfold ltP;simp[h1]
   rw[z]
   exact .lt (by have:=z85 (A:=A.in1) (s:=s) x.2 t2 y.2 t4;rwa[beq_eq_false_iff_ne.mpr h2] at this) fun prog w E Q hq=>HT.QeQ _ _ _ _ _ _ prog w E Q hq
 ·have z:ltP x y=decide (x.1<y.1):=by unfold ltP;simp[h1]
  rw[z]
  exact .lt (by have:=z85 (A:=A.in1) (s:=s) x.1 t1 y.1 t3;rwa[beq_eq_false_iff_ne.mpr h1] at this) fun prog w E Q hq=>HT.QeQ _ _ _ _ _ _ prog w E Q hq
theorem QtK {prog:Program}{w:World}{A:Around}{E:Value->Shared->Prop}{s:Shared}{q r:Addr}{x y:NP}{Q:Value->Shared->Prop}(hu:A.units+1<cLine)(hq:PO1 s.heap q x)(hr:PO1 s.heap r y)(h:Q (.bool (Vx x y)) s):wpAny @15 A (compareOp .Lt (.ref q) (.ref r)) Q E s:=by
 obtain⟨o,t1,a,n,e1,c1,d1,p1⟩:=hq
 obtain⟨o',t3,b,n',e2,c2,d2,p2⟩:=hr
 have hu1:A.in1.units<cLine:=by have:=units_in1 (A:=A);lia
 refine Qm4 e1 c1 d1 e2 c2 d2 @0 ?_ h
 show Qe4 _ s false [(z80 x.1 t1,z80 y.1 t3),(z42 a,z42 b)] _
 by_cases h1:x.1=y.1
 ·have h1':decide (x.1<y.1)=false:=decide_eq_false @0
  refine .eq (by have:=z85 (A:=A.in1) (s:=s) x.1 t1 y.1 t3;rwa[beq_iff_eq.mpr h1] at this) ?_
  have z:Vx x y=ltP x.2 y.2:=by unfold Vx;simp[h1]
  rw[z]
  by_cases h2:x.2=y.2
  ·have z:ltP x.2 y.2=false:=decide_eq_false (by rw[h2];lia)
   rw[z]
   exact .eq (by have:=Qop hu1 p1 p2;rwa[decide_eq_true h2] at this) .nil
  ·exact .lt (by have:=Qop hu1 p1 p2;rwa[decide_eq_false h2] at this) fun prog w E Q hq=>Qvf hu1 p1 p2 hq
 ·have z:Vx x y=decide (x.1<y.1):=by unfold Vx;simp[h1]
  rw[z]
  exact .lt (by have:=z85 (A:=A.in1) (s:=s) x.1 t1 y.1 t3;rwa[beq_eq_false_iff_ne.mpr h1] at this) fun prog w E Q hq=>HT.QeQ _ _ _ _ _ _ prog w E Q hq
end L2.Srt
namespace L2.Srt
open PySem PySem.W PySem.Calls PyProof.Rows
theorem Qj6 (a:Int×Int):ltP a a=false:=decide_eq_false @0
theorem QqL {a b c:Int×Int}(h:ltP a b=true)(h':ltP b c=true):ltP a c=true:=by
 have h:=of_decide_eq_true h
 have h':=of_decide_eq_true h'
 exact decide_eq_true @0
theorem Qoq {a b:Int×Int}(h:a≠b)(h':ltP a b=false):ltP b a=true:=by
 have h':=of_decide_eq_false h'
 refine decide_eq_true ?_
 by_cases e:a.1=b.1
 ·have:a.2≠b.2:=fun z=>h (zp2 e z)
  lia
 ·lia
theorem Qc2 {a b:NP}:Vx a b=true↔a.1<b.1\/(a.1=b.1/\ltP a.2 b.2=true):=by unfold Vx;simp
structure Lin {α:Type}(lt:α->α->Bool):Prop where
 irr:∀a,lt a a=false
 tr:∀a b c,lt a b=true->lt b c=true->lt a c=true
 tot:∀a b,a≠b->lt a b=false->lt b a=true
theorem QbT:Lin Vx where
 irr:=fun a=>by rw[zi2];intro h;rcases Qc2.mp h with h|⟨_,h⟩<;>first|lia|(rw[Qj6] at h;cases h)
 tr:=fun a b c h h'=>by
  rw[Qc2] at h h' ⊢
  rcases h with h|⟨e,h⟩<;>rcases h' with h'|⟨e',h'⟩
  ·exact .inl @0
  ·exact .inl @0
  ·exact .inl @0
  ·exact .inr ⟨by lia,QqL h h'⟩
 tot:=fun a b ne h=>by
  rw[Qc2]
  have h':¬ (a.1<b.1\/(a.1=b.1/\ltP a.2 b.2=true)):=fun z=>by rw[Qc2.mpr z] at h;cases h
  by_cases e:a.1=b.1
  ·refine .inr ⟨e.symm,Qoq (fun z=>ne (zp2 e z)) ?_⟩
   rw[zi2];exact fun z=>h' (.inr ⟨e,z⟩)
  ·exact .inl (by have:¬ a.1<b.1:=fun z=>h' (.inl z);lia)
theorem Lin.ord {α:Type}{lt:α->α->Bool}(L:Lin lt)(d:α){ps:List α}(nd:ps.Nodup):Ord ps.length fun i j=>lt (ps.getD i d) (ps.getD j d) where
 ir:=fun i=>L.irr _
 tr:=fun i j k a b=>L.tr _ _ _ a b
 to:=fun i j hi hj ne a=>by
  refine L.tot _ _ (fun z=>?_) a
  rw[z14,z14,z04 hi,z04 hj] at z
  exact ne ((zg4 nd).mp z)
theorem Qmb.QsZ {α:Type}{d:α}{R:Addr->α->Prop}{qs:List Addr}{ps:List α}(p:Paired R qs ps){i:Nat}(hi:i<qs.length):R (qs.getD i 0) (ps.getD i d):=by
 have e:qs[i]? = some qs[i]:=z04 hi
 obtain⟨b,eb,r⟩:=Paired.get p e
 rw[z14,z14,e,eb]
 exact r
structure QhG (A:Around)(α:Type)(lt:α->α->Bool)(PO:Heap->Addr->α->Prop)(κ:SortKind):Prop where
 kp:∀{h h':Heap} {q:Addr} {x:α},PO h q x->Kp h h'->PO h' q x
 kind:∀{prog:Program} {w:World} {s:Shared} {qs:List Addr} {ps:List α} {Q:SortKind->Shared->Prop},Paired (PO s.heap) qs ps->2<=ps.length->Q κ s->wpAny @15 A (keyKind' (qs.map z42).toArray) Q (fun _ _=>False) s
 det:∀{h:Heap} {q:Addr} {x y:α},PO h q x->PO h q y->x=y
 cmp:∀{prog:Program} {w:World} {s:Shared} {q r:Addr} {x y:α} {Q:Bool->Shared->Prop},PO s.heap q x->PO s.heap r y->Q (lt x y) s->wpAny @15 A (keyLt' κ (.ref q) (.ref r)) Q (fun _ _=>False) s
theorem QhG.nq {A:Around}{α:Type}{d:α}{lt:α->α->Bool}{PO:Heap->Addr->α->Prop}{κ:SortKind}(S:QhG A α lt PO κ){h:Heap}{qs:List Addr}{ps:List α}(pr:Paired (PO h) qs ps)(nd:ps.Nodup):(qs.map z42).Nodup:=by
 have lq:=zh7 pr
 rw[List.nodup_iff_pairwise_ne,zb5]
 intro i j hi hj hij e
 rw[List.getElem_map,List.getElem_map] at e
 rw[z01] at hi hj
 have e:=zw0 e
 have p1:=Qmb.QsZ (d:=d) pr hi
 have p2:=Qmb.QsZ (d:=d) pr hj
 rw[z14,z04 hi] at p1
 rw[z14,z04 hj] at p2
 rw[zb1,e] at p1
 rw[zb1] at p2
 have z:=S.det p1 p2
 rw[z14,z14,z04 @0,z04 @0] at z
 have:=(zg4 nd).mp z
 lia
theorem Qmc {prog:Program}{w:World}{A:Around}{E:Value->Shared->Prop}{s:Shared}{α:Type}(d:α){lt:α->α->Bool}{PO:Heap->Addr->α->Prop}{κ:SortKind}(S:QhG A.in1.in1 α lt PO κ)(L:Lin lt){l:Addr}{qs:List Addr}{ps:List α}{Q:Value->Shared->Prop}(hl:s.heap.IsList l (qs.map z42).toArray)(pr:Paired (PO s.heap) qs ps)(nd:ps.Nodup)(l64:ps.length<=4000)
  (k:∀(h':Heap) (tk:Nat) (is:List Nat) (c:Nat),is.Perm (z68 ps.length)->(is.map fun i=>ps.getD i d).Pairwise (fun a b=>lt a b=true)->Kp s.heap h'->h'.get? @16=some (seqObj "list" ((is.map fun i=>qs.getD i 0).map z42).toArray c)->Q (.ref @16) { s with heap:=h',toks:=tk }) :
  wpAny @15 A (call (.builtin "sorted") [.ref l]) Q E s:=by
 have lq:=zh7 pr
 have Qs0:(qs.map z42).length=ps.length:=by rw[z01,lq]
 have og:∀{i:Nat},i<(qs.map z42).length->(qs.map z42).getD i z39=z42 (qs.getD i 0):=fun{i} hi=>by
  rw[z01] at hi
  rw[z14,z14,z22,z04 hi]
  rfl
 refine Qi2 (κ:=κ) (lt:=fun i j=>lt (ps.getD i d) (ps.getD j d)) hl (by rw[Qs0];exact l64) (S.nq (d:=d) pr nd) (by rw[Qs0];exact L.ord d nd) (fun h2 h' tk Q' kp q=>?_) (fun h' tk i j Q' kp hi hj q=>?_) fun h' tk is c pm pw kp hD=>?_
 ·exact S.kind (s:={ s with heap:=h',toks:=tk }) (Paired.imp' (fun _ _ z=>S.kp z kp) pr) @0 q
 ·rw[og hi,og hj]
  rw[z01] at hi hj
  exact S.cmp (s:={ s with heap:=h',toks:=tk }) (S.kp (Qmb.QsZ (d:=d) pr hi) kp) (S.kp (Qmb.QsZ (d:=d) pr hj) kp) (q tk)
 ·rw[Qs0] at pm
  have hb:∀i∈is,i<ps.length:=fun i hi=>za4.mp (pm.mem_iff.mp hi)
  have Qv8:(is.map fun i=>(qs.map z42).getD i z39)=(is.map fun i=>qs.getD i 0).map z42:=by
   rw[z76]
   exact z94 fun i hi=>og (by rw[Qs0];exact hb i hi)
  rw[Qv8] at hD
  exact k h' tk is c pm (zx6.mpr pw) kp hD
theorem Qmd {h:Heap}{qs:List Addr}{ps:List NP}(p:Paired (PO1 h) qs ps):∃fs,KatTups h (qs.map z42) fs/\fs.length=ps.length/\∀v∈fs,∃i t,v=z80 i t:=by
 induction p with
 |nil=>exact⟨[],.nil,rfl,fun v z=>nomatch z⟩
 |cons z _ ih=>
  obtain⟨fs,k,l,a⟩:=ih
  obtain⟨o,t,u,n,e,c,d,_⟩:=z
  refine⟨_::fs,KatTups.cons e c d rfl k,by rw[z27,z27,l],fun v hv=>?_⟩
  rcases z15.mp hv with rfl|hv
  ·exact⟨_,_,rfl⟩
  ·exact a v hv
theorem QqM {A:Around}(hu:A.units+1<cLine):QhG A NP Vx PO1 (tuples' true) where
 kp:=PO1.kp
 kind:=fun{prog w s qs ps Q} pr h2 q=>by
  obtain⟨fs,kt,lf,af⟩:=Qmd pr
  refine kat_kind (T:=.type "int") kt @0 (fun v hv=>?_) rfl q
  obtain⟨i,t,rfl⟩:=af v hv
  exact Looks.of_pure rfl
 det:=fun p r=>by
  obtain⟨o,t,a,n,e,c,d,p1⟩:=p
  obtain⟨o',t',a',n',e',c',d',p2⟩:=r
  cases e.symm.trans e'
  have z:=d.symm.trans d'
  simp at z
  obtain⟨⟨⟨z1,z2⟩,z3⟩,z4⟩:=z
  subst z3
  exact zp2 z1 (p1.det p2)
 cmp:=fun{prog w s q r x y Q} hq hr h=>by
  obtain⟨o,t,a,n,e,c,d,p1⟩:=hq
  obtain⟨o',t',b,n',e',c',d',p2⟩:=hr
  refine kat_lt (b:=true) e d e' d' ?_
  show KatLex prog w A true _ Q [(z80 x.1 t,z80 y.1 t'),(z42 a,z42 b)] 0 s
  refine kat_cons ((z85 x.1 t y.1 t') prog w _ _ (kat_go (fun e1=>kat_yes ?_) fun e1=>kat_no ?_))
  ·have e1':x.1=y.1:=by simpa using e1
   have z:Vx x y=ltP x.2 y.2:=by unfold Vx;simp[e1']
   rw[z] at h
   refine kat_cons ((Qop @0 p1 p2) prog w _ _ (kat_go (fun e2=>kat_yes ?_) fun e2=>kat_no ?_))
   ·have e2':x.2=y.2:=of_decide_eq_true e2
    refine kat_nil ?_
    rw[e2',Qj6] at h
    exact h
   ·exact kat_one _ _ (Qvf @0 p1 p2 h)
  ·have e1':x.1≠y.1:=by simpa using e1
   refine oneLt_int ?_
   have z:Vx x y=decide (x.1<y.1):=by unfold Vx;simp[e1']
   rw[z] at h
   exact h
def PT1 (K:z00)(H:Hp)(q:Addr)(x:NP):Prop:=∃r,SqT K H q [.int x.1,.ref r]/\PT K H r x.2
theorem Qj7 {X:Cx}{pins:List @11}{σ:St}{H:Hp}{s:Shared}(I:L2.Inv X pins σ H s){q:Addr}{x:NP}(h:PT1 X.K H q x):PO1 s.heap q x:=by
 obtain⟨r,h1,h2⟩:=h
 obtain⟨its,rv,⟨o,e,c,n,d⟩,_⟩:=I.tuple h1
 obtain⟨u,v,rfl,⟨t,rfl⟩,rfl⟩:=Vals.two rv
 exact⟨o,t,r,n,e,c,d,QtJ I h2⟩
section
variable {X:Cx}
def QqN (K:z00):List V->Hp->VK->Prop:=fun xs H Q=>∃p qs ps,xs=[.ref p]/\SqL K H p (qs.map V.ref)/\Paired (PT1 K H) qs ps/\ps.Nodup/\ps.length<=4000/\
 ∀(l:Addr) (is:List Nat),H l=none->is.Perm (z68 ps.length)->(is.map fun i=>ps.getD i (0,(0,0))).Pairwise (fun a b=>Vx a b=true)->Q (.ref l) (upd H l (.lst ((is.map fun i=>qs.getD i 0).map V.ref)))
theorem QfZ (hu:X.A.units+3<cLine):Qaf X (.builtin "sorted") (QqN X.K):=by
 intro pins s σ H xs us Q I r h
 obtain⟨p,qs,ps,rfl,hq,pr,nd,l64,k⟩:=h
 obtain⟨u,rfl,ru⟩:=vals1 r
 cases ru
 obtain⟨its,rv,pl,hz⟩:=I.list hq
 have ei:=QfW rv
 subst ei
 have pso:Paired (PO1 s.heap) qs ps:=Paired.imp' (fun _ _ z=>Qj7 I z) pr
 refine Qmc (d:=(0,(0,0))) (QqM (A:=X.A.in1.in1) (by show X.A.units+1+1+1<cLine;lia)) QbT pl.isList pso nd l64 fun h' tk is c pm pw kp hD=>?_
 refine⟨.ref _,_,I.laid (t':=tk) (o:=.lst ((is.map fun i=>qs.getD i 0).map V.ref)) kp (zg1 _) ⟨?_,_,c,QfX _,hD⟩,rfl,k _ is (I.hok.fresh (zg1 _)) pm pw⟩
 rw[z01,z01,pm.length_eq,z63,z36];lia
def Qe5 (q:Int×Int):List Key:=[.inl q.1,.inl q.2]
end
end L2.Srt
namespace TL
open PySem L2 PyProof.Rows
inductive Tag where
 |lst|tup
 |ins (k:Addr) (ns:List Str)
 |dT (ks:List (List Key))|dK (ks:List Key)
 |exc (c:Addr)
 deriving DecidableEq
inductive D where
 |int (i:Int)|bl (b:Bool)|non|str (s:Str)|ty (n:String)|cls (c:Addr)|nd (t:Tag) (ds:List D)
abbrev D.lst (ds:List D):D:=.nd .lst ds
abbrev D.tup (ds:List D):D:=.nd .tup ds
noncomputable def Tag.mut:Tag->Bool
 |.lst=>true|.dT _=>true|.dK _=>true|_=>false
mutual
noncomputable def D.imm:D->Bool
 |.nd t ds=>!t.mut && D.Jb ds
 |_=>true
noncomputable def D.Jb:List D->Bool
 | []=>true
 |d::ds=>d.imm && D.Jb ds
end
noncomputable def D.sc:D->Option V
 |.int i=>some (.int i)|.bl b=>some (.bl b)|.non=>some .non|.str s=>some (.str s)|.ty n=>some (.ty n)|.cls c=>some (.ref c)|.nd _ _=>none
def At (K:z00)(F:Hp)(a:Addr):Tag->List V->Prop
 |.lst,vs=>SqL K F a vs
 |.tup,vs=>F a=some (.tup vs)
 |.ins k ns,vs=>ns.length=vs.length/\∃dx,F a=some (.ins k dx (ns.zip vs))/\F dx=some (.own a)
 |.dT ks,vs=>ks.length=vs.length/\F a=some (.dT (ks.zip vs))
 |.dK ks,vs=>ks.length=vs.length/\F a=some (.dK (ks.zip vs))
 |.exc c,vs=>vs=[]/\F a=some (QgP a (.ref c))
def Mbl:HO->Prop
 |.lst _=>True|.dT _=>True|.dK _=>True|_=>False
def Mt (H:Hp)(a:Addr):Tag->List V->Prop
 |.lst,vs=>H a=some (.lst vs)
 |.dT ks,vs=>ks.length=vs.length/\H a=some (.dT (ks.zip vs))
 |.dK ks,vs=>ks.length=vs.length/\H a=some (.dK (ks.zip vs))
 |_,_=>False
section
variable {K:z00}{F H F' H':Hp}{a:Addr}{t:Tag}{vs:List V}
theorem At.same (h:At K F a t vs)(s:Qu F F'):At K F' a t vs:=by
 cases t with
 |lst=>exact h.imp (fun z=>z.imp (fun z=>s _ _ z) fun⟨o,z⟩=>⟨o,s _ _ z⟩) id
 |tup=>exact s _ _ h
 |ins k ns=>
  obtain⟨l,dx,h1,h2⟩:=h
  exact⟨l,dx,s _ _ h1,s _ _ h2⟩
 |dT ks=>exact⟨h.1,s _ _ h.2⟩
 |dK ks=>exact⟨h.1,s _ _ h.2⟩
 |exc c=>exact⟨h.1,s _ _ h.2⟩
theorem Mt.at (h:Mt H a t vs):At K H a t vs:=by
 cases t with
 |lst=>exact .inl (.inl h)
 |tup=>exact h.elim
 |ins k ns=>exact h.elim
 |dT ks=>exact h
 |dK ks=>exact h
 |exc c=>exact h.elim
theorem At.sql {K:z00}(h:At K F a .lst vs):SqL K F a vs:=h
theorem At.sqt {K:z00}(h:At K F a .tup vs):SqT K F a vs:=.inl (.inl h)
theorem Mt.mut (h:Mt H a t vs):t.mut=true:=by
 cases t with
 |lst=>rfl
 |tup=>exact h.elim
 |ins k ns=>exact h.elim
 |dT ks=>rfl
 |dK ks=>rfl
 |exc c=>exact h.elim
theorem Mt.eq (h:Mt H a t vs)(e:H' a=H a):Mt H' a t vs:=by
 cases t with
 |lst=>exact e.trans h
 |tup=>exact h.elim
 |ins k ns=>exact h.elim
 |dT ks=>exact⟨h.1,e.trans h.2⟩
 |dK ks=>exact⟨h.1,e.trans h.2⟩
 |exc c=>exact h.elim
theorem Mt.some (h:Mt H a t vs):∃o,H a=some o/\Mbl o:=by
 cases t with
 |lst=>exact⟨_,h,z54⟩
 |tup=>exact h.elim
 |ins k ns=>exact h.elim
 |dT ks=>exact⟨_,h.2,z54⟩
 |dK ks=>exact⟨_,h.2,z54⟩
 |exc c=>exact h.elim
end
mutual
inductive R (K:z00) (F:Hp):V->D->Prop
 |sc {v:V} {d:D} (e:d.sc=some v):R K F v d
 |nd {a:Addr} {t:Tag} {vs:List V} {ds:List D} (h:At K F a t vs) (r:RL K F vs ds):R K F (.ref a) (.nd t ds)
inductive RL (K:z00) (F:Hp):List V->List D->Prop
 |nil:RL K F [] []
 |cons {v:V} {d:D} {vs:List V} {ds:List D} (h:R K F v d) (r:RL K F vs ds):RL K F (v::vs) (d::ds)
end
mutual
inductive O (K:z00) (F H:Hp):V->D->List Addr->Prop
 |sc {v:V} {d:D} (e:d.sc=some v):O K F H v d []
 |im {a:Addr} {t:Tag} {vs:List V} {ds:List D} {fp:List Addr} (m:t.mut=false) (h:At K F a t vs) (r:OL K F H vs ds fp):O K F H (.ref a) (.nd t ds) fp
 |mt {a:Addr} {t:Tag} {vs:List V} {ds:List D} {fp:List Addr} (h:Mt H a t vs) (r:OL K F H vs ds fp):O K F H (.ref a) (.nd t ds) (a::fp)
inductive OL (K:z00) (F H:Hp):List V->List D->List Addr->Prop
 |nil:OL K F H [] [] []
 |cons {v:V} {d:D} {vs:List V} {ds:List D} {f g:List Addr} (h:O K F H v d f) (r:OL K F H vs ds g):OL K F H (v::vs) (d::ds) (f++g)
end
section
variable {K:z00}{F F' H H':Hp}
theorem R.ind {P:V->D->Prop}{Q:List V->List D->Prop}(c1:∀{v d},D.sc d=some v->P v d)(c2:∀{a t vs ds},At K F a t vs->Q vs ds->P (.ref a) (.nd t ds))(c4:Q [] [])(c5:∀{v d vs ds},P v d->Q vs ds->Q (v::vs) (d::ds)):(∀v d,R K F v d->P v d)/\∀vs ds,RL K F vs ds->Q vs ds:=
 ⟨fun _ _ h=>R.rec (motive_1:=fun v d _=>P v d) (motive_2:=fun v d _=>Q v d) (fun e=>c1 e) (fun h _ q=>c2 h q) c4 (fun _ _ p q=>c5 p q) h,fun _ _ h=>RL.rec (motive_1:=fun v d _=>P v d) (motive_2:=fun v d _=>Q v d) (fun e=>c1 e) (fun h _ q=>c2 h q) c4 (fun _ _ p q=>c5 p q) h⟩
theorem R.QqO (s:Qu F F'):(∀v d,R K F v d->R K F' v d)/\∀v d,RL K F v d->RL K F' v d:=R.ind .sc (fun h q=>.nd (h.same s) q) .nil .cons
theorem R.same (s:Qu F F'){v:V}{d:D}(h:R K F v d):R K F' v d:=(R.QqO s).1 _ _ h
theorem RL.same (s:Qu F F'){v:List V}{d:List D}(h:RL K F v d):RL K F' v d:=(R.QqO s).2 _ _ h
theorem RL.length {v:List V}{d:List D}(h:RL K F v d):v.length=d.length:=
 (R.ind (P:=fun _ _=>True) (Q:=fun v d=>v.length=d.length) (fun _=>trivial) (fun _ _=>trivial) rfl (fun _ q=>by rw[z27,z27,q])).2 _ _ h
theorem O.ind {P:V->D->List Addr->Prop}{Q:List V->List D->List Addr->Prop}(c1:∀{v d},D.sc d=some v->P v d [])(c2:∀{a t vs ds fp},t.mut=false->At K F a t vs->Q vs ds fp->P (.ref a) (.nd t ds) fp)(c3:∀{a t vs ds fp},Mt H a t vs->Q vs ds fp->P (.ref a) (.nd t ds) (a::fp))(c4:Q [] [] [])(c5:∀{v d vs ds f g},P v d f->Q vs ds g->Q (v::vs) (d::ds) (f++g)):(∀v d f,O K F H v d f->P v d f)/\∀vs ds f,OL K F H vs ds f->Q vs ds f:=
 ⟨fun _ _ _ h=>O.rec (motive_1:=fun v d f _=>P v d f) (motive_2:=fun v d f _=>Q v d f) (fun e=>c1 e) (fun m h _ q=>c2 m h q) (fun h _ q=>c3 h q) c4 (fun _ _ p q=>c5 p q) h,fun _ _ _ h=>OL.rec (motive_1:=fun v d f _=>P v d f) (motive_2:=fun v d f _=>Q v d f) (fun e=>c1 e) (fun m h _ q=>c2 m h q) (fun h _ q=>c3 h q) c4 (fun _ _ p q=>c5 p q) h⟩
theorem OL.length {v:List V}{d:List D}{f:List Addr}(h:OL K F H v d f):v.length=d.length:=
 (O.ind (P:=fun _ _ _=>True) (Q:=fun v d _=>v.length=d.length) (fun _=>trivial) (fun _ _ _=>trivial) (fun _ _=>trivial) rfl (fun _ q=>by rw[z27,z27,q])).2 _ _ _ h
theorem O.QqP (s:Qu F F'):(∀v d fp,O K F H v d fp->(∀a∈fp,H' a=H a)->O K F' H' v d fp)/\∀v d fp,OL K F H v d fp->(∀a∈fp,H' a=H a)->OL K F' H' v d fp:=
 O.ind (fun e _=>.sc e) (fun m h q k=>.im m (h.same s) (q k)) (fun h q k=>.mt (h.eq (k _ z07)) (q fun a ha=>k a (z08 _ ha))) (fun _=>.nil) (fun p q k=>.cons (p fun a ha=>k a (z06 _ ha)) (q fun a ha=>k a (z02 _ ha)))
theorem O.keep (s:Qu F F'){v:V}{d:D}{fp:List Addr}(h:O K F H v d fp)(k:∀a∈fp,H' a=H a):O K F' H' v d fp:=(O.QqP s).1 _ _ _ h k
theorem OL.keep (s:Qu F F'){v:List V}{d:List D}{fp:List Addr}(h:OL K F H v d fp)(k:∀a∈fp,H' a=H a):OL K F' H' v d fp:=(O.QqP s).2 _ _ _ h k
theorem O.Qvg:(∀v d fp,O K F H v d fp->∀a∈fp,∃o,H a=some o/\Mbl o)/\∀v d fp,OL K F H v d fp->∀a∈fp,∃o,H a=some o/\Mbl o:=
 O.ind (fun _ _ z=>nomatch z) (fun _ _ q=>q) (fun h q a ha=>(z15.mp ha).elim (fun e=>e▸h.some) (q a)) @2 (fun p q a ha=>(z05.mp ha).elim (p a) (q a))
theorem O.mem {v:V}{d:D}{fp:List Addr}(h:O K F H v d fp)(a:Addr)(ha:a∈fp):∃o,H a=some o/\Mbl o:=O.Qvg.1 _ _ _ h a ha
theorem OL.mem {v:List V}{d:List D}{fp:List Addr}(h:OL K F H v d fp)(a:Addr)(ha:a∈fp):∃o,H a=some o/\Mbl o:=O.Qvg.2 _ _ _ h a ha
noncomputable def jn (F H:Hp)(fp:List Addr):Hp:=fun b=>if b∈fp then H b else F b
theorem Qj8 {fp:List Addr}(ap:∀a∈fp,F a=none):Qu F (jn F H fp):=fun b o e=>by
 unfold jn
 by_cases h:b∈fp
 ·rw[ap b h] at e;cases e
 ·rw[if_neg h];exact e
theorem Vn {fp:List Addr}(s:Qu F H):Qu (jn F H fp) H:=fun b o e=>by
 unfold jn at e
 by_cases h:b∈fp
 ·rw[if_pos h] at e;exact e
 ·rw[if_neg h] at e;exact s b o e
theorem Vo {fp:List Addr}{b:Addr}(h:b∈fp):jn F H fp b=H b:=by unfold jn;rw[if_pos h]
theorem Jy {fp:List Addr}{b:Addr}(h:b∉fp):jn F H fp b=F b:=by unfold jn;rw[if_neg h]
noncomputable def lo (F:Hp)(L:List Addr):Hp:=fun b=>if b∈L then none else F b
theorem lo_le {L:List Addr}:Qu (lo F L) F:=fun b o e=>by
 unfold lo at e
 by_cases h:b∈L
 ·rw[if_pos h] at e;cases e
 ·rw[if_neg h] at e;exact e
theorem QgX {L:List Addr}{b:Addr}(h:b∈L):lo F L b=none:=by unfold lo;rw[if_pos h]
theorem Qaq {L:List Addr}{b:Addr}(h:b∉L):lo F L b=F b:=by unfold lo;rw[if_neg h]
theorem O.rB (s:Qu F F'):(∀v d fp,O K F H v d fp->(∀a∈fp,F' a=H a)->R K F' v d)/\∀v d fp,OL K F H v d fp->(∀a∈fp,F' a=H a)->RL K F' v d:=
 O.ind (fun e _=>.sc e) (fun m h q k=>.nd (h.same s) (q k)) (fun h q k=>.nd (h.eq (k _ z07)).at (q fun a ha=>k a (z08 _ ha))) (fun _=>.nil) (fun p q k=>.cons (p fun a ha=>k a (z06 _ ha)) (q fun a ha=>k a (z02 _ ha)))
theorem O.r (s:Qu F F'){v:V}{d:D}{fp:List Addr}(h:O K F H v d fp)(k:∀a∈fp,F' a=H a):R K F' v d:=(O.rB s).1 _ _ _ h k
theorem OL.r (s:Qu F F'){v:List V}{d:List D}{fp:List Addr}(h:OL K F H v d fp)(k:∀a∈fp,F' a=H a):RL K F' v d:=(O.rB s).2 _ _ _ h k
theorem Qdn {t:Tag}{ds:List D}(h:(D.nd t ds).imm=true):t.mut=false/\D.Jb ds=true:=by
 rw[D.imm,z70] at h
 exact⟨by simpa using h.1,h.2⟩
theorem Yg {d:D}{ds:List D}(h:D.Jb (d::ds)=true):d.imm=true/\D.Jb ds=true:=by
 rw[D.Jb,z70] at h
 exact h
theorem QaZ:∀{ds:List D},D.Jb ds=true->∀d∈ds,d.imm=true
 | [],_,d,hd=>nomatch hd
 |x::ds,h,d,hd=>by
  obtain⟨h1,h2⟩:=Yg h
  rcases z15.mp hd with rfl|hd
  ·exact h1
  ·exact QaZ h2 d hd
theorem Qdo:∀{ds:List D},(∀d∈ds,d.imm=true)->D.Jb ds=true
 | [],_=>by rw[D.Jb]
 |x::ds,h=>by
  rw[D.Jb,z70]
  exact⟨h x z07,Qdo fun d hd=>h d (z08 _ hd)⟩
theorem QhH {xs ys:List D}(h:D.Jb xs=true)(h':D.Jb ys=true):D.Jb (xs++ys)=true:=Qdo fun d hd=>(z05.mp hd).elim (QaZ h d) (QaZ h' d)
theorem At.lo {a:Addr}{t:Tag}{vs:List V}{L:List Addr}(m:t.mut=false)(h:At K F a t vs)(hl:∀b∈L,∀o,F b=some o->Mbl o):At K (lo F L) a t vs:=by
 cases t with
 |lst=>cases m
 |tup=>exact(Qaq fun z=>hl _ z _ h).trans h
 |ins k ns=>
  obtain⟨l,dx,h1,h2⟩:=h
  exact⟨l,dx,(Qaq fun z=>hl _ z _ h1).trans h1,(Qaq fun z=>hl _ z _ h2).trans h2⟩
 |dT ks=>cases m
 |dK ks=>cases m
 |exc c=>exact⟨h.1,(Qaq fun z=>hl _ z _ h.2).trans h.2⟩
theorem R.loB {L:List Addr}(hl:∀b∈L,∀o,F b=some o->Mbl o):(∀v d,R K F v d->d.imm=true->R K (lo F L) v d)/\∀v d,RL K F v d->D.Jb d=true->RL K (lo F L) v d:=
 R.ind (fun e _=>.sc e) (fun h q m=>.nd (h.lo (Qdn m).1 hl) (q (Qdn m).2)) (fun _=>.nil) (fun p q m=>.cons (p (Yg m).1) (q (Yg m).2))
theorem R.lo {L:List Addr}(hl:∀b∈L,∀o,F b=some o->Mbl o){v:V}{d:D}(h:R K F v d)(m:d.imm=true):R K (lo F L) v d:=(R.loB hl).1 _ _ h m
theorem RL.lo {L:List Addr}(hl:∀b∈L,∀o,F b=some o->Mbl o){v:List V}{d:List D}(h:RL K F v d)(m:D.Jb d=true):RL K (lo F L) v d:=(R.loB hl).2 _ _ h m
theorem R.oB:(∀v d,R K F v d->d.imm=true->O K F H v d [])/\∀v d,RL K F v d->D.Jb d=true->OL K F H v d []:=
 R.ind (fun e _=>.sc e) (fun h q m=>.im (Qdn m).1 h (q (Qdn m).2)) (fun _=>.nil) (fun p q m=>.cons (f:=[]) (p (Yg m).1) (q (Yg m).2))
theorem R.o {v:V}{d:D}(h:R K F v d)(m:d.imm=true):O K F H v d []:=R.oB.1 _ _ h m
theorem RL.o {v:List V}{d:List D}(h:RL K F v d)(m:D.Jb d=true):OL K F H v d []:=R.oB.2 _ _ h m
theorem O.Qv9:(∀v d fp,O K F H v d fp->d.imm=true->fp=[])/\∀v d fp,OL K F H v d fp->D.Jb d=true->fp=[]:=
 O.ind (fun _ _=>rfl) (fun _ _ q i=>q (Qdn i).2) (fun h _ i=>absurd h.mut (by rw[(Qdn i).1];decide)) (fun _=>rfl) (fun p q i=>by rw[p (Yg i).1,q (Yg i).2];rfl)
theorem OL.Qs1 {v:List V}{d:List D}{fp:List Addr}(h:OL K F H v d fp)(i:D.Jb d=true):fp=[]:=O.Qv9.2 _ _ _ h i
theorem R.QK {v:V}{d:D}{w:V}(h:R K F v d)(e:d.sc=some w):v=w:=by
 cases h with
 |sc e'=>rw[e] at e';exact(z21 e').symm
 |nd h r=>cases e
theorem RL.get {vs:List V}{ds:List D}{i:Nat}{d:D}(r:RL K F vs ds)(e:ds[i]? = some d):∃v,vs[i]? = some v/\R K F v d:=by
 induction i generalizing vs ds with
 |zero=>cases r with
  |nil=>simp at e
  |cons h r=>simp at e;subst e;exact⟨_,rfl,h⟩
 |succ i ih=>cases r with
  |nil=>simp at e
  |cons h r=>
   obtain⟨v,h1,h2⟩:=ih r (by simpa using e)
   exact⟨v,by simpa using h1,h2⟩
theorem RL.app {vs us:List V}{ds es:List D}(h:RL K F vs ds)(r:RL K F us es):RL K F (vs++us) (ds++es):=
 ((R.ind (P:=fun v d=>R K F v d) (Q:=fun vs ds=>RL K F vs ds/\RL K F (vs++us) (ds++es)) .sc (fun h q=>.nd h q.1) ⟨.nil,r⟩ (fun p q=>⟨.cons p q.1,.cons p q.2⟩)).2 _ _ h).2
theorem OL.app {vs us:List V}{ds es:List D}{f g:List Addr}(h:OL K F H vs ds f)(r:OL K F H us es g):OL K F H (vs++us) (ds++es) (f++g):=
 ((O.ind (P:=fun v d f=>O K F H v d f) (Q:=fun vs ds f=>OL K F H vs ds f/\OL K F H (vs++us) (ds++es) (f++g)) .sc (fun m h q=>.im m h q.1) (fun h q=>.mt h q.1) ⟨.nil,r⟩ (fun p q=>⟨.cons p q.1,by rw[z20];exact .cons p q.2⟩)).2 _ _ _ h).2
end
end TL
namespace TL
open PySem L2
inductive Sl where
 |frz (d:D)
 |own (d:D)
 |par (d:D)
abbrev Rho:=List (Option Sl)
structure Cn where
 K:z00
 H₀:Hp
 F₀:Hp
 A:List Addr
 QgD:List (Nat×V)
inductive S1 (K:z00) (F H:Hp):Option V->Option Sl->List Addr->List Addr->Prop
 |non {x:Option V}:S1 K F H x none [] []
 |frz {v:V} {d:D} (h:R K F v d):S1 K F H (some v) (some (.frz d)) [] []
 |own {v:V} {d:D} {f:List Addr} (h:O K F H v d f):S1 K F H (some v) (some (.own d)) f []
 |par {v:V} {d:D} {f:List Addr} (h:O K F H v d f):S1 K F H (some v) (some (.par d)) [] f
inductive SL (K:z00) (F H:Hp):St->Rho->List Addr->List Addr->Prop
 |nil:SL K F H [] [] [] []
 |cons {x:Option V} {s:Option Sl} {σ:St} {ρ:Rho} {f0 g0 f g:List Addr} (h:S1 K F H x s f0 g0) (r:SL K F H σ ρ f g):SL K F H (x::σ) (s::ρ) (f0++f) (g0++g)
section
variable {K:z00}{F F' H H':Hp}
theorem S1.keep {x:Option V}{s:Option Sl}{f g:List Addr}(sf:Qu F F')(h:S1 K F H x s f g)(k:∀a∈f++g,H' a=H a):S1 K F' H' x s f g:=by
 cases h with
 |non=>exact .non
 |frz h=>exact .frz (h.same sf)
 |own h=>exact .own (h.keep sf fun a ha=>k a (z06 _ ha))
 |par h=>exact .par (h.keep sf fun a ha=>k a ha)
theorem S1.mem {x:Option V}{s:Option Sl}{f g:List Addr}(h:S1 K F H x s f g):∀a∈f++g,∃o,H a=some o/\Mbl o:=by
 cases h with
 |non=>intro a ha;exact nomatch ha
 |frz h=>intro a ha;exact nomatch ha
 |own h=>intro a ha;rw[z52] at ha;exact h.mem a ha
 |par h=>intro a ha;exact h.mem a ha
theorem SL.keep (sf:Qu F F'){σ:St}{ρ:Rho}{f g:List Addr}(h:SL K F H σ ρ f g)(k:∀a∈f++g,H' a=H a):SL K F' H' σ ρ f g:=by
 induction h with
 |nil=>exact .nil
 |cons h r ih=>
  refine .cons (h.keep sf fun a ha=>k a ?_) (ih fun a ha=>k a ?_)<;>rcases z05.mp ha with z|z
  ·exact z06 _ (z06 _ z)
  ·exact z02 _ (z06 _ z)
  ·exact z06 _ (z02 _ z)
  ·exact z02 _ (z02 _ z)
theorem SL.mem {σ:St}{ρ:Rho}{f g:List Addr}(h:SL K F H σ ρ f g):∀a∈f++g,∃o,H a=some o/\Mbl o:=by
 induction h with
 |nil=>exact fun a ha=>nomatch ha
 |cons h r ih=>
  intro a ha
  rcases z05.mp ha with z|z<;>rcases z05.mp z with z|z
  ·exact h.mem a (z06 _ z)
  ·exact ih a (z06 _ z)
  ·exact h.mem a (z02 _ z)
  ·exact ih a (z02 _ z)
theorem SL.len {σ:St}{ρ:Rho}{f g:List Addr}(h:SL K F H σ ρ f g):σ.length=ρ.length:=by
 induction h with
 |nil=>rfl
 |cons h r ih=>exact congrArg Nat.succ ih
theorem SL.cut {σ:St}{ρ:Rho}{f g:List Addr}(h:SL K F H σ ρ f g):∀{i:Nat} {s:Option Sl},ρ[i]? = some s->∃x f0 g0 f1 f2 g1 g2,σ[i]? = some x/\S1 K F H x s f0 g0/\f=f1++(f0++f2)/\g=g1++(g0++g2)/\
  ∀{F' H':Hp},Qu F F'->(∀a∈f1++f2++(g1++g2),H' a=H a)->∀{x':Option V} {s':Option Sl} {f0' g0':List Addr},S1 K F' H' x' s' f0' g0'->SL K F' H' (σ.set i x') (ρ.set i s') (f1++(f0'++f2)) (g1++(g0'++g2)):=by
 induction h with
 |nil=>intro i s e;cases e
 | @cons x1 s1 σ1 ρ1 f0 g0 f g h r ih=>
  intro i s e
  cases i with
  |zero=>cases e;exact⟨_,_,_,[],f,[],g,rfl,h,rfl,rfl,fun{F' H'} sf k {x' s' f0' g0'} h'=>show SL K F' H' (_::_) (_::_) (f0'++f) (g0'++g) from .cons h' (r.keep sf k)⟩
  |succ i=>
   obtain⟨x,a0,b0,f1,f2,g1,g2,e1,h1,rfl,rfl,k⟩:=ih (i:=i) (s:=s) e
   refine⟨x,a0,b0,f0++f1,f2,g0++g1,g2,e1,h1,(z20 ..).symm,(z20 ..).symm,fun{F' H'} sf kk {x' s' f0' g0'} h'=>?_⟩
   rw[z20,z20]
   refine SL.cons (h.keep sf fun a ha=>kk a ?_) (k sf (fun a ha=>kk a ?_) h')<;>simp only[z05] at ha ⊢
   ·rcases ha with z|z
    ·exact .inl (.inl (.inl z))
    ·exact .inr (.inl (.inl z))
   ·rcases ha with(z|z)|z|z
    ·exact .inl (.inl (.inr z))
    ·exact .inl (.inr z)
    ·exact .inr (.inl (.inr z))
    ·exact .inr (.inr z)
end
def IsT:HO->Prop
 |.tup _=>True|_=>False
def Nw (H:Hp)(b:Addr)(o:HO):Prop:=H b=none\/IsT o
theorem Nw.not {H H':Hp}{b:Addr}{o o':HO}(n:Nw H b o)(e:H b≠none)(e':H' b=some o)(e2:H' b=some o')(m:Mbl o'):False:=by
 rcases n with z|z
 ·exact e z
 ·rw[e'] at e2;cases e2
  cases o with
  |tup _=>exact m
  |_=>exact z
theorem Nw.up {H H':Hp}{b:Addr}{o:HO}(n:Nw H b o)(f:H b=none->H' b=none):Nw H' b o:=n.imp f id
structure SI (C:Cn)(F H:Hp)(σ:St)(ρ:Rho)(τ:List (V×D))(fp:List Addr):Prop where
 sl:∃f g t,SL C.K F H σ ρ f g/\OL C.K F H (τ.map (·.1)) (τ.map (·.2)) t/\fp.Perm (f++(g++t))/\(∀a∈f,C.H₀ a=none)/\(∀a∈t,C.H₀ a=none)/\∀a∈g,a∈C.A\/C.H₀ a=none
 nd:fp.Nodup
 ap:∀a∈fp,F a=none
 fh:Qu F H
 f0:Qu C.F₀ F
 fn:∀b o,F b=some o->C.F₀ b=some o\/Nw C.H₀ b o
 kp:∀b o,C.H₀ b=some o->b∉C.A->H b=some o
 dm:∀b,H b=none->C.H₀ b=none
 pr:∀j v,(j,v)∈C.QgD->σ[j]? = some (some v)/\∃d,ρ[j]? = some (some (.par d))
section
variable {C:Cn}{F F' H H':Hp}{σ:St}{ρ:Rho}{τ:List (V×D)}{fp:List Addr}
theorem SI.len (I:SI C F H σ ρ τ fp):σ.length=ρ.length:=let ⟨_,_,_,s,_⟩:=I.sl;s.len
theorem SI.mem (I:SI C F H σ ρ τ fp):∀a∈fp,∃o,H a=some o/\Mbl o:=fun a ha=>by
 obtain⟨f,g,t,s,o,p,_⟩:=I.sl
 have z:=p.mem_iff.mp ha
 rcases z05.mp z with z|z
 ·exact s.mem a (z06 _ z)
 ·rcases z05.mp z with z|z
  ·exact s.mem a (z02 _ z)
  ·exact o.mem a z
theorem SI.perm {fp':List Addr}(I:SI C F H σ ρ τ fp)(p:fp.Perm fp'):SI C F H σ ρ τ fp':=by
 obtain⟨f,g,t,s,o,q,r⟩:=I.sl
 exact⟨⟨f,g,t,s,o,p.symm.trans q,r⟩,p.nodup_iff.mp I.nd,fun a ha=>I.ap a (p.mem_iff.mpr ha),I.fh,I.f0,I.fn,I.kp,I.dm,I.pr⟩
theorem SI.step (I:SI C F H σ ρ τ fp)(sf:Qu F F')(fh:Qu F' H')(hk:∀a∈fp,H' a=H a)(ap:∀a∈fp,F' a=none)(fn:∀b o,F' b=some o->F b=some o\/Nw C.H₀ b o)(kp:∀b o,C.H₀ b=some o->b∉C.A->H b=some o->H' b=some o)(dm:∀b,H' b=none->H b=none):SI C F' H' σ ρ τ fp:=by
 obtain⟨f,g,t,s,o,q,h1,h2,h3⟩:=I.sl
 have inn:∀{a:Addr},a∈f++(g++t)->H' a=H a:=fun z=>hk _ (q.mem_iff.mpr z)
 refine⟨⟨f,g,t,s.keep sf fun a ha=>inn (by
  rcases z05.mp ha with z|z
  ·exact z06 _ z
  ·exact z02 _ (z06 _ z)),o.keep sf fun a ha=>inn (z02 _ (z02 _ ha)),q,h1,h2,h3⟩,I.nd,ap,fh,I.f0.trans sf,fun b ob e=>?_,fun b ob e n=>?_,fun b e=>?_,I.pr⟩
 ·rcases fn b ob e with z|z
  ·exact I.fn b ob z
  ·exact .inr z
 ·exact kp b ob e n (I.kp b ob e n)
 ·exact I.dm b (dm b e)
theorem SI.lay {p:Addr}{o:HO}(I:SI C F H σ ρ τ fp)(hp:H p=none):SI C (upd F p o) (upd H p o) σ ρ τ fp:=by
 have np:∀a∈fp,a≠p:=fun a ha=>by
  obtain⟨_,e,_⟩:=I.mem a ha
  exact Qx e hp
 have fp0:F p=none:=I.fh.free hp
 refine I.step (Qu.upd fp0) (fun b ob e=>?_) (fun a ha=>Qk (np a ha)) (fun a ha=>(Qk (np a ha)).trans (I.ap a ha)) (fun b ob e=>?_) (fun b ob _ _ e=>Qu.upd hp b ob e) fun b e=>(Qu.upd hp).free e
 ·by_cases hb:b=p
  ·subst hb;rw[Qs] at e ⊢;exact e
  ·rw[Qk hb] at e ⊢;exact I.fh b ob e
 ·by_cases hb:b=p
  ·subst hb;exact .inr (.inl (I.dm b hp))
  ·rw[Qk hb] at e;exact .inl e
theorem SI.lay0 {p:Addr}{o:HO}(I:SI C F H σ ρ τ fp)(hp:H p=none):SI C F (upd H p o) σ ρ τ fp:=by
 have np:∀a∈fp,a≠p:=fun a ha=>by
  obtain⟨_,e,_⟩:=I.mem a ha
  exact Qx e hp
 exact I.step (Qu.refl F) (I.fh.trans (Qu.upd hp)) (fun a ha=>Qk (np a ha)) I.ap (fun b ob e=>.inl e) (fun b ob _ _ e=>Qu.upd hp b ob e) fun b e=>(Qu.upd hp).free e
theorem SI.pop {v:V}{d:D}(I:SI C F H σ ρ ((v,d)::τ) fp):∃f rest,O C.K F H v d f/\fp.Perm (f++rest)/\SI C F H σ ρ τ rest/\(∀a∈f,C.H₀ a=none)/\(∀a∈f,F a=none)/\(f++rest).Nodup:=by
 obtain⟨f,g,t,s,o,q,h1,h2,h3⟩:=I.sl
 cases o with
 | @cons _ _ _ _ t1 t2 o1 o2=>
  have p:fp.Perm (t1++(f++(g++t2))):=by
   refine q.trans ?_
   rw[z83]
   intro a
   simp only[z88]
   lia
  have nd:=p.nodup_iff.mp I.nd
  refine⟨t1,f++(g++t2),o1,p,⟨⟨f,g,t2,s,o2,.refl _,h1,fun a ha=>h2 a (z02 _ ha),h3⟩,(z09.mp nd).2.1,fun a ha=>I.ap a (p.mem_iff.mpr (z02 _ ha)),I.fh,I.f0,I.fn,I.kp,I.dm,I.pr⟩,fun a ha=>h2 a (z06 _ ha),fun a ha=>I.ap a (p.mem_iff.mpr (z06 _ ha)),nd⟩
theorem SI.push {v:V}{d:D}{f rest:List Addr}(I:SI C F H σ ρ τ rest)(h:O C.K F H v d f)(h0:∀a∈f,C.H₀ a=none)(ap:∀a∈f,F a=none)(nd:(f++rest).Nodup):SI C F H σ ρ ((v,d)::τ) (f++rest):=by
 obtain⟨f1,g,t,s,o,q,h1,h2,h3⟩:=I.sl
 refine⟨⟨f1,g,f++t,s,.cons h o,?_,h1,fun a ha=>(z05.mp ha).elim (h0 a) (h2 a),h3⟩,nd,fun a ha=>(z05.mp ha).elim (ap a) (I.ap a),I.fh,I.f0,I.fn,I.kp,I.dm,I.pr⟩
 refine(q.append_left f).trans ?_
 rw[z83]
 intro a
 simp only[z88]
 lia
theorem SI.cut (I:SI C F H σ ρ τ fp){i:Nat}{s:Option Sl}(hs:ρ[i]? = some s):∃x f0 g0 rest,σ[i]? = some x/\S1 C.K F H x s f0 g0/\fp.Perm (f0++(g0++rest))/\(∀a∈f0,C.H₀ a=none)/\(∀a∈g0,a∈C.A\/C.H₀ a=none)/\
  ∀{F' H':Hp} {x':Option V} {s':Option Sl} {f0' g0':List Addr},Qu F F'->Qu F' H'->(∀a∈rest,H' a=H a)->(∀b,H' b=none->H b=none)->(∀b o,C.H₀ b=some o->b∉C.A->H b=some o->H' b=some o)->(∀b o,F' b=some o->F b=some o\/Nw C.H₀ b o)->
   S1 C.K F' H' x' s' f0' g0'->(f0'++(g0'++rest)).Nodup->(∀a∈f0'++(g0'++rest),F' a=none)->(∀a∈f0',C.H₀ a=none)->(∀a∈g0',a∈C.A\/C.H₀ a=none)->(∀v,(i,v)∈C.QgD->x'=some v/\∃d,s'=some (.par d))->
   SI C F' H' (σ.set i x') (ρ.set i s') τ (f0'++(g0'++rest)):=by
 obtain⟨f,g,t,sl,o,q,h1,h2,h3⟩:=I.sl
 obtain⟨x,f0,g0,f1,f2,g1,g2,ex,s1,rfl,rfl,k⟩:=sl.cut hs
 have mv:∀(f0 g0:List Addr),(f0++(g0++(f1++f2++(g1++g2)++t))).Perm ((f1++(f0++f2))++((g1++(g0++g2))++t)):=fun f0 g0=>by
  rw[z83]
  intro a
  simp only[z88]
  lia
 refine⟨x,f0,g0,f1++f2++(g1++g2)++t,ex,s1,q.trans (mv f0 g0).symm,fun a ha=>h1 a (by simp[ha]),fun a ha=>h3 a (by simp[ha]),fun{F' H' x' s' f0' g0'} sf fh hk dm kp fn n1 nd ap w0 w1 pr=>?_⟩
 have z:=k sf (fun a ha=>hk a (z06 _ ha)) n1
 refine⟨⟨_,_,t,z,o.keep sf fun a ha=>hk a (z02 _ ha),mv f0' g0',fun a ha=>?_,h2,fun a ha=>?_⟩,nd,ap,fh,I.f0.trans sf,fun b ob e=>?_,fun b ob e n=>?_,fun b e=>I.dm b (dm b e),fun j v hj=>?_⟩
 ·simp only[z05] at ha
  rcases ha with z|z|z
  ·exact h1 a (by simp[z])
  ·exact w0 a z
  ·exact h1 a (by simp[z])
 ·simp only[z05] at ha
  rcases ha with z|z|z
  ·exact h3 a (by simp[z])
  ·exact w1 a z
  ·exact h3 a (by simp[z])
 ·rcases fn b ob e with z|z
  ·exact I.fn b ob z
  ·exact .inr z
 ·exact kp b ob e n (I.kp b ob e n)
 ·obtain⟨p1,d,p2⟩:=I.pr j v hj
  by_cases e:i=j
  ·subst e
   obtain⟨q1,d',q2⟩:=pr v hj
   have l1:i<σ.length:=(z25.mp p1).1
   have l2:i<ρ.length:=(z25.mp p2).1
   exact⟨by rw[z87 l1,q1],d',by rw[z87 l2,q2]⟩
  ·exact⟨by rw[z60 e];exact p1,d,by rw[z60 e];exact p2⟩
theorem Qor {p q:List Addr}(h:p.Perm q):jn F H p=jn F H q:=by
 funext b
 unfold jn
 by_cases hb:b∈p
 ·rw[if_pos hb,if_pos (h.mem_iff.mp hb)]
 ·rw[if_neg hb,if_neg fun z=>hb (h.mem_iff.mpr z)]
theorem SI.freeze {v:V}{d:D}(I:SI C F H σ ρ ((v,d)::τ) fp):∃F' rest,SI C F' H σ ρ τ rest/\Qu F F'/\R C.K F' v d/\jn F' H rest=jn F H fp:=by
 obtain⟨f,rest,o,p,J,h0,ap,nd⟩:=I.pop
 have dis:∀a∈rest,a∉f:=fun a ha hf=>(z09.mp nd).2.2 a hf a ha rfl
 have sf:Qu F (jn F H f):=Qj8 ap
 refine⟨jn F H f,rest,J.step sf (Vn J.fh) (fun _ _=>rfl) (fun a ha=>(Jy (dis a ha)).trans (J.ap a ha)) (fun b ob e=>?_) (fun b ob _ _ e=>e) (fun _ e=>e),sf,o.r sf fun a ha=>Vo ha,?_⟩
 ·by_cases hb:b∈f
  ·exact .inr (.inl (h0 b hb))
  ·rw[Jy hb] at e;exact .inl e
 ·funext b
  unfold jn
  by_cases hb:b∈rest
  ·rw[if_pos hb,if_pos (p.mem_iff.mpr (z02 _ hb))]
  ·rw[if_neg hb]
   by_cases hf:b∈f
   ·rw[if_pos hf,if_pos (p.mem_iff.mpr (z06 _ hf))]
   ·rw[if_neg hf,if_neg fun z=>(z05.mp (p.mem_iff.mp z)).elim hf hb]
theorem SI.drop (I:SI C F H σ ρ τ fp):∃fp',SI C F H σ ρ [] fp':=by
 induction τ generalizing fp with
 |nil=>exact⟨fp,I⟩
 |cons x τ ih=>
  obtain⟨f,rest,_,_,J,_⟩:=SI.pop (v:=x.1) (d:=x.2) I
  exact ih J
end
inductive Rs (α:Type) where
 |ok (a:α)
 |ex (c:Addr) (ρ:Rho)
 |no
noncomputable def Rs.bind {α β:Type}:Rs α->(α->Rs β)->Rs β
 |.ok a,f=>f a
 |.ex c ρ,_=>.ex c ρ
 |.no,_=>.no
noncomputable def Rs.of {α:Type}:Option α->Rs α
 |some a=>.ok a
 |none=>.no
abbrev ME:=Rho->Rs (D×Rho)
abbrev MT:=Rho->Rs (Bool×Rho)
abbrev MA:=Rho->Rs (List D×Rho)
abbrev XE:=L2.St->XK
def Run (C:Cn)(E:XE)(σ:L2.St){α:Type}(r:Rs α)(k:α->Prop):Prop:=match r with
 |.ok a=>k a
 |.ex c ρ=>∀F H fp,SI C F H σ ρ [] fp->E σ (.ref c) none H
 |.no=>False
section
variable {C:Cn}{E:XE}{σ:L2.St}{α β:Type}
theorem Run.mono {r:Rs α}{k k':α->Prop}(h:Run C E σ r k)(f:∀a,k a->k' a):Run C E σ r k':=by
 cases r with
 |ok a=>exact f a h
 |ex c ρ=>exact h
 |no=>exact h
theorem Run.split {r:Rs α}{f:α->Rs β}{k:β->Prop}(h:Run C E σ (r.bind f) k):Run C E σ r fun a=>Run C E σ (f a) k:=by
 cases r with
 |ok a=>exact h
 |ex c ρ=>exact h
 |no=>exact h
theorem Run.of {o:Option α}{k:α->Prop}(h:Run C E σ (Rs.of o) k):∃a,o=some a/\k a:=by
 cases o with
 |none=>exact h.elim
 |some a=>exact⟨a,rfl,h⟩
end
inductive Kd where
 |V|O|B|S (i:Nat)
def Kd.tk:Kd->L2.V->D->List (L2.V×D)->List (L2.V×D)
 |.O,v,d,τ=>(v,d)::τ
 |_,_,_,τ=>τ
def Kd.fc (C:Cn)(F H:Hp)(fp:List Addr)(σ:L2.St)(v:L2.V)(d:D):Kd->Prop
 |.V=>R C.K F v d
 |.B=>R C.K (jn F H fp) v d
 |.O=>True
 |.S i=>σ[i]? = some (some v)
structure Nx (p:Bool)(F H:Hp)(fp:List Addr)(F' H':Hp)(fp':List Addr):Prop where
 f:Qu F F'
 g:p=true->Qu (jn F H fp) (jn F' H' fp')
theorem Nx.refl {p:Bool}{F H:Hp}{fp:List Addr}:Nx p F H fp F H fp:=⟨Qu.refl _,fun _=>Qu.refl _⟩
theorem Nx.trans {p q:Bool}{F H F1 H1 F2 H2:Hp}{fp fp1 fp2:List Addr}(a:Nx p F H fp F1 H1 fp1)(b:Nx q F1 H1 fp1 F2 H2 fp2):Nx (p && q) F H fp F2 H2 fp2:=
 ⟨a.f.trans b.f,fun h=>(a.g (z66.mp h).1).trans (b.g (z66.mp h).2)⟩
theorem Nx.weak {p q:Bool}{F H F1 H1:Hp}{fp fp1:List Addr}(a:Nx p F H fp F1 H1 fp1)(h:q=true->p=true):Nx q F H fp F1 H1 fp1:=⟨a.f,fun z=>a.g (h z)⟩
def tX (k:Kd)(C:Cn)(p:Bool)(E:XE)(m:ME):TE:=fun σ H Q=>∃F ρ τ fp,SI C F H σ ρ τ fp/\Run C E σ (m ρ) fun r=>
 ∀F' H' fp' v,SI C F' H' σ r.2 (k.tk v r.1 τ) fp'->Nx p F H fp F' H' fp'->k.fc C F' H' fp' σ v r.1->Q v H'
def tT (C:Cn)(p:Bool)(E:XE)(m:MT):TT:=fun σ H Q=>∃F ρ τ fp,SI C F H σ ρ τ fp/\Run C E σ (m ρ) fun r=>
 ∀F' H' fp',SI C F' H' σ r.2 τ fp'->Nx p F H fp F' H' fp'->Q r.1 H'
def tkL:List Kd->List L2.V->List D->List (L2.V×D)->List (L2.V×D)
 |k::ks,v::vs,d::ds,τ=>tkL ks vs ds (k.tk v d τ)
 |_,_,_,τ=>τ
inductive FcL (C:Cn) (F H:Hp) (fp:List Addr) (σ:L2.St):List Kd->List L2.V->List D->Prop
 |nil:FcL C F H fp σ [] [] []
 |cons {k:Kd} {v:L2.V} {d:D} {ks:List Kd} {vs:List L2.V} {ds:List D} (h:k.fc C F H fp σ v d) (r:FcL C F H fp σ ks vs ds):FcL C F H fp σ (k::ks) (v::vs) (d::ds)
def tA (ks:List Kd)(C:Cn)(p:Bool)(E:XE)(m:MA):TA:=fun σ H Q=>∃F ρ τ fp,SI C F H σ ρ τ fp/\Run C E σ (m ρ) fun r=>
 ∀F' H' fp' vs,SI C F' H' σ r.2 (tkL ks vs r.1 τ) fp'->Nx p F H fp F' H' fp'->FcL C F' H' fp' σ ks vs r.1->Q vs H'
theorem Qp {X:Cx}{e:Expr}{t t':TE}(h:PE X e t)(k:∀σ H Q,t' σ H Q->t σ H Q):PE X e t':=fun pins s σ H Q I q=>h pins s σ H Q I (k _ _ _ q)
theorem Qe6 {X:Cx}{e:Expr}{t t':TT}(h:PT X e t)(k:∀σ H Q,t' σ H Q->t σ H Q):PT X e t':=fun pins s σ H Q I q=>h pins s σ H Q I (k _ _ _ q)
theorem Qj9 {X:Cx}{e:List Expr}{t t':TA}(h:PA X e t)(k:∀σ H Q,t' σ H Q->t σ H Q):PA X e t':=fun pos pins s σ H Q I q=>h pos pins s σ H Q I (k _ _ _ q)
theorem Jl {X:Cx}{e:Stmt}{t t':TS}(h:PS X e t)(k:∀D σ H,t' D σ H->t D σ H):PS X e t':=fun pins s σ H D I q=>h pins s σ H D I (k _ _ _ q)
theorem Qc3 {X:Cx}{e:List Stmt}{t t':TS}(h:PSs X e t)(k:∀D σ H,t' D σ H->t D σ H):PSs X e t':=fun pins s σ H D I q=>h pins s σ H D I (k _ _ _ q)
section
variable {X:Cx}{C:Cn}{E:XE}{p pa pb:Bool}{e a b:Expr}{m ma mb:ME}{pos:Pos}{k ka kb:Kd}
theorem R.tj {F H:Hp}{σ:L2.St}{ρ:Rho}{τ:List (V×D)}{fp:List Addr}{v:L2.V}{d:D}(I:SI C F H σ ρ τ fp)(h:R C.K F v d):R C.K (jn F H fp) v d:=h.same (Qj8 I.ap)
theorem R.top {F H:Hp}{σ:L2.St}{ρ:Rho}{τ:List (V×D)}{fp:List Addr}{v:L2.V}{d:D}(I:SI C F H σ ρ τ fp)(h:R C.K (jn F H fp) v d):R C.K H v d:=h.same (Vn I.fh)
def mC (d:D):ME:=fun ρ=>.ok (d,ρ)
theorem Qi3 {d:D}{v:L2.V}(e:d.sc=some v){σ:L2.St}{H:Hp}{Q:VK}(h:tX .V C true E (mC d) σ H Q):tC v σ H Q:=by
 obtain⟨F,ρ,τ,fp,I,r⟩:=h
 exact r F H fp v I .refl (.sc e)
theorem Qf {i j pos}:PE X (.Constant (.int i) j pos) (tX .V C true E (mC (.int i))):=Qp QpT fun _ _ _ h=>Qi3 rfl h
theorem Qah {b j pos}:PE X (.Constant (.bool b) j pos) (tX .V C true E (mC (.bl b))):=Qp Qtc fun _ _ _ h=>Qi3 rfl h
theorem Qf0 {j pos}:PE X (.Constant .none j pos) (tX .V C true E (mC .non)):=Qp QpU fun _ _ _ h=>Qi3 rfl h
theorem Yh {x j pos}:PE X (.Constant (.str x) j pos) (tX .V C true E (mC (.str x))):=Qp QpV fun _ _ _ h=>Qi3 rfl h
theorem Qbt {x:Str}{d:D}{v:L2.V}{u:Value}{pos:Pos}(ed:d.sc=some v)(r:RelV v u)(hm:X.mg x=some u)(hg:Gl X x:=by rfl)(hd:@6=false:=by decide):PE X (.Name x pos) (tX .V C true E (mC d)):=Qp (QnJ hg hm r hd) fun _ _ _ h=>Qi3 ed h
theorem Y6 {x:Str}{n:String}{pos:Pos}(hm:X.mg x=none)(hv:z74 x=some (.type n))(hg:Gl X x:=by rfl)(hn:x ≠ "__name__" := by decide)(hd:@6=false:=by decide):PE X (.Name x pos) (tX .V C true E (mC (.ty n))):=Qp (QnK (v:=.ty n) hg hm hv rfl hn hd) fun _ _ _ h=>Qi3 rfl h
def mB (i:Nat):ME:=fun ρ=>match ρ[i]? with
 |some (some (.frz d))=>.ok (d,ρ)
 |some (some (.own d))=>.ok (d,ρ)
 |some (some (.par d))=>.ok (d,ρ)
 |_=>.no
theorem QqQ {i:Nat}{x:Str}{pos:Pos}(hN:X.N[i]? = some x)(hv:Vis X.env.scope x)(hd:@6=false:=by decide)(hcd:(x == ("__classdict__" : Str))=false:=by decide):PE X (.Name x pos) (tX .B C true E (mB i)):=Qp (Qan hN hv hd hcd) fun σ H Q ⟨F,ρ,τ,fp,I,r⟩=>by
 unfold mB at r
 cases es:ρ[i]? with
 |none=>rw[es] at r;exact r.elim
 |some s=>
  rw[es] at r
  obtain⟨y,f0,g0,rest,ey,s1,pm,_,_,_⟩:=I.cut es
  cases s1 with
  |non=>exact r.elim
  |frz h=>exact⟨_,ey,r F H fp _ I .refl (h.tj I)⟩
  |own h=>exact⟨_,ey,r F H fp _ I .refl (h.r (Qj8 I.ap) fun a ha=>Vo (pm.mem_iff.mpr (z06 _ ha)))⟩
  |par h=>exact⟨_,ey,r F H fp _ I .refl (h.r (Qj8 I.ap) fun a ha=>Vo (pm.mem_iff.mpr (z02 _ (z06 _ ha))))⟩
def mV (i:Nat):ME:=fun ρ=>match ρ[i]? with
 |some (some (.frz d))=>.ok (d,ρ)
 |some (some (.own d))=>.ok (d,ρ.set i (some (.frz d)))
 |_=>.no
theorem JC {α:Type}{l:List α}{i:Nat}{x:α}(h:l[i]? = some x):l.set i x=l:=by
 apply zi0
 intro j
 by_cases e:i=j
 ·subst e
  rw[z87 (z25.mp h).1,h]
 ·rw[z60 e]
theorem SI.Qos {F H:Hp}{σ:L2.St}{ρ:Rho}{τ:List (V×D)}{fp:List Addr}{i:Nat}{d:D}(I:SI C F H σ ρ τ fp)(es:ρ[i]? = some (some (.own d))) :
  ∃F' fp' v,σ[i]? = some (some v)/\SI C F' H σ (ρ.set i (some (.frz d))) τ fp'/\R C.K F' v d/\Qu F F'/\jn F' H fp'=jn F H fp:=by
 obtain⟨y,f0,g0,rest,ey,s1,pm,w0,w1,cl⟩:=I.cut es
 cases s1 with
 | @own v _ _ h=>
  have nd:=pm.nodup_iff.mp I.nd
  have ap:∀a∈f0,F a=none:=fun a ha=>I.ap a (pm.mem_iff.mpr (z06 _ ha))
  have dis:∀a∈rest,a∉f0:=fun a ha hf=>(z09.mp nd).2.2 a hf a ha rfl
  have sf:Qu F (TL.jn F H f0):=Qj8 ap
  have rr:R C.K (TL.jn F H f0) v d:=h.r sf fun a ha=>Vo ha
  have q:=cl (F':=TL.jn F H f0) (H':=H) (x':=some v) (s':=some (.frz d)) (f0':=[]) (g0':=[]) sf (Vn I.fh) (fun _ _=>rfl) (fun _ z=>z) (fun _ _ _ _ z=>z) (fun b o e=>by
   by_cases hb:b∈f0
   ·exact .inr (.inl (w0 b hb))
   ·rw[Jy hb] at e;exact .inl e) (.frz rr) (z09.mp nd).2.1 (fun a ha=>(Jy (dis a ha)).trans (I.ap a (pm.mem_iff.mpr (z02 _ ha)))) @2 @2 (fun v' hv=>by
    obtain⟨_,d',z⟩:=I.pr _ _ hv
    rw[es] at z;cases z)
  rw[JC ey] at q
  refine⟨_,_,v,ey,q,rr,sf,?_⟩
  funext b
  show TL.jn (TL.jn F H f0) H rest b=TL.jn F H fp b
  unfold TL.jn
  by_cases hb:b∈rest
  ·rw[if_pos hb,if_pos (pm.mem_iff.mpr (z02 _ hb))]
  ·rw[if_neg hb]
   by_cases hf:b∈f0
   ·rw[if_pos hf,if_pos (pm.mem_iff.mpr (z06 _ hf))]
   ·rw[if_neg hf,if_neg fun z=>(z05.mp (pm.mem_iff.mp z)).elim hf hb]
theorem QqR {i:Nat}{x:Str}{pos:Pos}(hN:X.N[i]? = some x)(hv:Vis X.env.scope x)(hd:@6=false:=by decide)(hcd:(x == ("__classdict__" : Str))=false:=by decide):PE X (.Name x pos) (tX .V C true E (mV i)):=Qp (Qan hN hv hd hcd) fun σ H Q ⟨F,ρ,τ,fp,I,r⟩=>by
 unfold mV at r
 cases es:ρ[i]? with
 |none=>rw[es] at r;exact r.elim
 |some s=>
  rw[es] at r
  cases s with
  |none=>exact r.elim
  |some s=>
   cases s with
   |frz d=>
    obtain⟨y,f0,g0,rest,ey,s1,_⟩:=I.cut es
    cases s1 with
    |frz h=>exact⟨_,ey,r F H fp _ I .refl h⟩
   |own d=>
    obtain⟨F',fp',v,ey,J,rr,sf,je⟩:=I.Qos es
    exact⟨v,ey,r F' H fp' v J ⟨sf,fun _=>by rw[je];exact Qu.refl _⟩ rr⟩
   |par d=>exact r.elim
def mO (i:Nat):ME:=fun ρ=>match ρ[i]? with
 |some (some (.own d))=>.ok (d,ρ.set i none)
 |_=>.no
theorem QqS {i:Nat}{x:Str}{pos:Pos}(hN:X.N[i]? = some x)(hv:Vis X.env.scope x)(hd:@6=false:=by decide)(hcd:(x == ("__classdict__" : Str))=false:=by decide):PE X (.Name x pos) (tX .O C true E (mO i)):=Qp (Qan hN hv hd hcd) fun σ H Q ⟨F,ρ,τ,fp,I,r⟩=>by
 unfold mO at r
 cases es:ρ[i]? with
 |none=>rw[es] at r;exact r.elim
 |some s=>
  rw[es] at r
  obtain⟨y,f0,g0,rest,ey,s1,pm,w0,w1,cl⟩:=I.cut es
  cases s1 with
  |non=>exact r.elim
  |frz h=>exact r.elim
  |par h=>exact r.elim
  | @own v d f h=>
   have nd:=pm.nodup_iff.mp I.nd
   have q:=cl (F':=F) (H':=H) (x':=some v) (s':=none) (f0':=[]) (g0':=[]) (Qu.refl _) I.fh (fun _ _=>rfl) (fun _ z=>z) (fun _ _ _ _ z=>z) (fun b o e=>.inl e) .non (z09.mp nd).2.1 (fun a ha=>I.ap a (pm.mem_iff.mpr (z02 _ ha))) @2 @2 (fun v' hv=>by
    obtain⟨_,d',z⟩:=I.pr _ _ hv
    rw[es] at z;cases z)
   rw[JC ey] at q
   have q2:=q.push h w0 (fun a ha=>I.ap a (pm.mem_iff.mpr (z06 _ ha))) nd
   refine⟨v,ey,r F H _ v q2 ⟨Qu.refl _,fun _=>?_⟩ z54⟩
   have e:TL.jn F H fp=TL.jn F H (f0++([]++([]++rest))):=Qor pm
   rw[e]
   exact Qu.refl _
theorem Qc4 (h:PE X e (tX .O C p E m)):PE X e (tX .V C p E m):=Qp h fun σ H Q ⟨F,ρ,τ,fp,I,r⟩=>
 ⟨F,ρ,τ,fp,I,r.mono fun a z F' H' fp' v I' n f=>by
  obtain⟨F2,rest,J,sf,rr,je⟩:=SI.freeze (show SI C F' H' σ a.2 ((v,a.1)::τ) fp' from I')
  exact z F2 H' rest v J ⟨n.f.trans sf,fun hp=>by rw[je];exact n.g hp⟩ rr⟩
def mI (m:ME):ME:=fun ρ=>(m ρ).bind fun r=>if r.1.imm=true then .ok r else .no
theorem SI.lo {F H:Hp}{σ:L2.St}{ρ:Rho}{τ:List (V×D)}{fp:List Addr}{v:L2.V}{d:D}(I:SI C F H σ ρ τ fp)(h:R C.K (TL.jn F H fp) v d)(hd:d.imm=true):R C.K F v d:=by
 have q:=R.lo (L:=fp) (fun b hb o e=>by
  rw[Vo hb] at e
  obtain⟨o',e',z⟩:=I.mem b hb
  rw[e] at e';cases e'
  exact z) h hd
 refine q.same fun b o e=>?_
 by_cases hb:b∈fp
 ·rw[QgX hb] at e;cases e
 ·rw[Qaq hb,Jy hb] at e;exact e
theorem QtL (h:PE X e (tX .B C p E m)):PE X e (tX .V C p E (mI m)):=Qp h fun σ H Q ⟨F,ρ,τ,fp,I,r⟩=>
 ⟨F,ρ,τ,fp,I,r.split.mono fun a z F' H' fp' v I' n f=>by
  by_cases hi:a.1.imm=true
  ·rw[if_pos hi] at z
   exact z F' H' fp' v I' n (I'.lo f hi)
  ·rw[if_neg hi] at z
   exact z.elim⟩
theorem JX (h:PE X e (tX .V C p E m)):PE X e (tX .O C p E (mI m)):=Qp h fun σ H Q ⟨F,ρ,τ,fp,I,r⟩=>
 ⟨F,ρ,τ,fp,I,r.split.mono fun a z F' H' fp' v I' n f=>by
  by_cases hi:a.1.imm=true
  ·rw[if_pos hi] at z
   have J:=SI.push (τ:=τ) I' (R.o (H:=H') f hi) @2 @2 (by simpa using I'.nd)
   exact z F' H' fp' v J n z54
  ·rw[if_neg hi] at z
   exact z.elim⟩
def OpD (K:z00)(r:R2)(g:D->D->Option D):Prop:=∀H v u d e res,R K H v d->R K H u e->g d e=some res->∃w,res.sc=some w/\∀Q:VK,Q w H->r v u H Q
def mOp (g:D->D->Option D)(ma mb:ME):ME:=fun ρ=>(ma ρ).bind fun r1=>(mb r1.2).bind fun r2=>Rs.of ((g r1.1 r2.1).map fun d=>(d,r2.2))
def Kd.on:Kd->Bool->Bool
 |.V,_=>true
 |.B,p=>p
 |.O,_=>false
 |.S _,_=>false
theorem Kd.stay {F H F1 H1:Hp}{σ:L2.St}{ρ:Rho}{τ':List (L2.V×D)}{fp fp1:List Addr}{v:L2.V}{d:D}{q:Bool}(ok:k.on q=true)(h:k.fc C F H fp σ v d)(n:Nx q F H fp F1 H1 fp1)(I:SI C F1 H1 σ ρ τ' fp1):R C.K (TL.jn F1 H1 fp1) v d:=by
 cases k with
 |V=>exact(R.same n.f h).tj I
 |B=>exact R.same (n.g ok) h
 |O=>cases ok
 |S i=>cases ok
theorem Kd.Yn {q:Bool}(ok:k.on q=true)(v:L2.V)(d:D)(τ:List (L2.V×D)):k.tk v d τ=τ:=by
 cases k with
 |V=>rfl
 |B=>rfl
 |O=>cases ok
 |S i=>cases ok
theorem Qka {r:R2}{g:D->D->Option D}(hg:OpD C.K r g)(ok:ka.on pb=true)(ok2:kb.on true=true){σ:L2.St}{H:Hp}{Q:VK}(h:tX .V C (pa && pb) E (mOp g ma mb) σ H Q):tOp r (tX ka C pa E ma) (tX kb C pb E mb) σ H Q:=by
 obtain⟨F,ρ,τ,fp,I,h⟩:=h
 refine⟨F,ρ,τ,fp,I,h.split.mono fun r1 h1 F1 H1 fp1 v1 I1 n1 f1=>?_⟩
 rw[Kd.Yn ok] at I1
 refine⟨F1,r1.2,τ,fp1,I1,h1.split.mono fun r2 h2 F2 H2 fp2 v2 I2 n2 f2=>?_⟩
 rw[Kd.Yn ok2] at I2
 obtain⟨z,ez,h3⟩:=h2.of
 obtain⟨res,eg,rfl⟩:=z03.mp ez
 obtain⟨w,ew,hw⟩:=hg H2 v1 v2 _ _ _ (R.top I2 (Kd.stay ok f1 n2 I2)) (R.top I2 (Kd.stay ok2 f2 .refl I2)) eg
 exact hw _ (h3 F2 H2 fp2 w I2 (n1.trans n2) (.sc ew))
theorem JQ {op:Operator}{r:R2}{g:D->D->Option D}(ho:OpR X (binaryOp op) r)(hg:OpD C.K r g)(ha:PE X a (tX ka C pa E ma))(hb:PE X b (tX kb C pb E mb))(ok:ka.on pb=true:=by rfl)(ok2:kb.on true=true:=by rfl):PE X (.BinOp a op b pos) (tX .V C (pa && pb) E (mOp g ma mb)):=
 Qp (QnQ ho ha hb) fun _ _ _ h=>Qka hg ok ok2 h
theorem Qkb {op:CmpOp}{r:R2}{g:D->D->Option D}(ho:OpR X (compareOp op) r)(hg:OpD C.K r g)(ha:PE X a (tX ka C pa E ma))(hb:PE X b (tX kb C pb E mb))(hm:behindInMarks op b=false)(ok:ka.on pb=true:=by rfl)(ok2:kb.on true=true:=by rfl):PE X (.Compare a [op] [b] pos) (tX .V C (pa && pb) E (mOp g ma mb)):=
 Qp (QnR ho ha hb hm) fun _ _ _ h=>Qka hg ok ok2 h
noncomputable def asB:D->Option Bool
 |.bl b=>some b
 |_=>none
def QgY (m:ME):MT:=fun ρ=>(m ρ).bind fun r=>Rs.of ((asB r.1).map fun b=>(b,r.2))
theorem Qe7 (ok:k.on true=true){σ:L2.St}{H:Hp}{Q:Bool->Hp->Prop}(h:tT C p E (QgY m) σ H Q):QnS (tX k C p E m) σ H Q:=by
 obtain⟨F,ρ,τ,fp,I,h⟩:=h
 refine⟨F,ρ,τ,fp,I,h.split.mono fun r h F1 H1 fp1 v1 I1 n1 f1=>?_⟩
 rw[Kd.Yn ok] at I1
 obtain⟨z,ez,h3⟩:=h.of
 obtain⟨b,eb,rfl⟩:=z03.mp ez
 have e:r.1=.bl b:=by
  cases q:r.1<;>rw[q] at eb<;>cases eb
  rfl
 have rr:=Kd.stay ok f1 .refl I1
 rw[e] at rr
 exact⟨b,rr.QK rfl,h3 F1 H1 fp1 I1 n1⟩
theorem QJ {op:CmpOp}{r:R2}{g:D->D->Option D}(ho:OpR X (compareOp op) r)(hg:OpD C.K r g)(ha:PE X a (tX ka C pa E ma))(hb:PE X b (tX kb C pb E mb))(hm:behindInMarks op b=false)(ok:ka.on pb=true:=by rfl)(ok2:kb.on true=true:=by rfl):PT X (.Compare a [op] [b] pos) (tT C (pa && pb) E (QgY (mOp g ma mb))):=
 Qe6 (QnT ho ha hb hm) fun σ H Q h=>by
  have q:=Qe7 (k:=.V) rfl h
  exact Qka hg ok ok2 q
theorem Jr (h:PE X e (tX k C p E m))(ok:k.on true=true:=by rfl)(he:∀whole,isTrue e X.env whole=(do let v ← whole;standAt e.pos;holding [v] (truthy v)):=by intro _;rfl):PT X e (tT C p E (QgY m)):=
 Qe6 (QpW h he) fun _ _ _ h=>Qe7 ok h
def Qvh (m:MT):MT:=fun ρ=>(m ρ).bind fun r=>.ok (!r.1,r.2)
def Qvi (m u:MT):MT:=fun ρ=>(m ρ).bind fun r=>if r.1=true then u r.2 else .ok (false,r.2)
def mOr (m u:MT):MT:=fun ρ=>(m ρ).bind fun r=>if r.1=true then .ok (true,r.2) else u r.2
variable {mt mu:MT}{rest:List Expr}
theorem JR (h:PT X e (tT C p E mt)):PT X (.UnaryOp .Not e pos) (tT C p E (Qvh mt)):=Qe6 (QpZ h) fun σ H Q ⟨F,ρ,τ,fp,I,r⟩=>
 ⟨F,ρ,τ,fp,I,r.split⟩
theorem Qe8 (ha:PT X a (tT C pa E mt))(hb:PW X (.BoolOp .And (b::rest) pos) (tT C pb E mu)):PW X (.BoolOp .And (a::b::rest) pos) (tT C (pa && pb) E (Qvi mt mu)):=fun whole pins s σ H Q J h=>
 QpY ha hb whole pins s σ H Q J (by
  obtain⟨F,ρ,τ,fp,I,r⟩:=h
  refine⟨F,ρ,τ,fp,I,r.split.mono fun r1 h1 F1 H1 fp1 I1 n1=>?_⟩
  by_cases c:r1.1=true
  ·rw[if_pos c] at h1 ⊢
   exact⟨F1,r1.2,τ,fp1,I1,h1.mono fun r2 h2 F2 H2 fp2 I2 n2=>h2 F2 H2 fp2 I2 (n1.trans n2)⟩
  ·rw[if_neg c] at h1 ⊢
   exact h1 F1 H1 fp1 I1 (n1.weak fun z=>(z66.mp z).1))
theorem Qar (ha:PT X a (tT C pa E mt))(hb:PW X (.BoolOp .Or (b::rest) pos) (tT C pb E mu)):PW X (.BoolOp .Or (a::b::rest) pos) (tT C (pa && pb) E (mOr mt mu)):=fun whole pins s σ H Q J h=>
 Qtd ha hb whole pins s σ H Q J (by
  obtain⟨F,ρ,τ,fp,I,r⟩:=h
  refine⟨F,ρ,τ,fp,I,r.split.mono fun r1 h1 F1 H1 fp1 I1 n1=>?_⟩
  by_cases c:r1.1=true
  ·rw[if_pos c] at h1 ⊢
   exact h1 F1 H1 fp1 I1 (n1.weak fun z=>(z66.mp z).1)
  ·rw[if_neg c] at h1 ⊢
   exact⟨F1,r1.2,τ,fp1,I1,h1.mono fun r2 h2 F2 H2 fp2 I2 n2=>h2 F2 H2 fp2 I2 (n1.trans n2)⟩)
theorem Qdp {op:BoolOp}(ha:PT X a (tT C p E mt)):PW X (.BoolOp op [a] pos) (tT C p E mt):=by
 cases op with
 |And=>exact QnL ha
 |Or=>exact QpX ha
def QqT (ma mb:ME):ME:=fun ρ=>(ma ρ).bind fun r=>(Rs.of (asB r.1)).bind fun c=>if c=true then mb r.2 else .ok (.bl false,r.2)
def QqU (m:ME):ME:=fun ρ=>(m ρ).bind fun r=>Rs.of ((asB r.1).map fun b=>(.bl (!b),r.2))
theorem Qkc {d:D}{b:Bool}(h:asB d=some b):d=.bl b:=by
 cases d<;>cases h
 rfl
theorem Qi4 {op:BoolOp}(h:PE X a (tX k C p E m)):PE X (.BoolOp op [a] pos) (tX k C p E m):=Qp0 h
theorem QgZ (ha:PE X a (tX ka C pa E ma))(hb:PE X (.BoolOp .And (b::rest) pos) (tX .V C pb E mb))(ok:ka.on true=true:=by rfl):PE X (.BoolOp .And (a::b::rest) pos) (tX .V C (pa && pb) E (QqT ma mb)):=Qp (Qp1 ha hb) fun σ H Q ⟨F,ρ,τ,fp,I,r⟩=>by
 refine⟨F,ρ,τ,fp,I,r.split.mono fun r1 h1 F1 H1 fp1 v1 I1 n1 f1=>?_⟩
 rw[Kd.Yn ok] at I1
 obtain⟨c,ec,h2⟩:=h1.split.of
 have rr:=Kd.stay ok f1 .refl I1
 rw[Qkc ec] at rr
 refine⟨c,rr.QK rfl,?_⟩
 by_cases hc:c=true
 ·rw[if_pos hc] at h2 ⊢
  exact⟨F1,r1.2,τ,fp1,I1,h2.mono fun r2 h3 F2 H2 fp2 v2 I2 n2 f2=>h3 F2 H2 fp2 v2 I2 (n1.trans n2) f2⟩
 ·rw[if_neg hc] at h2 ⊢
  exact h2 F1 H1 fp1 _ I1 (n1.weak fun z=>(z66.mp z).1) (.sc rfl)
theorem QtM (ha:PE X a (tX ka C pa E ma))(ok:ka.on true=true:=by rfl):PE X (.UnaryOp .Not a pos) (tX .V C pa E (QqU ma)):=Qp (Qp2 ha) fun σ H Q ⟨F,ρ,τ,fp,I,r⟩=>by
 refine⟨F,ρ,τ,fp,I,r.split.mono fun r1 h1 F1 H1 fp1 v1 I1 n1 f1=>?_⟩
 rw[Kd.Yn ok] at I1
 obtain⟨z,ez,h3⟩:=h1.of
 obtain⟨b,eb,rfl⟩:=z03.mp ez
 have rr:=Kd.stay ok f1 .refl I1
 rw[Qkc eb] at rr
 exact⟨b,rr.QK rfl,h3 F1 H1 fp1 _ I1 n1 (.sc rfl)⟩
def Qvj (mt:MT)(ma mb:ME):ME:=fun ρ=>(mt ρ).bind fun r=>if r.1=true then ma r.2 else mb r.2
theorem QqV {c:Expr}{pc:Bool}(hc:PT X c (tT C pc E mt))(ha:PE X a (tX k C pa E ma))(hb:PE X b (tX k C pb E mb)):PE X (.IfExp c a b pos) (tX k C (pc && (pa && pb)) E (Qvj mt ma mb)):=Qp (QlK hc ha hb) fun σ H Q ⟨F,ρ,τ,fp,I,r⟩=>by
 refine⟨F,ρ,τ,fp,I,r.split.mono fun r1 h1 F1 H1 fp1 I1 n1=>?_⟩
 by_cases cc:r1.1=true
 ·rw[if_pos cc] at h1 ⊢
  exact⟨F1,r1.2,τ,fp1,I1,h1.mono fun r2 h2 F2 H2 fp2 v2 I2 n2 f2=>h2 F2 H2 fp2 v2 I2 ((n1.trans n2).weak fun z=>by cases pc<;>cases pa<;>cases pb<;>simp_all) f2⟩
 ·rw[if_neg cc] at h1 ⊢
  exact⟨F1,r1.2,τ,fp1,I1,h1.mono fun r2 h2 F2 H2 fp2 v2 I2 n2 f2=>h2 F2 H2 fp2 v2 I2 ((n1.trans n2).weak fun z=>by cases pc<;>cases pa<;>cases pb<;>simp_all) f2⟩
end
section
variable {X:Cx}{C:Cn}{E:XE}{p pa pb:Bool}{e a b:Expr}{es:List Expr}{m ma mb:ME}{mr:MA}{pos:Pos}{k ka kb:Kd}{ks:List Kd}
def mS (i:Nat):ME:=fun ρ=>match ρ[i]? with
 |some (some (.own d))=>.ok (d,ρ)
 |some (some (.par d))=>.ok (d,ρ)
 |_=>.no
theorem QqW {i:Nat}{x:Str}{pos:Pos}(hN:X.N[i]? = some x)(hv:Vis X.env.scope x)(hd:@6=false:=by decide)(hcd:(x == ("__classdict__" : Str))=false:=by decide):PE X (.Name x pos) (tX (.S i) C true E (mS i)):=Qp (Qan hN hv hd hcd) fun σ H Q ⟨F,ρ,τ,fp,I,r⟩=>by
 unfold mS at r
 cases es:ρ[i]? with
 |none=>rw[es] at r;exact r.elim
 |some s=>
  rw[es] at r
  obtain⟨y,f0,g0,rest,ey,s1,_⟩:=I.cut es
  cases s1 with
  |non=>exact r.elim
  |frz h=>exact r.elim
  |own h=>exact⟨_,ey,r F H fp _ I .refl ey⟩
  |par h=>exact⟨_,ey,r F H fp _ I .refl ey⟩
def Kd.ona:Kd->Bool->Bool
 |.B,p=>p
 |_,_=>true
def Qem:MA:=fun ρ=>.ok ([],ρ)
def Q7 (m:ME)(mr:MA):MA:=fun ρ=>(m ρ).bind fun r=>(mr r.2).bind fun q=>.ok (r.1::q.1,q.2)
theorem Qc:PA X [] (tA [] C true E Qem):=Qj9 QjE fun σ H Q ⟨F,ρ,τ,fp,I,r⟩=>r F H fp [] I .refl .nil
theorem Kd.QqX {F H F1 H1:Hp}{fp fp1:List Addr}{σ:L2.St}{v:L2.V}{d:D}{q:Bool}(ok:k.ona q=true)(h:k.fc C F H fp σ v d)(n:Nx q F H fp F1 H1 fp1):k.fc C F1 H1 fp1 σ v d:=by
 cases k with
 |V=>exact R.same n.f h
 |B=>exact R.same (n.g ok) h
 |O=>exact z54
 |S i=>exact h
theorem Qa (ha:PE X e (tX k C pa E m))(hr:PA X es (tA ks C pb E mr))(ok:k.ona pb=true:=by rfl)(hs:starEach (e::es) X.env=(false,eval e X.env)::starEach es X.env:=by rfl):PA X (e::es) (tA (k::ks) C (pa && pb) E (Q7 m mr)):=Qj9 (QgK ha hr hs) fun σ H Q ⟨F,ρ,τ,fp,I,r⟩=>
 ⟨F,ρ,τ,fp,I,r.split.mono fun r1 h1 F1 H1 fp1 v1 I1 n1 f1=>⟨F1,r1.2,_,fp1,I1,h1.split.mono fun r2 h2 F2 H2 fp2 vs I2 n2 f2=>
  h2 F2 H2 fp2 (v1::vs) I2 (n1.trans n2) (.cons (Kd.QqX ok f1 n2) f2)⟩⟩
def rdL:List Kd->Bool
 | []=>true
 |.V::r=>rdL r
 |.B::r=>rdL r
 |_=>false
def knL:List Kd->Bool
 | []=>true
 |.V::r=>knL r
 |_=>false
theorem Yv:∀{ks:List Kd} {vs:List L2.V} {ds:List D} {τ:List (L2.V×D)},rdL ks=true->tkL ks vs ds τ=τ
 | [],_,_,_,_=>by unfold tkL;rfl
 |.V::ks,[],_,_,_=>by unfold tkL;rfl
 |.V::ks,_::_,[],_,_=>by unfold tkL;rfl
 |.V::ks,v::vs,d::ds,τ,h=>by unfold tkL;exact Yv (ks:=ks) h
 |.B::ks,[],_,_,_=>by unfold tkL;rfl
 |.B::ks,_::_,[],_,_=>by unfold tkL;rfl
 |.B::ks,v::vs,d::ds,τ,h=>by unfold tkL;exact Yv (ks:=ks) h
 |.O::ks,_,_,_,h=>by cases h
 |.S i::ks,_,_,_,h=>by cases h
theorem FcL.rd {F H:Hp}{fp:List Addr}{σ:L2.St}{ρ:Rho}{τ:List (L2.V×D)}(I:SI C F H σ ρ τ fp){ks:List Kd}{vs:List L2.V}{ds:List D}(h:FcL C F H fp σ ks vs ds)(q:rdL ks=true):RL C.K (jn F H fp) vs ds:=by
 induction h with
 |nil=>exact .nil
 | @cons k _ _ _ _ _ h r ih=>
  cases k with
  |V=>exact .cons (R.tj I h) (ih q)
  |B=>exact .cons h (ih q)
  |O=>cases q
  |S _=>cases q
theorem FcL.kn {F H:Hp}{fp:List Addr}{σ:L2.St}{ks:List Kd}{vs:List L2.V}{ds:List D}(h:FcL C F H fp σ ks vs ds)(q:knL ks=true):RL C.K F vs ds:=by
 induction h with
 |nil=>exact .nil
 | @cons k _ _ _ _ _ h r ih=>
  cases k with
  |V=>exact .cons h (ih q)
  |B=>cases q
  |O=>cases q
  |S _=>cases q
theorem Qa0:∀{ks:List Kd},knL ks=true->rdL ks=true
 | [],_=>rfl
 |.V::ks,h=>Qa0 (ks:=ks) h
 |.B::ks,h=>by cases h
 |.O::ks,h=>by cases h
 |.S i::ks,h=>by cases h
def CallD (K:z00)(r:List L2.V->Hp->VK->Prop)(g:List D->Option D):Prop:=∀H vs ds res,RL K H vs ds->g ds=some res->∃w,res.sc=some w/\∀Q:VK,Q w H->r vs H Q
def Qen (g:List D->Option D)(mr:MA):ME:=fun ρ=>(mr ρ).bind fun r=>Rs.of ((g r.1).map fun d=>(d,r.2))
theorem Qm5 {r:List L2.V->Hp->VK->Prop}{g:List D->Option D}(hg:CallD C.K r g)(ok:rdL ks=true){σ:L2.St}{H:Hp}{Q:VK}(h:tX .V C p E (Qen g mr) σ H Q):tCB r (tA ks C p E mr) σ H Q:=by
 obtain⟨F,ρ,τ,fp,I,h⟩:=h
 refine⟨F,ρ,τ,fp,I,h.split.mono fun r1 h1 F1 H1 fp1 vs I1 n1 f1=>?_⟩
 rw[Yv ok] at I1
 obtain⟨z,ez,h3⟩:=h1.of
 obtain⟨res,eg,rfl⟩:=z03.mp ez
 obtain⟨w,ew,hw⟩:=hg H1 vs _ _ (RL.same (Vn I1.fh) (f1.rd I1 ok)) eg
 exact hw _ (h3 F1 H1 fp1 w I1 n1 (.sc ew))
theorem Qo {x:Str}{px:Pos}{id:String}{r:List L2.V->Hp->VK->Prop}{g:List D->Option D}(hc:Qaf X (.builtin id) r)(hg:CallD C.K r g)(hm:X.mg x=none)(hv:z74 x=some (.builtin id))(ha:PA X (e::es) (tA ks C p E mr))(ok:rdL ks=true:=by rfl)(hgl:Gl X x:=by rfl)(hn:x ≠ "__name__" := by decide)(hdb:@6=false:=by decide)
  (he:starEach (e::es) X.env=(false,eval e X.env)::starEach es X.env:=by rfl) (hpl:(backTo pos (starEach es X.env)).any (·.1)=false:=by rfl):PE X (.Call (.Name x px) (e::es) [] pos) (tX .V C p E (Qen g mr)):=
 Qp (Qhq hc hgl hm hv ha hn hdb he hpl) fun _ _ _ h=>Qm5 hg ok h
theorem Qme {x:Str}{px:Pos}{T:String}{r:List L2.V->Hp->VK->Prop}{g:List D->Option D}(hc:Qaf X (.type T) r)(hg:CallD C.K r g)(hm:X.mg x=none)(hv:z74 x=some (.type T))(ha:PA X (e::es) (tA ks C p E mr))(ok:rdL ks=true:=by rfl)(hgl:Gl X x:=by rfl)(hn:x ≠ "__name__" := by decide)(hdb:@6=false:=by decide)
  (he:starEach (e::es) X.env=(false,eval e X.env)::starEach es X.env:=by rfl) (hpl:(backTo pos (starEach es X.env)).any (·.1)=false:=by rfl):PE X (.Call (.Name x px) (e::es) [] pos) (tX .V C p E (Qen g mr)):=
 Qp (Qdi hc hgl hm hv ha hn hdb he hpl) fun _ _ _ h=>Qm5 hg ok h
theorem Qeo {F H:Hp}{fp:List Addr}{q:Addr}{o:HO}{σ:L2.St}{ρ:Rho}{τ:List (L2.V×D)}(I:SI C F H σ ρ τ fp)(hq:H q=none):Qu (jn F H fp) (jn (upd F q o) (upd H q o) fp):=fun b ob e=>by
 by_cases hb:b∈fp
 ·rw[Vo hb] at e ⊢;exact Qu.upd hq b ob e
 ·rw[Jy hb] at e ⊢;exact Qu.upd (I.fh.free hq) b ob e
theorem Qep {F H:Hp}{fp:List Addr}{q:Addr}{o:HO}{σ:L2.St}{ρ:Rho}{τ:List (L2.V×D)}(I:SI C F H σ ρ τ fp)(hq:H q=none):Qu (jn F H fp) (jn F (upd H q o) ([q]++fp)):=fun b ob e=>by
 have fq:=I.fh.free hq
 have e':=Vn I.fh b ob e
 have nb:b≠q:=Qx e' hq
 by_cases hb:b∈fp
 ·rw[Vo (z02 _ hb),Qk nb];exact e'
 ·rw[Jy hb] at e
  rw[Jy (by simp[hb,nb])];exact e
theorem SI.newList {F H:Hp}{fp:List Addr}{q:Addr}{vs:List L2.V}{ds:List D}{σ:L2.St}{ρ:Rho}{τ:List (L2.V×D)}(I:SI C F H σ ρ τ fp)(hq:H q=none)(r:RL C.K F vs ds)(hi:D.Jb ds=true):SI C F (upd H q (.lst vs)) σ ρ ((.ref q,.lst ds)::τ) ([q]++fp):=by
 have J:=I.lay0 (o:=.lst vs) hq
 have nq:q∉fp:=fun z=>by
  obtain⟨o,e,_⟩:=I.mem q z
  rw[hq] at e;cases e
 refine J.push (f:=[q]) (.mt (t:=.lst) (show upd H q (.lst vs) q=some (.lst vs) from Qs) (RL.o r hi)) (fun a ha=>?_) (fun a ha=>?_) (z09.mpr ⟨by simp,I.nd,fun x hx y hy z=>?_⟩)
 ·rw[z26.mp ha];exact I.dm q hq
 ·rw[z26.mp ha];exact I.fh.free hq
 ·subst z;rw[z26.mp hx] at hy;exact nq hy
def QpF (mr:MA):ME:=fun ρ=>(mr ρ).bind fun r=>if r.1.length<=z17 then .ok (.lst r.1,r.2) else .no
def Qs2 (mr:MA):ME:=fun ρ=>(mr ρ).bind fun r=>if r.1.length<=z17 then .ok (.tup r.1,r.2) else .no
def Qmf (mr:MA):ME:=fun ρ=>(mr ρ).bind fun r=>if r.1.length<=z17 then(if D.Jb r.1=true then .ok (.lst r.1,r.2) else .no) else .no
theorem QZ {x1:Nat}(h:PA X es (tA ks C p E mr))(ok:knL ks=true:=by rfl):PE X (.Tuple es x1 pos) (tX .V C p E (Qs2 mr)):=Qp (QmU h) fun σ H Q ⟨F,ρ,τ,fp,I,h⟩=>by
 refine⟨F,ρ,τ,fp,I,h.split.mono fun r1 h1 F1 H1 fp1 vs I1 n1 f1=>?_⟩
 rw[Yv (Qa0 ok)] at I1
 have rl:=f1.kn ok
 by_cases hz:r1.1.length<=z17
 ·rw[if_pos hz] at h1
  refine⟨by rw[rl.length];exact hz,fun q hq=>?_⟩
  have s:=Qu.upd (o:=HO.tup vs) (I1.fh.free hq)
  exact h1 _ _ fp1 _ (I1.lay hq) ((n1.trans (q:=true) ⟨s,fun _=>Qeo I1 hq⟩).weak fun z=>by simp[z]) (.nd (t:=.tup) Qs (rl.same s))
 ·rw[if_neg hz] at h1;exact h1.elim
theorem YT (h:PA X es (tA ks C p E mr))(ok:knL ks=true:=by rfl):PE X (.List es pos) (tX .V C p E (QpF mr)):=Qp (QjF h) fun σ H Q ⟨F,ρ,τ,fp,I,h⟩=>by
 refine⟨F,ρ,τ,fp,I,h.split.mono fun r1 h1 F1 H1 fp1 vs I1 n1 f1=>?_⟩
 rw[Yv (Qa0 ok)] at I1
 have rl:=f1.kn ok
 by_cases hz:r1.1.length<=z17
 ·rw[if_pos hz] at h1
  refine⟨by rw[rl.length];exact hz,fun q hq=>?_⟩
  have s:=Qu.upd (o:=HO.lst vs) (I1.fh.free hq)
  exact h1 _ _ fp1 _ (I1.lay hq) ((n1.trans (q:=true) ⟨s,fun _=>Qeo I1 hq⟩).weak fun z=>by simp[z]) (.nd (t:=.lst) (.inl (.inl Qs)) (rl.same s))
 ·rw[if_neg hz] at h1;exact h1.elim
theorem Qas (h:PA X es (tA ks C p E mr))(ok:rdL ks=true:=by rfl):PE X (.List es pos) (tX .O C p E (Qmf mr)):=Qp (QjF h) fun σ H Q ⟨F,ρ,τ,fp,I,h⟩=>by
 refine⟨F,ρ,τ,fp,I,h.split.mono fun r1 h1 F1 H1 fp1 vs I1 n1 f1=>?_⟩
 rw[Yv ok] at I1
 have rl:=f1.rd I1 ok
 by_cases hz:r1.1.length<=z17
 ·rw[if_pos hz] at h1
  by_cases hi:D.Jb r1.1=true
  ·rw[if_pos hi] at h1
   refine⟨by rw[rl.length];exact hz,fun q hq=>?_⟩
   have rl':RL C.K F1 vs r1.1:=by
    have q:=RL.lo (L:=fp1) (fun b hb o e=>by
     rw[Vo hb] at e
     obtain⟨o',e',z⟩:=I1.mem b hb
     rw[e] at e';cases e'
     exact z) rl hi
    refine q.same fun b o e=>?_
    by_cases hb:b∈fp1
    ·rw[QgX hb] at e;cases e
    ·rw[Qaq hb,Jy hb] at e;exact e
   exact h1 _ _ _ _ (I1.newList hq rl' hi) ((n1.trans (q:=true) ⟨Qu.refl _,fun _=>Qep I1 hq⟩).weak fun z=>by simp[z]) z54
  ·rw[if_neg hi] at h1;exact h1.elim
 ·rw[if_neg hz] at h1;exact h1.elim
theorem SI.loL {F H:Hp}{σ:L2.St}{ρ:Rho}{τ:List (L2.V×D)}{fp:List Addr}{vs:List L2.V}{ds:List D}(I:SI C F H σ ρ τ fp)(h:RL C.K (jn F H fp) vs ds)(hd:D.Jb ds=true):RL C.K F vs ds:=by
 have q:=RL.lo (L:=fp) (fun b hb o e=>by
  rw[Vo hb] at e
  obtain⟨o',e',z⟩:=I.mem b hb
  rw[e] at e';cases e'
  exact z) h hd
 refine q.same fun b o e=>?_
 by_cases hb:b∈fp
 ·rw[QgX hb] at e;cases e
 ·rw[Qaq hb,Jy hb] at e;exact e
noncomputable def Qi5:List D->Option (List D)
 | [.nd .lst ds]=>some ds
 | [.nd .tup ds]=>some ds
 |_=>none
theorem Qot {ds ys:List D}(h:Qi5 ds=some ys):ds=[.nd .lst ys]\/ds=[.nd .tup ys]:=by
 unfold Qi5 at h
 split at h
 ·cases h;exact .inl rfl
 ·cases h;exact .inr rfl
 ·cases h
theorem R.inv {K:z00}{F:Hp}{v:L2.V}{t:Tag}{ds:List D}(r:R K F v (.nd t ds)):∃a vs,v=.ref a/\At K F a t vs/\RL K F vs ds:=by
 cases r with
 |sc e=>cases e
 |nd h r=>exact⟨_,_,rfl,h,r⟩
theorem RL.one {K:z00}{F:Hp}{vs:List L2.V}{d:D}(r:RL K F vs [d]):∃v,vs=[v]/\R K F v d:=by
 cases r with
 |cons h t=>cases t;exact⟨_,rfl,h⟩
theorem RL.two {K:z00}{F:Hp}{vs:List L2.V}{d e:D}(r:RL K F vs [d,e]):∃v u,vs=[v,u]/\R K F v d/\R K F u e:=by
 cases r with
 |cons h t=>obtain⟨u,rfl,h'⟩:=t.one;exact⟨_,_,rfl,h,h'⟩
theorem QhI {K:z00}{H:Hp}{vs:List L2.V}{ds ys:List D}(r:RL K H vs ds)(g:Qi5 ds=some ys):∃q us,vs=[.ref q]/\(At K H q .lst us\/At K H q .tup us)/\RL K H us ys:=by
 rcases Qot g with rfl|rfl
 ·obtain⟨v,rfl,h⟩:=r.one
  obtain⟨a,us,rfl,h1,h2⟩:=h.inv
  exact⟨a,us,rfl,.inl h1,h2⟩
 ·obtain⟨v,rfl,h⟩:=r.one
  obtain⟨a,us,rfl,h1,h2⟩:=h.inv
  exact⟨a,us,rfl,.inr h1,h2⟩
theorem boot_list:z74 "list" = some (.type "list"):=by decide +kernel
theorem boot_tuple:z74 "tuple" = some (.type "tuple"):=by decide +kernel
def QhJ (mr:MA):ME:=fun ρ=>(mr ρ).bind fun r=>(Rs.of (Qi5 r.1)).bind fun ds=>if D.Jb ds=true then .ok (.lst ds,r.2) else .no
theorem Qdq {x:Str}{px:Pos}(hm:X.mg "list" = none)(hK:C.K=X.K)(ha:PA X [e] (tA ks C p E mr))(ok:rdL ks=true:=by rfl)(hgl:Gl X "list" := by rfl)(he:starEach [e] X.env=(false,eval e X.env)::starEach [] X.env:=by rfl)(hpl:(backTo pos (starEach [] X.env)).any (·.1)=false:=by rfl) :
  PE X (.Call (.Name "list" px) [e] [] pos) (tX .O C p E (QhJ mr)):=Qp (Qdi QfP hgl hm boot_list ha @1 @1 he hpl) fun σ H Q ⟨F,ρ,τ,fp,I,h⟩=>by
 refine⟨F,ρ,τ,fp,I,h.split.mono fun r1 h1 F1 H1 fp1 vs I1 n1 f1=>?_⟩
 rw[Yv ok] at I1
 obtain⟨ds,eg,h2⟩:=h1.split.of
 by_cases hi:D.Jb ds=true
 ·rw[if_pos hi] at h2
  obtain⟨q,us,rfl,hs,r⟩:=QhI (f1.rd I1 ok) eg
  have hs':SqL X.K H1 q us\/SqT X.K H1 q us:=by
   rw[← hK]
   exact hs.imp (fun z=>(At.same z (Vn I1.fh)).sql) fun z=>(At.same z (Vn I1.fh)).sqt
  refine⟨q,us,rfl,hs',fun l hl=>?_⟩
  exact h2 _ _ _ _ (I1.newList hl (I1.loL r hi) hi) ((n1.trans (q:=true) ⟨Qu.refl _,fun _=>Qep I1 hl⟩).weak fun z=>by simp[z]) z54
 ·rw[if_neg hi] at h2;exact h2.elim
def Qmg (mr:MA):ME:=fun ρ=>(mr ρ).bind fun r=>(Rs.of (Qi5 r.1)).bind fun ds=>.ok (.tup ds,r.2)
theorem Qc5 {px:Pos}(hm:X.mg "tuple" = none)(hK:C.K=X.K)(ha:PA X [e] (tA ks C p E mr))(ok:knL ks=true:=by rfl)(hgl:Gl X "tuple" := by rfl)(he:starEach [e] X.env=(false,eval e X.env)::starEach [] X.env:=by rfl)(hpl:(backTo pos (starEach [] X.env)).any (·.1)=false:=by rfl) :
  PE X (.Call (.Name "tuple" px) [e] [] pos) (tX .V C p E (Qmg mr)):=Qp (Qdi QeU hgl hm boot_tuple ha @1 @1 he hpl) fun σ H Q ⟨F,ρ,τ,fp,I,h⟩=>by
 refine⟨F,ρ,τ,fp,I,h.split.mono fun r1 h1 F1 H1 fp1 vs I1 n1 f1=>?_⟩
 rw[Yv (Qa0 ok)] at I1
 obtain⟨ds,eg,h2⟩:=h1.split.of
 obtain⟨q,us,rfl,hs,r⟩:=QhI (f1.kn ok) eg
 refine⟨q,us,rfl,?_⟩
 rcases hs with hs|hs
 ·refine .inl ⟨by rw[← hK];exact(At.same hs I1.fh).sql,fun l hl=>?_⟩
  have s:=Qu.upd (o:=HO.tup us) (I1.fh.free hl)
  exact h2 _ _ fp1 _ (I1.lay hl) ((n1.trans (q:=true) ⟨s,fun _=>Qeo I1 hl⟩).weak fun z=>by simp[z]) (.nd (t:=.tup) Qs (r.same s))
 ·exact .inr ⟨by rw[← hK];exact(At.same hs I1.fh).sqt,h2 F1 H1 fp1 _ I1 n1 (.nd (t:=.tup) hs r)⟩
def gIx:D->D->Option D
 |.nd .lst ds,.int i=>atI ds i
 |.nd .tup ds,.int i=>atI ds i
 |_,_=>none
theorem Qm6 {K:z00}{F:Hp}{vs:List L2.V}{ds:List D}{i:Int}{d:D}(r:RL K F vs ds)(h:atI ds i=some d):∃v,atI vs i=some v/\R K F v d:=by
 unfold atI at h ⊢
 rw[r.length]
 cases q:ixN ds.length i with
 |none=>rw[q] at h;cases h
 |some j=>
  rw[q] at h
  obtain⟨v,e,rv⟩:=r.get (i:=j) h
  exact⟨v,e,rv⟩
theorem QqY {d e x:D}(h:gIx d e=some x):∃ds i,(d=.nd .lst ds\/d=.nd .tup ds)/\e=.int i/\atI ds i=some x:=by
 unfold gIx at h
 split at h
 ·exact⟨_,_,.inl rfl,rfl,h⟩
 ·exact⟨_,_,.inr rfl,rfl,h⟩
 ·cases h
theorem QqZ {K:z00}{F H:Hp}{v u:L2.V}{d e x:D}(hs:Qu F H)(r:R K F v d)(q:R K H u e)(g:gIx d e=some x):∃w,R K F w x/\∀Q:VK,Q w H->rIx K v u H Q:=by
 obtain⟨ds,i,hd,rfl,ha⟩:=QqY g
 obtain rfl:u=.int i:=q.QK rfl
 rcases hd with rfl|rfl
 ·obtain⟨a,vs,rfl,h1,h2⟩:=r.inv
  obtain⟨w,ew,rw'⟩:=Qm6 h2 ha
  exact⟨w,rw',fun Q hq=>.inl ⟨a,vs,i,w,rfl,rfl,(At.same h1 hs).sql,ew,hq⟩⟩
 ·obtain⟨a,vs,rfl,h1,h2⟩:=r.inv
  obtain⟨w,ew,rw'⟩:=Qm6 h2 ha
  exact⟨w,rw',fun Q hq=>.inr (.inl ⟨a,vs,i,w,rfl,rfl,(At.same h1 hs).sqt,ew,hq⟩)⟩
theorem Qcs (hK:C.K=X.K)(ha:PE X a (tX ka C pa E ma))(hb:PE X b (tX kb C pb E mb))(ok:ka.on pb=true:=by rfl)(ok2:kb.on true=true:=by rfl)(hs:QeR b:=by intro _ _;rfl):PE X (.Subscript a b pos) (tX .B C (pa && pb) E (mOp gIx ma mb)):=Qp (QiM QjN ha hb hs) fun σ H Q ⟨F,ρ,τ,fp,I,h⟩=>by
 refine⟨F,ρ,τ,fp,I,h.split.mono fun r1 h1 F1 H1 fp1 v1 I1 n1 f1=>?_⟩
 rw[Kd.Yn ok] at I1
 refine⟨F1,r1.2,τ,fp1,I1,h1.split.mono fun r2 h2 F2 H2 fp2 v2 I2 n2 f2=>?_⟩
 rw[Kd.Yn ok2] at I2
 obtain⟨z,ez,h3⟩:=h2.of
 obtain⟨res,eg,rfl⟩:=z03.mp ez
 obtain⟨w,rw',hw⟩:=QqZ (Vn I2.fh) (Kd.stay ok f1 n2 I2) (R.top I2 (Kd.stay ok2 f2 .refl I2)) eg
 rw[← hK]
 exact hw _ (h3 F2 H2 fp2 w I2 (n1.trans n2) rw')
theorem QQ (hK:C.K=X.K)(ha:PE X a (tX .V C pa E ma))(hb:PE X b (tX kb C pb E mb))(ok2:kb.on true=true:=by rfl)(hs:QeR b:=by intro _ _;rfl):PE X (.Subscript a b pos) (tX .V C (pa && pb) E (mOp gIx ma mb)):=Qp (QiM QjN ha hb hs) fun σ H Q ⟨F,ρ,τ,fp,I,h⟩=>by
 refine⟨F,ρ,τ,fp,I,h.split.mono fun r1 h1 F1 H1 fp1 v1 I1 n1 f1=>?_⟩
 refine⟨F1,r1.2,τ,fp1,I1,h1.split.mono fun r2 h2 F2 H2 fp2 v2 I2 n2 f2=>?_⟩
 rw[Kd.Yn ok2] at I2
 obtain⟨z,ez,h3⟩:=h2.of
 obtain⟨res,eg,rfl⟩:=z03.mp ez
 obtain⟨w,rw',hw⟩:=QqZ I2.fh (R.same n2.f f1) (R.top I2 (Kd.stay ok2 f2 .refl I2)) eg
 rw[← hK]
 exact hw _ (h3 F2 H2 fp2 w I2 (n1.trans n2) rw')
end
inductive Fl where
 |nx|rt (d:D)|bk|ct
abbrev MS:=Rho->Rs (Fl×Rho)
def Qd5 (C:Cn)(E:XE){α:Type}(r:Rs α)(k:α->Prop):Prop:=match r with
 |.ok a=>k a
 |.ex c ρ=>∀F H σ fp,SI C F H σ ρ [] fp->E σ (.ref c) none H
 |.no=>False
section
variable {C:Cn}{E:XE}{σ:L2.St}{α β:Type}
theorem Qd5.run {r:Rs α}{k:α->Prop}(h:Qd5 C E r k):Run C E σ r k:=by
 cases r with
 |ok a=>exact h
 |ex c ρ=>exact fun F H fp I=>h F H σ fp I
 |no=>exact h
theorem Qd5.mono {r:Rs α}{k k':α->Prop}(h:Qd5 C E r k)(f:∀a,k a->k' a):Qd5 C E r k':=by
 cases r with
 |ok a=>exact f a h
 |ex c ρ=>exact h
 |no=>exact h
theorem Qd5.split {r:Rs α}{f:α->Rs β}{k:β->Prop}(h:Qd5 C E (r.bind f) k):Qd5 C E r fun a=>Qd5 C E (f a) k:=by
 cases r with
 |ok a=>exact h
 |ex c ρ=>exact h
 |no=>exact h
theorem Qd5.of {o:Option α}{k:α->Prop}(h:Qd5 C E (Rs.of o) k):∃a,o=some a/\k a:=by
 cases o with
 |none=>exact h.elim
 |some a=>exact⟨a,rfl,h⟩
end
def Out (rk:Kd)(C:Cn)(D:Ends)(F0:Hp)(f:Fl)(ρ:Rho):Prop:=match f with
 |.nx=>∀F H σ fp,Qu F0 F->SI C F H σ ρ [] fp->D.nx σ H
 |.rt d=>∀F H σ fp v,Qu F0 F->SI C F H σ ρ (rk.tk v d []) fp->rk.fc C F H fp σ v d->D.rt v H
 |.bk=>∀F H σ fp,Qu F0 F->SI C F H σ ρ [] fp->D.bk σ H
 |.ct=>∀F H σ fp,Qu F0 F->SI C F H σ ρ [] fp->D.ct σ H
theorem Out.mono {rk:Kd}{C:Cn}{D:Ends}{F0 F1:Hp}{f:Fl}{ρ:Rho}(s:Qu F0 F1)(h:Out rk C D F0 f ρ):Out rk C D F1 f ρ:=by
 cases f with
 |nx=>exact fun F H σ fp z=>h F H σ fp (s.trans z)
 |rt d=>exact fun F H σ fp v z=>h F H σ fp v (s.trans z)
 |bk=>exact fun F H σ fp z=>h F H σ fp (s.trans z)
 |ct=>exact fun F H σ fp z=>h F H σ fp (s.trans z)
def tS (rk:Kd)(C:Cn)(E:XE)(m:MS):TS:=fun D σ H=>∃F ρ fp,SI C F H σ ρ [] fp/\Qd5 C E (m ρ) fun r=>Out rk C D F r.1 r.2
section
variable {X:Cx}{C:Cn}{E:XE}{p:Bool}{e a b:Expr}{es:List Expr}{m mb:ME}{mr:MA}{mt:MT}{ms mu:MS}{pos:Pos}{k rk:Kd}{ks:List Kd}{st:Stmt}{rest:List Stmt}
def Qou:MS:=fun ρ=>.ok (.nx,ρ)
def Qi6 (m u:MS):MS:=fun ρ=>(m ρ).bind fun r=>match r.1 with
 |.nx=>u r.2
 |f=>.ok (f,r.2)
theorem Jm:PSs X [] (tS rk C E Qou):=Qc3 QnM fun D σ H ⟨F,ρ,fp,I,h⟩=>h F H σ fp (Qu.refl F) I
theorem Qg (h1:PS X st (tS rk C E ms))(h2:PSs X rest (tS rk C E mu)):PSs X (st::rest) (tS rk C E (Qi6 ms mu)):=Qc3 (Qho h1 h2) fun D σ H ⟨F,ρ,fp,I,h⟩=>by
 refine⟨F,ρ,fp,I,h.split.mono fun r hr=>?_⟩
 obtain⟨f,ρ1⟩:=r
 cases f with
 |nx=>exact fun F1 H1 σ1 fp1 s1 I1=>⟨F1,ρ1,fp1,I1,hr.mono fun q z=>z.mono s1⟩
 |rt d=>exact hr
 |bk=>exact hr
 |ct=>exact hr
theorem Qm (h1:PS X st (tS rk C E ms)):PSs X [st] (tS rk C E ms):=Qjt h1
def Qvk (m:ME):MS:=fun ρ=>(m ρ).bind fun r=>.ok (.rt r.1,r.2)
theorem QH (h:PE X e (tX rk C p E m)):PS X (.Return (some e) pos) (tS rk C E (Qvk m)):=Jl (Qp3 h) fun D σ H ⟨F,ρ,fp,I,h⟩=>
 ⟨F,ρ,[],fp,I,h.split.run.mono fun r hr F1 H1 fp1 v I1 n1 f1=>hr F1 H1 σ fp1 v n1.f I1 f1⟩
def Qkd (m:ME):MS:=fun ρ=>(m ρ).bind fun r=>.ok (.nx,r.2)
theorem Qat (h:PE X e (tX k C p E m))(ok:k.on true=true:=by rfl)(hs:swapsWith e none pos.line X.env=pure false:=by rfl):PS X (.Expr e pos) (tS rk C E (Qkd m)):=Jl (QeO h hs) fun D σ H ⟨F,ρ,fp,I,h⟩=>
 ⟨F,ρ,[],fp,I,h.split.run.mono fun r hr F1 H1 fp1 v I1 n1 f1=>by rw[Kd.Yn ok] at I1;exact hr F1 H1 σ fp1 n1.f I1⟩
def mIf (mt:MT)(m u:MS):MS:=fun ρ=>(mt ρ).bind fun r=>if r.1=true then m r.2 else u r.2
theorem Vp {c:Expr}{sa sb:List Stmt}(hc:PT X c (tT C p E mt))(ha:PSs X sa (tS rk C E ms))(hb:PSs X sb (tS rk C E mu)):PS X (.If c sa sb pos) (tS rk C E (mIf mt ms mu)):=Jl (Qti hc ha hb) fun D σ H ⟨F,ρ,fp,I,h⟩=>
 ⟨F,ρ,[],fp,I,h.split.run.mono fun r hr F1 H1 fp1 I1 n1=>by
  by_cases cc:r.1=true
  ·rw[if_pos cc] at hr ⊢;exact⟨F1,r.2,fp1,I1,hr.mono fun q z=>z.mono n1.f⟩
  ·rw[if_neg cc] at hr ⊢;exact⟨F1,r.2,fp1,I1,hr.mono fun q z=>z.mono n1.f⟩⟩
noncomputable def Qam (ρ:Rho)(i:Nat)(d:D):Option Rho:=match ρ[i]? with
 |some (some (.par _))=>none
 |some _=>some (ρ.set i (some (.frz d)))
 |none=>none
noncomputable def Qm7 (ρ:Rho)(i:Nat)(d:D):Option Rho:=match ρ[i]? with
 |some (some (.par _))=>none
 |some _=>some (ρ.set i (some (.own d)))
 |none=>none
theorem SI.Qam {F H:Hp}{σ:L2.St}{ρ ρ':Rho}{τ:List (L2.V×D)}{fp:List Addr}{i:Nat}{v:L2.V}{d:D}(I:SI C F H σ ρ τ fp)(r:R C.K F v d)(h:Qam ρ i d=some ρ'):∃fp',SI C F H (σ.set i (some v)) ρ' τ fp'/\∀a∈fp',a∈fp:=by
 unfold TL.Qam at h
 cases es:ρ[i]? with
 |none=>rw[es] at h;cases h
 |some s=>
  rw[es] at h
  obtain⟨x,f0,g0,rest,ex,s1,pm,w0,w1,cl⟩:=I.cut es
  have nd:=pm.nodup_iff.mp I.nd
  have fin:(∀v',(i,v')∈C.QgD->False)->∃fp',SI C F H (σ.set i (some v)) (ρ.set i (some (.frz d))) τ fp'/\∀a∈fp',a∈fp:=fun np=>
   ⟨_,cl (x':=some v) (s':=some (.frz d)) (f0':=[]) (g0':=[]) (Qu.refl F) I.fh (fun _ _=>rfl) (fun _ z=>z) (fun _ _ _ _ z=>z) (fun _ _ z=>.inl z) (.frz r) (z09.mp (z09.mp nd).2.1).2.1 (fun a ha=>I.ap a (pm.mem_iff.mpr (by simp at ha;simp[ha]))) @2 @2 (fun v' hv=>(np v' hv).elim),fun a ha=>pm.mem_iff.mpr (by simp at ha;simp[ha])⟩
  have np:∀(s0:Option Sl),s=s0->(∀q,s0≠some (.par q))->∀v',(i,v')∈C.QgD->False:=fun s0 e0 n0 v' hv=>by
   obtain⟨_,q,z⟩:=I.pr _ _ hv
   rw[es] at z
   cases z
   exact n0 q e0.symm
  cases s with
  |none=>cases h;exact fin (np none rfl fun q z=>nomatch z)
  |some s=>
   cases s with
   |frz d0=>cases h;exact fin (np _ rfl fun q z=>by cases z)
   |own d0=>cases h;exact fin (np _ rfl fun q z=>by cases z)
   |par d0=>cases h
theorem SI.Qm7 {F H:Hp}{σ:L2.St}{ρ ρ':Rho}{τ:List (L2.V×D)}{fp:List Addr}{i:Nat}{v:L2.V}{d:D}(I:SI C F H σ ρ ((v,d)::τ) fp)(h:Qm7 ρ i d=some ρ'):∃fp',SI C F H (σ.set i (some v)) ρ' τ fp':=by
 obtain⟨f,Qg0,o,pm0,J,h0,ap,nd0⟩:=I.pop
 unfold TL.Qm7 at h
 cases es:ρ[i]? with
 |none=>rw[es] at h;cases h
 |some s=>
  rw[es] at h
  obtain⟨x,f0,g0,rest,ex,s1,pm,w0,w1,cl⟩:=J.cut es
  have nd:=pm.nodup_iff.mp J.nd
  have ndr:=(z09.mp (z09.mp nd).2.1).2.1
  have inr:∀a∈rest,a∈Qg0:=fun a ha=>pm.mem_iff.mpr (by simp[ha])
  have fin:(∀v',(i,v')∈C.QgD->False)->∃fp',SI C F H (σ.set i (some v)) (ρ.set i (some (.own d))) τ fp':=fun np=>
   ⟨_,cl (x':=some v) (s':=some (.own d)) (f0':=f) (g0':=[]) (Qu.refl F) J.fh (fun _ _=>rfl) (fun _ z=>z) (fun _ _ _ _ z=>z) (fun _ _ z=>.inl z) (.own o) (z09.mpr ⟨(z09.mp nd0).1,ndr,fun a ha b hb z=>(z09.mp nd0).2.2 a ha b (inr b hb) z⟩) (fun a ha=>by
    rcases z05.mp ha with z|z
    ·exact ap a z
    ·exact J.ap a (inr a z)) h0 @2 (fun v' hv=>(np v' hv).elim)⟩
  have np:∀(s0:Option Sl),s=s0->(∀q,s0≠some (.par q))->∀v',(i,v')∈C.QgD->False:=fun s0 e0 n0 v' hv=>by
   obtain⟨_,q,z⟩:=I.pr _ _ hv
   rw[es] at z
   cases z
   exact n0 q e0.symm
  cases s with
  |none=>cases h;exact fin (np none rfl fun q z=>nomatch z)
  |some s=>
   cases s with
   |frz d0=>cases h;exact fin (np _ rfl fun q z=>by cases z)
   |own d0=>cases h;exact fin (np _ rfl fun q z=>by cases z)
   |par d0=>cases h
def Qi7 (i:Nat)(m:ME):MS:=fun ρ=>(m ρ).bind fun r=>(Rs.of (Qam r.2 i r.1)).bind fun ρ'=>.ok (.nx,ρ')
def Qmh (i:Nat)(m:ME):MS:=fun ρ=>(m ρ).bind fun r=>(Rs.of (Qm7 r.2 i r.1)).bind fun ρ'=>.ok (.nx,ρ')
theorem Qg1 {i:Nat}{D:Ends}{σ:L2.St}{H:Hp}(h:tS rk C E (Qi7 i m) D σ H):Qp4 (tX .V C p E m) (Vl i) D σ H:=by
 obtain⟨F,ρ,fp,I,h⟩:=h
 refine⟨F,ρ,[],fp,I,h.split.run.mono fun r hr F1 H1 fp1 v I1 n1 f1=>?_⟩
 obtain⟨ρ',e,h2⟩:=hr.split.of
 obtain⟨fp',J,_⟩:=SI.Qam I1 f1 e
 exact h2 F1 H1 _ fp' n1.f J
theorem Qke {i:Nat}{D:Ends}{σ:L2.St}{H:Hp}(h:tS rk C E (Qmh i m) D σ H):Qp4 (tX .O C p E m) (Vl i) D σ H:=by
 obtain⟨F,ρ,fp,I,h⟩:=h
 refine⟨F,ρ,[],fp,I,h.split.run.mono fun r hr F1 H1 fp1 v I1 n1 f1=>?_⟩
 obtain⟨ρ',e,h2⟩:=hr.split.of
 obtain⟨fp',J⟩:=SI.Qm7 (τ:=[]) I1 e
 exact h2 F1 H1 _ fp' n1.f J
theorem Qz {i:Nat}{x:Str}{pos':Pos}(hN:X.N.Nodup)(hi:X.N[i]? = some x)(hx:Loc X.env.scope x)(he:PE X e (tX .V C p E m))(hs:swapsWith e (some (.Name x pos')) pos.line X.env=pure false:=by rfl)(hf:X.fn x=true\/X.env.scope.names.lookup x=some .local:=by first|exact .inl rfl|exact .inr rfl|assumption) :
  PS X (.Assign [.Name x pos'] e pos) (tS rk C E (Qi7 i m)):=Jl (QmS hN hi hx he hs hf) fun _ _ _ h=>Qg1 h
theorem YW {i:Nat}{x:Str}{pos':Pos}(hN:X.N.Nodup)(hi:X.N[i]? = some x)(hx:Loc X.env.scope x)(he:PE X e (tX .O C p E m))(hs:swapsWith e (some (.Name x pos')) pos.line X.env=pure false:=by rfl)(hf:X.fn x=true\/X.env.scope.names.lookup x=some .local:=by first|exact .inl rfl|exact .inr rfl|assumption) :
  PS X (.Assign [.Name x pos'] e pos) (tS rk C E (Qmh i m)):=Jl (QmS hN hi hx he hs hf) fun _ _ _ h=>Qke h
def GD (C:Cn)(g:TG)(tg:D->Rho->Option Rho):Prop:=∀F H σ ρ τ fp x d ρ',SI C F H σ ρ τ fp->R C.K F x d->tg d ρ=some ρ'->∀Q:L2.St->Hp->Prop,(∀σ' fp',SI C F H σ' ρ' τ fp'->(∀a∈fp',a∈fp)->Q σ' H)->g x σ H Q
theorem JS {i:Nat}:GD C (Vl i) (fun d ρ=>Qam ρ i d):=fun F H σ ρ τ fp x d ρ' I r h Q hq=>by
 obtain⟨fp',J,s⟩:=SI.Qam I r h
 exact hq _ fp' J s
def Qjn (i j:Nat)(d:D)(ρ:Rho):Option Rho:=match d with
 |.nd .tup [x,y]=>(Qam ρ i x).bind fun ρ1=>Qam ρ1 j y
 |_=>none
theorem Qdr {i j:Nat}(hK:C.K=X.K):GD C (QnO X.K 2 (Qck (Vl i) (Qck (Vl j) QnN))) (Qjn i j):=fun F H σ ρ τ fp v d ρ' I r h Q hq=>by
 unfold Qjn at h
 split at h
 ·next x y=>
  obtain⟨a,vs,rfl,h1,h2⟩:=r.inv
  obtain⟨v1,v2,rfl,r1,r2⟩:=h2.two
  obtain⟨ρ1,e1,e2⟩:=z23.mp h
  obtain⟨fp1,J1,s1⟩:=SI.Qam I r1 e1
  obtain⟨fp2,J2,s2⟩:=SI.Qam J1 r2 e2
  refine⟨a,[v1,v2],rfl,by rw[← hK];exact(At.same h1 I.fh).sqt,rfl,v1,[v2],rfl,v2,[],rfl,rfl,?_⟩
  exact hq _ fp2 J2 (fun b hb=>s1 b (s2 b hb))
 ·cases h
structure ItD (K:z00)(F:Hp)(ds:List D)(J:It):Prop where
 go:∀{C:Cn} {F' H:Hp} {σ:L2.St} {ρ:Rho} {τ:List (L2.V×D)} {fp:List Addr} {i:Nat} {d:D},C.K=K->SI C F' H σ ρ τ fp->Qu F F'->ds[i]? = some d->J.go i H/\∀x H',J.yld i H x H'->∃F'',SI C F'' H' σ ρ τ fp/\Nx true F' H fp F'' H' fp/\R K F'' x d
 stop:∀{C:Cn} {F' H:Hp} {σ:L2.St} {ρ:Rho} {τ:List (L2.V×D)} {fp:List Addr},C.K=K->SI C F' H σ ρ τ fp->Qu F F'->J.stop ds.length H
def tI (C:Cn)(p:Bool)(E:XE)(mi:MA):TI:=fun σ H R=>∃F ρ τ fp,SI C F H σ ρ τ fp/\Run C E σ (mi ρ) fun r=>∀F' H' fp' J,SI C F' H' σ r.2 τ fp'->Nx p F H fp F' H' fp'->ItD C.K F' r.1 J->R J H'
theorem Qg2 {tg iter:Expr}{t t':TI}(h:PI X tg iter t)(k:∀σ H R,t' σ H R->t σ H R):PI X tg iter t':=fun pins s σ H R I q=>h pins s σ H R I (k _ _ _ q)
theorem Qkf {K:z00}{F:Hp}{a:Addr}{kd:Bool}{vs:List L2.V}{ds:List D}(h:At K F a (if kd then .lst else .tup) vs)(r:RL K F vs ds):ItD K F ds (Itb kd K a):=by
 have up:∀{F' H:Hp},Qu F F'->Qu F' H->SqB kd K H a vs:=fun s1 s2=>by
  cases kd with
  |true=>exact(At.same (t:=.lst) h (s1.trans s2)).sql
  |false=>exact(At.same (t:=.tup) h (s1.trans s2)).sqt
 refine⟨fun{C F' H σ ρ τ fp i d} hk I s e=>?_,fun{C F' H σ ρ τ fp} hk I s=>?_⟩
 ·obtain⟨v,ev,rv⟩:=r.get e
  have q:=up s I.fh
  cases kd with
  |true=>exact⟨⟨vs,v,q,ev⟩,fun x H' ⟨e1,y⟩=>by
    subst e1
    have z:=y vs q
    rw[ev] at z;cases z
    exact⟨F',I,.refl,rv.same s⟩⟩
  |false=>exact⟨⟨vs,v,q,ev⟩,fun x H' ⟨e1,y⟩=>by
    subst e1
    have z:=y vs q
    rw[ev] at z;cases z
    exact⟨F',I,.refl,rv.same s⟩⟩
 ·have q:=up s I.fh
  have l:=r.length
  cases kd with
  |true=>exact⟨vs,q,by lia⟩
  |false=>exact⟨vs,q,by lia⟩
def Qkg (m:ME):MA:=fun ρ=>(m ρ).bind fun r=>(Rs.of (Qi5 [r.1])).bind fun ds=>.ok (ds,r.2)
theorem Q8 {tg l:Expr}(hK:C.K=X.K)(hl:PE X l (tX .V C p E m)):PI X tg l (tI C p E (Qkg m)):=Qg2 (Qqt hl) fun σ H RR ⟨F,ρ,τ,fp,I,h⟩=>by
 refine⟨F,ρ,τ,fp,I,h.split.mono fun r hr F1 H1 fp1 v I1 n1 f1=>?_⟩
 obtain⟨ds,eg,h2⟩:=hr.split.of
 obtain⟨q,us,eq,hs,rl⟩:=QhI (.cons f1 .nil) eg
 cases eq
 rcases hs with hs|hs
 ·refine⟨q,true,rfl,⟨us,by rw[← hK];exact(At.same hs I1.fh).sql⟩,h2 F1 H1 fp1 _ I1 n1 ?_⟩
  rw[← hK]
  exact Qkf (kd:=true) hs rl
 ·refine⟨q,false,rfl,⟨us,by rw[← hK];exact(At.same hs I1.fh).sqt⟩,h2 F1 H1 fp1 _ I1 n1 ?_⟩
  rw[← hK]
  exact Qkf (kd:=false) hs rl
noncomputable def Qg3:List D->Option Int
 | [.int i]=>if -(2 ^ 62)<=i/\i<2 ^ 62 then some i else none
 |_=>none
def Qmi (mr:MA):MA:=fun ρ=>(mr ρ).bind fun r=>(Rs.of (Qg3 r.1)).bind fun n=>.ok ((z68 n.toNat).map fun j=>.int ((0:Int)+(j:Nat)),r.2)
theorem Qov {K:z00}{F:Hp}{lo:Int}{n:Nat}:ItD K F ((z68 n).map fun j=>.int (lo+(j:Nat))) (Itr lo n):=by
 refine⟨fun{C F' H σ ρ τ fp i d} hk I s e=>?_,fun{C F' H σ ρ τ fp} hk I s=>?_⟩
 ·rw[z22] at e
  obtain⟨j,ej,rfl⟩:=z03.mp e
  have hj:i<n/\j=i:=by
   rw[z25] at ej
   obtain⟨h1,h2⟩:=ej
   rw[zm5] at h2
   rw[z63] at h1
   exact⟨h1,h2.symm⟩
  refine⟨hj.1,fun x H' hz=>?_⟩
  obtain⟨e1,e2⟩:=hz
  subst e1 e2
  rw[hj.2]
  exact⟨F',I,.refl,.sc rfl⟩
 ·show n<=_
  rw[z01,z63]
  exact z24 _
theorem Qau {tg e:Expr}{px:Pos}(hm:X.mg "range" = none)(ha:PA X [e] (tA ks C p E mr))(ok:rdL ks=true:=by rfl)(hg:Gl X "range" := by rfl)(hs:starEach [e] X.env=[(false,eval e X.env)]:=by rfl):PI X tg (.Call (.Name "range" px) [e] [] pos) (tI C p E (Qmi mr)):=Qg2 (Qjw hg hm ha hs) fun σ H RR ⟨F,ρ,τ,fp,I,h⟩=>by
 refine⟨F,ρ,τ,fp,I,h.split.mono fun r hr F1 H1 fp1 vs I1 n1 f1=>?_⟩
 rw[Yv ok] at I1
 obtain⟨n,eg,h2⟩:=hr.split.of
 have rl:=f1.rd I1 ok
 unfold Qg3 at eg
 split at eg
 ·next i ed=>
  rw[ed] at rl
  obtain⟨v,rfl,rv⟩:=rl.one
  obtain rfl:=rv.QK (w:=.int i) rfl
  by_cases c : -(2 ^ 62)<=i/\i<2 ^ 62
  ·rw[if_pos c] at eg;cases eg
   exact⟨n,rfl,c.1,c.2,h2 F1 H1 fp1 _ I1 n1 Qov⟩
  ·rw[if_neg c] at eg;cases eg
 ·cases eg
def forL (tg:D->Rho->Option Rho)(mb:MS):List D->MS
 | []=>fun ρ=>.ok (.nx,ρ)
 |d::ds=>fun ρ=>(Rs.of (tg d ρ)).bind fun ρ1=>(mb ρ1).bind fun r=>match r.1 with
  |.nx=>forL tg mb ds r.2
  |.ct=>forL tg mb ds r.2
  |.bk=>.ok (.nx,r.2)
  |.rt d=>.ok (.rt d,r.2)
def Qs3 (mi:MA)(tg:D->Rho->Option Rho)(mb:MS):MS:=fun ρ=>(mi ρ).bind fun r=>forL tg mb r.1 r.2
theorem Qai {tg iter:Expr}{body:List Stmt}{mi:MA}{g:TG}{tgd:D->Rho->Option Rho}(hp:PassesOwn @4 X.A X.env X.xe)(hc:X.calm=true)(hi:PI X tg iter (tI C p E mi))(hg:PG X tg g)(gd:GD C g tgd)(hb:PSs X body (tS rk C E ms))
  (hs:∀x,foldedSetIterable iter X.env x=pure x:=by intro _;rfl):PS X (.For tg iter body [] pos) (tS rk C E (Qs3 mi tgd ms)):=Jl (Qp7 hp hc hi hg hb hs) fun D σ H ⟨F,ρ,fp,I,h⟩=>by
 refine⟨F,ρ,[],fp,I,h.split.run.mono fun r hr F1 H1 fp1 J I1 n1 it=>?_⟩
 refine⟨fun i m σ' H'=>m=r.1.length - i/\i<=r.1.length/\∃F' ρ' fp',SI C F' H' σ' ρ' [] fp'/\Qu F1 F'/\Qd5 C E (forL tgd ms (r.1.drop i) ρ') fun q=>Out rk C D F q.1 q.2,⟨r.1.length,by simp,zb8 _,F1,r.2,fp1,I1,Qu.refl _,by rw[zr4];exact hr⟩,?_⟩
 rintro i mm σ2 H2 ⟨rfl,hi2,F2,ρ2,fp2,I2,s2,k2⟩
 by_cases hlt:i<r.1.length
 ·obtain⟨d,ed⟩:∃d,r.1[i]? = some d:=⟨r.1[i],z04 hlt⟩
  obtain⟨g1,g2⟩:=it.go rfl I2 s2 ed
  have edr:r.1.drop i=d::r.1.drop (i+1):=by
   rw[z96 hlt]
   have:r.1[i]=d:=by rw[z04 hlt] at ed;exact z21 ed
   rw[this]
  rw[edr] at k2
  obtain⟨ρ3,e3,k3⟩:=k2.split.of
  refine .inr ⟨g1,fun σ' H'=>∃F' ρ' fp',SI C F' H' σ' ρ' [] fp'/\Qu F1 F'/\Qd5 C E (forL tgd ms (r.1.drop (i+1)) ρ') fun q=>Out rk C D F q.1 q.2,fun σ' H' z=>⟨_,by lia,rfl,hlt,z⟩,fun x H' y=>?_⟩
  obtain⟨F3,I3,n3,r3⟩:=g2 x H' y
  have s3:Qu F1 F3:=s2.trans n3.f
  refine gd F3 H' σ2 ρ2 [] fp2 x d ρ3 I3 r3 e3 _ fun σ' fp' I4 _=>⟨F3,ρ3,fp',I4,k3.split.mono fun q hq=>?_⟩
  obtain⟨f,ρ4⟩:=q
  have sF:Qu F F3:=n1.f.trans s3
  cases f with
  |nx=>exact fun F5 H5 σ5 fp5 s5 I5=>⟨F5,ρ4,fp5,I5,s3.trans s5,hq⟩
  |ct=>exact fun F5 H5 σ5 fp5 s5 I5=>⟨F5,ρ4,fp5,I5,s3.trans s5,hq⟩
  |bk=>exact fun F5 H5 σ5 fp5 s5 I5=>hq F5 H5 σ5 fp5 (sF.trans s5) I5
  |rt d=>exact fun F5 H5 σ5 fp5 v s5 I5 f5=>hq F5 H5 σ5 fp5 v (sF.trans s5) I5 f5
 ·have e:i=r.1.length:=by lia
  subst e
  rw[zo6] at k2
  exact .inl ⟨it.stop rfl I2 s2,k2 F2 H2 σ2 fp2 (n1.f.trans s2) I2⟩
def whl (mt:MT)(mb:MS):Nat->MS
 |0=>fun _=>.no
 |n+1=>fun ρ=>(mt ρ).bind fun r=>if r.1=true then(mb r.2).bind fun q=>match q.1 with
   |.nx=>whl mt mb n q.2
   |.ct=>whl mt mb n q.2
   |.bk=>.ok (.nx,q.2)
   |.rt d=>.ok (.rt d,q.2)
  else .ok (.nx,r.2)
def Qm8 (n:Nat)(mt:MT)(mb:MS):MS:=whl mt mb n
theorem Qkh {c:Expr}{body:List Stmt}{n:Nat}(hp:PassesOwn @4 X.A X.env X.xe)(hc:PT X c (tT C p E mt))(hb:PSs X body (tS rk C E ms)):PS X (.While c body [] pos) (tS rk C E (Qm8 n mt ms)):=Jl (QlL hp hc hb) fun D σ H ⟨F,ρ,fp,I,h⟩=>by
 refine⟨fun n σ' H'=>∃F' ρ' fp',SI C F' H' σ' ρ' [] fp'/\Qu F F'/\Qd5 C E (whl mt ms n ρ') fun q=>Out rk C D F q.1 q.2,⟨n,F,ρ,fp,I,Qu.refl F,h⟩,?_⟩
 rintro n σ2 H2 ⟨F2,ρ2,fp2,I2,s2,k2⟩
 cases n with
 |zero=>exact k2.elim
 |succ n=>
  refine⟨F2,ρ2,[],fp2,I2,k2.split.run.mono fun r hr F3 H3 fp3 I3 n3=>?_⟩
  by_cases cc:r.1=true
  ·rw[if_pos cc] at hr ⊢
   refine⟨fun σ' H'=>∃F' ρ' fp',SI C F' H' σ' ρ' [] fp'/\Qu F F'/\Qd5 C E (whl mt ms n ρ') fun q=>Out rk C D F q.1 q.2,fun σ' H' z=>⟨n,zp3 n,z⟩,F3,r.2,fp3,I3,hr.split.mono fun q hq=>?_⟩
   obtain⟨f,ρ4⟩:=q
   have sF:Qu F F3:=s2.trans n3.f
   cases f with
   |nx=>exact fun F5 H5 σ5 fp5 s5 I5=>⟨F5,ρ4,fp5,I5,sF.trans s5,hq⟩
   |ct=>exact fun F5 H5 σ5 fp5 s5 I5=>⟨F5,ρ4,fp5,I5,sF.trans s5,hq⟩
   |bk=>exact fun F5 H5 σ5 fp5 s5 I5=>hq F5 H5 σ5 fp5 (sF.trans s5) I5
   |rt d=>exact fun F5 H5 σ5 fp5 v s5 I5 f5=>hq F5 H5 σ5 fp5 v (sF.trans s5) I5 f5
  ·rw[if_neg cc] at hr ⊢
   exact hr F3 H3 σ2 fp3 (s2.trans n3.f) I3
end
noncomputable def mkS (par:Bool)(d:D):Sl:=if par then .par d else .own d
noncomputable def Qab (par:Bool)(ρ:Rho):List Nat->Option (List D)
 | []=>some []
 |i::is=>match ρ[i]? with
  |some (some (.own d))=>if par then none else(Qab par ρ is).map (d::·)
  |some (some (.par d))=>if par then(Qab par ρ is).map (d::·) else none
  |_=>none
noncomputable def Vq (par:Bool)(ρ:Rho):List Nat->List D->Rho
 |i::is,d::ds=>(Vq par ρ is ds).set i (some (mkS par d))
 |_,_=>ρ
theorem Qf1 {par:Bool}{ρ:Rho}{i:Nat}{is:List Nat}{ds:List D}(h:Qab par ρ (i::is)=some ds):∃d r,ds=d::r/\ρ[i]? = some (some (mkS par d))/\Qab par ρ is=some r:=by
 unfold Qab at h
 split at h
 ·next d e=>
  cases par with
  |true=>cases h
  |false=>
   obtain⟨r,hr,rfl⟩:=z03.mp h
   exact⟨d,r,rfl,e,hr⟩
 ·next d e=>
  cases par with
  |false=>cases h
  |true=>
   obtain⟨r,hr,rfl⟩:=z03.mp h
   exact⟨d,r,rfl,e,hr⟩
 ·cases h
theorem QhK {par:Bool}{ρ:Rho}{i:Nat}{s:Option Sl}:∀{is:List Nat},i∉is->Qab par (ρ.set i s) is=Qab par ρ is
 | [],_=>rfl
 |j::is,h=>by
  have n:i≠j:=fun e=>h (e▸z07)
  unfold Qab
  rw[z60 n,QhK fun z=>h (z08 _ z)]
theorem QhL {par:Bool}{ρ:Rho}{i:Nat}{s:Option Sl}:∀{is:List Nat} {ds:List D},i∉is->Vq par (ρ.set i s) is ds=(Vq par ρ is ds).set i s
 | [],_,_=>by unfold Vq;rfl
 |j::is,[],_=>by unfold Vq;rfl
 |j::is,d::ds,h=>by
  have n:i≠j:=fun e=>h (e▸z07)
  unfold Vq
  rw[QhL fun z=>h (z08 _ z),List.set_comm _ _ (fun e=>n e)]
theorem QhM {par:Bool}{ρ:Rho}{i:Nat}:∀{is:List Nat} {ds:List D},i∉is->(Vq par ρ is ds)[i]? = ρ[i]?
 | [],_,_=>by unfold Vq;rfl
 |j::is,[],_=>by unfold Vq;rfl
 |j::is,d::ds,h=>by
  have n:j≠i:=fun e=>h (e▸z07)
  unfold Vq
  rw[z60 n,QhM fun z=>h (z08 _ z)]
theorem QhN {par:Bool}{ρ:Rho}:∀{is:List Nat} {ds:List D},(Vq par ρ is ds).length=ρ.length
 | [],_=>by unfold Vq;rfl
 |j::is,[]=>by unfold Vq;rfl
 |j::is,d::ds=>by unfold Vq;rw[z98,QhN]
inductive Sig (σ:L2.St):List Nat->List L2.V->Prop
 |nil:Sig σ [] []
 |cons {i:Nat} {v:L2.V} {is:List Nat} {vs:List L2.V} (h:σ[i]? = some (some v)) (r:Sig σ is vs):Sig σ (i::is) (v::vs)
def Vz (C:Cn)(par:Bool)(a:Addr):Prop:=C.H₀ a=none\/(par=true/\a∈C.A)
section
variable {C:Cn}{F H:Hp}{σ:L2.St}{ρ:Rho}{τ:List (L2.V×D)}{fp:List Addr}{par:Bool}
theorem SI.QtN (I:SI C F H σ ρ τ fp):SI { C with QgD:=[]} F H σ ρ τ fp:=⟨I.sl,I.nd,I.ap,I.fh,I.f0,I.fn,I.kp,I.dm,fun _ _ z=>nomatch z⟩
theorem SI.Qq0 (hp:C.QgD=[]):∀{is:List Nat} {ρ:Rho} {fp:List Addr} {ds:List D},is.Nodup->SI C F H σ ρ τ fp->Qab par ρ is=some ds->∃vs f rest,Sig σ is vs/\OL C.K F H vs ds f/\fp.Perm (f++rest)/\(∀a∈f,Vz C par a)/\
  ∀{F' H':Hp} {f':List Addr} {ds':List D},Qu F F'->Qu F' H'->(∀a∈rest,H' a=H a)->(∀b,H' b=none->H b=none)->(∀b o,C.H₀ b=some o->b∉C.A->H b=some o->H' b=some o)->(∀b o,F' b=some o->F b=some o\/Nw C.H₀ b o)->
   OL C.K F' H' vs ds' f'->(f'++rest).Nodup->(∀a∈f'++rest,F' a=none)->(∀a∈f',Vz C par a)->SI C F' H' σ (Vq par ρ is ds') τ (f'++rest)
 | [],ρ,fp,ds,_,I,h=>by
  cases h
  refine⟨[],[],fp,.nil,.nil,by simp,@2,fun{F' H' f' ds'} sf fh hk dm kp fn ol nd ap fr=>?_⟩
  cases ol
  exact I.step sf fh hk (fun a ha=>ap a ha) fn kp dm
 |i::is,ρ,fp,ds,nd,I,h=>by
  obtain⟨ni,nd'⟩:=z72.mp nd
  obtain⟨d,r,rfl,es,hr⟩:=Qf1 h
  obtain⟨x,f0,g0,Qq1,ex,s1,pm,w0,w1,cl⟩:=I.cut es
  have ndp:=pm.nodup_iff.mp I.nd
  have Qow:∀v,(i,v)∈C.QgD->False:=fun v hv=>by rw[hp] at hv;exact nomatch hv
  obtain⟨v,fi,ev,hv,efi,wfi⟩:∃v fi,x=some v/\O C.K F H v d fi/\f0++g0=fi/\∀a∈fi,Vz C par a:=by
   cases par with
   |false=>cases s1 with|own h=>exact⟨_,_,rfl,h,by simp,fun a ha=>.inl (w0 a ha)⟩
   |true=>cases s1 with|par h=>exact⟨_,_,rfl,h,rfl,fun a ha=>(w1 a ha).elim (fun z=>.inr ⟨rfl,z⟩) fun z=>.inl z⟩
  subst ev
  have Qwa:Qq1.Nodup:=(z09.mp (z09.mp ndp).2.1).2.1
  have I1:=cl (x':=some v) (s':=none) (f0':=[]) (g0':=[]) (Qu.refl F) I.fh (fun _ _=>rfl) (fun _ z=>z) (fun _ _ _ _ z=>z) (fun _ _ z=>.inl z) .non Qwa (fun a ha=>I.ap a (pm.mem_iff.mpr (by simp at ha;simp[ha]))) @2 @2 (fun v' hv'=>(Qow v' hv').elim)
  rw[JC ex] at I1
  obtain⟨vs,f2,Qd6,sg,ol,pm2,w2,cl2⟩:=SI.Qq0 hp nd' I1 (by rw[QhK ni];exact hr)
  have Qwb:Qq1.Perm (f2++Qd6):=pm2
  have pmf:fp.Perm ((fi++f2)++Qd6):=by
   refine pm.trans ?_
   rw[← z20,efi,z20]
   exact Qwb.append_left fi
  refine⟨v::vs,fi++f2,Qd6,.cons ex sg,.cons hv ol,pmf,fun a ha=>(z05.mp ha).elim (wfi a) (w2 a),fun{F' H' f' ds'} sf fh hk dm kp fn ol' nd2 ap fr=>?_⟩
  cases ol' with
  | @cons _ d' _ Qq2 fa fb oa ob=>
   have nd3:(fa++(fb++Qd6)).Nodup:=by rw[← z20];exact nd2
   have I2:=cl2 sf fh hk dm kp fn ob (z09.mp nd3).2.1 (fun a ha=>ap a (by rw[z20];exact z02 _ ha)) (fun a ha=>fr a (z02 _ ha))
   have li:i<ρ.length:=(z25.mp es).1
   have en:(Vq par (ρ.set i none) is Qq2)[i]? = some none:=by rw[QhM ni,z87 li]
   obtain⟨x3,f3,g3,Qi0,ex3,s3,pm3,_,_,cl3⟩:=I2.cut en
   cases s3
   have QtO:(fb++Qd6).Perm Qi0:=pm3
   have nd4:(fa++Qi0).Nodup:=(QtO.append_left fa).nodup_iff.mp nd3
   have ap4:∀a∈fa++Qi0,F' a=none:=fun a ha=>ap a (by
    rw[z20]
    rcases z05.mp ha with z|z
    ·exact z06 _ z
    ·exact z02 _ (QtO.mem_iff.mpr z))
   have eρ:(Vq par (ρ.set i none) is Qq2).set i (some (mkS par d'))=Vq par ρ (i::is) (d'::Qq2):=by
    rw[QhL ni,List.set_set]
    rfl
   have pmx:(fa++Qi0).Perm ((fa++fb)++Qd6):=by rw[z20];exact QtO.symm.append_left fa
   have fra:∀a∈fa,Vz C par a:=fun a ha=>fr a (z06 _ ha)
   rw[← eρ]
   cases par with
   |false=>
    have J:=cl3 (F':=F') (H':=H') (x':=some v) (s':=some (.own d')) (f0':=fa) (g0':=[]) (Qu.refl _) fh (fun _ _=>rfl) (fun _ z=>z) (fun _ _ _ _ z=>z) (fun _ _ z=>.inl z) (.own oa) nd4 ap4 (fun a ha=>(fra a ha).resolve_right fun z=>nomatch z.1) @2 (fun v' hv'=>(Qow v' hv').elim)
    rw[JC ex] at J
    exact J.perm pmx
   |true=>
    have J:=cl3 (F':=F') (H':=H') (x':=some v) (s':=some (.par d')) (f0':=[]) (g0':=fa) (Qu.refl _) fh (fun _ _=>rfl) (fun _ z=>z) (fun _ _ _ _ z=>z) (fun _ _ z=>.inl z) (.par oa) nd4 ap4 @2 (fun a ha=>(fra a ha).elim (fun z=>.inr z) fun z=>.inl z.2) (fun v' hv'=>(Qow v' hv').elim)
    rw[JC ex] at J
    exact J.perm pmx
theorem SI.lend {is:List Nat}{ds:List D}(nd:is.Nodup)(I:SI C F H σ ρ τ fp)(h:Qab par ρ is=some ds):∃vs f rest,Sig σ is vs/\OL C.K F H vs ds f/\fp.Perm (f++rest)/\(∀a∈f,Vz C par a)/\
  ∀{F' H':Hp} {f':List Addr} {ds':List D},Qu F F'->Qu F' H'->(∀a∈rest,H' a=H a)->(∀b,H' b=none->H b=none)->(∀b o,C.H₀ b=some o->b∉C.A->H b=some o->H' b=some o)->(∀b o,F' b=some o->F b=some o\/Nw C.H₀ b o)->
   OL C.K F' H' vs ds' f'->(f'++rest).Nodup->(∀a∈f'++rest,F' a=none)->(∀a∈f',Vz C par a)->SI C F' H' σ (Vq par ρ is ds') τ (f'++rest):=by
 obtain⟨vs,f,rest,sg,ol,pm,w,cl⟩:=SI.Qq0 (C:={ C with QgD:=[]}) rfl nd I.QtN h
 refine⟨vs,f,rest,sg,ol,pm,w,fun{F' H' f' ds'} sf fh hk dm kp fn ol' nd2 ap fr=>?_⟩
 have J:=cl sf fh hk dm kp fn ol' nd2 ap fr
 refine⟨J.sl,J.nd,J.ap,J.fh,J.f0,J.fn,J.kp,J.dm,fun j v hj=>?_⟩
 obtain⟨p1,d,p2⟩:=I.pr j v hj
 refine⟨p1,?_⟩
 have len:ds'.length=is.length:=by
  have e1:vs.length=is.length:=by
   have:∀{is:List Nat} {vs:List L2.V},Sig σ is vs->vs.length=is.length:=by
    intro is vs s
    induction s with
    |nil=>rfl
    |cons _ _ ih=>rw[z27,z27,ih]
   exact this sg
  rw[← ol'.length,e1]
 have go:∀{is:List Nat} {ds ds':List D},is.Nodup->Qab par ρ is=some ds->ds'.length=is.length->∃d,(Vq par ρ is ds')[j]? = some (some (.par d)):=by
  intro is
  induction is with
  |nil=>intro ds ds' _ _ _;unfold Vq;exact⟨d,p2⟩
  |cons i is ih=>
   intro ds ds' nd h l
   obtain⟨ni,nd'⟩:=z72.mp nd
   obtain⟨d0,r,rfl,es,hr⟩:=Qf1 h
   cases ds' with
   |nil=>cases l
   |cons d' Qq2=>
    unfold Vq
    by_cases e:i=j
    ·subst e
     have li:i<(Vq par ρ is Qq2).length:=by rw[QhN];exact(z25.mp es).1
     rw[z87 li]
     rw[p2] at es
     cases par with
     |false=>cases es
     |true=>exact⟨d',rfl⟩
    ·rw[z60 e]
     exact ih nd' hr (by simpa using l)
 exact go nd h len
end
inductive Fr where
 |ok (r:D) (outs:List D)
 |ex (c:Addr)
 |no
inductive AL (K:z00) (F H:Hp):List Bool->List L2.V->List D->List Addr->Prop
 |nil:AL K F H [] [] [] []
 |val {v:L2.V} {d:D} {io:List Bool} {vs:List L2.V} {ds:List D} {fp:List Addr} (h:R K F v d) (r:AL K F H io vs ds fp):AL K F H (false::io) (v::vs) (d::ds) fp
 |io {v:L2.V} {d:D} {io:List Bool} {vs:List L2.V} {ds:List D} {f fp:List Addr} (h:O K F H v d f) (r:AL K F H io vs ds fp):AL K F H (true::io) (v::vs) (d::ds) (f++fp)
def ioV:List Bool->List L2.V->List L2.V
 |true::io,v::vs=>v::ioV io vs
 |false::io,_::vs=>ioV io vs
 |_,_=>[]
def RkF (rk:Kd)(K:z00)(F H:Hp)(v:L2.V)(d:D)(f:List Addr):Prop:=match rk with
 |.V=>R K F v d/\f=[]
 |.O=>O K F H v d f
 |_=>False
def spF (K:z00)(io:List Bool)(rk:Kd)(m:List D->Fr):Sp:=fun vs H Q E=>∃F ds fp,AL K F H io vs ds fp/\fp.Nodup/\(∀a∈fp,F a=none)/\Qu F H/\match m ds with
 |.ok r outs=>∀F' H' v fr fo,Qu F F'->Qu F' H'->(∀b o,F' b=some o->F b=some o\/Nw H b o)->(∀b o,H b=some o->b∉fp->H' b=some o)->(∀b,H' b=none->H b=none)->RkF rk K F' H' v r fr->OL K F' H' (ioV io vs) outs fo->
   (fr++fo).Nodup->(∀a∈fr++fo,F' a=none)->(∀a∈fr,H a=none)->(∀a∈fo,a∈fp\/H a=none)->Q v H'
 |.ex c=>∀H',(∀b o,H b=some o->b∉fp->H' b=some o)->(∀b,H' b=none->H b=none)->E (.ref c) none H'
 |.no=>False
theorem AL.len {K:z00}{F H:Hp}{io:List Bool}{vs:List L2.V}{ds:List D}{fp:List Addr}(h:AL K F H io vs ds fp):vs.length=io.length:=by
 induction h with
 |nil=>rfl
 |val _ _ ih=>rw[z27,z27,ih]
 |io _ _ ih=>rw[z27,z27,ih]
def kdOf:Option Nat->Kd
 |none=>.V
 |some i=>.S i
noncomputable def Qjo:List (Option Nat)->List D->List D->List D
 |none::as,d::ds,l=>d::Qjo as ds l
 |some _::as,_::ds,x::l=>x::Qjo as ds l
 |_,_,_=>[]
def Qf2 (par:Bool)(as:List (Option Nat))(f:List D->Fr)(mr:MA):ME:=fun ρ=>(mr ρ).bind fun r=>(Rs.of (Qab par r.2 (as.filterMap id))).bind fun dis=>match f (Qjo as r.1 dis) with
 |.ok d outs=>.ok (d,Vq par r.2 (as.filterMap id) outs)
 |.ex c=>if(as.filterMap id).isEmpty=true then .ex c r.2 else .no
 |.no=>.no
def Qa8 (X:Cx)(E:XE):Prop:=∀(pins:List @11) (σ:L2.St) (H:Hp) (s:Shared) (e:Value) (s':Shared),Inv X pins σ H s->CXe X.prog X.w X.stack H s (E σ) e s'->X.xe e s'
def Qki (sp:Sp)(E:XE)(t:TA):TE:=fun σ H Q=>t σ H fun vs H1=>sp vs H1 Q (E σ)
section
variable {X:Cx}{C:Cn}{E:XE}{p pa:Bool}{e a b:Expr}{es:List Expr}{m:ME}{mr:MA}{pos:Pos}{rk:Kd}{ks:List Kd}{n:Nat}{ps:List Str}{sp:Sp}{x:Str}{px:Pos}{t:TA}
theorem Qg4 {f:Addr}{fd:FuncData}{pins:List @11}{σ:L2.St}{H:Hp}{s:Shared}{Q:VK}{us:List Value}{vs:List L2.V}(F:Qeh X.prog X.w X.K X.mg X.base (CXe X.prog X.w) n f fd ps sp)(hr:Qag n X.A)(hb:Binds X.K fd ps [])(hx:Qa8 X E)
  (I:Inv X pins σ H s) (r:Vals vs us) (h:sp vs H Q (E σ)):wpAny @4 X.A (call (.ref f) us) (EP X pins σ Q) X.xe s:=by
 have hl:(us++[]).length=ps.length:=by rw[z52,← r.length];exact F.len _ _ _ _ h
 have hb':=hb s us I.kIn hl
 rw[z52] at hb'
 refine zv3 (zq8 (F.run X.A X.stack s H ⟨us,[]⟩ us vs Q (E σ) hr I.env0 hb' r h) fun r s' hq=>?_)
 cases r with
 |error e=>exact hx pins σ H s e s' I hq
 |ok fl=>
  cases fl with
  |ret u=>exact I.after hq
  |next=>exact zc8 hq
  |brk=>exact zc8 hq
  |cont=>exact zc8 hq
theorem Qm9 (D:Qcq X.prog X.w X.K X.mg X.base n x ps sp)(hx:Qa8 X E)(hr:Qag n X.A)(ha:PA X (e::es) t)(hg:Gl X x:=by rfl)
  (hdb:@6=false:=by decide) (he:starEach (e::es) X.env=(false,eval e X.env)::starEach es X.env:=by rfl) (hpl:(backTo pos (starEach es X.env)).any (·.1)=false:=by rfl) :
  PE X (.Call (.Name x px) (e::es) [] pos) (Qki sp E t):=by
 obtain⟨f,fd,F,hm,hk,hb⟩:=D.ex
 intro pins s σ H Q I h
 refine zf9 (Qdb I hg hm ?_ hdb)
 refine zk8 (h₀:=X.base) I.ok.mod.kin hk (thn (ha pos pins s σ H _ I h) fun us s1 hz=>?_) he hpl
 obtain⟨vs,H1,I1,r,q⟩:=hz
 refine⟨I1.kIn,?_⟩
 exact Qg4 F hr hb hx I1 r q
theorem Qkj:∀{as:List (Option Nat)} {vs:List L2.V} {ds:List D} {τ:List (L2.V×D)},tkL (as.map kdOf) vs ds τ=τ
 | [],_,_,_=>by unfold tkL;rfl
 |none::as,[],_,_=>by unfold tkL;rfl
 |none::as,_::_,[],_=>by unfold tkL;rfl
 |none::as,v::vs,d::ds,τ=>by
  show tkL (Kd.V::as.map kdOf) (v::vs) (d::ds) τ=τ
  unfold tkL;exact Qkj
 |some i::as,[],_,_=>by unfold tkL;rfl
 |some i::as,_::_,[],_=>by unfold tkL;rfl
 |some i::as,v::vs,d::ds,τ=>by
  show tkL (Kd.S i::as.map kdOf) (v::vs) (d::ds) τ=τ
  unfold tkL;exact Qkj
theorem QtP {F H:Hp}{fp:List Addr}{σ:L2.St}:∀{as:List (Option Nat)} {vs:List L2.V} {ds:List D} {vi:List L2.V} {di:List D} {f:List Addr},FcL C F H fp σ (as.map kdOf) vs ds->Sig σ (as.filterMap id) vi->OL C.K F H vi di f->
  AL C.K F H (as.map (·.isSome)) vs (Qjo as ds di) f/\ioV (as.map (·.isSome)) vs=vi:=by
 intro as
 induction as with
 |nil=>intro _ _ _ _ _ h1 h2 h3;cases h1;cases h2;cases h3;exact⟨.nil,rfl⟩
 |cons a as ih=>
  intro _ _ vi di f h1 sg ol
  cases a with
  |none=>
   have h1:FcL C F H fp σ (_::as.map kdOf) _ _:=h1
   cases h1 with
   |cons h r=>
    obtain⟨q1,q2⟩:=ih r sg ol
    exact⟨.val h q1,q2⟩
  |some i=>
   have h1:FcL C F H fp σ (_::as.map kdOf) _ _:=h1
   have sg2:Sig σ (i::as.filterMap id) vi:=sg
   cases h1 with
   |cons h r=>cases sg2 with
    |cons e sg3=>cases ol with
     |cons o ol=>
      obtain⟨q1,q2⟩:=ih r sg3 ol
      have ev:=z21 (z21 (Eq.trans (Eq.symm (show σ[i]? = some (some _) from h)) e))
      subst ev
      exact⟨.io o q1,congrArg _ q2⟩
theorem Qmj {par:Bool}{as:List (Option Nat)}{f:List D->Fr}(nd:(as.filterMap id).Nodup)(hrk:rk=.V\/rk=.O)(hp:p=true->(as.filterMap id)=[]){σ:L2.St}{H:Hp}{Q:VK}(h:tX rk C (pa && p) E (Qf2 par as f mr) σ H Q) :
  Qki (spF C.K (as.map (·.isSome)) rk f) E (tA (as.map kdOf) C pa E mr) σ H Q:=by
 obtain⟨F,ρ,τ,fp,I,h⟩:=h
 refine⟨F,ρ,τ,fp,I,h.split.mono fun r hr F1 H1 fp1 vs I1 n1 f1=>?_⟩
 rw[Qkj] at I1
 obtain⟨dis,eg,h2⟩:=hr.split.of
 obtain⟨vi,fl,rest,sg,ol,pm,w,cl⟩:=I1.lend nd eg
 obtain⟨al,eio⟩:=QtP f1 sg ol
 have ndp:=pm.nodup_iff.mp I1.nd
 have inl:∀a∈fl,a∈fp1:=fun a ha=>pm.mem_iff.mpr (z06 _ ha)
 have inr:∀a∈rest,a∈fp1:=fun a ha=>pm.mem_iff.mpr (z02 _ ha)
 have Qvl:∀a∈rest,a∉fl:=fun a ha hf=>(z09.mp ndp).2.2 a hf a ha rfl
 refine⟨F1,_,fl,al,(z09.mp ndp).1,fun a ha=>I1.ap a (inl a ha),I1.fh,?_⟩
 cases ef:f (Qjo as r.1 dis) with
 |no=>rw[ef] at h2;exact h2
 |ex c=>
  rw[ef] at h2
  dsimp only at h2 ⊢
  intro H' kp' dm'
  by_cases hem:(as.filterMap id).isEmpty=true
  ·rw[if_pos hem] at h2
   have e0:as.filterMap id=[]:=by simpa using hem
   have ef0:fl=[]:=by
    rw[e0] at sg
    cases sg
    cases ol
    rfl
   subst ef0
   have J:SI C F1 H' σ r.2 τ fp1:=I1.step (Qu.refl _) (fun b o e=>kp' b o (I1.fh b o e) @9) (fun a ha=>by
    obtain⟨o,e,_⟩:=I1.mem a ha
    rw[e,kp' a o e @9]) I1.ap (fun _ _ z=>.inl z) (fun b o _ _ e=>kp' b o e @9) dm'
   obtain⟨fp2,J2⟩:=J.drop
   exact h2 F1 H' fp2 J2
  ·rw[if_neg hem] at h2;exact h2.elim
 |ok d outs=>
  rw[ef] at h2
  dsimp only at h2 ⊢
  intro F' H' v fr fo sF fh' fn' kp' dm' rf ol' nd' ap' frn fon
  rw[eio] at ol'
  have hrest:∀a∈rest,H' a=H1 a:=fun a ha=>by
   obtain⟨o,e,_⟩:=I1.mem a (inr a ha)
   rw[e,kp' a o e (Qvl a ha)]
  have Qd7:∀a∈fp1,H1 a≠none:=fun a ha z=>by
   obtain⟨o,e,_⟩:=I1.mem a ha
   rw[z] at e;cases e
  have apr:∀a∈rest,F' a=none:=fun a ha=>by
   cases e:F' a with
   |none=>rfl
   |some o=>
    rcases fn' a o e with z|z
    ·rw[I1.ap a (inr a ha)] at z;cases z
    ·obtain⟨o2,e2,m2⟩:=I1.mem a (inr a ha)
     exact(z.not (Qd7 a (inr a ha)) (fh' a o e) ((hrest a ha).trans e2) m2).elim
  have QtQ:=z09.mp nd'
  have QtR:∀a∈fo,a∉rest:=fun a ha hr=>by
   rcases fon a ha with z|z
   ·exact Qvl a hr z
   ·exact Qd7 a (inr a hr) z
  have J:=cl sF fh' hrest dm' (fun b o e n z=>kp' b o z fun hb=>by
   rcases w b hb with y|y
   ·rw[y] at e;cases e
   ·exact n y.2) (fun b o e=>(fn' b o e).imp id fun z=>z.up fun y=>I1.dm b y) ol' (z09.mpr ⟨QtQ.2.1,(z09.mp ndp).2.1,fun a ha b hb z=>QtR a ha (z▸hb)⟩) (fun a ha=>(z05.mp ha).elim (fun z=>ap' a (z02 _ z)) (apr a)) (fun a ha=>(fon a ha).elim (w a) fun z=>.inl (I1.dm a z))
  have nxt:∀{fp':List Addr},(∀a∈rest,a∈fp')->(∀a,F1 a≠none->a∉fp')->Nx (pa && p) F H fp F' H' fp':=fun{fp'} sub nin=>by
   refine n1.trans (q:=p) ⟨sF,fun hpp b o e=>?_⟩
   have ef0:fl=[]:=by
    rw[hp hpp] at sg
    cases sg
    cases ol
    rfl
   subst ef0
   by_cases hb:b∈fp1
   ·have hb':b∈rest:=by simpa using pm.mem_iff.mp hb
    rw[Vo hb] at e
    rw[Vo (sub b hb')]
    exact kp' b o e @9
   ·rw[Jy hb] at e
    rw[Jy (nin b (by rw[e];simp))]
    exact sF b o e
  rcases hrk with rfl|rfl
  ·obtain⟨rv,rfl⟩:=rf
   refine h2 F' H' _ v J (nxt (fun a ha=>z02 _ ha) fun a hF hm=>?_) rv
   rcases z05.mp hm with z|z
   ·rw[Qu.free sF (ap' a z)] at hF;exact hF rfl
   ·rw[I1.ap a (inr a z)] at hF;exact hF rfl
  ·have Qkk:(fr++(fo++rest)).Nodup:=z09.mpr ⟨QtQ.1,J.nd,fun a ha b hb z=>by
    subst z
    rcases z05.mp hb with y|y
    ·exact QtQ.2.2 a ha a y rfl
    ·exact Qd7 a (inr a y) (frn a ha)⟩
   refine h2 F' H' _ v (J.push rf (fun a ha=>I1.dm a (frn a ha)) (fun a ha=>ap' a (z06 _ ha)) Qkk) (nxt (fun a ha=>z02 _ (z02 _ ha)) fun a hF hm=>?_) z54
   rcases z05.mp hm with z|z
   ·rw[Qu.free sF (ap' a (z06 _ z))] at hF;exact hF rfl
   ·rcases z05.mp z with z|z
    ·rw[Qu.free sF (ap' a (z02 _ z))] at hF;exact hF rfl
    ·rw[I1.ap a (inr a z)] at hF;exact hF rfl
theorem Qa1 {par:Bool}{as:List (Option Nat)}{f:List D->Fr}(D:Qcq X.prog X.w X.K X.mg X.base n x ps (spF C.K (as.map (·.isSome)) rk f))(hx:Qa8 X E)(hr:Qag n X.A)(ha:PA X (e::es) (tA (as.map kdOf) C pa E mr))(hrk:rk=.V\/rk=.O:=by first|exact .inl rfl|exact .inr rfl)(nd:(as.filterMap id).Nodup:=by decide)(hp:p=true->as.filterMap id=[]:=by decide)(hg:Gl X x:=by rfl)
  (hdb:@6=false:=by decide) (he:starEach (e::es) X.env=(false,eval e X.env)::starEach es X.env:=by rfl) (hpl:(backTo pos (starEach es X.env)).any (·.1)=false:=by rfl) :
  PE X (.Call (.Name x px) (e::es) [] pos) (tX rk C (pa && p) E (Qf2 par as f mr)):=Qp (Qm9 D hx hr ha hg hdb he hpl) fun _ _ _ h=>Qmj nd hrk hp h
theorem O.loB {K:z00}{F H:Hp}{L:List Addr}(hl:∀b∈L,∀o,F b=some o->Mbl o):(∀v d fp,O K F H v d fp->O K (lo F L) H v d fp)/\∀v d fp,OL K F H v d fp->OL K (lo F L) H v d fp:=
 O.ind .sc (fun m h q=>.im m (h.lo m hl) q) .mt .nil .cons
theorem O.lo {K:z00}{F H:Hp}{L:List Addr}(hl:∀b∈L,∀o,F b=some o->Mbl o){v:L2.V}{d:D}{fp:List Addr}(h:O K F H v d fp):O K (lo F L) H v d fp:=(O.loB hl).1 _ _ _ h
def Qac (rk:Kd)(f:List D->Fr)(mr:MA):ME:=fun ρ=>(mr ρ).bind fun r=>match f r.1 with
 |.ok d _=>match rk with
  |.V=>if d.imm=true then .ok (d,r.2) else .no
  |_=>.ok (d,r.2)
 |.ex c=>.ex c r.2
 |.no=>.no
theorem Qq3 {K:z00}{F H:Hp}:∀{vs:List L2.V} {ds:List D},RL K F vs ds->AL K F H (vs.map fun _=>false) vs ds []
 |_,_,.nil=>.nil
 |_,_,.cons h r=>.val h (Qq3 r)
theorem Qf3 {f:List D->Fr}{io:List Bool}(hio:io.all (!·)=true)(hl:io.length=ks.length)(hrk:rk=.V\/rk=.O)(ok:rdL ks=true){σ:L2.St}{H:Hp}{Q:VK}(h:tX rk C pa E (Qac rk f mr) σ H Q):Qki (spF C.K io rk f) E (tA ks C pa E mr) σ H Q:=by
 obtain⟨F,ρ,τ,fp,I,h⟩:=h
 refine⟨F,ρ,τ,fp,I,h.split.mono fun r hr F1 H1 fp1 vs I1 n1 f1=>?_⟩
 rw[Yv ok] at I1
 have rl:=f1.rd I1 ok
 have hlen:vs.length=ks.length:=by
  have:∀{ks:List Kd} {vs:List L2.V} {ds:List D},FcL C F1 H1 fp1 σ ks vs ds->vs.length=ks.length:=by
   intro ks vs ds z
   induction z with
   |nil=>rfl
   |cons _ _ ih=>rw[z27,z27,ih]
  exact this f1
 have eio:io=vs.map fun _=>false:=by
  have:∀{io:List Bool} {n:Nat},io.all (!·)=true->io.length=n->io=zb4 n false:=by
   intro io
   induction io with
   |nil=>intro n _ e;subst e;rfl
   |cons x io ih=>
    intro n h e
    subst e
    rw[zm6,z70] at h
    rw[z27,List.replicate_succ,← ih h.2 rfl]
    have:x=false:=by simpa using h.1
    rw[this]
  rw[this hio (hl.trans hlen.symm)]
  exact(List.map_const' ..).symm
 have hmt:∀{F':Hp},Qu (jn F1 H1 fp1) F'->∀b∈fp1,∀o,F' b=some o->Mbl o:=fun{F'} s b hb o e=>by
  obtain⟨o',e',z⟩:=I1.mem b hb
  have q:=s b o' (by rw[Vo hb];exact e')
  rw[e] at q;cases q
  exact z
 refine⟨jn F1 H1 fp1,r.1,[],by rw[eio];exact Qq3 rl,zg2,@2,Vn I1.fh,?_⟩
 cases ef:f r.1 with
 |no=>rw[ef] at hr;exact hr
 |ex c=>
  rw[ef] at hr
  dsimp only at hr ⊢
  intro H' kp' dm'
  have J:SI C F1 H' σ r.2 τ fp1:=I1.step (Qu.refl _) (fun b o e=>kp' b o (I1.fh b o e) @9) (fun a ha=>by
   obtain⟨o,e,_⟩:=I1.mem a ha
   rw[e,kp' a o e @9]) I1.ap (fun _ _ z=>.inl z) (fun b o _ _ e=>kp' b o e @9) dm'
  obtain⟨fp2,J2⟩:=J.drop
  exact hr F1 H' fp2 J2
 |ok d outs=>
  rw[ef] at hr
  dsimp only at hr ⊢
  intro F' H' v fr fo sF fh' fn' kp' dm' rf ol' nd' ap' frn fon
  have sN:Qu F1 (lo F' fp1):=fun b o e=>by
   have nb:b∉fp1:=fun z=>by rw[I1.ap b z] at e;cases e
   rw[Qaq nb]
   exact sF b o (by rw[Jy nb];exact e)
  have J:SI C (lo F' fp1) H' σ r.2 τ fp1:=by
   refine I1.step sN (lo_le.trans fh') (fun a ha=>?_) (fun a ha=>QgX ha) (fun b o e=>?_) (fun b o _ _ e=>kp' b o e @9) dm'
   ·obtain⟨o,e,_⟩:=I1.mem a ha
    rw[e,kp' a o e @9]
   ·have nb:b∉fp1:=fun z=>by rw[QgX z] at e;cases e
    rw[Qaq nb] at e
    rcases fn' b o e with z|z
    ·rw[Jy nb] at z;exact .inl z
    ·exact .inr (z.up fun y=>I1.dm b y)
  have Qq4:∀{fp':List Addr},(∀a∈fp1,a∈fp')->(∀a,F1 a≠none->a∉fp')->Nx pa F H fp (lo F' fp1) H' fp':=fun{fp'} sub nin=>by
   refine(n1.trans (q:=true) ⟨sN,fun _ b o e=>?_⟩).weak fun z=>by simp[z]
   by_cases hb:b∈fp1
   ·rw[Vo hb] at e
    rw[Vo (sub b hb)]
    exact kp' b o e @9
   ·rw[Jy hb] at e
    rw[Jy (nin b (by rw[e];simp))]
    exact sN b o e
  have Qd7:∀a∈fp1,H1 a≠none:=fun a ha z=>by
   obtain⟨o,e,_⟩:=I1.mem a ha
   rw[z] at e;cases e
  rcases hrk with rfl|rfl
  ·obtain⟨rv,rfl⟩:=rf
   dsimp only at hr
   by_cases hi:d.imm=true
   ·rw[if_pos hi] at hr
    exact hr _ H' fp1 v J (Qq4 (fun a ha=>ha) fun a hF hm=>hF (I1.ap a hm)) (R.lo (hmt sF) rv hi)
   ·rw[if_neg hi] at hr;exact hr.elim
  ·dsimp only at hr
   have Qkk:(fr++fp1).Nodup:=z09.mpr ⟨(z09.mp nd').1,I1.nd,fun a ha b hb z=>by
    subst z;exact Qd7 a hb (frn a ha)⟩
   refine hr _ H' _ v (J.push (O.lo (hmt sF) rf) (fun a ha=>I1.dm a (frn a ha)) (fun a ha=>lo_le.free (ap' a (z06 _ ha))) Qkk) (Qq4 (fun a ha=>z02 _ ha) fun a hF hm=>?_) z54
   rcases z05.mp hm with z|z
   ·exact hF (I1.fh.free (frn a z))
   ·exact hF (I1.ap a z)
theorem QT {io:List Bool}{f:List D->Fr}(D:Qcq X.prog X.w X.K X.mg X.base n x ps (spF C.K io rk f))(hx:Qa8 X E)(hr:Qag n X.A)(ha:PA X (e::es) (tA ks C pa E mr))(hio:io.all (!·)=true:=by rfl)(hl:io.length=ks.length:=by rfl)(hrk:rk=.V\/rk=.O:=by first|exact .inl rfl|exact .inr rfl)(ok:rdL ks=true:=by rfl)(hg:Gl X x:=by rfl)
  (hdb:@6=false:=by decide) (he:starEach (e::es) X.env=(false,eval e X.env)::starEach es X.env:=by rfl) (hpl:(backTo pos (starEach es X.env)).any (·.1)=false:=by rfl) :
  PE X (.Call (.Name x px) (e::es) [] pos) (tX rk C pa E (Qac rk f mr)):=Qp (Qm9 D hx hr ha hg hdb he hpl) fun _ _ _ h=>Qf3 hio hl hrk ok h
end
def slot0 (b:Bool)(d:D):Option Sl:=some (if b then .par d else .frz d)
def Qkl (io:List Bool)(n:Nat)(ds:List D):Rho:=zc2 slot0 io ds++zb4 (n - io.length) none
noncomputable def outs:List Bool->Rho->Option (List D)
 |true::io,some (.par d)::ρ=>(outs io ρ).map (d::·)
 |false::io,some (.par _)::ρ=>none
 |false::io,_::ρ=>outs io ρ
 | [],some (.par _)::ρ=>none
 | [],_::ρ=>outs [] ρ
 | [],[]=>some []
 |_,_=>none
def JN (io:List Bool)(n:Nat)(mb:MS)(ds:List D):Fr:=match mb (Qkl io n ds) with
 |.ok (.rt d,ρ)=>match outs io ρ with
  |some os=>.ok d os
  |none=>.no
 |.ok (.nx,ρ)=>match outs io ρ with
  |some os=>.ok .non os
  |none=>.no
 |.ex c _=>.ex c
 |_=>.no
def Ji:Nat->List Bool->List L2.V->List (Nat×L2.V)
 |j,true::io,v::vs=>(j,v)::Ji (j+1) io vs
 |j,false::io,_::vs=>Ji (j+1) io vs
 |_,_,_=>[]
section
variable {K:z00}{F H:Hp}
theorem QhO {N:List Str}{io:List Bool}{vs:List L2.V}{ds:List D}{fp:List Addr}{r:Nat}(al:AL K F H io vs ds fp):SL K F H (vs.map some++zb4 r none) (zc2 slot0 io ds++zb4 r none) [] fp:=by
 induction al with
 |nil=>
  induction r with
  |zero=>exact .nil
  |succ r ih=>exact .cons (f0:=[]) (g0:=[]) .non ih
 |val h al ih=>exact .cons (f0:=[]) (g0:=[]) (.frz h) ih
 |io h al ih=>exact .cons (f0:=[]) (.par h) ih
theorem Qmk {io:List Bool}{vs:List L2.V}{ds:List D}{fp:List Addr}{j0 j:Nat}{v:L2.V}{r:Nat}(al:AL K F H io vs ds fp):(j,v)∈Ji j0 io vs->∃i,j=j0+i/\(vs.map some++zb4 r (none:Option L2.V))[i]? = some (some v)/\∃d,(zc2 slot0 io ds++zb4 r none)[i]? = some (some (.par d)):=by
 induction al generalizing j0 with
 |nil=>intro hm;unfold Ji at hm;exact nomatch hm
 |val h al ih=>
  intro hm
  unfold Ji at hm
  obtain⟨i,e,h1,d,h2⟩:=ih hm
  exact⟨i+1,by lia,h1,d,h2⟩
 | @io _ _ _ d0 _ _ _ h al ih=>
  intro hm
  unfold Ji at hm
  rcases z15.mp hm with e|hm
  ·cases e
   exact⟨0,rfl,rfl,_,rfl⟩
  ·obtain⟨i,e,h1,d,h2⟩:=ih hm
   exact⟨i+1,by lia,h1,d,h2⟩
theorem Qkm {io:List Bool}:∀{vs:List L2.V} {j0 j:Nat} {u:L2.V},(j,u)∈Ji j0 io vs->j0<=j:=by
 induction io with
 |nil=>intro vs j0 j u z;unfold Ji at z;exact nomatch z
 |cons b io ih=>
  intro vs j0 j u z
  cases vs with
  |nil=>cases b<;>(unfold Ji at z;exact nomatch z)
  |cons w vs=>
   cases b with
   |false=>unfold Ji at z;exact Nat.le_of_succ_le (ih z)
   |true=>
    unfold Ji at z
    rcases z15.mp z with e|z
    ·cases e;exact z24 _
    ·exact Nat.le_of_succ_le (ih z)
theorem Qkn {b:Bool}{io:List Bool}{v:L2.V}{vs:List L2.V}{j0:Nat}{σ:L2.St}{x:Option L2.V}(hp:∀j u,(j,u)∈Ji j0 (b::io) (v::vs)->∃i,j=j0+i/\(x::σ)[i]? = some (some u))(j:Nat)(u:L2.V)(z:(j,u)∈Ji (j0+1) io vs):∃i,j=j0+1+i/\σ[i]? = some (some u):=by
 obtain⟨i,e,q⟩:=hp j u (by cases b<;>(unfold Ji;first|exact z|exact z08 _ z))
 have lb:=Qkm z
 cases i with
 |zero=>lia
 |succ i=>exact⟨i,by lia,q⟩
theorem Qko {σ:L2.St}{ρ:Rho}{f g:List Addr}(sl:SL K F H σ ρ f g):∀{io:List Bool} {vs:List L2.V} {os:List D} {j0:Nat},outs io ρ=some os->vs.length=io.length->(∀j v,(j,v)∈Ji j0 io vs->∃i,j=j0+i/\σ[i]? = some (some v))->OL K F H (ioV io vs) os g:=by
 induction sl with
 |nil=>
  intro io vs os j0 h l hp
  cases io with
  |nil=>
   cases vs with
   |nil=>unfold outs at h;cases h;unfold ioV;exact .nil
   |cons=>cases l
  |cons b io=>cases b<;>(unfold outs at h;cases h)
 |cons s r ih=>
  intro io vs os j0 h l hp
  cases io with
  |nil=>
   cases vs with
   |cons=>cases l
   |nil=>
    have hn:∀{σ:L2.St} (j:Nat) (v:L2.V),(j,v)∈Ji j0 [] []->∃i,j=j0+i/\σ[i]? = some (some v):=fun j v z=>by unfold Ji at z;exact nomatch z
    cases s with
    |par _=>unfold outs at h;cases h
    |non=>unfold outs at h;exact ih (vs:=[]) h rfl hn
    |frz _=>unfold outs at h;exact ih (vs:=[]) h rfl hn
    |own _=>unfold outs at h;exact ih (vs:=[]) h rfl hn
  |cons b io=>
   cases vs with
   |nil=>cases l
   |cons v vs=>
    have l':vs.length=io.length:=Nat.succ.inj l
    have tl:=Qkn hp
    cases b with
    |false=>
     unfold ioV
     cases s with
     |par _=>unfold outs at h;cases h
     |non=>unfold outs at h;exact ih h l' tl
     |frz _=>unfold outs at h;exact ih h l' tl
     |own _=>unfold outs at h;exact ih h l' tl
    |true=>
     obtain⟨i0,e0,q0⟩:=hp j0 v (by unfold Ji;exact z07)
     have:i0=0:=by lia
     subst this
     unfold ioV
     cases s with
     |non=>unfold outs at h;cases h
     |frz _=>unfold outs at h;cases h
     |own _=>unfold outs at h;cases h
     |par o=>
      unfold outs at h
      obtain⟨r',hr',rfl⟩:=z03.mp h
      have ev:v=_:=(z21 (z21 q0)).symm
      subst ev
      exact .cons o (ih hr' l' tl)
end
theorem fnT {P:Program}{w:World}{K:z00}{mg:Str->Option Value}{base:Heap}{x qual:Str}{st:Stmt}{f:Addr}{fd:FuncData}{N ps:List Str}{k:Nat}{io:List Bool}{rk:Kd}{mb:MS}(Fn:Fun K x qual st f fd)(S:Qbp N ps (QL st))(hio:io.length=ps.length)(hrk:rk=.V\/rk=.O)
  (hbody:∀(cdv:Value) (A:Around) (outer:List Env) (s:Shared) (H:Hp) (E:XK) (C:Cn),C.K=K->Qag k (A.deeper (zd2 qual (QL st) s.heap.objs.size f cdv))->A.handled=none->
   PSs (Qci (CXe P w) P w K mg base N qual (QL st) f cdv A outer s H E) (Y5 st) (tS rk C (fun _=>E) mb)):Qeh P w K mg base (CXe P w) (k+1) f fd ps (spF K io rk (JN io N.length mb)):=by
 refine Fn.okE S (fun vs H Q E h=>?_) (fun cdv A outer s H vs Q E hr hd h=>?_)
 ·obtain⟨F,ds,fp,al,_⟩:=h
  rw[al.len,hio]
 ·obtain⟨F,ds,fp,al,nd,ap,fh,h⟩:=h
  have hl:=al.len
  let C:Cn:=⟨K,H,F,fp,Ji 0 io vs⟩
  refine⟨_,hbody cdv A outer s H E C rfl hr hd,?_⟩
  have est:L2.start N vs=vs.map some++zb4 (N.length - io.length) none:=by unfold L2.start;rw[hl]
  have I:SI C F H (L2.start N vs) (Qkl io N.length ds) [] fp:=by
   rw[est]
   refine⟨⟨[],fp,[],QhO (N:=N) al,.nil,by simp,@2,@2,fun a ha=>.inl ha⟩,nd,ap,fh,Qu.refl F,fun b o e=>.inl e,fun b o e _=>e,fun b e=>e,fun j v hj=>?_⟩
   obtain⟨i,e,h1,d,h2⟩:=Qmk (r:=N.length - io.length) al hj
   have e':j=i:=by lia
   subst e'
   exact⟨h1,d,h2⟩
  refine⟨F,_,fp,I,?_⟩
  unfold JN at h
  -- what is handed back
  have fin:∀{os:List D} {ρ:Rho} {d:D} {F' H':Hp} {σ':L2.St} {fp':List Addr} {v:L2.V},outs io ρ=some os->SI C F' H' σ' ρ (rk.tk v d []) fp'->rk.fc C F' H' fp' σ' v d->(∀F' H' v fr fo,Qu F F'->Qu F' H'->(∀b o,F' b=some o->F b=some o\/Nw H b o)->(∀b o,H b=some o->b∉fp->H' b=some o)->(∀b,H' b=none->H b=none)->RkF rk K F' H' v d fr->OL K F' H' (ioV io vs) os fo->
    (fr++fo).Nodup->(∀a∈fr++fo,F' a=none)->(∀a∈fr,H a=none)->(∀a∈fo,a∈fp\/H a=none)->Q v H')->Q v H':=fun{os ρ d F' H' σ' fp' v} eo J fc q=>by
   obtain⟨f1,g1,t1,sl,ol,pm,w1,w2,w3⟩:=J.sl
   have og:=Qko (j0:=0) (vs:=vs) sl eo hl (fun j u hj=>⟨j,by lia,(J.pr j u hj).1⟩)
   have ndp:=pm.nodup_iff.mp J.nd
   have inn:∀a,a∈f1\/a∈g1\/a∈t1->a∈fp':=fun a z=>pm.mem_iff.mpr (by simpa using z)
   rcases hrk with rfl|rfl
   ·exact q F' H' v [] g1 J.f0 J.fh J.fn J.kp J.dm ⟨fc,rfl⟩ og (z09.mp (z09.mp ndp).2.1).1 (fun a ha=>J.ap a (inn a (.inr (.inl ha)))) @2 w3
   ·cases ol with
    | @cons _ _ _ _ ta tb oa ob=>
     cases ob
     have e1:ta++[]=ta:=z52 ta
     refine q F' H' v ta g1 J.f0 J.fh J.fn J.kp J.dm oa og ?_ (fun a ha=>J.ap a (inn a (by rw[e1];exact(z05.mp ha).elim (fun z=>.inr (.inr z)) fun z=>.inr (.inl z)))) (fun a ha=>w2 a (by rw[e1];exact ha)) w3
     have n2:=(z09.mp ndp).2.1
     rw[e1] at n2
     exact(zd3).nodup_iff.mp n2
  cases eb:mb (Qkl io N.length ds) with
  |no=>rw[eb] at h;exact h.elim
  |ex c ρ=>
   rw[eb] at h
   exact fun F' H' σ' fp' J=>h H' J.kp J.dm
  |ok q=>
   obtain⟨fl,ρ⟩:=q
   rw[eb] at h
   cases fl with
   |bk=>exact h.elim
   |ct=>exact h.elim
   |nx=>
    dsimp only at h
    cases eo:outs io ρ with
    |none=>rw[eo] at h;exact h.elim
    |some os=>
     rw[eo] at h
     refine fun F' H' σ' fp' s' J=>?_
     rcases hrk with rfl|rfl
     ·exact fin (d:=.non) (v:=.non) eo J (.sc rfl) h
     ·exact fin (d:=.non) (v:=.non) eo (J.push (f:=[]) (.sc rfl) @2 @2 (by simpa using J.nd)) z54 h
   |rt d=>
    dsimp only at h
    cases eo:outs io ρ with
    |none=>rw[eo] at h;exact h.elim
    |some os=>
     rw[eo] at h
     exact fun F' H' σ' fp' v s' J fc=>fin eo J fc h
inductive Cp where
 |me|fz (i:Nat)|io (i:Nat)
def Cp.ix:Cp->Option Nat
 |.me=>none
 |.fz i=>some i
 |.io i=>some i
def Cp.is:Cp->Option Nat
 |.io i=>some i
 |_=>none
noncomputable def Qcj (ρ:Rho):List Cp->List D->Option Rho
 | [],_=>some []
 |.me::cs,di=>(Qcj ρ cs di).map (none::·)
 |.fz i::cs,di=>match ρ[i]? with
  |some (some (.frz d))=>(Qcj ρ cs di).map (some (.frz d)::·)
  |some none=>(Qcj ρ cs di).map (none::·)
  |_=>none
 |.io _::cs,d::di=>(Qcj ρ cs di).map (some (.par d)::·)
 |.io _::_,[]=>none
def ioB:List Cp->List Bool:=zk3 fun c=>match c with
 |.io _=>true
 |_=>false
def Qct (j:Nat)(tc:MT)(te:ME):List D->Rho->List D->Rs (List D×Rho)
 | [],ρ,acc=>.ok (acc,ρ)
 |d::ds,ρ,acc=>(Rs.of (Qam ρ j d)).bind fun ρ0=>(tc ρ0).bind fun c=>if c.1=true then(te c.2).bind fun r=>if acc.length<z17 then Qct j tc te ds (r.2.set j none) (acc++[r.1]) else .no
  else Qct j tc te ds (c.2.set j none) acc
def Qcu (par:Bool)(cs:List Cp)(j:Nat)(mi:MA)(tc:MT)(te:ME):ME:=fun ρ=>(mi ρ).bind fun r=>(Rs.of (Qab par r.2 @19)).bind fun di=>(Rs.of (Qcj r.2 cs di)).bind fun ρb=>
 match Qct j tc te r.1 ρb [] with
 |.ok q=>(Rs.of (outs (ioB cs) q.2)).bind fun os=>.ok (.lst q.1,Vq par r.2 @19 os)
 |_=>.no
abbrev EF:XE:=fun _ _ _ _=>False
theorem QbU {X:Cx}:Qa8 X EF:=fun pins σ H s e s' I h=>by
 obtain⟨_,_,_,_,_,_,_,_,_,k⟩:=h
 exact k.elim
theorem Run.ef {C:Cn}{σ:L2.St}{α:Type}{r:Rs α}{a:α}{k:α->Prop}(e:r=.ok a)(h:k a):Run C EF σ r k:=by rw[e];exact h
section
variable {K:z00}{F H:Hp}
theorem Qq5 {vs:List L2.V}{ds:List D}{f:List Addr}(r:OL K F H vs ds f):∃f',OL K F H vs.reverse ds.reverse f'/\f.Perm f':=
 ((O.ind (P:=fun v d f=>O K F H v d f) (Q:=fun vs ds f=>OL K F H vs ds f/\∃f',OL K F H vs.reverse ds.reverse f'/\f.Perm f') .sc (fun m h q=>.im m h q.1) (fun h q=>.mt h q.1) ⟨.nil,[],.nil,.refl _⟩ (fun{_ _ _ _ f g} h q=>⟨.cons h q.1,by
  obtain⟨f',o,p⟩:=q.2
  refine⟨f'++(f++[]),by rw[zx5,zx5];exact o.app (.cons h .nil),?_⟩
  rw[z52]
  exact(zd3).trans (p.append_right f)⟩)).2 _ _ _ r).2
theorem Qkp {α β:Type}:∀{l:List α} {m:List β},l.length=m.length->(l.zip m).map (·.1)=l
 | [],[],_=>rfl
 | [],_::_,h=>by cases h
 |_::_,[],h=>by cases h
 |a::l,b::m,h=>by rw[z89,z30,Qkp (by simpa using h)]
theorem Qkq {α β:Type}:∀{l:List α} {m:List β},l.length=m.length->(l.zip m).map (·.2)=m
 | [],[],_=>rfl
 | [],_::_,h=>by cases h
 |_::_,[],h=>by cases h
 |a::l,b::m,h=>by rw[z89,z30,Qkq (by simpa using h)]
theorem Qf4 {C:Cn}{σ:L2.St}{ρ:Rho}{τ:List (L2.V×D)}{fp:List Addr}(I:SI C F H σ ρ τ fp)(hK:C.K=K):∀{cs:List Cp} {vi:List L2.V} {di:List D} {f:List Addr} {ρb:Rho},Sig σ @19 vi->OL K F H vi di f->Qcj ρ cs di=some ρb->SL K F H (Jw (cs.map Cp.ix) σ) ρb [] f
 | [],_,_,_,_,.nil,.nil,h=>by unfold Qcj at h;cases h;exact .nil
 |.me::cs,vi,di,f,ρb,sg,ol,h=>by
  unfold Qcj at h
  obtain⟨r,hr,rfl⟩:=z03.mp h
  exact .cons (f0:=[]) (g0:=[]) .non (Qf4 I hK sg ol hr)
 |.fz i::cs,vi,di,f,ρb,sg,ol,h=>by
  unfold Qcj at h
  split at h
  ·next d e=>
   obtain⟨r,hr,rfl⟩:=z03.mp h
   obtain⟨x,f0,g0,rest,ex,s1,_⟩:=I.cut e
   cases s1 with
   | @frz v _ hd=>
    have e2:Jw ((Cp.fz i::cs).map Cp.ix) σ=some v::Jw (cs.map Cp.ix) σ:=by
     unfold Jw
     rw[z30,z30]
     show((some i).bind fun i=>(σ[i]?).join)::_=_
     rw[ze3,ex]
     rfl
    rw[e2]
    exact .cons (f0:=[]) (g0:=[]) (.frz (hK▸hd)) (Qf4 I hK sg ol hr)
  ·obtain⟨r,hr,rfl⟩:=z03.mp h
   exact .cons (f0:=[]) (g0:=[]) .non (Qf4 I hK sg ol hr)
  ·cases h
 |.io i::cs,_,_,_,ρb,.cons (v:=v) e sg,.cons o ol,h=>by
  unfold Qcj at h
  obtain⟨r,hr,rfl⟩:=z03.mp h
  have e2:Jw ((Cp.io i::cs).map Cp.ix) σ=some v::Jw (cs.map Cp.ix) σ:=by
   unfold Jw
   rw[z30,z30]
   show((some i).bind fun i=>(σ[i]?).join)::_=_
   rw[ze3,e]
   rfl
  rw[e2]
  exact .cons (f0:=[]) (.par o) (Qf4 I hK sg ol hr)
def vsB:List Cp->List L2.V->List L2.V
 |.io _::cs,v::vi=>v::vsB cs vi
 |.io _::cs,[]=>.non::vsB cs []
 |_::cs,vi=>.non::vsB cs vi
 | [],_=>[]
theorem Qds:∀{cs:List Cp} {vi:List L2.V},(vsB cs vi).length=(ioB cs).length
 | [],_=>by unfold vsB;rfl
 |.me::cs,vi=>by unfold vsB;rw[z27,Qds];rfl
 |.fz i::cs,vi=>by unfold vsB;rw[z27,Qds];rfl
 |.io i::cs,[]=>by unfold vsB;rw[z27,Qds];rfl
 |.io i::cs,v::vi=>by unfold vsB;rw[z27,Qds];rfl
theorem Qe9 {σ:L2.St}:∀{cs:List Cp} {vi:List L2.V},Sig σ @19 vi->ioV (ioB cs) (vsB cs vi)=vi
 | [],_,.nil=>rfl
 |.me::cs,vi,sg=>Qe9 (cs:=cs) sg
 |.fz i::cs,vi,sg=>Qe9 (cs:=cs) sg
 |.io i::cs,_,.cons e sg=>congrArg _ (Qe9 (cs:=cs) sg)
theorem Qkr {σ:L2.St}:∀{cs:List Cp} {vi:List L2.V} {j0 j:Nat} {v:L2.V},Sig σ @19 vi->(j,v)∈Ji j0 (ioB cs) (vsB cs vi)->∃i,j=j0+i/\(Jw (cs.map Cp.ix) σ)[i]? = some (some v)
 | [],_,j0,j,v,.nil,h=>by
  have:(j,v)∈([]:List (Nat×L2.V)):=h
  exact nomatch this
 |.me::cs,vi,j0,j,v,sg,h=>by
  obtain⟨i,e,q⟩:=Qkr (cs:=cs) (j0:=j0+1) sg h
  exact⟨i+1,by lia,by unfold Jw at q ⊢;simpa using q⟩
 |.fz _::cs,vi,j0,j,v,sg,h=>by
  obtain⟨i,e,q⟩:=Qkr (cs:=cs) (j0:=j0+1) sg h
  exact⟨i+1,by lia,by unfold Jw at q ⊢;simpa using q⟩
 |.io i0::cs,_,j0,j,v,.cons (v:=v0) e0 sg,h=>by
  rcases z15.mp (show(j,v)∈(j0,v0)::Ji (j0+1) (ioB cs) (vsB cs _) from h) with e|h
  ·cases e
   refine⟨0,rfl,?_⟩
   unfold Jw
   rw[z30,z30]
   show some ((some i0).bind fun i=>(σ[i]?).join)=_
   rw[ze3,e0]
   rfl
  ·obtain⟨i,e,q⟩:=Qkr (cs:=cs) (j0:=j0+1) sg h
   exact⟨i+1,by lia,by unfold Jw at q ⊢;simpa using q⟩
theorem Qeq {σ:L2.St}{ρ:Rho}:∀{cs:List Cp} {vi:List L2.V} {di:List D} {ρb:Rho} {j0 j:Nat} {v:L2.V},Qcj ρ cs di=some ρb->(j,v)∈Ji j0 (ioB cs) (vsB cs vi)->∃i,j=j0+i/\∃d,ρb[i]? = some (some (.par d))
 | [],_,_,_,j0,j,v,_,h=>by
  have:(j,v)∈([]:List (Nat×L2.V)):=h
  exact nomatch this
 |.me::cs,vi,di,ρb,j0,j,v,hc,h=>by
  unfold Qcj at hc
  obtain⟨r,hr,rfl⟩:=z03.mp hc
  obtain⟨i,e,d,q⟩:=Qeq (σ:=σ) (cs:=cs) (vi:=vi) (j0:=j0+1) hr h
  exact⟨i+1,by lia,d,by simpa using q⟩
 |.fz i0::cs,vi,di,ρb,j0,j,v,hc,h=>by
  unfold Qcj at hc
  split at hc
  ·obtain⟨r,hr,rfl⟩:=z03.mp hc
   obtain⟨i,e,d,q⟩:=Qeq (σ:=σ) (cs:=cs) (vi:=vi) (j0:=j0+1) hr h
   exact⟨i+1,by lia,d,by simpa using q⟩
  ·obtain⟨r,hr,rfl⟩:=z03.mp hc
   obtain⟨i,e,d,q⟩:=Qeq (σ:=σ) (cs:=cs) (vi:=vi) (j0:=j0+1) hr h
   exact⟨i+1,by lia,d,by simpa using q⟩
  ·cases hc
 |.io i0::cs,vi,[],ρb,j0,j,v,hc,h=>by unfold Qcj at hc;cases hc
 |.io i0::cs,vi,d0::di,ρb,j0,j,v,hc,h=>by
  unfold Qcj at hc
  obtain⟨r,hr,rfl⟩:=z03.mp hc
  cases vi with
  |nil=>
   rcases z15.mp (show(j,v)∈(j0,V.non)::Ji (j0+1) (ioB cs) (vsB cs []) from h) with e|h
   ·cases e;exact⟨0,rfl,d0,rfl⟩
   ·obtain⟨i,e,d,q⟩:=Qeq (σ:=σ) (cs:=cs) (vi:=[]) (j0:=j0+1) hr h
    exact⟨i+1,by lia,d,by simpa using q⟩
  |cons v0 vi=>
   rcases z15.mp (show(j,v)∈(j0,v0)::Ji (j0+1) (ioB cs) (vsB cs vi) from h) with e|h
   ·cases e;exact⟨0,rfl,d0,rfl⟩
   ·obtain⟨i,e,d,q⟩:=Qeq (σ:=σ) (cs:=cs) (vi:=vi) (j0:=j0+1) hr h
    exact⟨i+1,by lia,d,by simpa using q⟩
end
section
variable {X:Cx}{C:Cn}{E:XE}{p pa pc pe:Bool}{m me:ME}{mt:MT}{mi:MA}{pos:Pos}{k rk:Kd}{elt iter:Expr}{x:Str}{px:Pos}{ifs:List Expr}{scope:Scope}{N:List Str}{cs:List Cp}{j:Nat}{par:Bool}
theorem SI.clr {F H:Hp}{σ:L2.St}{ρ:Rho}{τ:List (L2.V×D)}{fp:List Addr}{y:Option L2.V}{x:L2.V}(I:SI C F H (σ.set j y) ρ τ fp)(hj:σ[j]? = some none)(np:∀v,(j,v)∉C.QgD):∃fp',SI C F H σ (ρ.set j none) τ fp':=by
 have lj:j<σ.length:=(z25.mp hj).1
 have lr:j<ρ.length:=by rw[← I.len,z98];exact lj
 obtain⟨z,f0,g0,rest,ez,s1,pm,w0,w1,cl⟩:=I.cut (i:=j) (s:=ρ[j]) (z04 lr)
 have nd:=pm.nodup_iff.mp I.nd
 have q:=cl (x':=none) (s':=none) (f0':=[]) (g0':=[]) (Qu.refl F) I.fh (fun _ _=>rfl) (fun _ z=>z) (fun _ _ _ _ z=>z) (fun _ _ z=>.inl z) .non (z09.mp (z09.mp nd).2.1).2.1 (fun a ha=>I.ap a (pm.mem_iff.mpr (by simp at ha;simp[ha]))) @2 @2 (fun v hv=>(np v hv).elim)
 rw[List.set_set,JC hj] at q
 exact⟨_,q⟩
def exT (K:z00)(p:Bool)(m:MT):TT:=fun σ H Q=>∃Cb:Cn,Cb.K=K/\tT Cb p EF m σ H Q
def exX (k:Kd)(K:z00)(p:Bool)(m:ME):TE:=fun σ H Q=>∃Cb:Cn,Cb.K=K/\tX k Cb p EF m σ H Q
def Qs4:MT:=fun ρ=>.ok (true,ρ)
theorem Qav {X:Cx}{K:z00}:PIf X [] (exT K true Qs4):=fun pins s σ H Q I ⟨Cb,_,F,ρ,τ,fp,J,h⟩=>Qoc pins s σ H Q I (h F H fp J .refl)
theorem Qer {X:Cx}{K:z00}{c:Expr}(h:∀Cb:Cn,Cb.K=K->PT X c (tT Cb p EF mt)):PIf X [c] (exT K p mt):=fun pins s σ H Q I ⟨Cb,hk,q⟩=>Qod (h Cb hk) pins s σ H Q I q
theorem Qaw {X:Cx}{K:z00}{e:Expr}(h:∀Cb:Cn,Cb.K=K->PE X e (tX k Cb p EF m)):PE X e (exX k K p m):=fun pins s σ H Q I ⟨Cb,hk,q⟩=>h Cb hk pins s σ H Q I q
structure ItC (C:Cn)(F:Hp)(ds:List D)(J:It):Prop where
 go:∀{F' H:Hp} {σ:L2.St} {ρ:Rho} {τ:List (L2.V×D)} {fp:List Addr} {i:Nat} {d:D},SI C F' H σ ρ τ fp->Qu F F'->ds[i]? = some d->J.go i H/\∀x H',J.yld i H x H'->∃F'',SI C F'' H' σ ρ τ fp/\Nx true F' H fp F'' H' fp/\R C.K F'' x d
 stop:∀{F' H:Hp} {σ:L2.St} {ρ:Rho} {τ:List (L2.V×D)} {fp:List Addr},SI C F' H σ ρ τ fp->Qu F F'->J.stop ds.length H
def Qad (tg:D->Rho->Option Rho)(cl:Rho->Rho)(tc:MT)(te:ME):List D->Rho->List D->Rs (List D×Rho)
 | [],ρ,acc=>.ok (acc,ρ)
 |d::ds,ρ,acc=>(Rs.of (tg d ρ)).bind fun ρ0=>(tc ρ0).bind fun c=>if c.1=true then(te c.2).bind fun r=>if acc.length<z17 then Qad tg cl tc te ds (cl r.2) (acc++[r.1]) else .no
  else Qad tg cl tc te ds (cl c.2) acc
def QtS (K:z00)(cs:List Cp)(blk:L2.St)(tg:D->Rho->Option Rho)(cl:Rho->Rho)(g:TG):Prop:=
 ∀{Cb:Cn} {F H:Hp} {ρ ρ':Rho} {τ:List (L2.V×D)} {fp:List Addr} {x:L2.V} {d:D},Cb.K=K->(∀k:Nat,cs[k]? = some Cp.me->∀v,(k,v)∉Cb.QgD)->SI Cb F H blk ρ τ fp->R Cb.K F x d->tg d ρ=some ρ'->
  ∃σ' fp',SI Cb F H σ' ρ' τ fp'/\Ext blk σ'/\(∀Q:L2.St->Hp->Prop,Q σ' H->g x blk H Q)/\∀{F'' H'':Hp} {ρ'':Rho} {τ'':List (L2.V×D)} {Qwc:List Addr},SI Cb F'' H'' σ' ρ'' τ'' Qwc->∃fp7,SI Cb F'' H'' blk (cl ρ'') τ'' fp7
def Qi8 (par:Bool)(cs:List Cp)(tg:D->Rho->Option Rho)(cl:Rho->Rho)(mt:MT)(me:ME)(r:List D×Rho):Rs (D×Rho):=(Rs.of (Qab par r.2 @19)).bind fun di=>(Rs.of (Qcj r.2 cs di)).bind fun ρb=>
 match Qad tg cl mt me r.1 ρb [] with
 |.ok q=>(Rs.of (outs (ioB cs) q.2)).bind fun os=>.ok (.lst q.1,Vq par r.2 @19 os)
 |_=>.no
theorem QhP {tg:D->Rho->Option Rho}{cz:Rho->Rho}{g:TG}(hK:C.K=X.K)(nd:(cs.filterMap Cp.is).Nodup)(hp:p=true->cs.filterMap Cp.is=[]){σ:L2.St}{F H F1 H1:Hp}{ρ1:Rho}{τ:List (L2.V×D)}{fp fp1:List Addr}{ds0:List D}{J:It}{Q:VK}
  (tgk:QtS X.K cs (Jw (cs.map Cp.ix) σ) tg cz g) (I1:SI C F1 H1 σ ρ1 τ fp1) (n1:Nx pa F H fp F1 H1 fp1) (its:∀Cb:Cn,Cb.K=C.K->Cb.H₀=H1->Cb.F₀=F1->(cs.filterMap Cp.is=[]->Cb.A=[])->ItC Cb F1 ds0 J)
  (hr:Run C E σ (Qi8 par cs tg cz mt me (ds0,ρ1)) fun r=>∀F' H' fp' v,SI C F' H' σ r.2 (Kd.O.tk v r.1 τ) fp'->Nx (pa && p) F H fp F' H' fp'->Kd.O.fc C F' H' fp' σ v r.1->Q v H') :
  ∃W:Nat->Nat->List V->Hp->Prop,(∃m,W 0 m [] H1)/\∀i m ys H,W i m ys H->
   (J.stop i H/\∀D,H D=none->Q (.ref D) (upd H D (.lst ys)))\/
   (J.go i H/\∃N:List V->Hp->Prop,(∀ys' H',N ys' H'->∃m',m' < m/\W (i+1) m' ys' H')/\∀x H',J.yld i H x H'->
    g x (Jw (cs.map Cp.ix) σ) H' fun τ' H1'=>Ext (Jw (cs.map Cp.ix) σ) τ'/\exT X.K pc mt τ' H1' fun c H2=>if c=true then exX .O X.K pe me τ' H2 fun y H3=>ys.length<z17/\N (ys++[y]) H3 else N ys H2):=by
 unfold Qi8 at hr
 dsimp only at hr
 obtain⟨di,eg,h2⟩:=hr.split.of
 obtain⟨ρb,eb,h3⟩:=h2.split.of
 obtain⟨vi,f,rest,sg,ol,pm,w,cl⟩:=I1.lend nd eg
 have ndp:=pm.nodup_iff.mp I1.nd
 have inl:∀a∈f,a∈fp1:=fun a ha=>pm.mem_iff.mpr (z06 _ ha)
 have inr:∀a∈rest,a∈fp1:=fun a ha=>pm.mem_iff.mpr (z02 _ ha)
 have dis:∀a∈rest,a∉f:=fun a ha hf=>(z09.mp ndp).2.2 a hf a ha rfl
 cases ec:Qad tg cz mt me ds0 ρb [] with
 |no=>rw[ec] at h3;exact h3.elim
 |ex c q=>rw[ec] at h3;exact h3.elim
 |ok q=>
  obtain⟨Qox,ρF⟩:=q
  rw[ec] at h3
  obtain⟨os,eo,h4⟩:=h3.split.of
  let Cb:Cn:=⟨X.K,H1,F1,f,Ji 0 (ioB cs) (vsB cs vi)⟩
  have it:ItC Cb F1 ds0 J:=its Cb hK.symm rfl rfl fun q=>by
   rw[q] at sg
   cases sg
   cases ol
   rfl
  have IB:SI Cb F1 H1 (Jw (cs.map Cp.ix) σ) ρb [] f:=by
   refine⟨⟨[],f,[],Qf4 I1 hK sg (hK▸ol) eb,.nil,by simp,@2,@2,fun a ha=>.inl ha⟩,(z09.mp ndp).1,fun a ha=>I1.ap a (inl a ha),I1.fh,Qu.refl _,fun b o e=>.inl e,fun b o e _=>e,fun b e=>e,fun i v hi=>?_⟩
   obtain⟨i1,e1,q1⟩:=Qkr sg hi
   obtain⟨i2,e2,d2,q2⟩:=Qeq (σ:=σ) eb hi
   have:i1=i:=by lia
   subst this
   have:i2=i1:=by lia
   subst this
   exact⟨q1,d2,q2⟩
  have hbk:∀k:Nat,cs[k]? = some Cp.me->(Jw (cs.map Cp.ix) σ)[k]? = some none:=fun k hk=>by
   unfold Jw
   rw[z22,z22,hk]
   rfl
  have npk:∀k:Nat,cs[k]? = some Cp.me->∀v,(k,v)∉Cb.QgD:=fun k hk v hv=>by
   obtain⟨i1,e1,q1⟩:=Qkr sg hv
   have:i1=k:=by lia
   subst this
   rw[hbk i1 hk] at q1;cases q1
  refine⟨fun i mm ys H'=>mm=ds0.length - i/\i<=ds0.length/\∃F' ρ' acc fp',SI Cb F' H' (Jw (cs.map Cp.ix) σ) ρ' ((ys.zip acc).reverse) fp'/\ys.length=acc.length/\Qu F1 F'/\Qad tg cz mt me (ds0.drop i) ρ' acc=.ok (Qox,ρF),⟨ds0.length,by simp,zb8 _,F1,ρb,[],f,IB,rfl,Qu.refl _,by rw[zr4];exact ec⟩,?_⟩
  rintro i mm ys H2 ⟨rfl,hi2,F2,ρ2,acc,fp2,I2,lya,s2,k2⟩
  by_cases hlt:i<ds0.length
  ·obtain⟨d,ed⟩:∃d,ds0[i]? = some d:=⟨ds0[i],z04 hlt⟩
   obtain⟨g1,g2⟩:=it.go I2 s2 ed
   have edr:ds0.drop i=d::ds0.drop (i+1):=by
    rw[z96 hlt]
    have:ds0[i]=d:=by rw[z04 hlt] at ed;exact z21 ed
    rw[this]
   rw[edr] at k2
   unfold Qad at k2
   cases es:tg d ρ2 with
   |none=>rw[es] at k2;cases k2
   |some ρ3=>
    rw[es] at k2
    change (mt ρ3).bind _=_ at k2
    refine .inr ⟨g1,fun ys' H'=>∃F' ρ' acc fp',SI Cb F' H' (Jw (cs.map Cp.ix) σ) ρ' ((ys'.zip acc).reverse) fp'/\ys'.length=acc.length/\Qu F1 F'/\Qad tg cz mt me (ds0.drop (i+1)) ρ' acc=.ok (Qox,ρF),fun ys' H' z=>⟨_,by lia,rfl,hlt,z⟩,fun x0 H' y=>?_⟩
    obtain⟨F3,I3,n3,r3⟩:=g2 x0 H' y
    have s3:Qu F1 F3:=s2.trans n3.f
    obtain⟨σ',fp4,I4,ex,gq,clr⟩:=tgk (Cb:=Cb) rfl npk I3 r3 es
    refine gq _ ⟨ex,?_⟩
    cases et:mt ρ3 with
    |no=>rw[et] at k2;cases k2
    |ex c q=>rw[et] at k2;cases k2
    |ok q=>
     obtain⟨c,ρ5⟩:=q
     rw[et] at k2
     change (if c=true then _ else _)=_ at k2
     refine⟨Cb,rfl,F3,ρ3,_,fp4,I4,Run.ef et fun F5 H5 fp5 I5 n5=>?_⟩
     have s5:Qu F1 F5:=s3.trans n5.f
     change (if c=true then _ else _)
     by_cases hc:c=true
     ·rw[if_pos hc] at k2 ⊢
      cases ee:me ρ5 with
      |no=>rw[ee] at k2;cases k2
      |ex c q=>rw[ee] at k2;cases k2
      |ok q=>
       obtain⟨d6,ρ6⟩:=q
       rw[ee] at k2
       change (if acc.length<z17 then _ else _)=_ at k2
       refine⟨Cb,rfl,F5,ρ5,_,fp5,I5,Run.ef ee fun F6 H6 fp6 v6 I6 n6 _=>?_⟩
       by_cases hz:acc.length<z17
       ·rw[if_pos hz] at k2
        refine⟨by rw[lya];exact hz,?_⟩
        obtain⟨fp7,I7⟩:=clr I6
        refine⟨F6,_,acc++[d6],fp7,?_,by simp[lya],s5.trans n6.f,k2⟩
        have ez:((ys++[v6]).zip (acc++[d6])).reverse=(v6,d6)::(ys.zip acc).reverse:=by
         rw[List.zip_append lya,zl2]
         rfl
        rw[ez]
        exact I7
       ·rw[if_neg hz] at k2;cases k2
     ·rw[if_neg hc] at k2 ⊢
      obtain⟨fp7,I7⟩:=clr I5
      exact⟨F5,_,acc,fp7,I7,lya,s5,k2⟩
  ·have e:i=ds0.length:=by lia
   subst e
   rw[zo6] at k2
   unfold Qad at k2
   cases k2
   refine .inl ⟨it.stop I2 s2,fun Dd hD=>?_⟩
   obtain⟨f1,g1,t1,sl,ot,pm2,w1,w2,w3⟩:=I2.sl
   have og:=Qko (j0:=0) (vs:=vsB cs vi) sl eo Qds (fun i u hi=>⟨i,by lia,(I2.pr i u hi).1⟩)
   rw[Qe9 sg] at og
   have ot':OL Cb.K F2 H2 ys.reverse Qox.reverse t1:=by
    have e1:((ys.zip Qox).reverse).map (·.1)=ys.reverse:=by rw[List.map_reverse,Qkp lya]
    have e2:((ys.zip Qox).reverse).map (·.2)=Qox.reverse:=by rw[List.map_reverse,Qkq lya]
    rw[e1,e2] at ot
    exact ot
   obtain⟨t2,oy,pt⟩:=Qq5 ot'
   rw[zu8,zu8] at oy
   have QtT:=pm2.nodup_iff.mp I2.nd
   have inn:∀a,a∈f1\/a∈g1\/a∈t1->a∈fp2:=fun a z=>pm2.mem_iff.mpr (by simpa using z)
   have Qml:∀a∈fp2,H2 a≠none:=fun a ha z=>by
    obtain⟨o,e,_⟩:=I2.mem a ha
    rw[z] at e;cases e
   have Qd7:∀a∈fp1,H1 a≠none:=fun a ha z=>by
    obtain⟨o,e,_⟩:=I1.mem a ha
    rw[z] at e;cases e
   have nD:∀a,H2 a≠none->a≠Dd:=fun a h z=>h (z▸hD)
   have hkeep:∀b o,H1 b=some o->b∉f->H2 b=some o:=fun b o e n=>I2.kp b o e n
   have H1D:H1 Dd=none:=I2.dm Dd hD
   have fD:F2 Dd=none:=I2.fh.free hD
   have sH:Qu H2 (upd H2 Dd (.lst ys)):=Qu.upd hD
   have og':OL C.K F2 (upd H2 Dd (.lst ys)) vi os g1:=by
    rw[hK]
    exact og.keep (Qu.refl _) fun a ha=>Qk (nD a (Qml a (inn a (.inr (.inl ha)))))
   have oy':OL C.K F2 (upd H2 Dd (.lst ys)) ys Qox t2:=by
    rw[hK]
    exact oy.keep (Qu.refl _) fun a ha=>Qk (nD a (Qml a (inn a (.inr (.inr (pt.mem_iff.mpr ha))))))
   have Qvm:∀a,(a∈g1\/a∈t1)->a∉rest:=fun a z hr=>by
    rcases z with z|z
    ·rcases w3 a z with y|y
     ·exact dis a hr y
     ·exact Qd7 a (inr a hr) y
    ·exact Qd7 a (inr a hr) (w2 a z)
   have ndg:g1.Nodup:=(z09.mp (z09.mp QtT).2.1).1
   have ndt:t2.Nodup:=pt.nodup_iff.mp (z09.mp (z09.mp QtT).2.1).2.1
   have QtU:∀a∈g1,a∉t2:=fun a ha hb=>(z09.mp (z09.mp QtT).2.1).2.2 a ha a (pt.mem_iff.mpr hb) rfl
   have apr:∀a∈rest,F2 a=none:=fun a ha=>by
    cases e:F2 a with
    |none=>rfl
    |some o=>
     rcases I2.fn a o e with z|z
     ·exact absurd (show F1 a=some o from z) (by rw[I1.ap a (inr a ha)];simp)
     ·obtain⟨o2,e2,m2⟩:=I1.mem a (inr a ha)
      exact(z.not (show Cb.H₀ a≠none from Qd7 a (inr a ha)) (I2.fh a o e) (hkeep a o2 e2 (dis a ha)) m2).elim
   have JJ:=cl (F':=F2) (H':=upd H2 Dd (.lst ys)) s2 (I2.fh.trans sH) (fun a ha=>by
    obtain⟨o,e,_⟩:=I1.mem a (inr a ha)
    rw[e]
    exact sH a o (hkeep a o e (dis a ha))) (fun b e=>I2.dm b (sH.free e)) (fun b o e n z=>sH b o (hkeep b o z fun hb=>by
     rcases w b hb with y|y
     ·rw[y] at e;cases e
     ·exact n y.2)) (fun b o e=>(I2.fn b o e).imp id fun z=>z.up fun y=>I1.dm b y) og' (z09.mpr ⟨ndg,(z09.mp ndp).2.1,fun a ha b hb z=>Qvm a (.inl ha) (z▸hb)⟩) (fun a ha=>(z05.mp ha).elim (fun z=>I2.ap a (inn a (.inr (.inl z)))) (apr a)) (fun a ha=>(w3 a ha).elim (w a) fun z=>.inl (I1.dm a z))
   have Qkk:((Dd::t2)++(g1++rest)).Nodup:=by
    refine z09.mpr ⟨z72.mpr ⟨fun z=>Qml Dd (inn Dd (.inr (.inr (pt.mem_iff.mpr z)))) hD,ndt⟩,JJ.nd,fun a ha b hb z=>?_⟩
    subst z
    rcases z15.mp ha with rfl|ha
    ·rcases z05.mp hb with y|y
     ·exact Qml _ (inn _ (.inr (.inl y))) hD
     ·exact Qd7 _ (inr _ y) H1D
    ·rcases z05.mp hb with y|y
     ·exact QtU a y ha
     ·exact Qvm a (.inr (pt.mem_iff.mpr ha)) y
   refine h4 F2 _ _ (.ref Dd) (JJ.push (.mt (t:=.lst) (show upd H2 Dd (.lst ys) Dd=some (.lst ys) from Qs) oy') (fun a ha=>?_) (fun a ha=>?_) Qkk) (n1.trans (q:=p) ⟨s2,fun hpp b o e=>?_⟩) z54
   ·rcases z15.mp ha with rfl|ha
    ·exact I1.dm _ H1D
    ·exact I1.dm a (w2 a (pt.mem_iff.mpr ha))
   ·rcases z15.mp ha with rfl|ha
    ·exact fD
    ·exact I2.ap a (inn a (.inr (.inr (pt.mem_iff.mpr ha))))
   ·have ef0:f=[]:=by
     rw[hp hpp] at sg
     cases sg
     cases ol
     rfl
    subst ef0
    by_cases hb:b∈fp1
    ·have hb':b∈rest:=by simpa using pm.mem_iff.mp hb
     rw[Vo hb] at e
     rw[Vo (z02 _ (z02 _ hb'))]
     exact sH b o (hkeep b o e @9)
    ·rw[Jy hb] at e
     have e2:=s2 b o e
     rw[Jy]
     ·exact e2
     ·intro hm
      rcases z05.mp hm with y|y
      ·rcases z15.mp y with rfl|y
       ·rw[fD] at e2;cases e2
       ·rw[I2.ap b (inn b (.inr (.inr (pt.mem_iff.mpr y))))] at e2;cases e2
      ·rcases z05.mp y with y|y
       ·rw[I2.ap b (inn b (.inr (.inl y)))] at e2;cases e2
       ·rw[I1.ap b (inr b y)] at e;cases e
theorem Qfa {j:Nat}{tc:MT}{te:ME}:∀{ds:List D} {ρ:Rho} {acc:List D},Qct j tc te ds ρ acc=Qad (fun d ρ=>Qam ρ j d) (fun ρ=>ρ.set j none) tc te ds ρ acc
 | [],ρ,acc=>rfl
 |d::ds,ρ,acc=>by
  unfold Qct Qad
  congr 1;funext ρ0;congr 1;funext c
  split
  ·congr 1;funext r;split
   ·exact Qfa
   ·rfl
  ·exact Qfa
theorem Qoy {ρ:Rho}:Qcu par cs j mi mt me ρ=(mi ρ).bind (Qi8 par cs (fun d ρ=>Qam ρ j d) (fun ρ=>ρ.set j none) mt me):=by
 unfold Qcu Qi8
 simp only[Qfa]
theorem Qoz {σ:L2.St}(hj:cs[j]? = some .me):QtS X.K cs (Jw (cs.map Cp.ix) σ) (fun d ρ=>Qam ρ j d) (fun ρ=>ρ.set j none) (Vl j):=fun{Cb F H ρ ρ' τ fp x d} hK np I r e=>by
 have hb:(Jw (cs.map Cp.ix) σ)[j]? = some none:=by
  unfold Jw
  rw[z22,z22,hj]
  rfl
 obtain⟨fp',I2,_⟩:=SI.Qam I r e
 refine⟨_,fp',I2,⟨z98 ..,fun i u e=>?_⟩,fun Q q=>q,fun I3=>SI.clr (x:=x) I3 hb (np j hj)⟩
 by_cases q:j=i
 ·subst q;rw[hb] at e;cases e
 ·rw[z60 q];exact e
theorem Qdt (hK:C.K=X.K)(hj:cs[j]? = some .me)(nd:(cs.filterMap Cp.is).Nodup)(hp:p=true->cs.filterMap Cp.is=[]){σ:L2.St}{H:Hp}{Q:VK}(h:tX .O C (pa && p) E (Qcu par cs j mi mt me) σ H Q):QfS (tI C pa E mi) (cs.map Cp.ix) (Vl j) (exT X.K pc mt) (exX .O X.K pe me) σ H Q:=by
 obtain⟨F,ρ,τ,fp,I,h⟩:=h
 rw[Qoy] at h
 exact⟨F,ρ,τ,fp,I,h.split.mono fun r hr F1 H1 fp1 J I1 n1 it=>QhP hK nd hp (Qoz hj) I1 n1 (fun Cb h1 _ _ _=>⟨fun I s e=>h1▸it.go h1 I s e,fun I s=>it.stop h1 I s⟩) hr⟩
theorem Yw (hK:C.K=X.K)(hc:X.calm=true)(B:Blk X scope N (cs.map Cp.ix))(hjN:N[j]? = some x)(hj:cs[j]? = some .me)(hx:scope.names.lookup x=some .local)(hi:PI X (.Name x px) iter (tI C pa E mi))
  (ht:∀pins c s H ex,PIf (X.blk scope N pins c s H ex) ifs (exT X.K pc mt)) (he:∀pins c s H ex,PE (X.blk scope N pins c s H ex) elt (exX .O X.K pe me)) (nd:(cs.filterMap Cp.is).Nodup:=by decide) (hp:p=true->cs.filterMap Cp.is=[]:=by decide)
  (hs:∀x,foldedSetIterable iter X.env x=pure x:=by intro _;rfl):PE X (.ListComp elt [⟨.Name x px,iter,ifs,0⟩] scope pos) (tX .O C (pa && p) E (Qcu par cs j mi mt me)):=
 Qp (Qhy hc B hi (fun _ _ _ _ _=>QG (i:=j) B.nd hjN (.inl (lookup_relabel_local hx)) (.inr (lookup_relabel_local hx))) ht he hs) fun _ _ _ h=>Qdt hK hj nd hp h
theorem Qna {y:Str}{py spos:Pos}{i0:Nat}(hK:C.K=X.K)(hc:X.calm=true)(hXN:X.N.Nodup)(hi0:X.N[i0]? = some y)(hy:Loc X.env.scope y)(B:Blk X scope N (cs.map Cp.ix))(hjN:N[j]? = some x)(hj:cs[j]? = some .me)(hx:scope.names.lookup x=some .local)(hi:PI X (.Name x px) iter (tI C pa E mi))
  (ht:∀pins c s H ex,PIf (X.blk scope N pins c s H ex) ifs (exT X.K pc mt)) (he:∀pins c s H ex,PE (X.blk scope N pins c s H ex) elt (exX .O X.K pe me)) (nd:(cs.filterMap Cp.is).Nodup:=by decide)
  (hsw:swapsWith (.ListComp elt [⟨.Name x px,iter,ifs,0⟩] scope pos) (some (.Name y py)) spos.line X.env=pure true:=by rfl)
  (hf:X.fn y=true\/X.env.scope.names.lookup y=some .local:=by first|exact .inl rfl|exact .inr rfl|assumption)
  (hs:∀x,foldedSetIterable iter X.env x=pure x:=by intro _;rfl):PS X (.Assign [.Name y py] (.ListComp elt [⟨.Name x px,iter,ifs,0⟩] scope pos) spos) (tS rk C E (Qmh i0 (Qcu par cs j mi mt me))):=
 Jl (QeX hc hXN hi0 hy B hi (fun _ _ _ _ _=>QG (i:=j) B.nd hjN (.inl (lookup_relabel_local hx)) (.inr (lookup_relabel_local hx))) ht he hsw hf hs) fun D σ H h=>by
  have q:=Qke (p:=pa && false) h
  exact Qdt (p:=false) hK hj nd (fun z=>nomatch z) q
end
instance {i j:Int}:Decidable (QgB i j):=by unfold QgB;infer_instance
instance {i j:Int}:Decidable (QmT i j):=by unfold QmT;infer_instance
instance {i j:Int}:Decidable (Qd3 i j):=by unfold Qd3;infer_instance
noncomputable def gI0 (f:Int->Int->D):D->D->Option D
 |.int i,.int j=>some (f i j)
 |_,_=>none
noncomputable def gIc (c:Int->Int->Prop)[∀i j,Decidable (c i j)](f:Int->Int->D):D->D->Option D
 |.int i,.int j=>if c i j then some (f i j) else none
 |_,_=>none
section
variable {K:z00}
theorem Qf5 {f:Int->Int->D}{g:Int->Int->V}(h:∀i j,(f i j).sc=some (g i j)):OpD K (rI0 g) (gI0 f):=fun H v u d e res r q eg=>by
 unfold gI0 at eg
 split at eg
 ·next i j=>
  cases eg
  obtain rfl:=r.QK (w:=.int i) rfl
  obtain rfl:=q.QK (w:=.int j) rfl
  exact⟨_,h i j,fun Q hq=>⟨i,j,rfl,rfl,hq⟩⟩
 ·cases eg
theorem Qmm {c:Int->Int->Prop}[∀i j,Decidable (c i j)]{f:Int->Int->D}{g:Int->Int->V}(h:∀i j,(f i j).sc=some (g i j)):OpD K (rI c g) (gIc c f):=fun H v u d e res r q eg=>by
 unfold gIc at eg
 split at eg
 ·next i j=>
  by_cases cc:c i j
  ·rw[if_pos cc] at eg;cases eg
   obtain rfl:=r.QK (w:=.int i) rfl
   obtain rfl:=q.QK (w:=.int j) rfl
   exact⟨_,h i j,fun Q hq=>⟨i,j,rfl,rfl,cc,hq⟩⟩
  ·rw[if_neg cc] at eg;cases eg
 ·cases eg
def Qvn:=gI0 fun i j=>.int (i+j)
def QpD:=gI0 fun i j=>.int (i - j)
def Qvo:=gIc QgB fun i j=>.int (i * j)
def Qvp:=gIc Qd3 fun i j=>.int (i / j)
def Qvq:=gIc (fun _ j=>0<j) fun i j=>.int (i % j)
def Qvr:=gIc QmT fun i j=>.int (i ^ j.toNat)
def gLt:=gI0 fun i j=>.bl (decide (i<j))
def gLe:=gI0 fun i j=>.bl (decide (i<=j))
def gGt:=gI0 fun i j=>.bl (decide (j<i))
def gGe:=gI0 fun i j=>.bl (decide (j<=i))
theorem Qcv:OpD K (rI0 fun i j=>.int (i+j)) Qvn:=Qf5 fun _ _=>rfl
theorem Qnb:OpD K (rI0 fun i j=>.int (i - j)) QpD:=Qf5 fun _ _=>rfl
theorem Qmn:OpD K (rI QgB fun i j=>.int (i * j)) Qvo:=Qmm fun _ _=>rfl
theorem QtV:OpD K (rI Qd3 fun i j=>.int (i / j)) Qvp:=Qmm fun _ _=>rfl
theorem QpG:OpD K (rI (fun _ j=>0<j) fun i j=>.int (i % j)) Qvq:=Qmm fun _ _=>rfl
theorem QpH:OpD K (rI QmT fun i j=>.int (i ^ j.toNat)) Qvr:=Qmm fun _ _=>rfl
theorem dLt:OpD K (rI0 fun i j=>.bl (decide (i<j))) gLt:=Qf5 fun _ _=>rfl
theorem dLe:OpD K (rI0 fun i j=>.bl (decide (i<=j))) gLe:=Qf5 fun _ _=>rfl
theorem dGt:OpD K (rI0 fun i j=>.bl (decide (j<i))) gGt:=Qf5 fun _ _=>rfl
end
def Qfz (f:D->D->Option Bool):List D->List D->Option Bool
 |x::xs,y::ys=>(f x y).bind fun a=>(Qfz f xs ys).map fun b=>a && b
 |_,_=>some true
def eqS (x y:V):Option Bool:=if(Qp9 x y && QfO x && QfO y)=true then some (decide (x=y)) else none
def QtW (f:D->D->Option Bool):D->D->Option Bool
 |.nd .lst xs,.nd .lst ys=>if xs.length=ys.length then Qfz f xs ys else some false
 |.nd .tup xs,.nd .tup ys=>if xs.length=ys.length then Qfz f xs ys else(Qfz f xs ys).map fun _=>false
 |d,e=>d.sc.bind fun x=>e.sc.bind fun y=>eqS x y
noncomputable def eqb:Nat->D->D->Option Bool
 |0=>fun _ _=>none
 |n+1=>QtW (eqb n)
theorem Qfb {n:Nat}{d e:D}{b:Bool}(h:eqb (n+1) d e=some b) :
  (∃xs ys,d=.nd .lst xs/\e=.nd .lst ys/\((xs.length=ys.length/\Qfz (eqb n) xs ys=some b)\/(xs.length≠ys.length/\b=false)))\/
  (∃xs ys c,d=.nd .tup xs/\e=.nd .tup ys/\Qfz (eqb n) xs ys=some c/\b=(c && xs.length == ys.length))\/
  (∃x y,d.sc=some x/\e.sc=some y/\eqS x y=some b):=by
 replace h:QtW (eqb n) d e=some b:=h
 unfold QtW at h
 split at h
 ·next xs ys=>
  left
  refine⟨xs,ys,rfl,rfl,?_⟩
  by_cases c:xs.length=ys.length
  ·rw[if_pos c] at h;exact .inl ⟨c,h⟩
  ·rw[if_neg c] at h;cases h;exact .inr ⟨c,rfl⟩
 ·next xs ys=>
  right;left
  by_cases c:xs.length=ys.length
  ·rw[if_pos c] at h;exact⟨xs,ys,b,rfl,rfl,h,by simp[c]⟩
  ·rw[if_neg c] at h
   obtain⟨c',h1,h2⟩:=z03.mp h
   exact⟨xs,ys,c',rfl,rfl,h1,by simp[c,h2.symm]⟩
 ·right;right
  obtain⟨x,h1,h2⟩:=z23.mp h
  obtain⟨y,h3,h4⟩:=z23.mp h2
  exact⟨x,y,h1,h3,h4⟩
theorem QhQ {f:D->D->Option Bool}:∀{xs ys:List D} {b:Bool},Qfz f xs ys=some b->∃e:Nat->Bool,(∀j x y,xs[j]? = some x->ys[j]? = some y->f x y=some (e j))/\(z68 (min xs.length ys.length)).all e=b
 | [],ys,b,h=>by
  unfold Qfz at h;cases h
  exact⟨fun _=>true,fun j x y h=>by simp at h,by simp⟩
 |x::xs,[],b,h=>by
  unfold Qfz at h;cases h
  exact⟨fun _=>true,fun j x y _ h=>by simp at h,by simp⟩
 |x::xs,y::ys,b,h=>by
  unfold Qfz at h
  obtain⟨a,h1,h2⟩:=z23.mp h
  obtain⟨c,h3,rfl⟩:=z03.mp h2
  obtain⟨e,k1,k2⟩:=QhQ h3
  refine⟨fun j=>match j with|0=>a|j+1=>e j,fun j x' y' hx hy=>?_,?_⟩
  ·cases j with
   |zero=>simp at hx hy;subst hx hy;exact h1
   |succ j=>exact k1 j x' y' (by simpa using hx) (by simpa using hy)
  ·have em:min (x::xs).length (y::ys).length=min xs.length ys.length+1:=by simp
   rw[em,List.range_succ_eq_map,zm6,zd4,← k2]
   rfl
theorem RL.Qvs {K:z00}{F:Hp}{vs:List L2.V}{ds:List D}{i:Nat}{v:L2.V}(r:RL K F vs ds)(e:vs[i]? = some v):∃d,ds[i]? = some d/\R K F v d:=by
 induction i generalizing vs ds with
 |zero=>cases r with
  |nil=>simp at e
  |cons h r=>simp at e;subst e;exact⟨_,rfl,h⟩
 |succ i ih=>cases r with
  |nil=>simp at e
  |cons h r=>
   obtain⟨v,h1,h2⟩:=ih r (by simpa using e)
   exact⟨v,by simpa using h1,h2⟩
theorem Qmo {x y:V}{b:Bool}(h:eqS x y=some b):Qp9 x y=true/\QfO x=true/\QfO y=true/\b=decide (x=y)/\eqV x y=decide (x=y):=by
 unfold eqS at h
 by_cases c:(Qp9 x y && QfO x && QfO y)=true
 ·rw[if_pos c] at h;cases h
  have c0:=c
  rw[z70,z70] at c
  refine⟨c.1.1,c.1.2,c.2,rfl,?_⟩
  cases x<;>cases y<;>first
   |rfl
   |(rw[QgH];rfl)
   |(rw[Qjx];rfl)
   |(rw[QgI];rfl)
   |exact absurd (show false=true from c.1.1) @1
   |exact absurd (show false=true from c.1.2) @1
   |exact absurd (show false=true from c.2) @1
   |(simp[eqV];done)
 ·rw[if_neg c] at h;cases h
section
variable {X:Cx}{pins:List @11}{σ:L2.St}{H:Hp}{s:Shared}
theorem Qfc (I:Inv X pins σ H s):∀{n:Nat} {v:L2.V} {d e:D} {b:Bool},R X.K H v d->R X.K H v e->eqb n d e=some b->b=true
 |0,_,_,_,_,_,_,h=>by cases h
 |n+1,v,d,e,b,r,q,h=>by
  have key:∀{vs:List L2.V} {xs ys:List D} {c:Bool},RL X.K H vs xs->RL X.K H vs ys->Qfz (eqb n) xs ys=some c->c=true:=by
   intro vs
   induction vs with
   |nil=>intro xs ys c h1 h2 h3;cases h1;cases h2;unfold Qfz at h3;cases h3;rfl
   |cons v vs ih=>
    intro xs ys c h1 h2 h3
    cases h1 with
    |cons a1 b1=>
     cases h2 with
     |cons a2 b2=>
      unfold Qfz at h3
      obtain⟨a,e1,e2⟩:=z23.mp h3
      obtain⟨c',e3,rfl⟩:=z03.mp e2
      rw[Qfc I a1 a2 e1,ih b1 b2 e3]
      rfl
  rcases Qfb h with⟨xs,ys,rfl,rfl,hh⟩|⟨xs,ys,c,rfl,rfl,hh,rfl⟩|⟨x,y,hx,hy,hh⟩
  ·obtain⟨a,vs,rfl,a1,l1⟩:=r.inv
   obtain⟨a',vs',e',a2,l2⟩:=q.inv
   cases e'
   have ev:=I.QeN a1.sql a2.sql
   subst ev
   rcases hh with⟨_,hh⟩|⟨hh,_⟩
   ·exact key l1 l2 hh
   ·exact absurd (by rw[← l1.length,← l2.length]) hh
  ·obtain⟨a,vs,rfl,a1,l1⟩:=r.inv
   obtain⟨a',vs',e',a2,l2⟩:=q.inv
   cases e'
   have ev:=I.Qdc a1.sqt a2.sqt
   subst ev
   rw[key l1 l2 hh]
   simp[← l1.length,← l2.length]
  ·obtain⟨_,_,_,rfl,_⟩:=Qmo hh
   have e1:=r.QK hx
   have e2:=q.QK hy
   exact decide_eq_true (e1.symm.trans e2)
theorem Qes (I:Inv X pins σ H s){n:Nat}{A:Around}(hu:A.units<cLine)(cmp:∀{v u:L2.V} {d e:D} {b:Bool} {p q:Value},R X.K H v d->R X.K H u e->RelV v p->RelV u q->eqb n d e=some b->zh5 A.in1 s p q b){a a':Addr}{vs us:List L2.V}{xs ys:List D}(l1:RL X.K H vs xs)(l2:RL X.K H us ys){c:Bool}(h:Qfz (eqb n) xs ys=some c) :
  (SqL X.K H a vs->SqL X.K H a' us->xs.length=ys.length->zw1 A s (.ref a) (.ref a') c/\zs9 A s (.ref a) (.ref a') (!c))/\(SqT X.K H a vs->SqT X.K H a' us->zw1 A s (.ref a) (.ref a') (c && xs.length == ys.length)/\zs9 A s (.ref a) (.ref a') (!(c && xs.length == ys.length))):=by
 obtain⟨e,k1,k2⟩:=QhQ h
 have key:∀{its its2:List Value},Vals vs its->Vals us its2->∀j (h1:j<its.toArray.size) (h2:j<its2.toArray.size),zh5 A.in1 s its.toArray[j] its2.toArray[j] (e j):=fun{its its2} rv rv2 j h1 h2=>by
  rw[z18] at h1 h2
  have z1:=rv.length
  have z2:=rv2.length
  obtain⟨v,hv⟩:∃v,vs[j]? = some v:=⟨vs[j]' @0,z04 _⟩
  obtain⟨w,hw⟩:∃v,us[j]? = some v:=⟨us[j]' @0,z04 _⟩
  obtain⟨p,hp,rp⟩:=rv.get hv
  obtain⟨q,hq,rq⟩:=rv2.get hw
  obtain⟨x,hx,rx⟩:=l1.Qvs hv
  obtain⟨y,hy,ry⟩:=l2.Qvs hw
  have q1:its.toArray[j]=p:=by
   rw[z04 h1] at hp
   simpa using z21 hp
  have q2:its2.toArray[j]=q:=by
   rw[z04 h2] at hq
   simpa using z21 hq
  rw[q1,q2]
  exact cmp rx ry rp rq (k1 j x y hx hy)
 have e1:=l1.length
 have e2:=l2.length
 refine⟨fun a1 a2 hl=>?_,fun a1 a2=>?_⟩
 ·obtain⟨its,rv,p,_⟩:=I.list a1
  obtain⟨its2,rv2,p2,_⟩:=I.list a2
  have z1:=rv.length
  have z2:=rv2.length
  have es:its.toArray.size=its2.toArray.size:=by rw[z18,z18];lia
  have ec:(z68 its.toArray.size).all e=c:=by
   rw[← k2,z18,← z1,e1]
   congr 2
   lia
  rw[← ec]
  exact⟨SeqAt.RcAt.lists p.isList p2.isList es hu (key rv rv2),SeqAt.RcNeAt.lists p.isList p2.isList es hu (key rv rv2)⟩
 ·obtain⟨its,rv,p,_⟩:=I.tuple a1
  obtain⟨its2,rv2,p2,_⟩:=I.tuple a2
  have z1:=rv.length
  have z2:=rv2.length
  have ec:((z68 (min its.toArray.size its2.toArray.size)).all e && its.toArray.size == its2.toArray.size)=(c && xs.length == ys.length):=by
   rw[← k2,z18,z18,← z1,← z2,e1,e2]
  rw[← ec]
  exact⟨zs4 p p2 hu (key rv rv2),SeqAt.RcNeAt.tuples p p2 hu (key rv rv2)⟩
theorem Qks (I:Inv X pins σ H s){A:Around}(hu:A.units<cLine){a a':Addr}{vs us:List L2.V}(a1:SqL X.K H a vs)(a2:SqL X.K H a' us)(hl:vs.length≠us.length):zw1 A s (.ref a) (.ref a') false/\zs9 A s (.ref a) (.ref a') true:=by
 obtain⟨its,rv,p,_⟩:=I.list a1
 obtain⟨its2,rv2,p2,_⟩:=I.list a2
 have z1:=rv.length
 have z2:=rv2.length
 have es:(its.toArray.size != its2.toArray.size)=true:=by rw[z18,z18];simp;lia
 exact⟨SeqAt.RcAt.lists_lengths p.isList p2.isList es hu,SeqAt.RcNeAt.lists_lengths p.isList p2.isList es hu⟩
theorem Qi9 (I:Inv X pins σ H s):∀{n:Nat} {A:Around},A.units+n<cLine->∀{v u:L2.V} {d e:D} {b:Bool} {p q:Value},R X.K H v d->R X.K H u e->RelV v p->RelV u q->eqb n d e=some b->zh5 A s p q b
 |0,_,_,_,_,_,_,_,_,_,_,_,_,_,h=>by cases h
 |n+1,A,hu,v,u,d,e,b,p,q,r,r',rp,rq,h=>by
  have hA:A.in1.units+n<cLine:=by show A.units+1+n<cLine;lia
  have hu':A.units<cLine:=by lia
  rcases Qfb h with⟨xs,ys,rfl,rfl,hh⟩|⟨xs,ys,c,rfl,rfl,hh,rfl⟩|⟨x,y,hx,hy,hh⟩
  ·obtain⟨a,vs,rfl,a1,l1⟩:=r.inv
   obtain⟨a',us,rfl,a2,l2⟩:=r'.inv
   cases rp;cases rq
   by_cases ea:a=a'
   ·subst ea
    rw[Qfc I r r' h]
    exact zh6 _
   ·refine zj4 ea ?_
    rcases hh with⟨hl,hh⟩|⟨hl,rfl⟩
    ·exact((Qes I hu' (fun r1 r2 p1 p2 e1=>Qi9 I hA r1 r2 p1 p2 e1) l1 l2 hh).1 a1.sql a2.sql hl).1
    ·exact(Qks I hu' a1.sql a2.sql (by rw[l1.length,l2.length];exact hl)).1
  ·obtain⟨a,vs,rfl,a1,l1⟩:=r.inv
   obtain⟨a',us,rfl,a2,l2⟩:=r'.inv
   cases rp;cases rq
   by_cases ea:a=a'
   ·subst ea
    rw[Qfc I r r' h]
    exact zh6 _
   ·exact zj4 ea ((Qes I hu' (fun r1 r2 p1 p2 e1=>Qi9 I hA r1 r2 p1 p2 e1) l1 l2 hh).2 a1.sqt a2.sqt).1
  ·obtain⟨_,f1,f2,rfl,ev⟩:=Qmo hh
   obtain rfl:=r.QK hx
   obtain rfl:=r'.QK hy
   rw[← ev]
   exact Qqp rp rq f1 f2
end
def QpI (K:z00)(n:Nat)(f:Bool->Bool):R2:=fun x y H Q=>∃d e b,R K H x d/\R K H y e/\eqb n d e=some b/\Q (.bl (f b)) H
section
variable {X:Cx}
theorem JZ {n:Nat}(hu:X.A.units+n<cLine):OpR X (compareOp .Eq) (QpI X.K n id):=by
 intro pins s σ H x y v u Q I rx ry h
 obtain⟨d,e,b,r,r',he,q⟩:=h
 cases n with
 |zero=>cases he
 |succ n=>
  have hA:X.A.in1.units+n<cLine:=by show X.A.units+1+n<cLine;lia
  have hu':X.A.units<cLine:=by lia
  rcases Qfb he with⟨xs,ys,rfl,rfl,hh⟩|⟨xs,ys,c,rfl,rfl,hh,rfl⟩|⟨x',y',hx,hy,hh⟩
  ·obtain⟨a,vs,rfl,a1,l1⟩:=r.inv
   obtain⟨a',us,rfl,a2,l2⟩:=r'.inv
   cases rx;cases ry
   rcases hh with⟨hl,hh⟩|⟨hl,rfl⟩
   ·exact((Qes I hu' (fun r1 r2 p1 p2 e1=>Qi9 I hA r1 r2 p1 p2 e1) l1 l2 hh).1 a1.sql a2.sql hl).1 _ _ _ _ ⟨.bl _,H,I,rfl,q⟩
   ·exact(Qks I hu' a1.sql a2.sql (by rw[l1.length,l2.length];exact hl)).1 _ _ _ _ ⟨.bl _,H,I,rfl,q⟩
  ·obtain⟨a,vs,rfl,a1,l1⟩:=r.inv
   obtain⟨a',us,rfl,a2,l2⟩:=r'.inv
   cases rx;cases ry
   exact((Qes I hu' (fun r1 r2 p1 p2 e1=>Qi9 I hA r1 r2 p1 p2 e1) l1 l2 hh).2 a1.sqt a2.sqt).1 _ _ _ _ ⟨.bl _,H,I,rfl,q⟩
  ·obtain⟨sc,f1,f2,rfl,ev⟩:=Qmo hh
   obtain rfl:=r.QK hx
   obtain rfl:=r'.QK hy
   exact Qde pins s σ H x y v u Q I rx ry ⟨sc,q⟩
theorem YX {n:Nat}(hu:X.A.units+n<cLine):OpR X (compareOp .NotEq) (QpI X.K n not):=by
 intro pins s σ H x y v u Q I rx ry h
 obtain⟨d,e,b,r,r',he,q⟩:=h
 cases n with
 |zero=>cases he
 |succ n=>
  have hA:X.A.in1.units+n<cLine:=by show X.A.units+1+n<cLine;lia
  have hu':X.A.units<cLine:=by lia
  rcases Qfb he with⟨xs,ys,rfl,rfl,hh⟩|⟨xs,ys,c,rfl,rfl,hh,rfl⟩|⟨x',y',hx,hy,hh⟩
  ·obtain⟨a,vs,rfl,a1,l1⟩:=r.inv
   obtain⟨a',us,rfl,a2,l2⟩:=r'.inv
   cases rx;cases ry
   rcases hh with⟨hl,hh⟩|⟨hl,rfl⟩
   ·exact((Qes I hu' (fun r1 r2 p1 p2 e1=>Qi9 I hA r1 r2 p1 p2 e1) l1 l2 hh).1 a1.sql a2.sql hl).2 _ _ _ _ ⟨.bl _,H,I,rfl,q⟩
   ·exact(Qks I hu' a1.sql a2.sql (by rw[l1.length,l2.length];exact hl)).2 _ _ _ _ ⟨.bl _,H,I,rfl,q⟩
  ·obtain⟨a,vs,rfl,a1,l1⟩:=r.inv
   obtain⟨a',us,rfl,a2,l2⟩:=r'.inv
   cases rx;cases ry
   exact((Qes I hu' (fun r1 r2 p1 p2 e1=>Qi9 I hA r1 r2 p1 p2 e1) l1 l2 hh).2 a1.sqt a2.sqt).2 _ _ _ _ ⟨.bl _,H,I,rfl,q⟩
  ·obtain⟨sc,f1,f2,rfl,ev⟩:=Qmo hh
   obtain rfl:=r.QK hx
   obtain rfl:=r'.QK hy
   exact Qto pins s σ H x y v u Q I rx ry ⟨sc,q⟩
def inL (f:D->D->Option Bool)(x:D):List D->Option Bool
 | []=>some false
 |y::ys=>(f y x).bind fun a=>(inL f x ys).map fun b=>a || b
noncomputable def inb (n:Nat):D->D->Option Bool
 |x,.nd .lst ys=>inL (eqb n) x ys
 |x,.nd .tup ys=>inL (eqb n) x ys
 |_,_=>none
end
def gEq (d e:D):Option D:=(eqb 30 d e).map .bl
def gNe (d e:D):Option D:=(eqb 30 d e).map fun b=>.bl (!b)
def gIn (d e:D):Option D:=(inb 30 d e).map .bl
section
variable {K:z00}
theorem dEq:OpD K (QpI K 30 id) gEq:=fun H v u d e res r q eg=>by
 obtain⟨b,hb,rfl⟩:=z03.mp eg
 exact⟨_,rfl,fun Q hq=>⟨d,e,b,r,q,hb,hq⟩⟩
theorem dNe:OpD K (QpI K 30 not) gNe:=fun H v u d e res r q eg=>by
 obtain⟨b,hb,rfl⟩:=z03.mp eg
 exact⟨_,rfl,fun Q hq=>⟨d,e,b,r,q,hb,hq⟩⟩
end
end TL
namespace TL
open PySem PySem.Spec L2
section
variable {X:Cx}{C:Cn}{E:XE}{p pa pb pc:Bool}{e a b c:Expr}{es:List Expr}{m ma mb mc:ME}{mr:MA}{pos:Pos}{k ka kb kc:Kd}{ks:List Kd}
def QtX:D->Option D
 |.int i=>some (.int (-i))
 |_=>none
def mUn (g:D->Option D)(m:ME):ME:=fun ρ=>(m ρ).bind fun r=>Rs.of ((g r.1).map fun d=>(d,r.2))
theorem Qkt (ha:PE X a (tX ka C pa E ma))(ok:ka.on true=true:=by rfl):PE X (.UnaryOp .USub a pos) (tX .V C pa E (mUn QtX ma)):=Qp (Qtm Qp8 ha) fun σ H Q ⟨F,ρ,τ,fp,I,h⟩=>by
 refine⟨F,ρ,τ,fp,I,h.split.mono fun r1 h1 F1 H1 fp1 v1 I1 n1 f1=>?_⟩
 rw[Kd.Yn ok] at I1
 obtain⟨z,ez,h3⟩:=h1.of
 obtain⟨res,eg,rfl⟩:=z03.mp ez
 have rr:=Kd.stay ok f1 .refl I1
 unfold QtX at eg
 split at eg
 ·next i ei=>
  cases eg
  rw[ei] at rr
  exact⟨i,rr.QK rfl,h3 F1 H1 fp1 _ I1 n1 (.sc rfl)⟩
 ·cases eg
def Qf6 (g g':D->D->Option D)(ma mb mc:ME):ME:=fun ρ=>(ma ρ).bind fun r1=>(mb r1.2).bind fun r2=>(Rs.of ((g r1.1 r2.1).bind asB)).bind fun q=>if q=true then(mc r2.2).bind fun r3=>Rs.of ((g' r2.1 r3.1).map fun d=>(d,r3.2)) else .ok (.bl false,r2.2)
theorem Qf7 {r r':R2}{g g':D->D->Option D}(hg:OpD C.K r g)(hg':OpD C.K r' g')(ok:ka.on pb=true)(ok2:kb.on pc=true)(QpJ:kb.on true=true)(ok3:kc.on true=true){σ:L2.St}{H:Hp}{Q:VK}(h:tX .V C (pa && (pb && pc)) E (Qf6 g g' ma mb mc) σ H Q):QjA r r' (tX ka C pa E ma) (tX kb C pb E mb) (tX kc C pc E mc) σ H Q:=by
 obtain⟨F,ρ,τ,fp,I,h⟩:=h
 refine⟨F,ρ,τ,fp,I,h.split.mono fun r1 h1 F1 H1 fp1 v1 I1 n1 f1=>?_⟩
 rw[Kd.Yn ok] at I1
 refine⟨F1,r1.2,τ,fp1,I1,h1.split.mono fun r2 h2 F2 H2 fp2 v2 I2 n2 f2=>?_⟩
 rw[Kd.Yn QpJ] at I2
 obtain⟨q,eq,h3⟩:=h2.split.of
 obtain⟨d,eg,eb⟩:=z23.mp eq
 obtain⟨w,ew,hw⟩:=hg H2 v1 v2 _ _ _ (R.top I2 (Kd.stay ok f1 n2 I2)) (R.top I2 (Kd.stay QpJ f2 .refl I2)) eg
 rw[Qkc eb] at ew
 cases ew
 refine hw _ ⟨q,rfl,?_⟩
 by_cases c:q=true
 ·rw[if_pos c] at h3 ⊢
  refine⟨F2,r2.2,τ,fp2,I2,h3.split.mono fun r3 h4 F3 H3 fp3 v3 I3 n3 f3=>?_⟩
  rw[Kd.Yn ok3] at I3
  obtain⟨z,ez,h5⟩:=h4.of
  obtain⟨res,eg',rfl⟩:=z03.mp ez
  obtain⟨w',ew',hw'⟩:=hg' H3 v2 v3 _ _ _ (R.top I3 (Kd.stay ok2 f2 n3 I3)) (R.top I3 (Kd.stay ok3 f3 .refl I3)) eg'
  exact hw' _ (h5 F3 H3 fp3 w' I3 (n1.trans (n2.trans n3)) (.sc ew'))
 ·rw[if_neg c] at h3 ⊢
  exact h3 F2 H2 fp2 _ I2 ((n1.trans n2).weak fun z=>by cases pa<;>cases pb<;>cases pc<;>simp_all) (.sc rfl)
theorem Qku {op op':CmpOp}{r r':R2}{g g':D->D->Option D}(ho:OpR X (compareOp op) r)(ho':OpR X (compareOp op') r')(hg:OpD C.K r g)(hg':OpD C.K r' g')(ha:PE X a (tX ka C pa E ma))(hb:PE X b (tX kb C pb E mb))(hc:PE X c (tX kc C pc E mc))(ok:ka.on pb=true:=by rfl)(ok2:kb.on pc=true:=by rfl)(QpJ:kb.on true=true:=by rfl)(ok3:kc.on true=true:=by rfl)
  (hm:lastMarks [op,op'] [b,c]=false:=by with_unfolding_all rfl):PE X (.Compare a [op,op'] [b,c] pos) (tX .V C (pa && (pb && pc)) E (Qf6 g g' ma mb mc)):=Qp (QlN ho ho' ha hb hc hm) fun _ _ _ h=>Qf7 hg hg' ok ok2 QpJ ok3 h
theorem QhR {op op':CmpOp}{r r':R2}{g g':D->D->Option D}(ho:OpR X (compareOp op) r)(ho':OpR X (compareOp op') r')(hg:OpD C.K r g)(hg':OpD C.K r' g')(ha:PE X a (tX ka C pa E ma))(hb:PE X b (tX kb C pb E mb))(hc:PE X c (tX kc C pc E mc))(ok:ka.on pb=true:=by rfl)(ok2:kb.on pc=true:=by rfl)(QpJ:kb.on true=true:=by rfl)(ok3:kc.on true=true:=by rfl)
  (hm:lastMarks [op,op'] [b,c]=false:=by with_unfolding_all rfl):PT X (.Compare a [op,op'] [b,c] pos) (tT C (pa && (pb && pc)) E (QgY (Qf6 g g' ma mb mc))):=Qe6 (QlO ho ho' ha hb hc hm) fun _ _ _ h=>by
 have q:=Qe7 (k:=.V) rfl h
 exact Qf7 hg hg' ok ok2 QpJ ok3 q
def YS:List D->Option D
 | [.nd .lst ds]=>some (.int ds.length)
 | [.nd .tup ds]=>some (.int ds.length)
 | [.str s]=>if s.length<=z17 then some (.int s.length) else none
 |_=>none
theorem QbV (hK:C.K=X.K):CallD C.K (fun xs H Q=>∃x n,xs=[x]/\Qu4 X.K x H n/\Q (.int (n:Nat)) H) YS:=fun H vs ds res r eg=>by
 unfold YS at eg
 split at eg
 ·obtain⟨v,rfl,h⟩:=r.one
  obtain⟨a,us,rfl,h1,h2⟩:=h.inv
  cases eg
  exact⟨_,rfl,fun Q hq=>⟨.ref a,_,rfl,.inl ⟨us,hK▸h1.sql,h2.length.symm⟩,hq⟩⟩
 ·obtain⟨v,rfl,h⟩:=r.one
  obtain⟨a,us,rfl,h1,h2⟩:=h.inv
  cases eg
  exact⟨_,rfl,fun Q hq=>⟨.ref a,_,rfl,.inr ⟨us,hK▸h1.sqt,h2.length.symm⟩,hq⟩⟩
 ·next s=>
  obtain⟨v,rfl,h⟩:=r.one
  obtain rfl:=h.QK (w:=.str s) rfl
  by_cases c:s.length<=z17
  ·rw[if_pos c] at eg;cases eg
   exact⟨_,rfl,fun Q hq=>⟨.str s,_,rfl,⟨c,rfl⟩,hq⟩⟩
  ·rw[if_neg c] at eg;cases eg
 ·cases eg
noncomputable def gI2 (f:Int->Int->Int):List D->Option D
 | [.int i,.int j]=>some (.int (f i j))
 |_=>none
def Qwd:=gI2 fun i j=>if j > i then j else i
def Qwe:=gI2 fun i j=>if j<i then j else i
theorem dI2 {K:z00}{f:Int->Int->Int}:CallD K (fun xs H Q=>∃i j,xs=[.int i,.int j]/\Q (.int (f i j)) H) (gI2 f):=fun H vs ds res r eg=>by
 unfold gI2 at eg
 split at eg
 ·next i j=>
  cases eg
  obtain⟨v,u,rfl,h1,h2⟩:=r.two
  obtain rfl:=h1.QK (w:=.int i) rfl
  obtain rfl:=h2.QK (w:=.int j) rfl
  exact⟨_,rfl,fun Q hq=>⟨i,j,rfl,hq⟩⟩
 ·cases eg
def Qnc:List D->Option (List Bool)
 | []=>some []
 |.bl b::ds=>(Qnc ds).map (b::·)
 |_=>none
def Qq6:List D->Option D
 | [.nd .lst ds]=>(Qnc ds).map fun bs=>.bl (bs.all fun b=>b)
 |_=>none
theorem QhS {K:z00}{H:Hp}:∀{vs:List L2.V} {ds:List D} {bs:List Bool},RL K H vs ds->Qnc ds=some bs->vs=bs.map V.bl
 |_,_,_,.nil,e=>by unfold Qnc at e;cases e;rfl
 |_,_,_,.cons (d:=d) h r,e=>by
  cases d with
  |bl b=>
   unfold Qnc at e
   obtain⟨bs,h1,rfl⟩:=z03.mp e
   rw[QhS r h1,h.QK (w:=.bl b) rfl]
   rfl
  |_=>cases e
theorem Qwf (hK:C.K=X.K):CallD C.K (fun xs H Q=>∃(p:Addr) (bs:List Bool),xs=[.ref p]/\SqL X.K H p (bs.map V.bl)/\Q (.bl (bs.all fun b=>b)) H) Qq6:=fun H vs ds res r eg=>by
 unfold Qq6 at eg
 split at eg
 ·obtain⟨v,rfl,h⟩:=r.one
  obtain⟨a,us,rfl,h1,h2⟩:=h.inv
  obtain⟨bs,hb,rfl⟩:=z03.mp eg
  exact⟨_,rfl,fun Q hq=>⟨a,bs,rfl,by rw[← QhS h2 hb];exact hK▸h1.sql,hq⟩⟩
 ·cases eg
theorem boot_all:z74 "all" = some (.builtin "all"):=by decide +kernel
theorem Qdu:z74 "max" = some (.builtin "max"):=by decide +kernel
theorem Qdv:z74 "min" = some (.builtin "min"):=by decide +kernel
theorem Jp:z74 "isinstance" = some (.builtin "isinstance"):=by decide +kernel
theorem Qdw:z74 "int" = some (.type "int"):=by decide +kernel
theorem Qet:z74 "bool" = some (.type "bool"):=by decide +kernel
inductive Ty where
 |non|bool|int|str|list|tuple|dict
 deriving DecidableEq
def Ty.nm:Ty->String
 |.non => "NoneType" |.bool => "bool" |.int => "int" |.str => "str" |.list => "list" |.tuple => "tuple" |.dict => "dict"
def Ty.of:D->Option Ty
 |.int _=>some .int|.bl _=>some .bool|.non=>some .non|.str _=>some .str|.ty _=>none|.cls _=>none
 |.nd .lst _=>some .list|.nd .tup _=>some .tuple|.nd (.dT _) _=>some .dict|.nd (.dK _) _=>some .dict|.nd (.ins _ _) _=>none|.nd (.exc _) _=>none
def Ty.sub (t u:Ty):Bool:=t == u || (t == .bool && u == .int)
def Ty.byName (c:String):Option Ty:=if c = "int" then some .int else if c = "bool" then some .bool else if c = "str" then some .str else if c = "list" then some .list else if c = "tuple" then some .tuple else if c = "dict" then some .dict else none
theorem Qf8 {c:String}{u:Ty}(h:Ty.byName c=some u):c=u.nm/\u≠.non:=by
 unfold Ty.byName at h
 repeat' split at h
 all_goals first|(cases h;subst_vars;exact⟨rfl,by decide⟩)|cases h
theorem Qkv (K:z00)(t u:Ty)(hu:u≠.non):z40 K (.type t.nm) (.type u.nm)=some (t.sub u):=by
 cases t<;>cases u<;>first|exact absurd rfl hu|with_unfolding_all rfl
def Qq7 (d:D)(c:String):Option Bool:=(Ty.of d).bind fun t=>(Ty.byName c).map fun u=>t.sub u
def Qq8:List D->Option (List String)
 | []=>some []
 |.ty c::r=>(Qq8 r).map (c::·)
 |_=>none
def Qf9 (d:D):List String->Option Bool
 | []=>some false
 |c::r=>(Qq7 d c).bind fun b=>if b=true then some true else Qf9 d r
def Qmp:List D->Option D
 | [d,.ty c]=>(Qq7 d c).map .bl
 | [d,.nd .tup ts]=>(Qq8 ts).bind fun cs=>((Ty.of d).bind fun _=>Qf9 d cs).map .bl
 |_=>none
theorem Qkw {pins:List @11}{σ:L2.St}{H:Hp}{s:Shared}{x:L2.V}{u:Value}{d:D}{t:Ty}(I:Inv X pins σ H s)(rx:RelV x u)(r:R X.K H x d)(ht:Ty.of d=some t):∃Z:Heap->Prop,PySem.W.KitX X.K u (.type t.nm) Z/\Z s.heap/\u≠.builtin "__main__.__loader__#opaque" := by
 cases d with
 |int i=>cases ht;obtain rfl:=r.QK (w:=.int i) rfl;exact Qej I rx (.int i)
 |bl b=>cases ht;obtain rfl:=r.QK (w:=.bl b) rfl;exact Qej I rx (.bl b)
 |non=>cases ht;obtain rfl:=r.QK (w:=.non) rfl;exact Qej I rx .non
 |str z=>cases ht;obtain rfl:=r.QK (w:=.str z) rfl;exact Qej I rx (.str z)
 |ty n=>cases ht
 |cls n=>cases ht
 |nd tg ds=>
  obtain⟨a,vs,rfl,h1,h2⟩:=r.inv
  cases(show u=z42 a from rx)
  cases tg with
  |lst=>
   cases ht
   obtain⟨its,_,pl,_⟩:=I.list h1.sql
   obtain⟨o,n,e,c,_,_⟩:=pl
   exact⟨_,zl7,⟨o,e,c⟩,fun z=>nomatch z⟩
  |tup=>
   cases ht
   obtain⟨its,_,pl,_⟩:=I.tuple h1.sqt
   obtain⟨o,e,c,_⟩:=pl
   exact⟨_,zt6,⟨o,e,c⟩,fun z=>nomatch z⟩
  |ins _ _=>cases ht
  |exc _=>cases ht
  |dT ks=>cases ht;exact Qej I (show RelV (.ref a) (.ref a) from rfl) (.dT h1.2)
  |dK ks=>cases ht;exact Qej I (show RelV (.ref a) (.ref a) from rfl) (.dK h1.2)
theorem Qga {K:z00}{d:D}{t:Ty}(ht:Ty.of d=some t):∀{cs:List String} {b:Bool},Qf9 d cs=some b->zx0 K (.type t.nm) (cs.map Value.type)=some b
 | [],b,h=>by unfold Qf9 at h;cases h;rfl
 |c::r,b,h=>by
  unfold Qf9 at h
  obtain⟨b1,h1,h2⟩:=z23.mp h
  unfold Qq7 at h1
  rw[ht] at h1
  obtain⟨u,hu,rfl⟩:=z03.mp h1
  obtain⟨rfl,hn⟩:=Qf8 hu
  have hk:=Qkv K t u hn
  show(match z40 K (.type t.nm) (.type u.nm) with|some true=>some true|some false=>zx0 K (.type t.nm) (r.map Value.type)|none=>none)=some b
  rw[hk]
  by_cases cc:t.sub u=true
  ·rw[if_pos cc] at h2;cases h2
   rw[cc]
  ·rw[if_neg cc] at h2
   rw[show t.sub u=false by simpa using cc]
   exact Qga ht h2
theorem Qkx {K:z00}{H:Hp}:∀{vs:List L2.V} {ts:List D} {cs:List String},RL K H vs ts->Qq8 ts=some cs->vs=cs.map V.ty
 |_,_,_,.nil,e=>by unfold Qq8 at e;cases e;rfl
 |_,_,_,.cons (d:=d) h r,e=>by
  cases d with
  |ty b=>
   unfold Qq8 at e
   obtain⟨bs,h1,rfl⟩:=z03.mp e
   rw[Qkx r h1,h.QK (w:=.ty b) rfl]
   rfl
  |_=>cases e
def Qq9 (K:z00):List L2.V->Hp->VK->Prop:=fun xs H Q=>∃ds b,RL K H xs ds/\Qmp ds=some (.bl b)/\Q (.bl b) H
theorem QoA {d:D}{c:String}{b:Bool}(h:Qq7 d c=some b):∃t u,Ty.of d=some t/\Ty.byName c=some u/\b=t.sub u:=by
 unfold Qq7 at h
 obtain⟨t,h1,h2⟩:=z23.mp h
 obtain⟨u,h3,rfl⟩:=z03.mp h2
 exact⟨t,u,h1,h3,rfl⟩
theorem Yi:Qaf X (.builtin "isinstance") (Qq9 X.K):=by
 intro pins s σ H xs us Q I r h
 obtain⟨ds,b,rl,hg,q⟩:=h
 unfold Qmp at hg
 split at hg
 ·next d c=>
  obtain⟨b',hb,e⟩:=z03.mp hg
  cases e
  obtain⟨t,u,h1,h2,rfl⟩:=QoA hb
  obtain⟨x,y,rfl,rx,ry⟩:=rl.two
  obtain rfl:=ry.QK (w:=.ty c) rfl
  obtain⟨p,w',rfl,ru,rc⟩:=Vals.two r
  cases rc
  obtain⟨Z,k,z,ne⟩:=Qkw I ru rx h1
  obtain⟨rfl,hn⟩:=Qf8 h2
  exact PySem.W.kia_one k I.kIn z (Qkv _ t u hn) ne fun tk=>⟨.bl _,H,I.tok tk,rfl,q⟩
 ·next d ts=>
  obtain⟨cs,hc,hg⟩:=z23.mp hg
  obtain⟨b',hb,e⟩:=z03.mp hg
  cases e
  obtain⟨x,y,rfl,rx,ry⟩:=rl.two
  obtain⟨a,vs,rfl,h1,h2⟩:=ry.inv
  obtain⟨p,w',rfl,ru,rc⟩:=Vals.two r
  cases rc
  have ev:=Qkx h2 hc
  subst ev
  obtain⟨its,rv,pl,_⟩:=I.tuple h1.sqt
  obtain⟨⟨cls,dd,data,sl⟩,g1,g2,n,g3⟩:=pl
  have e2:=QjU rv
  subst e2
  simp only at g2 g3
  subst g2 g3
  cases ht:Ty.of d with
  |none=>rw[ht] at hb;cases hb
  |some t=>
   rw[ht] at hb
   obtain⟨Z,k,z,ne⟩:=Qkw I ru rx ht
   exact PySem.W.kia_tup k I.kIn z g1 (Qga ht hb) ne fun tk=>⟨.bl _,H,I.tok tk,rfl,q⟩
 ·cases hg
theorem Qnd (hK:C.K=X.K):CallD C.K (Qq9 X.K) Qmp:=fun H vs ds res r eg=>by
 have e:∃b,res=.bl b:=by
  unfold Qmp at eg
  split at eg
  ·obtain⟨b,_,rfl⟩:=z03.mp eg;exact⟨b,rfl⟩
  ·obtain⟨cs,_,eg⟩:=z23.mp eg
   obtain⟨b,_,rfl⟩:=z03.mp eg;exact⟨b,rfl⟩
  ·cases eg
 obtain⟨b,rfl⟩:=e
 exact⟨_,rfl,fun Q hq=>⟨ds,b,hK▸r,eg,hq⟩⟩
noncomputable def Qbu (ds:List D):List D:=ds.zipIdx.map fun x=>.tup [.int (x.2:Nat),x.1]
theorem QhT {K:z00}{F:Hp}{a:Addr}{kd:Bool}{vs:List L2.V}{ds:List D}(h:At K F a (if kd then .lst else .tup) vs)(r:RL K F vs ds):ItD K F (Qbu ds) (Itq kd K a):=by
 have up:∀{F' H:Hp},Qu F F'->Qu F' H->SqB kd K H a vs:=fun s1 s2=>by
  cases kd with
  |true=>exact(At.same (t:=.lst) h (s1.trans s2)).sql
  |false=>exact(At.same (t:=.tup) h (s1.trans s2)).sqt
 have get:∀{i:Nat} {d:D},(Qbu ds)[i]? = some d->∃x,ds[i]? = some x/\d=.tup [.int (i:Nat),x]:=fun{i d} e=>by
  unfold Qbu at e
  rw[z22] at e
  obtain⟨q,hq,rfl⟩:=z03.mp e
  rw[zv0] at hq
  obtain⟨x,hx,rfl⟩:=z03.mp hq
  exact⟨x,hx,by simp⟩
 refine⟨fun{C F' H σ ρ τ fp i d} hk I s e=>?_,fun{C F' H σ ρ τ fp} hk I s=>?_⟩
 ·obtain⟨x,hx,rfl⟩:=get e
  obtain⟨v,ev,rv⟩:=r.get hx
  have q:=up s I.fh
  have fin:∀{T:Addr} {y:L2.V},H T=none->y=v->∃F'',SI C F'' (upd H T (.tup [.int (i:Nat),y])) σ ρ τ fp/\Nx true F' H fp F'' (upd H T (.tup [.int (i:Nat),y])) fp/\R K F'' (.ref T) (.tup [.int (i:Nat),x]):=fun{T y} hT ey=>by
   subst ey
   have s2:=Qu.upd (o:=HO.tup [.int (i:Nat),y]) (I.fh.free hT)
   exact⟨_,I.lay hT,⟨s2,fun _=>Qeo I hT⟩,.nd (t:=.tup) Qs (.cons (.sc rfl) (.cons (rv.same (s.trans s2)) .nil))⟩
  cases kd with
  |true=>exact⟨⟨vs,v,q,ev⟩,fun x0 H' ⟨T,y,hT,e1,e2,e3⟩=>by
    subst e1 e2
    have z:=e3 vs q
    rw[ev] at z
    exact fin hT (z21 z).symm⟩
  |false=>exact⟨⟨vs,v,q,ev⟩,fun x0 H' ⟨T,y,hT,e1,e2,e3⟩=>by
    subst e1 e2
    have z:=e3 vs q
    rw[ev] at z
    exact fin hT (z21 z).symm⟩
 ·have q:=up s I.fh
  have l:=r.length
  have l2:(Qbu ds).length=ds.length:=by unfold Qbu;rw[z01,zm4]
  cases kd with
  |true=>exact⟨vs,q,by lia⟩
  |false=>exact⟨vs,q,by lia⟩
def Qra (mr:MA):MA:=fun ρ=>(mr ρ).bind fun r=>(Rs.of (Qi5 r.1)).bind fun ds=>.ok (Qbu ds,r.2)
theorem QoB {es:List Expr}{k0:Nat}{tp px:Pos}(hm:X.mg "enumerate" = none)(hK:C.K=X.K)(ha:PA X [e] (tA ks C p E mr))(ok:knL ks=true:=by rfl)(hg:Gl X "enumerate" := by rfl)(hs:starEach [e] X.env=(false,eval e X.env)::starEach [] X.env:=by rfl)(hpl:(backTo pos (starEach [] X.env)).any (·.1)=false:=by rfl) :
  PI X (.Tuple es k0 tp) (.Call (.Name "enumerate" px) [e] [] pos) (tI C p E (Qra mr)):=Qg2 (Ql0 hg hm ha hs hpl) fun σ H RR ⟨F,ρ,τ,fp,I,h⟩=>by
 refine⟨F,ρ,τ,fp,I,h.split.mono fun r hr F1 H1 fp1 vs I1 n1 f1=>?_⟩
 rw[Yv (Qa0 ok)] at I1
 obtain⟨ds,eg,h2⟩:=hr.split.of
 obtain⟨q,us,rfl,hs,rl⟩:=QhI (f1.kn ok) eg
 rcases hs with hs|hs
 ·refine⟨q,true,rfl,⟨us,by rw[← hK];exact(At.same hs I1.fh).sql⟩,h2 F1 H1 fp1 _ I1 n1 ?_⟩
  rw[← hK]
  exact QhT (kd:=true) hs rl
 ·refine⟨q,false,rfl,⟨us,by rw[← hK];exact(At.same hs I1.fh).sqt⟩,h2 F1 H1 fp1 _ I1 n1 ?_⟩
  rw[← hK]
  exact QhT (kd:=false) hs rl
end
noncomputable def Qax (ρ:Rho)(i:Nat):Option (Bool×List D):=match ρ[i]? with
 |some (some (.own (.nd .lst ds)))=>some (false,ds)
 |some (some (.par (.nd .lst ds)))=>some (true,ds)
 |_=>none
theorem JT {ρ:Rho}{i:Nat}{q:Bool×List D}(h:Qax ρ i=some q):ρ[i]? = some (some (mkS q.1 (.lst q.2))):=by
 unfold Qax at h
 split at h
 ·next e=>cases h;exact e
 ·next e=>cases h;exact e
 ·cases h
section
variable {K:z00}{F H:Hp}
theorem OL.snoc {vs:List L2.V}{ds:List D}{f g:List Addr}{v:L2.V}{d:D}(o:OL K F H vs ds f)(h:O K F H v d g):OL K F H (vs++[v]) (ds++[d]) (f++g):=by
 have q:=o.app (.cons h .nil)
 rw[z52] at q
 exact q
theorem OL.setAt:∀{vs:List L2.V} {ds:List D} {f:List Addr} {j:Nat},OL K F H vs ds f->j<ds.length->∃f1 fj f2 v d,f=f1++(fj++f2)/\vs[j]? = some v/\ds[j]? = some d/\O K F H v d fj/\∀{F' H':Hp} {v':L2.V} {d':D} {g:List Addr},Qu F F'->(∀a∈f1++f2,H' a=H a)->O K F' H' v' d' g->OL K F' H' (vs.set j v') (ds.set j d') (f1++(g++f2))
 |_,_,_,j,.nil,h=>by simp at h
 |_,_,_,0,.cons (f:=f) (g:=g) a r,_=>⟨[],f,g,_,_,rfl,rfl,rfl,a,fun{F' H' v' d' g'} sf k o=>by
  show OL K F' H' (_::_) (_::_) (g'++g)
  exact .cons o (r.keep sf k)⟩
 |_,_,_,j+1,.cons (f:=f) (g:=g) a r,h=>by
  obtain⟨f1,fj,f2,v,d,rfl,e1,e2,o,k⟩:=OL.setAt r (j:=j) (by simpa using h)
  refine⟨f++f1,fj,f2,v,d,by simp[z20],by simpa using e1,by simpa using e2,o,fun{F' H' v' d' g'} sf kk o'=>?_⟩
  have q:=OL.cons (a.keep sf fun b hb=>kk b (by simp[hb])) (k sf (fun b hb=>kk b (by simp at hb ⊢;rcases hb with z|z<;>simp[z])) o')
  simpa[z20] using q
theorem O.QhU {v:L2.V}{ds:List D}{f:List Addr}(o:O K F H v (.nd .lst ds) f):∃a vs g,v=.ref a/\f=a::g/\H a=some (.lst vs)/\OL K F H vs ds g:=by
 cases o with
 |sc e=>cases e
 |im m h r=>cases m
 |mt h r=>exact⟨_,_,_,rfl,rfl,h,r⟩
end
section
variable {X:Cx}{C:Cn}{E:XE}{p pa pb:Bool}{e a b:Expr}{es:List Expr}{m mi:ME}{pos:Pos}{kb rk:Kd}{ks:List Kd}
theorem SI.Qdx {F H:Hp}{σ:L2.St}{ρ:Rho}{τ:List (L2.V×D)}{fp:List Addr}{i:Nat}{par:Bool}{ds:List D}(I:SI C F H σ ρ τ fp)(es:ρ[i]? = some (some (mkS par (.lst ds)))):∃l vs f rest,σ[i]? = some (some (.ref l))/\H l=some (.lst vs)/\OL C.K F H vs ds f/\fp.Perm ((l::f)++rest)/\(∀b∈l::f,Vz C par b)/\
  ∀{H':Hp} {vs':List L2.V} {ds':List D} {f':List Addr},H' l=some (.lst vs')->OL C.K F H' vs' ds' f'->(∀b,b∈rest->H' b=H b)->(∀b o,H b=some o->b∉l::f->H' b=some o)->(∀b,H' b=none->H b=none)->((l::f')++rest).Nodup->(∀b∈f',F b=none/\Vz C par b)->SI C F H' σ (ρ.set i (some (mkS par (.lst ds')))) τ ((l::f')++rest):=by
 obtain⟨x,f0,g0,rest,ex,s1,pm,w0,w1,cl⟩:=I.cut es
 obtain⟨v,fi,ev,ho,efi,wfi⟩:∃v fi,x=some v/\O C.K F H v (.nd .lst ds) fi/\f0++g0=fi/\∀a∈fi,Vz C par a:=by
  cases par with
  |false=>cases s1 with|own h=>exact⟨_,_,rfl,h,by simp,fun a ha=>.inl (w0 a ha)⟩
  |true=>cases s1 with|par h=>exact⟨_,_,rfl,h,rfl,fun a ha=>(w1 a ha).elim (fun z=>.inr ⟨rfl,z⟩) fun z=>.inl z⟩
 subst ev
 obtain⟨l,vs,g,rfl,rfl,hl,ol⟩:=ho.QhU
 have pm':fp.Perm ((l::g)++rest):=by
  rw[← efi,z20];exact pm
 have ndp:=pm'.nodup_iff.mp I.nd
 refine⟨l,vs,g,rest,ex,hl,ol,pm',wfi,fun{H' vs' ds' f'} hl' ol' hk kp dm nd fr=>?_⟩
 have hF:Qu F H':=fun b o e=>by
  refine kp b o (I.fh b o e) fun z=>?_
  have:=I.ap b (pm'.mem_iff.mpr (z06 _ z))
  rw[e] at this;cases this
 have nop:∀b,C.H₀ b≠none->b∉C.A->b∉l::g:=fun b h1 h2 z=>by
  rcases wfi b z with y|y
  ·exact h1 y
  ·exact h2 y.2
 have apn:∀b∈(l::f')++rest,F b=none:=fun b hb=>by
  rcases z05.mp hb with z|z
  ·rcases z15.mp z with rfl|z
   ·exact I.ap _ (pm'.mem_iff.mpr @9)
   ·exact(fr b z).1
  ·exact I.ap b (pm'.mem_iff.mpr (z02 _ z))
 have frn:∀b∈l::f',Vz C par b:=fun b hb=>by
  rcases z15.mp hb with rfl|z
  ·exact wfi _ z07
  ·exact(fr b z).2
 have es':=es
 cases par with
 |false=>
  have J:=cl (F':=F) (H':=H') (x':=some (.ref l)) (s':=some (.own (.lst ds'))) (f0':=l::f') (g0':=[]) (Qu.refl F) hF hk dm (fun b o e n z=>kp b o z (nop b (by rw[e];simp) n)) (fun _ _ z=>.inl z) (.own (.mt (t:=.lst) hl' ol')) nd apn (fun b hb=>(frn b hb).resolve_right fun z=>nomatch z.1) @2 (fun v hv=>by
   obtain⟨_,d',z⟩:=I.pr _ _ hv
   rw[es] at z;cases z)
  rw[JC ex] at J
  exact J
 |true=>
  have J:=cl (F':=F) (H':=H') (x':=some (.ref l)) (s':=some (.par (.lst ds'))) (f0':=[]) (g0':=l::f') (Qu.refl F) hF hk dm (fun b o e n z=>kp b o z (nop b (by rw[e];simp) n)) (fun _ _ z=>.inl z) (.par (.mt (t:=.lst) hl' ol')) nd apn @2 (fun b hb=>(frn b hb).elim (fun z=>.inr z) fun z=>.inl z.2) (fun v hv=>⟨by
   obtain⟨z,_⟩:=I.pr _ _ hv
   rw[ex] at z;exact z21 z,_,rfl⟩)
  rw[JC ex] at J
  exact J
theorem SI.Qgb {F H:Hp}{σ:L2.St}{ρ:Rho}{τ:List (L2.V×D)}{fp:List Addr}{i:Nat}{par:Bool}{ds:List D}(I:SI C F H σ ρ τ fp)(es:ρ[i]? = some (some (mkS par (.lst ds)))):∃l vs f rest,σ[i]? = some (some (.ref l))/\H l=some (.lst vs)/\OL C.K F H vs ds f/\fp.Perm ((l::f)++rest)/\(∀b∈l::f,Vz C par b)/\
  ∀{vs':List L2.V} {ds':List D} {f':List Addr},OL C.K F H vs' ds' f'->((l::f')++rest).Nodup->(∀b∈f',F b=none/\Vz C par b)->SI C F (upd H l (.lst vs')) σ (ρ.set i (some (mkS par (.lst ds')))) τ ((l::f')++rest):=by
 obtain⟨l,vs,f,rest,ex,hl,ol,pm,w,cl⟩:=I.Qdx es
 have ndp:=pm.nodup_iff.mp I.nd
 refine⟨l,vs,f,rest,ex,hl,ol,pm,w,fun{vs' ds' f'} ol' nd fr=>?_⟩
 have nl:∀{b:Addr},b∈f'\/b∈rest->b≠l:=fun{b} hb z=>by
  subst z
  have:=(z72.mp (show(b::(f'++rest)).Nodup from nd)).1
  exact this (z05.mpr hb)
 refine cl Qs (ol'.keep (Qu.refl _) fun b hb=>Qk (nl (.inl hb))) (fun b hb=>Qk (nl (.inr hb))) (fun b o e n=>(Qk (by intro z;subst z;exact n z07)).trans e) (fun b e=>?_) nd fr
 by_cases hb:b=l
 ·subst hb;rw[Qs] at e;cases e
 ·rw[Qk hb] at e;exact e
def QtY (i:Nat)(m:ME):MS:=fun ρ=>(Rs.of (Qax ρ i)).bind fun _=>(m ρ).bind fun r=>(Rs.of (Qax r.2 i)).bind fun q=>if q.2.length<z17 then .ok (.nx,r.2.set i (some (mkS q.1 (.lst (q.2++[r.1]))))) else .no
theorem Qky {i:Nat}{x:Str}{np apos cpos:Pos}(hK:C.K=X.K)(hN:X.N[i]? = some x)(hv:Vis X.env.scope x)(he:PE X e (tX .O C p E m))(hs:swapsWith (.Call (.Attribute (.Name x np) "append" apos) [e] [] cpos) none pos.line X.env=pure false:=by rfl)
  (hbase:attributeBase (.Name x np) "append" X.env (eval (.Name x np) X.env)=eval (.Name x np) X.env:=by rfl) (hfew:((backTo cpos (starEach [e] X.env)).all (fun x=>!x.1) && (backToKw cpos (keywordEach [] X.env)).all (fun x=>x.1.isSome) && decide ([e].length+([]:List Keyword).length+(if([]:List Keyword).isEmpty then 0 else 1)<30))=true:=by rfl)
  (hline:(apos.endLine == cpos.line)=true:=by rfl) (hst:starEach [e] X.env=(false,eval e X.env)::starEach [] X.env:=by rfl) (hplain:(backTo cpos (starEach [] X.env)).any (·.1)=false:=by rfl) (hd:@6=false:=by decide) (hcd:(x == ("__classdict__" : Str))=false:=by decide) :
  PS X (.Expr (.Call (.Attribute (.Name x np) "append" apos) [e] [] cpos) pos) (tS rk C E (QtY i m)):=
 Jl (QeO (Qn8 ze9 PySem.F.slot_list_append PySem.F.type_list_append QjP (Qan hN hv hd hcd) (QgK he QjE hst) hbase hfew hline hst hplain) hs) fun D σ H ⟨F,ρ,fp,I,h⟩=>by
 obtain⟨q0,e0,h⟩:=h.split.of
 obtain⟨l0,vs0,f0,Qg0,ex0,hl0,_⟩:=I.Qdx (JT e0)
 refine⟨_,ex0,.inl ⟨rfl,vs0,SqL.of hl0⟩,F,ρ,[],fp,I,h.split.run.mono fun r hr F1 H1 fp1 v I1 n1 _=>?_⟩
 obtain⟨q,eq,h2⟩:=hr.split.of
 obtain⟨ft,Qkz,ot,pmt,J,t0,tap,tnd⟩:=SI.pop (τ:=[]) I1
 obtain⟨l,vs,f,rest,ex,hl,ol,pm,w,cl⟩:=J.Qgb (JT eq)
 have el:l=l0:=by rw[ex0] at ex;cases ex;rfl
 subst el
 by_cases hz:q.2.length<z17
 ·rw[if_pos hz] at h2
  have ndJ:=pm.nodup_iff.mp J.nd
  refine⟨l,vs,v,rfl,rfl,hl,by rw[ol.length];exact hz,?_⟩
  refine h2 F1 _ σ _ n1.f (cl (ol.snoc ot) ?_ fun b hb=>?_)
  ·have pp:(ft++((l::f)++rest)).Perm ((l::(f++ft))++rest):=by
    rw[z83]
    intro a
    simp only[z88,zg7]
    lia
   exact pp.nodup_iff.mp ((pm.append_left ft).nodup_iff.mp tnd)
  ·rcases z05.mp hb with z|z
   ·exact⟨J.ap b (pm.mem_iff.mpr (by simp[z])),w b (z08 _ z)⟩
   ·exact⟨tap b z,.inl (t0 b z)⟩
 ·rw[if_neg hz] at h2;exact h2.elim
noncomputable def asL:D->Option (List D)
 |.nd .lst ds=>some ds
 |_=>none
theorem QbW {d:D}{ds:List D}(h:asL d=some ds):d=.nd .lst ds:=by
 unfold asL at h
 split at h
 ·cases h;rfl
 ·cases h
noncomputable def asI:D->Option Int
 |.int i=>some i
 |_=>none
theorem Qgc {d:D}{i:Int}(h:asI d=some i):d=.int i:=by
 cases d<;>cases h
 rfl
def QtZ (i:Nat)(m:ME):MS:=fun ρ=>(Rs.of (Qax ρ i)).bind fun _=>(m ρ).bind fun r=>(Rs.of (Qax r.2 i)).bind fun q=>(Rs.of (asL r.1)).bind fun ds=>if q.2.length+ds.length<=z17 then .ok (.nx,r.2.set i (some (mkS q.1 (.lst (q.2++ds))))) else .no
theorem Qt0 {i:Nat}{x:Str}{np apos cpos:Pos}(hK:C.K=X.K)(hN:X.N[i]? = some x)(hv:Vis X.env.scope x)(he:PE X e (tX .O C p E m))(hs:swapsWith (.Call (.Attribute (.Name x np) "extend" apos) [e] [] cpos) none pos.line X.env=pure false:=by rfl)
  (hbase:attributeBase (.Name x np) "extend" X.env (eval (.Name x np) X.env)=eval (.Name x np) X.env:=by rfl) (hfew:((backTo cpos (starEach [e] X.env)).all (fun x=>!x.1) && (backToKw cpos (keywordEach [] X.env)).all (fun x=>x.1.isSome) && decide ([e].length+([]:List Keyword).length+(if([]:List Keyword).isEmpty then 0 else 1)<30))=true:=by rfl)
  (hline:(apos.endLine == cpos.line)=true:=by rfl) (hst:starEach [e] X.env=(false,eval e X.env)::starEach [] X.env:=by rfl) (hplain:(backTo cpos (starEach [] X.env)).any (·.1)=false:=by rfl) (hd:@6=false:=by decide) (hcd:(x == ("__classdict__" : Str))=false:=by decide) :
  PS X (.Expr (.Call (.Attribute (.Name x np) "extend" apos) [e] [] cpos) pos) (tS rk C E (QtZ i m)):=
 Jl (QeO (Qn8 ze9 PySem.F.slot_list_extend PySem.F.type_list_extend QjQ (Qan hN hv hd hcd) (QgK he QjE hst) hbase hfew hline hst hplain) hs) fun D σ H ⟨F,ρ,fp,I,h⟩=>by
 obtain⟨q0,e0,h⟩:=h.split.of
 obtain⟨l0,vs0,f0,Qg0,ex0,hl0,_⟩:=I.Qdx (JT e0)
 refine⟨_,ex0,.inl ⟨rfl,vs0,SqL.of hl0⟩,F,ρ,[],fp,I,h.split.run.mono fun r hr F1 H1 fp1 v I1 n1 _=>?_⟩
 obtain⟨q,eq,h2⟩:=hr.split.of
 obtain⟨ft,Qkz,ot,pmt,J,t0,tap,tnd⟩:=SI.pop (τ:=[]) I1
 obtain⟨l,vs,f,rest,ex,hl,ol,pm,w,cl⟩:=J.Qgb (JT eq)
 have el:l=l0:=by rw[ex0] at ex;cases ex;rfl
 subst el
 obtain⟨d,ρ1⟩:=r
 dsimp only at h2 eq ot J
 obtain⟨ds,ed,h3⟩:=h2.split.of
 obtain rfl:=QbW ed
 ·by_cases hz:q.2.length+ds.length<=z17
  ·rw[if_pos hz] at h3
   obtain⟨bb,us,g,rfl,rfl,hb,ob⟩:=ot.QhU
   refine⟨l,bb,vs,us,rfl,rfl,hl,hb,by rw[ol.length,ob.length];exact hz,?_⟩
   refine h3 F1 _ σ _ n1.f (cl (ol.app ob) ?_ fun b hb=>?_)
   ·have Qwg:(g++Qkz).Nodup:=(z72.mp (show(bb::(g++Qkz)).Nodup from tnd)).2
    have pp:(g++((l::f)++rest)).Perm ((l::(f++g))++rest):=by
     rw[z83]
     intro a
     simp only[z88,zg7]
     lia
    exact pp.nodup_iff.mp ((pm.append_left g).nodup_iff.mp Qwg)
   ·rcases z05.mp hb with z|z
    ·exact⟨J.ap b (pm.mem_iff.mpr (by simp[z])),w b (z08 _ z)⟩
    ·exact⟨tap b (z08 _ z),.inl (t0 b (z08 _ z))⟩
  ·rw[if_neg hz] at h3;exact h3.elim
def QhV (i:Nat)(m mi:ME):MS:=fun ρ=>(m ρ).bind fun r=>(Rs.of (Qax r.2 i)).bind fun _=>(mi r.2).bind fun s=>(Rs.of (Qax s.2 i)).bind fun q=>(Rs.of ((asI s.1).bind fun n=>ixN q.2.length n)).bind fun j=>
 .ok (.nx,s.2.set i (some (mkS q.1 (.lst (q.2.set j r.1)))))
theorem Qne {n:Nat}{i:Int}{j:Nat}(h:ixN n i=some j):j<n:=by
 unfold ixN at h
 split at h
 ·split at h
  ·cases h;lia
  ·cases h
 ·split at h
  ·cases h;lia
  ·cases h
theorem Qdy {i:Nat}{x:Str}{np spos:Pos}{ix:Expr}(hK:C.K=X.K)(hN:X.N[i]? = some x)(hv:Vis X.env.scope x)(he:PE X e (tX .O C pa E m))(hi:PE X ix (tX kb C pb E mi))(ok:kb.on true=true:=by rfl)
  (hs:swapsWithSole [.Subscript (.Name x np) ix spos] e pos.line X.env=pure false:=by rfl) (hw:swappedStores [.Subscript (.Name x np) ix spos] e X.env=pure none:=by rfl)
  (h1:(assignEach [.Subscript (.Name x np) ix spos] X.env).map (·.2)=[assign (.Subscript (.Name x np) ix spos) X.env]:=by rfl)
  (hg:PG X (.Subscript (.Name x np) ix spos) (L2.QpD (QsX i) (tX kb C pb E mi) Qn7)) :
  PS X (.Assign [.Subscript (.Name x np) ix spos] e pos) (tS rk C E (QhV i m mi)):=
 Jl (Qju he hg hs hw h1) fun D σ H ⟨F,ρ,fp,I,h⟩=>by
 refine⟨F,ρ,[],fp,I,h.split.run.mono fun r hr F1 H1 fp1 v I1 n1 _=>?_⟩
 obtain⟨q0,e0,hr⟩:=hr.split.of
 obtain⟨l0,vs0,f0,Qg0,ex0,hl0,_⟩:=SI.Qdx I1 (JT e0)
 refine⟨_,ex0,F1,r.2,[(v,r.1)],fp1,I1,hr.split.run.mono fun s hs F2 H2 fp2 iv I2 n2 f2=>?_⟩
 rw[Kd.Yn ok] at I2
 obtain⟨q,eq,h2⟩:=hs.split.of
 obtain⟨j,ej,h3⟩:=h2.split.of
 obtain⟨n,en,ejn⟩:=z23.mp ej
 have riv:=Kd.stay ok f2 .refl I2
 rw[Qgc en] at riv
 obtain rfl:=riv.QK (w:=.int n) rfl
 obtain⟨ft,Qkz,ot,pmt,J,t0,tap,tnd⟩:=SI.pop (τ:=[]) I2
 obtain⟨l,vs,f,rest,ex,hl,ol,pm,w,cl⟩:=J.Qgb (JT eq)
 have el:l=l0:=by rw[ex0] at ex;cases ex;rfl
 subst el
 have lj:j<q.2.length:=Qne ejn
 obtain⟨f1,fj,f2',v0,d0,rfl,_,_,_,ks⟩:=ol.setAt lj
 refine⟨l,vs,n,j,rfl,rfl,hl,by rw[ol.length];exact ejn,?_⟩
 refine h3 F2 _ σ _ (n1.f.trans n2.f) (cl (ks (Qu.refl _) (fun _ _=>rfl) ot) ?_ fun b hb=>?_)
 ·have big:=(pm.append_left ft).nodup_iff.mp tnd
  have pp:(ft++((l::(f1++(fj++f2')))++rest)).Perm (fj++((l::(f1++(ft++f2')))++rest)):=by
   rw[z83]
   intro a
   simp only[z88,zg7]
   lia
  exact(z09.mp (pp.nodup_iff.mp big)).2.1
 ·simp only[z05] at hb
  rcases hb with z|z|z
  ·exact⟨J.ap b (pm.mem_iff.mpr (by simp[z])),w b (by simp[z])⟩
  ·exact⟨tap b z,.inl (t0 b z)⟩
  ·exact⟨J.ap b (pm.mem_iff.mpr (by simp[z])),w b (by simp[z])⟩
end
section
variable {X:Cx}{C:Cn}{E:XE}{p pa pb:Bool}{e a b c:Expr}{es:List Expr}{m ma mb mi:ME}{pos:Pos}{k ka kb rk:Kd}{ks:List Kd}
def Qt1 (K:z00):R2:=fun x y H Q=>∃l b xs zs,x=.ref l/\y=.ref b/\SqL K H l xs/\SqL K H b zs/\xs.length+zs.length<=z17/\∀p,H p=none->Q (.ref p) (upd H p (.lst (xs++zs)))
theorem QkA:OpR X (binaryOp .Add) (Qt1 X.K):=by
 intro pins s σ H x y v u Q I rx ry h
 obtain⟨l,b,xs,zs,rfl,rfl,hH,hB,hz,q⟩:=h
 cases rx
 cases ry
 obtain⟨its,r,pl,z⟩:=I.list hH
 obtain⟨its2,r2,pl2,z2⟩:=I.list hB
 obtain⟨⟨cls,dd,data,sl⟩,n,ho,hc,hdd,hd⟩:=pl
 obtain⟨⟨cls2,dd2,data2,sl2⟩,n2,ho2,hc2,QwK,hd2⟩:=pl2
 cases hc;cases hd;cases hc2;cases hd2
 have hl:=r.length
 have hl2:=r2.length
 refine PySem.concat_meets ⟨_,ho,rfl⟩ ⟨_,ho2,rfl⟩ PySem.noFill_list_add PySem.seq_list_add PySem.F.slot_list_add PySem.F.entry_list_add (PySem.F.args_list_add_2 _ _) (PyProof.Rows.list_addW l b its.toArray its2.toArray n n2 dd dd2 sl sl2 (by rw[z18,z18];lia)) ⟨ho,ho2,?_⟩
 have ea:its.toArray++its2.toArray=(its++its2).toArray:=by simp
 rw[ea]
 exact⟨.ref _,_,I.QvZ (t':=s.toks) (r.append r2) (by rw[z16];lia),rfl,q _ I.fresh⟩
def QkB (ma mb:ME):ME:=fun ρ=>(ma ρ).bind fun r1=>(mb r1.2).bind fun r2=>(Rs.of (asL r1.1)).bind fun xs=>(Rs.of (asL r2.1)).bind fun ys=>if xs.length+ys.length<=z17 then .ok (.lst (xs++ys),r2.2) else .no
def QkC (ma mb:ME):ME:=fun ρ=>(ma ρ).bind fun r1=>(mb r1.2).bind fun r2=>(Rs.of (asL r1.1)).bind fun xs=>(Rs.of (asL r2.1)).bind fun ys=>if xs.length+ys.length<=z17 then(if D.Jb (xs++ys)=true then .ok (.lst (xs++ys),r2.2) else .no) else .no
theorem QcD (hK:C.K=X.K)(ha:PE X a (tX .V C pa E ma))(hb:PE X b (tX .V C pb E mb)):PE X (.BinOp a .Add b pos) (tX .V C (pa && pb) E (QkB ma mb)):=Qp (QnQ QkA ha hb) fun σ H Q ⟨F,ρ,τ,fp,I,h⟩=>by
 refine⟨F,ρ,τ,fp,I,h.split.mono fun r1 h1 F1 H1 fp1 v1 I1 n1 f1=>?_⟩
 refine⟨F1,r1.2,τ,fp1,I1,h1.split.mono fun r2 h2 F2 H2 fp2 v2 I2 n2 f2=>?_⟩
 obtain⟨xs,e1,h3⟩:=h2.split.of
 obtain⟨ys,e2,h4⟩:=h3.split.of
 have g1:R C.K F2 v1 (.nd .lst xs):=by rw[← QbW e1];exact R.same n2.f f1
 have g2:R C.K F2 v2 (.nd .lst ys):=by rw[← QbW e2];exact f2
 obtain⟨l1,us,rfl,a1,rl1⟩:=g1.inv
 obtain⟨l2,ws,rfl,a2,rl2⟩:=g2.inv
 by_cases hz:xs.length+ys.length<=z17
 ·rw[if_pos hz] at h4
  refine⟨l1,l2,us,ws,rfl,rfl,hK▸At.same a1 I2.fh,hK▸At.same a2 I2.fh,by rw[rl1.length,rl2.length];exact hz,fun q hq=>?_⟩
  have s:=Qu.upd (o:=HO.lst (us++ws)) (I2.fh.free hq)
  exact h4 _ _ fp2 _ (I2.lay hq) (((n1.trans n2).trans (q:=true) ⟨s,fun _=>Qeo I2 hq⟩).weak fun z=>by simpa using z) (.nd (t:=.lst) (.inl (.inl Qs)) ((rl1.app rl2).same s))
 ·rw[if_neg hz] at h4;exact h4.elim
theorem Qnf (hK:C.K=X.K)(ha:PE X a (tX ka C pa E ma))(hb:PE X b (tX kb C pb E mb))(ok:ka.on pb=true:=by rfl)(ok2:kb.on true=true:=by rfl):PE X (.BinOp a .Add b pos) (tX .O C (pa && pb) E (QkC ma mb)):=Qp (QnQ QkA ha hb) fun σ H Q ⟨F,ρ,τ,fp,I,h⟩=>by
 refine⟨F,ρ,τ,fp,I,h.split.mono fun r1 h1 F1 H1 fp1 v1 I1 n1 f1=>?_⟩
 rw[Kd.Yn ok] at I1
 refine⟨F1,r1.2,τ,fp1,I1,h1.split.mono fun r2 h2 F2 H2 fp2 v2 I2 n2 f2=>?_⟩
 rw[Kd.Yn ok2] at I2
 obtain⟨xs,e1,h3⟩:=h2.split.of
 obtain⟨ys,e2,h4⟩:=h3.split.of
 have g1:R C.K (jn F2 H2 fp2) v1 (.nd .lst xs):=by rw[← QbW e1];exact Kd.stay ok f1 n2 I2
 have g2:R C.K (jn F2 H2 fp2) v2 (.nd .lst ys):=by rw[← QbW e2];exact Kd.stay ok2 f2 .refl I2
 obtain⟨l1,us,rfl,a1,rl1⟩:=g1.inv
 obtain⟨l2,ws,rfl,a2,rl2⟩:=g2.inv
 by_cases hz:xs.length+ys.length<=z17
 ·rw[if_pos hz] at h4
  by_cases hi:D.Jb (xs++ys)=true
  ·rw[if_pos hi] at h4
   refine⟨l1,l2,us,ws,rfl,rfl,hK▸At.same a1 (Vn I2.fh),hK▸At.same a2 (Vn I2.fh),by rw[rl1.length,rl2.length];exact hz,fun q hq=>?_⟩
   exact h4 _ _ _ _ (I2.newList hq (I2.loL (rl1.app rl2) hi) hi) (((n1.trans n2).trans (q:=true) ⟨Qu.refl _,fun _=>Qep I2 hq⟩).weak fun z=>by simpa using z) z54
  ·rw[if_neg hi] at h4;exact h4.elim
 ·rw[if_neg hz] at h4;exact h4.elim
abbrev MO:=Rho->Rs (Option Int×Rho)
def tO (C:Cn)(p:Bool)(E:XE)(m:MO):TO:=fun σ H Q=>∃F ρ τ fp,SI C F H σ ρ τ fp/\Run C E σ (m ρ) fun r=>∀F' H' fp',SI C F' H' σ r.2 τ fp'->Nx p F H fp F' H' fp'->Q r.1 H'
def Qt2:MO:=fun ρ=>.ok (none,ρ)
def Qt3 (m:ME):MO:=fun ρ=>(m ρ).bind fun r=>(Rs.of (asI r.1)).bind fun i=>.ok (some i,r.2)
theorem QkD {e:Option Expr}{t t':TO}(h:PO X e t)(k:∀σ H Q,t' σ H Q->t σ H Q):PO X e t':=fun pins s σ H Q I q=>h pins s σ H Q I (k _ _ _ q)
theorem Qd8:PO X none (tO C true E Qt2):=QkD Qn4 fun σ H Q ⟨F,ρ,τ,fp,I,h⟩=>h F H fp I .refl
theorem Y7 (h:PE X e (tX k C p E m))(ok:k.on true=true:=by rfl):PO X (some e) (tO C p E (Qt3 m)):=QkD (Qn5 h) fun σ H Q ⟨F,ρ,τ,fp,I,h⟩=>by
 refine⟨F,ρ,τ,fp,I,h.split.mono fun r1 h1 F1 H1 fp1 v1 I1 n1 f1=>?_⟩
 rw[Kd.Yn ok] at I1
 obtain⟨i,ei,h2⟩:=h1.split.of
 have rr:=Kd.stay ok f1 .refl I1
 rw[Qgc ei] at rr
 exact⟨i,rr.QK rfl,h2 F1 H1 fp1 I1 n1⟩
noncomputable def cutD {α:Type}(xs:List α)(lo hi:Option Int):List α:=(xs.drop (HT.sIx xs.length 0 lo)).take (HT.sIx xs.length xs.length hi - HT.sIx xs.length 0 lo)
theorem RL.drop {K:z00}{F:Hp}{vs:List L2.V}{ds:List D}(n:Nat)(r:RL K F vs ds):RL K F (vs.drop n) (ds.drop n):=by
 induction n generalizing vs ds with
 |zero=>exact r
 |succ n ih=>cases r with
  |nil=>exact .nil
  |cons _ r=>exact ih r
theorem RL.take {K:z00}{F:Hp}{vs:List L2.V}{ds:List D}(n:Nat)(r:RL K F vs ds):RL K F (vs.take n) (ds.take n):=by
 induction n generalizing vs ds with
 |zero=>exact .nil
 |succ n ih=>cases r with
  |nil=>exact .nil
  |cons h r=>exact .cons h (ih r)
theorem RL.cut {K:z00}{F:Hp}{vs:List L2.V}{ds:List D}{lo hi:Option Int}(r:RL K F vs ds):RL K F (Qn6 vs lo hi) (cutD ds lo hi):=by
 unfold Qn6 cutD
 rw[r.length]
 exact(r.drop _).take _
def Qt4 (m:ME)(lo hi:MO):ME:=fun ρ=>(m ρ).bind fun r=>(lo r.2).bind fun l=>(hi l.2).bind fun h=>(Rs.of (asL r.1)).bind fun xs=>.ok (.lst (cutD xs l.1 h.1),h.2)
def Qt5 (m:ME)(lo hi:MO):ME:=fun ρ=>(m ρ).bind fun r=>(lo r.2).bind fun l=>(hi l.2).bind fun h=>(Rs.of (asL r.1)).bind fun xs=>if D.Jb (cutD xs l.1 h.1)=true then .ok (.lst (cutD xs l.1 h.1),h.2) else .no
variable {lo hi:Option Expr}{ml mh:MO}{p2:Pos}
theorem Qja (hK:C.K=X.K)(he:PE X e (tX .V C p E m))(hl:PO X lo (tO C pa E ml))(hu:PO X hi (tO C pb E mh)):PE X (.Subscript e (.Slice lo hi none p2) pos) (tX .V C (p && (pa && pb)) E (Qt4 m ml mh)):=Qp (Qht QjO he hl hu) fun σ H Q ⟨F,ρ,τ,fp,I,h⟩=>by
 refine⟨F,ρ,τ,fp,I,h.split.mono fun r1 h1 F1 H1 fp1 v1 I1 n1 f1=>?_⟩
 refine⟨F1,r1.2,τ,fp1,I1,h1.split.mono fun r2 h2 F2 H2 fp2 I2 n2=>?_⟩
 refine⟨F2,r2.2,τ,fp2,I2,h2.split.mono fun r3 h3 F3 H3 fp3 I3 n3=>?_⟩
 obtain⟨xs,e1,h4⟩:=h3.split.of
 have g1:R C.K F3 v1 (.nd .lst xs):=by rw[← QbW e1];exact R.same (n2.f.trans n3.f) f1
 obtain⟨l1,us,rfl,a1,rl1⟩:=g1.inv
 refine⟨l1,us,rfl,by rw[← hK];exact(At.same a1 I3.fh).sql,fun q hq=>?_⟩
 have s:=Qu.upd (o:=HO.lst (Qn6 us r2.1 r3.1)) (I3.fh.free hq)
 exact h4 _ _ fp3 _ (I3.lay hq) (((n1.trans (n2.trans n3)).trans (q:=true) ⟨s,fun _=>Qeo I3 hq⟩).weak fun z=>by simpa using z) (.nd (t:=.lst) (.inl (.inl Qs)) (rl1.cut.same s))
theorem Qmq (hK:C.K=X.K)(he:PE X e (tX k C p E m))(hl:PO X lo (tO C pa E ml))(hu:PO X hi (tO C pb E mh))(ok:k.on (pa && pb)=true:=by rfl):PE X (.Subscript e (.Slice lo hi none p2) pos) (tX .O C (p && (pa && pb)) E (Qt5 m ml mh)):=Qp (Qht QjO he hl hu) fun σ H Q ⟨F,ρ,τ,fp,I,h⟩=>by
 refine⟨F,ρ,τ,fp,I,h.split.mono fun r1 h1 F1 H1 fp1 v1 I1 n1 f1=>?_⟩
 rw[Kd.Yn ok] at I1
 refine⟨F1,r1.2,τ,fp1,I1,h1.split.mono fun r2 h2 F2 H2 fp2 I2 n2=>?_⟩
 refine⟨F2,r2.2,τ,fp2,I2,h2.split.mono fun r3 h3 F3 H3 fp3 I3 n3=>?_⟩
 obtain⟨xs,e1,h4⟩:=h3.split.of
 have g1:R C.K (jn F3 H3 fp3) v1 (.nd .lst xs):=by rw[← QbW e1];exact Kd.stay ok f1 (n2.trans n3) I3
 obtain⟨l1,us,rfl,a1,rl1⟩:=g1.inv
 refine⟨l1,us,rfl,by rw[← hK];exact(At.same a1 (Vn I3.fh)).sql,fun q hq=>?_⟩
 by_cases hi:D.Jb (cutD xs r2.1 r3.1)=true
 ·rw[if_pos hi] at h4
  exact h4 _ _ _ _ (I3.newList hq (I3.loL rl1.cut hi) hi) (((n1.trans (n2.trans n3)).trans (q:=true) ⟨Qu.refl _,fun _=>Qep I3 hq⟩).weak fun z=>by simpa using z) z54
 ·rw[if_neg hi] at h4;exact h4.elim
def Qwh:D->Option Key
 |.int i=>some (.inl i)
 |.str s=>some (.inr s)
 |_=>none
def Qrb:List D->Option (List Key)
 | []=>some []
 |d::ds=>(Qwh d).bind fun k=>(Qrb ds).map (k::·)
def Qrc:D->Option (List Key)
 |.nd .tup ds=>Qrb ds
 |_=>none
theorem QkE {K:z00}{F:Hp}:∀{vs:List L2.V} {ds:List D} {ks:List Key},RL K F vs ds->Qrb ds=some ks->vs=ks.map kV
 |_,_,_,.nil,e=>by unfold Qrb at e;cases e;rfl
 |_,_,_,.cons (d:=d) h r,e=>by
  unfold Qrb at e
  obtain⟨k,h1,h2⟩:=z23.mp e
  obtain⟨ks,h3,rfl⟩:=z03.mp h2
  rw[z30,← QkE r h3]
  cases d with
  |int i=>cases h1;rw[h.QK (w:=.int i) rfl];rfl
  |str z=>cases h1;rw[h.QK (w:=.str z) rfl];rfl
  |_=>cases h1
theorem Qng {K:z00}{F:Hp}{v:L2.V}{d:D}{ks:List Key}(r:R K F v d)(e:Qrc d=some ks):∃b,v=.ref b/\F b=some (.tup (ks.map kV)):=by
 unfold Qrc at e
 split at e
 ·obtain⟨a,vs,rfl,h1,h2⟩:=r.inv
  have ev:=QkE h2 e
  subst ev
  exact⟨a,rfl,h1⟩
 ·cases e
def Qt6:ME:=fun ρ=>.ok (.nd (.dT []) [],ρ)
theorem QoC:PE X (.Dict [] [] pos) (tX .O C true E Qt6):=Qp QlS fun σ H Q ⟨F,ρ,τ,fp,I,h⟩=>fun q hq=>by
 have J:=I.lay0 (o:=.dT []) hq
 have nq:q∉fp:=fun z=>by
  obtain⟨o,e,_⟩:=I.mem q z
  rw[hq] at e;cases e
 refine h F _ _ (.ref q) (J.push (f:=[q]) (.mt (t:=.dT []) (vs:=[]) ⟨rfl,Qs⟩ .nil) (fun a ha=>?_) (fun a ha=>?_) (z09.mpr ⟨by simp,I.nd,fun x hx y hy z=>?_⟩)) ⟨Qu.refl _,fun _=>Qep I hq⟩ z54
 ·rw[z26.mp ha];exact I.dm q hq
 ·rw[z26.mp ha];exact I.fh.free hq
 ·subst z;rw[z26.mp hx] at hy;exact nq hy
noncomputable def Qnh (ρ:Rho)(i:Nat):Option (Bool×List (List Key)×List D):=match ρ[i]? with
 |some (some (.own (.nd (.dT ks) ds)))=>some (false,ks,ds)
 |some (some (.par (.nd (.dT ks) ds)))=>some (true,ks,ds)
 |_=>none
theorem QkF {ρ:Rho}{i:Nat}{q:Bool×List (List Key)×List D}(h:Qnh ρ i=some q):ρ[i]? = some (some (mkS q.1 (.nd (.dT q.2.1) q.2.2))):=by
 unfold Qnh at h
 split at h
 ·next e=>cases h;exact e
 ·next e=>cases h;exact e
 ·cases h
noncomputable def putD {κ:Type}[DecidableEq κ](ks:List κ)(ds:List D)(k:κ)(d:D):List κ×List D:=if(ks.any fun x=>decide (x=k))=true then(ks,zc2 (fun x y=>if x=k then d else y) ks ds) else(ks++[k],ds++[d])
theorem Qg5 {κ:Type}[DecidableEq κ]{k:κ}:∀{ks:List κ} {vs:List V},ks.length=vs.length->((ks.zip vs).any fun kv=>decide (kv.1=k))=ks.any fun x=>decide (x=k)
 | [],[],_=>rfl
 | [],_::_,h=>by cases h
 |_::_,[],h=>by cases h
 |x::ks,v::vs,h=>by rw[z89,zf3,zf3,Qg5 (by simpa using h)]
theorem QhW {κ:Type}[DecidableEq κ]{k:κ}{v:V}:∀{ks:List κ} {vs:List V},ks.length=vs.length->(ks.zip vs).map (fun kv=>if kv.1=k then(kv.1,v) else kv)=ks.zip (zc2 (fun x y=>if x=k then v else y) ks vs)
 | [],[],_=>rfl
 | [],_::_,h=>by cases h
 |_::_,[],h=>by cases h
 |x::ks,y::vs,h=>by
  rw[z89,z30,za8,z89,QhW (by simpa using h)]
  by_cases e:x=k
  ·simp[e]
  ·simp[e]
theorem Qg6 {κ:Type}[DecidableEq κ]{K:z00}{F:Hp}{k:κ}{v:L2.V}{d:D}(hv:R K F v d):∀{ks:List κ} {vs:List L2.V} {ds:List D},RL K F vs ds->RL K F (zc2 (fun x y=>if x=k then v else y) ks vs) (zc2 (fun x y=>if x=k then d else y) ks ds)
 | [],_,_,.nil=>.nil
 | [],_,_,.cons _ _=>.nil
 |_::_,_,_,.nil=>.nil
 |x::ks,_,_,.cons h r=>by
  rw[za8,za8]
  by_cases e:x=k
  ·rw[if_pos e,if_pos e];exact .cons hv (Qg6 hv r)
  ·rw[if_neg e,if_neg e];exact .cons h (Qg6 hv r)
theorem Qgd {κ:Type}[DecidableEq κ]{k:κ}{d:D}(hd:d.imm=true):∀{ks:List κ} {ds:List D},D.Jb ds=true->D.Jb (zc2 (fun x y=>if x=k then d else y) ks ds)=true
 | [],_,_=>rfl
 |_::_,[],_=>rfl
 |x::ks,y::ds,h=>by
  obtain⟨h1,h2⟩:=Yg h
  rw[za8,D.Jb,z70]
  refine⟨?_,Qgd hd h2⟩
  by_cases e:x=k
  ·rw[if_pos e];exact hd
  ·rw[if_neg e];exact h1
theorem OL.rl {K:z00}{F H:Hp}{vs:List L2.V}{ds:List D}{f:List Addr}(o:OL K F H vs ds f)(hi:D.Jb ds=true):RL K F vs ds:=by
 have e:=o.Qs1 hi
 subst e
 exact o.r (Qu.refl F) @2
theorem SI.Qrd {F H:Hp}{σ:L2.St}{ρ:Rho}{τ:List (L2.V×D)}{fp:List Addr}{i:Nat}{par:Bool}{t:Tag}{ds:List D}(I:SI C F H σ ρ τ fp)(mt:t.mut=true)(es:ρ[i]? = some (some (mkS par (.nd t ds)))):∃l vs f rest,σ[i]? = some (some (.ref l))/\Mt H l t vs/\OL C.K F H vs ds f/\fp.Perm ((l::f)++rest)/\(∀b∈l::f,Vz C par b)/\
  ∀{o:HO} {t':Tag} {vs':List L2.V} {ds':List D} {f':List Addr},Mt (upd H l o) l t' vs'->OL C.K F H vs' ds' f'->((l::f')++rest).Nodup->(∀b∈f',F b=none/\Vz C par b)->SI C F (upd H l o) σ (ρ.set i (some (mkS par (.nd t' ds')))) τ ((l::f')++rest):=by
 obtain⟨x,f0,g0,rest,ex,s1,pm,w0,w1,cl⟩:=I.cut es
 obtain⟨v,fi,ev,ho,efi,wfi⟩:∃v fi,x=some v/\O C.K F H v (.nd t ds) fi/\f0++g0=fi/\∀a∈fi,Vz C par a:=by
  cases par with
  |false=>cases s1 with|own h=>exact⟨_,_,rfl,h,by simp,fun a ha=>.inl (w0 a ha)⟩
  |true=>cases s1 with|par h=>exact⟨_,_,rfl,h,rfl,fun a ha=>(w1 a ha).elim (fun z=>.inr ⟨rfl,z⟩) fun z=>.inl z⟩
 subst ev
 cases ho with
 |sc e=>cases e
 |im m h r=>rw[mt] at m;cases m
 | @mt l _ vs _ g hl ol=>
  have pm':fp.Perm ((l::g)++rest):=by rw[← efi,z20];exact pm
  have ndp:=pm'.nodup_iff.mp I.nd
  refine⟨l,vs,g,rest,ex,hl,ol,pm',wfi,fun{o t' vs' ds' f'} hl' ol' nd fr=>?_⟩
  have nl:∀{b:Addr},b∈f'\/b∈rest->b≠l:=fun{b} hb z=>by
   subst z
   have:=(z72.mp (show(b::(f'++rest)).Nodup from nd)).1
   exact this (z05.mpr hb)
  have kp:∀b o',H b=some o'->b∉l::g->upd H l o b=some o':=fun b o' e n=>(Qk (by intro z;subst z;exact n z07)).trans e
  have dm:∀b,upd H l o b=none->H b=none:=fun b e=>by
   by_cases hb:b=l
   ·subst hb;rw[Qs] at e;cases e
   ·rw[Qk hb] at e;exact e
  have hF:Qu F (upd H l o):=fun b o' e=>by
   refine kp b o' (I.fh b o' e) fun z=>?_
   have:=I.ap b (pm'.mem_iff.mpr (z06 _ z))
   rw[e] at this;cases this
  have nop:∀b,C.H₀ b≠none->b∉C.A->b∉l::g:=fun b h1 h2 z=>by
   rcases wfi b z with y|y
   ·exact h1 y
   ·exact h2 y.2
  have apn:∀b∈(l::f')++rest,F b=none:=fun b hb=>by
   rcases z05.mp hb with z|z
   ·rcases z15.mp z with rfl|z
    ·exact I.ap _ (pm'.mem_iff.mpr @9)
    ·exact(fr b z).1
   ·exact I.ap b (pm'.mem_iff.mpr (z02 _ z))
  have frn:∀b∈l::f',Vz C par b:=fun b hb=>by
   rcases z15.mp hb with rfl|z
   ·exact wfi _ z07
   ·exact(fr b z).2
  have on:=ol'.keep (Qu.refl _) (H':=upd H l o) fun b hb=>Qk (nl (.inl hb))
  cases par with
  |false=>
   have J:=cl (F':=F) (H':=upd H l o) (x':=some (.ref l)) (s':=some (.own (.nd t' ds'))) (f0':=l::f') (g0':=[]) (Qu.refl F) hF (fun b hb=>Qk (nl (.inr hb))) dm (fun b o' e n z=>kp b o' z (nop b (by rw[e];simp) n)) (fun _ _ z=>.inl z) (.own (.mt hl' on)) nd apn (fun b hb=>(frn b hb).resolve_right fun z=>nomatch z.1) @2 (fun v hv=>by
    obtain⟨_,d',z⟩:=I.pr _ _ hv
    rw[es] at z;cases z)
   rw[JC ex] at J
   exact J
  |true=>
   have J:=cl (F':=F) (H':=upd H l o) (x':=some (.ref l)) (s':=some (.par (.nd t' ds'))) (f0':=[]) (g0':=l::f') (Qu.refl F) hF (fun b hb=>Qk (nl (.inr hb))) dm (fun b o' e n z=>kp b o' z (nop b (by rw[e];simp) n)) (fun _ _ z=>.inl z) (.par (.mt hl' on)) nd apn @2 (fun b hb=>(frn b hb).elim (fun z=>.inr z) fun z=>.inl z.2) (fun v hv=>⟨by
    obtain⟨z,_⟩:=I.pr _ _ hv
    rw[ex] at z;exact z21 z,_,rfl⟩)
   rw[JC ex] at J
   exact J
def QoD (i:Nat)(mv mk:ME):MS:=fun ρ=>(mv ρ).bind fun r=>(Rs.of (Qnh r.2 i)).bind fun _=>(mk r.2).bind fun s=>(Rs.of (Qnh s.2 i)).bind fun q=>(Rs.of (Qrc s.1)).bind fun k=>
 if q.2.1.length<z17 then(if(r.1.imm && D.Jb q.2.2)=true then .ok (.nx,s.2.set i (some (mkS q.1 (.nd (.dT (putD q.2.1 q.2.2 k r.1).1) (putD q.2.1 q.2.2 k r.1).2)))) else .no) else .no
theorem Qre {i:Nat}{x:Str}{np spos:Pos}{ix:Expr}(hu:X.A.units+1<cLine)(hN:X.N[i]? = some x)(hv:Vis X.env.scope x)(he:PE X e (tX .V C pa E m))(hi:PE X ix (tX .V C pb E mi))(hs:swapsWith e (some (.Subscript (.Name x np) ix spos)) pos.line X.env=pure false:=by rfl)(hd:@6=false:=by decide)(hcd:(x == ("__classdict__" : Str))=false:=by decide) :
  PS X (.Assign [.Subscript (.Name x np) ix spos] e pos) (tS rk C E (QoD i m mi)):=Jl (Qn2 hu (Qan hN hv hd hcd) hi he hs) fun DD σ H ⟨F,ρ,fp,I,h⟩=>by
 refine⟨F,ρ,[],fp,I,h.split.run.mono fun r hr F1 H1 fp1 v I1 n1 f1=>?_⟩
 obtain⟨q0,e0,hr⟩:=hr.split.of
 obtain⟨l0,vs0,g0,Qg0,ex0,hl0,_⟩:=SI.Qrd I1 rfl (QkF e0)
 refine⟨_,ex0,F1,r.2,[],fp1,I1,hr.split.run.mono fun s hs F2 H2 fp2 kv I2 n2 f2=>?_⟩
 obtain⟨q,eq,h2⟩:=hs.split.of
 obtain⟨key,ek,h3⟩:=h2.split.of
 obtain⟨l,vs,f,rest,ex,hl,ol,pm,w,cl⟩:=SI.Qrd I2 rfl (QkF eq)
 have el:l=l0:=by rw[ex0] at ex;cases ex;rfl
 subst el
 by_cases hz:q.2.1.length<z17
 ·rw[if_pos hz] at h3
  by_cases hi:(r.1.imm && D.Jb q.2.2)=true
  ·rw[if_pos hi] at h3
   obtain⟨i1,i2⟩:=z66.mp hi
   obtain⟨bb,rfl,hb⟩:=Qng f2 ek
   have rl:=ol.rl i2
   have rv:R C.K F2 v r.1:=R.same n2.f f1
   have ef:f=[]:=ol.Qs1 i2
   subst ef
   have lv:q.2.1.length=vs.length:=hl.1
   have hkv:(q.2.1.zip vs).length<z17:=by rw[List.length_zip,← lv,Nat.min_self];exact hz
   refine⟨l,_,rfl,Qqg.t hl.2 (I2.fh _ _ hb) hkv,?_⟩
   have fin:∀{vs':List L2.V},putK (q.2.1.zip vs) key v=(putD q.2.1 q.2.2 key r.1).1.zip vs'->(putD q.2.1 q.2.2 key r.1).1.length=vs'.length->RL C.K F2 vs' (putD q.2.1 q.2.2 key r.1).2->D.Jb (putD q.2.1 q.2.2 key r.1).2=true->DD.nx σ (upd H2 l (.dT (putK (q.2.1.zip vs) key v))):=fun{vs'} e1 e2 r' hi'=>by
    rw[e1]
    exact h3 F2 _ σ _ (n1.f.trans n2.f) (cl (t':=.dT _) (vs':=vs') ⟨e2,Qs⟩ (r'.o hi') (pm.nodup_iff.mp I2.nd) @2)
   unfold putD at fin
   by_cases c:(q.2.1.any fun x=>decide (x=key))=true
   ·rw[if_pos c] at fin
    refine fin (vs':=zc2 (fun x y=>if x=key then v else y) q.2.1 vs) ?_ (by rw[List.length_zipWith,← lv,Nat.min_self]) (Qg6 rv rl) (Qgd i1 i2)
    unfold putK
    rw[Qg5 lv,if_pos c,QhW lv]
   ·rw[if_neg c] at fin
    refine fin (vs':=vs++[v]) ?_ (by simp[lv]) (rl.app (.cons rv .nil)) (QhH i2 (Qdo fun d hd=>by rw[z26.mp hd];exact i1))
    unfold putK
    rw[Qg5 lv,if_neg c,List.zip_append lv]
    rfl
  ·rw[if_neg hi] at h3;exact h3.elim
 ·rw[if_neg hz] at h3;exact h3.elim
end
section
variable {P:Program}{w:World}{K:z00}{mg:Str->Option Value}{base:Heap}{N:List Str}{qual:Str}{scope:Scope}{f:Addr}{cd:Value}{A:Around}{outer:List Env}{s:Shared}{H:Hp}{E:XK}{C:Cn}{rk:Kd}{p:Bool}{ks:List Kd}{mr:MA}
def QkG (c:Addr)(mr:MA):MS:=fun ρ=>(mr ρ).bind fun r=>if r.1.length<=z17 then .ex c r.2 else .no
theorem Qdz {x:Str}{np cpos pos:Pos}{e:Expr}{es:List Expr}{c:Addr}(hr:A.handled=none)(hx:zd1 K c bmV "ValueError.__new__" = true)(hm:mg x=some (.ref c))
  (ha:PA @21 (e::es) (tA ks C p (fun _=>E) mr)) (ok:rdL ks=true:=by rfl) (hg:Gl @21 x:=by rfl)
  (hdb:@6=false:=by decide) (hs:starEach (e::es) (Qci (CXe P w) P w K mg base N qual scope f cd A outer s H E).env=(false,eval e (Qci (CXe P w) P w K mg base N qual scope f cd A outer s H E).env)::starEach es (Qci (CXe P w) P w K mg base N qual scope f cd A outer s H E).env:=by rfl)
  (hpl:(backTo cpos (starEach (e::es) (Qci (CXe P w) P w K mg base N qual scope f cd A outer s H E).env)).any (·.1)=false:=by rfl) :
  PS @21 (.Raise (some (.Call (.Name x np) (e::es) [] cpos)) none pos) (tS rk C (fun _=>E) (QkG c mr)):=Jl (QlZ hr hx hg hm ha hdb hs hpl) fun D σ H ⟨F,ρ,fp,I,h⟩=>by
 refine⟨F,ρ,[],fp,I,h.split.run.mono fun r h1 F1 H1 fp1 vs I1 n1 f1=>?_⟩
 rw[Yv ok] at I1
 by_cases hz:r.1.length<=z17
 ·rw[if_pos hz] at h1
  exact⟨by rw[(f1.rd I1 ok).length];exact hz,h1 F1 H1 σ fp1 I1⟩
 ·rw[if_neg hz] at h1;exact h1.elim
theorem Qj:Qa8 @21 (fun _=>E):=fun pins σ H1 s1 e s' I h=>Qty pins σ H1 s1 e s' I h
end
def Qc6 (K:z00)(D:Ends):List (Addr×Nat×TS)->Value->L2.St->Hp->Prop
 | [],_,_,_=>False
 |(C,i,ts)::r,cv,σ,H=>(zf5 K cv (.ref C)=some true/\∀e:Addr,H e=none->ts (D.less i) (σ.set i (some (.ref e))) (upd H e (QgP e cv)))\/(zf5 K cv (.ref C)=some false/\Qc6 K D r cv σ H)
section
variable {X:Cx}{pins:List @11}{σ:L2.St}{H:Hp}{hs:List ExceptHandler}{D:Ends}
theorem QoE {h:ExceptHandler}{rest:List ExceptHandler}{cls:List (Addr×Nat×TS)}(p:PHA X (h::rest) cls):∃x np n b₀ suite pos C i ts r,h=.ExceptHandler (some (.Name x np)) (some n) (b₀::suite) pos/\cls=(C,i,ts)::r/\
  PHA X (.ExceptHandler (some (.Name x np)) (some n) (b₀::suite) pos::rest) ((C,i,ts)::r):=by
 obtain⟨t,n,b,pos⟩:=h
 cases t with
 |none=>exact(show False from p).elim
 |some e=>
  cases e with
  |Name x np=>
   cases n with
   |none=>exact(show False from p).elim
   |some n=>
    cases b with
    |nil=>exact(show False from p).elim
    |cons b₀ suite=>
     cases cls with
     |nil=>exact(show False from p).elim
     |cons c r=>exact⟨x,np,n,b₀,suite,pos,c.1,c.2.1,c.2.2,r,rfl,rfl,p⟩
  |_=>exact(show False from p).elim
theorem Qmr (d:Qco X){e:Addr}{cv a0:Value}{B:Heap}{l:List Env}:∀{hs:List ExceptHandler} {cls:List (Addr×Nat×TS)},PHA X hs cls->∀{s:Shared},Inv X pins σ H s->
  (∀{h':Heap},B.StaysIn h'->s.heap.UpToSlots h'->Inv X pins σ H { s with heap:=h' })->zn8 B l e cv a0 s.heap->
  X.s₀.heap.get? e=none->H e=none->e≠X.env.locals->(∀y c,X.env.cells.lookup y=some c->c≠e)->(∀p∈X.pn++pins,p.1≠e)->X.base.get? e=none->(∀b∈X.fs,b≠e)->Qc6 X.K D cls cv σ H->
  wpAny @4 X.A (handleBy (.ref e) X.env hs) (SP X pins D) X.xe s:=by
 intro hs
 induction hs with
 |nil=>
  intro cls p s I on fl x1 x2 x3 x4 x5 x6 x7 k
  cases cls with
  |nil=>exact absurd k id
  |cons c r=>exact(show False from p).elim
 |cons h rest ih=>
  intro cls p s I on fl x1 x2 x3 x4 x5 x6 x7 k
  obtain⟨x,np,n,b₀,suite,pos,C,i,ts,r,rfl,rfl,p⟩:=QoE p
  obtain⟨hg,hm,hdb,hN,hi,hkl,hll,hsu,hr⟩:=p
  obtain⟨ob,hob,hoc⟩:=fl.there
  refine wpAny_handleBy_cons (codeAny_handlers_test (Qdb (X:=X.sui (.ref e)) I.QqA hg hm ?_ hdb)) (by intro q;cases q)
  have LT:zq3 @4 s.heap (typeOf (.ref e)) cv:=by rw[← hoc];exact(zr0 hob).andThen .now
  rcases k with⟨em,k⟩|⟨em,k⟩
  ·refine(zw4 I.kIn LT em) _ _ _ s (fun _ _ z=>z) ?_
   refine PySem.codeAny_handlers_suite_as (PyProof.Rows.lands_againW fl fun h' fl' up=>?_)
   have I2:Inv X pins σ H { s with heap:=h' }:=on fl'.1 up
   obtain⟨ob',Qvt,Qwi⟩:=fl'.there
   have I3:Inv X pins σ (upd H e (QgP e cv)) { s with heap:=h' }:=I2.track x1 x2 x3 x4 x5 x6 x7 ⟨⟨ob',Qvt,Qwi⟩,⟨ob',Qvt⟩,fun h1 h2 ⟨o,q1,q2⟩ q=>⟨o,q o q1,q2⟩⟩
   refine QeM (X:=X.sui (.ref e)) I3.QqA hN hi (.inl hkl) (show RelV (.ref e) (.ref e) from rfl) (fun s2 I4=>?_) (.inr hll)
   refine zb0 (hsu (.ref e) pins _ _ _ (D.less i) I4 (k e x2)) (fun f s3 q=>?_) fun _ _ z=>z.elim
   show wpAny @4 X.A (do bindName X.env n .none;unbindBehindTheSuite X.env n pos) (fun _ s₃=>SP X pins D f s₃) X.xe s3
   cases f with
   |next=>obtain⟨σ',H',J,q⟩:=q;exact QbS (J.Qhw I.ok.hd) hN hi hkl fun s4 J4=>⟨_,H',J4,q⟩
   |brk=>obtain⟨σ',H',J,q⟩:=q;exact QbS (J.Qhw I.ok.hd) hN hi hkl fun s4 J4=>⟨_,H',J4,q⟩
   |cont=>obtain⟨σ',H',J,q⟩:=q;exact QbS (J.Qhw I.ok.hd) hN hi hkl fun s4 J4=>⟨_,H',J4,q⟩
   |ret v=>obtain⟨y,σ',H',J,rv,q⟩:=q;exact QbS (J.Qhw I.ok.hd) hN hi hkl fun s4 J4=>⟨y,_,H',J4,rv,q⟩
  ·refine(zw4 I.kIn LT em) _ _ _ s (fun _ _ z=>z) ?_
   exact ih hr I on fl x1 x2 x3 x4 x5 x6 x7 k
theorem Qrf (d:Qco X){cls:List (Addr×Nat×TS)}(ph:PHA X hs cls):Qa8 (X.Qog hs pins D) (fun σ cv _ H'=>Qc6 X.K D cls cv σ H'):=fun QiE σ H1 s1 ev s' I h=>by
 obtain⟨e,cv,H',rfl,I',x,k⟩:=I.raised h
 have J:Inv X pins σ H' s':=I'.QiS
 obtain⟨e1,e2,oe,vs,a0,T,oT,ts,he,hc,h0,hd,h1,hTe,n1,n2,hT,hdT,h3⟩:=x
 have I0:Inv X pins σ H1 s1:=I.QiS
 have fr:X.A.frames=some (X.env::X.outer):=by rw[J.ok.frames,d.stk]
 have nw:∀{Pr:Addr->Prop},Pr e->Pr T->∀b∈[e,T],Pr b:=fun p1 p2 b hb=>by
  rcases z15.mp hb with rfl|hb
  ·exact p1
  ·rw[z26.mp hb];exact p2
 have ne:∀b:Addr,(∃o,s1.heap.get? b=some o)->b≠e/\b≠T:=fun b ⟨o,q⟩=>⟨(fun z=>by rw[z,e1] at q;cases q),(fun z=>by rw[z,n1] at q;cases q)⟩
 have nl:=ne X.env.locals (let ⟨_,⟨o,_,_,ho,_⟩,_⟩:=I0.loc;⟨o,ho⟩)
 have QoF:∀y c,X.env.cells.lookup y=some c->c≠e/\c≠T:=fun y c q=>ne c (let ⟨v,o,ho,_⟩:=I0.cell y c q;⟨o,ho⟩)
 have Qt7:∀p∈X.pn++pins,p.1≠e/\p.1≠T:=fun p hp=>ne p.1 ⟨_,(I0.pin p hp).1⟩
 have on:∀{h':Heap},(Qjm X [e,T] s'.heap).StaysIn h'->s'.heap.UpToSlots h'->Inv X pins σ H' { s' with heap:=h' }:=fun{h'} st up=>
  J.flew (extra:=[e,T]) d (nw (I0.old d.ex e1) (I0.old d.ex n1)) (nw e2 n2) (nw (zb9 nl.1) (zb9 nl.2)) (nw (fun y c q=>(QoF y c q).1) fun y c q=>(QoF y c q).2) (nw (fun p hp=>(Qt7 p hp).1) fun p hp=>(Qt7 p hp).2) (QgO J st up)
 have fly:zn8 (Qjm X [e,T] s'.heap) (X.env::X.outer) e cv a0 s'.heap:=
  ⟨Qcp,QbQ @9,by rw[← d.stk];exact Qbr J,oe,vs,T,oT,ts,he,⟨hc,h0⟩,hd,h1,QbQ @9,hTe,hT,hdT,h3⟩
 have hbase:X.base.get? e=none:=by
  cases q:X.base.get? e with
  |none=>rfl
  |some o=>exact absurd rfl (ne e ⟨o,I0.bk _ _ q⟩).1
 have hfs:∀b∈X.fs,b≠e:=fun b hb=>by
  obtain⟨o,q,_⟩:=I0.frames b (d.Qof b hb)
  exact(ne b ⟨o,q⟩).1
 refine wpAny_looks_onW fr d.fr fly fun h4 held up4=>wpAny_landsW held fun h5 fl5 up5=>?_
 have I5:Inv X pins σ H' { s' with heap:=h5 }:=on fl5.1 (up4.trans up5)
 exact Qmr d (B:=Qjm X [e,T] s'.heap) (s:={ s' with heap:=h5 }) ph I5 (fun{h'} st up=>on st ((up4.trans up5).trans up)) fl5 (I0.old d.ex e1) e2 (zb9 nl.1) (fun y c q=>(QoF y c q).1) (fun p hp=>(Qt7 p hp).1) hbase hfs k
end
def dispatch (K:z00)(c:Addr)(ρ:Rho):List (Addr×Nat×MS)->Rs (Fl×Rho)
 | []=>.no
 |(C,i,ms)::r=>match zf5 K (.ref c) (.ref C) with
  |some true=>(Rs.of (Qam ρ i (.nd (.exc c) []))).bind fun ρ1=>(ms ρ1).bind fun q=>match q.1 with
   |.rt d=>.ok (.rt d,q.2)
   |f=>.ok (f,q.2.set i none)
  |some false=>dispatch K c ρ r
  |none=>.no
def noX {α:Type}:Rs α->Rs α
 |.ex _ _=>.no
 |r=>r
def Qs5 (K:z00)(m:MS)(hs:List (Addr×Nat×MS)):MS:=fun ρ=>match m ρ with
 |.ex c ρ'=>noX (dispatch K c ρ' hs)
 |r=>r
theorem Qd5.noX {C:Cn}{E:XE}{α:Type}{r:Rs α}{k:α->Prop}(h:Qd5 C E (noX r) k):Qd5 C EF r k:=by
 cases r with
 |ok a=>exact h
 |ex c ρ=>exact h.elim
 |no=>exact h
def hdl (rk:Kd)(C:Cn)(hs:List (Addr×Nat×MS)):List (Addr×Nat×TS):=hs.map fun h=>(h.1,h.2.1,tS rk C EF h.2.2)
section
variable {X:Cx}{C:Cn}{rk:Kd}{E:XE}
theorem Qeu (hK:C.K=X.K){D:Ends}{c:Addr}{F0:Hp}:∀{hs:List (Addr×Nat×MS)} {ρ:Rho} {F H:Hp} {σ:L2.St} {fp:List Addr},SI C F H σ ρ [] fp->Qu F0 F->Qd5 C EF (dispatch X.K c ρ hs) (fun r=>Out rk C D F0 r.1 r.2)->Qc6 X.K D (hdl rk C hs) (.ref c) σ H
 | [],ρ,F,H,σ,fp,I,s0,h=>h
 |(C',i,ms)::r,ρ,F,H,σ,fp,I,s0,h=>by
  unfold dispatch at h
  split at h
  ·next em=>
   refine .inl ⟨em,fun e he=>?_⟩
   obtain⟨ρ1,e1,h1⟩:=h.split.of
   have I2:=I.lay (o:=QgP e (.ref c)) he
   have rr:R C.K (upd F e (QgP e (.ref c))) (.ref e) (.nd (.exc c) []):=.nd (t:=.exc c) ⟨rfl,Qs⟩ .nil
   obtain⟨fp',I3,_⟩:=SI.Qam I2 rr e1
   have sF:Qu F0 (upd F e (QgP e (.ref c))):=s0.trans (Qu.upd (I.fh.free he))
   have Qwj:∀v,(i,v)∉C.QgD:=fun v hv=>by
    obtain⟨_,d,z⟩:=I.pr _ _ hv
    unfold Qam at e1
    rw[z] at e1;cases e1
   refine⟨_,ρ1,fp',I3,h1.split.mono fun q hq=>?_⟩
   obtain⟨f,ρ2⟩:=q
   have clr:∀{F4 H4:Hp} {σ4:L2.St} {fp4:List Addr},SI C F4 H4 σ4 ρ2 [] fp4->∃fp5,SI C F4 H4 (σ4.set i none) (ρ2.set i none) [] fp5:=fun{F4 H4 σ4 fp4} I4=>by
    by_cases hl:i<ρ2.length
    ·obtain⟨z,f0,g0,rest,ez,s1,pm,w0,w1,cl⟩:=I4.cut (i:=i) (s:=ρ2[i]) (z04 hl)
     have nd:=pm.nodup_iff.mp I4.nd
     exact⟨_,cl (x':=none) (s':=none) (f0':=[]) (g0':=[]) (Qu.refl _) I4.fh (fun _ _=>rfl) (fun _ z=>z) (fun _ _ _ _ z=>z) (fun _ _ z=>.inl z) .non (z09.mp (z09.mp nd).2.1).2.1 (fun a ha=>I4.ap a (pm.mem_iff.mpr (by simp at ha;simp[ha]))) @2 @2 (fun v hv=>(Qwj v hv).elim)⟩
    ·have hl2:¬ i<σ4.length:=by rw[I4.len];exact hl
     rw[zr9 @0,zr9 @0]
     exact⟨_,I4⟩
   cases f with
   |nx=>
    intro F4 H4 σ4 fp4 s4 I4
    obtain⟨fp5,I5⟩:=clr I4
    exact hq F4 H4 _ fp5 (sF.trans s4) I5
   |bk=>
    intro F4 H4 σ4 fp4 s4 I4
    obtain⟨fp5,I5⟩:=clr I4
    exact hq F4 H4 _ fp5 (sF.trans s4) I5
   |ct=>
    intro F4 H4 σ4 fp4 s4 I4
    obtain⟨fp5,I5⟩:=clr I4
    exact hq F4 H4 _ fp5 (sF.trans s4) I5
   |rt d=>
    intro F4 H4 σ4 fp4 v s4 I4 f4
    exact hq F4 H4 σ4 fp4 v (sF.trans s4) I4 f4
  ·next em=>exact .inr ⟨em,Qeu hK I s0 h⟩
  ·exact h.elim
theorem SI.base {F H:Hp}{σ:L2.St}{ρ:Rho}{τ:List (L2.V×D)}{fp:List Addr}(I:SI C F H σ ρ τ fp):SI { C with F₀:=F } F H σ ρ τ fp:=⟨I.sl,I.nd,I.ap,I.fh,Qu.refl F,fun b o e=>.inl e,I.kp,I.dm,I.pr⟩
theorem SI.Qge {F H F1 H1:Hp}{σ σ1:L2.St}{ρ ρ1:Rho}{τ τ1:List (L2.V×D)}{fp fp1:List Addr}(I:SI C F H σ ρ τ fp)(J:SI { C with F₀:=F } F1 H1 σ1 ρ1 τ1 fp1):SI C F1 H1 σ1 ρ1 τ1 fp1:=⟨J.sl,J.nd,J.ap,J.fh,I.f0.trans J.f0,fun b o e=>(J.fn b o e).elim (fun z=>I.fn b o z) fun z=>.inr z,J.kp,J.dm,J.pr⟩
theorem Qt8 {body:List Stmt}{h₀:ExceptHandler}{hr:List ExceptHandler}{pos:Pos}{ms:MS}{hs:List (Addr×Nat×MS)}(hK:C.K=X.K)(d:Qco X)(ph:PHA X (h₀::hr) (hdl rk C hs))
  (hb:∀C':Cn,C'.K=X.K->∀(E:XE) (pins:List @11) (D:Ends),Qa8 (X.Qog (h₀::hr) pins D) E->PSs (X.Qog (h₀::hr) pins D) body (tS rk C' E ms)):PS X (.Try body (h₀::hr) [] [] pos) (tS rk C E (Qs5 X.K ms hs)):=by
 intro pins s σ H D I h
 obtain⟨F,ρ,fp,J,h⟩:=h
 refine wpAny_Try_except (zb0 (hb { C with F₀:=F } hK _ pins D (Qrf d ph) [] s σ H D I.into ⟨F,ρ,fp,J.base,?_⟩) (fun f s1 q=>?_) fun _ _ z=>z)
 ·have hrun:=h
  unfold Qs5 at hrun
  cases em:ms ρ with
  |no=>rw[em] at hrun;exact hrun
  |ok q=>
   rw[em] at hrun
   obtain⟨f,ρ1⟩:=q
   cases f with
   |nx=>exact fun F1 H1 σ1 fp1 s1 J1=>hrun F1 H1 σ1 fp1 s1 (J.Qge J1)
   |bk=>exact fun F1 H1 σ1 fp1 s1 J1=>hrun F1 H1 σ1 fp1 s1 (J.Qge J1)
   |ct=>exact fun F1 H1 σ1 fp1 s1 J1=>hrun F1 H1 σ1 fp1 s1 (J.Qge J1)
   |rt d=>exact fun F1 H1 σ1 fp1 v s1 J1 f1=>hrun F1 H1 σ1 fp1 v s1 (J.Qge J1) (by cases rk<;>exact f1)
  |ex c ρ'=>
   rw[em] at hrun
   exact fun F1 H1 σ1 fp1 J1=>Qeu (F0:=F) hK (J.Qge J1) J1.f0 hrun.noX
 ·cases f with
  |next=>obtain⟨σ',H',J,q⟩:=q;exact zh4 ⟨σ',H',J.QiS,q⟩
  |brk=>obtain⟨σ',H',J,q⟩:=q;exact⟨σ',H',J.QiS,q⟩
  |cont=>obtain⟨σ',H',J,q⟩:=q;exact⟨σ',H',J.QiS,q⟩
  |ret v=>obtain⟨y,σ',H',J,rv,q⟩:=q;exact⟨y,σ',H',J.QiS,rv,q⟩
variable {e:Expr}{es:List Expr}{mr:MA}{p:Bool}{pos:Pos}{ks:List Kd}
noncomputable def Qaj:List Kd->List D->Rho->Option (List D×Rho)
 | [],_,ρ=>some ([],ρ)
 |.O::ks,d::ds,ρ=>(Qaj ks ds ρ).map fun q=>(d::q.1,q.2)
 |.S i::ks,_::ds,ρ=>(Qaj ks ds ρ).bind fun q=>match q.2[i]? with
  |some (some (.own d))=>some (d::q.1,q.2.set i none)
  |_=>none
 |_,_,_=>none
theorem SI.QoG {F H:Hp}{σ:L2.St}{ρ:Rho}{τ:List (L2.V×D)}{fp:List Addr}{i:Nat}{d:D}(I:SI C F H σ ρ τ fp)(es:ρ[i]? = some (some (.own d))):∃v f rest,σ[i]? = some (some v)/\O C.K F H v d f/\fp.Perm (f++rest)/\SI C F H σ (ρ.set i none) τ rest/\(∀a∈f,C.H₀ a=none)/\(∀a∈f,F a=none):=by
 obtain⟨y,f0,g0,rest,ey,s1,pm,w0,w1,cl⟩:=I.cut es
 cases s1 with
 | @own v _ f h=>
  have nd:=pm.nodup_iff.mp I.nd
  have q:=cl (F':=F) (H':=H) (x':=some v) (s':=none) (f0':=[]) (g0':=[]) (Qu.refl _) I.fh (fun _ _=>rfl) (fun _ z=>z) (fun _ _ _ _ z=>z) (fun b o e=>.inl e) .non (z09.mp nd).2.1 (fun a ha=>I.ap a (pm.mem_iff.mpr (z02 _ ha))) @2 @2 (fun v' hv=>by
   obtain⟨_,d',z⟩:=I.pr _ _ hv
   rw[es] at z;cases z)
  rw[JC ey] at q
  exact⟨v,f0,_,ey,h,pm,q,w0,fun a ha=>I.ap a (pm.mem_iff.mpr (z06 _ ha))⟩
theorem collect {F H:Hp}{σ:L2.St}:∀{ks:List Kd} {vs:List L2.V} {ds ds':List D} {ρ ρ':Rho} {τ:List (L2.V×D)} {fp fp0:List Addr},FcL C F H fp0 σ ks vs ds->SI C F H σ ρ (tkL ks vs ds τ) fp->Qaj ks ds ρ=some (ds',ρ')->∃f rest,OL C.K F H vs ds' f/\fp.Perm (f++rest)/\SI C F H σ ρ' τ rest/\(∀a∈f,C.H₀ a=none)/\(∀a∈f,F a=none)
 | [],_,_,ds',ρ,ρ',τ,fp,fp0,.nil,I,h=>by
  unfold Qaj at h
  cases h
  unfold tkL at I
  exact⟨[],fp,.nil,.refl _,I,@2,fun _ z=>nomatch z⟩
 |.O::ks,_,_,ds',ρ,ρ',τ,fp,fp0,.cons (v:=v) (d:=d) h0 r,I,h=>by
  unfold Qaj at h
  obtain⟨q,hq,e⟩:=z03.mp h
  cases e
  unfold tkL at I
  obtain⟨f,rest,ol,pm,J,w1,w2⟩:=collect r I (show Qaj ks _ ρ=some (q.1,q.2) from hq)
  obtain⟨g,Qd6,og,pm2,J2,g1,g2,_⟩:=SI.pop (τ:=τ) (v:=v) (d:=d) J
  refine⟨g++f,Qd6,.cons og ol,?_,J2,fun a ha=>(z05.mp ha).elim (g1 a) (w1 a),fun a ha=>(z05.mp ha).elim (g2 a) (w2 a)⟩
  refine pm.trans ((pm2.append_left f).trans ?_)
  rw[z83]
  intro a
  simp only[z88]
  lia
 |.S i::ks,_,_,ds',ρ,ρ',τ,fp,fp0,.cons (v:=v) (d:=d) h0 r,I,h=>by
  unfold Qaj at h
  obtain⟨q,hq,e⟩:=z23.mp h
  unfold tkL at I
  obtain⟨f,rest,ol,pm,J,w1,w2⟩:=collect r I (show Qaj ks _ ρ=some (q.1,q.2) from hq)
  split at e
  ·next d0 ed=>
   cases e
   obtain⟨v',g,Qd6,ev,og,pm2,J2,g1,g2⟩:=SI.QoG (τ:=τ) J ed
   have:v'=v:=z21 (z21 (ev.symm.trans h0))
   subst this
   refine⟨g++f,Qd6,.cons og ol,?_,J2,fun a ha=>(z05.mp ha).elim (g1 a) (w1 a),fun a ha=>(z05.mp ha).elim (g2 a) (w2 a)⟩
   refine pm.trans ((pm2.append_left f).trans ?_)
   rw[z83]
   intro a
   simp only[z88]
   lia
  ·cases e
 |.V::ks,_,_,ds',ρ,ρ',τ,fp,fp0,.cons h0 r,I,h=>by unfold Qaj at h;cases h
 |.B::ks,_,_,ds',ρ,ρ',τ,fp,fp0,.cons h0 r,I,h=>by unfold Qaj at h;cases h
def Qrg (ks:List Kd)(mr:MA):ME:=fun ρ=>(mr ρ).bind fun r=>(Rs.of (Qaj ks r.1 r.2)).bind fun q=>if q.1.length<=z17 then .ok (.tup q.1,q.2) else .no
theorem Qrh {x1:Nat}(h:PA X es (tA ks C p E mr)):PE X (.Tuple es x1 pos) (tX .O C false E (Qrg ks mr)):=Qp (QmU h) fun σ H Q ⟨F,ρ,τ,fp,I,h⟩=>by
 refine⟨F,ρ,τ,fp,I,h.split.mono fun r1 h1 F1 H1 fp1 vs I1 n1 f1=>?_⟩
 obtain⟨q,eq,h2⟩:=h1.split.of
 obtain⟨f,rest,ol,pm,J,w1,w2⟩:=collect f1 I1 (show Qaj ks r1.1 r1.2=some (q.1,q.2) from eq)
 by_cases hz:q.1.length<=z17
 ·rw[if_pos hz] at h2
  refine⟨by rw[ol.length];exact hz,fun t ht=>?_⟩
  have J2:=J.lay (o:=.tup vs) ht
  have nd:=pm.nodup_iff.mp I1.nd
  have s:=Qu.upd (o:=HO.tup vs) (I1.fh.free ht)
  have nt:∀a∈f,a≠t:=fun a ha=>by
   obtain⟨o,e,_⟩:=ol.mem a ha
   exact Qx e ht
  have ol2:=ol.keep s (H':=upd H1 t (.tup vs)) fun a ha=>Qk (nt a ha)
  exact h2 _ _ _ (.ref t) (J2.push (.im (t:=.tup) rfl Qs ol2) w1 (fun a ha=>by rw[Qk (nt a ha)];exact w2 a ha) nd) ⟨n1.f.trans s,fun z=>nomatch z⟩ z54
 ·rw[if_neg hz] at h2;exact h2.elim
end
section
variable {X:Cx}{C:Cn}{E:XE}{p pa pb pc:Bool}{e a b c ixa ixb:Expr}{es:List Expr}{m ma mb mi:ME}{pos:Pos}{k ka kb rk:Kd}{ks:List Kd}
theorem SI.Qri {F H:Hp}{σ:L2.St}{ρ:Rho}{τ:List (L2.V×D)}{fp:List Addr}{i n:Nat}{par:Bool}{ds xs:List D}(I:SI C F H σ ρ τ fp)(es:ρ[i]? = some (some (mkS par (.lst ds))))(hx:ds[n]? = some (.nd .lst xs)):∃l vs l2 us f1 g f2 rest,σ[i]? = some (some (.ref l))/\H l=some (.lst vs)/\vs.length=ds.length/\vs[n]? = some (.ref l2)/\H l2=some (.lst us)/\OL C.K F H us xs g/\fp.Perm ((l::(f1++((l2::g)++f2)))++rest)/\(∀b∈g,Vz C par b)/\
  ∀{us':List L2.V} {xs':List D} {g':List Addr},OL C.K F H us' xs' g'->((l::(f1++((l2::g')++f2)))++rest).Nodup->(∀b∈g',F b=none/\Vz C par b)->SI C F (upd H l2 (.lst us')) σ (ρ.set i (some (mkS par (.lst (ds.set n (.lst xs')))))) τ ((l::(f1++((l2::g')++f2)))++rest):=by
 obtain⟨l,vs,f,rest,ex,hl,ol,pm,w,cl⟩:=I.Qdx es
 have ln:n<ds.length:=(z25.mp hx).1
 obtain⟨f1,fj,f2,v0,d0,rfl,e1,e2,oj,ks⟩:=ol.setAt ln
 rw[hx] at e2
 cases e2
 obtain⟨l2,us,g,rfl,rfl,hl2,og⟩:=oj.QhU
 refine⟨l,vs,l2,us,f1,g,f2,rest,ex,hl,ol.length,e1,hl2,og,pm,fun b hb=>w b (by simp[hb]),fun{us' xs' g'} og' nd fr=>?_⟩
 have nd1:(l2::(l::(f1++(g'++f2))++rest)).Nodup:=by
  have pp:((l::(f1++((l2::g')++f2)))++rest).Perm (l2::(l::(f1++(g'++f2))++rest)):=by
   rw[z83]
   intro a
   simp only[z88,zg7]
   lia
  exact pp.nodup_iff.mp nd
 have nl:∀{b:Addr},b=l\/b∈f1\/b∈g'\/b∈f2\/b∈rest->b≠l2:=fun{b} hb z=>by
  subst z
  exact(z72.mp nd1).1 (by simp only[z05,z15];rcases hb with z|z|z|z|z<;>simp[z])
 have Qwk:O C.K F (upd H l2 (.lst us')) (.ref l2) (.lst xs') (l2::g'):=.mt (t:=.lst) (show upd H l2 (.lst us') l2=some (.lst us') from Qs) (og'.keep (Qu.refl _) fun b hb=>Qk (nl (.inr (.inr (.inl hb)))))
 have oln:=ks (Qu.refl F) (H':=upd H l2 (.lst us')) (fun b hb=>Qk (nl (by rcases z05.mp hb with z|z;exact .inr (.inl z);exact .inr (.inr (.inr (.inl z)))))) Qwk
 rw[JC e1] at oln
 refine cl (vs':=vs) ((Qk (nl (.inl rfl))).trans hl) oln (fun b hb=>Qk (nl (.inr (.inr (.inr (.inr hb)))))) (fun b o e n'=>(Qk (by intro z;subst z;exact n' @9)).trans e) (fun b e=>?_) nd fun b hb=>?_
 ·by_cases hb:b=l2
  ·subst hb;rw[Qs] at e;cases e
  ·rw[Qk hb] at e;exact e
 ·simp only[z05,z15] at hb
  have inn:∀{b:Addr},b∈l::(f1++((l2::g)++f2))->F b=none/\Vz C par b:=fun{b} z=>⟨I.ap b (pm.mem_iff.mpr (z06 _ z)),w b z⟩
  rcases hb with z|(z|z)|z
  ·exact inn (by simp[z])
  ·exact inn (by simp[z])
  ·exact fr b z
  ·exact inn (by simp[z])
def Qfd (i:Nat)(m mi mj:ME):MS:=fun ρ=>(m ρ).bind fun r=>(Rs.of (Qax r.2 i)).bind fun _=>(mi r.2).bind fun s=>(Rs.of (Qax s.2 i)).bind fun q=>(Rs.of ((asI s.1).bind fun n=>ixN q.2.length n)).bind fun n=>(Rs.of ((q.2[n]?).bind asL)).bind fun _=>
 (mj s.2).bind fun t=>(Rs.of (Qax t.2 i)).bind fun q'=>(Rs.of ((q'.2[n]?).bind asL)).bind fun xs=>(Rs.of ((asI t.1).bind fun k=>ixN xs.length k)).bind fun k=>.ok (.nx,t.2.set i (some (mkS q'.1 (.lst (q'.2.set n (.lst (xs.set k r.1)))))))
theorem QkH {ds xs:List D}{n:Nat}(h:(ds[n]?).bind asL=some xs):ds[n]? = some (.nd .lst xs):=by
 obtain⟨d,e1,e2⟩:=z23.mp h
 rw[e1,QbW e2]
theorem Qfe {i:Nat}{x:Str}{np sp1 sp2:Pos}(hK:C.K=X.K)(he:PE X e (tX .O C pa E m))
  (hs:swapsWithSole [.Subscript (.Subscript (.Name x np) ixa sp1) ixb sp2] e pos.line X.env=pure false:=by rfl) (hw:swappedStores [.Subscript (.Subscript (.Name x np) ixa sp1) ixb sp2] e X.env=pure none:=by rfl)
  (h1:(assignEach [.Subscript (.Subscript (.Name x np) ixa sp1) ixb sp2] X.env).map (·.2)=[assign (.Subscript (.Subscript (.Name x np) ixa sp1) ixb sp2) X.env]:=by rfl)
  (hg:PG X (.Subscript (.Subscript (.Name x np) ixa sp1) ixb sp2) (L2.QpD (tOp (Qtw X.K) (QsX i) (tX ka C pb E ma)) (tX kb C true E mb) Qn7)) (ok:ka.on true=true:=by rfl) (ok2:kb.on true=true:=by rfl) :
  PS X (.Assign [.Subscript (.Subscript (.Name x np) ixa sp1) ixb sp2] e pos) (tS rk C E (Qfd i m ma mb)):=
 Jl (Qju he hg hs hw h1) fun DD σ H ⟨F,ρ,fp,I,h⟩=>by
 refine⟨F,ρ,[],fp,I,h.split.run.mono fun r hr F1 H1 fp1 v I1 n1 _=>?_⟩
 obtain⟨q0,e0,hr⟩:=hr.split.of
 obtain⟨l0,vs0,f0,Qg0,ex0,hl0,_⟩:=SI.Qdx I1 (JT e0)
 refine⟨_,ex0,F1,r.2,[(v,r.1)],fp1,I1,hr.split.run.mono fun s hs F2 H2 fp2 iv I2 n2 f2=>?_⟩
 rw[Kd.Yn ok] at I2
 obtain⟨q,eq,h2⟩:=hs.split.of
 obtain⟨n,ej,h3⟩:=h2.split.of
 obtain⟨nn,en,ejn⟩:=z23.mp ej
 have riv:=Kd.stay ok f2 .refl I2
 rw[Qgc en] at riv
 obtain rfl:=riv.QK (w:=.int nn) rfl
 obtain⟨xs0,exs,h3⟩:=h3.split.of
 obtain⟨l,vs,l2,us,f1',g',f2',rest',ex,hl,lv,hv2,hl2,_,pm2,_⟩:=I2.Qri (JT eq) (QkH exs)
 have el:l=l0:=by rw[ex0] at ex;cases ex;rfl
 subst el
 have atv:atI vs nn=some (.ref l2):=by unfold atI;rw[lv,ejn];exact hv2
 refine⟨l,vs,nn,_,rfl,rfl,SqL.of hl,atv,F2,s.2,[(v,r.1)],fp2,I2,h3.split.run.mono fun t ht F3 H3 fp3 jv I3 n3 f3=>?_⟩
 rw[Kd.Yn ok2] at I3
 obtain⟨q',eq',h4⟩:=ht.split.of
 obtain⟨xs,Qwl,h5⟩:=h4.split.of
 obtain⟨k,ek,h6⟩:=h5.split.of
 obtain⟨kk,ekk,ekn⟩:=z23.mp ek
 have rjv:=Kd.stay ok2 f3 .refl I3
 rw[Qgc ekk] at rjv
 obtain rfl:=rjv.QK (w:=.int kk) rfl
 obtain⟨ft,Qkz,ot,pmt,J,t0,tap,tnd⟩:=SI.pop (τ:=[]) I3
 obtain⟨l',vs',l2',us',f1,g,f2,rest,ex',hl',lv',Qvu,hl2',og,pm,wg,cl⟩:=J.Qri (JT eq') (QkH Qwl)
 have el:l'=l:=by rw[ex0] at ex';cases ex';rfl
 subst el
 -- the outer list is the same
 have same:H3 l'=some (.lst vs):=by
  have z:=n3.g rfl l' (.lst vs) (by rw[Vo (pm2.mem_iff.mpr @9)];exact hl)
  exact Vn I3.fh l' _ z
 have evs:vs'=vs:=by rw[hl'] at same;cases same;rfl
 subst evs
 have el2:l2'=l2:=by rw[hv2] at Qvu;cases Qvu;rfl
 subst el2
 have lk:=Qne ekn
 obtain⟨g1,gk,g2,v0,d0,rfl,_,_,_,ks⟩:=og.setAt lk
 refine⟨l2',us',kk,k,rfl,rfl,hl2',by rw[og.length];exact ekn,?_⟩
 refine h6 F3 _ σ _ ((n1.f.trans n2.f).trans n3.f) (cl (ks (Qu.refl _) (fun _ _=>rfl) ot) ?_ fun b hb=>?_)
 ·have big:=(pm.append_left ft).nodup_iff.mp tnd
  have pp:(ft++((l'::(f1++((l2'::(g1++(gk++g2)))++f2)))++rest)).Perm (gk++((l'::(f1++((l2'::(g1++(ft++g2)))++f2)))++rest)):=by
   rw[z83]
   intro a
   simp only[z88,zg7]
   lia
  exact(z09.mp (pp.nodup_iff.mp big)).2.1
 ·simp only[z05] at hb
  rcases hb with z|z|z
  ·exact⟨J.ap b (pm.mem_iff.mpr (by simp[z])),wg b (by simp[z])⟩
  ·exact⟨tap b z,.inl (t0 b z)⟩
  ·exact⟨J.ap b (pm.mem_iff.mpr (by simp[z])),wg b (by simp[z])⟩
theorem Qba {A:Around}{k:Nat}(hr:Qag k A):A.units+30<cLine:=by have:=hr.units;lia
theorem QfA (hK:C.K=X.K):OpD C.K (QpI X.K 30 id) gEq:=by rw[hK];exact dEq
theorem QhX (hK:C.K=X.K):OpD C.K (QpI X.K 30 not) gNe:=by rw[hK];exact dNe
theorem xb (i:Nat){x:Str}{pos:Pos}(hN:X.N[i]? = some x:=by rfl)(hv:Vis X.env.scope x:=by first|exact z28 rfl|exact z57 @13|exact z57 (z57 rfl))(hd:@6=false:=by decide)(hcd:(x == ("__classdict__" : Str))=false:=by decide):PE X (.Name x pos) (tX .B C true E (mB i)):=QqQ hN hv hd hcd
theorem xv (i:Nat){x:Str}{pos:Pos}(hN:X.N[i]? = some x:=by rfl)(hv:Vis X.env.scope x:=by first|exact z28 rfl|exact z57 @13|exact z57 (z57 rfl))(hd:@6=false:=by decide)(hcd:(x == ("__classdict__" : Str))=false:=by decide):PE X (.Name x pos) (tX .V C true E (mV i)):=QqR hN hv hd hcd
theorem xo (i:Nat){x:Str}{pos:Pos}(hN:X.N[i]? = some x:=by rfl)(hv:Vis X.env.scope x:=by first|exact z28 rfl|exact z57 @13|exact z57 (z57 rfl))(hd:@6=false:=by decide)(hcd:(x == ("__classdict__" : Str))=false:=by decide):PE X (.Name x pos) (tX .O C true E (mO i)):=QqS hN hv hd hcd
theorem xs (i:Nat){x:Str}{pos:Pos}(hN:X.N[i]? = some x:=by rfl)(hv:Vis X.env.scope x:=by first|exact z28 rfl|exact z57 @13|exact z57 (z57 rfl))(hd:@6=false:=by decide)(hcd:(x == ("__classdict__" : Str))=false:=by decide):PE X (.Name x pos) (tX (.S i) C true E (mS i)):=QqW hN hv hd hcd
theorem spk {P:Program}{w:World}{K:z00}{mg:Str->Option Value}{base:Heap}{n:Nat}{x:Str}{ps:List Str}{io:List Bool}{f:List D->Fr}(D:Qcq P w K mg base n x ps (spF K io rk f))(hC:C.K=K):Qcq P w K mg base n x ps (spF C.K io rk f):=by rw[hC];exact D
def QoH (i:Nat)(m:ME):MS:=Qi7 i m
theorem QkI {elt iter:Expr}{x y:Str}{px py pos spos:Pos}{ifs:List Expr}{scope:Scope}{N:List Str}{cs:List Cp}{j i0:Nat}{par:Bool}{mi:MA}{mt:MT}{me:ME}{pc pe:Bool}(hK:C.K=X.K)(hc:X.calm=true)(hXN:X.N.Nodup)(hi0:X.N[i0]? = some y)(hy:Loc X.env.scope y)(B:Blk X scope N (cs.map Cp.ix))(hjN:N[j]? = some x)(hj:cs[j]? = some .me)(hx:scope.names.lookup x=some .local)(hi:PI X (.Name x px) iter (tI C pa E mi))
  (ht:∀pins c s H ex,PIf (X.blk scope N pins c s H ex) ifs (exT X.K pc mt)) (he:∀pins c s H ex,PE (X.blk scope N pins c s H ex) elt (exX .O X.K pe me)) (nd:(cs.filterMap Cp.is).Nodup:=by decide)
  (hsw:swapsWith (.ListComp elt [⟨.Name x px,iter,ifs,0⟩] scope pos) (some (.Name y py)) spos.line X.env=pure true:=by rfl)
  (hf:X.fn y=true\/X.env.scope.names.lookup y=some .local:=by first|exact .inl rfl|exact .inr rfl|assumption)
  (hs:∀x,foldedSetIterable iter X.env x=pure x:=by intro _;rfl):PS X (.Assign [.Name y py] (.ListComp elt [⟨.Name x px,iter,ifs,0⟩] scope pos) spos) (tS rk C E (QoH i0 (Qcu par cs j mi mt me))):=
 Jl (QeX hc hXN hi0 hy B hi (fun _ _ _ _ _=>QG (i:=j) B.nd hjN (.inl (lookup_relabel_local hx)) (.inr (lookup_relabel_local hx))) ht he hsw hf hs) fun D σ H h=>by
  have q:=Qg1 (p:=pa && false) h
  refine Qdt (p:=false) (par:=par) hK hj nd (fun z=>nomatch z) ?_
  obtain⟨F,ρ,τ,fp,I,r⟩:=q
  exact⟨F,ρ,τ,fp,I,r.mono fun a z F' H' fp' v I' n f=>by
   obtain⟨F2,rest,J,sf,rr,je⟩:=SI.freeze (show SI C F' H' σ a.2 ((v,a.1)::τ) fp' from I')
   exact z F2 H' rest v J ⟨n.f.trans sf,fun hp=>by rw[je];exact n.g hp⟩ rr⟩
end
section
variable {k:Kd}{n:Nat}
noncomputable def Qvv (i:Int)(n:Nat):List D:=(z68 n).map fun k=>.int (i+(k:Nat))
end
def W {α:Type}(r:Rs α)(k:α->Prop):Prop:=∃a,r=.ok a/\k a
section
variable {α β:Type}{k:α->Prop}
theorem Q5 {a:α}:W (.ok a) k↔k a:=⟨fun⟨b,e,h⟩=>by cases e;exact h,fun h=>⟨a,rfl,h⟩⟩
theorem Qi {x:Rs β}{f:β->Rs α}:W (x.bind f) k↔W x fun a=>W (f a) k:=by
 cases x with
 |ok a=>exact⟨fun h=>⟨a,rfl,h⟩,fun⟨b,e,h⟩=>by cases e;exact h⟩
 |ex c ρ=>exact⟨fun⟨_,e,_⟩=>(nomatch e),fun⟨_,e,_⟩=>(nomatch e)⟩
 |no=>exact⟨fun⟨_,e,_⟩=>(nomatch e),fun⟨_,e,_⟩=>(nomatch e)⟩
theorem Qt9 {a:α}:W (Rs.of (some a)) k↔k a:=Q5
theorem Qg7 {c:Prop}[Decidable c]{x y:Rs α}(h1:c->W x k)(h2:¬c->W y k):W (if c then x else y) k:=by
 by_cases h:c
 ·rw[if_pos h];exact h1 h
 ·rw[if_neg h];exact h2 h
theorem W.mono {r:Rs α}{k':α->Prop}(h:W r k)(m:∀a,k a->k' a):W r k':=by obtain⟨a,e,h⟩:=h;exact⟨a,e,m a h⟩
theorem W.eq {r:Rs α}{a:α}(h:W r fun b=>b=a):r=.ok a:=by obtain⟨b,e,rfl⟩:=h;exact e
end
def FW (r:Fr)(P:D->List D->Prop):Prop:=∃d os,r=.ok d os/\P d os
theorem Jc {io:List Bool}{n:Nat}{mb:MS}{ds:List D}{P:D->List D->Prop}(h:W (mb (Qkl io n ds)) fun q=>∃d os,q.1=.rt d/\outs io q.2=some os/\P d os):FW (JN io n mb ds) P:=by
 obtain⟨⟨f,ρ⟩,e,d,os,rfl,ho,p⟩:=h
 refine⟨d,os,?_,p⟩
 unfold JN
 rw[e]
 dsimp only at ho ⊢
 rw[ho]
theorem Qff {io:List Bool}{n:Nat}{mb:MS}{ds:List D}{P:D->List D->Prop}(h:W (mb (Qkl io n ds)) fun q=>∃os,q.1=.nx/\outs io q.2=some os/\P .non os):FW (JN io n mb ds) P:=by
 obtain⟨⟨f,ρ⟩,e,os,rfl,ho,p⟩:=h
 refine⟨.non,os,?_,p⟩
 unfold JN
 rw[e]
 dsimp only at ho ⊢
 rw[ho]
theorem Qrj {par:Bool}{as:List (Option Nat)}{f:List D->Fr}{mr:MA}{ρ ρ1:Rho}{args dis:List D}{P:D->List D->Prop}{k:D×Rho->Prop}(h1:mr ρ=.ok (args,ρ1))(h2:Qab par ρ1 (as.filterMap id)=some dis)(h3:FW (f (Qjo as args dis)) P)
  (h4:∀d os,P d os->k (d,Vq par ρ1 (as.filterMap id) os)):W (Qf2 par as f mr ρ) k:=by
 obtain⟨d,os,e,p⟩:=h3
 refine⟨_,?_,h4 d os p⟩
 unfold Qf2
 rw[h1]
 show((Rs.of (Qab par ρ1 (as.filterMap id))).bind _)=_
 rw[h2]
 show(match f (Qjo as args dis) with|.ok d outs=>_|.ex c=>_|.no=>_)=_
 rw[e]
theorem QoI {rk:Kd}{f:List D->Fr}{mr:MA}{ρ ρ1:Rho}{args:List D}{P:D->List D->Prop}{k:D×Rho->Prop}(h1:mr ρ=.ok (args,ρ1))(h3:FW (f args) P)(h4:∀d os,P d os->(rk=.V->d.imm=true)/\k (d,ρ1)):W (Qac rk f mr ρ) k:=by
 obtain⟨d,os,e,p⟩:=h3
 refine⟨_,?_,(h4 d os p).2⟩
 unfold Qac
 rw[h1]
 show(match f args with|.ok d _=>_|.ex c=>_|.no=>_)=_
 rw[e]
 cases rk with
 |V=>show(if d.imm=true then _ else _)=_;rw[if_pos ((h4 d os p).1 rfl)]
 |O=>rfl
 |B=>rfl
 |S i=>rfl
theorem Jq {m u:MS}{ρ:Rho}{k:Fl×Rho->Prop}(J:Rho->Prop)(h1:W (m ρ) fun r=>r.1=.nx/\J r.2)(h2:∀ρ,J ρ->W (u ρ) k):W (Qi6 m u ρ) k:=by
 obtain⟨⟨f,ρ1⟩,e,e2,hj⟩:=h1
 obtain⟨a,e3,h3⟩:=h2 ρ1 hj
 refine⟨a,?_,h3⟩
 have e2':f=.nx:=e2
 subst e2'
 unfold Qi6
 rw[e]
 exact e3
theorem QoJ {mr:MA}{ρ ρ1:Rho}{n:Int}(h:mr ρ=.ok ([.int n],ρ1))(b1 : -(2 ^ 62)<=n)(b2:n<2 ^ 62):Qmi mr ρ=.ok ((z68 n.toNat).map fun j=>.int ((0:Int)+(j:Nat)),ρ1):=by
 unfold Qmi
 rw[h]
 have e:Qg3 [.int n]=some n:=if_pos ⟨b1,b2⟩
 show((Rs.of (Qg3 [.int n])).bind _)=_
 rw[e]
 rfl
inductive Fa2 (P:D->D->Prop):List D->List D->Prop
 |nil:Fa2 P [] []
 |cons {x y:D} {xs ys:List D} (h:P x y) (r:Fa2 P xs ys):Fa2 P (x::xs) (y::ys)
theorem Fa2.length {P:D->D->Prop}:∀{xs ys:List D},Fa2 P xs ys->ys.length=xs.length
 |_,_,.nil=>rfl
 |_,_,.cons _ r=>by simp[r.length]
theorem QkJ {j:Nat}{tc:MT}{te:ME}{Inv:Rho->Prop}{Pd:D->D->Prop}:∀{ds:List D} {ρ:Rho} {acc:List D},(∀d∈ds,∀ρ,Inv ρ->∃ρ0,Qam ρ j d=some ρ0/\W (tc ρ0) fun c=>c.1=true/\W (te c.2) fun r=>Inv (r.2.set j none)/\Pd d r.1)->Inv ρ->acc.length+ds.length<=z17->
  W (Qct j tc te ds ρ acc) fun q=>Inv q.2/\∃ys,q.1=acc++ys/\Fa2 Pd ds ys
 | [],ρ,acc,h,i,l=>Q5.mpr ⟨i,[],by simp,.nil⟩
 |d::ds,ρ,acc,h,i,l=>by
  obtain⟨ρ0,e0,h1⟩:=h d z07 ρ i
  unfold Qct
  rw[e0]
  refine Qi.mpr (Qt9.mpr (Qi.mpr (h1.mono fun c hz=>?_)))
  obtain⟨hc,h2⟩:=hz
  rw[if_pos hc]
  refine Qi.mpr (h2.mono fun r hz=>?_)
  obtain⟨h3,h4⟩:=hz
  rw[if_pos (by simp at l;lia)]
  refine(QkJ (acc:=acc++[r.1]) (fun d' hd'=>h d' (z08 _ hd')) h3 (by simp at l ⊢;lia)).mono fun q ⟨h5,ys,e,f⟩=>⟨h5,r.1::ys,by rw[e];simp,.cons h4 f⟩
theorem Qrk {par:Bool}{cs:List Cp}{j:Nat}{mi:MA}{tc:MT}{te:ME}{ρ ρ1 ρb:Rho}{ds di:List D}{k:D×Rho->Prop}{Inv:Rho->Prop}{Pd:D->D->Prop}(h1:mi ρ=.ok (ds,ρ1))(h2:Qab par ρ1 @19=some di)(h3:Qcj ρ1 cs di=some ρb)
  (hs:∀d∈ds,∀ρ,Inv ρ->∃ρ0,Qam ρ j d=some ρ0/\W (tc ρ0) fun c=>c.1=true/\W (te c.2) fun r=>Inv (r.2.set j none)/\Pd d r.1) (i:Inv ρb) (l:ds.length<=z17)
  (hk:∀ys ρ2,Inv ρ2->Fa2 Pd ds ys->∃os,outs (ioB cs) ρ2=some os/\k (.lst ys,Vq par ρ1 @19 os)):W (Qcu par cs j mi tc te ρ) k:=by
 obtain⟨⟨q1,q2⟩,e,h4,ys,eq,h5⟩:=QkJ (acc:=[]) hs i (by simpa using l)
 have eq':ys=q1:=eq.symm
 subst eq'
 obtain⟨os,ho,h6⟩:=hk ys q2 h4 h5
 refine⟨_,?_,h6⟩
 unfold Qcu
 rw[h1]
 show((Rs.of (Qab par ρ1 @19)).bind _)=_
 rw[h2]
 show((Rs.of (Qcj ρ1 cs di)).bind _)=_
 rw[h3]
 show(match Qct j tc te ds ρb [] with|.ok q=>_|_=>_)=_
 rw[e]
 show((Rs.of (outs (ioB cs) q2)).bind _)=_
 rw[ho]
 rfl
theorem Qcw {j:Nat}{tc:MT}{te:ME}{f:D->Bool}{g:D->D}{ρ:Rho}:∀{ds:List D} {acc:List D},(∀d∈ds,∃ρ0,Qam ρ j d=some ρ0/\tc ρ0=.ok (f d,ρ0)/\(f d=true->te ρ0=.ok (g d,ρ0))/\ρ0.set j none=ρ)->acc.length+ds.length<=z17->
  Qct j tc te ds ρ acc=.ok (acc++(ds.filter f).map g,ρ)
 | [],acc,h,l=>by simp[Qct]
 |d::ds,acc,h,l=>by
  obtain⟨ρ0,e0,e1,e2,e3⟩:=h d z07
  unfold Qct
  rw[e0]
  show((tc ρ0).bind _)=_
  rw[e1]
  by_cases hf:f d=true
  ·show(if f d=true then _ else _)=_
   rw[if_pos hf,e2 hf]
   show(if acc.length<z17 then _ else _)=_
   rw[if_pos (by simp at l;lia),e3,Qcw (fun d' hd'=>h d' (z08 _ hd')) (by simp at l ⊢;lia),z84,if_pos hf]
   simp
  ·show(if f d=true then _ else _)=_
   rw[if_neg hf,e3,Qcw (fun d' hd'=>h d' (z08 _ hd')) (by simp at l ⊢;lia),z84,if_neg hf]
theorem Qgf {par:Bool}{cs:List Cp}{j:Nat}{mi:MA}{tc:MT}{te:ME}{ρ ρ1 ρb:Rho}{ds di os:List D}{f:D->Bool}{g:D->D}(h1:mi ρ=.ok (ds,ρ1))(h2:Qab par ρ1 @19=some di)(h3:Qcj ρ1 cs di=some ρb)
  (hs:∀d∈ds,∃ρ0,Qam ρb j d=some ρ0/\tc ρ0=.ok (f d,ρ0)/\(f d=true->te ρ0=.ok (g d,ρ0))/\ρ0.set j none=ρb) (l:ds.length<=z17) (ho:outs (ioB cs) ρb=some os) (hp:Vq par ρ1 @19 os=ρ1):Qcu par cs j mi tc te ρ=.ok (.lst ((ds.filter f).map g),ρ1):=by
 unfold Qcu
 rw[h1]
 show((Rs.of (Qab par ρ1 @19)).bind _)=_
 rw[h2]
 show((Rs.of (Qcj ρ1 cs di)).bind _)=_
 rw[h3]
 show(match Qct j tc te ds ρb [] with|.ok q=>_|_=>_)=_
 rw[Qcw hs (by simpa using l)]
 show((Rs.of (outs (ioB cs) ρb)).bind _)=_
 rw[ho]
 show Rs.ok _=_
 rw[hp]
 simp
theorem comp_map {par:Bool}{cs:List Cp}{j:Nat}{mi:MA}{te:ME}{ρ ρ1 ρb:Rho}{ds di os:List D}{g:D->D}(h1:mi ρ=.ok (ds,ρ1))(h2:Qab par ρ1 @19=some di)(h3:Qcj ρ1 cs di=some ρb)
  (hs:∀d∈ds,∃ρ0,Qam ρb j d=some ρ0/\te ρ0=.ok (g d,ρ0)/\ρ0.set j none=ρb) (l:ds.length<=z17) (ho:outs (ioB cs) ρb=some os) (hp:Vq par ρ1 @19 os=ρ1):Qcu par cs j mi Qs4 te ρ=.ok (.lst (ds.map g),ρ1):=by
 rw[Qgf (f:=fun _=>true) (g:=g) h1 h2 h3 (fun d hd=>by obtain⟨ρ0,e1,e2,e3⟩:=hs d hd;exact⟨ρ0,e1,rfl,fun _=>e2,e3⟩) l ho hp,zv6.mpr fun _ _=>rfl]
theorem Qni {tg:D->Rho->Option Rho}{mb:MS}{k:Fl×Rho->Prop}(Inv:Nat->Rho->Prop){ds:List D}(step:∀i d ρ,ds[i]? = some d->Inv i ρ->∃ρ1,tg d ρ=some ρ1/\W (mb ρ1) fun r=>r.1=.nx/\Inv (i+1) r.2) :
  ∀(n i:Nat) (ρ:Rho),ds.length - i=n->i<=ds.length->Inv i ρ->(∀ρ',Inv ds.length ρ'->k (.nx,ρ'))->W (forL tg mb (ds.drop i) ρ) k
 |0,i,ρ,hn,hi,h,hk=>by
  have:i=ds.length:=by lia
  subst this
  rw[zo6]
  exact Q5.mpr (hk _ h)
 |n+1,i,ρ,hn,hi,h,hk=>by
  have hlt:i<ds.length:=by lia
  rw[z96 hlt]
  obtain⟨ρ1,e1,h1⟩:=step i ds[i] ρ (z04 hlt) h
  unfold forL
  rw[e1]
  refine Qi.mpr (Qt9.mpr (Qi.mpr (h1.mono fun r hz=>?_)))
  obtain⟨e2,h2⟩:=hz
  rw[e2]
  exact Qni Inv step n (i+1) r.2 @0 @0 h2 hk
theorem QkK {a b:Int}:gEq (.int a) (.int b)=some (.bl (decide (a=b))):=by
 show(eqS (.int a) (.int b)).map D.bl=_
 unfold eqS
 rw[if_pos (by rfl)]
 show some _=some _
 congr 2
 by_cases h:a=b<;>simp[h]
theorem QkL {a b:Int}:gNe (.int a) (.int b)=some (.bl (decide (a≠b))):=by
 have:=QkK (a:=a) (b:=b)
 unfold gEq at this
 unfold gNe
 cases h:eqb 30 (.int a) (.int b) with
 |none=>rw[h] at this;cases this
 |some c=>
  rw[h] at this
  cases this
  show some _=some _
  by_cases h:a=b<;>simp[h]
theorem Fa2.all {P:D->Prop}:∀{xs ys:List D},Fa2 (fun _ y=>P y) xs ys->∀y∈ys,P y
 |_,_,.nil,_,h=>nomatch h
 |_,_,.cons h r,y,hy=>by
  rcases z15.mp hy with rfl|hy
  ·exact h
  ·exact r.all y hy
section
variable {s:Option Sl}{ρ ρ1 ρ2:Rho}{k:D×Rho->Prop}{kt:Bool×Rho->Prop}{ka:List D×Rho->Prop}{kf:Fl×Rho->Prop}{a b m u:ME}{mt mu:MT}{mr:MA}{ms mv:MS}{d x y:D}{xs ys:List D}{i:Nat}{g:D->D->Option D}{c:Bool}
def vK (o:Option (Option Sl))(i:Nat)(ρ:Rho):Rs (D×Rho):=match o with
 |some (some (.frz d))=>.ok (d,ρ)
 |some (some (.own d))=>.ok (d,ρ.set i (some (.frz d)))
 |_=>.no
theorem Qrl:vK (some (some (.frz d))) i ρ=.ok (d,ρ):=rfl
theorem Qrm:vK (some (some (.own d))) i ρ=.ok (d,ρ.set i (some (.frz d))):=rfl
theorem w_V:W (mV i (s::ρ)) k↔W (vK ((s::ρ)[i]?) i (s::ρ)) k:=Iff.rfl
def bK (o:Option (Option Sl))(ρ:Rho):Rs (D×Rho):=match o with
 |some (some (.frz d))=>.ok (d,ρ)
 |some (some (.own d))=>.ok (d,ρ)
 |some (some (.par d))=>.ok (d,ρ)
 |_=>.no
theorem Qrn:bK (some (some (.frz d))) ρ=.ok (d,ρ):=rfl
theorem Qro:bK (some (some (.own d))) ρ=.ok (d,ρ):=rfl
theorem Qrp:bK (some (some (.par d))) ρ=.ok (d,ρ):=rfl
theorem w_B:W (mB i (s::ρ)) k↔W (bK ((s::ρ)[i]?) (s::ρ)) k:=Iff.rfl
def oK (o:Option (Option Sl))(i:Nat)(ρ:Rho):Rs (D×Rho):=match o with
 |some (some (.own d))=>.ok (d,ρ.set i none)
 |_=>.no
theorem Qrq:oK (some (some (.own d))) i ρ=.ok (d,ρ.set i none):=rfl
theorem w_O:W (mO i (s::ρ)) k↔W (oK ((s::ρ)[i]?) i (s::ρ)) k:=Iff.rfl
def sK (o:Option (Option Sl))(ρ:Rho):Rs (D×Rho):=match o with
 |some (some (.own d))=>.ok (d,ρ)
 |some (some (.par d))=>.ok (d,ρ)
 |_=>.no
theorem Qrr:sK (some (some (.own d))) ρ=.ok (d,ρ):=rfl
theorem Qrs:sK (some (some (.par d))) ρ=.ok (d,ρ):=rfl
theorem w_S:W (mS i (s::ρ)) k↔W (sK ((s::ρ)[i]?) (s::ρ)) k:=Iff.rfl
theorem w_C:W (mC d (s::ρ)) k↔k (d,s::ρ):=Q5
def iK (r:D×Rho):Rs (D×Rho):=if r.1.imm=true then .ok r else .no
theorem Qua:iK (d,ρ)=if d.imm=true then .ok (d,ρ) else .no:=rfl
theorem w_I:W (mI m (s::ρ)) k↔W (m (s::ρ)) fun r=>W (iK r) k:=Qi
def opK (g:D->D->Option D)(r1 r2:D×Rho):Rs (D×Rho):=Rs.of ((g r1.1 r2.1).map fun d=>(d,r2.2))
theorem Qrt:opK g (x,ρ1) (y,ρ2)=Rs.of ((g x y).map fun d=>(d,ρ2)):=rfl
theorem Qwm:W (mOp g a b (s::ρ)) k↔W (a (s::ρ)) fun r1=>W (b r1.2) fun r2=>W (opK g r1 r2) k:=by simp only[mOp,Qi,opK]
def tK (r:D×Rho):Rs (Bool×Rho):=Rs.of ((asB r.1).map fun b=>(b,r.2))
theorem Qub:tK (.bl c,ρ)=.ok (c,ρ):=rfl
theorem Qru:W (QgY m (s::ρ)) kt↔W (m (s::ρ)) fun r=>W (tK r) kt:=Qi
def nK (r:Bool×Rho):Rs (Bool×Rho):=.ok (!r.1,r.2)
theorem Quc:nK (c,ρ)=.ok (!c,ρ):=rfl
theorem Qud:W (Qvh mt (s::ρ)) kt↔W (mt (s::ρ)) fun r=>W (nK r) kt:=Qi
def anK (u:MT)(r:Bool×Rho):Rs (Bool×Rho):=if r.1=true then u r.2 else .ok (false,r.2)
theorem Qrv:anK mu (c,ρ)=if c=true then mu ρ else .ok (false,ρ):=rfl
theorem Que:W (Qvi mt mu (s::ρ)) kt↔W (mt (s::ρ)) fun r=>W (anK mu r) kt:=Qi
def orK (u:MT)(r:Bool×Rho):Rs (Bool×Rho):=if r.1=true then .ok (true,r.2) else u r.2
theorem Qrw:orK mu (c,ρ)=if c=true then .ok (true,ρ) else mu ρ:=rfl
theorem Qwn:W (mOr mt mu (s::ρ)) kt↔W (mt (s::ρ)) fun r=>W (orK mu r) kt:=Qi
def feK (a b:ME)(r:Bool×Rho):Rs (D×Rho):=if r.1=true then a r.2 else b r.2
theorem Qrx:feK a b (c,ρ)=if c=true then a ρ else b ρ:=rfl
theorem Quf:W (Qvj mt a b (s::ρ)) k↔W (mt (s::ρ)) fun r=>W (feK a b r) k:=Qi
theorem Qug:W (Qem (s::ρ)) ka↔ka ([],s::ρ):=Q5
def coK (r:D×Rho)(q:List D×Rho):Rs (List D×Rho):=.ok (r.1::q.1,q.2)
theorem Qry:coK (d,ρ1) (xs,ρ2)=.ok (d::xs,ρ2):=rfl
theorem Qrz:W (Q7 m mr (s::ρ)) ka↔W (m (s::ρ)) fun r=>W (mr r.2) fun q=>W (coK r q) ka:=by simp only[Q7,Qi,coK]
def cbK (g:List D->Option D)(r:List D×Rho):Rs (D×Rho):=Rs.of ((g r.1).map fun d=>(d,r.2))
theorem QrA {g:List D->Option D}:cbK g (xs,ρ)=Rs.of ((g xs).map fun d=>(d,ρ)):=rfl
theorem QoK {g:List D->Option D}:W (Qen g mr (s::ρ)) k↔W (mr (s::ρ)) fun r=>W (cbK g r) k:=Qi
def lsK (r:List D×Rho):Rs (D×Rho):=if r.1.length<=z17 then .ok (.lst r.1,r.2) else .no
theorem QrB:lsK (xs,ρ)=if xs.length<=z17 then .ok (.lst xs,ρ) else .no:=rfl
theorem Quh:W (QpF mr (s::ρ)) k↔W (mr (s::ρ)) fun r=>W (lsK r) k:=Qi
def tuK (r:List D×Rho):Rs (D×Rho):=if r.1.length<=z17 then .ok (.tup r.1,r.2) else .no
theorem QrC:tuK (xs,ρ)=if xs.length<=z17 then .ok (.tup xs,ρ) else .no:=rfl
theorem Qui:W (Qs2 mr (s::ρ)) k↔W (mr (s::ρ)) fun r=>W (tuK r) k:=Qi
def loK (r:List D×Rho):Rs (D×Rho):=if r.1.length<=z17 then(if D.Jb r.1=true then .ok (.lst r.1,r.2) else .no) else .no
theorem QrD:loK (xs,ρ)=if xs.length<=z17 then(if D.Jb xs=true then .ok (.lst xs,ρ) else .no) else .no:=rfl
theorem QrE:W (Qmf mr (s::ρ)) k↔W (mr (s::ρ)) fun r=>W (loK r) k:=Qi
def liK (r:List D×Rho):Rs (D×Rho):=(Rs.of (Qi5 r.1)).bind fun ds=>if D.Jb ds=true then .ok (.lst ds,r.2) else .no
theorem Qnj:liK ([.nd .lst xs],ρ)=if D.Jb xs=true then .ok (.lst xs,ρ) else .no:=rfl
theorem QoL:W (QhJ mr (s::ρ)) k↔W (mr (s::ρ)) fun r=>W (liK r) k:=Qi
theorem QrF:W (Qou (s::ρ)) kf↔kf (.nx,s::ρ):=Q5
def sqK (u:MS)(r:Fl×Rho):Rs (Fl×Rho):=match r.1 with
 |.nx=>u r.2
 |f=>.ok (f,r.2)
theorem QrG:sqK mv (.nx,ρ)=mv ρ:=rfl
theorem QrH:sqK mv (.rt d,ρ)=.ok (.rt d,ρ):=rfl
theorem Quj:W (Qi6 ms mv (s::ρ)) kf↔W (ms (s::ρ)) fun r=>W (sqK mv r) kf:=Qi
def rtK (r:D×Rho):Rs (Fl×Rho):=.ok (.rt r.1,r.2)
theorem QrI:rtK (d,ρ)=.ok (.rt d,ρ):=rfl
theorem Quk:W (Qvk m (s::ρ)) kf↔W (m (s::ρ)) fun r=>W (rtK r) kf:=Qi
def ifK (a b:MS)(r:Bool×Rho):Rs (Fl×Rho):=if r.1=true then a r.2 else b r.2
theorem QrJ:ifK ms mv (c,ρ)=if c=true then ms ρ else mv ρ:=rfl
theorem Qwo:W (mIf mt ms mv (s::ρ)) kf↔W (mt (s::ρ)) fun r=>W (ifK ms mv r) kf:=Qi
def svK (i:Nat)(r:D×Rho):Rs (Fl×Rho):=(Rs.of (Qam r.2 i r.1)).bind fun ρ'=>.ok (.nx,ρ')
theorem QrK:svK i (d,ρ)=(Rs.of (Qam ρ i d)).bind fun ρ'=>.ok (.nx,ρ'):=rfl
theorem QrL:W (Qi7 i m (s::ρ)) kf↔W (m (s::ρ)) fun r=>W (svK i r) kf:=Qi
theorem QrM:W (QoH i m (s::ρ)) kf↔W (m (s::ρ)) fun r=>W (svK i r) kf:=Qi
def soK (i:Nat)(r:D×Rho):Rs (Fl×Rho):=(Rs.of (Qm7 r.2 i r.1)).bind fun ρ'=>.ok (.nx,ρ')
theorem QrN:soK i (d,ρ)=(Rs.of (Qm7 ρ i d)).bind fun ρ'=>.ok (.nx,ρ'):=rfl
theorem QrO:W (Qmh i m (s::ρ)) kf↔W (m (s::ρ)) fun r=>W (soK i r) kf:=Qi
def unK (g:D->Option D)(r:D×Rho):Rs (D×Rho):=Rs.of ((g r.1).map fun d=>(d,r.2))
theorem QrP {g:D->Option D}:unK g (d,ρ)=Rs.of ((g d).map fun d=>(d,ρ)):=rfl
theorem Qwp {g:D->Option D}:W (mUn g m (s::ρ)) k↔W (m (s::ρ)) fun r=>W (unK g r) k:=Qi
def ixK (i:Nat)(m:ME)(r:D×Rho):Rs (Fl×Rho):=(Rs.of (Qax r.2 i)).bind fun _=>(m r.2).bind fun s=>(Rs.of (Qax s.2 i)).bind fun q=>(Rs.of ((asI s.1).bind fun n=>ixN q.2.length n)).bind fun j=>
 .ok (.nx,s.2.set i (some (mkS q.1 (.lst (q.2.set j r.1)))))
def Qul (i:Nat)(d:D)(t:D×Rho):Rs (Fl×Rho):=(Rs.of (Qax t.2 i)).bind fun q=>(Rs.of ((asI t.1).bind fun n=>ixN q.2.length n)).bind fun j=>
 .ok (.nx,t.2.set i (some (mkS q.1 (.lst (q.2.set j d)))))
theorem QoM:Qul i d (x,ρ)=(Rs.of (Qax ρ i)).bind fun q=>(Rs.of ((asI x).bind fun n=>ixN q.2.length n)).bind fun j=>.ok (.nx,ρ.set i (some (mkS q.1 (.lst (q.2.set j d))))):=rfl
theorem QrQ:W (ixK i m (d,s::ρ)) kf↔W (Rs.of (Qax (s::ρ) i)) fun _=>W (m (s::ρ)) fun t=>W (Qul i d t) kf:=by simp only[ixK,Qi,Qul]
theorem QoN:W (QhV i a m (s::ρ)) kf↔W (a (s::ρ)) fun r=>W (ixK i m r) kf:=Qi
def apK (i:Nat)(r:D×Rho):Rs (Fl×Rho):=(Rs.of (Qax r.2 i)).bind fun q=>if q.2.length<z17 then .ok (.nx,r.2.set i (some (mkS q.1 (.lst (q.2++[r.1]))))) else .no
theorem QrR:apK i (d,ρ)=(Rs.of (Qax ρ i)).bind fun q=>if q.2.length<z17 then .ok (.nx,ρ.set i (some (mkS q.1 (.lst (q.2++[d]))))) else .no:=rfl
theorem Qum:W (QtY i m (s::ρ)) kf↔W (Rs.of (Qax (s::ρ) i)) fun _=>W (m (s::ρ)) fun r=>W (apK i r) kf:=by simp only[QtY,Qi,apK]
def ctK (r1 r2:D×Rho):Rs (D×Rho):=(Rs.of (asL r1.1)).bind fun xs=>(Rs.of (asL r2.1)).bind fun ys=>if xs.length+ys.length<=z17 then .ok (.lst (xs++ys),r2.2) else .no
theorem QrS:ctK (.nd .lst xs,ρ1) (.nd .lst ys,ρ2)=if xs.length+ys.length<=z17 then .ok (.lst (xs++ys),ρ2) else .no:=rfl
theorem QrT:W (QkB a b (s::ρ)) k↔W (a (s::ρ)) fun r1=>W (b r1.2) fun r2=>W (ctK r1 r2) k:=by simp only[QkB,Qi,ctK]
def cuK (r1 r2:D×Rho):Rs (D×Rho):=(Rs.of (asL r1.1)).bind fun xs=>(Rs.of (asL r2.1)).bind fun ys=>if xs.length+ys.length<=z17 then(if D.Jb (xs++ys)=true then .ok (.lst (xs++ys),r2.2) else .no) else .no
theorem QrU:cuK (.nd .lst xs,ρ1) (.nd .lst ys,ρ2)=if xs.length+ys.length<=z17 then(if D.Jb (xs++ys)=true then .ok (.lst (xs++ys),ρ2) else .no) else .no:=rfl
theorem QrV:W (QkC a b (s::ρ)) k↔W (a (s::ρ)) fun r1=>W (b r1.2) fun r2=>W (cuK r1 r2) k:=by simp only[QkC,Qi,cuK]
def avK (b:ME)(r:D×Rho):Rs (D×Rho):=(Rs.of (asB r.1)).bind fun c=>if c=true then b r.2 else .ok (.bl false,r.2)
theorem QrW:avK b (.bl c,ρ)=if c=true then b ρ else .ok (.bl false,ρ):=rfl
theorem QrX:W (QqT a b (s::ρ)) k↔W (a (s::ρ)) fun r=>W (avK b r) k:=Qi
def chK (g g':D->D->Option D)(mc:ME)(r1 r2:D×Rho):Rs (D×Rho):=(Rs.of ((g r1.1 r2.1).bind asB)).bind fun q=>if q=true then(mc r2.2).bind fun r3=>Rs.of ((g' r2.1 r3.1).map fun d=>(d,r3.2)) else .ok (.bl false,r2.2)
theorem QrY {g':D->D->Option D}:chK g g' u (x,ρ1) (y,ρ2)=(Rs.of ((g x y).bind asB)).bind fun q=>if q=true then(u ρ2).bind fun r3=>Rs.of ((g' y r3.1).map fun d=>(d,r3.2)) else .ok (.bl false,ρ2):=rfl
theorem QoO {g':D->D->Option D}:W (Qf6 g g' a b u (s::ρ)) k↔W (a (s::ρ)) fun r1=>W (b r1.2) fun r2=>W (chK g g' u r1 r2) k:=by simp only[Qf6,Qi,chK]
end
section
variable {io:List Bool}{n:Nat}{mb:MS}{ds os:List D}{d:D}{ρ ρ1:Rho}{c:Addr}
theorem QoP (h:mb (Qkl io n ds)=.ex c ρ):JN io n mb ds=.ex c:=by unfold JN;rw[h]
theorem Ye {rk:Kd}{f:List D->Fr}{mr:MA}{args:List D}(h1:mr ρ=.ok (args,ρ1))(h2:f args=.ok d os)(h3:rk=.V->d.imm=true):Qac rk f mr ρ=.ok (d,ρ1):=by
 have:=QoI (rk:=rk) (k:=fun r=>r=(d,ρ1)) (P:=fun d' _=>d'=d) h1 ⟨d,os,h2,rfl⟩ fun d' os' e=>⟨fun z=>e▸h3 z,by rw[e]⟩
 exact this.eq
theorem QhY {rk:Kd}{f:List D->Fr}{mr:MA}{args:List D}(h1:mr ρ=.ok (args,ρ1))(h2:f args=.ex c):Qac rk f mr ρ=.ex c ρ1:=by
 unfold Qac
 rw[h1]
 show(match f args with|.ok d _=>_|.ex c=>_|.no=>_)=_
 rw[h2]
theorem QrZ {m u:MS}(h:m ρ=.ok (.nx,ρ1)):Qi6 m u ρ=u ρ1:=by unfold Qi6;rw[h];rfl
theorem Qr0 {m u:MS}(h:m ρ=.ex c ρ1):Qi6 m u ρ=.ex c ρ1:=by unfold Qi6;rw[h];rfl
theorem QkM {m:ME}(h:m ρ=.ex c ρ1):Qkd m ρ=.ex c ρ1:=by unfold Qkd;rw[h];rfl
end
theorem Qms {mt:MT}{m u:MS}{ρ ρ1:Rho}{b:Bool}(h:mt ρ=.ok (b,ρ1)):mIf mt m u ρ=if b=true then m ρ1 else u ρ1:=by unfold mIf;rw[h];rfl
theorem Qc7 {g:List D->Option D}{mr:MA}{ρ ρ1:Rho}{args:List D}{d:D}(h:mr ρ=.ok (args,ρ1))(hg:g args=some d):Qen g mr ρ=.ok (d,ρ1):=by
 unfold Qen;rw[h]
 show Rs.of ((g args).map _)=_
 rw[hg];rfl
theorem Qde {g:D->D->Option D}{a b:ME}{ρ ρ1 ρ2:Rho}{x y d:D}(h1:a ρ=.ok (x,ρ1))(h2:b ρ1=.ok (y,ρ2))(hg:g x y=some d):mOp g a b ρ=.ok (d,ρ2):=by
 unfold mOp;rw[h1]
 show((b ρ1).bind _)=_
 rw[h2]
 show Rs.of ((g x y).map _)=_
 rw[hg];rfl
theorem Y8 {m:ME}{mr:MA}{ρ ρ1 ρ2:Rho}{d:D}{ds:List D}(h1:m ρ=.ok (d,ρ1))(h2:mr ρ1=.ok (ds,ρ2)):Q7 m mr ρ=.ok (d::ds,ρ2):=by
 unfold Q7;rw[h1]
 show((mr ρ1).bind _)=_
 rw[h2];rfl
theorem Qfg {m:ME}{ρ ρ1:Rho}{b:Bool}(h:m ρ=.ok (.bl b,ρ1)):QgY m ρ=.ok (b,ρ1):=by unfold QgY;rw[h];rfl
theorem QkN {bs:List Bool}:Qq6 [.lst (bs.map .bl)]=some (.bl (bs.all fun b=>b)):=by
 have:Qnc (bs.map .bl)=some bs:=by
  induction bs with
  |nil=>rfl
  |cons b bs ih=>rw[z30,Qnc,ih];rfl
 show(Qnc (bs.map .bl)).map _=_
 rw[this];rfl
theorem Qcx {a b:ME}{ρ ρ1 ρ2:Rho}{xs ys:List D}(h1:a ρ=.ok (.lst xs,ρ1))(h2:b ρ1=.ok (.lst ys,ρ2))(hz:xs.length+ys.length<=z17):QkB a b ρ=.ok (.lst (xs++ys),ρ2):=by
 unfold QkB;rw[h1]
 show((b ρ1).bind _)=_
 rw[h2]
 show(if xs.length+ys.length<=z17 then _ else _)=_
 rw[if_pos hz]
def pl (q:Int×Int):D:=.tup [.int q.1,.int q.2]
section
variable {e:Expr}
theorem R.str {K:z00}{F:Hp}{v:L2.V}{z:Str}(r:R K F v (.str z)):v=.str z:=by
 cases r with|sc e=>cases e;rfl
theorem R.int {K:z00}{F:Hp}{v:L2.V}{z:Int}(r:R K F v (.int z)):v=.int z:=by
 cases r with|sc e=>cases e;rfl
theorem R.bl {K:z00}{F:Hp}{v:L2.V}{z:Bool}(r:R K F v (.bl z)):v=.bl z:=by
 cases r with|sc e=>cases e;rfl
end
section
variable {X:Cx}{k:Kd}
def Qun:List D->Option D
 | [.int i]=>some (.int i)
 | [.bl k]=>some (.int (if k then 1 else 0))
 | [.str x]=>if x.length<=640 then(zk6 x).map D.int else none
 |_=>none
theorem QkO:Qaf X (.type "int") (fun xs H Q=>(∃i,xs=[.int i]/\Q (.int i) H)\/(∃k,xs=[.bl k]/\Q (.int (if k then 1 else 0)) H)\/(∃(x:Str) (n:Int),xs=[.str x]/\zk6 x=some n/\x.length<=640/\Q (.int n) H)):=fun pins s σ H xs us Q I r h=>by
 rcases h with h|h|h
 ·exact QfH pins s σ H xs us Q I r (.inl h)
 ·exact QfH pins s σ H xs us Q I r (.inr h)
 ·exact QeY pins s σ H xs us Q I r h
theorem Qwq {K:z00}:CallD K (fun xs H Q=>(∃i,xs=[.int i]/\Q (.int i) H)\/(∃k,xs=[.bl k]/\Q (.int (if k then 1 else 0)) H)\/(∃(x:Str) (n:Int),xs=[.str x]/\zk6 x=some n/\x.length<=640/\Q (.int n) H)) Qun:=fun H vs ds res r eg=>by
 unfold Qun at eg
 split at eg
 ·cases eg
  obtain⟨v,rfl,r1⟩:=r.one
  obtain rfl:=R.int r1
  exact⟨_,rfl,fun Q h=>.inl ⟨_,rfl,h⟩⟩
 ·cases eg
  obtain⟨v,rfl,r1⟩:=r.one
  obtain rfl:=R.bl r1
  exact⟨_,rfl,fun Q h=>.inr (.inl ⟨_,rfl,h⟩)⟩
 ·split at eg
  ·rename_i hz
   obtain⟨n,e1,rfl⟩:=z03.mp eg
   obtain⟨v,rfl,r1⟩:=r.one
   obtain rfl:=R.str r1
   exact⟨_,rfl,fun Q h=>.inr (.inr ⟨_,_,rfl,e1,hz,h⟩)⟩
  ·cases eg
 ·cases eg
end
section
variable {X:Cx}{C:Cn}{E:XE}{e:Expr}{rk:Kd}
def isN:D->Bool
 |.non=>true
 |_=>false
def Quo (f:Bool->Bool):D->D->Option D
 |d,.non=>some (.bl (f (isN d)))
 |_,_=>none
theorem Qup {K:z00}{F:Hp}{v:L2.V}{d:D}(r:R K F v d):decide (v=.non)=isN d:=by
 cases r with
 |sc e=>cases d<;>first|(cases e;rfl)|(cases e;simp[isN])|cases e
 |nd h q=>simp[isN]
theorem Qwr {K:z00}:OpD K (fun x y H Q=>y=.non/\Q (.bl (decide (x=.non))) H) (Quo id):=fun H v u d e res r q eg=>by
 unfold Quo at eg
 split at eg
 ·cases eg
  obtain rfl:=q.QK (w:=.non) rfl
  exact⟨_,rfl,fun Q h=>⟨rfl,by rw[Qup r];exact h⟩⟩
 ·cases eg
def Quq:MS:=fun _=>.no
theorem Qnk {st:Stmt}:PS X st (tS rk C E Quq):=fun pins s σ H D I ⟨F,ρ,fp,_,h⟩=>h.elim
end
section
variable {s:Option Sl}{ρ ρ1:Rho}{k:D×Rho->Prop}{ka:List D×Rho->Prop}{kf:Fl×Rho->Prop}{m:ME}{mr:MA}{d x:D}{xs:List D}{i:Nat}{c:Bool}
def clK (rk:Kd)(f:List D->Fr)(r:List D×Rho):Rs (D×Rho):=match f r.1 with
 |.ok d _=>match rk with
  |.V=>if d.imm=true then .ok (d,r.2) else .no
  |_=>.ok (d,r.2)
 |.ex c=>.ex c r.2
 |.no=>.no
theorem QoQ {rk:Kd}{f:List D->Fr}:W (Qac rk f mr (s::ρ)) k↔W (mr (s::ρ)) fun r=>W (clK rk f r) k:=Qi
theorem QC {f:List D->Fr}{os:List D}(h:f xs=.ok d os):W (clK .V f (xs,ρ)) k↔d.imm=true/\k (d,ρ):=by
 show W (match f xs with|.ok d _=>_|.ex c=>_|.no=>_) k↔_
 rw[h]
 show W (if d.imm=true then _ else _) k↔_
 by_cases hd:d.imm=true
 ·rw[if_pos hd];exact⟨fun z=>⟨hd,Q5.mp z⟩,fun z=>Q5.mpr z.2⟩
 ·rw[if_neg hd];exact⟨fun⟨_,e,_⟩=>(nomatch e),fun z=>absurd z.1 hd⟩
theorem Qfh {f:List D->Fr}{os:List D}(h:f xs=.ok d os):W (clK .O f (xs,ρ)) k↔k (d,ρ):=by
 show W (match f xs with|.ok d _=>_|.ex c=>_|.no=>_) k↔_
 rw[h];exact Q5
def tvK (r:List D×Rho):Rs (D×Rho):=(Rs.of (Qi5 r.1)).bind fun ds=>.ok (.tup ds,r.2)
theorem QoR:tvK ([.nd .lst xs],ρ)=.ok (.tup xs,ρ):=rfl
theorem QoS:tvK ([.nd .tup xs],ρ)=.ok (.tup xs,ρ):=rfl
theorem Qr1:W (Qmg mr (s::ρ)) k↔W (mr (s::ρ)) fun r=>W (tvK r) k:=Qi
def exK (i:Nat)(r:D×Rho):Rs (Fl×Rho):=(Rs.of (Qax r.2 i)).bind fun q=>(Rs.of (asL r.1)).bind fun ds=>if q.2.length+ds.length<=z17 then .ok (.nx,r.2.set i (some (mkS q.1 (.lst (q.2++ds))))) else .no
theorem Qr2:exK i (d,ρ)=(Rs.of (Qax ρ i)).bind fun q=>(Rs.of (asL d)).bind fun ds=>if q.2.length+ds.length<=z17 then .ok (.nx,ρ.set i (some (mkS q.1 (.lst (q.2++ds))))) else .no:=rfl
theorem Qur:W (QtZ i m (s::ρ)) kf↔W (Rs.of (Qax (s::ρ) i)) fun _=>W (m (s::ρ)) fun r=>W (exK i r) kf:=by simp only[QtZ,Qi,exK]
def cK (par:Bool)(as:List (Option Nat))(f:List D->Fr)(r:List D×Rho):Rs (D×Rho):=(Rs.of (Qab par r.2 (as.filterMap id))).bind fun dis=>match f (Qjo as r.1 dis) with
 |.ok d outs=>.ok (d,Vq par r.2 (as.filterMap id) outs)
 |.ex c=>if(as.filterMap id).isEmpty=true then .ex c r.2 else .no
 |.no=>.no
theorem Qr3 {par:Bool}{as:List (Option Nat)}{f:List D->Fr}:W (Qf2 par as f mr (s::ρ)) k↔W (mr (s::ρ)) fun r=>W (cK par as f r) k:=Qi
theorem QpK {par:Bool}{as:List (Option Nat)}{f:List D->Fr}{args dis:List D}{P:D->List D->Prop}(h2:Qab par ρ (as.filterMap id)=some dis)(h3:FW (f (Qjo as args dis)) P)(h4:∀d os,P d os->k (d,Vq par ρ (as.filterMap id) os)):W (cK par as f (args,ρ)) k:=by
 obtain⟨d,os,e,p⟩:=h3
 refine⟨_,?_,h4 d os p⟩
 unfold cK
 rw[h2]
 show(match f (Qjo as args dis) with|.ok d outs=>_|.ex c=>_|.no=>_)=_
 rw[e]
theorem QkP {par:Bool}{i:Nat}{f:List D->Fr}{p0 p:D}{P:D->List D->Prop}(hi:ρ[i]? = some (some (mkS par p)))(h3:FW (f [p]) P)(h4:∀d os,P d os->∃q,os=[q]/\k (d,ρ.set i (some (mkS par q)))):W (cK par [some i] f ([p0],ρ)) k:=by
 refine QpK (dis:=[p]) ?_ h3 fun d os h=>?_
 ·show Qab par ρ [i]=_
  unfold Qab Qab;rw[hi];cases par<;>rfl
 ·obtain⟨q,rfl,h5⟩:=h4 d os h;exact h5
theorem Qbv {par:Bool}{i:Nat}{f:List D->Fr}{p0 p x:D}{P:D->List D->Prop}(hi:ρ[i]? = some (some (mkS par p)))(h3:FW (f [p,x]) P)(h4:∀d os,P d os->∃q,os=[q]/\k (d,ρ.set i (some (mkS par q)))):W (cK par [some i,none] f ([p0,x],ρ)) k:=by
 refine QpK (dis:=[p]) ?_ h3 fun d os h=>?_
 ·show Qab par ρ [i]=_
  unfold Qab Qab;rw[hi];cases par<;>rfl
 ·obtain⟨q,rfl,h5⟩:=h4 d os h;exact h5
theorem Qmt {rk:Kd}{f:List D->Fr}{P:D->List D->Prop}(h3:FW (f xs) P)(h4:∀d os,P d os->(rk=.V->d.imm=true)/\k (d,ρ)):W (clK rk f (xs,ρ)) k:=by
 obtain⟨d,os,e,p⟩:=h3
 refine⟨_,?_,(h4 d os p).2⟩
 unfold clK
 dsimp only
 rw[e]
 cases rk with
 |V=>show(if d.imm=true then _ else _)=_;rw[if_pos ((h4 d os p).1 rfl)]
 |O=>rfl
 |B=>rfl
 |S i=>rfl
def flK (tg:D->Rho->Option Rho)(mb:MS)(r:List D×Rho):Rs (Fl×Rho):=forL tg mb r.1 r.2
theorem Qus {mi:MA}{tg:D->Rho->Option Rho}{mb:MS}:W (Qs3 mi tg mb (s::ρ)) kf↔W (mi (s::ρ)) fun r=>W (flK tg mb r) kf:=Qi
theorem Qak {tg:D->Rho->Option Rho}{mb:MS}{ds:List D}(Inv:Nat->Rho->Prop)(i:Inv 0 ρ)(step:∀i d ρ,ds[i]? = some d->Inv i ρ->∃ρ1,tg d ρ=some ρ1/\W (mb ρ1) fun r=>r.1=.nx/\Inv (i+1) r.2)
  (hk:∀ρ',Inv ds.length ρ'->kf (.nx,ρ')):W (flK tg mb (ds,ρ)) kf:=by
 have:=Qni Inv step ds.length 0 ρ @9 (zb8 _) i hk
 rw[zr4] at this
 exact this
def fnK (tg:D->Rho->Option Rho)(mb:MS)(ds:List D)(r:Fl×Rho):Rs (Fl×Rho):=match r.1 with
  |.nx=>forL tg mb ds r.2
  |.ct=>forL tg mb ds r.2
  |.bk=>.ok (.nx,r.2)
  |.rt d=>.ok (.rt d,r.2)
theorem Qr4 {tg:D->Rho->Option Rho}{mb:MS}:fnK tg mb xs (.nx,ρ)=flK tg mb (xs,ρ):=rfl
theorem Qr5 {tg:D->Rho->Option Rho}{mb:MS}:fnK tg mb xs (.rt d,ρ)=.ok (.rt d,ρ):=rfl
def rgK (r:List D×Rho):Rs (List D×Rho):=(Rs.of (Qg3 r.1)).bind fun n=>.ok ((z68 n.toNat).map fun j=>.int ((0:Int)+(j:Nat)),r.2)
theorem Qr6 {n:Int}:rgK ([.int n],ρ)=if -4611686018427387904<=n/\n<4611686018427387904 then .ok ((z68 n.toNat).map fun j=>.int ((0:Int)+(j:Nat)),ρ) else .no:=by
 have e:(2:Int) ^ 62=4611686018427387904:=by decide
 show(Rs.of (if -(2 ^ 62)<=n/\n<2 ^ 62 then some n else none)).bind _=_
 rw[e]
 split<;>rfl
theorem QoT:liK ([.nd .tup xs],ρ)=if D.Jb xs=true then .ok (.lst xs,ρ) else .no:=rfl
theorem Qr7:W (Qmi mr (s::ρ)) ka↔W (mr (s::ρ)) fun r=>W (rgK r) ka:=Qi
def siK (r:D×Rho):Rs (List D×Rho):=(Rs.of (Qi5 [r.1])).bind fun ds=>.ok (ds,r.2)
theorem QoU:siK (.nd .lst xs,ρ)=.ok (xs,ρ):=rfl
theorem QoV:siK (.nd .tup xs,ρ)=.ok (xs,ρ):=rfl
theorem Qr8:W (Qkg m (s::ρ)) ka↔W (m (s::ρ)) fun r=>W (siK r) ka:=Qi
def enK (r:List D×Rho):Rs (List D×Rho):=(Rs.of (Qi5 r.1)).bind fun ds=>.ok (Qbu ds,r.2)
theorem QoW:enK ([.nd .lst xs],ρ)=.ok (Qbu xs,ρ):=rfl
theorem QoX:enK ([.nd .tup xs],ρ)=.ok (Qbu xs,ρ):=rfl
theorem Qr9:W (Qra mr (s::ρ)) ka↔W (mr (s::ρ)) fun r=>W (enK r) ka:=Qi
def cmK (par:Bool)(cs:List Cp)(j:Nat)(tc:MT)(te:ME)(r:List D×Rho):Rs (D×Rho):=(Rs.of (Qab par r.2 @19)).bind fun di=>(Rs.of (Qcj r.2 cs di)).bind fun ρb=>
 match Qct j tc te r.1 ρb [] with
 |.ok q=>(Rs.of (outs (ioB cs) q.2)).bind fun os=>.ok (.lst q.1,Vq par r.2 @19 os)
 |_=>.no
theorem Qsa {par:Bool}{cs:List Cp}{j:Nat}{mi:MA}{tc:MT}{te:ME}:W (Qcu par cs j mi tc te (s::ρ)) k↔W (mi (s::ρ)) fun r=>W (cmK par cs j tc te r) k:=Qi
theorem QkQ {par:Bool}{cs:List Cp}{j:Nat}{tc:MT}{te:ME}{ρb:Rho}{ds di os:List D}{f:D->Bool}{g:D->D}(h2:Qab par ρ @19=some di)(h3:Qcj ρ cs di=some ρb)
  (hs:∀d∈ds,∃ρ0,Qam ρb j d=some ρ0/\tc ρ0=.ok (f d,ρ0)/\(f d=true->te ρ0=.ok (g d,ρ0))/\ρ0.set j none=ρb) (l:ds.length<=z17) (ho:outs (ioB cs) ρb=some os) (hp:Vq par ρ @19 os=ρ) (hk:k (.lst ((ds.filter f).map g),ρ)):W (cmK par cs j tc te (ds,ρ)) k:=by
 have:=Qgf (par:=par) (cs:=cs) (j:=j) (mi:=fun ρ=>.ok (ds,ρ)) (ρ:=ρ) rfl h2 h3 hs l ho hp
 exact⟨_,this,hk⟩
theorem Qg8 {par:Bool}{cs:List Cp}{j:Nat}{te:ME}{ρb:Rho}{ds di os:List D}{g:D->D}(h2:Qab par ρ @19=some di)(h3:Qcj ρ cs di=some ρb)
  (hs:∀d∈ds,∃ρ0,Qam ρb j d=some ρ0/\te ρ0=.ok (g d,ρ0)/\ρ0.set j none=ρb) (l:ds.length<=z17) (ho:outs (ioB cs) ρb=some os) (hp:Vq par ρ @19 os=ρ) (hk:k (.lst (ds.map g),ρ)):W (cmK par cs j Qs4 te (ds,ρ)) k:=by
 have:=comp_map (par:=par) (cs:=cs) (j:=j) (mi:=fun ρ=>.ok (ds,ρ)) (ρ:=ρ) rfl h2 h3 hs l ho hp
 exact⟨_,this,hk⟩
theorem QdA {f:D->D->Option Bool}:∀{ds:List D},(∀d∈ds,f d d=some true)->Qfz f ds ds=some true
 | [],_=>rfl
 |d::ds,h=>by
  rw[Qfz,h d z07,QdA fun x hx=>h x (z08 _ hx)];rfl
def D.pln:Nat->D->Bool
 |0,_=>false
 |n+1,.nd .lst ds=>ds.all (D.pln n)
 |n+1,.nd .tup ds=>ds.all (D.pln n)
 |_+1,.int _=>true
 |_+1,.str _=>true
 |_+1,.bl _=>true
 |_+1,.non=>true
 |_,_=>false
theorem Qc8:∀(n:Nat) (d:D),d.pln n=true->eqb n d d=some true
 |0,_,h=>absurd (show false=true from h) @1
 |n+1,.nd .lst ds,h=>by
  show(if ds.length=ds.length then Qfz (eqb n) ds ds else _)=_
  rw[if_pos rfl]
  exact QdA fun d hd=>Qc8 n d (z69.mp h d hd)
 |n+1,.nd .tup ds,h=>by
  show(if ds.length=ds.length then Qfz (eqb n) ds ds else _)=_
  rw[if_pos rfl]
  exact QdA fun d hd=>Qc8 n d (z69.mp h d hd)
 |n+1,.int i,_=>by show eqS (V.int i) (V.int i)=_;unfold eqS;rw[if_pos (by rfl)];simp
 |n+1,.str i,_=>by show eqS (V.str i) (V.str i)=_;unfold eqS;rw[if_pos (by rfl)];simp
 |n+1,.bl i,_=>by show eqS (V.bl i) (V.bl i)=_;unfold eqS;rw[if_pos (by cases i<;>rfl)];simp
 |n+1,.non,_=>by show eqS (V.non) (V.non)=_;unfold eqS;rw[if_pos (by rfl)];simp
 |n+1,.nd (.ins _ _) _,h=>absurd (show false=true from h) @1
 |n+1,.nd (.dT _) _,h=>absurd (show false=true from h) @1
 |n+1,.nd (.dK _) _,h=>absurd (show false=true from h) @1
 |n+1,.nd (.exc _) _,h=>absurd (show false=true from h) @1
 |n+1,.ty _,h=>absurd (show false=true from h) @1
 |n+1,.cls _,h=>absurd (show false=true from h) @1
theorem Qfi {d:D}(h:d.pln 30=true):gEq d d=some (.bl true):=by
 show(eqb 30 d d).map _=_
 rw[Qc8 30 d h];rfl
theorem Qc9 {d:D}(h:d.pln 30=true):gNe d d=some (.bl false):=by
 show(eqb 30 d d).map _=_
 rw[Qc8 30 d h];rfl
end
section
variable {X:Cx}{C:Cn}{E:XE}{p pa pb:Bool}{o e a c:Expr}{es:List Expr}{m mo:ME}{mr:MA}{pos apos:Pos}{ka rk:Kd}{ks:List Kd}{n:Nat}{ps:List Str}{sp:Sp}{x nm f:Str}{t:TA}{ta:TE}{k:Addr}
def QkR:List Str->List D->Str->Option D
 |n::ns,d::ds,f=>if(f == n)=true then some d else QkR ns ds f
 |_,_,_=>none
theorem QhZ {K:z00}{F:Hp}:∀{ns:List Str} {vs:List L2.V} {ds:List D} {f:Str} {d:D},RL K F vs ds->QkR ns ds f=some d->∃v,(ns.zip vs).lookup f=some v/\R K F v d
 | [],_,_,_,_,_,h=>by cases h
 |_::_,_,_,_,_,.nil,h=>by cases h
 |n::ns,v::vs,d::ds,f,y,.cons r q,h=>by
  rw[z89,z78]
  rw[QkR] at h
  by_cases e:(f == n)=true
  ·rw[if_pos e] at h;cases h
   rw[e];exact⟨v,rfl,r⟩
  ·rw[if_neg e] at h
   obtain⟨w,h1,h2⟩:=QhZ q h
   have e':(f == n)=false:=by simpa using e
   rw[e'];exact⟨w,h1,h2⟩
def Qsb (k:Addr)(f:Str):D->Option D
 |.nd (.ins k' ns) ds=>if k'=k then QkR ns ds f else none
 |_=>none
theorem QoY {K:z00}{F:Hp}{v:L2.V}{d y:D}(r:R K F v d)(g:Qsb k f d=some y):∃a dx fs w,v=.ref a/\F a=some (.ins k dx fs)/\fs.lookup f=some w/\R K F w y:=by
 unfold Qsb at g
 split at g
 ·split at g
  ·rename_i hk
   subst hk
   obtain⟨a,vs,rfl,⟨hl,dx,ha,_⟩,rl⟩:=r.inv
   obtain⟨w,hw,rw'⟩:=QhZ rl g
   exact⟨a,dx,_,w,rfl,ha,hw,rw'⟩
  ·cases g
 ·cases g
theorem Qev (c:Cls X.K k)(na:Qa9 X.K k f)(he:PE X e (tX .V C p E m))(hb:attributeBase e f X.env (eval e X.env)=eval e X.env:=by rfl):PE X (.Attribute e f pos) (tX .V C p E (mUn (Qsb k f) m)):=Qp (Qqb he hb) fun σ H Q ⟨F,ρ,τ,fp,I,h⟩=>
 ⟨F,ρ,τ,fp,I,h.split.mono fun r1 h1 F1 H1 fp1 v I1 n1 f1=>by
  obtain⟨z,ez,h3⟩:=h1.of
  obtain⟨res,eg,rfl⟩:=z03.mp ez
  obtain⟨a,dx,fs,w,rfl,ha,hw,rw'⟩:=QoY f1 eg
  exact⟨a,k,dx,fs,w,rfl,I1.fh _ _ ha,c,na,hw,h3 F1 H1 fp1 w I1 n1 rw'⟩⟩
def QkS (C:Addr)(m:Str)(sp:Sp)(E:XE)(ta:TE)(t:TA):TE:=fun σ H Q=>ta σ H fun x H1=>∃a dx fs,x=.ref a/\H1 a=some (.ins C dx fs)/\fs.lookup m=none/\
 t σ H1 fun vs H2=>sp (x::vs) H2 Q (E σ)
theorem Qut {pl:Sem Bool}(he:PE X o ta)(c:Cls X.K k)(D:Vy X.prog X.w X.K X.mg X.base k n nm ps sp)(hx:Qa8 X E)(hr:Qag n X.A)(ha:PA X (e::es) t)
  (hst:starEach (e::es) X.env=(false,eval e X.env)::starEach es X.env:=by rfl) (hpl:(backTo pos (starEach es X.env)).any (·.1)=false:=by rfl)
  (ht:eval (.Call (.Attribute o nm apos) (e::es) [] pos) X.env=(do
   let ov ← eval o X.env
   standAt apos.atName
   let (f,first) ← holding [ov] (getMethod ov nm pl)
   callWith pos f first (backTo pos (starEach (e::es) X.env)) (backToKw pos (keywordEach [] X.env))):=by rfl) :
  PE X (.Call (.Attribute o nm apos) (e::es) [] pos) (QkS k nm sp E ta t):=by
 obtain⟨f,fd,F,hm,hb⟩:=D.ex
 intro pins s σ H Q I h
 refine zr8 (pl:=pl) (thn (he pins s σ H _ I h) fun u s1 hz=>?_) ht
 obtain⟨x,H1,I1,rx,a,dx,fs,ex,ea,l,q⟩:=hz
 subst ex
 obtain rfl:u=z42 a:=rx
 refine Qeg I1 ea c hm l ?_
 refine zk8 (first:=[.ref a]) (h₀:=X.base) I.ok.mod.kin hm.kp (thn (ha pos pins s1 σ H1 _ I1 q) fun us s2 hz=>?_) hst hpl
 obtain⟨vs,H2,I2,r,q2⟩:=hz
 refine⟨I2.kIn,?_⟩
 exact Qg4 (us:=.ref a::us) (vs:=.ref a::vs) F hr hb hx I2 (.cons rfl r) q2
theorem Qsc {pl:Sem Bool}(he:PE X o ta)(c:Cls X.K k)(D:Vy X.prog X.w X.K X.mg X.base k n nm ps sp)(hx:Qa8 X E)(hr:Qag n X.A)
  (ht:eval (.Call (.Attribute o nm apos) [] [] pos) X.env=(do
   let ov ← eval o X.env
   standAt apos.atName
   let (f,first) ← holding [ov] (getMethod ov nm pl)
   callWith pos f first (backTo pos (starEach [] X.env)) (backToKw pos (keywordEach [] X.env))):=by rfl) :
  PE X (.Call (.Attribute o nm apos) [] [] pos) (QkS k nm sp E ta Qtp):=by
 obtain⟨f,fd,F,hm,hb⟩:=D.ex
 intro pins s σ H Q I h
 refine zr8 (pl:=pl) (thn (he pins s σ H _ I h) fun u s1 hz=>?_) ht
 obtain⟨x,H1,I1,rx,a,dx,fs,ex,ea,l,q⟩:=hz
 subst ex
 obtain rfl:u=z42 a:=rx
 refine Qeg I1 ea c hm l ?_
 exact PySem.W.callWith_K0 (first:=[.ref a]) I1.kIn hm.kp (Qg4 (us:=[.ref a]) (vs:=[.ref a]) F hr hb hx I1 (.cons rfl .nil) q)
def Qgg (k:Addr)(nm:Str):D->Bool
 |.nd (.ins k' ns) _=>decide (k'=k) && ns.all (fun n=>!(nm == n))
 |_=>false
theorem Qmu {K:z00}{F:Hp}{v:L2.V}{d:D}(r:R K F v d)(g:Qgg k nm d=true):∃a dx fs,v=.ref a/\F a=some (.ins k dx fs)/\fs.lookup nm=none:=by
 unfold Qgg at g
 split at g
 ·rename_i k' ns ds
  obtain⟨g1,g2⟩:=z66.mp g
  have hk:k'=k:=of_decide_eq_true g1
  subst hk
  obtain⟨a,vs,rfl,⟨hl,dx,ha,_⟩,rl⟩:=r.inv
  refine⟨a,dx,_,rfl,ha,?_⟩
  clear ha hl rl g g1 r
  induction ns generalizing vs with
  |nil=>rfl
  |cons n ns ih=>
   obtain⟨h1,h2⟩:=z66.mp (show((!(nm == n)) && ns.all (fun n=>!(nm == n)))=true from g2)
   cases vs with
   |nil=>rfl
   |cons v vs=>
    rw[z89,z78]
    have:(nm == n)=false:=by simpa using h1
    rw[this]
    exact ih h2 vs
 ·cases g
def Qsd (k:Addr)(nm:Str)(m:ME):ME:=fun ρ=>(m ρ).bind fun r=>if Qgg k nm r.1=true then .ok r else .no
theorem Qh0 {f:List D->Fr}{io:List Bool}(hio:(false::io).all (!·)=true)(hl:io.length=ks.length)(hrk:rk=.V\/rk=.O)(ok:rdL (ka::ks)=true)(oka:ka.ona pb=true){σ:L2.St}{H:Hp}{Q:VK}(h:tX rk C (pa && pb) E (Qac rk f (Q7 (Qsd k nm mo) mr)) σ H Q) :
  QkS k nm (spF C.K (false::io) rk f) E (tX ka C pa E mo) (tA ks C pb E mr) σ H Q:=by
 have q:=Qf3 (ks:=ka::ks) (pa:=pa && pb) hio (by rw[z27,z27,hl]) hrk ok h
 obtain⟨F,ρ,τ,fp,I,h⟩:=q
 refine⟨F,ρ,τ,fp,I,?_⟩
 have h':Run C E σ ((Qsd k nm mo ρ).bind fun r=>(mr r.2).bind fun q=>.ok (r.1::q.1,q.2)) _:=h
 have h2:Run C E σ ((mo ρ).bind fun r=>if Qgg k nm r.1=true then .ok r else .no) _:=h'.split
 refine h2.split.mono fun r0 h3 F1 H1 fp1 v I1 n1 f1=>?_
 by_cases hk:Qgg k nm r0.1=true
 ·rw[if_pos hk] at h3
  have okr:ka.on true=true:=by
   cases ka with
   |V=>rfl
   |B=>rfl
   |O=>cases ok
   |S i=>cases ok
  have I1':=I1
  rw[Kd.Yn okr] at I1'
  obtain⟨a,dx,fs,rfl,ha,hf⟩:=Qmu (R.top I1' (Kd.stay okr f1 .refl I1')) hk
  refine⟨a,dx,fs,rfl,ha,hf,F1,r0.2,τ,fp1,I1',h3.split.mono fun r2 h4 F2 H2 fp2 vs I2 n2 f2=>?_⟩
  have I2':SI C F2 H2 σ r2.2 (tkL (ka::ks) (.ref a::vs) (r0.1::r2.1) τ) fp2:=by
   show SI C F2 H2 σ r2.2 (tkL ks vs r2.1 (ka.tk (.ref a) r0.1 τ)) fp2
   rw[Kd.Yn okr];exact I2
  exact h4 F2 H2 fp2 (.ref a::vs) I2' (n1.trans n2) (.cons (Kd.QqX oka f1 n2) f2)
 ·rw[if_neg hk] at h3;exact h3.elim
theorem x_m {pl:Sem Bool}{f:List D->Fr}{io:List Bool}(D:Vy X.prog X.w X.K X.mg X.base k n nm ps (spF C.K (false::io) rk f))(c:Cls X.K k)(hx:Qa8 X E)(hr:Qag n X.A)(ho:PE X o (tX ka C pa E mo))(ha:PA X (e::es) (tA ks C pb E mr))(hio:(false::io).all (!·)=true:=by rfl)(hl:io.length=ks.length:=by rfl)(hrk:rk=.V\/rk=.O:=by first|exact .inl rfl|exact .inr rfl)(ok:rdL (ka::ks)=true:=by rfl)(oka:ka.ona pb=true:=by rfl)
  (hst:starEach (e::es) X.env=(false,eval e X.env)::starEach es X.env:=by rfl) (hpl:(backTo pos (starEach es X.env)).any (·.1)=false:=by rfl)
  (ht:eval (.Call (.Attribute o nm apos) (e::es) [] pos) X.env=(do
   let ov ← eval o X.env
   standAt apos.atName
   let (f,first) ← holding [ov] (getMethod ov nm pl)
   callWith pos f first (backTo pos (starEach (e::es) X.env)) (backToKw pos (keywordEach [] X.env))):=by rfl) :
  PE X (.Call (.Attribute o nm apos) (e::es) [] pos) (tX rk C (pa && pb) E (Qac rk f (Q7 (Qsd k nm mo) mr))):=Qp (Qut (pl:=pl) ho c D hx hr ha hst hpl ht) fun _ _ _ h=>Qh0 hio hl hrk ok oka h
theorem QoZ {σ:L2.St}{H:Hp}{Q:List L2.V->Hp->Prop}(h:tA [] C true E Qem σ H Q):Qtp σ H Q:=by
 obtain⟨F,ρ,τ,fp,I,h⟩:=h
 exact h F H fp [] I .refl .nil
theorem Qse {pl:Sem Bool}{f:List D->Fr}(D:Vy X.prog X.w X.K X.mg X.base k n nm ps (spF C.K [false] rk f))(c:Cls X.K k)(hx:Qa8 X E)(hr:Qag n X.A)(ho:PE X o (tX ka C pa E mo))(hrk:rk=.V\/rk=.O:=by first|exact .inl rfl|exact .inr rfl)(ok:rdL [ka]=true:=by rfl)(oka:ka.ona true=true:=by rfl)
  (ht:eval (.Call (.Attribute o nm apos) [] [] pos) X.env=(do
   let ov ← eval o X.env
   standAt apos.atName
   let (f,first) ← holding [ov] (getMethod ov nm pl)
   callWith pos f first (backTo pos (starEach [] X.env)) (backToKw pos (keywordEach [] X.env))):=by rfl) :
  PE X (.Call (.Attribute o nm apos) [] [] pos) (tX rk C (pa && true) E (Qac rk f (Q7 (Qsd k nm mo) Qem))):=Qp (Qsc (pl:=pl) ho c D hx hr ht) fun σ H Q h=>by
 have q:=Qh0 (io:=[]) (ks:=[]) (pb:=true) rfl rfl hrk ok oka h
 obtain⟨F,ρ,τ,fp,I,q⟩:=q
 exact⟨F,ρ,τ,fp,I,q.mono fun r z F1 H1 fp1 v I1 n1 f1=>by
  obtain⟨a,dx,fs,h1,h2,h3,h4⟩:=z F1 H1 fp1 v I1 n1 f1
  exact⟨a,dx,fs,h1,h2,h3,QoZ h4⟩⟩
end
def spI (K:z00)(k:Addr)(m:Addr->D->Fr):Sp:=fun vs H Q E=>∃x dx v,vs=[.ref x,v]/\H x=some (.ins k dx [])/\H dx=some (.own x)/\∃F d,R K F v d/\Qu F H/\F x=none/\match m x d with
 |.ok r _=>∀F' H' ns us ds,r=.nd (.ins k ns) ds->Qu F F'->Qu F' H'->F' x=none->(∀b o,F' b=some o->F b=some o\/Nw H b o)->(∀b o,b≠x->H b=some o->H' b=some o)->(∀b,H' b=none->H b=none)->RL K F' us ds->ns.length=us.length->H' x=some (.ins k dx (ns.zip us))->Q .non H'
 |.ex c=>∀H',(∀b o,b≠x->H b=some o->H' b=some o)->(∀b,H' b=none->H b=none)->E (.ref c) none H'
 |.no=>False
open Classical in
noncomputable def Qnl (f:Addr->D->Fr)(d:D):Fr:=if ∀x,f x d=f 0 d then f 0 d else .no
theorem Qo0 {f:Addr->D->Fr}{d:D}{r:Fr}(h:∀x,f x d=r):Qnl f d=r:=by
 unfold Qnl
 rw[if_pos fun x=>(h x).trans (h 0).symm]
 exact h 0
theorem QkT {f:Addr->D->Fr}{d:D}(h:Qnl f d≠.no):∀x,f x d=Qnl f d:=by
 unfold Qnl at h ⊢
 by_cases c:∀x,f x d=f 0 d
 ·rw[if_pos c];exact c
 ·rw[if_neg c] at h;exact absurd rfl h
def Qvw:List D->Option D
 | [d]=>some d
 |_=>none
def Qjb (k:Addr):D->Bool
 |.nd (.ins k' ns) ds=>decide (k'=k) && ns.length == ds.length
 |_=>false
noncomputable def Qs6 (k:Addr)(f:Addr->D->Fr)(mr:MA):ME:=fun ρ=>(mr ρ).bind fun r=>(Rs.of (Qvw r.1)).bind fun d=>match Qnl f d with
 |.ok i _=>if(Qjb k i && i.imm)=true then .ok (i,r.2) else .no
 |.ex c=>.ex c r.2
 |.no=>.no
def Qnm (k:Addr)(sp:Sp)(E:XE)(t:TA):TE:=fun σ H Q=>t σ H fun vs H1=>∀x dx,H1 x=none->H1 dx=none->dx≠x->
 sp (.ref x::vs) (upd (upd H1 dx (.own x)) x (.ins k dx [])) (fun v H2=>v=.non/\Q (.ref x) H2) (E σ)
section
variable {X:Cx}{C:Cn}{E:XE}{pa:Bool}{o e a b c:Expr}{es:List Expr}{mr:MA}{pos px:Pos}{ks:List Kd}{n:Nat}{ps:List Str}{sp:Sp}{x f:Str}{t:TA}{k:Addr}
theorem QkU {f:Addr}{fd:FuncData}{pins:List @11}{σ:L2.St}{H:Hp}{s:Shared}{Q:VK}{us:List Value}{vs:List L2.V}(M:Mk X.K k f)(F:Qeh X.prog X.w X.K X.mg X.base (CXe X.prog X.w) n f fd ps sp)(hr:Qag (n+1) X.A)(hb:Binds X.K fd ps [])
  (hx:Qa8 X E) (I:Inv X pins σ H s) (r:Vals vs us)
  (h:∀x dx,H x=none->H dx=none->dx≠x->sp (.ref x::vs) (upd (upd H dx (.own x)) x (.ins k dx [])) (fun v H2=>v=.non/\Q (.ref x) H2) (E σ)) :
  wpAny @4 X.A (call (.ref k) us) (EP X pins σ Q) X.xe s:=by
 have hq:=h @16 s.heap.objs.size (I.hok.fresh (zg1 _)) (I.hok.fresh (z24 _)) (z50 (zp3 _))
 have I2:=Inv.made (C:=k) I
 have r2:Vals (L2.V.ref @16::vs) (z42 @16::us):=.cons rfl r
 have hl:(z42 @16::us++[]).length=ps.length:=by
  have e:=r2.length
  rw[F.len _ _ _ _ hq] at e
  rw[z52]
  exact e.symm
 have hb':=hb _ (z42 @16::us) I2.kIn hl
 rw[z52] at hb'
 refine zv3 (QlQ (f:=f) I.kIn M.makes M.init (beq_iff_eq.mp M.fn) (zq8 (F.run _ X.stack _ _ ⟨z42 @16::us,[]⟩ (z42 @16::us) _ _ (E σ) (hr.make k us []) (I2.env0.make k us []) hb' r2 hq) fun r s' hq'=>?_))
 cases r with
 |error e=>exact hx pins σ _ _ e s' I2 hq'
 |ok fl=>
  cases fl with
  |ret u=>
   obtain⟨v,H',I3,rv,ev,q3⟩:=I2.after hq'
   subst ev
   exact⟨rv,⟨L2.V.ref @16,H',I3,rfl,q3⟩⟩
  |next=>exact zc8 hq'
  |brk=>exact zc8 hq'
  |cont=>exact zc8 hq'
theorem Qo1 (D:QbR X.prog X.w X.K X.mg X.base k n x ps sp)(hx:Qa8 X E)(hr:Qag (n+1) X.A)(ha:PA X (e::es) t)(hg:Gl X x:=by rfl)
  (hdb:@6=false:=by decide) (he:starEach (e::es) X.env=(false,eval e X.env)::starEach es X.env:=by rfl) (hpl:(backTo pos (starEach es X.env)).any (·.1)=false:=by rfl) :
  PE X (.Call (.Name x px) (e::es) [] pos) (Qnm k sp E t):=by
 obtain⟨f,fd,F,M,hm,hb⟩:=D.ex
 intro pins s σ H Q I h
 refine zf9 (Qdb I hg hm ?_ hdb)
 refine zk8 (h₀:=X.base) I.ok.mod.kin M.kp (thn (ha pos pins s σ H _ I h) fun us s1 hz=>?_) he hpl
 obtain⟨vs,H1,I1,r,q⟩:=hz
 refine⟨I1.kIn,?_⟩
 exact QkU M F hr hb hx I1 r q
theorem Qmv {f:Addr->D->Fr}(ok:rdL ks=true){σ:L2.St}{H:Hp}{Q:VK}(h:tX .V C pa E (Qs6 k f mr) σ H Q):Qnm k (spI C.K k f) E (tA ks C pa E mr) σ H Q:=by
 obtain⟨F,ρ,τ,fp,I,h⟩:=h
 refine⟨F,ρ,τ,fp,I,h.split.mono fun r hr F1 H1 fp1 vs I1 n1 f1=>?_⟩
 rw[Yv ok] at I1
 have rl:=f1.rd I1 ok
 obtain⟨d,ed,h2⟩:=hr.split.of
 have e1:r.1=[d]:=by
  unfold Qvw at ed
  split at ed
  ·rename_i q;cases ed;exact q
  ·cases ed
 rw[e1] at rl
 obtain⟨v,rfl,rv⟩:=rl.one
 intro x dx hx hdx ne
 have up:Qu H1 (upd (upd H1 dx (.own x)) x (.ins k dx [])):=(Qu.upd hdx).trans (Qu.upd (by rw[Qk (zb9 ne)];exact hx))
 have kx:∀b o,H1 b=some o->b≠x/\b≠dx:=fun b o e=>⟨Qx e hx,Qx e hdx⟩
 have up0:∀b,upd (upd H1 dx (.own x)) x (.ins k dx []) b=none->H1 b=none:=fun b e=>up.free e
 refine⟨x,dx,v,rfl,Qs,by rw[Qk ne,Qs],jn F1 H1 fp1,d,rv,(Vn I1.fh).trans up,(Vn I1.fh).free hx,?_⟩
 have hmt:∀{F':Hp},Qu (jn F1 H1 fp1) F'->∀b∈fp1,∀o,F' b=some o->Mbl o:=fun{F'} s b hb o e=>by
  obtain⟨o',e',z⟩:=I1.mem b hb
  have q:=s b o' (by rw[Vo hb];exact e')
  rw[e] at q;cases q
  exact z
 cases ef:Qnl f d with
 |no=>rw[ef] at h2;exact h2.elim
 |ex c=>
  rw[ef] at h2
  rw[QkT (f:=f) (d:=d) (by rw[ef];exact fun z=>nomatch z) x,ef]
  dsimp only at h2 ⊢
  intro H' kp' dm'
  have kp1:∀b o,H1 b=some o->H' b=some o:=fun b o e=>kp' b o (kx b o e).1 (up b o e)
  have J:SI C F1 H' σ r.2 τ fp1:=I1.step (Qu.refl _) (fun b o e=>kp1 b o (I1.fh b o e)) (fun a ha=>by
   obtain⟨o,e,_⟩:=I1.mem a ha
   rw[e,kp1 a o e]) I1.ap (fun _ _ z=>.inl z) (fun b o _ _ e=>kp1 b o e) (fun b e=>up0 b (dm' b e))
  obtain⟨fp2,J2⟩:=J.drop
  exact h2 F1 H' fp2 J2
 |ok i os=>
  rw[ef] at h2
  rw[QkT (f:=f) (d:=d) (by rw[ef];exact fun z=>nomatch z) x,ef]
  dsimp only at h2 ⊢
  intro F' H' ns us ds er sF fh' fx fn' kp' dm' rl' hlen hx'
  subst er
  refine⟨rfl,?_⟩
  by_cases ci:(Qjb k (.nd (.ins k ns) ds) && (D.nd (.ins k ns) ds).imm)=true
  ·rw[if_pos ci] at h2
   obtain⟨_,im⟩:=z66.mp ci
   have kp1:∀b o,H1 b=some o->H' b=some o:=fun b o e=>kp' b o (kx b o e).1 (up b o e)
   have Qvx:H' dx=some (.own x):=kp' dx _ ne (by rw[Qk ne,Qs])
   have sN:Qu F1 (lo F' fp1):=fun b o e=>by
    have nb:b∉fp1:=fun z=>by rw[I1.ap b z] at e;cases e
    rw[Qaq nb]
    exact sF b o (by rw[Jy nb];exact e)
   have nx:∀a∈fp1,a≠x/\a≠dx:=fun a ha=>by
    obtain⟨o,e,_⟩:=I1.mem a ha
    exact kx a o e
   let G:Hp:=upd (upd (lo F' fp1) dx (.own x)) x (.ins k dx (ns.zip us))
   have sG:Qu (lo F' fp1) G:=fun b o e=>by
    have e2:F' b=some o:=lo_le b o e
    have nb:b≠x:=fun z=>by subst z;rw[fx] at e2;cases e2
    show upd (upd (lo F' fp1) dx (.own x)) x _ b=_
    rw[Qk nb]
    by_cases hd:b=dx
    ·subst hd
     rw[Qs]
     have:=fh' b o e2
     rw[Qvx] at this
     exact this
    ·rw[Qk hd];exact e
   have GH:Qu G H':=fun b o e=>by
    have e:upd (upd (lo F' fp1) dx (.own x)) x (.ins k dx (ns.zip us)) b=some o:=e
    by_cases hb:b=x
    ·subst hb;rw[Qs] at e;rw[hx'];exact e
    ·rw[Qk hb] at e
     by_cases hd:b=dx
     ·subst hd;rw[Qs] at e;rw[Qvx];exact e
     ·rw[Qk hd] at e;exact fh' b o (lo_le b o e)
   have J:SI C G H' σ r.2 τ fp1:=by
    refine I1.step (sN.trans sG) GH (fun a ha=>?_) (fun a ha=>?_) (fun b o e=>?_) (fun b o _ _ e=>kp1 b o e) (fun b e=>up0 b (dm' b e))
    ·obtain⟨o,e,_⟩:=I1.mem a ha
     rw[e,kp1 a o e]
    ·show upd (upd (lo F' fp1) dx (.own x)) x _ a=none
     rw[Qk (nx a ha).1,Qk (nx a ha).2];exact QgX ha
    ·have e:upd (upd (lo F' fp1) dx (.own x)) x (.ins k dx (ns.zip us)) b=some o:=e
     by_cases hb:b=x
     ·subst hb;exact .inr (.inl (I1.dm _ hx))
     ·rw[Qk hb] at e
      by_cases hd:b=dx
      ·subst hd;exact .inr (.inl (I1.dm _ hdx))
      ·rw[Qk hd] at e
       have nb:b∉fp1:=fun z=>by rw[QgX z] at e;cases e
       rw[Qaq nb] at e
       rcases fn' b o e with z|z
       ·rw[Jy nb] at z;exact .inl z
       ·exact .inr (z.up fun y=>I1.dm b (up0 b y))
   have rd:R C.K G (.ref x) (.nd (.ins k ns) ds):=by
    refine .nd (t:=.ins k ns) ⟨hlen,dx,Qs,?_⟩ ((RL.lo (hmt sF) rl' (Qdn im).2).same sG)
    show upd (upd (lo F' fp1) dx (.own x)) x _ dx=_
    rw[Qk ne,Qs]
   refine h2 G H' fp1 (.ref x) J ((n1.trans (q:=true) ⟨sN.trans sG,fun _ b o e=>?_⟩).weak fun z=>by simp[z]) rd
   by_cases hb:b∈fp1
   ·rw[Vo hb] at e
    rw[Vo hb]
    exact kp1 b o e
   ·rw[Jy hb] at e
    rw[Jy hb]
    exact(sN.trans sG) b o e
  ·rw[if_neg ci] at h2;exact h2.elim
theorem Quu {f:Addr->D->Fr}(D:QbR X.prog X.w X.K X.mg X.base k n x ps (spI C.K k f))(hx:Qa8 X E)(hr:Qag (n+1) X.A)(ha:PA X (e::es) (tA ks C pa E mr))(ok:rdL ks=true:=by rfl)(hg:Gl X x:=by rfl)
  (hdb:@6=false:=by decide) (he:starEach (e::es) X.env=(false,eval e X.env)::starEach es X.env:=by rfl) (hpl:(backTo pos (starEach es X.env)).any (·.1)=false:=by rfl) :
  PE X (.Call (.Name x px) (e::es) [] pos) (tX .V C pa E (Qs6 k f mr)):=Qp (Qo1 D hx hr ha hg hdb he hpl) fun _ _ _ h=>Qmv ok h
end
def selfAt:Option (Option Sl)->Option Addr
 |some (some (.frz (.cls y)))=>some y
 |_=>none
def Qew (x:Addr)(ρ:Rho):Bool:=decide (selfAt ρ[0]? = some x)
theorem QkV {x:Addr}{ρ:Rho}(h:Qew x ρ=true):ρ[0]? = some (some (.frz (.cls x))):=by
 have h:selfAt ρ[0]? = some x:=of_decide_eq_true h
 unfold selfAt at h
 split at h
 ·next e=>rw[e,z21 h]
 ·cases h
def QpL (k:Addr)(n:Nat)(f:Str)(me:ME)(x:Addr)(d:D):Fr:=match me (Qkl [false,false] n [.cls x,d]) with
 |.ok (r,ρ)=>if Qew x ρ=true then .ok (.nd (.ins k [f]) [r]) [] else .no
 |.ex c _=>.ex c
 |.no=>.no
def Qo2 (ms:MS)(me:ME):ME:=fun ρ=>(ms ρ).bind fun r=>match r.1 with
 |.nx=>me r.2
 |_=>.no
def Qs7 (C:Cn)(E:XE)(f:Str)(x:Addr)(me:ME):TS:=fun D σ H=>∃F ρ fp,SI C F H σ ρ [] fp/\Qd5 C E (me ρ) fun r=>Qew x r.2=true/\∀F' H' σ' fp' v,Qu F F'->SI C F' H' σ' r.2 [] fp'->R C.K F' v r.1->∃k dx,H' x=some (.ins k dx [])/\Cls C.K k/\Qa9 C.K k f/\D.nx σ' (upd H' x (.ins k dx [(f,v)]))
section
variable {X:Cx}{C:Cn}{E:XE}{p:Bool}{e:Expr}{me:ME}{ms:MS}{pos p1 p2:Pos}{f:Str}{x:Addr}{st:Stmt}{rest:List Stmt}
theorem Quv (hK:C.K=X.K)(hN:X.N[0]? = some ("self" : Str))(hv:Vis X.env.scope "self")(he:PE X e (tX .V C p E me))(hs:swapsWith e (some (.Attribute (.Name "self" p1) f p2)) pos.line X.env=pure false:=by rfl):PSs X [.Assign [.Attribute (.Name "self" p1) f p2] e pos] (Qs7 C E f x me):=
 Qc3 (Qjt (Qqc (Qan hN hv @1 @1) he hs)) fun D σ H ⟨F,ρ,fp,I,h⟩=>by
  refine⟨F,ρ,[],fp,I,h.run.mono fun r ⟨h1,h2⟩ F1 H1 fp1 v I1 n1 f1=>?_⟩
  have e0:=QkV h1
  obtain⟨y,f0,g0,rest,ey,s1,_⟩:=I1.cut e0
  cases s1 with
  |frz hr=>
   obtain rfl:=hr.QK (w:=.ref x) rfl
   obtain⟨k,dx,a1,a2,a3,a4⟩:=h2 F1 H1 σ fp1 v n1.f I1 f1
   exact⟨_,ey,x,k,dx,[],rfl,a1,hK▸a2,hK▸a3,by decide,a4⟩
theorem Qnn (h1:PS X st (tS .V C E ms))(h2:PSs X rest (Qs7 C E f x me)):PSs X (st::rest) (Qs7 C E f x (Qo2 ms me)):=Qc3 (Qho h1 h2) fun D σ H ⟨F,ρ,fp,I,h⟩=>by
 refine⟨F,ρ,fp,I,h.split.mono fun r hr=>?_⟩
 obtain⟨fl,ρ1⟩:=r
 cases fl with
 |nx=>exact fun F1 H1 σ1 fp1 s1 I1=>⟨F1,ρ1,fp1,I1,hr.mono fun q z=>⟨z.1,fun F' H' σ' fp' v s2=>z.2 F' H' σ' fp' v (s1.trans s2)⟩⟩
 |rt d=>exact hr.elim
 |bk=>exact hr.elim
 |ct=>exact hr.elim
end
theorem fnI {P:Program}{w:World}{K:z00}{mg:Str->Option Value}{base:Heap}{x qual y fl:Str}{st:Stmt}{f k:Addr}{fd:FuncData}{N:List Str}{n:Nat}{me:ME}(Fn:Fun K x qual st f fd)(S:Qbp N ["self",y] (QL st))(c:Cls K k)(na:Qa9 K k fl)
  (hbody:∀(cdv:Value) (A:Around) (outer:List Env) (s:Shared) (H:Hp) (E:XK) (C:Cn) (x:Addr),C.K=K->Qag n (A.deeper (zd2 qual (QL st) s.heap.objs.size f cdv))->A.handled=none->
   PSs (Qci (CXe P w) P w K mg base N qual (QL st) f cdv A outer s H E) (Y5 st) (Qs7 C (fun _=>E) fl x me)):Qeh P w K mg base (CXe P w) (n+1) f fd ["self",y] (spI K k (QpL k N.length fl me)):=by
 refine Fn.okE S (fun vs H Q E h=>?_) (fun cdv A outer s H vs Q E hr hd h=>?_)
 ·obtain⟨_,_,_,rfl,_⟩:=h;rfl
 ·obtain⟨x,dx,v,rfl,hx,hdx,F,d,rv,fh,fx,h⟩:=h
  let C:Cn:=⟨K,H,F,[],[]⟩
  refine⟨_,hbody cdv A outer s H E C x rfl hr hd,?_⟩
  have al:AL K F H [false,false] [.ref x,v] [.cls x,d] []:=.val (.sc rfl) (.val rv .nil)
  have I:SI C F H (L2.start N [.ref x,v]) (Qkl [false,false] N.length [.cls x,d]) [] []:=by
   refine⟨⟨[],[],[],QhO (N:=N) (r:=N.length - 2) al,.nil,.refl _,@2,@2,@2⟩,zg2,@2,fh,Qu.refl F,fun b o e=>.inl e,fun b o e _=>e,fun b e=>e,fun j v hj=>nomatch hj⟩
  refine⟨F,_,[],I,?_⟩
  unfold QpL at h
  cases em:me (Qkl [false,false] N.length [.cls x,d]) with
  |no=>rw[em] at h;exact h.elim
  |ex c ρ=>
   rw[em] at h
   exact fun F' H' σ' fp' J=>h H' (fun b o _ e=>J.kp b o e (by simp[C])) J.dm
  |ok q=>
   obtain⟨r,ρ⟩:=q
   rw[em] at h
   dsimp only at h
   by_cases hs:Qew x ρ=true
   ·rw[if_pos hs] at h
    refine⟨hs,fun F' H' σ' fp' u s' J ru=>?_⟩
    have hx':H' x=some (.ins k dx []):=J.kp x _ hx (by simp[C])
    refine⟨k,dx,hx',c,na,?_⟩
    have fx':F' x=none:=by
     cases e:F' x with
     |none=>rfl
     |some o=>
      rcases J.fn x o e with z|z
      ·have z:F x=some o:=z
       rw[fx] at z;cases z
      ·rcases z with z|z
       ·have z:H x=none:=z
        rw[hx] at z;cases z
       ·have e3:=J.fh x o e
        rw[hx'] at e3;cases e3;exact z.elim
    refine h F' _ [fl] [u] [r] rfl J.f0 (fun b o e=>?_) fx' J.fn (fun b o hb e=>?_) (fun b e=>?_) (.cons ru .nil) rfl Qs
    ·by_cases hb:b=x
     ·subst hb;rw[fx'] at e;cases e
     ·rw[Qk hb];exact J.fh b o e
    ·rw[Qk hb];exact J.kp b o e (by simp[C])
    ·by_cases hb:b=x
     ·subst hb;rw[Qs] at e;cases e
     ·rw[Qk hb] at e;exact J.dm b e
   ·rw[if_neg hs] at h;exact h.elim
section
variable {X:Cx}{C:Cn}{E:XE}{p:Bool}{o e a:Expr}{m:ME}{mr:MA}{pos apos cpos np:Pos}{rk:Kd}{ks:List Kd}{n:Nat}{x f:Str}{t:TA}
def Quw (i:Nat):ME:=fun ρ=>(Rs.of (Qax ρ i)).bind fun q=>(Rs.of (q.2[q.2.length - 1]?)).bind fun d=>if D.Jb q.2=true then .ok (d,ρ.set i (some (mkS q.1 (.lst q.2.dropLast)))) else .no
theorem RL.dropLast {K:z00}{F:Hp}{vs:List L2.V}{ds:List D}(r:RL K F vs ds):RL K F vs.dropLast ds.dropLast:=by
 rw[zu0,zu0,r.length]
 exact r.take _
theorem Qfj {ds:List D}(h:D.Jb ds=true):D.Jb ds.dropLast=true:=Qdo fun d hd=>QaZ h d (List.dropLast_subset _ hd)
theorem Qsf {i:Nat}(hN:X.N[i]? = some x)(hv:Vis X.env.scope x)(hbase:attributeBase (.Name x np) "pop" X.env (eval (.Name x np) X.env)=eval (.Name x np) X.env:=by rfl)(hline:(apos.endLine == cpos.line)=true:=by rfl)(hd:@6=false:=by decide)(hcd:(x == ("__classdict__" : Str))=false:=by decide) :
  PE X (.Call (.Attribute (.Name x np) "pop" apos) [] [] cpos) (tX .V C false E (Quw i)):=
 Qp (Qqq ze9 PySem.F.slot_list_pop PySem.F.type_list_pop Qqs (Qan hN hv hd hcd) hbase hline) fun σ H Q ⟨F,ρ,τ,fp,I,h⟩=>by
  obtain⟨q,eq,h⟩:=h.split.of
  obtain⟨d,ed,h⟩:=h.split.of
  obtain⟨l,vs,f,rest,ex,hl,ol,pm,w,cl⟩:=I.Qgb (JT eq)
  by_cases hi:D.Jb q.2=true
  ·rw[if_pos hi] at h
   have rl:=ol.rl hi
   have ef:f=[]:=ol.Qs1 hi
   subst ef
   obtain⟨v,ev,rv⟩:=rl.get ed
   refine⟨_,ex,.inl ⟨rfl,vs,SqL.of hl⟩,l,vs,v,rfl,rfl,hl,by rw[rl.length];exact ev,?_⟩
   have J:=cl (f':=[]) (rl.dropLast.o (Qfj hi)) (pm.nodup_iff.mp I.nd) @2
   exact h F _ _ v J ⟨Qu.refl _,fun z=>nomatch z⟩ rv
  ·rw[if_neg hi] at h;exact h.elim
def Qo3:L2.V->List L2.V->Hp->VK->Prop:=fun x vs H Q=>∃l xs i y,x=.ref l/\vs=[.int i,y]/\H l=some (.lst xs)/\0<=i/\i<=xs.length/\xs.length<z17/\Q .non (upd H l (.lst (xs.take i.toNat++y::xs.drop i.toNat)))
theorem QkW:MtM X "list.insert" Qo3:=by
 intro pins s σ H x vs v us Q I rx rv h
 obtain⟨l,xs,i,y,rfl,rfl,hH,h0,h1,hz,q⟩:=h
 cases rx
 obtain⟨u,u2,rfl,⟨t,rfl⟩,ru⟩:=Vals.two rv
 obtain⟨z,its,n,r,hl,e⟩:=I.Qqr hH
 have hfit:Builtin.List.listFitsIndex i=true:=fitsIndex_both @0 (by rw[z36] at hz;lia)
 refine call_meets F.slot_list_insert ⟨_,e,rfl⟩ F.entry_list_insert (F.args_list_insert_3 _ _ _) (AutoSeq1.list_insert_list_int_val_1 l its.toArray n i t u2 (by rw[hfit];decide) (by rw[z18];lia)) ⟨e,?_⟩
 refine⟨.non,_,I.QsY (its':=its.take i.toNat++u2::its.drop i.toNat) hH e ?_ ((r.take _).append (.cons ru (r.drop _))) ?_,rfl,q⟩
 ·have hk:(if i<0 then(i+(its.toArray.size:Int)).toNat else min i.toNat its.toArray.size)=i.toNat:=by
   rw[if_neg @0,z18];lia
  show(its.toArray.extract 0 (if i<0 then(i+(its.toArray.size:Int)).toNat else min i.toNat its.toArray.size)).push u2++its.toArray.extract (if i<0 then(i+(its.toArray.size:Int)).toNat else min i.toNat its.toArray.size)=_
  rw[hk]
  apply zn9.mp
  simp[List.extract_eq_take_drop,z75]
 ·simp only[z16,z44,z27,z58];lia
def Qux:List D->Option (Int×D)
 | [.int j,d]=>some (j,d)
 |_=>none
theorem Qo4 {ds:List D}{q:Int×D}(h:Qux ds=some q):ds=[.int q.1,q.2]:=by
 unfold Qux at h
 split at h
 ·cases h;rfl
 ·cases h
def Qs8 (i:Nat)(mr:MA):MS:=fun ρ=>(Rs.of (Qax ρ i)).bind fun _=>(mr ρ).bind fun r=>(Rs.of (Qux r.1)).bind fun y=>(Rs.of (Qax r.2 i)).bind fun q=>
 if 0<=y.1/\y.1<=q.2.length/\q.2.length<z17/\(D.Jb q.2 && y.2.imm)=true then .ok (.nx,r.2.set i (some (mkS q.1 (.lst (q.2.take y.1.toNat++y.2::q.2.drop y.1.toNat))))) else .no
theorem Quy {i:Nat}(hN:X.N[i]? = some x)(hv:Vis X.env.scope x)(ha:PA X [a,e] (tA ks C p E mr))(ok:knL ks=true:=by rfl)(hs:swapsWith (.Call (.Attribute (.Name x np) "insert" apos) [a,e] [] cpos) none pos.line X.env=pure false:=by rfl)
  (hbase:attributeBase (.Name x np) "insert" X.env (eval (.Name x np) X.env)=eval (.Name x np) X.env:=by rfl) (hfew:((backTo cpos (starEach [a,e] X.env)).all (fun x=>!x.1) && (backToKw cpos (keywordEach [] X.env)).all (fun x=>x.1.isSome) && decide ([a,e].length+([]:List Keyword).length+(if([]:List Keyword).isEmpty then 0 else 1)<30))=true:=by rfl)
  (hline:(apos.endLine == cpos.line)=true:=by rfl) (hst:starEach [a,e] X.env=(false,eval a X.env)::starEach [e] X.env:=by rfl) (hplain:(backTo cpos (starEach [e] X.env)).any (·.1)=false:=by rfl) (hd:@6=false:=by decide) (hcd:(x == ("__classdict__" : Str))=false:=by decide) :
  PS X (.Expr (.Call (.Attribute (.Name x np) "insert" apos) [a,e] [] cpos) pos) (tS rk C E (Qs8 i mr)):=
 Jl (QeO (Qn8 ze9 PySem.F.slot_list_insert PySem.F.type_list_insert QkW (Qan hN hv hd hcd) ha hbase hfew hline hst hplain) hs) fun DD σ H ⟨F,ρ,fp,I,h⟩=>by
 obtain⟨q0,e0,h⟩:=h.split.of
 obtain⟨l0,vs0,f0,Qg0,ex0,hl0,_⟩:=I.Qdx (JT e0)
 refine⟨_,ex0,.inl ⟨rfl,vs0,SqL.of hl0⟩,F,ρ,[],fp,I,h.split.run.mono fun r hr F1 H1 fp1 vs1 I1 n1 f1=>?_⟩
 rw[Yv (Qa0 ok)] at I1
 have rl1:=f1.kn ok
 obtain⟨y,ey,h2⟩:=hr.split.of
 obtain⟨q,eq,h3⟩:=h2.split.of
 rw[Qo4 ey] at rl1
 obtain⟨u1,u2,rfl,ru1,ru2⟩:=rl1.two
 obtain rfl:=R.int ru1
 obtain⟨l,vs,f,rest,ex,hl,ol,pm,w,cl⟩:=I1.Qgb (JT eq)
 have el:l=l0:=by rw[ex0] at ex;cases ex;rfl
 subst el
 by_cases hz:0<=y.1/\y.1<=q.2.length/\q.2.length<z17/\(D.Jb q.2 && y.2.imm)=true
 ·rw[if_pos hz] at h3
  obtain⟨z0,z1,z2,z3⟩:=hz
  obtain⟨i1,i2⟩:=z66.mp z3
  have rl:=ol.rl i1
  have ef:f=[]:=ol.Qs1 i1
  subst ef
  refine⟨l,vs,y.1,u2,rfl,rfl,hl,z0,by rw[rl.length];exact z1,by rw[rl.length];exact z2,?_⟩
  have rl':RL C.K F1 (vs.take y.1.toNat++u2::vs.drop y.1.toNat) (q.2.take y.1.toNat++y.2::q.2.drop y.1.toNat):=(rl.take _).app (.cons ru2 (rl.drop _))
  have im':D.Jb (q.2.take y.1.toNat++y.2::q.2.drop y.1.toNat)=true:=Qdo fun d hd=>by
   rcases z05.mp hd with hd|hd
   ·exact QaZ i1 d (za2 hd)
   ·rcases z15.mp hd with rfl|hd
    ·exact i2
    ·exact QaZ i1 d (ze1 hd)
  exact h3 F1 _ σ _ n1.f (cl (f':=[]) (rl'.o im') (pm.nodup_iff.mp I1.nd) @2)
 ·rw[if_neg hz] at h3;exact h3.elim
def Qvy (tg:D->Rho->Option Rho)(m:ME):MS:=fun ρ=>(m ρ).bind fun r=>(Rs.of (tg r.1 r.2)).bind fun ρ'=>.ok (.nx,ρ')
theorem Quz {tge:Expr}{g:TG}{tg:D->Rho->Option Rho}(hg:PG X tge g)(gd:GD C g tg)(he:PE X e (tX .V C p E m))(hs:swapsWithSole [tge] e pos.line X.env=pure false:=by rfl)(hw:swappedStores [tge] e X.env=pure none:=by rfl)(h1:(assignEach [tge] X.env).map (·.2)=[assign tge X.env]:=by rfl) :
  PS X (.Assign [tge] e pos) (tS rk C E (Qvy tg m)):=Jl (Qju he hg hs hw h1) fun D σ H ⟨F,ρ,fp,I,h⟩=>by
 refine⟨F,ρ,[],fp,I,h.split.run.mono fun r hr F1 H1 fp1 v I1 n1 f1=>?_⟩
 obtain⟨ρ',e1,h2⟩:=hr.split.of
 exact gd F1 H1 σ r.2 [] fp1 v r.1 ρ' I1 f1 e1 _ fun σ' fp' J _=>h2 F1 H1 σ' fp' n1.f J
end
end TL
namespace TL
open PySem PySem.Spec L2 PyProof.Rows
def QkX:List Int->Int
 | []=>0
 |n::r=>r.foldl (fun m x=>if m<x then x else m) n
def Vr:List Int->Int
 | []=>0
 |n::r=>r.foldl (fun m x=>if x<m then x else m) n
theorem Qh1:∀(r:List Int) (n:Int),(r.foldl (fun m x=>if m<x then x else m) n∈n::r)/\∀a∈n::r,a<=r.foldl (fun m x=>if m<x then x else m) n
 | [],n=>⟨z07,fun a ha=>by rw[z26.mp ha];exact zd5 _⟩
 |x::r,n=>by
  obtain⟨h1,h2⟩:=Qh1 r (if n<x then x else n)
  rw[zf1]
  refine⟨?_,fun a ha=>?_⟩
  ·rcases z15.mp h1 with h|h
   ·rw[h];split<;>simp
   ·simp[h]
  ·have h0:=h2 _ z07
   rcases z15.mp ha with rfl|ha
   ·refine z91 ?_ h0;split<;>lia
   ·rcases z15.mp ha with rfl|ha
    ·refine z91 ?_ h0;split<;>lia
    ·exact h2 a (z08 _ ha)
theorem Qh2:∀(r:List Int) (n:Int),(r.foldl (fun m x=>if x<m then x else m) n∈n::r)/\∀a∈n::r,r.foldl (fun m x=>if x<m then x else m) n<=a
 | [],n=>⟨z07,fun a ha=>by rw[z26.mp ha];exact zd5 _⟩
 |x::r,n=>by
  obtain⟨h1,h2⟩:=Qh2 r (if x<n then x else n)
  rw[zf1]
  refine⟨?_,fun a ha=>?_⟩
  ·rcases z15.mp h1 with h|h
   ·rw[h];split<;>simp
   ·simp[h]
  ·have h0:=h2 _ z07
   rcases z15.mp ha with rfl|ha
   ·refine z91 h0 ?_;split<;>lia
   ·rcases z15.mp ha with rfl|ha
    ·refine z91 h0 ?_;split<;>lia
    ·exact h2 a (z08 _ ha)
theorem Qgh {ns:List Int}(h:ns≠[]):QkX ns∈ns/\∀a∈ns,a<=QkX ns:=by
 cases ns with
 |nil=>exact absurd rfl h
 |cons n r=>exact Qh1 r n
theorem QdB {ns:List Int}(h:ns≠[]):Vr ns∈ns/\∀a∈ns,Vr ns<=a:=by
 cases ns with
 |nil=>exact absurd rfl h
 |cons n r=>exact Qh2 r n
section
variable {X:Cx}{C:Cn}
theorem QkY (hc:X.calm=true):Qaf X (.builtin "max") (fun xs H Q=>∃(p:Addr) (ns:List Int),xs=[.ref p]/\SqL X.K H p (ns.map L2.V.int)/\ns≠[]/\Q (.int (QkX ns)) H):=by
 intro pins s σ H xs us Q I r h
 obtain⟨p,ns,rfl,hp,hne,q⟩:=h
 obtain⟨u,rfl,ru⟩:=vals1 r
 cases ru
 obtain⟨its,rv,pl,hz⟩:=I.list hp
 have hi:IntsAre its ns:=intsAre_of rv
 obtain⟨zs,e⟩:=hi.allInts.items
 have hns:ns=zs.toList.map (·.1):=by rw[← hi.numsOf,← nums_intItems,← e]
 have hsz:0<zs.size:=by
  have:ns.length≠0:=by simpa using hne
  rw[hns,z01,z82] at this;lia
 have hl:=pl.isList
 rw[e] at hl
 refine max_intList (I.ok.hd hc) hl hsz fun v h' tk hv hk=>?_
 obtain⟨t,rfl⟩:=intItems_at hv
 obtain⟨h1,h2⟩:=argBest_gt (numAt zs) (zs.size - 1)
 have em:numAt zs (argBest (fun i j=>decide (numAt zs i > numAt zs j)) (zs.size - 1))=QkX ns:=by
  obtain⟨b1,b2⟩:=Qgh hne
  refine zq6 (b2 _ ?_) ?_
  ·rw[hns,numAt_eq];exact getD_mem (by rw[z01,z82];lia)
  ·rw[hns] at b1
   obtain⟨j,hj,ej⟩:=mem_getD b1
   rw[z01,z82] at hj
   rw[← hns] at ej
   have e2:numAt zs j=QkX ns:=by rw[numAt_eq,← hns];exact ej
   rw[← e2];exact h2 j @0
 rw[em]
 exact⟨.int (QkX ns),H,I.kept (t':=tk) hk,⟨_,rfl⟩,q⟩
theorem Qgi (hc:X.calm=true):Qaf X (.builtin "min") (fun xs H Q=>∃(p:Addr) (ns:List Int),xs=[.ref p]/\SqL X.K H p (ns.map L2.V.int)/\ns≠[]/\Q (.int (Vr ns)) H):=by
 intro pins s σ H xs us Q I r h
 obtain⟨p,ns,rfl,hp,hne,q⟩:=h
 obtain⟨u,rfl,ru⟩:=vals1 r
 cases ru
 obtain⟨its,rv,pl,hz⟩:=I.list hp
 have hi:IntsAre its ns:=intsAre_of rv
 obtain⟨zs,e⟩:=hi.allInts.items
 have hns:ns=zs.toList.map (·.1):=by rw[← hi.numsOf,← nums_intItems,← e]
 have hsz:0<zs.size:=by
  have:ns.length≠0:=by simpa using hne
  rw[hns,z01,z82] at this;lia
 have hl:=pl.isList
 rw[e] at hl
 refine min_intList (I.ok.hd hc) hl hsz fun v h' tk hv hk=>?_
 obtain⟨t,rfl⟩:=intItems_at hv
 obtain⟨h1,h2⟩:=argBest_lt (numAt zs) (zs.size - 1)
 have em:numAt zs (argBest (fun i j=>decide (numAt zs i<numAt zs j)) (zs.size - 1))=Vr ns:=by
  obtain⟨b1,b2⟩:=QdB hne
  refine zq6 ?_ (b2 _ ?_)
  ·rw[hns] at b1
   obtain⟨j,hj,ej⟩:=mem_getD b1
   rw[z01,z82] at hj
   rw[← hns] at ej
   have e2:numAt zs j=Vr ns:=by rw[numAt_eq,← hns];exact ej
   rw[← e2];exact h2 j @0
  ·rw[hns,numAt_eq];exact getD_mem (by rw[z01,z82];lia)
 rw[em]
 exact⟨.int (Vr ns),H,I.kept (t':=tk) hk,⟨_,rfl⟩,q⟩
def Qh3:List D->Option @17
 | []=>some []
 |.int i::r=>(Qh3 r).map (i::·)
 |_=>none
theorem Qg9 {K:z00}{F:Hp}:∀{vs:List L2.V} {ds:List D} {ns:List Int},RL K F vs ds->Qh3 ds=some ns->vs=ns.map L2.V.int
 |_,_,_,.nil,h=>by cases h;rfl
 |_,_,_,.cons (d:=d) r q,h=>by
  cases d with
  |int s=>
   obtain⟨ys,e,rfl⟩:=z03.mp (show(Qh3 _).map (s::·)=some _ from h)
   rw[R.int r,Qg9 q e];rfl
  |_=>cases h
theorem Qa2:∀{ns:List Int},Qh3 (ns.map .int)=some ns
 | []=>rfl
 |n::ns=>by rw[z30,Qh3,Qa2];rfl
def Qmw:List D->Option D
 | [.nd .lst ds]=>(Qh3 ds).bind fun ns=>if ns=[] then none else some (.int (QkX ns))
 |_=>none
def Qmx:List D->Option D
 | [.nd .lst ds]=>(Qh3 ds).bind fun ns=>if ns=[] then none else some (.int (Vr ns))
 |_=>none
theorem QuA (hK:C.K=X.K):CallD C.K (fun xs H Q=>∃(p:Addr) (ns:List Int),xs=[.ref p]/\SqL X.K H p (ns.map L2.V.int)/\ns≠[]/\Q (.int (QkX ns)) H) Qmw:=fun H vs ds res r eg=>by
 unfold Qmw at eg
 split at eg
 ·obtain⟨ns,e1,e2⟩:=z23.mp eg
  split at e2
  ·cases e2
  ·rename_i hne
   cases e2
   obtain⟨v,rfl,r1⟩:=r.one
   obtain⟨a,us,rfl,ha,rl⟩:=r1.inv
   refine⟨_,rfl,fun Q h=>⟨a,ns,rfl,?_,hne,h⟩⟩
   rw[← Qg9 rl e1,← hK];exact ha
 ·cases eg
theorem Qsg (hK:C.K=X.K):CallD C.K (fun xs H Q=>∃(p:Addr) (ns:List Int),xs=[.ref p]/\SqL X.K H p (ns.map L2.V.int)/\ns≠[]/\Q (.int (Vr ns)) H) Qmx:=fun H vs ds res r eg=>by
 unfold Qmx at eg
 split at eg
 ·obtain⟨ns,e1,e2⟩:=z23.mp eg
  split at e2
  ·cases e2
  ·rename_i hne
   cases e2
   obtain⟨v,rfl,r1⟩:=r.one
   obtain⟨a,us,rfl,ha,rl⟩:=r1.inv
   refine⟨_,rfl,fun Q h=>⟨a,ns,rfl,?_,hne,h⟩⟩
   rw[← Qg9 rl e1,← hK];exact ha
 ·cases eg
end
end TL
namespace TL
open PySem PySem.Spec L2 L2.Srt
section
variable {α:Type}{lt:α->α->Bool}
def QpM (lt:α->α->Bool)(x:α):List α->List α
 | []=>[x]
 |y::ys=>if lt x y=true then x::y::ys else y::QpM lt x ys
noncomputable def Qh4 (lt:α->α->Bool):List α->List α
 | []=>[]
 |x::xs=>QpM lt x (Qh4 lt xs)
theorem QdC (x:α):∀ys:List α,(QpM lt x ys).Perm (x::ys)
 | []=>.refl _
 |y::ys=>by
  unfold QpM
  split
  ·exact .refl _
  ·exact((QdC x ys).cons y).trans (.swap x y ys)
theorem Vs:∀xs:List α,(Qh4 lt xs).Perm xs
 | []=>.refl _
 |x::xs=>(QdC x _).trans ((Vs xs).cons x)
theorem QkZ (L:Lin lt){x:α}:∀{ys:List α},ys.Pairwise (fun a b=>lt a b=true)->x∉ys->(QpM lt x ys).Pairwise (fun a b=>lt a b=true)
 | [],_,_=>List.pairwise_singleton _ _
 |y::ys,h,hn=>by
  unfold QpM
  obtain⟨h1,h2⟩:=z81.mp h
  split
  ·rename_i hl
   exact z81.mpr ⟨fun a ha=>by
    rcases z15.mp ha with rfl|ha
    ·exact hl
    ·exact L.tr _ _ _ hl (h1 a ha),h⟩
  ·rename_i hl
   have hyx:lt y x=true:=L.tot _ _ (fun e=>hn (e▸z07)) (by simpa using hl)
   refine z81.mpr ⟨fun a ha=>?_,QkZ L h2 fun hm=>hn (z08 _ hm)⟩
   rcases z15.mp ((QdC x ys).mem_iff.mp ha) with rfl|ha
   ·exact hyx
   ·exact h1 a ha
theorem Qha (L:Lin lt):∀{xs:List α},xs.Nodup->(Qh4 lt xs).Pairwise (fun a b=>lt a b=true)
 | [],_=>.nil
 |x::xs,h=>by
  obtain⟨h1,h2⟩:=z72.mp h
  exact QkZ L (Qha L h2) fun hm=>h1 ((Vs xs).mem_iff.mp hm)
theorem Qk0 (L:Lin lt):∀{xs ys:List α},xs.Pairwise (fun a b=>lt a b=true)->ys.Pairwise (fun a b=>lt a b=true)->xs.Perm ys->xs=ys
 | [],ys,_,_,p=>(List.nil_perm.mp p).symm
 |x::xs,[],_,_,p=>absurd p.length_eq @9
 |x::xs,y::ys,h,h',p=>by
  obtain⟨a1,a2⟩:=z81.mp h
  obtain⟨b1,b2⟩:=z81.mp h'
  have e:x=y:=by
   rcases z15.mp (p.mem_iff.mp (z07 (a:=x) (l:=xs))) with e|hx
   ·exact e
   ·rcases z15.mp (p.mem_iff.mpr (z07 (a:=y) (l:=ys))) with e|hy
    ·exact e.symm
    ·have z1:=b1 x hx
     have z2:=a1 y hy
     have:=L.tr _ _ _ z1 z2
     rw[L.irr] at this;cases this
  subst e
  rw[Qk0 L a2 b2 (p.cons_inv)]
end
def npD (x:NP):D:=.tup [.int x.1,pl x.2]
def pnD (x:PN):D:=.tup [pl x.1,.int x.2]
def Qo5:D->Option NP
 |.nd .tup [.int n,.nd .tup [.int a,.int b]]=>some (n,(a,b))
 |_=>none
theorem Qhb {d:D}{x:NP}(h:Qo5 d=some x):d=npD x:=by
 unfold Qo5 at h
 split at h
 ·cases h;rfl
 ·cases h
def npL:List D->Option (List NP)
 | []=>some []
 |d::ds=>(Qo5 d).bind fun x=>(npL ds).map (x::·)
theorem Qno:∀{ds:List D} {xs:List NP},npL ds=some xs->ds=xs.map npD
 | [],_,h=>by cases h;rfl
 |d::ds,xs,h=>by
  obtain⟨x,e1,e2⟩:=z23.mp (show(Qo5 d).bind _=some xs from h)
  obtain⟨ys,e3,rfl⟩:=z03.mp e2
  rw[Qhb e1,Qno e3];rfl
theorem Qk1:∀{xs:List NP},npL (xs.map npD)=some xs
 | []=>rfl
 |x::xs=>by rw[z30,npL,Qk1];rfl
theorem QuB {K:z00}{F:Hp}{v:L2.V}{q:Int×Int}(r:R K F v (pl q)):∃a,v=.ref a/\F a=some (.tup [.int q.1,.int q.2]):=by
 obtain⟨a,vs,rfl,h1,h2⟩:=r.inv
 obtain⟨v1,v2,rfl,r1,r2⟩:=h2.two
 rw[R.int r1,R.int r2] at h1
 exact⟨a,rfl,h1⟩
theorem Qk2 {K:z00}{F:Hp}{v:L2.V}{x:NP}(r:R K F v (npD x)):∃a,v=.ref a/\PT1 K F a x:=by
 obtain⟨a,vs,rfl,h1,h2⟩:=r.inv
 obtain⟨v1,v2,rfl,r1,r2⟩:=h2.two
 obtain⟨b,rfl,hb⟩:=QuB r2
 rw[R.int r1] at h1
 exact⟨a,rfl,b,SqT.of h1,SqT.of hb⟩
theorem Qk3 {K:z00}{F:Hp}:∀{vs:List L2.V} {xs:List NP},RL K F vs (xs.map npD)->∃qs:List Addr,vs=qs.map L2.V.ref/\Paired (PT1 K F) qs xs
 |_,[],.nil=>⟨[],rfl,.nil⟩
 |_,x::xs,.cons r t=>by
  obtain⟨a,rfl,h⟩:=Qk2 r
  obtain⟨qs,rfl,p⟩:=Qk3 t
  exact⟨a::qs,rfl,.cons h p⟩
theorem QdD:∀xs:List NP,D.Jb (xs.map npD)=true
 | []=>rfl
 |x::xs=>by rw[z30];show(true && D.Jb (xs.map npD))=true;rw[QdD xs];rfl
section
variable {X:Cx}{C:Cn}{E:XE}{p:Bool}{o e a b:Expr}{m:ME}{mr:MA}{pos px:Pos}{ks:List Kd}{x:Str}
def Qvz:D->D->Option D
 |x,y=>(Qo5 x).bind fun a=>(Qo5 y).map fun b=>.bl (Vx a b)
def QvA (K:z00):R2:=fun x y H Q=>∃a b q r,x=.ref q/\y=.ref r/\PT1 K H q a/\PT1 K H r b/\Q (.bl (Vx a b)) H
theorem Qsh (hu:X.A.units+1<cLine):OpR X (compareOp .Lt) (QvA X.K):=by
 intro pins s σ H x y v u Q I rx ry h
 obtain⟨a,b,q,r,rfl,rfl,ha,hb,k⟩:=h
 cases rx
 cases ry
 exact QtK hu (Qj7 I ha) (Qj7 I hb) ⟨.bl (Vx a b),H,I,rfl,k⟩
theorem Qws (hK:C.K=X.K):OpD C.K (QvA X.K) Qvz:=fun H v u d e res r q eg=>by
 obtain⟨a,e1,e2⟩:=z23.mp (show(Qo5 d).bind _=some res from eg)
 obtain⟨b,e3,rfl⟩:=z03.mp e2
 rw[Qhb e1] at r
 rw[Qhb e3] at q
 obtain⟨q1,rfl,h1⟩:=Qk2 r
 obtain⟨q2,rfl,h2⟩:=Qk2 q
 exact⟨_,rfl,fun Q h=>⟨a,b,q1,q2,rfl,rfl,hK▸h1,hK▸h2,h⟩⟩
def Qhc:List D->Option (List NP)
 | [.nd .lst ds]=>(npL ds).bind fun ps=>if ps.Nodup/\ps.length<=4000 then some (Qh4 Vx ps) else none
 |_=>none
def Qnp (mr:MA):ME:=fun ρ=>(mr ρ).bind fun r=>(Rs.of (Qhc r.1)).bind fun ps=>.ok (.lst (ps.map npD),r.2)
theorem Qmy (hu:X.A.units+3<cLine)(hK:C.K=X.K)(hm:X.mg x=none)(hv:z74 x=some (.builtin "sorted"))(ha:PA X [e] (tA ks C p E mr))(ok:rdL ks=true:=by rfl)(hgl:Gl X x:=by rfl)(hn:x ≠ "__name__" := by decide)(hdb:@6=false:=by decide)
  (he:starEach [e] X.env=(false,eval e X.env)::starEach [] X.env:=by rfl) (hpl:(backTo pos (starEach [] X.env)).any (·.1)=false:=by rfl):PE X (.Call (.Name x px) [e] [] pos) (tX .O C p E (Qnp mr)):=
 Qp (Qhq (QfZ hu) hgl hm hv ha hn hdb he hpl) fun σ H Q ⟨F,ρ,τ,fp,I,h⟩=>by
  refine⟨F,ρ,τ,fp,I,h.split.mono fun r1 h1 F1 H1 fp1 vs I1 n1 f1=>?_⟩
  rw[Yv ok] at I1
  have rl:=f1.rd I1 ok
  obtain⟨ps',e1,h2⟩:=h1.split.of
  obtain⟨dr,ρ1⟩:=r1
  dsimp only at e1 rl h2
  unfold Qhc at e1
  split at e1
  ·rename_i ds
   obtain⟨ps,e2,e3⟩:=z23.mp e1
   split at e3
   ·rename_i cnd
    cases e3
    rw[Qno e2] at rl
    obtain⟨v,rfl,r1⟩:=rl.one
    obtain⟨a,us,rfl,h3,h4⟩:=r1.inv
    have rlF:=I1.loL h4 (QdD ps)
    obtain⟨qs,rfl,pr⟩:=Qk3 h4
    have up:∀{q:Addr} {y:NP},PT1 C.K (jn F1 H1 fp1) q y->PT1 X.K H1 q y:=fun{q y} ⟨r,z1,z2⟩=>by
     have s:=Vn I1.fh (fp:=fp1)
     rw[← hK]
     exact⟨r,z1.imp (fun z=>z.imp (fun z=>s _ _ z) fun⟨o,z⟩=>⟨o,s _ _ z⟩) id,z2.imp (fun z=>z.imp (fun z=>s _ _ z) fun⟨o,z⟩=>⟨o,s _ _ z⟩) id⟩
    refine⟨a,qs,ps,rfl,?_,Paired.imp' (fun _ _ z=>up z) pr,cnd.1,cnd.2,fun l is hl pm pw=>?_⟩
    ·rw[← hK];exact(At.same h3 (Vn I1.fh)).sql
    ·have ilt:∀i∈is,i<ps.length:=fun i hi=>za4.mp (pm.mem_iff.mp hi)
     have eq:is.map (fun i=>ps.getD i (0,(0,0)))=Qh4 Vx ps:=by
      refine Qk0 QbT pw (Qha QbT cnd.1) ?_
      have z:=pm.map fun i=>ps.getD i (0,(0,0))
      rw[range_getD] at z
      exact z.trans (Vs ps).symm
     have rl':∀js:List Nat,(∀i∈js,i<ps.length)->RL C.K F1 ((js.map fun i=>qs.getD i 0).map L2.V.ref) ((js.map fun i=>ps.getD i (0,(0,0))).map npD):=by
      intro js
      induction js with
      |nil=>intro _;exact .nil
      |cons i js ih=>
       intro hj
       have hi:=hj i z07
       obtain⟨v,ev,rv⟩:=rlF.get (show(ps.map npD)[i]? = some (npD (ps.getD i (0,(0,0)))) by rw[z22,z04 hi,z14,z04 hi];rfl)
       have ev':v=.ref (qs.getD i 0):=by
        rw[z22] at ev
        obtain⟨q,eq,rfl⟩:=z03.mp ev
        rw[z14,eq];rfl
       subst ev'
       exact .cons rv (ih fun j h=>hj j (z08 _ h))
     have rr:=rl' is ilt
     rw[eq] at rr
     exact h2 _ _ _ _ (I1.newList hl rr (QdD _)) ((n1.trans (q:=true) ⟨Qu.refl _,fun _=>Qep I1 hl⟩).weak fun z=>by simp[z]) z54
   ·cases e3
  ·cases e1
def Qwt:List Key->Option (Int×Int)
 | [.inl a,.inl b]=>some (a,b)
 |_=>none
noncomputable def Qnq:List (List Key)->List D->Option (List PN)
 | [],[]=>some []
 |k::ks,.int n::ds=>(Qwt k).bind fun q=>(Qnq ks ds).map ((q,n)::·)
 |_,_=>none
def Qk4:D->Option (List PN)
 |.nd (.dT ks) ds=>Qnq ks ds
 |_=>none
def Qsi (m:ME):ME:=fun ρ=>(m ρ).bind fun r=>(Rs.of (Qk4 r.1)).bind fun ps=>if ps.length<=4000 then .ok (.lst ((Qh4 Qve ps).map pnD),r.2) else .no
end
end TL
namespace TL
open PySem PySem.Spec L2
section
variable {C:Cn}{rk:Kd}
theorem Qhd {P:Program}{w:World}{K:z00}{mg:Str->Option Value}{base:Heap}{k:Addr}{n:Nat}{x:Str}{ps:List Str}{io:List Bool}{f:List D->Fr}(D:Vy P w K mg base k n x ps (spF K io rk f))(hC:C.K=K):Vy P w K mg base k n x ps (spF C.K io rk f):=by rw[hC];exact D
theorem Qwu {P:Program}{w:World}{K:z00}{mg:Str->Option Value}{base:Heap}{k:Addr}{n:Nat}{x:Str}{ps:List Str}{f:Addr->D->Fr}(D:QbR P w K mg base k n x ps (spI K k f))(hC:C.K=K):QbR P w K mg base k n x ps (spI C.K k f):=by rw[hC];exact D
theorem hu3 {A:Around}{k:Nat}(hr:Qag k A):A.units+3<cLine:=by have:=hr.units;lia
theorem Qgj:z74 "sorted" = some (.builtin "sorted"):=by decide +kernel
end
def QuC (m:ME):MA:=fun ρ=>(m ρ).bind fun r=>(Rs.of (Qi5 [r.1])).bind fun ds=>if D.Jb ds=true then .ok (ds,r.2) else .no
def Qbb (tc:MT)(te:ME):List D->Rho->List D->Rs (List D×Rho)
 | [],ρ,acc=>.ok (acc,ρ)
 |d::ds,ρ,acc=>(Rs.of (Qjn 0 1 d ρ)).bind fun ρ0=>(tc ρ0).bind fun c=>if c.1=true then(te c.2).bind fun r=>if acc.length<z17 then Qbb tc te ds ((r.2.set 1 none).set 0 none) (acc++[r.1]) else .no
  else Qbb tc te ds ((c.2.set 1 none).set 0 none) acc
def Qex (par:Bool)(cs:List Cp)(mi:MA)(tc:MT)(te:ME):ME:=fun ρ=>(mi ρ).bind fun r=>(Rs.of (Qab par r.2 @19)).bind fun di=>(Rs.of (Qcj r.2 cs di)).bind fun ρb=>
 match Qbb tc te r.1 ρb [] with
 |.ok q=>(Rs.of (outs (ioB cs) q.2)).bind fun os=>.ok (.lst q.1,Vq par r.2 @19 os)
 |_=>.no
theorem Qo6 {X:Cx}{C:Cn}{F H:Hp}{σ:L2.St}{ρ ρ':Rho}{τ:List (L2.V×D)}{fp:List Addr}{x:L2.V}{d:D}(hK:C.K=X.K)(I:SI C F H σ ρ τ fp)(r:R X.K F x d)(h:Qjn 0 1 d ρ=some ρ') :
  ∃v1 v2 fp',SI C F H ((σ.set 0 (some v1)).set 1 (some v2)) ρ' τ fp'/\∀Q:L2.St->Hp->Prop,Q ((σ.set 0 (some v1)).set 1 (some v2)) H->QnO X.K 2 (Qck (Vl 0) (Qck (Vl 1) QnN)) x σ H Q:=by
 unfold Qjn at h
 split at h
 ·next a b=>
  rw[← hK] at r
  obtain⟨q,vs,rfl,h1,h2⟩:=r.inv
  obtain⟨v1,v2,rfl,r1,r2⟩:=h2.two
  obtain⟨ρ1,e1,e2⟩:=z23.mp h
  obtain⟨fp1,J1,s1⟩:=SI.Qam I r1 e1
  obtain⟨fp2,J2,s2⟩:=SI.Qam J1 r2 e2
  exact⟨v1,v2,fp2,J2,fun Q hq=>⟨q,[v1,v2],rfl,by rw[← hK];exact(At.same h1 I.fh).sqt,rfl,v1,[v2],rfl,v2,[],rfl,rfl,hq⟩⟩
 ·cases h
theorem ext2 {σ:L2.St}{y0 y1:Option L2.V}(h0:σ[0]? = some none)(h1:σ[1]? = some none):Ext σ ((σ.set 0 y0).set 1 y1):=by
 refine⟨by rw[z98,z98],fun i v e=>?_⟩
 have n0:i≠0:=fun z=>by subst z;rw[h0] at e;cases e
 have n1:i≠1:=fun z=>by subst z;rw[h1] at e;cases e
 rw[z60 (zb9 n1),z60 (zb9 n0)]
 exact e
theorem Qwv {C:Cn}{F H:Hp}{σ:L2.St}{ρ:Rho}{τ:List (L2.V×D)}{fp:List Addr}{v1 v2:L2.V}(I:SI C F H ((σ.set 0 (some v1)).set 1 (some v2)) ρ τ fp)(h0:σ[0]? = some none)(h1:σ[1]? = some none)(n0:∀v,(0,v)∉C.QgD)(n1:∀v,(1,v)∉C.QgD):∃fp',SI C F H σ ((ρ.set 1 none).set 0 none) τ fp':=by
 obtain⟨fp1,J⟩:=SI.clr (j:=1) (x:=v2) I (by rw[z60 @1];exact h1) n1
 exact SI.clr (j:=0) (x:=v1) J h0 n0
section
variable {X:Cx}{C:Cn}{E:XE}{p pa pc pe:Bool}{me:ME}{mt:MT}{mi:MA}{pos:Pos}{k rk:Kd}{elt iter:Expr}{x:Str}{ifs:List Expr}{scope:Scope}{N:List Str}{cs:List Cp}{par:Bool}
theorem QdE {tc:MT}{te:ME}:∀{ds:List D} {ρ:Rho} {acc:List D},Qbb tc te ds ρ acc=Qad (Qjn 0 1) (fun ρ=>(ρ.set 1 none).set 0 none) tc te ds ρ acc
 | [],ρ,acc=>rfl
 |d::ds,ρ,acc=>by
  unfold Qbb Qad
  congr 1;funext ρ0;congr 1;funext c
  split
  ·congr 1;funext r;split
   ·exact QdE
   ·rfl
  ·exact QdE
theorem Qmz {ρ:Rho}:Qex par cs mi mt me ρ=(mi ρ).bind (Qi8 par cs (Qjn 0 1) (fun ρ=>(ρ.set 1 none).set 0 none) mt me):=by
 unfold Qex Qi8
 simp only[QdE]<;>rfl
theorem Qo7 {σ:L2.St}(hj:cs[0]? = some .me)(hj1:cs[1]? = some .me):QtS X.K cs (Jw (cs.map Cp.ix) σ) (Qjn 0 1) (fun ρ=>(ρ.set 1 none).set 0 none) (QnO X.K 2 (Qck (Vl 0) (Qck (Vl 1) QnN))):=fun{Cb F H ρ ρ' τ fp x d} hK np I r e=>by
 have hb:∀k:Nat,cs[k]? = some Cp.me->(Jw (cs.map Cp.ix) σ)[k]? = some none:=fun k hk=>by
  unfold Jw
  rw[z22,z22,hk]
  rfl
 obtain⟨v1,v2,fp4,I4,gq⟩:=Qo6 (C:=Cb) hK I (by rw[← hK];exact r) e
 exact⟨_,fp4,I4,ext2 (hb 0 hj) (hb 1 hj1),gq,fun I3=>Qwv I3 (hb 0 hj) (hb 1 hj1) (np 0 hj) (np 1 hj1)⟩
theorem Qgk (hK:C.K=X.K)(hj:cs[0]? = some .me)(hj1:cs[1]? = some .me)(nd:(cs.filterMap Cp.is).Nodup)(hp:p=true->cs.filterMap Cp.is=[]){σ:L2.St}{H:Hp}{Q:VK}(h:tX .O C (pa && p) E (Qex par cs mi mt me) σ H Q):QfS (tI C pa E mi) (cs.map Cp.ix) (QnO X.K 2 (Qck (Vl 0) (Qck (Vl 1) QnN))) (exT X.K pc mt) (exX .O X.K pe me) σ H Q:=by
 obtain⟨F,ρ,τ,fp,I,h⟩:=h
 rw[Qmz] at h
 exact⟨F,ρ,τ,fp,I,h.split.mono fun r hr F1 H1 fp1 J I1 n1 it=>QhP hK nd hp (Qo7 hj hj1) I1 n1 (fun Cb h1 _ _ _=>⟨fun I s e=>h1▸it.go h1 I s e,fun I s=>it.stop h1 I s⟩) hr⟩
theorem QmA {tg:Expr}(hK:C.K=X.K)(hc:X.calm=true)(B:Blk X scope N (cs.map Cp.ix))(hj:cs[0]? = some .me)(hj1:cs[1]? = some .me)(hi:PI X tg iter (tI C pa E mi))(hg:∀pins c s H ex,PG (X.blk scope N pins c s H ex) tg (QnO X.K 2 (Qck (Vl 0) (Qck (Vl 1) QnN))))
  (ht:∀pins c s H ex,PIf (X.blk scope N pins c s H ex) ifs (exT X.K pc mt)) (he:∀pins c s H ex,PE (X.blk scope N pins c s H ex) elt (exX .O X.K pe me)) (nd:(cs.filterMap Cp.is).Nodup:=by decide) (hp:p=true->cs.filterMap Cp.is=[]:=by decide)
  (hs:∀x,foldedSetIterable iter X.env x=pure x:=by intro _;rfl):PE X (.ListComp elt [⟨tg,iter,ifs,0⟩] scope pos) (tX .O C (pa && p) E (Qex par cs mi mt me)):=
 Qp (Qhy hc B hi hg ht he hs) fun _ _ _ h=>Qgk hK hj hj1 nd hp h
theorem QmB {tg:Expr}{y:Str}{py spos:Pos}{i0:Nat}(hK:C.K=X.K)(hc:X.calm=true)(hXN:X.N.Nodup)(hi0:X.N[i0]? = some y)(hy:Loc X.env.scope y)(B:Blk X scope N (cs.map Cp.ix))(hj:cs[0]? = some .me)(hj1:cs[1]? = some .me)(hi:PI X tg iter (tI C pa E mi))(hg:∀pins c s H ex,PG (X.blk scope N pins c s H ex) tg (QnO X.K 2 (Qck (Vl 0) (Qck (Vl 1) QnN))))
  (ht:∀pins c s H ex,PIf (X.blk scope N pins c s H ex) ifs (exT X.K pc mt)) (he:∀pins c s H ex,PE (X.blk scope N pins c s H ex) elt (exX .O X.K pe me)) (nd:(cs.filterMap Cp.is).Nodup:=by decide)
  (hsw:swapsWith (.ListComp elt [⟨tg,iter,ifs,0⟩] scope pos) (some (.Name y py)) spos.line X.env=pure true:=by rfl)
  (hf:X.fn y=true\/X.env.scope.names.lookup y=some .local:=by first|exact .inl rfl|exact .inr rfl|assumption)
  (hs:∀x,foldedSetIterable iter X.env x=pure x:=by intro _;rfl):PS X (.Assign [.Name y py] (.ListComp elt [⟨tg,iter,ifs,0⟩] scope pos) spos) (tS rk C E (QoH i0 (Qex par cs mi mt me))):=
 Jl (QeX hc hXN hi0 hy B hi hg ht he hsw hf hs) fun D σ H h=>by
  have q:=Qg1 (p:=pa && false) h
  refine Qgk (p:=false) (par:=par) hK hj hj1 nd (fun z=>nomatch z) ?_
  obtain⟨F,ρ,τ,fp,I,r⟩:=q
  exact⟨F,ρ,τ,fp,I,r.mono fun a z F' H' fp' v I' n f=>by
   obtain⟨F2,rest,J,sf,rr,je⟩:=SI.freeze (show SI C F' H' σ a.2 ((v,a.1)::τ) fp' from I')
   exact z F2 H' rest v J ⟨n.f.trans sf,fun hp=>by rw[je];exact n.g hp⟩ rr⟩
end
noncomputable def Qk5:List (List Key)->List D->List Key->Option D
 |k::ks,d::ds,q=>if k=q then some d else Qk5 ks ds q
 |_,_,_=>none
theorem Qk6 {K:z00}{F:Hp}:∀{ks:List (List Key)} {vs:List L2.V} {ds:List D} {q:List Key},RL K F vs ds->(∀d,Qk5 ks ds q=some d->∃v,QiL (ks.zip vs) q=some v/\R K F v d)/\(Qk5 ks ds q=none->ks.length=vs.length->QiL (ks.zip vs) q=none)
 | [],_,_,q,h=>⟨(fun d e=>by cases h<;>cases e),fun _ _=>rfl⟩
 |k::ks,_,_,q,.nil=>⟨(fun d e=>by cases e),fun _ l=>by cases l⟩
 |k::ks,v::vs,d::ds,q,.cons r h=>by
  obtain⟨i1,i2⟩:=Qk6 (ks:=ks) (q:=q) h
  rw[z89]
  by_cases e:k=q
  ·subst e
   refine⟨fun d' e'=>?_,fun e'=>?_⟩
   ·rw[Qk5,if_pos rfl] at e';cases e'
    exact⟨v,QcZ rfl,r⟩
   ·rw[Qk5,if_pos rfl] at e';cases e'
  ·refine⟨fun d' e'=>?_,fun e' l=>?_⟩
   ·rw[Qk5,if_neg e] at e'
    rw[QbP e]
    exact i1 d' e'
   ·rw[Qk5,if_neg e] at e'
    rw[QbP e]
    exact i2 e' (by simpa using l)
noncomputable def Qs9:D->Option (List (List Key)×List D)
 |.nd (.dT ks) ds=>some (ks,ds)
 |_=>none
theorem Qk7 {d:D}{q:List (List Key)×List D}(h:Qs9 d=some q):d=.nd (.dT q.1) q.2:=by
 unfold Qs9 at h
 split at h
 ·cases h;rfl
 ·cases h
def QvB (q:List (List Key)×List D)(y x:D):Option D:=(Qrc y).bind fun k=>match Qk5 q.1 q.2 k with
 |some d=>if d.imm=true then some d else none
 |none=>some x
def QmC (md my mx:ME):ME:=fun ρ=>(md ρ).bind fun r1=>(Rs.of (Qs9 r1.1)).bind fun q=>(my r1.2).bind fun r2=>(mx r2.2).bind fun r3=>Rs.of ((QvB q r2.1 r3.1).map fun d=>(d,r3.2))
section
variable {X:Cx}{C:Cn}{E:XE}{pa:Bool}{o e f:Expr}{ma mb mc:ME}{apos cpos:Pos}{ka kb:Kd}
theorem Qk8 (hu:X.A.units+1<cLine)(ho:PE X o (tX ka C pa E ma))(he:PE X e (tX kb C true E mb))(hf:PE X f (tX .V C true E mc))(ok:ka.on true=true:=by rfl)(ok2:kb.on true=true:=by rfl)(m:M2 X o "get" apos e f cpos:=by exact⟨rfl,rfl,rfl,rfl⟩) :
  PE X (.Call (.Attribute o "get" apos) [e,f] [] cpos) (tX .V C pa E (QmC ma mb mc)):=Qp (QlT hu ho he hf m) fun σ H Q ⟨F,ρ,τ,fp,I,h⟩=>by
 refine⟨F,ρ,τ,fp,I,h.split.mono fun r1 h1 F1 H1 fp1 v1 I1 n1 f1=>?_⟩
 rw[Kd.Yn ok] at I1
 obtain⟨q,eq,h1⟩:=h1.split.of
 have g1:=Kd.stay ok f1 .refl I1
 rw[Qk7 eq] at g1
 obtain⟨a,us,rfl,at1,rl1⟩:=g1.inv
 refine⟨a,rfl,.inr ⟨q.1.zip us,.inl (Vn I1.fh _ _ at1.2)⟩,F1,r1.2,τ,fp1,I1,h1.split.mono fun r2 h2 F2 H2 fp2 v2 I2 n2 f2=>?_⟩
 rw[Kd.Yn ok2] at I2
 refine⟨F2,r2.2,τ,fp2,I2,h2.split.mono fun r3 h3 F3 H3 fp3 v3 I3 n3 f3=>?_⟩
 obtain⟨z,ez,h4⟩:=h3.of
 obtain⟨res,eg,rfl⟩:=z03.mp ez
 have n23:Nx true F1 H1 fp1 F3 H3 fp3:=n2.trans n3
 have gd:=Kd.stay ok f1 n23 I3
 rw[Qk7 eq] at gd
 have gy:=Kd.stay ok2 f2 n3 I3
 obtain⟨a',us',ea,at3,rl3⟩:=gd.inv
 cases ea
 obtain⟨k,ek,e2⟩:=z23.mp (show(Qrc r2.1).bind _=some res from eg)
 obtain⟨bb,rfl,hb⟩:=Qng gy ek
 have dg:=Qqf.t (Vn I3.fh _ _ at3.2) (Vn I3.fh _ _ hb)
 obtain⟨w1,w2⟩:=Qk6 (ks:=q.1) (q:=k) rl3
 refine⟨_,dg,?_⟩
 cases ev:Qk5 q.1 q.2 k with
 |some d=>
  rw[ev] at e2
  obtain⟨v,ev1,rv⟩:=w1 d ev
  rw[ev1]
  by_cases hi:d.imm=true
  ·have e2:(if d.imm=true then some d else none)=some res:=e2
   rw[if_pos hi] at e2
   cases e2
   have:=I3.loL (.cons rv .nil) (by show(D.imm _ && true)=true;rw[hi];rfl)
   cases this with
   |cons r _=>exact h4 F3 H3 fp3 v I3 ((n1.trans n23).weak fun z=>by simp[z]) r
  ·have e2:(if d.imm=true then some d else none)=some res:=e2
   rw[if_neg hi] at e2;cases e2
 |none=>
  rw[ev] at e2
  have e2:some r3.1=some res:=e2
  cases e2
  rw[w2 ev at3.1]
  exact h4 F3 H3 fp3 v3 I3 ((n1.trans n23).weak fun z=>by simp[z]) f3
end
end TL
namespace TL
open PySem PySem.Spec L2 PyProof.Rows
section
variable {m:ME}{mr:MA}
def Qsj (mr:MA):ME:=fun ρ=>(mr ρ).bind fun r=>(Rs.of (Qg3 r.1)).bind fun n=>if n.toNat<=2 ^ 24 then .ok (.lst (Qvv 0 n.toNat),r.2) else .no
def QuD (m:ME):ME:=fun ρ=>(m ρ).bind fun r=>(Rs.of (asL r.1)).bind fun xs=>if D.Jb xs.reverse=true then .ok (.lst xs.reverse,r.2) else .no
end
end TL
namespace TL
open PySem PySem.Spec L2
section
variable {X:Cx}{C:Cn}{E:XE}{p:Bool}{e o a:Expr}{es:List Expr}{mr:MA}{pos:Pos}{ks:List Kd}
def QmD (ks:List Kd)(mr:MA):ME:=fun ρ=>(mr ρ).bind fun r=>(Rs.of (Qaj ks r.1 r.2)).bind fun q=>if q.1.length<=z17 then .ok (.lst q.1,q.2) else .no
theorem Qo8 (h:PA X es (tA ks C p E mr)):PE X (.List es pos) (tX .O C false E (QmD ks mr)):=Qp (QjF h) fun σ H Q ⟨F,ρ,τ,fp,I,h⟩=>by
 refine⟨F,ρ,τ,fp,I,h.split.mono fun r1 h1 F1 H1 fp1 vs I1 n1 f1=>?_⟩
 obtain⟨q,eq,h2⟩:=h1.split.of
 obtain⟨f,rest,ol,pm,J,w1,w2⟩:=collect f1 I1 (show Qaj ks r1.1 r1.2=some (q.1,q.2) from eq)
 by_cases hz:q.1.length<=z17
 ·rw[if_pos hz] at h2
  refine⟨by rw[ol.length];exact hz,fun t ht=>?_⟩
  have J2:=J.lay0 (o:=.lst vs) ht
  have nd:=pm.nodup_iff.mp I1.nd
  have nt:∀a∈f,a≠t:=fun a ha=>by
   obtain⟨o,e,_⟩:=ol.mem a ha
   exact Qx e ht
  have ntr:t∉f++rest:=fun z=>by
   obtain⟨o,e,_⟩:=I1.mem t (pm.mem_iff.mpr z)
   rw[ht] at e;cases e
  have ol2:=ol.keep (Qu.refl F1) (H':=upd H1 t (.lst vs)) fun a ha=>Qk (nt a ha)
  exact h2 _ _ _ (.ref t) (J2.push (f:=t::f) (.mt (t:=.lst) Qs ol2) (fun a ha=>(z15.mp ha).elim (fun z=>by rw[z];exact I1.dm t ht) fun z=>w1 a z) (fun a ha=>(z15.mp ha).elim (fun z=>by rw[z];exact I1.fh.free ht) fun z=>w2 a z) (z72.mpr ⟨ntr,nd⟩)) ⟨n1.f,fun z=>nomatch z⟩ z54
 ·rw[if_neg hz] at h2;exact h2.elim
end
section
variable {X:Cx}{C:Cn}{E:XE}{pa pb:Bool}{a b:Expr}{ma mb:ME}{pos:Pos}{kb:Kd}
def QuE (ma mb:ME):ME:=fun ρ=>(ma ρ).bind fun r1=>(mb r1.2).bind fun r2=>(Rs.of (asL r1.1)).bind fun ds=>(Rs.of (asI r2.1)).bind fun i=>Rs.of ((atI ds i).map fun d=>(d,r2.2))
theorem Qsk (hK:C.K=X.K)(ha:PE X a (tX .O C pa E ma))(hb:PE X b (tX kb C pb E mb))(ok2:kb.on true=true:=by rfl)(hs:QeR b:=by intro _ _;rfl):PE X (.Subscript a b pos) (tX .O C false E (QuE ma mb)):=Qp (QiM QjN ha hb hs) fun σ H Q ⟨F,ρ,τ,fp,I,h⟩=>by
 refine⟨F,ρ,τ,fp,I,h.split.mono fun r1 h1 F1 H1 fp1 v1 I1 n1 f1=>?_⟩
 refine⟨F1,r1.2,(v1,r1.1)::τ,fp1,I1,h1.split.mono fun r2 h2 F2 H2 fp2 v2 I2 n2 f2=>?_⟩
 rw[Kd.Yn ok2] at I2
 obtain⟨ds,e1,h3⟩:=h2.split.of
 obtain⟨i,e2,h4⟩:=h3.split.of
 obtain⟨z,ez,h5⟩:=h4.of
 obtain⟨x,ex,rfl⟩:=z03.mp ez
 have g2:R C.K (jn F2 H2 fp2) v2 (.int i):=by rw[← Qgc e2];exact Kd.stay ok2 f2 .refl I2
 obtain rfl:=g2.QK (w:=.int i) rfl
 obtain⟨f,rest,o,pp,J,h0,ap,nd⟩:=I2.pop
 rw[QbW e1] at o
 obtain⟨l,vs,g,rfl,rfl,hH,ol⟩:=O.QhU o
 unfold atI at ex
 cases q:ixN ds.length i with
 |none=>rw[q] at ex;cases ex
 |some j=>
  rw[q] at ex
  have ej:ds[j]? = some x:=ex
  obtain⟨f1,fj,f2,v,d,rfl,ev,ed,od,_⟩:=ol.setAt (z25.mp ej).1
  rw[ej] at ed
  cases ed
  have ew:atI vs i=some v:=by unfold atI;rw[ol.length,q];exact ev
  have mm:∀a∈fj,a∈l::(f1++(fj++f2)):=fun a ha=>by simp[ha]
  refine .inl ⟨l,vs,i,v,rfl,rfl,.inl (.inl hH),ew,h5 F2 H2 (fj++rest) v (J.push od (fun a ha=>h0 a (mm a ha)) (fun a ha=>ap a (mm a ha)) ?_) ⟨n1.f.trans n2.f,fun z=>nomatch z⟩ z54⟩
  obtain⟨n3,n4,n5⟩:=z09.mp nd
  have n6:=(z09.mp (z09.mp (z72.mp n3).2).2.1).1
  exact z09.mpr ⟨n6,n4,fun a ha b hb=>n5 a (mm a ha) b hb⟩
end
section
variable {P:Program}{w:World}{K:z00}{mg:Str->Option Value}{base:Heap}{x qual:Str}{st:Stmt}{f:Addr}{fd:FuncData}{N ps:List Str}{k:Nat}
theorem fnU {io:List Bool}{rk:Kd}{mb:MS}(Fn:Fun K x qual st f fd)(S:Qbp N ps (QL st))(hio:io.length=ps.length)(hrk:rk=.V\/rk=.O)
  (hbody:∀{cdv:Value} {A:Around} {outer:List Env} {s:Shared} {H:Hp} {E:XK} {C:Cn},C.K=K->Qag k (A.deeper (zd2 qual (QL st) s.heap.objs.size f cdv))->A.handled=none->N.Nodup->PassesOwn (model P w) (A.deeper (zd2 qual (QL st) s.heap.objs.size f cdv)) (zd2 qual (QL st) s.heap.objs.size f cdv) (Qci (CXe P w) P w K mg base N qual (QL st) f cdv A outer s H E).xe->
   PSs (Qci (CXe P w) P w K mg base N qual (QL st) f cdv A outer s H E) (Y5 st) (tS rk C (fun _=>E) mb)):Qeh P w K mg base (CXe P w) (k+1) f fd ps (spF K io rk (JN io N.length mb)):=
 fnT Fn S hio hrk fun _ _ _ _ _ _ _ hC hr hd=>hbody hC hr hd S.nd Qu7
end
section
variable {X:Cx}{C:Cn}
def Qd9 (K:z00):List D->Option D
 | [.nd (.exc c) [],.cls C]=>(z40 K (.ref c) (.ref C)).bind fun b=>if b=true\/JB K c=true then some (.bl b) else none
 | [.nd (.exc c) [],.ty n]=>(z40 K (.ref c) (.type n)).bind fun b=>if b=true\/JB K c=true then some (.bl b) else none
 |_=>none
theorem QdF:z74 "ValueError" = some (.type "ValueError"):=by decide +kernel
theorem Qjc (hK:C.K=X.K):CallD C.K (QqH X.K) (Qd9 X.K):=fun H vs ds res r eg=>by
 unfold Qd9 at eg
 split at eg
 ·next c C'=>
  obtain⟨v,u,rfl,h1,h2⟩:=r.two
  obtain⟨a,us,rfl,g1,g2⟩:=h1.inv
  obtain rfl:=h2.QK (w:=.ref C') rfl
  obtain⟨b,eb,e2⟩:=z23.mp eg
  split at e2
  ·next k=>
   cases e2
   exact⟨_,rfl,fun Q hq=>⟨a,c,_,_,b,rfl,rfl,g1.2,eb,fun z=>k.resolve_left (by rw[z];decide),hq⟩⟩
  ·cases e2
 ·next c n=>
  obtain⟨v,u,rfl,h1,h2⟩:=r.two
  obtain⟨a,us,rfl,g1,g2⟩:=h1.inv
  obtain rfl:=h2.QK (w:=.ty n) rfl
  obtain⟨b,eb,e2⟩:=z23.mp eg
  split at e2
  ·next k=>
   cases e2
   exact⟨_,rfl,fun Q hq=>⟨a,c,_,_,b,rfl,rfl,g1.2,eb,fun z=>k.resolve_left (by rw[z];decide),hq⟩⟩
  ·cases e2
 ·cases eg
end
section
variable {X:Cx}{C:Cn}{E:XE}{k:Kd}{ks:List Kd}{pa pb:Bool}{m:ME}{mr:MA}{es:List Expr}{p:Pos}
theorem YQ {c:Const}{j:Nat}(ha:PE X (.Constant c j p) (tX k C pa E m))(hr:PA X es (tA ks C pb E mr))(ok:k.ona pb=true:=by rfl):PA X (.Constant c j p::es) (tA (k::ks) C (pa && pb) E (Q7 m mr)):=Qa ha hr ok rfl
theorem Qo9 {l:List Expr}(ha:PE X (.List l p) (tX k C pa E m))(hr:PA X es (tA ks C pb E mr))(ok:k.ona pb=true:=by rfl):PA X (.List l p::es) (tA (k::ks) C (pa && pb) E (Q7 m mr)):=Qa ha hr ok rfl
theorem QdG {l:List Expr}{j:Nat}(ha:PE X (.Tuple l j p) (tX k C pa E m))(hr:PA X es (tA ks C pb E mr))(ok:k.ona pb=true:=by rfl):PA X (.Tuple l j p::es) (tA (k::ks) C (pa && pb) E (Q7 m mr)):=Qa ha hr ok rfl
theorem Qfk {a b:Expr}{o:Operator}(ha:PE X (.BinOp a o b p) (tX k C pa E m))(hr:PA X es (tA ks C pb E mr))(ok:k.ona pb=true:=by rfl):PA X (.BinOp a o b p::es) (tA (k::ks) C (pa && pb) E (Q7 m mr)):=Qa ha hr ok rfl
theorem QvC {a:Expr}{o:UnaryOp}(ha:PE X (.UnaryOp o a p) (tX k C pa E m))(hr:PA X es (tA ks C pb E mr))(ok:k.ona pb=true:=by rfl):PA X (.UnaryOp o a p::es) (tA (k::ks) C (pa && pb) E (Q7 m mr)):=Qa ha hr ok rfl
section
variable {x:Str}{np sp1 sp2 bp:Pos}{ixa ixb a b:Expr}{n:Nat}
theorem QuF:swapsWithSole [.Subscript (.Subscript (.Name x np) ixa sp1) ixb sp2] (.Subscript a b bp) n X.env=pure false:=by rfl
theorem QuG:swappedStores [.Subscript (.Subscript (.Name x np) ixa sp1) ixb sp2] (.Subscript a b bp) X.env=pure none:=by rfl
end
theorem Qsl {rk:Kd}{K:z00}{body:List Stmt}{h₀:ExceptHandler}{hr:List ExceptHandler}{ms:MS}{hs:List (Addr×Nat×MS)}(eK:X.K=K)(hK:C.K=X.K)(d:Qco X)(ph:PHA X (h₀::hr) (hdl rk C hs))
  (hb:∀C':Cn,C'.K=X.K->∀(E:XE) (pins:List @11) (D:Ends),Qa8 (X.Qog (h₀::hr) pins D) E->PSs (X.Qog (h₀::hr) pins D) body (tS rk C' E ms)):PS X (.Try body (h₀::hr) [] [] p) (tS rk C E (Qs5 K ms hs)):=eK▸Qt8 hK d ph hb
end
structure Y where
 P:Program
 w:World
 mg:Str->Option Value
 base:Heap
abbrev Df (K:z00)(Cy:Y->Prop)(nm q:Str)(st:Stmt)(lv:Nat)(ps:List Str)(io:List Bool)(rk:Kd)(n:Nat)(Hy:Y->Prop->Prop):Type:=
 {m:MS // ∀{y:Y} {f:Addr} {fd:FuncData},Cy y->Fun K nm q st f fd->Hy y (Qeh y.P y.w K y.mg y.base (CXe y.P y.w) lv f fd ps (spF K io rk (JN io n m)))}
abbrev Dg (K:z00)(Cy:Y->Prop)(nm:Str)(st:Stmt)(lv:Nat)(ps:List Str)(io:List Bool)(rk:Kd)(n:Nat)(Hy:Y->Prop->Prop):Type:=Df K Cy nm nm st lv ps io rk n Hy
abbrev Di (K:z00)(Cy:Y->Prop)(q:Str)(c:Addr)(st:Stmt)(lv:Nat)(ps:List Str)(n:Nat)(fl:Str)(Hy:Y->Prop->Prop):Type:=
 {m:ME // ∀{y:Y} {f:Addr} {fd:FuncData},Cy y->Fun K "__init__" q st f fd->Hy y (Qeh y.P y.w K y.mg y.base (CXe y.P y.w) lv f fd ps (spI K c (QpL c n fl m)))}
section
variable {K:z00}{Cy:Y->Prop}{nm q:Str}{st:Stmt}{lv:Nat}{ps:List Str}{io:List Bool}{rk:Kd}{n:Nat}{Hy:Y->Prop->Prop}{c:Addr}{fl:Str}
def dfn (d:Df K Cy nm q st lv ps io rk n Hy):List D->Fr:=JN io n d.1
def din (d:Di K Cy q c st lv ps n fl Hy):Addr->D->Fr:=QpL c n fl d.1
abbrev Tf (K:z00)(y:Y)(lv:Nat)(nm:Str)(ps:List Str)(io:List Bool)(rk:Kd)(f:List D->Fr):Prop:=Qcq y.P y.w K y.mg y.base lv nm ps (spF K io rk f)
abbrev Tm (K:z00)(y:Y)(c:Addr)(lv:Nat)(nm:Str)(ps:List Str)(io:List Bool)(rk:Kd)(f:List D->Fr):Prop:=Vy y.P y.w K y.mg y.base c lv nm ps (spF K io rk f)
abbrev Ti (K:z00)(y:Y)(c:Addr)(lv:Nat)(nm:Str)(ps:List Str)(f:Addr->D->Fr):Prop:=QbR y.P y.w K y.mg y.base c lv nm ps (spI K c f)
def Nf (K:z00)(nm q:Str)(st:Stmt):Prop:=∃f fd,z61 K z38 nm=some (some (.ref f))/\Fun K nm q st f fd
def Nm (K:z00)(c:Addr)(nm q:Str)(st:Stmt):Prop:=∃f fd,z51 K (.ref c) nm=some (some (.ref f))/\zm1 K (.ref f)=true/\Fun K nm q st f fd
abbrev Bn (K:z00)(nm q:Str)(st:Stmt)(ps:List Str):Prop:=∀(kV doc pm:Value) (an:Option Addr) (cdv ct:Value) (us:List Value),us.length=ps.length->bindArgs (ze4 nm q (Qcl st) (Y5 st) (QL st) .none kV doc pm an cdv ct) ⟨us,[]⟩=pure (ps.zip us)
variable {y:Y}{h:Heap}
theorem Qae (X:K.In h)(G:h.Ns z38 y.mg)(c:Cy y)(a:Nf K nm q st)(d:Df K Cy nm q st lv ps io rk n Hy)(b:Bn K nm q st ps)(g:∀R,Hy y R->R):Tf K y lv nm ps io rk (dfn d):=
 let ⟨f,fd,e,F⟩:=a;⟨f,fd,g _ (d.2 c F),za1 X G e,F.kp,F.binds b⟩
theorem QmE {C:Addr}(c:Cy y)(a:Nm K C nm q st)(d:Df K Cy nm q st lv ps io rk n Hy)(b:Bn K nm q st ps)(g:∀R,Hy y R->R):Tm K y C lv nm ps io rk (dfn d):=
 let ⟨f,fd,e,i,F⟩:=a;⟨f,fd,g _ (d.2 c F),⟨e,i,F.kp⟩,F.binds b⟩
theorem Qww {x:Str}{C:Addr}(X:K.In h)(G:h.Ns z38 y.mg)(c:Cy y)(a:Nm K C "__init__" q st)(mk:zi9 K C=true)(kc:zd9 K (.ref C)=true)(ge:z61 K z38 x=some (some (.ref C)))(d:Di K Cy q C st lv ps n fl Hy)(b:Bn K "__init__" q st ps)(g:∀R,Hy y R->R):Ti K y C lv x ps (din d):=
 let ⟨f,fd,e,i,F⟩:=a;⟨f,fd,g _ (d.2 c F),⟨mk,e,i,kc⟩,za1 X G ge,F.binds b⟩
end
theorem ar0 {P:List Value->Prop}(h:P []):∀us,us.length=0->P us:=fun us e=>by rw[List.length_eq_zero_iff.mp e];exact h
theorem arS {n:Nat}{P:List Value->Prop}(h:∀a us,us.length=n->P (a::us)):∀us,us.length=n+1->P us:=fun us e=>by cases us with
 |nil=>cases e
 |cons a us=>exact h a us (Nat.succ.inj e)
theorem ar1 {P:List Value->Prop}(h:∀a0,P [a0]):∀us,us.length=1->P us:=arS fun a=>ar0 (h a)
theorem ar2 {P:List Value->Prop}(h:∀a0 a1,P [a0,a1]):∀us,us.length=2->P us:=arS fun a=>ar1 (h a)
theorem ar3 {P:List Value->Prop}(h:∀a0 a1 a2,P [a0,a1,a2]):∀us,us.length=3->P us:=arS fun a=>ar2 (h a)
theorem ar4 {P:List Value->Prop}(h:∀a0 a1 a2 a3,P [a0,a1,a2,a3]):∀us,us.length=4->P us:=arS fun a=>ar3 (h a)
def Qk9 (K:z00):Sp:=fun vs H Q _=>∃(a:Addr) (ns:List Int),vs=[.ref a]/\SqL K H a (ns.map V.int)/\∀H',Q (.bl true) H'
theorem Qla {K:z00}{F:Hp}:∀(ns:List Int),RL K F (ns.map V.int) (ns.map D.int)
 | []=>.nil
 |a::l=>.cons (.sc rfl) (Qla l)
theorem Qsm {K:z00}{f:List D->Fr}(e:∀ns:List Int,f [.lst (ns.map .int)]=.ok (.bl true) [])(vs:List L2.V)(H:Hp)(Q:VK)(E:XK)(h:Qk9 K vs H Q E):spF K [false] .V f vs H Q E:=by
 obtain⟨a,ns,rfl,hs,hq⟩:=h
 refine⟨H,[.lst (ns.map .int)],[],.val (.nd (t:=.lst) hs (Qla ns)) .nil,zg2,@2,Qu.refl H,?_⟩
 rw[e ns]
 intro F' H' v fr fo _ _ _ _ _ r _ _ _ _ _
 obtain rfl:=r.1.QK (w:=.bl true) rfl
 exact hq H'
theorem Qsn {l:zj0}{w:World}{K:z00}{h:Heap}{mg:Str->Option Value}{fa:Addr}{st:Stmt}{lv n:Nat}{Cy:Y->Prop}{Hy:Y->Prop->Prop}(X:K.In h)(G:h.Ns z38 mg)(hfa:mg "law" = some (.ref fa))(a:Nf K "law" "law" st)(d:Df K Cy "law" "law" st lv ["_law_script"] [false] .V n Hy)
  (c:∀base,Cy ⟨l.prog,w,mg,base⟩) (g:∀base R,Hy ⟨l.prog,w,mg,base⟩ R->R) (e:∀ns:List Int,dfn d [.lst (ns.map .int)]=.ok (.bl true) []) (b:∀(kV dc pm:Value) (an:Option Addr) (cd ct:Value) (s:Shared) (v:Value),BindsTo s (ze4 "law" "law" (Qcl st) (Y5 st) (QL st) .none kV dc pm an cd ct) ⟨[v],[]⟩ [("_law_script",v)]) :
  ∃fd:FuncData,(∀(s:Shared) (v:Value),BindsTo s fd ⟨[v],[]⟩ [("_law_script",v)])/\∀base:Heap,K.In base->base.Ns z38 mg->Qeh l.prog w K mg base (CXe l.prog w) lv fa fd ["_law_script"] (Qk9 K):=by
 obtain⟨f,fd,e1,F⟩:=a
 cases hfa.symm.trans (za1 X G e1)
 obtain⟨_,_,kV,dc,pm,an,cd,ct,_,rfl,_⟩:=F.ex
 exact⟨_,b kV dc pm an cd ct,fun base _ _=>(g base _ (d.2 (c base) F)).imp fun vs H Q E hh=>Qsm e vs H Q E hh⟩
theorem walk {l:zj0}{q:Program}{loose:List Str}{XP:(Str->Option Value)->Heap->Prop}{YP:World->Heap->Prop}{d:DefRec}{K:Params->z00}{k:Nat}(hr:Qag k callerA)(hn:l.most=some 63)(hdf:d.params.defaults=[])
  (hY:∀(w:World) (h:Heap),YP w h->(K w.params).In h)
  (F:∀(w:World) (mg:Str->Option Value) (fa:Addr) (h:Heap),(K w.params).In h->h.Ns z38 mg->mg d.name=some (.ref fa)->
   ∃fd:FuncData,(∀(s:Shared) (u:Value),BindsTo s fd ⟨[u],[]⟩ [("_law_script",u)])/\∀base:Heap,(K w.params).In base->base.Ns z38 mg->Qeh l.prog w (K w.params) mg base (CXe l.prog w) k fa fd ["_law_script"] (Qk9 (K w.params))) :
  PySem.W.WalkO q loose XP YP l.row.toRowW d [] (fun f vs=>zw2 f vs):=
 L2.Qob (n:=63) (k:=k) (x := "_law_script") (CX:=fun w=>CXe l.prog w) (sp:=fun w=>Qk9 (K w.params)) hn @1 hdf hr hY F (fun _ _ a ns hl _ hS=>⟨a,ns,rfl,hS,fun _=>rfl⟩) fun _ _ _ _ _ ⟨_,_,_,_,_,_,_,_,_,z⟩=>z
end TL
namespace TL
open PySem PySem.Spec L2 L2.Srt
section
variable {s:Option Sl}{ρ ρ1 ρ2:Rho}{k:D×Rho->Prop}{kf:Fl×Rho->Prop}{a b m:ME}{mt:MT}{mr:MA}{mb:MS}{d x y:D}{xs ys:List D}{i:Nat}{c:Bool}
theorem JH {α:Type}{r:Rs α}{x:α}:W r (fun a=>a=x)↔r=.ok x:=⟨fun⟨a,e,h⟩=>by rw[e,h],fun h=>⟨x,h,rfl⟩⟩
theorem Jz {r:Fr}{d:D}{os:List D}(h:FW r fun a b=>a=d/\b=os):r=.ok d os:=by obtain⟨a,b,e,rfl,rfl⟩:=h;exact e
theorem Qso:W (Qkd m (s::ρ)) kf↔W (m (s::ρ)) fun r=>kf (.nx,r.2):=by
 show W ((m (s::ρ)).bind fun r=>.ok (.nx,r.2)) kf↔_
 simp only[Qi,Q5]
def nvK (r:D×Rho):Rs (D×Rho):=Rs.of ((asB r.1).map fun b=>(.bl (!b),r.2))
theorem Qsp:nvK (.bl c,ρ)=.ok (.bl (!c),ρ):=rfl
theorem Qsq:W (QqU m (s::ρ)) k↔W (m (s::ρ)) fun r=>W (nvK r) k:=Qi
theorem QuH {tg:D->Rho->Option Rho}:W (Qvy tg m (s::ρ)) kf↔W (m (s::ρ)) fun r=>W (Rs.of (tg r.1 r.2)) fun ρ'=>kf (.nx,ρ'):=by
 show W ((m (s::ρ)).bind fun r=>(Rs.of (tg r.1 r.2)).bind fun ρ'=>.ok (.nx,ρ')) kf↔_
 simp only[Qi,Q5]
theorem Qpa {i j:Nat}:Qjn i j (.nd .tup [x,y]) ρ=(Qam ρ i x).bind fun ρ1=>Qam ρ1 j y:=rfl
def QvD (k:Addr)(nm:Str)(r:D×Rho):Rs (D×Rho):=if Qgg k nm r.1=true then .ok r else .no
theorem Qpb {a:Addr}{nm:Str}:QvD a nm (d,ρ)=if Qgg a nm d=true then .ok (d,ρ) else .no:=rfl
theorem QuI {a:Addr}{nm:Str}:W (Qsd a nm m (s::ρ)) k↔W (m (s::ρ)) fun r=>W (QvD a nm r) k:=Qi
theorem Qsr {a:Addr}{f:Str}:Qsb a f (.nd (.ins a [f]) [d])=some d:=by
 show(if a=a then QkR [f] [d] f else none)=_
 rw[if_pos rfl]
 show(if(f == f)=true then some d else _)=_
 rw[if_pos @9]
theorem QuJ {par:Bool}(hi:ρ[i]? = some (some (mkS par (.lst (xs++[d])))))(hm:D.Jb (xs++[d])=true)(h:k (d,ρ.set i (some (mkS par (.lst xs))))):W (Quw i ρ) k:=by
 have e1:Qax ρ i=some (par,xs++[d]):=by unfold Qax;rw[hi];cases par<;>rfl
 refine⟨_,?_,h⟩
 unfold Quw
 rw[e1]
 show((Rs.of ((xs++[d])[(xs++[d]).length - 1]?)).bind fun y=>if D.Jb (xs++[d])=true then .ok (y,ρ.set i (some (mkS par (.lst (xs++[d]).dropLast)))) else .no)=_
 have e2:(xs++[d])[(xs++[d]).length - 1]? = some d:=by simp
 rw[e2]
 show(if D.Jb (xs++[d])=true then Rs.ok (d,ρ.set i (some (mkS par (.lst (xs++[d]).dropLast)))) else .no)=_
 rw[if_pos hm,List.dropLast_concat]
theorem QuK {par:Bool}{n:Int}(hi:ρ[i]? = some (some (mkS par (.lst xs))))(hr:mr ρ=.ok ([.int n,d],ρ))(h0:0<=n)(h1:n<=xs.length)(h2:xs.length<z17)(hm:(D.Jb xs && d.imm)=true)(h:kf (.nx,ρ.set i (some (mkS par (.lst (xs.take n.toNat++d::xs.drop n.toNat)))))):W (Qs8 i mr ρ) kf:=by
 have e1:Qax ρ i=some (par,xs):=by unfold Qax;rw[hi];cases par<;>rfl
 refine⟨_,?_,h⟩
 unfold Qs8
 rw[e1,hr]
 show((Rs.of (Qax ρ i)).bind fun q=>if 0<=n/\n<=q.2.length/\q.2.length<z17/\(D.Jb q.2 && d.imm)=true then Rs.ok (Fl.nx,ρ.set i (some (mkS q.1 (.lst (q.2.take n.toNat++d::q.2.drop n.toNat))))) else .no)=_
 rw[e1]
 show(if 0<=n/\n<=xs.length/\xs.length<z17/\(D.Jb xs && d.imm)=true then Rs.ok (Fl.nx,ρ.set i (some (mkS par (.lst (xs.take n.toNat++d::xs.drop n.toNat))))) else .no)=_
 rw[if_pos ⟨h0,h1,h2,hm⟩]
theorem Qh5 {par:Bool}{n j:Int}{mi mj:ME}{p q:Nat}{ρ1:Rho}(hi:ρ1[i]? = some (some (mkS par (.lst ys))))(hv:m ρ=.ok (d,ρ1))(h1:mi ρ1=.ok (.int n,ρ1))(h2:mj ρ1=.ok (.int j,ρ1))(e1:ixN ys.length n=some p)(e2:ys[p]? = some (.lst xs))(e3:ixN xs.length j=some q)
  (h:kf (.nx,ρ1.set i (some (mkS par (.lst (ys.set p (.lst (xs.set q d)))))))):W (Qfd i m mi mj ρ) kf:=by
 have el:Qax ρ1 i=some (par,ys):=by unfold Qax;rw[hi];cases par<;>rfl
 refine⟨_,?_,h⟩
 unfold Qfd
 simp only[hv,h1,h2,el,e1,e2,e3,Rs.bind,Rs.of,asI,asL,ze3]
theorem Qh6 {par:Bool}{n j:Int}{mi mj:ME}{p q:Nat}(hi:ρ[i]? = some (some (mkS par (.lst ys))))(hv:m ρ=.ok (d,ρ))(h1:mi ρ=.ok (.int n,ρ))(h2:mj ρ=.ok (.int j,ρ))(e1:ixN ys.length n=some p)(e2:ys[p]? = some (.lst xs))(e3:ixN xs.length j=some q)
  (h:kf (.nx,ρ.set i (some (mkS par (.lst (ys.set p (.lst (xs.set q d)))))))):W (Qfd i m mi mj ρ) kf:=Qh5 hi hv h1 h2 e1 e2 e3 h
theorem Qlb {N n:Nat}(Inv:Nat->Rho->Prop)(step:∀n ρ,Inv n ρ->W (mt ρ) fun c=>(c.1=true->W (mb c.2) fun r=>r.1=.nx/\∃n',n' < n/\Inv n' r.2)/\(c.1=false->kf (.nx,c.2)))(h:Inv n ρ)(hn:n<N):W (Qm8 N mt mb ρ) kf:=by
 show W (whl mt mb N ρ) kf
 induction N generalizing n ρ with
 |zero=>lia
 |succ N ih=>
  obtain⟨⟨c,ρ1⟩,e,h1,h2⟩:=step n ρ h
  unfold whl
  rw[e]
  show W (if c=true then _ else _) kf
  cases c with
  |false=>rw[if_neg @1];exact Q5.mpr (h2 rfl)
  |true=>
   rw[if_pos rfl]
   obtain⟨⟨f,ρ2⟩,e2,e3,n',hn',hi⟩:=h1 rfl
   have e3:f=.nx:=e3
   subst e3
   rw[e2]
   exact ih hi @0
theorem QuL {a:Addr}{f:Addr->D->Fr}(h:mr ρ=.ok ([x],ρ1))(hf:∀y,f y x=.ok d [])(hi:(Qjb a d && d.imm)=true):Qs6 a f mr ρ=.ok (d,ρ1):=by
 unfold Qs6;rw[h]
 show(match Qnl f x with|.ok i _=>_|.ex c=>_|.no=>_)=_
 rw[Qo0 hf]
 show(if(Qjb a d && d.imm)=true then Rs.ok (d,ρ1) else .no)=_
 rw[if_pos hi]
def Qwx (r:D×Rho):Rs (D×Rho):=(Rs.of (Qk4 r.1)).bind fun ps=>if ps.length<=4000 then .ok (.lst ((Qh4 Qve ps).map pnD),r.2) else .no
theorem Qpc:W (Qsi m (s::ρ)) k↔W (m (s::ρ)) fun r=>W (Qwx r) k:=Qi
def QvE (r:List D×Rho):Rs (D×Rho):=(Rs.of (Qhc r.1)).bind fun ps=>.ok (.lst (ps.map npD),r.2)
theorem Qpd:W (Qnp mr (s::ρ)) k↔W (mr (s::ρ)) fun r=>W (QvE r) k:=Qi
theorem Qpe {ps:List NP}(h:ps.Nodup)(hl:ps.length<=4000):QvE ([.lst (ps.map npD)],ρ)=.ok (.lst ((Qh4 Vx ps).map npD),ρ):=by
 show(Rs.of ((npL (ps.map npD)).bind fun ps=>if ps.Nodup/\ps.length<=4000 then some (Qh4 Vx ps) else none)).bind _=_
 rw[Qk1]
 show(Rs.of (if ps.Nodup/\ps.length<=4000 then some (Qh4 Vx ps) else none)).bind _=_
 rw[if_pos ⟨h,hl⟩];rfl
end
def sbK (r:D×Rho):Rs (List D×Rho):=(Rs.of (Qi5 [r.1])).bind fun ds=>if D.Jb ds=true then .ok (ds,r.2) else .no
theorem Qss {m:ME}{s:Option Sl}{ρ:Rho}{ka:List D×Rho->Prop}:W (QuC m (s::ρ)) ka↔W (m (s::ρ)) fun r=>W (sbK r) ka:=Qi
theorem Qwy {xs:List D}{i:Int}:gIx (.nd .lst xs) (.int i)=atI xs i:=rfl
theorem Qwz {xs:List D}{i:Int}:gIx (.nd .tup xs) (.int i)=atI xs i:=rfl
theorem QuM {xs:List D}:YS [.nd .lst xs]=some (.int xs.length):=rfl
theorem QuN {xs:List D}:YS [.nd .tup xs]=some (.int xs.length):=rfl
def atL (L:List @17)(p:Int×Int):Int:=(L.getD p.1.toNat []).getD p.2.toNat 0
def Qjp (L:List @17)(p:Int×Int)(v:Int):List @17:=L.set p.1.toNat ((L.getD p.1.toNat []).set p.2.toNat v)
structure Rc (h w:Nat)(L:List @17):Prop where
 hi:L.length=h
 wi:∀r∈L,r.length=w
def inR (h w:Nat)(p:Int×Int):Prop:=0<=p.1/\p.1<h/\0<=p.2/\p.2<w
instance {h w:Nat} {p:Int×Int}:Decidable (inR h w p):=inferInstanceAs (Decidable (_/\_/\_/\_))
def rwI (r:List Int):D:=.lst (r.map .int)
def rD (L:List @17):D:=.lst (L.map rwI)
def tuI (r:List Int):D:=.tup (r.map .int)
def tuD (L:List @17):D:=.tup (L.map tuI)
theorem QcE {n:Nat}{i:Int}(h0:0<=i)(h1:i<n):ixN n i=some i.toNat:=by
 unfold ixN
 simp only[h0,h1]
 simp
theorem Qay {α:Type}(f:α->D)(d:α){xs:List α}{i:Int}(h0:0<=i)(h1:i<xs.length):atI (xs.map f) i=some (f (xs.getD i.toNat d)):=by
 unfold atI
 rw[z01,QcE h0 h1]
 show(xs.map f)[i.toNat]? = _
 have:i.toNat<xs.length:=by lia
 rw[z22,z04 this,z14,z04 this];rfl
theorem Rc.row {h w:Nat}{L:List @17}(r:Rc h w L){i:Int}(h0:0<=i)(h1:i<h):(L.getD i.toNat []).length=w:=by
 have:i.toNat<L.length:=by rw[r.hi];lia
 rw[z14,z04 this]
 exact r.wi _ (z99 this)
theorem Vt {h w:Nat}{L:List @17}(r:Rc h w L){i:Int}(h0:0<=i)(h1:i<h):gIx (rD L) (.int i)=some (rwI (L.getD i.toNat [])):=Qay rwI [] h0 (by rw[r.hi];exact h1)
theorem Qpf {h w:Nat}{L:List @17}(r:Rc h w L){i:Int}(h0:0<=i)(h1:i<h):gIx (tuD L) (.int i)=some (tuI (L.getD i.toNat [])):=Qay tuI [] h0 (by rw[r.hi];exact h1)
theorem QuO {l:List Int}{j:Int}(h0:0<=j)(h1:j<l.length):gIx (rwI l) (.int j)=some (.int (l.getD j.toNat 0)):=Qay D.int 0 h0 h1
theorem QuP {l:List Int}{j:Int}(h0:0<=j)(h1:j<l.length):gIx (tuI l) (.int j)=some (.int (l.getD j.toNat 0)):=Qay D.int 0 h0 h1
theorem Qea {h w:Nat}{L:List @17}(r:Rc h w L){p:Int×Int}(hp:inR h w p):gIx (rwI (L.getD p.1.toNat [])) (.int p.2)=some (.int (atL L p)):=QuO hp.2.2.1 (by rw[r.row hp.1 hp.2.1];exact hp.2.2.2)
theorem Qst {h w:Nat}{L:List @17}(r:Rc h w L){p:Int×Int}(hp:inR h w p):gIx (tuI (L.getD p.1.toNat [])) (.int p.2)=some (.int (atL L p)):=QuP hp.2.2.1 (by rw[r.row hp.1 hp.2.1];exact hp.2.2.2)
theorem Rc.set {h w:Nat}{L:List @17}(r:Rc h w L){p:Int×Int}(hp:inR h w p){v:Int}:Rc h w (Qjp L p v):=by
 refine⟨by unfold Qjp;rw[z98];exact r.hi,fun l hl=>?_⟩
 rcases zr3 hl with hl|rfl
 ·exact r.wi _ hl
 ·rw[z98];exact r.row hp.1 hp.2.1
theorem Qlc {h w:Nat}{L:List @17}(r:Rc h w L){p q:Int×Int}(hp:inR h w p)(hq:inR h w q){v:Int}:atL (Qjp L p v) q=if q=p then v else atL L q:=by
 obtain⟨a,b⟩:=p
 obtain⟨c,d⟩:=q
 obtain⟨p1,p2,p3,p4⟩:=hp
 obtain⟨q1,q2,q3,q4⟩:=hq
 have hl:=r.row p1 p2
 have e1:=r.hi
 dsimp only at p1 p2 p3 p4 q1 q2 q3 q4 hl
 unfold atL Qjp
 dsimp only
 simp only[z14,zx8] at hl ⊢
 by_cases h1:a=c
 ·subst h1
  rw[if_pos rfl,if_pos @0]
  simp only[zb1,zx8]
  by_cases h2:b=d
  ·subst h2
   rw[if_pos rfl,if_pos @0,if_pos rfl];rfl
  ·rw[if_neg @0,if_neg (by intro z;exact h2 (by rw[zk9] at z;exact z.2.symm))]
 ·rw[if_neg @0,if_neg (by intro z;exact h1 (by rw[zk9] at z;exact z.1.symm))]
theorem Qnr {h w:Nat}{L:List @17}(r:Rc h w L){p:Int×Int}(hp:inR h w p){v:Int}:(L.map rwI).set p.1.toNat (.lst (((L.getD p.1.toNat []).map D.int).set p.2.toNat (.int v)))=(Qjp L p v).map rwI:=by
 unfold Qjp
 rw[List.map_set]
 show _=(L.map rwI).set p.1.toNat (D.lst (((L.getD p.1.toNat []).set p.2.toNat v).map D.int))
 rw[List.map_set]
theorem VB:∀(l:List Int),D.Jb (l.map .int)=true
 | []=>rfl
 |_::l=>VB l
def arL (p:Int×Int):List (Int×Int):=[(p.1 - 1,p.2),(p.1,p.2 - 1),(p.1,p.2+1),(p.1+1,p.2)]
def okN (h w:Nat)(F:List @17)(p:Int×Int):Bool:=decide (inR h w p) && !decide (atL F p=0)
def nbL (h w:Nat)(F:List @17)(p:Int×Int):List (Int×Int):=(arL p).filter (okN h w F)
section
variable {h w:Nat}{F R R' R0:List @17}{e y:NP}{wt wt' wt0:List NP}{ns:List (Int×Int)}{u v p:Int×Int}{least:Int}{dn:Int×Int->Bool}
theorem YZ (k:okN h w F p=true):inR h w p/\atL F p≠0:=by
 unfold okN at k
 simpa using k
theorem Qgl (k:v∈nbL h w F p):okN h w F v=true:=(z64.mp k).2
def Nn (h w:Nat)(F:List @17):Prop:=∀p,inR h w p->0<=atL F p
theorem Qld (p:Int×Int):(nbL h w F p).length<=4:=zb3 _ _
theorem QuQ (k:Vx e y=true):e.1<=y.1:=by
 unfold Vx at k
 simp at k
 lia
structure Gv (h w:Nat)(F:List @17)(e:NP)(R0:List @17)(wt0:List NP)(ns:List (Int×Int))(R:List @17)(wt:List NP):Prop where
 rc:Rc h w R
 up:∀p,inR h w p->atL R0 p<=atL R p
 ch:∀p,inR h w p->atL R p=atL R0 p\/(p∈ns/\atL R p=e.1 - atL F p/\(atL R p,p)∈wt)
 ge:∀p∈ns,inR h w p->e.1 - atL F p<=atL R p
 pw:wt.Pairwise (fun a b=>Vx a b=true)
 i1:∀x∈wt,okN h w F x.2=true/\x.1<=atL R x.2
 sb:∀x∈wt0,x∈wt
 nw:∀x∈wt,x∈wt0\/(x.1=e.1 - atL F x.2/\atL R0 x.2<x.1/\x.2∈ns)
 ln:wt.length<=wt0.length+ns.length
theorem Gv.start (rc:Rc h w R)(pw:wt.Pairwise (fun a b=>Vx a b=true))(i1:∀x∈wt,okN h w F x.2=true/\x.1<=atL R x.2):Gv h w F e R wt [] R wt:=
 ⟨rc,fun _ _=>zd5 _,fun _ _=>.inl rfl,@2,pw,i1,fun _ z=>z,fun _ z=>.inl z,by simp⟩
theorem Gv.skip (g:Gv h w F e R0 wt0 ns R wt)(k:¬ e.1 - atL F v > atL R v):Gv h w F e R0 wt0 (ns++[v]) R wt where
 rc:=g.rc
 up:=g.up
 ch:=fun p hp=>(g.ch p hp).imp id fun⟨a,b⟩=>⟨z06 _ a,b⟩
 ge:=fun p hp ip=>by
  rcases z05.mp hp with hp|hp
  ·exact g.ge p hp ip
  ·rw[z26.mp hp];lia
 pw:=g.pw
 i1:=g.i1
 sb:=g.sb
 nw:=fun x hx=>(g.nw x hx).imp id fun⟨a,b,c⟩=>⟨a,b,z06 _ c⟩
 ln:=by have:=g.ln;rw[z16];lia
theorem Gv.put (g:Gv h w F e R0 wt0 ns R wt)(hv:okN h w F v=true)(k:e.1 - atL F v > atL R v)(hw:wt'.Perm ((e.1 - atL F v,v)::wt))(pw:wt'.Pairwise (fun a b=>Vx a b=true)):Gv h w F e R0 wt0 (ns++[v]) (Qjp R v (e.1 - atL F v)) wt':=by
 have iv:=(YZ hv).1
 have as:∀p,inR h w p->atL (Qjp R v (e.1 - atL F v)) p=if p=v then e.1 - atL F v else atL R p:=fun p hp=>Qlc g.rc iv hp
 have up1:∀p,inR h w p->atL R p<=atL (Qjp R v (e.1 - atL F v)) p:=fun p hp=>by
  rw[as p hp]
  split
  ·rename_i e;subst e;lia
  ·exact zd5 _
 refine⟨g.rc.set iv,fun p hp=>z91 (g.up p hp) (up1 p hp),fun p hp=>?_,fun p hp ip=>?_,pw,fun x hx=>?_,fun x hx=>hw.mem_iff.mpr (z08 _ (g.sb x hx)),fun x hx=>?_,?_⟩
 ·rw[as p hp]
  split
  ·rename_i e1
   subst e1
   exact .inr ⟨z02 _ z07,rfl,hw.mem_iff.mpr z07⟩
  ·exact(g.ch p hp).imp id fun⟨a,b,c⟩=>⟨z06 _ a,b,hw.mem_iff.mpr (z08 _ c)⟩
 ·rcases z05.mp hp with hp|hp
  ·exact z91 (g.ge p hp ip) (up1 p ip)
  ·rw[z26.mp hp,as v iv,if_pos rfl];exact zd5 _
 ·rcases z15.mp (hw.mem_iff.mp hx) with rfl|hx
  ·exact⟨hv,by rw[as v iv,if_pos rfl];exact zd5 _⟩
  ·exact⟨(g.i1 x hx).1,z91 (g.i1 x hx).2 (up1 _ (YZ (g.i1 x hx).1).1)⟩
 ·rcases z15.mp (hw.mem_iff.mp hx) with rfl|hx
  ·exact .inr ⟨rfl,by have:=g.up v iv;dsimp only;lia,z02 _ z07⟩
  ·exact(g.nw x hx).imp id fun⟨a,b,c⟩=>⟨a,b,z06 _ c⟩
 ·have:=g.ln
  rw[hw.length_eq,z16]
  simp
  lia
structure Jv (h w:Nat)(F R0:List @17)(least:Int)(dn:Int×Int->Bool)(R:List @17)(wt:List NP):Prop where
 rc:Rc h w R
 pw:wt.Pairwise (fun a b=>Vx a b=true)
 i1:∀x∈wt,okN h w F x.2=true/\x.1<=atL R x.2
 up:∀p,inR h w p->atL R0 p<=atL R p
 i2:∀u,okN h w F u=true->least<atL R u->(atL R u,u)∈wt\/dn u=true
 d1:∀u,dn u=true->okN h w F u=true/\(∀v∈nbL h w F u,atL R u - atL F v<=atL R v)/\(∀x∈wt,x.1<=atL R u)/\(atL R u,u)∉wt
 so:∀p,inR h w p->atL R p=atL R0 p\/∃u,dn u=true/\p∈nbL h w F u/\atL R p=atL R u - atL F p
theorem Jv.stale (j:Jv h w F R0 least dn R (wt++[e]))(ne:atL R e.2≠e.1):Jv h w F R0 least dn R wt where
 rc:=j.rc
 pw:=(z34.mp j.pw).1
 i1:=fun x hx=>j.i1 x (z06 _ hx)
 up:=j.up
 i2:=fun u hu hl=>(j.i2 u hu hl).imp (fun hm=>by
  rcases z05.mp hm with hm|hm
  ·exact hm
  ·have q:=z26.mp hm
   rw[← q] at ne
   exact absurd rfl ne) id
 d1:=fun u hu=>by
  obtain⟨a,b,c,d⟩:=j.d1 u hu
  exact⟨a,b,fun x hx=>c x (z06 _ hx),fun hm=>d (z06 _ hm)⟩
 so:=j.so
theorem Jv.give (hF:Nn h w F)(j:Jv h w F R0 least dn R (wt++[e]))(eq:atL R e.2=e.1)(g:Gv h w F e R wt (nbL h w F e.2) R' wt') :
  Jv h w F R0 least (fun p=>dn p || decide (p=e.2)) R' wt'/\dn e.2=false/\okN h w F e.2=true:=by
 obtain⟨pw1,_,pw3⟩:=z34.mp j.pw
 have le:∀x∈wt,x.1<=e.1:=fun x hx=>QuQ (pw3 x hx e z07)
 have ne:e∉wt:=fun hm=>by have:=pw3 e hm e z07;rw[QbT.irr] at this;cases this
 have oke:okN h w F e.2=true:=(j.i1 e (z02 _ z07)).1
 have ie:=(YZ oke).1
 have nd:dn e.2=false:=by
  cases q:dn e.2 with
  |false=>rfl
  |true=>exact absurd (by rw[eq];exact z02 _ z07) (j.d1 _ q).2.2.2
 have lo:∀v,v∈nbL h w F e.2->0<=atL F v:=fun v hv=>hF v (YZ (Qgl hv)).1
 -- high cells stay
 have st:∀u,inR h w u->e.1<=atL R u->atL R' u=atL R u:=fun u iu hu=>by
  rcases g.ch u iu with q|⟨a,b,c⟩
  ·exact q
  ·have:=lo u a
   have:=g.up u iu
   lia
 have dhi:∀u,dn u=true->e.1<=atL R u:=fun u hu=>(j.d1 u hu).2.2.1 e (z02 _ z07)
 have din:∀u,dn u=true->inR h w u:=fun u hu=>(YZ (j.d1 u hu).1).1
 have ste:atL R' e.2=e.1:=by rw[st e.2 ie @0,eq]
 have wle:∀x∈wt',x.1<=e.1:=fun x hx=>by
  rcases g.nw x hx with q|⟨a,b,c⟩
  ·exact le x q
  ·have:=lo _ c;lia
 refine⟨⟨g.rc,g.pw,g.i1,fun p hp=>z91 (j.up p hp) (g.up p hp),fun u hu hl=>?_,fun u hu=>?_,fun p hp=>?_⟩,nd,oke⟩
 ·have iu:=(YZ hu).1
  rcases g.ch u iu with q|⟨a,b,c⟩
  ·rw[q] at hl ⊢
   rcases j.i2 u hu hl with hm|hd
   ·rcases z05.mp hm with hm|hm
    ·exact .inl (g.sb _ hm)
    ·have q2:=z26.mp hm
     exact .inr (by rw[← q2];simp)
   ·exact .inr (by rw[hd];rfl)
  ·exact .inl c
 ·rcases zv8.mp hu with hu|hu
  ·obtain⟨a,b,c,d⟩:=j.d1 u hu
   have eu:=st u (din u hu) (dhi u hu)
   rw[eu]
   refine⟨a,fun v hv=>z91 (b v hv) (g.up v (YZ (Qgl hv)).1),fun x hx=>z91 (wle x hx) (dhi u hu),fun hm=>?_⟩
   rcases g.nw _ hm with q|⟨a1,b1,c1⟩
   ·exact d (z06 _ q)
   ·dsimp only at b1;lia
  ·have hu:u=e.2:=of_decide_eq_true hu
   subst hu
   rw[ste]
   refine⟨oke,fun v hv=>g.ge v hv (YZ (Qgl hv)).1,wle,fun hm=>?_⟩
   rcases g.nw _ hm with q|⟨a1,b1,c1⟩
   ·exact ne q
   ·dsimp only at b1;lia
 ·rcases g.ch p hp with q|⟨a,b,c⟩
  ·rw[q]
   rcases j.so p hp with q2|⟨u,hu,hn,hv⟩
   ·exact .inl q2
   ·exact .inr ⟨u,by rw[hu];rfl,hn,by rw[st u (din u hu) (dhi u hu)];exact hv⟩
  ·exact .inr ⟨e.2,by simp,a,by rw[ste];exact b⟩
theorem Jv.fin (hF:Nn h w F)(hl:∀p,inR h w p->least<=atL R0 p)(j:Jv h w F R0 least dn R []):∀u,okN h w F u=true->∀v∈nbL h w F u,atL R u - atL F v<=atL R v:=fun u hu v hv=>by
 by_cases q:least<atL R u
 ·rcases j.i2 u hu q with hm|hd
  ·cases hm
  ·exact(j.d1 u hd).2.1 v hv
 ·have iv:=(YZ (Qgl hv)).1
  have:=j.up v iv
  have:=hl v iv
  have:=hF v iv
  lia
def QdH (ps:List (Int×Int))(dn:Int×Int->Bool):Nat:=(ps.filter fun p=>!dn p).length
theorem QmF (ps:List (Int×Int))(dn:Int×Int->Bool):QdH ps dn<=ps.length:=zb3 _ _
theorem Qjd {ps:List (Int×Int)}:QdH ps (fun p=>dn p || decide (p=u))<=QdH ps dn:=by
 unfold QdH
 induction ps with
 |nil=>exact z24 _
 |cons a ps ih=>
  rw[z84,z84]
  cases qd:dn a with
  |true=>simpa[qd] using ih
  |false=>
   by_cases q:a=u
   ·simp[q,qd];simp at ih;lia
   ·simpa[q,qd] using ih
theorem Qfl:∀{ps:List (Int×Int)},u∈ps->dn u=false->QdH ps (fun p=>dn p || decide (p=u))+1<=QdH ps dn
 |a::ps,hm,hd=>by
  by_cases q:a=u
  ·subst q
   have:=Qjd (dn:=dn) (u:=a) (ps:=ps)
   unfold QdH at this ⊢
   rw[z84,z84]
   simp[hd]
   simpa using this
  ·have hm:u∈ps:=(z15.mp hm).resolve_left (fun z=>q z.symm)
   have ih:=Qfl hm hd
   unfold QdH at ih ⊢
   rw[z84,z84]
   cases qd:dn a with
   |true=>simpa[qd] using ih
   |false=>simpa[q,qd] using ih
end
end TL
namespace TL
open PySem PySem.Spec L2
section
variable {s:Option Sl}{ρ:Rho}{k:D×Rho->Prop}{m:ME}{mr:MA}
def QuR (par:Bool)(cs:List Cp)(tc:MT)(te:ME)(r:List D×Rho):Rs (D×Rho):=(Rs.of (Qab par r.2 @19)).bind fun di=>(Rs.of (Qcj r.2 cs di)).bind fun ρb=>
 match Qbb tc te r.1 ρb [] with
 |.ok q=>(Rs.of (outs (ioB cs) q.2)).bind fun os=>.ok (.lst q.1,Vq par r.2 @19 os)
 |_=>.no
theorem Qpg {par:Bool}{cs:List Cp}{mi:MA}{tc:MT}{te:ME}:W (Qex par cs mi tc te (s::ρ)) k↔W (mi (s::ρ)) fun r=>W (QuR par cs tc te r) k:=Qi
theorem Qbw {tc:MT}{te:ME}{f:D->Bool}{g:D->D}{ρ:Rho}:∀{ds:List D} {acc:List D},(∀d∈ds,∃ρ0,Qjn 0 1 d ρ=some ρ0/\tc ρ0=.ok (f d,ρ0)/\(f d=true->te ρ0=.ok (g d,ρ0))/\(ρ0.set 1 none).set 0 none=ρ)->acc.length+ds.length<=z17->
  Qbb tc te ds ρ acc=.ok (acc++(ds.filter f).map g,ρ)
 | [],acc,h,l=>by simp[Qbb]
 |d::ds,acc,h,l=>by
  obtain⟨ρ0,e0,e1,e2,e3⟩:=h d z07
  unfold Qbb
  rw[e0]
  show(tc ρ0).bind _=_
  rw[e1]
  show(if f d=true then _ else _)=_
  by_cases hf:f d=true
  ·rw[if_pos hf,e2 hf]
   show(if acc.length<z17 then _ else _)=_
   rw[if_pos (by simp at l;lia),e3,Qbw (fun d' hd'=>h d' (z08 _ hd')) (by simp at l ⊢;lia),z84,if_pos hf]
   simp
  ·rw[if_neg hf,e3,Qbw (fun d' hd'=>h d' (z08 _ hd')) (by simp at l ⊢;lia),z84,if_neg hf]
theorem Qns {par:Bool}{cs:List Cp}{tc:MT}{te:ME}{ρb:Rho}{ds di os:List D}{f:D->Bool}{g:D->D}(h2:Qab par ρ @19=some di)(h3:Qcj ρ cs di=some ρb)
  (hs:∀d∈ds,∃ρ0,Qjn 0 1 d ρb=some ρ0/\tc ρ0=.ok (f d,ρ0)/\(f d=true->te ρ0=.ok (g d,ρ0))/\(ρ0.set 1 none).set 0 none=ρb) (l:ds.length<=z17) (ho:outs (ioB cs) ρb=some os) (hp:Vq par ρ @19 os=ρ) (hk:k (.lst ((ds.filter f).map g),ρ)):W (QuR par cs tc te (ds,ρ)) k:=by
 refine⟨_,?_,hk⟩
 unfold QuR
 show(Rs.of (Qab par ρ _)).bind _=_
 rw[h2]
 show(Rs.of (Qcj ρ cs di)).bind _=_
 rw[h3]
 show(match Qbb tc te ds ρb [] with|.ok q=>_|_=>_)=_
 rw[Qbw hs (by simpa using l)]
 show(Rs.of (outs (ioB cs) ρb)).bind _=_
 rw[ho]
 show Rs.ok (D.lst _,Vq par ρ @19 os)=_
 rw[hp,zj6]
def rvK (r:D×Rho):Rs (D×Rho):=(Rs.of (asL r.1)).bind fun xs=>if D.Jb xs.reverse=true then .ok (.lst xs.reverse,r.2) else .no
theorem Qsu {xs:List D}:rvK (.nd .lst xs,ρ)=if D.Jb xs.reverse=true then .ok (.lst xs.reverse,ρ) else .no:=rfl
theorem Qsv:W (QuD m (s::ρ)) k↔W (m (s::ρ)) fun r=>W (rvK r) k:=Qi
def lrK (r:List D×Rho):Rs (D×Rho):=(Rs.of (Qg3 r.1)).bind fun n=>if n.toNat<=2 ^ 24 then .ok (.lst (Qvv 0 n.toNat),r.2) else .no
theorem Qph:W (Qsj mr (s::ρ)) k↔W (mr (s::ρ)) fun r=>W (lrK r) k:=Qi
def tpK (ks:List Kd)(r:List D×Rho):Rs (D×Rho):=(Rs.of (Qaj ks r.1 r.2)).bind fun q=>if q.1.length<=z17 then .ok (.tup q.1,q.2) else .no
theorem Qsw {ks:List Kd}:W (Qrg ks mr (s::ρ)) k↔W (mr (s::ρ)) fun r=>W (tpK ks r) k:=Qi
theorem Qsx {ks:List Kd}{r:List D×Rho}{q:List D×Rho}(h:Qaj ks r.1 r.2=some q)(hl:q.1.length<=z17):tpK ks r=.ok (.tup q.1,q.2):=by
 unfold tpK
 rw[h]
 show(if q.1.length<=z17 then _ else _)=_
 rw[if_pos hl]
theorem Qpi {md my mx:ME}{ks:List (List Key)}{ds:List D}{y x d:D}{ρ:Rho}(h1:md ρ=.ok (.nd (.dT ks) ds,ρ))(h2:my ρ=.ok (y,ρ))(h3:mx ρ=.ok (x,ρ))(h4:QvB (ks,ds) y x=some d):QmC md my mx ρ=.ok (d,ρ):=by
 unfold QmC
 have e1:Qs9 (.nd (.dT ks) ds)=some (ks,ds):=rfl
 simp only[h1,h2,h3,h4,e1,Rs.bind,Rs.of,zx2]
def pD:D->Int×Int
 |.nd .tup [.int a,.int b]=>(a,b)
 |_=>(0,0)
def l2t:D->D
 |.nd .lst xs=>.tup xs
 |d=>d
def QvF:D->D
 |.nd .lst xs=>.int (Vr ((Qh3 xs).getD []))
 |d=>d
end
end TL
namespace TL
open PySem PySem.Spec L2 L2.Srt
def sq (b:Bool)(xs:List D):D:=.nd (bif b then .tup else .lst) xs
def rwB (b:Bool)(r:List Int):D:=sq b (r.map .int)
def rB (a b:Bool)(L:List @17):D:=sq a (L.map (rwB b))
def plB (c:Bool)(p:Int×Int):D:=sq c [.int p.1,.int p.2]
def pnB (c:Bool)(x:PN):D:=.tup [plB c x.1,.int x.2]
def l2l:D->D
 |.nd _ xs=>.lst xs
 |d=>d
section
variable {b:Bool}{xs:List D}{ρ:Rho}{i:Int}{p:Int×Int}
theorem Qgm:siK (sq b xs,ρ)=.ok (xs,ρ):=by cases b<;>rfl
theorem Qsy:enK ([sq b xs],ρ)=.ok (Qbu xs,ρ):=by cases b<;>rfl
theorem Qsz:liK ([sq b xs],ρ)=if D.Jb xs=true then .ok (.lst xs,ρ) else .no:=by cases b<;>rfl
theorem Qhe:YS [sq b xs]=some (.int xs.length):=by cases b<;>rfl
theorem Qnt:gIx (sq b xs) (.int i)=atI xs i:=by cases b<;>rfl
theorem QsA:gIx (plB b p) (.int 0)=some (.int p.1):=by cases b<;>rfl
theorem QpN:gIx (plB b p) (.int 1)=some (.int p.2):=by cases b<;>rfl
theorem QuS {a:Bool}{h w:Nat}{L:List @17}(r:Rc h w L)(h0:0<=i)(h1:i<h):gIx (rB a b L) (.int i)=some (rwB b (L.getD i.toNat [])):=Qnt.trans (Qay (rwB b) [] h0 (by rw[r.hi];exact h1))
theorem QuT {h w:Nat}{L:List @17}(r:Rc h w L)(hp:inR h w p):gIx (rwB b (L.getD p.1.toNat [])) (.int p.2)=some (.int (atL L p)):=Qnt.trans (Qay D.int 0 hp.2.2.1 (by rw[r.row hp.1 hp.2.1];exact hp.2.2.2))
end
end TL
namespace H31
open PySem PySem.Spec L2 TL
structure Z where
 K:z00
 Qq:Addr
 Js:Addr
 Qn:Addr
 Qv:Addr
 Q9:Addr
 Y0:Addr
 Qh7:Tok
 VD:Tok
def top (i:Nat):Stmt:=PySem.Challenge.pw_glowcells_k31_rows_and_places_refused.main.body.getD i (.Pass ⟨0,0,0,0⟩)
structure Con (z:Z)(y:Y):Prop where
 ValueError:y.mg "ValueError" = none
 QwA:y.mg "all" = none
 bool:y.mg "bool" = none
 enumerate:y.mg "enumerate" = none
 int_:y.mg "int" = none
 isinstance:y.mg "isinstance" = none
 len:y.mg "len" = none
 Qgn:y.mg "list" = none
 QuU:y.mg "max" = none
 QuV:y.mg "min" = none
 range:y.mg "range" = none
 sorted:y.mg "sorted" = none
 tuple:y.mg "tuple" = none
 QdI:y.mg "Floor" = some (.ref z.Qq)
 Yx:y.mg "GlowError" = some (.ref z.Js)
 Jx:y.mg "NoLights" = some (.ref z.Qn)
 Yy:y.mg "NoPlace" = some (.ref z.Qv)
 Yj:y.mg "NoStrength" = some (.ref z.Q9)
 QbX:y.mg "Walled" = some (.ref z.Y0)
 Ys:zd1 z.K z.Qn bmV "ValueError.__new__" = true
 Qaz:zd1 z.K z.Qv bmV "ValueError.__new__" = true
 Qh8:y.mg "MOST" = some (.int 30 z.Qh7)
 VF:y.mg "WALL_LOSS" = some (.int 0 z.VD)
 QS:Cls z.K z.Qq
 QF:Qa9 z.K z.Qq "losses"
 dummy:True
noncomputable section
set_option hygiene false in
local macro_rules
 | `($x^^^$y)=>`(Qag.mono $x @1)
 | `($x <<< $y)=>`(fnU (N:=$x) F ⟨rfl,rfl,rfl,by decide +kernel,rfl,by decide +kernel,by decide +kernel⟩ rfl (.inl rfl) fun hC hr hd S hown=>$y)
 | `($x >>> $y)=>`(fnU (N:=$x) F ⟨rfl,rfl,rfl,by decide +kernel,rfl,by decide +kernel,by decide +kernel⟩ rfl (.inr rfl) fun hC hr hd S hown=>$y)
def Qey (z:Z):Dg z.K (Con z) "is_whole" (top 10)  1 ["value"] [false] .V 1 fun _ R=>R:=
 ⟨_,fun con F  => ["value"] <<< (Qm (QH (QgZ (Qo Yi (Qnd hC) con.isinstance Jp (Qa (xv 0) (Qa (Y6 con.int_ Qdw) Qc))) (Qi4 (QtM (Qo Yi (Qnd hC) con.isinstance Jp (Qa (xv 0) (Qa (Y6 con.bool Qet) Qc))))))))⟩
def Vu (z:Z):List D->Fr:=JN [false] 1 (Qey z).1
abbrev Qcy (z:Z)(y:Y):Prop:=Tf z.K y 1 "is_whole" ["value"] [false] .V (Vu z)
def QdJ (z:Z):Dg z.K (Con z) "is_listed" (top 11)  1 ["value"] [false] .V 1 fun _ R=>R:=
 ⟨_,fun con F  => ["value"] <<< (Qm (QH (Qo Yi (Qnd hC) con.isinstance Jp (Qa (xv 0) (QdG (QZ (Qa (Y6 con.Qgn TL.boot_list) (Qa (Y6 con.tuple TL.boot_tuple) Qc))) Qc)))))⟩
def J5 (z:Z):List D->Fr:=JN [false] 1 (QdJ z).1
abbrev VG (z:Z)(y:Y):Prop:=Tf z.K y 1 "is_listed" ["value"] [false] .V (J5 z)
def QaA (z:Z):Df z.K (Con z) "high" "Floor.high" (inClass (top 16) 1)  1 ["self"] [false] .V 1 fun _ R=>R:=
 ⟨_,fun con F  => ["self"] <<< (Qm (QH (Qo Qy (QbV hC) con.len z35 (Qa (Qev con.QS con.QF (xv 0)) Qc))))⟩
def QcF (z:Z):List D->Fr:=JN [false] 1 (QaA z).1
abbrev QaB (z:Z)(y:Y):Prop:=Tm z.K y z.Qq 1 "high" ["self"] [false] .V (QcF z)
def QaC (z:Z):Df z.K (Con z) "wide" "Floor.wide" (inClass (top 16) 2)  1 ["self"] [false] .V 1 fun _ R=>R:=
 ⟨_,fun con F  => ["self"] <<< (Qm (QH (Qo Qy (QbV hC) con.len z35 (Qa (QQ hC (Qev con.QS con.QF (xv 0)) Qf) Qc))))⟩
def QcG (z:Z):List D->Fr:=JN [false] 1 (QaC z).1
abbrev QaD (z:Z)(y:Y):Prop:=Tm z.K y z.Qq 1 "wide" ["self"] [false] .V (QcG z)
def QcH (z:Z):Df z.K (Con z) "rows" "Floor.rows" (inClass (top 16) 3)  1 ["self"] [false] .O 1 fun _ R=>R:=
 ⟨_,fun con F  => ["self"] >>> (Qm (QH (Yw (p:=true) (par:=false) (cs:=[.me]) (N:=["row"]) (j:=0) hC rfl Blk.of rfl rfl rfl (Q8 hC (Qev con.QS con.QF (xv 0))) (fun _ _ _ _ _=>Qav) (fun _ _ _ _ _=>Qaw fun Cb hb=>(Qdq (x := "") con.Qgn hb (Qa (xv 0) Qc))))))⟩
def Qgo (z:Z):List D->Fr:=JN [false] 1 (QcH z).1
abbrev Qgp (z:Z)(y:Y):Prop:=Tm z.K y z.Qq 1 "rows" ["self"] [false] .O (Qgo z)
def Yz (z:Z):Df z.K (Con z) "is_wall" "Floor.is_wall" (inClass (top 16) 8)  1 ["self","place"] [false,false] .V 2 fun _ R=>R:=
 ⟨_,fun con F  => ["self","place"] <<< (Qm (QH (Qkb (JZ (Qba hr)) (QfA hC) (QQ hC (QQ hC (Qev con.QS con.QF (xv 0)) (QQ hC (xv 1) Qf)) (QQ hC (xv 1) Qf)) (Qbt (d:=.int 0) rfl ⟨_,rfl⟩ con.VF) (QD _))))⟩
def YB (z:Z):List D->Fr:=JN [false,false] 2 (Yz z).1
abbrev JV (z:Z)(y:Y):Prop:=Tm z.K y z.Qq 1 "is_wall" ["self","place"] [false,false] .V (YB z)
def Qh9 (z:Z):Dg z.K (Con z) "around" (top 17)  1 ["place"] [false] .O 3 fun _ R=>R:=
 ⟨_,fun con F  => ["place","row","column"] >>> (Qg (Qz (i:=1) S rfl @13 (QQ hC (xv 0) Qf))
  (Qg (Qz (i:=2) S rfl @13 (QQ hC (xv 0) Qf))
  (Qm (QH (Qas (QdG (QZ (Qfk (JQ QcB Qnb (xv 1) Qf) (Qa (xv 2) Qc))) (QdG (QZ (Qa (xv 1) (Qfk (JQ QcB Qnb (xv 2) Qf) Qc))) (QdG (QZ (Qa (xv 1) (Qfk (JQ Q6 Qcv (xv 2) Qf) Qc))) (QdG (QZ (Qfk (JQ Q6 Qcv (xv 1) Qf) (Qa (xv 2) Qc))) Qc)))))))))⟩
def Qia (z:Z):List D->Fr:=JN [false] 3 (Qh9 z).1
abbrev Qib (z:Z)(y:Y):Prop:=Tf z.K y 1 "around" ["place"] [false] .O (Qia z)
def Qbx (z:Z):Dg z.K (Con z) "places_of" (top 18)  1 ["rows"] [false] .O 4 fun _ R=>R:=
 ⟨_,fun con F  => ["rows","places","number","row"] >>> (Qg (YW (i:=1) S rfl @13 (Qas Qc))
  (Qg (Qai hown rfl (QoB con.enumerate hC (Qa (xv 0) Qc)) (Qdd rfl (Jo (QG (i:=2) S rfl (z57 rfl)) (Jo (QG (i:=3) S rfl @13) Qbo))) (Qdr hC) (Qm (Qt0 (i:=1) hC rfl @3 (Yw (p:=true) (par:=false) (cs:=[.me,.fz 2]) (N:=["column","number"]) (j:=0) hC rfl Blk.of rfl rfl rfl (Qau con.range (Qa (Qo Qy (QbV hC) con.len z35 (Qa (xv 3) Qc)) Qc)) (fun _ _ _ _ _=>Qav) (fun _ _ _ _ _=>Qaw fun Cb hb=>(JX (QZ (Qa (xv 1) (Qa (xv 0) Qc)))))))))
  (Qm (QH (xo 1)))))⟩
def Qby (z:Z):List D->Fr:=JN [false] 4 (Qbx z).1
abbrev Qbz (z:Z)(y:Y):Prop:=Tf z.K y 1 "places_of" ["rows"] [false] .O (Qby z)
def J6 (z:Z):Dg z.K (Con z) "insert_in_order" (top 33)  1 ["waiting","entry"] [true,false] .V 5 fun _ R=>R:=
 ⟨_,fun con F  => ["waiting","entry","low","high","middle"] <<< (Qg (Qz (i:=2) S rfl @13 Qf)
  (Qg (Qz (i:=3) S rfl @13 (Qo Qy (QbV hC) con.len z35 (Qa (xb 0) Qc)))
  (Qg (Qkh (n:=1000000) hown (QJ QfE dLt (xv 2) (xv 3) (QD _)) (Qg (Qz (i:=4) S rfl @13 (JQ QeV QtV (JQ Q6 Qcv (xv 2) (xv 3)) Qf))
  (Qm (Vp (QJ (Qsh (QlW hr)) (Qws hC) (Qcs hC (xb 0) (xv 4)) (xv 1) (QD _)) (Qm (Qz (i:=2) S rfl @13 (JQ Q6 Qcv (xv 4) Qf))) (Qm (Qz (i:=3) S rfl @13 (xv 4)))))))
  (Qm (Quy (i:=0) rfl @3 (Qa (xv 2) (Qa (xv 1) Qc)))))))⟩
def J7 (z:Z):List D->Fr:=JN [true,false] 5 (J6 z).1
abbrev Vv (z:Z)(y:Y):Prop:=Tf z.K y 1 "insert_in_order" ["waiting","entry"] [true,false] .V (J7 z)
def QbA (z:Z):Dg z.K (Con z) "number_at" (top 34)  1 ["rows","place"] [false,false] .V 2 fun _ R=>R:=
 ⟨_,fun con F  => ["rows","place"] <<< (Qm (QH (QQ hC (QQ hC (xv 0) (QQ hC (xv 1) Qf)) (QQ hC (xv 1) Qf))))⟩
def YC (z:Z):List D->Fr:=JN [false,false] 2 (QbA z).1
abbrev J8 (z:Z)(y:Y):Prop:=Tf z.K y 1 "number_at" ["rows","place"] [false,false] .V (YC z)
def VH (z:Z):Dg z.K (Con z) "_law_cell" (top 37)  1 ["_law_script","_law_k"] [false,false] .V 2 fun _ R=>R:=
 ⟨_,fun con F  => ["_law_script","_law_k"] <<< (Qm (QH (QqV (QJ QfE dLt (xv 1) (Qo Qy (QbV hC) con.len z35 (Qa (xv 0) Qc)) (QD _)) (QQ hC (xv 0) (xv 1)) Qf)))⟩
def QdK (z:Z):List D->Fr:=JN [false,false] 2 (VH z).1
abbrev QdL (z:Z)(y:Y):Prop:=Tf z.K y 1 "_law_cell" ["_law_script","_law_k"] [false,false] .V (QdK z)
def QbB (z:Z):Dg z.K (Con z) "_law_rich" (top 38)  1 ["_law_cell_here"] [false] .V 4 fun _ R=>R:=
 ⟨_,fun con F  => ["_law_cell_here","_law_number_here","_law_k","_law_mixed"] <<< (Qg (Qz (i:=1) S rfl @13 Qf)
  (Qg (Qai hown rfl (Qau con.range (YQ Qf Qc)) (QG (i:=2) S rfl @13) JS (Qg (Qz (i:=3) S rfl @13 (JQ Qee QpG (JQ Q6 Qcv (JQ Q6 Qcv (JQ Q6 Qcv (JQ QbO Qmn (JQ Qee QpG (xv 0) Qf) Qf) (JQ QbO Qmn (JQ QbO Qmn (xv 2) (xv 2)) Qf)) (JQ QbO Qmn Qf (xv 2))) Qf) Qf))
  (Qm (Qz (i:=1) S rfl @13 (JQ Q6 Qcv (JQ QbO Qmn (xv 1) Qf) (JQ Qee QpG (JQ Q6 Qcv (JQ Q6 Qcv (JQ QbO Qmn (xv 3) (xv 3)) (JQ QbO Qmn Qf (xv 3))) (xv 2)) Qf))))))
  (Qm (QH (xv 1)))))⟩
def VJ (z:Z):List D->Fr:=JN [false] 4 (QbB z).1
abbrev QbC (z:Z)(y:Y):Prop:=Tf z.K y 1 "_law_rich" ["_law_cell_here"] [false] .V (VJ z)
def VL (z:Z):Dg z.K (Con z) "_law_beside" (top 47)  1 ["_law_losses_here","_law_r","_law_c"] [false,false,false] .O 6 fun _ R=>R:=
 ⟨_,fun con F  => ["_law_losses_here","_law_r","_law_c","_law_found","_law_a","_law_b"] >>> (Qg (YW (i:=3) S rfl @13 (Qas Qc))
  (Qg (Qai hown rfl (Q8 hC (YT (QdG (QZ (Qfk (JQ QcB Qnb (xv 1) Qf) (Qa (xv 2) Qc))) (QdG (QZ (Qa (xv 1) (Qfk (JQ QcB Qnb (xv 2) Qf) Qc))) (QdG (QZ (Qa (xv 1) (Qfk (JQ Q6 Qcv (xv 2) Qf) Qc))) (QdG (QZ (Qfk (JQ Q6 Qcv (xv 1) Qf) (Qa (xv 2) Qc))) Qc)))))) (Qdd rfl (Jo (QG (i:=4) S rfl @13) (Jo (QG (i:=5) S rfl @13) Qbo))) (Qdr hC) (Qm (Vp (PW.pt (Qe8 (QhR Qjz QfE dLe dLt Qf (xv 4) (Qo Qy (QbV hC) con.len z35 (Qa (xv 0) Qc))) (Qe8 (QhR Qjz QfE dLe dLt Qf (xv 5) (Qo Qy (QbV hC) con.len z35 (Qa (QQ hC (xv 0) Qf) Qc))) (Qdp (QJ QgJ dGt (QQ hC (QQ hC (xv 0) (xv 4)) (xv 5)) Qf (QD _)))))) (Qm (Qky (i:=3) hC rfl @3 (JX (QZ (Qa (xv 4) (Qa (xv 5) Qc)))))) Jm)))
  (Qm (QH (xo 3)))))⟩
def QbY (z:Z):List D->Fr:=JN [false,false,false] 6 (VL z).1
abbrev QbZ (z:Z)(y:Y):Prop:=Tf z.K y 1 "_law_beside" ["_law_losses_here","_law_r","_law_c"] [false,false,false] .O (QbY z)
def VM (z:Z):Dg z.K (Con z) "_law_places" (top 48)  1 ["_law_losses_here"] [false] .O 2 fun _ R=>R:=
 ⟨_,fun con F  => ["_law_losses_here","_law_wide"] >>> (Qg (Qz (i:=1) S rfl (z57 rfl) (Qo Qy (QbV hC) con.len z35 (Qa (QQ hC (xv 0) Qf) Qc)))
  (Qm (QH (Yw (p:=true) (par:=false) (cs:=[.me,.fz 1]) (N:=["_law_k","_law_wide"]) (j:=0) hC rfl Blk.of rfl rfl rfl (Qau con.range (Qfk (JQ QbO Qmn (Qo Qy (QbV hC) con.len z35 (Qa (xv 0) Qc)) (xv 1)) Qc)) (fun _ _ _ _ _=>Qav) (fun _ _ _ _ _=>Qaw fun Cb hb=>(JX (QZ (Qfk (JQ QeV QtV (xv 0) (xv 1)) (Qfk (JQ Qee QpG (xv 0) (xv 1)) Qc)))))))))⟩
def Qb0 (z:Z):List D->Fr:=JN [false] 2 (VM z).1
abbrev Qb1 (z:Z)(y:Y):Prop:=Tf z.K y 1 "_law_places" ["_law_losses_here"] [false] .O (Qb0 z)
def YD (z:Z):Dg z.K (Con z) "_law_are_rows" (top 49)  1 ["_law_losses_here","_law_rows"] [false,false] .V 3 fun _ R=>R:=
 ⟨_,fun con F  => ["_law_losses_here","_law_rows","_law_row"] <<< (Qg (Vp (PW.pt (Qar (JR (Jr (Qo Yi (Qnd hC) con.isinstance Jp (Qa (xv 1) (Qa (Y6 con.Qgn TL.boot_list) Qc))))) (Qdp (QJ (YX (Qba hr)) (QhX hC) (Qo Qy (QbV hC) con.len z35 (Qa (xv 1) Qc)) (Qo Qy (QbV hC) con.len z35 (Qa (xv 0) Qc)) (QD _))))) (Qm (QH Qah)) Jm)
  (Qg (Qai hown rfl (Q8 hC (xv 1)) (QG (i:=2) S rfl @13) JS (Qg (Vp (PW.pt (Qar (JR (Jr (Qo Yi (Qnd hC) con.isinstance Jp (Qa (xv 2) (Qa (Y6 con.Qgn TL.boot_list) Qc))))) (Qdp (QJ (YX (Qba hr)) (QhX hC) (Qo Qy (QbV hC) con.len z35 (Qa (xv 2) Qc)) (Qo Qy (QbV hC) con.len z35 (Qa (QQ hC (xv 0) Qf) Qc)) (QD _))))) (Qm (QH Qah)) Jm)
  (Qm (Vp (QJ (YX (Qba hr)) (QhX hC) (Qc4 (Yw (p:=true) (par:=false) (cs:=[.me]) (N:=["_law_number_here"]) (j:=0) hC rfl Blk.of rfl rfl rfl (Q8 hC (xv 2)) (fun _ _ _ _ _=>Qer fun Cb hb=>(PW.pt (Qar (JR (Jr (Qo Yi (Qnd hb) con.isinstance Jp (Qa (xv 0) (Qa (Y6 con.int_ Qdw) Qc))))) (Qdp (Jr (Qo Yi (Qnd hb) con.isinstance Jp (Qa (xv 0) (Qa (Y6 con.bool Qet) Qc)))))))) (fun _ _ _ _ _=>Qaw fun Cb hb=>(JX (xv 0))))) (YT Qc) (QD _)) (Qm (QH Qah)) Jm))))
  (Qm (QH Qah))))⟩
def QaE (z:Z):List D->Fr:=JN [false,false] 3 (YD z).1
abbrev QaF (z:Z)(y:Y):Prop:=Tf z.K y 1 "_law_are_rows" ["_law_losses_here","_law_rows"] [false,false] .V (QaE z)
def Qgq (z:Z):Dg z.K (Con z) "is_pair" (top 12)  2 ["value"] [false] .V 1 fun y R=>VG z y->R:=
 ⟨_,fun con F Q3=>["value"] <<< (Qm (QH (QgZ (QT (spk Q3 hC) Qj @20 (Qa (xv 0) Qc)) (Qi4 (Qkb (JZ (Qba hr)) (QfA hC) (Qo Qy (QbV hC) con.len z35 (Qa (xv 0) Qc)) Qf (QD _))))))⟩
def QaG (z:Z):List D->Fr:=JN [false] 1 (Qgq z).1
abbrev QdM (z:Z)(y:Y):Prop:=Tf z.K y 2 "is_pair" ["value"] [false] .V (QaG z)
def Y9 (z:Z):Df z.K (Con z) "places" "Floor.places" (inClass (top 16) 7)  2 ["self"] [false] .O 1 fun y R=>Qbz z y->R:=
 ⟨_,fun con F J9=>["self"] >>> (Qm (QH (QT (spk J9 hC) Qj @20 (Qa (Qev con.QS con.QF (xv 0)) Qc))))⟩
def Qbc (z:Z):List D->Fr:=JN [false] 1 (Y9 z).1
abbrev Qbd (z:Z)(y:Y):Prop:=Tm z.K y z.Qq 2 "places" ["self"] [false] .O (Qbc z)
def VN (z:Z):Dg z.K (Con z) "is_within" (top 19)  2 ["value","end"] [false,false] .V 2 fun y R=>Qcy z y->R:=
 ⟨_,fun con F Yt=>["value","end"] <<< (Qm (QH (QgZ (QT (spk Yt hC) Qj @20 (Qa (xv 0) Qc)) (Qi4 (Qku Qjz QfE dLe dLt Qf (xv 0) (xv 1))))))⟩
def Jt (z:Z):List D->Fr:=JN [false,false] 2 (VN z).1
abbrev QbD (z:Z)(y:Y):Prop:=Tf z.K y 2 "is_within" ["value","end"] [false,false] .V (Jt z)
def Qcz (z:Z):Dg z.K (Con z) "is_sized" (top 21)  2 ["listed"] [false] .V 1 fun y R=>VG z y->R:=
 ⟨_,fun con F Q3=>["listed"] <<< (Qm (QH (QgZ (QT (spk Q3 hC) Qj @20 (Qa (xv 0) Qc)) (Qi4 (Qku Qjz Qjz dLe dLe Qf (Qo Qy (QbV hC) con.len z35 (Qa (xv 0) Qc)) (Qbt (d:=.int 30) rfl ⟨_,rfl⟩ con.Qh8))))))⟩
def Qa3 (z:Z):List D->Fr:=JN [false] 1 (Qcz z).1
abbrev Qez (z:Z)(y:Y):Prop:=Tf z.K y 2 "is_sized" ["listed"] [false] .V (Qa3 z)
def JW (z:Z):Dg z.K (Con z) "check_numbers" (top 27)  2 ["row"] [false] .V 1 fun y R=>Qcy z y->R:=
 ⟨_,fun con F Yt=>["row"] <<< (Qm (Vp (JR (Jr (Qo (Qd4 rfl) (Qwf hC) con.QwA boot_all (Qa (Qc4 (Yw (p:=true) (par:=false) (cs:=[.me]) (N:=["value"]) (j:=0) hC rfl Blk.of rfl rfl rfl (Q8 hC (xv 0)) (fun _ _ _ _ _=>Qav) (fun _ _ _ _ _=>Qaw fun Cb hb=>(JX (QT (spk Yt hb) QbU @20 (Qa (xv 0) Qc)))))) Qc)))) (Qm (Qdz hd con.Ys con.Jx (YQ Yh Qc))) Jm))⟩
def QV (z:Z):List D->Fr:=JN [false] 1 (JW z).1
abbrev QaH (z:Z)(y:Y):Prop:=Tf z.K y 2 "check_numbers" ["row"] [false] .V (QV z)
def Qic (z:Z):Dg z.K (Con z) "lift" (top 30)  2 ["floor","rows","start"] [false,true,false] .V 4 fun y R=>JV z y->J8 z y->R:=
 ⟨_,fun con F QM QB=>["floor","rows","start","place"] <<< (Qg (Qz (i:=3) S rfl @13 (QQ hC (xv 2) Qf))
  (Qm (Vp (JR (Jr (x_m (Qhd QM hC) con.QS Qj @20 (xv 0) (Qa (xv 3) Qc)))) (Qm (Qfe (i:=1) hC (JX (Qo (QfG rfl) dI2 con.QuU Qdu (Qa (QQ hC (xv 2) Qf) (Qa (QT (spk QB hC) Qj @20 (Qa (xb 1) (Qa (xv 3) Qc))) Qc)))) (hg:=QcA (QiM QeS (pv 1) (QQ hC (xv 3) Qf) (fun _ _=>rfl)) (QQ hC (xv 3) Qf) set_list))) Jm)))⟩
def Qid (z:Z):List D->Fr:=JN [false,true,false] 4 (Qic z).1
abbrev Qnu (z:Z)(y:Y):Prop:=Tf z.K y 2 "lift" ["floor","rows","start"] [false,true,false] .V (Qid z)
def Qfm (z:Z):Dg z.K (Con z) "unlike" (top 35)  2 ["before","behind"] [false,false] .O 2 fun y R=>Qbz z y->J8 z y->R:=
 ⟨_,fun con F J9 QB=>["before","behind"] >>> (Qm (QH (Yw (p:=true) (par:=false) (cs:=[.me,.fz 0,.fz 1]) (N:=["place","before","behind"]) (j:=0) hC rfl Blk.of rfl rfl rfl (Q8 hC (Qc4 (QT (spk J9 hC) Qj @20 (Qa (xv 0) Qc)))) (fun _ _ _ _ _=>Qer fun Cb hb=>(QJ (YX (Qba hr)) (QhX hb) (QT (spk QB hb) QbU @20 (Qa (xv 1) (Qa (xv 0) Qc))) (QT (spk QB hb) QbU @20 (Qa (xv 2) (Qa (xv 0) Qc))) (QD _))) (fun _ _ _ _ _=>Qaw fun Cb hb=>(JX (xv 0))))))⟩
def Qie (z:Z):List D->Fr:=JN [false,false] 2 (Qfm z).1
abbrev Qif (z:Z)(y:Y):Prop:=Tf z.K y 2 "unlike" ["before","behind"] [false,false] .O (Qie z)
def QaI (z:Z):Dg z.K (Con z) "_law_purse" (top 39)  2 ["_law_script","_law_k"] [false,false] .O 3 fun y R=>QdL z y->QbC z y->R:=
 ⟨_,fun con F QbE Yb=>["_law_script","_law_k","_law_cell_here"] >>> (Qg (Qz (i:=2) S rfl @13 (QT (spk QbE hC) Qj @20 (Qa (xv 0) (Qa (xv 1) Qc))))
  (Qg (Vp (QJ QfE dLt (xv 2) (JQ Qef QpH Qf Qf) (QD _)) (Qm (QH (Qas (Qa (QT (spk Yb hC) Qj @20 (Qfk (JQ Q6 Qcv (xv 2) (JQ QbO Qmn Qf (xv 1))) Qc)) (Qa (xv 1) Qc))))) Jm)
  (Qm (QH (Qas (Qa (xv 2) (Qa (xv 1) Qc)))))))⟩
def QcI (z:Z):List D->Fr:=JN [false,false] 3 (QaI z).1
abbrev Y4 (z:Z)(y:Y):Prop:=Tf z.K y 2 "_law_purse" ["_law_script","_law_k"] [false,false] .O (QcI z)
def QbF (z:Z):Dg z.K (Con z) "_law_take" (top 40)  2 ["_law_purse_here","_law_many"] [true,false] .V 3 fun y R=>QbC z y->R:=
 ⟨_,fun con F Yb=>["_law_purse_here","_law_many","_law_found"] <<< (Qg (Vp (QJ (JZ (Qba hr)) (QfA hC) (Qcs hC (xb 0) Qf) Qf (QD _)) (Qg (Qdy (i:=0) hC rfl @3 (JX (JQ Q6 Qcv (Qcs hC (xb 0) Qf) Qf)) Qf (hg:=QcA (pv 0) Qf set_list))
  (Qm (Qdy (i:=0) hC rfl @3 (JX (QT (spk Yb hC) Qj @20 (Qa (Qcs hC (xb 0) Qf) Qc))) Qf (hg:=QcA (pv 0) Qf set_list)))) Jm)
  (Qg (Qz (i:=2) S rfl @13 (JQ Qee QpG (Qcs hC (xb 0) Qf) (xv 1)))
  (Qg (Qdy (i:=0) hC rfl @3 (JX (JQ QeV QtV (Qcs hC (xb 0) Qf) (xv 1))) Qf (hg:=QcA (pv 0) Qf set_list))
  (Qm (QH (xv 2))))))⟩
def YF (z:Z):List D->Fr:=JN [true,false] 3 (QbF z).1
abbrev Jd (z:Z)(y:Y):Prop:=Tf z.K y 2 "_law_take" ["_law_purse_here","_law_many"] [true,false] .V (YF z)
def QaJ (z:Z):Dg z.K (Con z) "_law_right" (top 50)  2 ["_law_losses_here","_law_rows","_law_starts_here","_law_told"] [false,false,false,false] .V 13 fun y R=>QbZ z y->Qb1 z y->QaF z y->R:=
 ⟨_,fun con F VP Yo YG=>["_law_losses_here","_law_rows","_law_starts_here","_law_told","_law_given","_law_place","_law_number_here","_law_found","_law_unlike","_law_r","_law_c","_law_right_here","_law_coming"] <<< (Qg (Vp (PW.pt (Qar (JR (Jr (Qo Yi (Qnd hC) con.isinstance Jp (Qa (xv 3) (Qa (Y6 con.tuple TL.boot_tuple) Qc))))) (Qar (QJ (YX (Qba hr)) (QhX hC) (Qo Qy (QbV hC) con.len z35 (Qa (xv 3) Qc)) Qf (QD _)) (Qdp (JR (Jr (QT (spk YG hC) Qj @20 (Qa (xv 0) (Qa (QQ hC (xv 3) Qf) Qc))))))))) (Qm (QH Qah)) Jm)
  (Qg (YW (i:=4) S rfl @13 QoC)
  (Qg (Qai hown rfl (Q8 hC (xv 2)) (Qdd rfl (Jo (QG (i:=5) S rfl @13) (Jo (QG (i:=6) S rfl @13) Qbo))) (Qdr hC) (Qm (Qre (i:=4) (QlW hr) rfl @3 (Qo (QfG rfl) dI2 con.QuU Qdu (Qa (xv 6) (Qa (Qk8 (QlW hr) (xb 4) (Qc5 con.tuple hC (Qa (xv 5) Qc)) (xv 6)) Qc))) (Qc5 con.tuple hC (Qa (xv 5) Qc)))))
  (Qg (Quz (Qdd rfl (Jo (QG (i:=7) S rfl (z57 rfl)) (Jo (QG (i:=8) S rfl @13) Qbo))) (Qdr hC) (xv 3))
  (Qg (Qai hown rfl (Q8 hC (Qc4 (QT (spk Yo hC) Qj @20 (Qa (xv 0) Qc)))) (Qdd rfl (Jo (QG (i:=9) S rfl (z57 rfl)) (Jo (QG (i:=10) S rfl (z57 rfl)) Qbo))) (Qdr hC) (Qg (Qz (i:=11) S rfl @13 (QQ hC (QQ hC (xv 1) (xv 9)) (xv 10)))
  (Qg (Vp (QJ QgJ dGt (QQ hC (QQ hC (xv 0) (xv 9)) (xv 10)) Qf (QD _)) (Qg (QmB (i0:=12) (par:=false) (cs:=[.me,.me,.fz 7,.fz 0,.fz 9,.fz 10]) (N:=["_law_a","_law_b","_law_found","_law_losses_here","_law_r","_law_c"]) hC rfl S rfl @13 Blk.of rfl rfl (Q8 hC (Qc4 (QT (spk VP hC) Qj @20 (Qa (xv 0) (Qa (xv 9) (Qa (xv 10) Qc)))))) (fun _ _ _ _ _=>Qdd rfl (Jo (QG (i:=0) (show(["_law_a","_law_b","_law_found","_law_losses_here","_law_r","_law_c"]:List Str).Nodup by decide) rfl (by first|exact z28 rfl|exact z57 rfl)) (Jo (QG (i:=1) (show(["_law_a","_law_b","_law_found","_law_losses_here","_law_r","_law_c"]:List Str).Nodup by decide) rfl (by first|exact z28 rfl|exact z57 rfl)) Qbo))) (fun _ _ _ _ _=>Qav) (fun _ _ _ _ _=>Qaw fun Cb hb=>(JX (JQ QcB Qnb (QQ hb (QQ hb (xv 2) (xv 0)) (xv 1)) (QQ hb (QQ hb (xv 3) (xv 4)) (xv 5))))))
  (Qm (Qz (i:=11) S rfl @13 (Qo (QkY rfl) (QuA hC) con.QuU Qdu (Qfk (QcD hC (YT (Qa (xv 11) (Qa (Qk8 (QlW hr) (xb 4) (QZ (Qa (xv 9) (Qa (xv 10) Qc))) (xv 11)) Qc))) (xv 12)) Qc))))) Jm)
  (Qm (Vp (QJ (YX (Qba hr)) (QhX hC) (QQ hC (QQ hC (xv 7) (xv 9)) (xv 10)) (xv 11) (QD _)) (Qm (QH Qah)) Jm)))))
  (Qm (QH (Qkb (JZ (Qba hr)) (QfA hC) (xv 8) (Qc4 (QmA (p:=true) (par:=false) (cs:=[.me,.me,.fz 7,.fz 1]) (N:=["_law_r","_law_c","_law_found","_law_rows"]) hC rfl Blk.of rfl rfl (Q8 hC (Qc4 (QT (spk Yo hC) Qj @20 (Qa (xv 0) Qc)))) (fun _ _ _ _ _=>Qdd rfl (Jo (QG (i:=0) (show(["_law_r","_law_c","_law_found","_law_rows"]:List Str).Nodup by decide) rfl (by first|exact z28 rfl|exact z57 rfl)) (Jo (QG (i:=1) (show(["_law_r","_law_c","_law_found","_law_rows"]:List Str).Nodup by decide) rfl (by first|exact z28 rfl|exact z57 rfl)) Qbo))) (fun _ _ _ _ _=>Qer fun Cb hb=>(QJ (YX (Qba hr)) (QhX hb) (QQ hb (QQ hb (xv 2) (xv 0)) (xv 1)) (QQ hb (QQ hb (xv 3) (xv 0)) (xv 1)) (QD _))) (fun _ _ _ _ _=>Qaw fun Cb hb=>(JX (QZ (Qa (xv 0) (Qa (xv 1) Qc))))))) (QD _)))))))))⟩
def QcJ (z:Z):List D->Fr:=JN [false,false,false,false] 13 (QaJ z).1
abbrev QcK (z:Z)(y:Y):Prop:=Tf z.K y 2 "_law_right" ["_law_losses_here","_law_rows","_law_starts_here","_law_told"] [false,false,false,false] .V (QcJ z)
def YH (z:Z):Df z.K (Con z) "has" "Floor.has" (inClass (top 16) 9)  3 ["self","place"] [false,false] .V 2 fun y R=>QaB z y->QaD z y->QdM z y->QbD z y->R:=
 ⟨_,fun con F JK JL Vw JF=>["self","place"] <<< (Qg (Vp (JR (Jr (QT (spk Vw hC) Qj @20 (Qa (xv 1) Qc)))) (Qm (QH Qah)) Jm)
  (Qm (QH (QgZ (QT (spk JF hC) Qj @20 (Qa (QQ hC (xv 1) Qf) (Qa (Qse (Qhd JK hC) con.QS Qj @20 (xv 0)) Qc))) (Qi4 (QT (spk JF hC) Qj @20 (Qa (QQ hC (xv 1) Qf) (Qa (Qse (Qhd JL hC) con.QS Qj @20 (xv 0)) Qc))))))))⟩
def VR (z:Z):List D->Fr:=JN [false,false] 2 (YH z).1
abbrev QbG (z:Z)(y:Y):Prop:=Tm z.K y z.Qq 3 "has" ["self","place"] [false,false] .V (VR z)
def Va (z:Z):Dg z.K (Con z) "is_rectangle" (top 20)  3 ["rows"] [false] .V 2 fun y R=>Qez z y->R:=
 ⟨_,fun con F Qa4=>["rows","row"] <<< (Qg (Vp (JR (Jr (QT (spk Qa4 hC) Qj @20 (Qa (xv 0) Qc)))) (Qm (QH Qah)) Jm)
  (Qg (Qai hown rfl (Q8 hC (xv 0)) (QG (i:=1) S rfl @13) JS (Qm (Vp (PW.pt (Qar (JR (Jr (QT (spk Qa4 hC) Qj @20 (Qa (xv 1) Qc)))) (Qdp (QJ (YX (Qba hr)) (QhX hC) (Qo Qy (QbV hC) con.len z35 (Qa (xv 1) Qc)) (Qo Qy (QbV hC) con.len z35 (Qa (QQ hC (xv 0) Qf) Qc)) (QD _))))) (Qm (QH Qah)) Jm)))
  (Qm (QH Qah))))⟩
def Qbe (z:Z):List D->Fr:=JN [false] 2 (Va z).1
abbrev Qbf (z:Z)(y:Y):Prop:=Tf z.K y 3 "is_rectangle" ["rows"] [false] .V (Qbe z)
def QdN (z:Z):Dg z.K (Con z) "is_loss" (top 23)  3 ["value"] [false] .V 1 fun y R=>QbD z y->R:=
 ⟨_,fun con F JF=>["value"] <<< (Qm (QH (QT (spk JF hC) Qj @20 (Qa (xv 0) (Qfk (JQ Qef QpH Qf Qf) Qc)))))⟩
def Qgr (z:Z):List D->Fr:=JN [false] 1 (QdN z).1
abbrev Qgs (z:Z)(y:Y):Prop:=Tf z.K y 3 "is_loss" ["value"] [false] .V (Qgr z)
def Yk (z:Z):Dg z.K (Con z) "check_rows" (top 26)  3 ["floor","rows"] [false,false] .V 3 fun y R=>VG z y->QaB z y->QaD z y->QaH z y->R:=
 ⟨_,fun con F Q3 JK JL YJ=>["floor","rows","row"] <<< (Qg (Vp (PW.pt (Qar (JR (Jr (QT (spk Q3 hC) Qj @20 (Qa (xv 1) Qc)))) (Qdp (QJ (YX (Qba hr)) (QhX hC) (Qo Qy (QbV hC) con.len z35 (Qa (xv 1) Qc)) (Qse (Qhd JK hC) con.QS Qj @20 (xv 0)) (QD _))))) (Qm (Qdz hd con.Ys con.Jx (YQ Yh Qc))) Jm)
  (Qm (Qai hown rfl (Q8 hC (xv 1)) (QG (i:=2) S rfl @13) JS (Qg (Vp (PW.pt (Qar (JR (Jr (QT (spk Q3 hC) Qj @20 (Qa (xv 2) Qc)))) (Qdp (QJ (YX (Qba hr)) (QhX hC) (Qo Qy (QbV hC) con.len z35 (Qa (xv 2) Qc)) (Qse (Qhd JL hC) con.QS Qj @20 (xv 0)) (QD _))))) (Qm (Qdz hd con.Ys con.Jx (YQ Yh Qc))) Jm)
  (Qm (Qat (QT (spk YJ hC) Qj @20 (Qa (xv 2) Qc))))))))⟩
def Yl (z:Z):List D->Fr:=JN [false,false] 3 (Yk z).1
abbrev QcL (z:Z)(y:Y):Prop:=Tf z.K y 3 "check_rows" ["floor","rows"] [false,false] .V (Yl z)
def Qfn (z:Z):Dg z.K (Con z) "givers" (top 31)  3 ["floor","rows"] [false,false] .O 4 fun y R=>JV z y->J8 z y->Qbd z y->R:=
 ⟨_,fun con F QM QB Vb=>["floor","rows","least","places"] >>> (Qg (Qz (i:=2) S rfl (z57 rfl) (Qo (Qgi rfl) (Qsg hC) con.QuV Qdv (Qa (Qc4 (Yw (p:=true) (par:=false) (cs:=[.me]) (N:=["row"]) (j:=0) hC rfl Blk.of rfl rfl rfl (Q8 hC (xv 1)) (fun _ _ _ _ _=>Qav) (fun _ _ _ _ _=>Qaw fun Cb hb=>(JX (Qo (Qgi rfl) (Qsg hb) con.QuV Qdv (Qa (xv 0) Qc)))))) Qc)))
  (Qg (QkI (i0:=3) (par:=false) (cs:=[.me,.fz 0]) (N:=["place","floor"]) (j:=0) hC rfl S rfl @13 Blk.of rfl rfl rfl (Q8 hC (Qc4 (Qse (Qhd Vb hC) con.QS Qj @20 (xv 0)))) (fun _ _ _ _ _=>Qer fun Cb hb=>(JR (Jr (x_m (Qhd QM hb) con.QS QbU @20 (xv 1) (Qa (xv 0) Qc))))) (fun _ _ _ _ _=>Qaw fun Cb hb=>(JX (xv 0))))
  (Qm (QH (Qmy (hu3 hr) hC con.sorted Qgj (Qa (Qc4 (Yw (p:=true) (par:=false) (cs:=[.me,.fz 1,.fz 2]) (N:=["place","rows","least"]) (j:=0) hC rfl Blk.of rfl rfl rfl (Q8 hC (xv 3)) (fun _ _ _ _ _=>Qer fun Cb hb=>(QJ QgJ dGt (QT (spk QB hb) QbU @20 (Qa (xv 1) (Qa (xv 0) Qc))) (xv 2) (QD _))) (fun _ _ _ _ _=>Qaw fun Cb hb=>(JX (QZ (Qa (QT (spk QB hb) QbU @20 (Qa (xv 1) (Qa (xv 0) Qc))) (Qa (xv 0) Qc))))))) Qc))))))⟩
def Qig (z:Z):List D->Fr:=JN [false,false] 4 (Qfn z).1
abbrev Qih (z:Z)(y:Y):Prop:=Tf z.K y 3 "givers" ["floor","rows"] [false,false] .O (Qig z)
def VV (z:Z):Dg z.K (Con z) "_law_number" (top 41)  3 ["_law_purse_here"] [true] .V 1 fun y R=>Jd z y->R:=
 ⟨_,fun con F Qh=>["_law_purse_here"] <<< (Qg (Vp (QJ (JZ (Qba hr)) (QfA hC) @5 Qf (QD _)) (Qm (QH (Qa1 (par:=true) (as:=[some 0,none]) (p:=false) (spk Qh hC) Qj @20 (Qa (xs 0) (Qa (JQ Qef QpH Qf Qf) Qc))))) Jm)
  (Qm (QH @5)))⟩
def V0 (z:Z):List D->Fr:=JN [true] 1 (VV z).1
abbrev Yp (z:Z)(y:Y):Prop:=Tf z.K y 3 "_law_number" ["_law_purse_here"] [true] .V (V0 z)
def QbH (z:Z):Dg z.K (Con z) "_law_loss" (top 42)  3 ["_law_purse_here"] [true] .V 2 fun y R=>Jd z y->R:=
 ⟨_,fun con F Qh=>["_law_purse_here","_law_way"] <<< (Qg (Qz (i:=1) S rfl @13 @5)
  (Qg (Vp (QJ QfE dLt (xv 1) Qf (QD _)) (Qm (QH Qf)) Jm)
  (Qg (Vp (QJ QfE dLt (xv 1) Qf (QD _)) (Qm (QH Qf)) Jm)
  (Qg (Vp (QJ (JZ (Qba hr)) (QfA hC) (xv 1) Qf (QD _)) (Qm (QH (JQ Q6 Qcv Qf @5))) Jm)
  (Qg (Vp (QJ (JZ (Qba hr)) (QfA hC) (xv 1) Qf (QD _)) (Qm (QH (JQ Q6 Qcv Qf @5))) Jm)
  (Qm (QH (JQ Q6 Qcv Qf (Qa1 (par:=true) (as:=[some 0,none]) (p:=false) (spk Qh hC) Qj @20 (Qa (xs 0) (Qa (JQ QcB Qnb (JQ Qef QpH Qf Qf) Qf) Qc)))))))))))⟩
def QbI (z:Z):List D->Fr:=JN [true] 2 (QbH z).1
abbrev QdO (z:Z)(y:Y):Prop:=Tf z.K y 3 "_law_loss" ["_law_purse_here"] [true] .V (QbI z)
def QbJ (z:Z):Dg z.K (Con z) "_law_size" (top 43)  3 ["_law_purse_here"] [true] .V 1 fun y R=>Jd z y->R:=
 ⟨_,fun con F Qh=>["_law_purse_here"] <<< (Qg (Vp (QJ (JZ (Qba hr)) (QfA hC) @5 Qf (QD _)) (Qm (QH (JQ Q6 Qcv Qf @5))) Jm)
  (Qm (QH (JQ Q6 Qcv Qf @5))))⟩
def QdP (z:Z):List D->Fr:=JN [true] 1 (QbJ z).1
abbrev QdQ (z:Z)(y:Y):Prop:=Tf z.K y 3 "_law_size" ["_law_purse_here"] [true] .V (QdP z)
def V1 (z:Z):Dg z.K (Con z) "_law_spoilt" (top 52)  3 ["_law_purse_here","_law_rows"] [true,false] .V 7 fun y R=>Jd z y->R:=
 ⟨_,fun con F Qh=>["_law_purse_here","_law_rows","_law_high","_law_r","_law_c","_law_way","_law_copy"] <<< (Qg (Qz (i:=2) S rfl @13 (Qo Qy (QbV hC) con.len z35 (@Qa _ _ _ _ _ _ _ _ _ _ _ (xv 1) Qc rfl rfl))) (Qg (Qz (i:=3) S rfl @13 (Qa1 (par:=true) (as:=[some 0,none]) (p:=false) (spk Qh hC) Qj @20 (@Qa _ _ _ _ _ _ _ _ _ _ _ (xs 0) (@Qa _ _ _ _ _ _ _ _ _ _ _ (xv 2) Qc rfl rfl) rfl rfl))) (Qg (Qz (i:=4) S rfl @13 (Qa1 (par:=true) (as:=[some 0,none]) (p:=false) (spk Qh hC) Qj @20 (@Qa _ _ _ _ _ _ _ _ _ _ _ (xs 0) (@Qa _ _ _ _ _ _ _ _ _ _ _ (Qo Qy (QbV hC) con.len z35 (@Qa _ _ _ _ _ _ _ _ _ _ _ (QQ hC (xv 1) Qf) Qc rfl rfl)) Qc rfl rfl) rfl rfl))) (Qg (Qz (i:=5) S rfl @13 (Qa1 (par:=true) (as:=[some 0,none]) (p:=false) (spk Qh hC) Qj @20 (@Qa _ _ _ _ _ _ _ _ _ _ _ (xs 0) (@Qa _ _ _ _ _ _ _ _ _ _ _ Qf Qc rfl rfl) rfl rfl))) (Qg (Qna (i0:=6) (par:=false) (cs:=[.me]) (N:=["_law_row"]) (j:=0) hC rfl S rfl @13 Blk.of rfl rfl rfl (Q8 hC (xv 1)) (fun _ _ _ _ _=>Qav) (fun _ _ _ _ _=>Qaw fun Cb hb=>(Qdq (x := "") con.Qgn hb (@Qa _ _ _ _ _ _ _ _ _ _ _ (xv 0) Qc rfl rfl)))) (Qg (Vp (QJ (JZ (Qba hr)) (QfA hC) (xv 5) Qf (QD _)) (@Qm _ _ _ _ _ _ (QH (QcD hC (Qja hC (xv 6) Qd8 (Y7 (xv 3))) (Qja hC (xv 6) (Y7 (JQ Q6 Qcv (xv 3) Qf)) Qd8)))) Jm) (Qg (Vp (QJ (JZ (Qba hr)) (QfA hC) (xv 5) Qf (QD _)) (@Qm _ _ _ _ _ _ (QH (QcD hC (QcD hC (Qja hC (xv 6) Qd8 (Y7 (xv 3))) (@YT _ _ _ _ _ _ _ _ (@Qa _ _ _ _ _ _ _ _ _ _ _ (@Qc4 _ _ _ _ _ _ (Qdq (x := "") con.Qgn hC (@Qa _ _ _ _ _ _ _ _ _ _ _ (Qcs hC (xb 6) (xv 3)) Qc rfl rfl))) Qc rfl rfl) rfl)) (Qja hC (xv 6) (Y7 (xv 3)) Qd8)))) Jm) (Qg (Vp (QJ (JZ (Qba hr)) (QfA hC) (xv 5) Qf (QD _)) (@Qm _ _ _ _ _ _ (Qdy (i:=6) hC rfl @3 (Qnf hC (@Qc4 _ _ _ _ _ _ (Qmq hC (Qcs hC (xb 6) (xv 3)) Qd8 (Y7 (xv 4)))) (@Qc4 _ _ _ _ _ _ (Qmq hC (Qcs hC (xb 6) (xv 3)) (Y7 (JQ Q6 Qcv (xv 4) Qf)) Qd8))) (xv 3) (hg:=QcA (pv 6) (xv 3) set_list))) (@Qm _ _ _ _ _ _ (Vp (QJ (JZ (Qba hr)) (QfA hC) (xv 5) Qf (QD _)) (@Qm _ _ _ _ _ _ (Qdy (i:=6) hC rfl @3 (Qnf hC (QcD hC (@Qc4 _ _ _ _ _ _ (Qmq hC (Qcs hC (xb 6) (xv 3)) Qd8 (Y7 (xv 4)))) (@YT _ _ _ _ _ _ _ _ (@Qa _ _ _ _ _ _ _ _ _ _ _ (QtL (Qcs hC (Qcs hC (xb 6) (xv 3)) (xv 4))) Qc rfl rfl) rfl)) (@Qc4 _ _ _ _ _ _ (Qmq hC (Qcs hC (xb 6) (xv 3)) (Y7 (xv 4)) Qd8))) (xv 3) (hg:=QcA (pv 6) (xv 3) set_list))) (@Qm _ _ _ _ _ _ (@Qfe _ _ _ _ _ _ _ _ _ _ _ _ _ _ _ _ _ _ _ _ hC (@Qsk _ _ _ _ _ _ _ _ _ _ _ hC (@Qo8 _ _ _ _ _ _ _ _ (@YQ _ _ _ _ _ _ _ _ _ _ _ _ _ (@JX _ _ _ _ _ _ Qah) (@YQ _ _ _ _ _ _ _ _ _ _ _ _ _ (@JX _ _ _ _ _ _ Qah) (@YQ _ _ _ _ _ _ _ _ _ _ _ _ _ (@JX _ _ _ _ _ _ Qf0) (@YQ _ _ _ _ _ _ _ _ _ _ _ _ _ (@JX _ _ _ _ _ _ Yh) (@YQ _ _ _ _ _ _ _ _ _ _ _ _ _ (@JX _ _ _ _ _ _ Yh) (@Qo9 _ _ _ _ _ _ _ _ _ _ _ _ (@Qas _ _ _ _ _ _ _ _ @18 rfl) (@QdG _ _ _ _ _ _ _ _ _ _ _ _ _ (@JX _ _ _ _ _ _ (@QZ _ _ _ _ _ _ _ _ _ (@YQ _ _ _ _ _ _ _ _ _ _ _ _ _ Qf @18 rfl) rfl)) (@Qo9 _ _ _ _ _ _ _ _ _ _ _ _ (@Qas _ _ _ _ _ _ _ _ Qc rfl) Qc rfl) rfl) rfl) rfl) rfl) rfl) rfl) rfl)) (Qa1 (par:=true) (as:=[some 0,none]) (p:=false) (spk Qh hC) Qj @20 (@Qa _ _ _ _ _ _ _ _ _ _ _ (xs 0) (@Qa _ _ _ _ _ _ _ _ _ _ _ Qf Qc rfl rfl) rfl rfl)) rfl (fun _ _=>rfl)) QuF QuG rfl (QcA (QiM QeS (pv 6) (xv 3) (fun _ _=>rfl)) (xv 4) set_list) rfl rfl))))) (@Qm _ _ _ _ _ _ (QH (xv 6)))))))))))⟩
def Qb2 (z:Z):List D->Fr:=JN [true,false] 7 (V1 z).1
abbrev Qb3 (z:Z)(y:Y):Prop:=Tf z.K y 3 "_law_spoilt" ["_law_purse_here","_law_rows"] [true,false] .V (Qb2 z)
def YK (z:Z):Dg z.K (Con z) "_law_no_place" (top 53)  3 ["_law_purse_here","_law_high","_law_wide"] [true,false,false] .V 4 fun y R=>Jd z y->R:=
 ⟨_,fun con F Qh=>["_law_purse_here","_law_high","_law_wide","_law_bad"] <<< (Qg (Qz (i:=3) S rfl @13 (@YT _ _ _ _ _ _ _ _ (@QdG _ _ _ _ _ _ _ _ _ _ _ _ _ (@QZ _ _ _ _ _ _ _ _ _ (@Qa _ _ _ _ _ _ _ _ _ _ _ (xv 1) @18 rfl rfl) rfl) (@QdG _ _ _ _ _ _ _ _ _ _ _ _ _ (@QZ _ _ _ _ _ _ _ _ _ (@YQ _ _ _ _ _ _ _ _ _ _ _ _ _ Qf (@Qa _ _ _ _ _ _ _ _ _ _ _ (xv 2) Qc rfl rfl) rfl) rfl) (@QdG _ _ _ _ _ _ _ _ _ _ _ _ _ (@QZ _ _ _ _ _ _ _ _ _ (@QvC _ _ _ _ _ _ _ _ _ _ _ _ _ (Qkt Qf) @18 rfl) rfl) (@QdG _ _ _ _ _ _ _ _ _ _ _ _ _ (@QZ _ _ _ _ _ _ _ _ _ (@YQ _ _ _ _ _ _ _ _ _ _ _ _ _ Qf (@QvC _ _ _ _ _ _ _ _ _ _ _ _ _ (Qkt Qf) Qc rfl) rfl) rfl) (@QdG _ _ _ _ _ _ _ _ _ _ _ _ _ (@QZ _ _ _ _ _ _ _ _ _ (@Qfk _ _ _ _ _ _ _ _ _ _ _ _ _ _ (JQ Q6 Qcv (xv 1) (JQ Qef QpH Qf Qf)) @18 rfl) rfl) (@QdG _ _ _ _ _ _ _ _ _ _ _ _ _ (@QZ _ _ _ _ _ _ _ _ _ @18 rfl) (@QdG _ _ _ _ _ _ _ _ _ _ _ _ _ (@QZ _ _ _ _ _ _ _ _ _ (@YQ _ _ _ _ _ _ _ _ _ _ _ _ _ Qf (@YQ _ _ _ _ _ _ _ _ _ _ _ _ _ Qf @18 rfl) rfl) rfl) (@QdG _ _ _ _ _ _ _ _ _ _ _ _ _ (@QZ _ _ _ _ _ _ _ _ _ Qc rfl) (@YQ _ _ _ _ _ _ _ _ _ _ _ _ _ Qf0 (@YQ _ _ _ _ _ _ _ _ _ _ _ _ _ Yh @18 rfl) rfl) rfl) rfl) rfl) rfl) rfl) rfl) rfl) rfl) rfl)) (Qg (Qz (i:=3) S rfl @13 (QcD hC (xv 3) (@YT _ _ _ _ _ _ _ _ (@QdG _ _ _ _ _ _ _ _ _ _ _ _ _ (@QZ _ _ _ _ _ _ _ _ _ (@YQ _ _ _ _ _ _ _ _ _ _ _ _ _ Qah @18 rfl) rfl) (@QdG _ _ _ _ _ _ _ _ _ _ _ _ _ (@QZ _ _ _ _ _ _ _ _ _ (@YQ _ _ _ _ _ _ _ _ _ _ _ _ _ Qf (@YQ _ _ _ _ _ _ _ _ _ _ _ _ _ Qah Qc rfl) rfl) rfl) (@QdG _ _ _ _ _ _ _ _ _ _ _ _ _ (@QZ _ _ _ _ _ _ _ _ _ (@YQ _ _ _ _ _ _ _ _ _ _ _ _ _ Qf0 @18 rfl) rfl) (@Qo9 _ _ _ _ _ _ _ _ _ _ _ _ (@YT _ _ _ _ _ _ _ _ @18 rfl) (@Qo9 _ _ _ _ _ _ _ _ _ _ _ _ (@YT _ _ _ _ _ _ _ _ (@YQ _ _ _ _ _ _ _ _ _ _ _ _ _ Qf (@Qa _ _ _ _ _ _ _ _ _ _ _ (xv 2) Qc rfl rfl) rfl) rfl) (@QdG _ _ _ _ _ _ _ _ _ _ _ _ _ (@QZ _ _ _ _ _ _ _ _ _ (@YQ _ _ _ _ _ _ _ _ _ _ _ _ _ Qf (@YQ _ _ _ _ _ _ _ _ _ _ _ _ _ Yh Qc rfl) rfl) rfl) (@Qo9 _ _ _ _ _ _ _ _ _ _ _ _ (@YT _ _ _ _ _ _ _ _ (@Qo9 _ _ _ _ _ _ _ _ _ _ _ _ (@YT _ _ _ _ _ _ _ _ (@YQ _ _ _ _ _ _ _ _ _ _ _ _ _ Qf @18 rfl) rfl) @18 rfl) rfl) Qc rfl) rfl) rfl) rfl) rfl) rfl) rfl) rfl))) (Qm (QH (QQ hC (xv 3) (Qa1 (par:=true) (as:=[some 0,none]) (p:=false) (spk Qh hC) Qj @20 (@Qa _ _ _ _ _ _ _ _ _ _ _ (xs 0) (@Qa _ _ _ _ _ _ _ _ _ _ _ Qf Qc rfl rfl) rfl rfl)))))))⟩
def QaK (z:Z):List D->Fr:=JN [true,false,false] 4 (YK z).1
abbrev QaL (z:Z)(y:Y):Prop:=Tf z.K y 3 "_law_no_place" ["_law_purse_here","_law_high","_law_wide"] [true,false,false] .V (QaK z)
def Je (z:Z):Df z.K (Con z) "check_place" "Floor.check_place" (inClass (top 16) 10)  4 ["self","place"] [false,false] .V 2 fun y R=>QbG z y->R:=
 ⟨_,fun con F Yc=>["self","place"] <<< (Qm (Vp (JR (Jr (x_m (Qhd Yc hC) con.QS Qj @20 (xv 0) (Qa (xv 1) Qc)))) (Qm (Qdz hd con.Qaz con.Yy (YQ Yh Qc))) Jm))⟩
def Jf (z:Z):List D->Fr:=JN [false,false] 2 (Je z).1
abbrev Jg (z:Z)(y:Y):Prop:=Tm z.K y z.Qq 4 "check_place" ["self","place"] [false,false] .V (Jf z)
def Vc (z:Z):Dg z.K (Con z) "check_losses" (top 22)  4 ["row"] [false] .V 2 fun y R=>Qgs z y->R:=
 ⟨_,fun con F QdR=>["row","value"] <<< (Qm (Qai hown rfl (Q8 hC (xv 0)) (QG (i:=1) S rfl @13) JS (Qm (Vp (JR (Jr (QT (spk QdR hC) Qj @20 (Qa (xv 1) Qc)))) (Qm Qnk) Jm))))⟩
def Qbg (z:Z):List D->Fr:=JN [false] 2 (Vc z).1
abbrev Qbh (z:Z)(y:Y):Prop:=Tf z.K y 4 "check_losses" ["row"] [false] .V (Qbg z)
def V2 (z:Z):Dg z.K (Con z) "_law_losses" (top 44)  4 ["_law_script","_law_start"] [false,false] .O 8 fun y R=>Y4 z y->QdO z y->QdQ z y->R:=
 ⟨_,fun con F QW QbK V3=>["_law_script","_law_start","_law_head","_law_high","_law_wide","_law_found","_law_r","_law_purse_here"] >>> (Qg (YW (i:=2) S rfl @13 (QT (spk QW hC) Qj @20 (Qa (xv 0) (Qa (xv 1) Qc))))
  (Qg (Qz (i:=3) S rfl @13 (Qa1 (par:=false) (as:=[some 2]) (p:=false) (spk V3 hC) Qj @20 (Qa (xs 2) Qc)))
  (Qg (Qz (i:=4) S rfl @13 (Qa1 (par:=false) (as:=[some 2]) (p:=false) (spk V3 hC) Qj @20 (Qa (xs 2) Qc)))
  (Qg (YW (i:=5) S rfl @13 (Qas Qc))
  (Qg (Qai hown rfl (Qau con.range (Qa (xv 3) Qc)) (QG (i:=6) S rfl @13) JS (Qg (YW (i:=7) S rfl (z57 rfl) (QT (spk QW hC) Qj @20 (Qa (xv 0) (Qfk (JQ Q6 Qcv (JQ Q6 Qcv (xv 1) Qf) (xv 6)) Qc))))
  (Qm (Qky (i:=5) hC rfl @3 (Yw (p:=false) (par:=false) (cs:=[.me,.io 7]) (N:=["_law_c","_law_purse_here"]) (j:=0) hC rfl Blk.of rfl rfl rfl (Qau con.range (Qa (xv 4) Qc)) (fun _ _ _ _ _=>Qav) (fun _ _ _ _ _=>Qaw fun Cb hb=>(JX (Qa1 (par:=true) (as:=[some 1]) (p:=false) (spk QbK hb) QbU @20 (Qa (xs 1) Qc)))))))))
  (Qm (QH (xo 5))))))))⟩
def Qb4 (z:Z):List D->Fr:=JN [false,false] 8 (V2 z).1
abbrev Qb5 (z:Z)(y:Y):Prop:=Tf z.K y 4 "_law_losses" ["_law_script","_law_start"] [false,false] .O (Qb4 z)
def Vd (z:Z):Dg z.K (Con z) "_law_numbers" (top 45)  4 ["_law_script","_law_start","_law_losses_here"] [false,false,false] .O 9 fun y R=>Y4 z y->Jd z y->Yp z y->R:=
 ⟨_,fun con F QW Qh QX=>["_law_script","_law_start","_law_losses_here","_law_found","_law_r","_law_purse_here","_law_row","_law_loss_here","_law_lit"] >>> (Qg (YW (i:=3) S rfl @13 (Qas Qc))
  (Qg (Qai hown rfl (Qau con.range (Qa (Qo Qy (QbV hC) con.len z35 (Qa (xv 2) Qc)) Qc)) (QG (i:=4) S rfl @13) JS (Qg (YW (i:=5) S rfl @13 (QT (spk QW hC) Qj @20 (Qa (xv 0) (Qfk (JQ Q6 Qcv (xv 1) (xv 4)) Qc))))
  (Qg (YW (i:=6) S rfl @13 (Qas Qc))
  (Qg (Qai hown rfl (Q8 hC (QQ hC (xv 2) (xv 4))) (QG (i:=7) S rfl @13) JS (Qg (Qz (i:=8) S rfl @13 (Qa1 (par:=false) (as:=[some 5,none]) (p:=false) (spk Qh hC) Qj @20 (Qa (xs 5) (Qa Qf Qc))))
  (Qm (Qky (i:=6) hC rfl @3 (QqV (PW.pt (Qe8 (QJ QgJ dGt (xv 7) Qf (QD _)) (Qdp (QJ QgJ dGt (xv 8) Qf (QD _))))) (JX (Qa1 (par:=false) (as:=[some 5]) (p:=false) (spk QX hC) Qj @20 (Qa (xs 5) Qc))) (JX Qf))))))
  (Qm (Qky (i:=3) hC rfl @3 (xo 6)))))))
  (Qm (QH (xo 3)))))⟩
def Qbi (z:Z):List D->Fr:=JN [false,false,false] 9 (Vd z).1
abbrev Qbj (z:Z)(y:Y):Prop:=Tf z.K y 4 "_law_numbers" ["_law_script","_law_start","_law_losses_here"] [false,false,false] .O (Qbi z)
def V4 (z:Z):Dg z.K (Con z) "_law_starts" (top 46)  4 ["_law_purse_here","_law_rows"] [true,false] .O 8 fun y R=>Jd z y->Yp z y->R:=
 ⟨_,fun con F Qh QX=>["_law_purse_here","_law_rows","_law_found","_law_k","_law_r","_law_c","_law_way","_law_number_here"] >>> (Qg (YW (i:=2) S rfl @13 (Qas Qc))
  (Qg (Qai hown rfl (Qau con.range (Qa @5 Qc)) (QG (i:=3) S rfl @13) JS (Qg (Qz (i:=4) S rfl @13 (Qa1 (par:=true) (as:=[some 0,none]) (p:=false) (spk Qh hC) Qj @20 (Qa (xs 0) (Qa (Qo Qy (QbV hC) con.len z35 (Qa (xv 1) Qc)) Qc))))
  (Qg (Qz (i:=5) S rfl @13 (Qa1 (par:=true) (as:=[some 0,none]) (p:=false) (spk Qh hC) Qj @20 (Qa (xs 0) (Qa (Qo Qy (QbV hC) con.len z35 (Qa (QQ hC (xv 1) Qf) Qc)) Qc))))
  (Qg (Qz (i:=6) S rfl @13 @5)
  (Qg (Qz (i:=7) S rfl @13 (Qa1 (par:=true) (as:=[some 0]) (p:=false) (spk QX hC) Qj @20 (Qa (xs 0) Qc)))
  (Qg (Vp (QJ (JZ (Qba hr)) (QfA hC) (xv 6) Qf (QD _)) (Qm (Qz (i:=7) S rfl @13 (Qkt (xv 7)))) (Qm (Vp (QJ (JZ (Qba hr)) (QfA hC) (xv 6) Qf (QD _)) (Qm (Qz (i:=7) S rfl @13 (Qo (QjB rfl) dI2 con.QuV Qdv (Qfk (JQ Q6 Qcv (QQ hC (QQ hC (xv 1) (xv 4)) (xv 5)) (JQ Qee QpG (xv 7) Qf)) (Qfk (JQ QcB Qnb (JQ Qef QpH Qf Qf) Qf) Qc))))) Jm)))
  (Qm (Qky (i:=2) hC rfl @3 (JX (QZ (QdG (QZ (Qa (xv 4) (Qa (xv 5) Qc))) (Qa (xv 7) Qc))))))))))))
  (Qm (QH (xo 2)))))⟩
def Qb6 (z:Z):List D->Fr:=JN [true,false] 8 (V4 z).1
abbrev Qb7 (z:Z)(y:Y):Prop:=Tf z.K y 4 "_law_starts" ["_law_purse_here","_law_rows"] [true,false] .O (Qb6 z)
def Ym (z:Z):Di z.K (Con z) "Floor.__init__" z.Qq (inClass (top 16) 0) 5 ["self","rows"] 3 "losses" (fun y R=>Qbf z y->Qbh z y->R):=
 ⟨_,fun{y f fd} con F Ve Vf=>have S:Qbp ["self","rows","row"] ["self","rows"] (QL (inClass (top 16) 0)):=⟨rfl,rfl,rfl,by decide +kernel,rfl,by decide +kernel,by decide +kernel⟩;fnI F S con.QS con.QF fun cdv A outer s H E C x hC hr hd=>have hown:=@Qu7 y.P y.w z.K y.mg y.base ["self","rows","row"] "Floor.__init__" (QL (inClass (top 16) 0)) f cdv A outer s H E;(Qnn (Vp (JR (Jr (QT (spk Ve hC) Qj @20 (Qa (xv 1) Qc)))) (Qm Qnk) Jm)
  (Qnn (Qai hown rfl (Q8 hC (xv 1)) (QG (i:=2) S.nd rfl @13) JS (Qm (Qat (QT (spk Vf hC) Qj @20 (Qa (xv 2) Qc)))))
  (Quv hC rfl @3 (Qc5 con.tuple hC (Qa (Qc4 (Yw (p:=true) (par:=false) (cs:=[.me]) (N:=["row"]) (j:=0) hC rfl Blk.of rfl rfl rfl (Q8 hC (xv 1)) (fun _ _ _ _ _=>Qav) (fun _ _ _ _ _=>Qaw fun Cb hb=>(JX (Qc5 con.tuple hb (Qa (xv 0) Qc)))))) Qc)))))⟩
def QaM (z:Z):Addr->D->Fr:=QpL z.Qq 3 "losses" (Ym z).1
abbrev QcM (z:Z)(y:Y):Prop:=Ti z.K y z.Qq 5 "Floor" ["self","rows"] (QaM z)
def QaN (z:Z):Df z.K (Con z) "loss" "Floor.loss" (inClass (top 16) 4)  5 ["self","place"] [false,false] .V 2 fun y R=>Jg z y->R:=
 ⟨_,fun con F Qw=>["self","place"] <<< (Qg (Qat (x_m (Qhd Qw hC) con.QS Qj @20 (xv 0) (Qa (xv 1) Qc)))
  (Qm (QH (QQ hC (QQ hC (Qev con.QS con.QF (xv 0)) (QQ hC (xv 1) Qf)) (QQ hC (xv 1) Qf)))))⟩
def QcN (z:Z):List D->Fr:=JN [false,false] 2 (QaN z).1
abbrev QcO (z:Z)(y:Y):Prop:=Tm z.K y z.Qq 5 "loss" ["self","place"] [false,false] .V (QcN z)
def Vg (z:Z):Df z.K (Con z) "beside" "Floor.beside" (inClass (top 16) 5)  5 ["self","place"] [false,false] .O 2 fun y R=>JV z y->Qib z y->QbG z y->Jg z y->R:=
 ⟨_,fun con F QM Qfo Yc Qw=>["self","place"] >>> (Qg (Qat (x_m (Qhd Qw hC) con.QS Qj @20 (xv 0) (Qa (xv 1) Qc)))
  (Qm (QH (Yw (p:=true) (par:=false) (cs:=[.me,.fz 0]) (N:=["near","self"]) (j:=0) hC rfl Blk.of rfl rfl rfl (Q8 hC (Qc4 (Qa1 (par:=false) (as:=[none]) (p:=true) (spk Qfo hC) Qj @20 (Qa (xv 1) Qc)))) (fun _ _ _ _ _=>Qer fun Cb hb=>(PW.pt (Qe8 (Jr (x_m (Qhd Yc hb) con.QS QbU @20 (xv 1) (Qa (xv 0) Qc))) (Qdp (JR (Jr (x_m (Qhd QM hb) con.QS QbU @20 (xv 1) (Qa (xv 0) Qc)))))))) (fun _ _ _ _ _=>Qaw fun Cb hb=>(JX (xv 0)))))))⟩
def Qbk (z:Z):List D->Fr:=JN [false,false] 2 (Vg z).1
abbrev Qbl (z:Z)(y:Y):Prop:=Tm z.K y z.Qq 5 "beside" ["self","place"] [false,false] .O (Qbk z)
def Yq (z:Z):Dg z.K (Con z) "check_start" (top 28)  5 ["floor","start"] [false,false] .V 2 fun y R=>QdM z y->Jg z y->R:=
 ⟨_,fun con F Vw Qw=>["floor","start"] <<< (Qg (Vp (JR (Jr (QT (spk Vw hC) Qj @20 (Qa (xv 1) Qc)))) (Qm (Qdz hd con.Qaz con.Yy (YQ Yh Qc))) Jm)
  (Qm (Qat (x_m (Qhd Qw hC) con.QS Qj @20 (xv 0) (Qa (QQ hC (xv 1) Qf) Qc)))))⟩
def Yr (z:Z):List D->Fr:=JN [false,false] 2 (Yq z).1
abbrev Qb8 (z:Z)(y:Y):Prop:=Tf z.K y 5 "check_start" ["floor","start"] [false,false] .V (Yr z)
def Qle (z:Z):Dg z.K (Con z) "give" (top 32)  6 ["floor","rows","waiting","entry"] [false,true,true,false] .V 6 fun y R=>Vv z y->J8 z y->QcO z y->Qbl z y->R:=
 ⟨_,fun con F Yd QB QaO Vh=>["floor","rows","waiting","entry","near","number"] <<< (Qm (Qai hown rfl (Q8 hC (Qc4 (x_m (Qhd Vh hC) con.QS Qj @20 (xv 0) (Qa (QQ hC (xv 3) Qf) Qc)))) (QG (i:=4) S rfl @13) JS (Qg (Qz (i:=5) S rfl @13 (JQ QcB Qnb (QQ hC (xv 3) Qf) (x_m (Qhd QaO hC) con.QS Qj @20 (xv 0) (Qa (xv 4) Qc))))
  (Qm (Vp (QJ QgJ dGt (xv 5) (QT (spk QB hC) Qj @20 (Qa (xb 1) (Qa (xv 4) Qc))) (QD _)) (Qg (Qfe (i:=1) hC (JX (xv 5)) (hg:=QcA (QiM QeS (pv 1) (QQ hC (xv 4) Qf) (fun _ _=>rfl)) (QQ hC (xv 4) Qf) set_list))
  (Qm (Qat (Qa1 (par:=true) (as:=[some 2,none]) (p:=false) (spk Yd hC) Qj @20 (Qa (xs 2) (Qa (QZ (Qa (xv 5) (Qa (xv 4) Qc))) Qc)))))) Jm)))))⟩
def Qnv (z:Z):List D->Fr:=JN [false,true,true,false] 6 (Qle z).1
abbrev Qnw (z:Z)(y:Y):Prop:=Tf z.K y 6 "give" ["floor","rows","waiting","entry"] [false,true,true,false] .V (Qnv z)
def Qfp (z:Z):Dg z.K (Con z) "spread" (top 29)  7 ["floor","rows","starts"] [false,false,false] .O 7 fun y R=>J8 z y->Qnu z y->Qih z y->Qnw z y->R:=
 ⟨_,fun con F QB Qlf Qfq Qlg=>["floor","rows","starts","behind","start","waiting","entry"] >>> (Qg (Qna (i0:=3) (par:=false) (cs:=[.me]) (N:=["row"]) (j:=0) hC rfl S rfl @13 Blk.of rfl rfl rfl (Q8 hC (xv 1)) (fun _ _ _ _ _=>Qav) (fun _ _ _ _ _=>Qaw fun Cb hb=>(Qdq (x := "") con.Qgn hb (Qa (xv 0) Qc))))
  (Qg (Qai hown rfl (Q8 hC (xv 2)) (QG (i:=4) S rfl @13) JS (Qm (Qat (Qa1 (par:=false) (as:=[none,some 3,none]) (p:=false) (spk Qlf hC) Qj @20 (Qa (xv 0) (Qa (xs 3) (Qa (xv 4) Qc)))))))
  (Qg (YW (i:=5) S rfl @13 (QT (spk Qfq hC) Qj @20 (Qa (xv 0) (Qa (xb 3) Qc))))
  (Qg (Qkh (n:=1000000) hown (QJ QgJ dGt (Qo Qy (QbV hC) con.len z35 (Qa (xb 5) Qc)) Qf (QD _)) (Qg (Qz (i:=6) S rfl @13 (Qsf (i:=5) rfl @3))
  (Qm (Vp (QJ (JZ (Qba hr)) (QfA hC) (QT (spk QB hC) Qj @20 (Qa (xb 3) (Qa (QQ hC (xv 6) Qf) Qc))) (QQ hC (xv 6) Qf) (QD _)) (Qm (Qat (Qa1 (par:=false) (as:=[none,some 3,some 5,none]) (p:=false) (spk Qlg hC) Qj @20 (Qa (xv 0) (Qa (xs 3) (Qa (xs 5) (Qa (xv 6) Qc))))))) Jm))))
  (Qm (QH (xo 3)))))))⟩
def Qii (z:Z):List D->Fr:=JN [false,false,false] 7 (Qfp z).1
abbrev Qij (z:Z)(y:Y):Prop:=Tf z.K y 7 "spread" ["floor","rows","starts"] [false,false,false] .O (Qii z)
def Qb9 (z:Z):Dg z.K (Con z) "raised" (top 25)  8 ["floor","rows","starts"] [false,false,false] .O 5 fun y R=>Qif z y->QcL z y->Qb8 z y->Qij z y->R:=
 ⟨_,fun con F Qfr QaP V5 Qfs=>["floor","rows","starts","start","behind"] >>> (Qg (Qat (QT (spk QaP hC) Qj @20 (Qa (xv 0) (Qa (xv 1) Qc))))
  (Qg (Qai hown rfl (Q8 hC (xv 2)) (QG (i:=3) S rfl @13) JS (Qm (Qat (QT (spk V5 hC) Qj @20 (Qa (xv 0) (Qa (xv 3) Qc))))))
  (Qg (YW (i:=4) S rfl @13 (QT (spk Qfs hC) Qj @20 (Qa (xv 0) (Qa (xv 1) (Qa (xv 2) Qc)))))
  (Qm (QH (Qrh (Qa (xs 4) (Qa (QT (spk Qfr hC) Qj @20 (Qa (xv 1) (Qa (xb 4) Qc))) Qc))))))))⟩
def Qa5 (z:Z):List D->Fr:=JN [false,false,false] 5 (Qb9 z).1
abbrev Qft (z:Z)(y:Y):Prop:=Tf z.K y 8 "raised" ["floor","rows","starts"] [false,false,false] .O (Qa5 z)
def Vi (z:Z):Dg z.K (Con z) "_law_refused" (top 51)  9 ["_law_floor","_law_rows","_law_starts_here"] [false,false,false] .V 5 fun y R=>Qft z y->R:=
 ⟨_,fun con F V6=>["_law_floor","_law_rows","_law_starts_here","_law_told","e"] <<< (Qg (Qz (i:=3) S rfl @13 Qf0)
  (Qg (Qsl (K:=z.K) (hs:=[(z.Js,4,(Qi7 3 (mV 4)))]) rfl hC QeW (Ql1 (i:=4) con.Yx S (fun ev=>(Qm (Qz (i:=3) S rfl @13 (xv 4)))) Qoh) (fun C' hK' E' QiE D' hx=>(Qm (Qat (Qc4 (QT (spk V6 hK') hx @20 (Qa (xv 0) (Qa (xv 1) (Qa (xv 2) Qc)))))))))
  (Qg (Vp (PW.pt (Qar (QJ Qqa Qwr (xv 3) Qf0 (QD _)) (Qar (JR (Jr (Qo (g:=Qd9 z.K) Vm (Qjc hC) con.isinstance Jp (Qa (xv 3) (Qa (Y6 con.ValueError QdF) Qc))))) (Qar (Jr (Qo (g:=Qd9 z.K) Vm (Qjc hC) con.isinstance Jp (Qa (xv 3) (Qa (Qbt (d:=.cls z.Q9) rfl rfl con.Yj) Qc)))) (Qdp (Jr (Qo (g:=Qd9 z.K) Vm (Qjc hC) con.isinstance Jp (Qa (xv 3) (Qa (Qbt (d:=.cls z.Y0) rfl rfl con.QbX) Qc))))))))) (Qm (QH Yh)) Jm)
  (Qg (Vp (QJ (JZ (Qba hr)) (QfA hC) (Qo (g:=Qd9 z.K) Vm (Qjc hC) con.isinstance Jp (Qa (xv 3) (Qa (Qbt (d:=.cls z.Qn) rfl rfl con.Jx) Qc))) (Qo (g:=Qd9 z.K) Vm (Qjc hC) con.isinstance Jp (Qa (xv 3) (Qa (Qbt (d:=.cls z.Qv) rfl rfl con.Yy) Qc))) (QD _)) (Qm (QH Yh)) Jm)
  (Qm (QH (QQ hC (YT (YQ Yh (YQ Yh Qc))) (Qme QkO Qwq con.int_ Qdw (Qa (Qo (g:=Qd9 z.K) Vm (Qjc hC) con.isinstance Jp (Qa (xv 3) (Qa (Qbt (d:=.cls z.Qn) rfl rfl con.Jx) Qc))) Qc)))))))))⟩
def Qbm (z:Z):List D->Fr:=JN [false,false,false] 5 (Vi z).1
abbrev Qbn (z:Z)(y:Y):Prop:=Tf z.K y 9 "_law_refused" ["_law_floor","_law_rows","_law_starts_here"] [false,false,false] .V (Qbm z)
def Qpj (z:Z):Dg z.K (Con z) "law" (top 54)  10 ["_law_script"] [false] .V 14 fun y R=>Y4 z y->Jd z y->QcK z y->Yp z y->Qb3 z y->QaL z y->Qb5 z y->Qbj z y->Qb7 z y->QcM z y->Qft z y->Qbn z y->R:=
 ⟨_,fun con F QW Qh QaQ QX V7 YL V8 Vj V9 QaR V6 Jk=>["_law_script","_law_losses_here","_law_rows","_law_purse_here","_law_starts_here","_law_floor","_law_told","_law_copy","_law_k","_law_spoilt_here","_law_bad","_law_at","_law_mixed","_law_again"] <<< (Qg (Qz (i:=1) S rfl @13 (Qc4 (QT (spk V8 hC) Qj @20 (Qa (xv 0) (YQ Qf Qc)))))
  (Qg (Qz (i:=2) S rfl @13 (Qc4 (QT (spk Vj hC) Qj @20 (Qa (xv 0) (YQ Qf (Qa (xv 1) Qc))))))
  (Qg (YW (i:=3) S rfl @13 (QT (spk QW hC) Qj @20 (Qa (xv 0) (YQ Qf Qc))))
  (Qg (Qz (i:=4) S rfl @13 (Qc4 (Qa1 (par:=false) (as:=[some 3,none]) (p:=false) (spk V9 hC) Qj @20 (Qa (xs 3) (Qa (xv 2) Qc)))))
  (Qg (Qz (i:=5) S rfl @13 (Quu (Qwu QaR hC) Qj @20 (Qa (xv 1) Qc)))
  (Qg (Qz (i:=6) S rfl @13 (Qc4 (QT (spk V6 hC) Qj @20 (Qa (xv 5) (Qa (xv 2) (Qa (xv 4) Qc))))))
  (Qg (QkI (i0:=7) (par:=false) (cs:=[.me]) (N:=["_law_row"]) (j:=0) hC rfl S rfl @13 Blk.of rfl rfl rfl (Q8 hC (xv 2)) (fun _ _ _ _ _=>Qav) (fun _ _ _ _ _=>Qaw fun Cb hb=>(Qdq (x := "") con.Qgn hb (Qa (xv 0) Qc))))
  (Qg (YW (i:=3) S rfl @13 (QT (spk QW hC) Qj @20 (Qa (xv 0) (YQ Qf Qc))))
  (Qg (Qai hown rfl (Qau con.range (YQ Qf Qc)) (QG (i:=8) S rfl @13) JS (Qg (Qz (i:=9) S rfl @13 (Qa1 (par:=false) (as:=[some 3,none]) (p:=false) (spk V7 hC) Qj @20 (Qa (xs 3) (Qa (xv 2) Qc))))
  (Qg (Qz (i:=10) S rfl @13 (QZ (Qa (Qa1 (par:=false) (as:=[some 3,none,none]) (p:=false) (spk YL hC) Qj @20 (Qa (xs 3) (Qa (Qo Qy (QbV hC) con.len z35 (Qa (xv 1) Qc)) (Qa (Qo Qy (QbV hC) con.len z35 (Qa (QQ hC (xv 1) Qf) Qc)) Qc)))) (Qa (Qa1 (par:=false) (as:=[some 3]) (p:=false) (spk QX hC) Qj @20 (Qa (xs 3) Qc)) Qc))))
  (Qg (Qz (i:=11) S rfl @13 (Qa1 (par:=false) (as:=[some 3,none]) (p:=false) (spk Qh hC) Qj @20 (Qa (xs 3) (Qa (JQ Q6 Qcv (Qo Qy (QbV hC) con.len z35 (Qa (xv 4) Qc)) Qf) Qc))))
  (Qg (Qz (i:=12) S rfl @13 (QcD hC (QcD hC (Qja hC (xv 4) Qd8 (Y7 (xv 11))) (YT (Qa (xv 10) Qc))) (Qja hC (xv 4) (Y7 (xv 11)) Qd8)))
  (Qg (Vp (QJ (YX (Qba hr)) (QhX hC) (QT (spk Jk hC) Qj @20 (Qa (xv 5) (Qa (xv 9) (Qa (xv 4) Qc)))) Yh (QD _)) (Qm (QH Qah)) Jm)
  (Qg (Vp (QJ (YX (Qba hr)) (QhX hC) (QT (spk Jk hC) Qj @20 (Qa (xv 5) (Qa (xv 9) (Qa (xv 12) Qc)))) Yh (QD _)) (Qm (QH Qah)) Jm)
  (Qg (Vp (QJ (YX (Qba hr)) (QhX hC) (QT (spk Jk hC) Qj @20 (Qa (xv 5) (Qa (xv 2) (Qa (xv 12) Qc)))) Yh (QD _)) (Qm (QH Qah)) Jm)
  (Qm (Vp (QJ (YX (Qba hr)) (QhX hC) (QT (spk Jk hC) Qj @20 (Qa (xv 5) (Qa (xv 2) (Qo9 (YT (Qa (xv 10) Qc)) Qc)))) Yh (QD _)) (Qm (QH Qah)) Jm))))))))))
  (Qg (Qz (i:=13) S rfl @13 (Qc4 (QT (spk V6 hC) Qj @20 (Qa (xv 5) (Qa (xv 2) (Qa (xv 4) Qc))))))
  (Qm (QH (QgZ (Qkb (JZ (Qba hr)) (QfA hC) (xv 2) (xv 7) (QD _)) (QgZ (QT (spk QaQ hC) Qj @20 (Qa (xv 1) (Qa (xv 2) (Qa (xv 4) (Qa (xv 13) Qc))))) (Qi4 (Qkb (JZ (Qba hr)) (QfA hC) (xv 13) (xv 6) (QD _)))))))))))))))))⟩
def QsB (z:Z):List D->Fr:=JN [false] 14 (Qpj z).1
end
end H31
open PySem PySem.Spec L2 L2.Srt TL
local macro_rules
 | `(~~~$x)=>`(some (TL.Sl.frz $x))
local macro_rules
 | `(tactic| simp? only[$xs,*])=>`(tactic| simp only[w_S,Qrr,Qrs,Qrl,Qrm,w_V,Qrn,Qro,Qrp,w_B,Qrq,w_O,w_C,Qua,w_I,Qrt,Qwm,Qub,Qru,Quc,Qud,Qrv,Que,Qrw,Qwn,Qrx,Quf,Qug,Qry,Qrz,QrA,QoK,QrB,Quh,QrC,Qui,QrD,QrE,Qnj,QoL,QrF,QrG,QrH,Quj,QrI,Quk,QrJ,Qwo,QrK,QrL,QrM,QrN,QrO,QrP,Qwp,QoM,QrQ,QoN,QrR,Qum,QrS,QrT,QrU,QrV,QrW,QrX,QrY,QoO,Q5,Qi,Int.reduceEq,Qt9,Qam,Qm7,QtX,Qax,mkS,asB,asI,asL,Qwy,Qwz,atI,ixN,Qvn,TL.QpD,Qvo,Qvp,Qvq,Qvr,gLt,gLe,gGt,gGe,gI0,gIc,QkK,QkL,Qwd,Qwe,gI2,QuM,QuN,Qkl,slot0,za8,List.zipWith_nil_left,List.zipWith_nil_right,zb4,zo7,zj6,z52,z27,zp6,List.getElem?_cons_zero,zi8,List.getElem?_nil,List.set_cons_zero,List.set_cons_succ,List.set_nil,zx2,Option.map_none,ze3,Option.bind_none,Nat.reduceAdd,Nat.reduceSub,zd0,if_true,if_false,Nat.reduceLT,Nat.reduceLeDiff,Int.reduceLT,Int.reduceLE,z97,Int.reduceToNat,Int.toNat_one,Int.cast_ofNat_Int,Cp.is,zc4,Vq,Qab,Qjo,outs,List.filterMap_cons_none,List.filterMap_cons_some,List.filterMap_nil,id,D.imm,D.Jb,Bool.true_and,zs7,Tag.mut,Bool.not_false,Bool.not_true,decide_eq_true_eq,Bool.decide_eq_true,Int.reduceNeg,z36,Nat.reducePow,z90,Nat.succ_eq_add_one,ite_true,ite_false,Bool.not_eq_true,decide_true,decide_false,QoQ,QoR,QoS,Qr1,Qr2,Qur,z30,zn7,Qus,Qr6,Qr7,QoU,QoV,Qr8,QoW,QoX,Qr9,Qsa,Qr4,Qr5,QoT,Qr3,Qso,Qsp,Qsq,QuH,Qpa,Qpb,QuI,Qsr,Qpc,Qpd,Qss,Qpg,Qsu,Qsv,Qph,Qsw,$xs,*])
namespace H31
open PySem PySem.Spec L2 L2.Srt TL
variable {z:Z}
theorem Ws {m u:MS}{ρ:Rho}{k:Fl×Rho->Prop}(ρ0:Rho)(h1:W (m ρ) fun r=>r.1=.nx/\r.2=ρ0)(h2:W (u ρ0) k):W (Qi6 m u ρ) k:=Jq (fun ρ=>ρ=ρ0) h1 (by rintro _ rfl;exact h2)
theorem Qeb {i:Nat}{par:Bool}{as:List (Option Nat)}{f:List D->Fr}{mr:MA}{ρ:Rho}{args dis:List D}{P:D->List D->Prop}{kf:Fl×Rho->Prop}(h1:mr ρ=.ok (args,ρ))(h2:Qab par ρ (as.filterMap id)=some dis)(h3:FW (f (Qjo as args dis)) P)(h4:∀d os,P d os->W (svK i (d,Vq par ρ (as.filterMap id) os)) kf):W (Qi7 i (Qf2 par as f mr) ρ) kf:=Qi.mpr (Qrj h1 h2 h3 h4)
def Pot (d:D):Prop:=∃v k:Int,d=.lst [.int v,.int k]
def isInt (d:D):Prop:=∃r:Int,d=.int r
abbrev Qaa:Int:=10 ^ 60
theorem QsC {n i:Nat}{d:D}(h:((z68 n).map fun j=>D.int ((0:Int)+(j:Nat)))[i]? = some d):d=.int i/\i<n:=by
 rw[z22] at h
 obtain⟨a,e,rfl⟩:=z03.mp h
 obtain⟨h1,h2⟩:=z25.mp e
 rw[zm5] at h2
 rw[z63] at h1
 subst h2
 exact⟨by rw[zv1],h1⟩
theorem Qpk (c:Int):FW (VJ z [.int c]) (fun d os=>os=[]/\isInt d):=by
 unfold VJ
 refine Jc ?_
 dsimp only[QbB]
 simp? only[and_self]
 refine Qak (fun i ρ=>∃r s t,ρ=[~~~(.int c),~~~(.int r),s,t]/\(s=none\/∃d,s = ~~~d)/\(t=none\/∃d,t = ~~~d)) ⟨0,_,_,rfl,.inl rfl,.inl rfl⟩ ?_ ?_
 ·rintro i d ρ hd ⟨r,s,t,rfl,hs,ht⟩
  obtain⟨rfl,hi⟩:=QsC hd
  have hi':(i:Int)<12:=by have:(Int.toNat 12)=12:=rfl;lia
  refine⟨[~~~(.int c),~~~(.int r),~~~(.int i),t],?_,?_⟩
  ·rcases hs with rfl|⟨_,rfl⟩<;>rfl
  ·have g1:(0:Int)<2147483629:=by decide
   have g2:(0:Int)<2147483647:=by decide
   have g3:(0:Int)<2147483587:=by decide
   have c1:∀a:Int,QgB a 48271:=fun a=>.inr @1
   have c2:QgB (i:Int) (i:Int):=.inl ⟨by lia,by lia⟩
   have c3:∀a:Int,QgB a 7919:=fun a=>.inr @1
   have c4:∀a:Int,QgB 31 a:=fun a=>.inl @1
   have c5:∀a:Int,QgB a 2147483587:=fun a=>.inr @1
   have c6:∀a:Int,QgB 40693 a:=fun a=>.inl @1
   have c7:∀a:Int,QgB (a % 2147483647) (a % 2147483647):=fun a=>.inl ⟨by have:=zk4 a (show(2147483647:Int)≠0 by decide);lia,by have:=zm9 a g2;lia⟩
   rcases ht with rfl|⟨_,rfl⟩ <;>
   ·simp? only[g1,g2,g3,c1,c2,c3,c4,c5,c6,c7]
    exact⟨trivial,_,_,_,rfl,.inr ⟨_,rfl⟩,.inr ⟨_,rfl⟩⟩
 ·rintro ρ ⟨r,s,t,rfl,hs,ht⟩
  simp? only[]
  refine⟨_,[],rfl,?_,rfl,_,rfl⟩
  rcases hs with rfl|⟨_,rfl⟩<;>rcases ht with rfl|⟨_,rfl⟩<;>rfl
theorem Qlh (c:Int):∃r:Int,VJ z [.int c]=.ok (.int r) []:=by
 obtain⟨d,os,e,rfl,r,rfl⟩:=Qpk (z:=z) c
 exact⟨r,e⟩
def spT (n:Int)(d:D)(os:List D):Prop:=∃r p,d=.int r/\os=[p]/\Pot p/\0<=r/\r<n
abbrev QsD:Int:=115792089237316195423570985008687907853269984665640564039457584007913129639936
theorem Q4 {p:D}{n:Int}(hp:Pot p)(h0:0<n)(h1:n<QsD):FW (YF z [p,.int n]) (spT n):=by
 obtain⟨v,k,rfl⟩:=hp
 unfold YF
 refine Jc ?_
 dsimp only[QbF]
 have cn:∀a,Qd3 a n:=fun a=>⟨h0,h1⟩
 by_cases hv:v=0
 ·subst hv
  obtain⟨r,er⟩:=Qlh (z:=z) (k+64)
  simp? only[QC er,cn,h0]
  exact⟨trivial,_,_,rfl,rfl,_,_,rfl,rfl,⟨_,_,rfl⟩,zk4 _ @0,zm9 _ h0⟩
 ·simp? only[hv,cn,h0]
  exact⟨_,_,rfl,rfl,_,_,rfl,rfl,⟨_,_,rfl⟩,zk4 _ @0,zm9 _ h0⟩
def spP (Q:D->Prop)(d:D)(os:List D):Prop:=∃p,os=[p]/\Pot p/\Q d
def Qhf (d:D):Prop:=∃r:Int,d=.int r/\0<=r/\r<Qaa
theorem QuW:QmT 10 60:=⟨by decide,by decide,by decide⟩
theorem QdS {p:D}(hp:Pot p):FW (V0 z [p]) (spP Qhf):=by
 unfold V0
 refine Jc ?_
 dsimp only[VV]
 simp? only[]
 refine Qbv (p:=p) (P:=spT 4) rfl (Q4 hp @1 @1) fun _ _ ⟨r1,p1,e1,e2,hp1,_,_⟩=>⟨p1,e2,?_⟩;subst e1
 simp? only[]
 refine Qg7 (fun h=>?_) (fun h=>?_)
 ·simp? only[QuW]
  refine Qbv (p:=p1) (P:=spT Qaa) rfl (Q4 hp1 @1 @1) fun _ _ ⟨r3,p3,e1,e2,hp3,g0,g1⟩=>⟨p3,e2,?_⟩;subst e1
  simp? only[]
  exact⟨_,_,rfl,rfl,_,rfl,hp3,_,rfl,g0,g1⟩
 ·simp? only[]
  refine Qbv (p:=p1) (P:=spT 30) rfl (Q4 hp1 @1 @1) fun _ _ ⟨r3,p3,e1,e2,hp3,g0,g1⟩=>⟨p3,e2,?_⟩;subst e1
  exact Q5.mpr ⟨_,_,rfl,rfl,_,rfl,hp3,_,rfl,g0,za0 g1 @1⟩
theorem Qpl {p:D}(hp:Pot p):FW (QbI z [p]) (spP Qhf):=by
 unfold QbI
 refine Jc ?_
 dsimp only[QbH]
 simp? only[]
 refine Qbv (p:=p) (P:=spT 9) rfl (Q4 hp @1 @1) fun _ _ ⟨r1,p1,e1,e2,hp1,_,_⟩=>⟨p1,e2,?_⟩;subst e1
 simp? only[]
 refine Qg7 (fun h=>?_) (fun h=>?_)
 ·simp? only[]
  exact⟨_,_,rfl,rfl,_,rfl,hp1,_,rfl,by decide,by decide⟩
 simp? only[]
 refine Qg7 (fun h=>?_) (fun h=>?_)
 ·simp? only[]
  exact⟨_,_,rfl,rfl,_,rfl,hp1,_,rfl,by decide,by decide⟩
 simp? only[]
 refine Qg7 (fun h=>?_) (fun h=>?_)
 ·simp? only[]
  refine Qbv (p:=p1) (P:=spT 4) rfl (Q4 hp1 @1 @1) fun _ _ ⟨r3,p3,e1,e2,hp3,g0,g1⟩=>⟨p3,e2,?_⟩;subst e1
  simp? only[]
  exact⟨_,_,rfl,rfl,_,rfl,hp3,_,rfl,by lia,za0 (b:=10) @0 @1⟩
 simp? only[]
 refine Qg7 (fun h=>?_) (fun h=>?_)
 ·simp? only[]
  refine Qbv (p:=p1) (P:=spT 60) rfl (Q4 hp1 @1 @1) fun _ _ ⟨r3,p3,e1,e2,hp3,g0,g1⟩=>⟨p3,e2,?_⟩;subst e1
  simp? only[]
  exact⟨_,_,rfl,rfl,_,rfl,hp3,_,rfl,by lia,za0 (b:=100) @0 @1⟩
 ·simp? only[QuW]
  refine Qbv (p:=p1) (P:=spT (Qaa - 1)) rfl (Q4 hp1 @1 @1) fun _ _ ⟨r3,p3,e1,e2,hp3,g0,g1⟩=>⟨p3,e2,?_⟩;subst e1
  simp? only[]
  exact⟨_,_,rfl,rfl,_,rfl,hp3,_,rfl,by lia,by lia⟩
def script (xs:List Int):D:=.lst (xs.map .int)
def okL (L:List @17):Prop:=∀r∈L,∀x∈r,0<=x/\x<Qaa
variable {z:Z}
def flD (z:Z)(F:List @17):D:=.nd (.ins z.Qq ["losses"]) [tuD F]
theorem Ju {F:List @17}{nm:Str}(h:(nm == ("losses" : Str))=false):Qgg z.Qq nm (flD z F)=true:=by
 show(decide (z.Qq=z.Qq) && (["losses"]:List Str).all (fun n=>!(nm == n)))=true
 simp[h]
theorem Qgt {F:List @17}:Qsb z.Qq "losses" (flD z F)=some (tuD F):=Qsr
section
variable {h w:Nat}{F R:List @17}{p:Int×Int}
variable {a b c:Bool}
theorem Qhg (r:Rc h w R)(hp:inR h w p):YC z [rB a b R,plB c p]=.ok (.int (atL R p)) []:=Jz (Jc (by
 dsimp only[QbA]
 simp? only[QsA,QpN,QuS r hp.1 hp.2.1,QuT r hp]
 exact⟨_,_,rfl,rfl,rfl,rfl⟩))
theorem Qgu (r:Rc h w R)(hp:inR h w p):YC z [rD R,pl p]=.ok (.int (atL R p)) []:=Qhg (a:=false) (b:=false) (c:=true) r hp
theorem Qfu (r:Rc h w F)(hp:inR h w p):YB z [flD z F,plB c p]=.ok (.bl (decide (atL F p=0))) []:=Jz (Jc (by
 dsimp only[Yz]
 simp? only[QsA,QpN,Qgt,Qpf r hp.1 hp.2.1,Qst r hp]
 exact⟨_,_,rfl,rfl,rfl,rfl⟩))
theorem Qli (r:Rc h w F)(hp:inR h w p):YB z [flD z F,pl p]=.ok (.bl (decide (atL F p=0))) []:=Qfu (c:=true) r hp
theorem QdT (r:Rc h w F):QcF z [flD z F]=.ok (.int h) []:=Jz (Jc (by
 dsimp only[QaA]
 have e:YS [tuD F]=some (.int h):=by unfold tuD;simp[YS,r.hi]
 simp? only[Qgt,e]
 exact⟨_,_,rfl,rfl,rfl,rfl⟩))
theorem QaS (r:Rc h w F)(h1:1<=h):QcG z [flD z F]=.ok (.int w) []:=Jz (Jc (by
 dsimp only[QaC]
 have e:YS [tuI (F.getD (0:Int).toNat [])]=some (.int w):=by
  have:=r.row (i:=0) @1 @0
  unfold tuI
  simp only[YS,z01,this]
 simp only[z97] at e
 simp? only[Qgt,Qpf r (i:=0) @1 @0,e]
 exact⟨_,_,rfl,rfl,rfl,rfl⟩))
theorem Qfv {i:Int}:Vu z [.int i]=.ok (.bl true) []:=rfl
theorem Yu {xs:List D}:J5 z [.nd .lst xs]=.ok (.bl true) []:=rfl
theorem Qgv {xs:List D}:J5 z [sq c xs]=.ok (.bl true) []:=by cases c<;>rfl
theorem Qlj {a b:D}:QaG z [.nd .tup [a,b]]=.ok (.bl true) []:=rfl
theorem Qpm:QaG z [plB c p]=.ok (.bl true) []:=by cases c<;>rfl
theorem QaT {i n:Int}:Jt z [.int i,.int n]=.ok (.bl (decide (0<=i/\i<n))) []:=Jz (Jc (by
 dsimp only[VN]
 simp? only[QC Qfv,true_and]
 by_cases h0:0<=i
 ·simp? only[h0,true_and]
  exact⟨_,_,rfl,rfl,rfl,rfl⟩
 ·simp? only[h0,false_and]
  exact⟨_,_,rfl,rfl,rfl,rfl⟩))
theorem Qlk (r:Rc h w F)(h1:1<=h):VR z [flD z F,plB c p]=.ok (.bl (decide (inR h w p))) []:=Jz (Jc (by
 dsimp only[YH]
 have i1:=Ju (z:=z) (F:=F) (nm := "high") @1
 have i2:=Ju (z:=z) (F:=F) (nm := "wide") @1
 simp? only[QsA,QpN,QC Qpm,true_and,i1,i2,QC (QdT r),QC (QaS r h1),QC QaT]
 by_cases cc:0<=p.1/\p.1<(h:Int)
 ·simp? only[QpN,cc,and_self,i2,QC (QaS r h1),QC QaT]
  have:decide (inR h w p)=decide (0<=p.2/\p.2<(w:Int)):=by unfold inR;simp[cc]
  rw[this]
  exact⟨trivial,trivial,_,_,rfl,rfl,rfl,rfl⟩
 ·simp? only[cc]
  have:decide (inR h w p)=false:=by unfold inR;apply decide_eq_false;intro q;exact cc ⟨q.1,q.2.1⟩
  rw[this]
  exact⟨_,_,rfl,rfl,rfl,rfl⟩))
theorem Qnx (r:Rc h w F)(h1:1<=h):VR z [flD z F,pl p]=.ok (.bl (decide (inR h w p))) []:=Qlk (c:=true) r h1
theorem Qgw (r:Rc h w F)(h1:1<=h)(hp:inR h w p):Jf z [flD z F,plB c p]=.ok .non []:=Jz (Qff (by
 dsimp only[Je]
 have i1:=Ju (z:=z) (F:=F) (nm := "has") @1
 simp? only[i1,QC (Qlk r h1),hp,true_and]
 exact⟨_,rfl,rfl⟩))
theorem Qik (r:Rc h w F)(h1:1<=h)(hp:inR h w p):Jf z [flD z F,pl p]=.ok .non []:=Qgw (c:=true) r h1 hp
theorem Qpn (r:Rc h w F)(h1:1<=h)(hp:inR h w p):QcN z [flD z F,pl p]=.ok (.int (atL F p)) []:=Jz (Jc (by
 dsimp only[QaN]
 have i1:=Ju (z:=z) (F:=F) (nm := "check_place") @1
 simp? only[i1,QC (Qik r h1 hp),true_and]
 simp? only[pl,Qgt,Qpf r hp.1 hp.2.1,Qst r hp]
 exact⟨_,_,rfl,rfl,rfl,rfl⟩))
theorem Qll:Qia z [pl p]=.ok (.lst ((arL p).map pl)) []:=rfl
theorem Qlm (r:Rc h w F)(h1:1<=h)(hp:inR h w p):Qbk z [flD z F,pl p]=.ok (.lst ((nbL h w F p).map pl)) []:=Jz (Jc (by
 dsimp only[Vg]
 have i1:=Ju (z:=z) (F:=F) (nm := "check_place") @1
 have i2:=Ju (z:=z) (F:=F) (nm := "has") @1
 have i3:=Ju (z:=z) (F:=F) (nm := "is_wall") @1
 simp? only[i1,QC (Qik r h1 hp),true_and]
 refine QpK (dis:=[]) (P:=fun d os=>d=.lst ((arL p).map pl)/\os=[]) rfl ⟨_,_,Qll,rfl,rfl⟩ fun d os hz=>?_
 obtain⟨e1,e2⟩:=hz
 subst e1;subst e2
 simp? only[]
 refine QkQ (f:=fun d=>okN h w F (pD d)) (g:=fun d=>d) (di:=[]) (ρb:=[none,~~~(flD z F)]) (os:=[]) rfl rfl ?_ (by rw[z36];simp[arL]) rfl rfl ?_
 ·intro d hd
  obtain⟨q,hq,rfl⟩:=z48.mp hd
  refine⟨[~~~(pl q),~~~(flD z F)],rfl,?_,fun _=>rfl,rfl⟩
  refine JH.mp ?_
  show W _ fun a=>a=(okN h w F q,_)
  by_cases c:inR h w q
  ·simp? only[i2,i3,QC (Qnx r h1),c,true_and,QC (Qli r c)]
   simp[okN,c]
  ·simp? only[i2,QC (Qnx r h1),c,true_and]
   simp[okN,c]
 ·simp? only[]
  refine⟨_,_,rfl,rfl,?_,rfl⟩
  congr 1
  rw[zi7]
  ·rw[zg6];rfl
  ·intro _;rfl))
end
variable {z:Z}
section
variable {h w:Nat}{L:List @17}
theorem Qln {i:Int}(h0:0<=i)(h1:i<Qaa):Qgr z [.int i]=.ok (.bl true) []:=Jz (Jc (by
 dsimp only[QdN]
 have c3:QmT 10 60:=⟨by decide,by decide,by decide⟩
 have e:(10:Int) ^ (60:Int).toNat=Qaa:=by decide
 have e2:(10:Int) ^ 60=Qaa:=rfl
 have e3:decide (0<=i/\i<Qaa)=true:=decide_eq_true ⟨h0,h1⟩
 simp? only[c3,e,e2,QC QaT,e3]
 exact⟨trivial,_,_,rfl,rfl,rfl,rfl⟩))
theorem Qlo {l:List Int}(hl:∀x∈l,0<=x/\x<Qaa):Qbg z [rwI l]=.ok .non []:=Jz (Qff (by
 dsimp only[Vc]
 unfold rwI
 simp? only[]
 refine Qak (fun i ρ=>∃s,ρ=[~~~(.lst (l.map .int)),s]/\(s=none\/∃d,s = ~~~d)) ⟨_,rfl,.inl rfl⟩ ?_ ?_
 ·rintro i d ρ hd ⟨s,rfl,hs⟩
  refine⟨[~~~(.lst (l.map .int)),~~~d],?_,?_⟩
  ·rcases hs with rfl|⟨_,rfl⟩<;>rfl
  ·obtain⟨n,hn,rfl⟩:=z48.mp (z59 hd)
   obtain⟨a,b⟩:=hl n hn
   simp? only[QC (Qln a b),true_and]
   exact⟨_,rfl,.inr ⟨_,rfl⟩⟩
 ·rintro ρ ⟨s,rfl,hs⟩
  refine⟨[],rfl,?_,trivial,rfl⟩
  rcases hs with rfl|⟨_,rfl⟩<;>rfl))
theorem Qil {xs:List D}(h1:1<=xs.length)(h2:xs.length<=30):Qa3 z [.nd .lst xs]=.ok (.bl true) []:=Jz (Jc (by
 dsimp only[Qcz]
 have e1:(1:Int)<=xs.length:=by lia
 have e2:(xs.length:Int)<=30:=by lia
 simp? only[QC Yu,true_and,e1,e2]
 exact⟨_,_,rfl,rfl,rfl,rfl⟩))
theorem Qpo (r:Rc h w L)(h1:1<=h)(h2:h<=30)(w1:1<=w)(w2:w<=30):Qbe z [rD L]=.ok (.bl true) []:=Jz (Jc (by
 dsimp only[Va]
 have e1:Qa3 z [rD L]=.ok (.bl true) []:=Qil (by rw[z01,r.hi];exact h1) (by rw[z01,r.hi];exact h2)
 have e3:siK (rD L,[~~~(rD L),none])=.ok (L.map rwI,[~~~(rD L),none]):=rfl
 simp? only[QC e1,true_and,e3]
 refine Qak (fun i ρ=>∃s,ρ=[~~~(rD L),s]/\(s=none\/∃d,s = ~~~d)) ⟨_,rfl,.inl rfl⟩ ?_ ?_
 ·rintro i d ρ hd ⟨s,rfl,hs⟩
  refine⟨[~~~(rD L),~~~d],?_,?_⟩
  ·rcases hs with rfl|⟨_,rfl⟩<;>rfl
  ·obtain⟨l,hl,rfl⟩:=z48.mp (z59 hd)
   have el:=r.wi l hl
   have e2:Qa3 z [rwI l]=.ok (.bl true) []:=Qil (by rw[z01,el];exact w1) (by rw[z01,el];exact w2)
   have g1:YS [rwI l]=some (.int w):=by show some (D.int ((l.map D.int).length:Nat))=_;rw[z01,el]
   have g2:YS [rwI (L.getD (0:Int).toNat [])]=some (.int w):=by
    have:=r.row (i:=0) @1 @0
    show some (D.int (((L.getD (0:Int).toNat []).map D.int).length:Nat))=_
    rw[z01,this]
   simp only[z97] at g2
   simp? only[QC e2,true_and,g1,g2,Vt r (i:=0) @1 @0,QkL]
   simp
   exact Q5.mpr ⟨rfl,_,rfl,.inr ⟨_,rfl⟩⟩
 ·rintro ρ ⟨s,rfl,hs⟩
  simp? only[]
  refine⟨_,[],rfl,?_,rfl,rfl⟩
  rcases hs with rfl|⟨_,rfl⟩<;>rfl))
theorem Qny {s:Option Sl}{ρ:Rho}{ms:MS}{me:ME}{k:D×Rho->Prop}(h:W (ms (s::ρ)) fun r=>r.1=.nx/\W (me r.2) k):W (Qo2 ms me (s::ρ)) k:=by
 obtain⟨⟨f,ρ1⟩,e,e1,h1⟩:=h
 have e1:f=.nx:=e1
 subst e1
 unfold Qo2
 rw[e]
 exact h1
theorem Qpp {x:Addr}(r:Rc h w L)(h1:1<=h)(h2:h<=30)(w1:1<=w)(w2:w<=30)(ok:okL L):QaM z x (rD L)=.ok (flD z L) []:=by
 have key:W ((Ym z).1 [~~~(.cls x),~~~(rD L),none]) fun q=>q.1=tuD L/\∃s,q.2=[~~~(.cls x),~~~(rD L),s]:=by
  dsimp only[Ym]
  refine Qny ?_
  simp? only[QC (Qpo (z:=z) r h1 h2 w1 w2),true_and]
  refine Qny ?_
  have e3:siK (rD L,[~~~(.cls x),~~~(rD L),none])=.ok (L.map rwI,[~~~(.cls x),~~~(rD L),none]):=rfl
  simp? only[e3]
  refine Qak (fun i ρ=>∃s,ρ=[~~~(.cls x),~~~(rD L),s]/\(s=none\/∃d,s = ~~~d)) ⟨_,rfl,.inl rfl⟩ ?_ ?_
  ·rintro i d ρ hd ⟨s,rfl,hs⟩
   refine⟨[~~~(.cls x),~~~(rD L),~~~d],?_,?_⟩
   ·rcases hs with rfl|⟨_,rfl⟩<;>rfl
   ·obtain⟨l,hl,rfl⟩:=z48.mp (z59 hd)
    simp? only[QC (Qlo (z:=z) (ok l hl)),true_and]
    exact⟨_,rfl,.inr ⟨_,rfl⟩⟩
  ·rintro ρ ⟨s,rfl,hs⟩
   refine⟨rfl,?_⟩
   have e4:siK (rD L,[~~~(.cls x),~~~(rD L),s])=.ok (L.map rwI,[~~~(.cls x),~~~(rD L),s]):=rfl
   simp? only[e4]
   refine Qg8 (g:=l2t) (di:=[]) (ρb:=[none]) (os:=[]) rfl rfl ?_ (by rw[z36,z01,r.hi];lia) rfl rfl ?_
   ·intro d hd
    obtain⟨l,hl,rfl⟩:=z48.mp hd
    have e5:D.imm (.nd .tup (l.map D.int))=true:=VB l
    have e6:tvK ([rwI l],[~~~(rwI l)])=.ok (.tup (l.map D.int),[~~~(rwI l)]):=rfl
    refine⟨[~~~(rwI l)],rfl,JH.mp ?_,rfl⟩
    simp? only[e6]
    show W (if D.imm (.nd .tup (l.map D.int))=true then _ else _) _
    rw[if_pos e5]
    exact Q5.mpr rfl
   ·simp? only[]
    refine⟨?_,s,rfl⟩
    show D.tup _=D.tup _
    rw[z76];rfl
 obtain⟨⟨d,ρ⟩,e,e1,s,e2⟩:=key
 have e1:d=tuD L:=e1
 have e2:ρ=[~~~(.cls x),~~~(rD L),s]:=e2
 subst e1;subst e2
 unfold QaM QpL
 show(match (Ym z).1 [~~~(.cls x),~~~(rD L),none] with|.ok (r,ρ)=>_|.ex c _=>_|.no=>_)=_
 rw[e]
 show(if Qew x _=true then _ else _)=_
 rw[if_pos (show Qew x [~~~(.cls x),~~~(rD L),s]=true from decide_eq_true rfl)]
 rfl
end
variable {z:Z}
def cel (w:Nat):Nat->List (Int×Int)
 |0=>[]
 |i+1=>cel w i++(z68 w).map fun b=>((i:Int),((b:Nat):Int))
section
variable {h w:Nat}{F R:List @17}{p:Int×Int}
theorem Vk:∀{h:Nat},p∈cel w h↔inR h w p
 |0=>by
  unfold cel inR
  constructor
  ·intro h;cases h
  ·intro h;lia
 |h+1=>by
  unfold cel
  rw[z05,Vk,z48]
  unfold inR
  constructor
  ·rintro(⟨a,b,c,d⟩|⟨b,hb,rfl⟩)
   ·exact⟨a,by lia,c,d⟩
   ·have:=za4.mp hb
    dsimp only
    lia
  ·rintro⟨a,b,c,d⟩
   by_cases e:p.1<(h:Int)
   ·exact .inl ⟨a,e,c,d⟩
   ·refine .inr ⟨p.2.toNat,za4.mpr @0,?_⟩
    apply zp2
    ·dsimp only;lia
    ·dsimp only;lia
theorem QaU:∀{h:Nat},(cel w h).length=h * w
 |0=>by unfold cel;simp
 |h+1=>by unfold cel;rw[z16,QaU,z01,z63,Nat.succ_mul]
theorem Qca {α β:Type}{f:α->β}(hf:∀a b,f a=f b->a=b):∀{l:List α},l.Nodup->(l.map f).Nodup
 | [],_=>zg2
 |a::l,h=>by
  obtain⟨h1,h2⟩:=z72.mp h
  rw[z30]
  refine z72.mpr ⟨fun hm=>?_,Qca hf h2⟩
  obtain⟨b,hb,e⟩:=z48.mp hm
  rw[hf _ _ e] at hb
  exact h1 hb
theorem QdU:∀{h:Nat},(cel w h).Nodup
 |0=>zg2
 |h+1=>by
  unfold cel
  refine z09.mpr ⟨QdU,Qca (fun a b e=>?_) List.nodup_range,fun a ha b hb e=>?_⟩
  ·rw[zk9] at e;lia
  ·subst e
   have h1:=(Vk.mp ha).2.1
   obtain⟨c,_,rfl⟩:=z48.mp hb
   dsimp only at h1
   lia
theorem QcP {a b:Bool}(r:Rc h w F)(hh:h<=30)(hw:w<=30):Qby z [rB a b F]=.ok (.lst ((cel w h).map pl)) []:=Jz (Jc (by
 dsimp only[Qbx]
 have e3:enK ([rB a b F],[~~~(rB a b F),some (.own (.lst [])),none,none])=.ok (Qbu (F.map (rwB b)),[~~~(rB a b F),some (.own (.lst [])),none,none]):=Qsy
 simp? only[e3]
 refine Qak (fun i ρ=>∃s t,ρ=[~~~(rB a b F),some (.own (.lst ((cel w i).map pl))),s,t]/\(s=none\/∃d,s = ~~~d)/\(t=none\/∃d,t = ~~~d)) ⟨_,_,rfl,.inl rfl,.inl rfl⟩ ?_ ?_
 ·rintro i d ρ hd ⟨s,t,rfl,hs,ht⟩
  have hd':∃l,l∈F/\d=.tup [.int i,rwB b l]:=by
   unfold Qbu at hd
   rw[z22,zv0,z22] at hd
   cases q:F[i]? with
   |none=>rw[q] at hd;cases hd
   |some l=>
    rw[q] at hd
    simp at hd
    exact⟨l,z59 q,hd.symm⟩
  obtain⟨l,hl,rfl⟩:=hd'
  have el:=r.wi l hl
  refine⟨[~~~(rB a b F),some (.own (.lst ((cel w i).map pl))),~~~(.int i),~~~(rwB b l)],?_,?_⟩
  ·rcases hs with rfl|⟨_,rfl⟩<;>rcases ht with rfl|⟨_,rfl⟩<;>rfl
  ·have g1:YS [rwB b l]=some (.int w):=by unfold rwB;rw[Qhe,z01,el]
   have b1:(-4611686018427387904:Int)<=w/\(w:Int)<4611686018427387904:=by lia
   simp? only[g1,b1,and_self,z95]
   refine Qg8 (g:=fun d=>.tup [.int i,d]) (di:=[]) (ρb:=[none,~~~(.int i)]) (os:=[]) rfl rfl ?_ (by rw[z36,z01,z63];lia) rfl rfl ?_
   ·intro d hd
    obtain⟨n,hn,rfl⟩:=z48.mp hd
    exact⟨[~~~(.int (0+(n:Nat))),~~~(.int i)],rfl,JH.mp (by simp? only[]),rfl⟩
   ·have hi:i<h:=by
     have:=(z25.mp hd).1
     unfold Qbu at this
     rw[z01,zm4,z01,r.hi] at this
     exact this
    have hc:(cel w i).length<=900:=by rw[QaU];exact z65 (zg3 @0 hw) (by decide:30 * 30<=900)
    have hz:(zk3 pl (cel w i)).length+(zk3 (fun d=>D.tup [D.int ↑i,d]) (zk3 (fun j=>D.int (0 + ↑j)) (z68 w))).length<=16777216:=by
     simp;lia
    simp? only[]
    rw[if_pos (by simpa using hz)]
    refine Q5.mpr ⟨rfl,~~~(.int i),~~~(rwB b l),?_,.inr ⟨_,rfl⟩,.inr ⟨_,rfl⟩⟩
    rw[cel,z77,z76,z76]
    have:∀(n:Nat),((fun d=>D.tup [D.int ↑i,d])∘fun(j:Nat)=>D.int (0 + ↑j)) n=(pl∘fun(b:Nat)=>((i:Int),(b:Int))) n:=fun n=>by
     show D.tup [D.int i,D.int (0+(n:Int))]=D.tup [D.int i,D.int n]
     rw[zv1]
    rw[show((fun d=>D.tup [D.int ↑i,d])∘fun(j:Nat)=>D.int (0 + ↑j))=(pl∘fun(b:Nat)=>((i:Int),(b:Int))) from funext this]
 ·rintro ρ ⟨s,t,rfl,hs,ht⟩
  have e:(Qbu (F.map (rwB b))).length=h:=by unfold Qbu;rw[z01,zm4,z01,r.hi]
  rw[e]
  simp? only[]
  refine⟨_,[],rfl,?_,rfl,rfl⟩
  rcases hs with rfl|⟨_,rfl⟩<;>rcases ht with rfl|⟨_,rfl⟩<;>rfl))
theorem Qhh (r:Rc h w F)(hh:h<=30)(hw:w<=30):Qby z [tuD F]=.ok (.lst ((cel w h).map pl)) []:=QcP (a:=true) (b:=true) r hh hw
theorem places_eq (r:Rc h w F)(hh:h<=30)(hw:w<=30):Qbc z [flD z F]=.ok (.lst ((cel w h).map pl)) []:=Jz (Jc (by
 dsimp only[Y9]
 simp? only[Qgt,Qfh (Qhh r hh hw)]
 exact⟨_,_,rfl,rfl,rfl,rfl⟩))
theorem QsE (r:Rc h w R)(hh:1<=h)(hw:1<=w)(hp:inR h w p):Vr (R.map Vr)<=atL R p:=by
 have hne:R.map Vr≠[]:=fun e=>by have:=congrArg ze7 e;rw[z01,r.hi] at this;simp at this;lia
 have hl:p.1.toNat<R.length:=by rw[r.hi];have:=hp.1;have:=hp.2.1;lia
 have e:R.getD p.1.toNat []=R[p.1.toNat]:=by rw[z14,z04 hl];rfl
 have hm:R.getD p.1.toNat []∈R:=by rw[e];exact z99 hl
 have hr:=r.wi _ hm
 have hk:p.2.toNat<(R.getD p.1.toNat []).length:=by rw[hr];have:=hp.2.2.1;have:=hp.2.2.2;lia
 have QwB:R.getD p.1.toNat []≠[]:=fun e=>by rw[e] at hr;simp at hr;lia
 have hm2:atL R p∈R.getD p.1.toNat []:=by unfold atL;rw[z14 (l:=R.getD p.1.toNat []),z04 hk];exact z99 hk
 exact z91 ((QdB hne).2 _ (z48.mpr ⟨_,hm,rfl⟩)) ((QdB QwB).2 _ hm2)
def gvL (h w:Nat)(F R:List @17)(least:Int):List NP:=(((cel w h).filter (okN h w F)).filter fun p=>decide (atL R p > least)).map fun p=>(atL R p,p)
theorem QsF {q:Int×Int}:D.imm (pl q)=true:=rfl
theorem Qlp (rf:Rc h w F)(r:Rc h w R)(h1:1<=h)(hh:h<=30)(w1:1<=w)(hw:w<=30)(h64:(gvL h w F R (Vr (R.map Vr))).length<=4000):Qig z [flD z F,rD R]=.ok (.lst ((Qh4 Vx (gvL h w F R (Vr (R.map Vr)))).map npD)) []:=Jz (Jc (by
 dsimp only[Qfn]
 have hz:h * w<=900:=z65 (zg3 hh hw) @1
 have e3:siK (rD R,[~~~(flD z F),~~~(rD R),none,none])=.ok (R.map rwI,[~~~(flD z F),~~~(rD R),none,none]):=rfl
 simp? only[e3]
 refine Qg8 (g:=QvF) (di:=[]) (ρb:=[none]) (os:=[]) rfl rfl ?_ (by rw[z36,z01,r.hi];lia) rfl rfl ?_
 ·intro d hd
  obtain⟨l,hl,rfl⟩:=z48.mp hd
  have hne:l≠[]:=fun e=>by have:=r.wi l hl;rw[e] at this;simp at this;lia
  have e5:Qmx [rwI l]=some (.int (Vr l)):=by
   show(Qh3 (l.map D.int)).bind _=_
   rw[Qa2]
   show(if l=[] then none else some (D.int (Vr l)))=_
   rw[if_neg hne]
  refine⟨[~~~(rwI l)],rfl,JH.mp ?_,rfl⟩
  have e6:Vr ((Qh3 (l.map D.int)).getD [])=Vr l:=by rw[Qa2];rfl
  simp? only[e5]
  show(D.int (Vr l),_)=(D.int (Vr ((Qh3 (l.map D.int)).getD [])),_)
  rw[e6]
 have e7:(R.map rwI).map (QvF)=(R.map Vr).map D.int:=by
  rw[z76,z76]
  refine z94 fun l _=>?_
  show D.int (Vr ((Qh3 (l.map D.int)).getD []))=D.int (Vr l)
  rw[Qa2];rfl
 rw[e7]
 have hne:R.map Vr≠[]:=fun e=>by have:=congrArg ze7 e;rw[z01,r.hi] at this;simp at this;lia
 have e8:Qmx [.nd .lst ((R.map Vr).map D.int)]=some (.int (Vr (R.map Vr))):=by
  show(Qh3 ((R.map Vr).map D.int)).bind _=_
  rw[Qa2]
  show(if R.map Vr=[] then none else some (D.int (Vr (R.map Vr))))=_
  rw[if_neg hne]
 have i1:=Ju (z:=z) (F:=F) (nm := "places") @1
 have i2:=Ju (z:=z) (F:=F) (nm := "is_wall") @1
 generalize Vr (R.map Vr)=least at *
 simp? only[e8,i1,Qfh (places_eq rf hh hw)]
 refine QkQ (f:=fun d=>okN h w F (pD d)) (g:=fun d=>d) (di:=[]) (ρb:=[none,~~~(flD z F)]) (os:=[]) rfl rfl ?_ (by rw[z36,z01,QaU];lia) rfl rfl ?_
 ·intro d hd
  obtain⟨q,hq,rfl⟩:=z48.mp hd
  have c:=Vk.mp hq
  refine⟨[~~~(pl q),~~~(flD z F)],rfl,?_,fun _=>rfl,rfl⟩
  refine JH.mp ?_
  show W _ fun a=>a=(okN h w F q,_)
  simp? only[i2,QC (Qli rf c),true_and]
  simp[okN,c]
 have e9:(((cel w h).map pl).filter (fun d=>okN h w F (pD d))).map (fun d=>d)=((cel w h).filter (okN h w F)).map pl:=by
  rw[zi7 (fun _=>rfl),zg6];rfl
 rw[e9]
 simp? only[]
 refine QkQ (f:=fun d=>decide (atL R (pD d) > least)) (g:=fun d=>npD (atL R (pD d),(pD d))) (di:=[]) (ρb:=[none,~~~(rD R),~~~(.int least)]) (os:=[]) rfl rfl ?_ (by rw[z36,z01];have:=zb3 (okN h w F) (cel w h);rw[QaU] at this;lia) rfl rfl ?_
 ·intro d hd
  obtain⟨q,hq,rfl⟩:=z48.mp hd
  have c:=Vk.mp (z64.mp hq).1
  refine⟨[~~~(pl q),~~~(rD R),~~~(.int least)],rfl,JH.mp ?_,fun _=>JH.mp ?_,rfl⟩
  ·simp? only[QC (Qgu r c),true_and]
   rfl
  ·simp? only[QC (Qgu r c),true_and,QsF]
   rfl
 have eA:((((cel w h).filter (okN h w F)).map pl).filter (fun d=>decide (atL R (pD d) > least))).map (fun d=>npD (atL R (pD d),(pD d)))=((((cel w h).filter (okN h w F)).filter fun p=>decide (atL R p > least)).map fun p=>(atL R p,p)).map npD:=by
  rw[zg6,z76,z76];rfl
 rw[eA]
 have nd:((((cel w h).filter (okN h w F)).filter fun p=>decide (atL R p > least)).map fun p=>(atL R p,p)).Nodup:=Qca (fun a b e=>(zk1 e).2) ((QdU.filter _).filter _)
 have ln:((((cel w h).filter (okN h w F)).filter fun p=>decide (atL R p > least)).map fun p=>(atL R p,p)).length<=4000:=h64
 simp? only[Qpe nd ln]
 exact⟨_,_,rfl,rfl,rfl,rfl⟩))
end
variable {z:Z}
section
variable {h w:Nat}{F R:List @17}{p:Int×Int}{wt:List NP}{e:NP}
abbrev Pw (wt:List NP):Prop:=wt.Pairwise (fun a b=>Vx a b=true)
def isIn (wt:List NP)(e:NP)(d:D)(os:List D):Prop:=d=.non/\∃wt',os=[.lst (wt'.map npD)]/\wt'.Perm (e::wt)/\Pw wt'
theorem Qlq (pw:Pw wt)(ne:e∉wt)(hl:wt.length<6000):FW (J7 z [.lst (wt.map npD),npD e]) (isIn wt e):=Qff (by
 dsimp only[J6]
 simp? only[]
 refine Qlb (fun n ρ=>∃(lo hi:Nat) (s:Option Sl),ρ=[some (.par (.lst (wt.map npD))),~~~(npD e),~~~(.int lo),~~~(.int hi),s]/\(s=none\/∃d,s = ~~~d)/\lo<=hi/\hi<=wt.length/\n=hi - lo/\
  (∀j (hj:j<wt.length),j<lo->Vx wt[j] e=true)/\(∀j (hj:j<wt.length),hi<=j->Vx e wt[j]=true)) (n:=wt.length) ?_ ?_ @0
 ·rintro n ρ ⟨lo,hi,s,rfl,hs,h1,h2,rfl,h3,h4⟩
  refine⟨(decide ((lo:Int)<hi),[some (.par (.lst (wt.map npD))),~~~(npD e),~~~(.int lo),~~~(.int hi),s]),JH.mp (by simp? only[]),?_⟩
  by_cases c:(lo:Int)<(hi:Int)
  ·refine⟨fun _=>?_,fun q=>absurd c (of_decide_eq_false q)⟩
   dsimp only
   have c2:Qd3 ((lo:Int)+hi) 2:=⟨by decide,by decide⟩
   have em:((lo:Int)+hi) / 2=((lo+hi) / 2:Nat):=by lia
   have hm:(lo+hi) / 2<wt.length:=by lia
   have eg:atI (wt.map npD) (((lo+hi) / 2:Nat):Int)=some (npD wt[(lo+hi) / 2]):=by
    rw[Qay npD (0,(0,0)) @0 @0]
    congr 2
    rw[z95,z14,z04 @0]
    rfl
   have el:Qvz (npD wt[(lo+hi) / 2]) (npD e)=some (.bl (Vx wt[(lo+hi) / 2] e)):=rfl
   refine Jq (fun ρ=>ρ=[some (.par (.lst (wt.map npD))),~~~(npD e),~~~(.int lo),~~~(.int hi),~~~(.int (((lo+hi) / 2:Nat)))]) ?_ ?_
   ·rcases hs with rfl|⟨_,rfl⟩<;>simp? only[c2,em]<;>exact⟨trivial,trivial⟩
   ·rintro ρ rfl
    refine Qi.mpr ⟨(Vx wt[(lo+hi) / 2] e,[some (.par (.lst (wt.map npD))),~~~(npD e),~~~(.int lo),~~~(.int hi),~~~(.int (((lo+hi) / 2:Nat)))]),JH.mp (by simp only[atI,ixN] at eg;simp? only[eg,el]),?_⟩
    dsimp only
    cases q:Vx wt[(lo+hi) / 2] e with
    |true=>
     refine Q5.mpr ⟨rfl,hi - ((lo+hi) / 2+1),?_,(lo+hi) / 2+1,hi,~~~(.int (((lo+hi) / 2:Nat))),?_,.inr ⟨_,rfl⟩,by lia,h2,rfl,fun j hj hl=>?_,h4⟩
     ·lia
     ·rfl
     ·by_cases e1:j=(lo+hi) / 2
      ·subst e1;exact q
      ·exact QbT.tr _ _ _ (zb5.mp pw j ((lo+hi) / 2) hj hm @0) q
    |false=>
     simp? only[]
     have q2:Vx e wt[(lo+hi) / 2]=true:=QbT.tot _ _ (fun z=>ne (z▸z99 hm)) q
     refine⟨trivial,_,?_,lo,(lo+hi) / 2,_,rfl,.inr ⟨_,rfl⟩,by lia,by lia,rfl,h3,fun j hj hl=>?_⟩
     ·lia
     ·by_cases e1:j=(lo+hi) / 2
      ·subst e1;exact q2
      ·exact QbT.tr _ _ _ q2 (zb5.mp pw ((lo+hi) / 2) j hm hj @0)
  ·refine⟨fun q=>absurd (of_decide_eq_true q) c,fun _=>?_⟩
   have ee:hi=lo:=by lia
   subst ee
   show W (Qs8 0 _ _) _
   refine QuK (par:=true) (xs:=wt.map npD) (n:=(hi:Nat)) (d:=npD e) rfl (JH.mp (by simp? only[])) @0 (by rw[z01];lia) (by rw[z01,z36];lia) ?_ ?_
   ·rw[QdD];rfl
   ·refine⟨[.lst ((wt.take hi++e::wt.drop hi).map npD)],rfl,?_,rfl,wt.take hi++e::wt.drop hi,rfl,?_,?_⟩
    ·rw[z77,z30,zm3,zs6,z95]
     rcases hs with rfl|⟨_,rfl⟩<;>rfl
    ·refine List.perm_middle.trans (List.Perm.cons _ ?_)
     rw[z47]
    ·refine z34.mpr ⟨pw.sublist (zh8 _ _),z81.mpr ⟨fun x hx=>?_,pw.sublist (zn2 _ _)⟩,fun a ha b hb=>?_⟩
     ·obtain⟨j,hj,rfl⟩:=za7 hx
      rw[zn1]
      rw[z58] at hj
      exact h4 _ @0 @0
     ·obtain⟨j,hj,rfl⟩:=za7 ha
      rw[z44] at hj
      rw[zx7]
      have aj:=h3 j @0 @0
      rcases z15.mp hb with rfl|hb
      ·exact aj
      ·obtain⟨i,hi',rfl⟩:=za7 hb
       rw[z58] at hi'
       rw[zn1]
       exact QbT.tr _ _ _ aj (h4 _ @0 @0)
 ·exact⟨0,wt.length,none,by simp,.inl rfl,by lia,z24 _,by lia,fun j hj h=>absurd h @0,fun j hj h=>absurd h @0⟩)
def lft (R:List @17)(x:PN):List @17:=Qjp R x.1 (if atL R x.1 > x.2 then atL R x.1 else x.2)
theorem Qpq {c:Bool}{s:Int}(rf:Rc h w F)(r:Rc h w R)(h1:1<=h)(hp:okN h w F p=true):Qid z [flD z F,rD R,pnB c (p,s)]=.ok .non [rD (lft R (p,s))]:=Jz (Qff (by
 dsimp only[Qic]
 obtain⟨ip,nw⟩:=YZ hp
 have i2:=Ju (z:=z) (F:=F) (nm := "is_wall") @1
 refine Ws [~~~(flD z F),some (.par (rD R)),~~~(pnB c (p,s)),~~~(plB c p)] ?_ ?_
 ·simp? only[pnB]
  exact⟨trivial,trivial⟩
 refine Qi.mpr ⟨(true,[~~~(flD z F),some (.par (rD R)),~~~(pnB c (p,s)),~~~(plB c p)]),JH.mp ?_,?_⟩
 ·simp? only[i2,QC (Qfu rf ip),true_and,nw]
 dsimp only
 rw[if_pos rfl]
 refine Qh6 (par:=true) (ys:=R.map rwI) (xs:=(R.getD p.1.toNat []).map D.int) (d:=.int (if atL R p > s then atL R p else s)) (n:=p.1) (j:=p.2) (p:=p.1.toNat) (q:=p.2.toNat) rfl (JH.mp ?_) (JH.mp ?_) (JH.mp ?_) ?_ ?_ ?_ ?_
 ·simp? only[pnB,QC (show YC z [rD R,plB c p]=_ from Qhg (a:=false) (b:=false) r ip),true_and]
 ·simp? only[QsA,QpN]
 ·simp? only[QsA,QpN]
 ·exact QcE ip.1 (by rw[z01,r.hi];exact ip.2.1)
 ·have hl:p.1.toNat<R.length:=by rw[r.hi];have:=ip.1;have:=ip.2.1;lia
  rw[z22,z14,z04 hl];rfl
 ·exact QcE ip.2.2.1 (by rw[z01,r.row ip.1 ip.2.1];exact ip.2.2.2)
 ·refine⟨_,rfl,rfl,rfl,?_⟩
  rw[Qnr r ip];rfl))
theorem Qlr {c:Bool}{s:Int}(rf:Rc h w F)(ip:inR h w p)(hp:okN h w F p=false):Qid z [flD z F,rD R,pnB c (p,s)]=.ok .non [rD R]:=Jz (Qff (by
 dsimp only[Qic]
 have nw:atL F p=0:=by
  unfold okN at hp
  rw[decide_eq_true ip,Bool.true_and] at hp
  simpa using hp
 have i2:=Ju (z:=z) (F:=F) (nm := "is_wall") @1
 refine Ws [~~~(flD z F),some (.par (rD R)),~~~(pnB c (p,s)),~~~(plB c p)] ?_ ?_
 ·simp? only[pnB]
  exact⟨trivial,trivial⟩
 refine Qi.mpr ⟨(false,[~~~(flD z F),some (.par (rD R)),~~~(pnB c (p,s)),~~~(plB c p)]),JH.mp ?_,?_⟩
 ·simp? only[i2,QC (Qfu rf ip),true_and,nw]
 dsimp only
 rw[if_neg z29]
 exact Q5.mpr ⟨_,rfl,rfl,rfl,rfl⟩))
def QvG (h w:Nat)(F:List @17)(e:NP)(R:List @17)(wt:List NP)(d:D)(os:List D):Prop:=d=.non/\∃R' wt',os=[rD R',.lst (wt'.map npD)]/\Gv h w F e R wt (nbL h w F e.2) R' wt'
def frO (s:Option Sl):Prop:=s=none\/∃d,s = ~~~d
theorem Qpr (rf:Rc h w F)(r:Rc h w R)(h1:1<=h)(pw:Pw wt)(i1:∀x∈wt,okN h w F x.2=true/\x.1<=atL R x.2)(hl:wt.length<=5500)(ie:inR h w e.2):FW (Qnv z [flD z F,rD R,.lst (wt.map npD),npD e]) (QvG h w F e R wt):=Qff (by
 dsimp only[Qle]
 have i2:=Ju (z:=z) (F:=F) (nm := "beside") @1
 have i3:=Ju (z:=z) (F:=F) (nm := "loss") @1
 simp? only[npD,i2,Qfh (Qlm rf h1 ie)]
 refine Qak (fun i ρ=>∃R' wt' s t,ρ=[~~~(flD z F),some (.par (rD R')),some (.par (.lst (wt'.map npD))),~~~(npD e),s,t]/\frO s/\frO t/\Gv h w F e R wt ((nbL h w F e.2).take i) R' wt') ⟨R,wt,none,none,rfl,.inl rfl,.inl rfl,by rw[zl0];exact Gv.start r pw i1⟩ ?_ ?_
 ·rintro i d ρ hd ⟨R',wt',s,t,rfl,hs,ht,g⟩
  rw[z22] at hd
  obtain⟨v,hv,rfl⟩:=z03.mp hd
  have okv:=Qgl (z59 hv)
  have iv:=(YZ okv).1
  have et:(nbL h w F e.2).take (i+1)=(nbL h w F e.2).take i++[v]:=by rw[zh9,hv];rfl
  rw[et]
  refine⟨[~~~(flD z F),some (.par (rD R')),some (.par (.lst (wt'.map npD))),~~~(npD e),~~~(pl v),t],?_,?_⟩
  ·rcases hs with rfl|⟨_,rfl⟩<;>rfl
  refine Ws [~~~(flD z F),some (.par (rD R')),some (.par (.lst (wt'.map npD))),~~~(npD e),~~~(pl v),~~~(.int (e.1 - atL F v))] ?_ ?_
  ·rcases ht with rfl|⟨_,rfl⟩<;>simp? only[npD,i3,QC (Qpn rf h1 iv),true_and]
  refine Qi.mpr ⟨(decide (e.1 - atL F v > atL R' v),[~~~(flD z F),some (.par (rD R')),some (.par (.lst (wt'.map npD))),~~~(npD e),~~~(pl v),~~~(.int (e.1 - atL F v))]),JH.mp ?_,?_⟩
  ·simp? only[QC (Qgu g.rc iv),true_and]
  dsimp only
  by_cases c:e.1 - atL F v > atL R' v
  ·rw[decide_eq_true c,if_pos rfl]
   refine Ws [~~~(flD z F),some (.par (rD (Qjp R' v (e.1 - atL F v)))),some (.par (.lst (wt'.map npD))),~~~(npD e),~~~(pl v),~~~(.int (e.1 - atL F v))] ?_ ?_
   ·refine Qh6 (par:=true) (ys:=R'.map rwI) (xs:=(R'.getD v.1.toNat []).map D.int) (d:=.int (e.1 - atL F v)) (n:=v.1) (j:=v.2) (p:=v.1.toNat) (q:=v.2.toNat) rfl (JH.mp ?_) (JH.mp ?_) (JH.mp ?_) ?_ ?_ ?_ ?_
    ·simp? only[]
    ·simp? only[pl]
    ·simp? only[pl]
    ·exact QcE iv.1 (by rw[z01,g.rc.hi];exact iv.2.1)
    ·have hl:v.1.toNat<R'.length:=by rw[g.rc.hi];have:=iv.1;have:=iv.2.1;lia
     rw[z22,z14,z04 hl];rfl
    ·exact QcE iv.2.2.1 (by rw[z01,g.rc.row iv.1 iv.2.1];exact iv.2.2.2)
    ·refine⟨rfl,?_⟩
     show[_,some (Sl.par (D.lst _)),_,_,_,_]=_
     rw[Qnr g.rc iv];rfl
   have hn:(e.1 - atL F v,v)∉wt':=fun hm=>by have:=(g.i1 _ hm).2;dsimp only at this;lia
   have hln:wt'.length<6000:=by
    have:=g.ln
    have:=Qld (h:=h) (w:=w) (F:=F) e.2
    rw[z44] at *
    lia
   have hin:=Qlq (z:=z) g.pw hn hln
   have en:npD (e.1 - atL F v,v)=.tup [.int (e.1 - atL F v),pl v]:=rfl
   rw[en] at hin
   simp? only[]
   refine Qbv (par:=true) (i:=2) (p:=.lst (wt'.map npD)) (x:=.tup [.int (e.1 - atL F v),pl v]) (f:=J7 z) rfl hin ?_
   rintro d os ⟨e1,wt2,e2,pm,pw2⟩
   refine⟨.lst (wt2.map npD),e2,?_⟩
   exact⟨trivial,Qjp R' v (e.1 - atL F v),wt2,~~~(pl v),~~~(.int (e.1 - atL F v)),rfl,.inr ⟨_,rfl⟩,.inr ⟨_,rfl⟩,g.put okv c pm pw2⟩
  ·rw[decide_eq_false c,if_neg @1]
   exact Q5.mpr ⟨rfl,R',wt',_,_,rfl,.inr ⟨_,rfl⟩,.inr ⟨_,rfl⟩,g.skip c⟩
 ·rintro ρ ⟨R',wt',s,t,rfl,hs,ht,g⟩
  rw[z01,zo1] at g
  refine⟨[rD R',.lst (wt'.map npD)],rfl,?_,rfl,R',wt',rfl,g⟩
  rcases hs with rfl|⟨_,rfl⟩<;>rcases ht with rfl|⟨_,rfl⟩<;>rfl)
end
variable {z:Z}
section
variable {h w:Nat}{F R N:List @17}{p:Int×Int}{wt:List NP}{e:NP}{ls:List PN}
theorem Qim (r:Rc h w R){x:PN}(hp:inR h w x.1):Rc h w (lft R x):=r.set hp
theorem Qls (r:Rc h w R){x:PN}(hp:inR h w x.1){q:Int×Int}(hq:inR h w q):atL (lft R x) q=if q=x.1 then(if atL R x.1 > x.2 then atL R x.1 else x.2) else atL R q:=Qlc r hp hq
theorem Qhi:∀{ls:List PN} {R:List @17},Rc h w R->(∀x∈ls,inR h w x.1)->Rc h w (ls.foldl lft R)
 | [],_,r,_=>r
 |x::ls,R,r,hl=>Qhi (ls:=ls) (R:=lft R x) (Qim r (hl x z07)) fun y hy=>hl y (z08 _ hy)
theorem Qhj:∀{ls:List PN} {R:List @17},Rc h w R->(∀x∈ls,inR h w x.1)->∀q,inR h w q->atL R q<=atL (ls.foldl lft R) q
 | [],_,_,_,_,_=>zd5 _
 |x::ls,R,r,hl,q,hq=>by
  refine z91 ?_ (Qhj (Qim r (hl x z07)) (fun y hy=>hl y (z08 _ hy)) q hq)
  rw[Qls r (hl x z07) hq]
  split
  ·rename_i e;subst e;split<;>lia
  ·exact zd5 _
theorem QdV:∀{ls:List PN} {R:List @17},Rc h w R->(∀x∈ls,inR h w x.1)->∀x∈ls,x.2<=atL (ls.foldl lft R) x.1
 |y::ls,R,r,hl,x,hx=>by
  have r1:=Qim r (hl y z07)
  have hl1:∀y∈ls,inR h w y.1:=fun y hy=>hl y (z08 _ hy)
  rcases z15.mp hx with rfl|hx
  ·refine z91 ?_ (Qhj r1 hl1 x.1 (hl x z07))
   rw[Qls r (hl x z07) (hl x z07),if_pos rfl]
   split<;>lia
  ·exact QdV r1 hl1 x hx
structure QpO (h w:Nat)(F N:List @17)(ls:List PN)(R:List @17):Prop where
 rc:Rc h w R
 up:∀q,inR h w q->atL (ls.foldl lft N) q<=atL R q
 cl:∀u,okN h w F u=true->∀v∈nbL h w F u,atL R u - atL F v<=atL R v
 so:∀q,inR h w q->atL R q=atL (ls.foldl lft N) q\/∃u,okN h w F u=true/\q∈nbL h w F u/\atL R q=atL R u - atL F q
theorem QsG {least:Int}{x:NP}(hx:x∈gvL h w F R least):okN h w F x.2=true/\x.1=atL R x.2:=by
 obtain⟨q,hq,rfl⟩:=z48.mp hx
 exact⟨(z64.mp (z64.mp hq).1).2,rfl⟩
theorem QuX {least:Int}{u:Int×Int}(hu:okN h w F u=true)(hl:least<atL R u):(atL R u,u)∈gvL h w F R least:=
 z48.mpr ⟨u,z64.mpr ⟨z64.mpr ⟨Vk.mpr (YZ hu).1,hu⟩,decide_eq_true hl⟩,rfl⟩
theorem Qnz {least:Int}:(gvL h w F R least).length<=h * w:=by
 unfold gvL
 rw[z01]
 have a:=zb3 (fun p=>decide (atL R p > least)) ((cel w h).filter (okN h w F))
 have b:=zb3 (okN h w F) (cel w h)
 rw[QaU] at b
 lia
theorem QmG {least:Int}:(gvL h w F R least).Nodup:=Qca (fun a b e=>(zk1 e).2) ((QdU.filter _).filter _)
theorem QmH (r:Rc h w R)(least:Int):Jv h w F R least (fun _=>false) R (Qh4 Vx (gvL h w F R least)) where
 rc:=r
 pw:=Qha QbT QmG
 i1:=fun x hx=>by obtain⟨a,b⟩:=QsG ((Vs _).mem_iff.mp hx);exact⟨a,by lia⟩
 up:=fun _ _=>zd5 _
 i2:=fun u hu hl=>.inl ((Vs _).mem_iff.mpr (QuX hu hl))
 d1:=fun u hu=>nomatch hu
 so:=fun _ _=>.inl rfl
def onF (h w:Nat)(F:List @17)(ls:List PN):List PN:=ls.filter fun x=>okN h w F x.1
theorem Qlt {a b c d':Bool}(rf:Rc h w F)(nf:Nn h w F)(rn:Rc h w N)(h1:1<=h)(hh:h<=30)(w1:1<=w)(hw:w<=30)(hl':∀x∈ls,inR h w x.1):FW (Qii z [flD z F,rB a b N,sq d' (ls.map (pnB c))]) (fun d os=>os=[]/\∃R,d=rD R/\QpO h w F N (onF h w F ls) R):=Jc (by
 dsimp only[Qfp]
 have hz:h * w<=900:=z65 (zg3 hh hw) @1
 refine Ws [~~~(flD z F),~~~(rB a b N),~~~(sq d' (ls.map (pnB c))),some (.own (rD N)),none,none,none] ?_ ?_
 ·have e3:siK (rB a b N,[~~~(flD z F),~~~(rB a b N),~~~(sq d' (ls.map (pnB c))),none,none,none,none])=.ok (N.map (rwB b),[~~~(flD z F),~~~(rB a b N),~~~(sq d' (ls.map (pnB c))),none,none,none,none]):=Qgm
  simp? only[e3]
  refine Qg8 (g:=l2l) (di:=[]) (ρb:=[none]) (os:=[]) rfl rfl ?_ (by rw[z36,z01,rn.hi];lia) rfl rfl ?_
  ·intro d hd
   obtain⟨l,hl,rfl⟩:=z48.mp hd
   have e6:liK ([rwB b l],[~~~(rwB b l)])=.ok (rwI l,[~~~(rwB b l)]):=Qsz.trans (if_pos (VB l))
   refine⟨[~~~(rwB b l)],rfl,JH.mp ?_,rfl⟩
   simp? only[e6]
   rfl
  ·refine Q5.mpr ⟨rfl,?_⟩
   rw[z76];rfl
 refine Jq (fun ρ=>∃s,frO s/\ρ=[~~~(flD z F),~~~(rB a b N),~~~(sq d' (ls.map (pnB c))),some (.own (rD ((onF h w F ls).foldl lft N))),s,none,none]) ?_ ?_
 ·simp? only[Qgm]
  refine Qak (fun i ρ=>∃s,frO s/\ρ=[~~~(flD z F),~~~(rB a b N),~~~(sq d' (ls.map (pnB c))),some (.own (rD ((onF h w F (ls.take i)).foldl lft N))),s,none,none]) ⟨none,.inl rfl,by rw[zl0];rfl⟩ ?_ ?_
  ·rintro i d ρ hd ⟨s,hs,rfl⟩
   rw[z22] at hd
   obtain⟨x,hx,rfl⟩:=z03.mp hd
   have hm:=z59 hx
   have ri:Rc h w ((onF h w F (ls.take i)).foldl lft N):=Qhi rn fun y hy=>hl' y (za2 (z64.mp hy).1)
   refine⟨[~~~(flD z F),~~~(rB a b N),~~~(sq d' (ls.map (pnB c))),some (.own (rD ((onF h w F (ls.take i)).foldl lft N))),~~~(pnB c x),none,none],?_,?_⟩
   ·rcases hs with rfl|⟨_,rfl⟩<;>rfl
   simp? only[]
   have et:ls.take (i+1)=ls.take i++[x]:=by rw[zh9,hx];rfl
   have el:Qid z [flD z F,rD ((onF h w F (ls.take i)).foldl lft N),pnB c (x.1,x.2)]=.ok .non [rD ((onF h w F (ls.take (i+1))).foldl lft N)]:=by
    rw[et]
    unfold onF
    rw[zw5]
    cases c:okN h w F x.1 with
    |true=>
     rw[List.filter_cons_of_pos (by exact c),List.foldl_append]
     exact Qpq rf ri h1 c
    |false=>
     rw[List.filter_cons_of_neg (by rw[c];exact z29),List.filter_nil,z52]
     exact Qlr rf (hl' x hm) c
   refine QpK (dis:=[rD ((onF h w F (ls.take i)).foldl lft N)]) (P:=fun d os=>d=.non/\os=[rD ((onF h w F (ls.take (i+1))).foldl lft N)]) rfl ⟨_,_,el,rfl,rfl⟩ ?_
   rintro d os ⟨_,rfl⟩
   exact⟨trivial,~~~(pnB c x),.inr ⟨_,rfl⟩,rfl⟩
  ·rintro ρ ⟨s,hs,rfl⟩
   rw[z01,zo1]
   exact⟨rfl,s,hs,rfl⟩
 rintro ρ ⟨s,hs,rfl⟩
 have r0:Rc h w ((onF h w F ls).foldl lft N):=Qhi rn fun y hy=>hl' y (z64.mp hy).1
 generalize e0:(onF h w F ls).foldl lft N=R0 at r0
 refine Ws [~~~(flD z F),~~~(rB a b N),~~~(sq d' (ls.map (pnB c))),some (.own (rD R0)),s,some (.own (.lst ((Qh4 Vx (gvL h w F R0 (Vr (R0.map Vr)))).map npD))),none] ?_ ?_
 ·simp? only[Qfh (Qlp rf r0 h1 hh w1 hw (z65 Qnz @0))]
  exact⟨trivial,trivial⟩
 have hlow:∀q,inR h w q->Vr (R0.map Vr)<=atL R0 q:=fun q hq=>QsE r0 h1 w1 hq
 generalize Vr (R0.map Vr)=least at hlow
 refine Jq (fun ρ=>∃R t dn,frO t/\Jv h w F R0 least dn R []/\ρ=[~~~(flD z F),~~~(rB a b N),~~~(sq d' (ls.map (pnB c))),some (.own (rD R)),s,some (.own (.lst [])),t]) ?_ ?_
 ·refine Qlb (fun n ρ=>∃R wt t dn,frO t/\Jv h w F R0 least dn R wt/\wt.length+5 * QdH (cel w h) dn<=n/\n<=5500/\ρ=[~~~(flD z F),~~~(rB a b N),~~~(sq d' (ls.map (pnB c))),some (.own (rD R)),s,some (.own (.lst (wt.map npD))),t]) (n:=5450) ?_ ?_ @1
  ·rintro n ρ ⟨R,wt,t,dn,ht,j,hn,hn4,rfl⟩
   refine⟨(decide ((wt.length:Int) > 0),[~~~(flD z F),~~~(rB a b N),~~~(sq d' (ls.map (pnB c))),some (.own (rD R)),s,some (.own (.lst (wt.map npD))),t]),JH.mp (by simp? only[z01]),?_⟩
   dsimp only
   rcases List.eq_nil_or_concat wt with rfl|⟨wt0,e,rfl⟩
   ·exact⟨fun q=>absurd q @9,fun _=>⟨rfl,R,t,dn,ht,j,rfl⟩⟩
   refine⟨fun _=>?_,fun q=>absurd q @9⟩
   rw[List.concat_eq_append] at j hn ⊢
   refine Ws [~~~(flD z F),~~~(rB a b N),~~~(sq d' (ls.map (pnB c))),some (.own (rD R)),s,some (.own (.lst (wt0.map npD))),~~~(npD e)] ?_ ?_
   ·refine Qi.mpr ?_
    refine QuJ (par:=false) (xs:=wt0.map npD) (d:=npD e) (by rw[z77];rfl) (by have:=QdD (wt0++[e]);rw[z77] at this;exact this) ?_
    rcases ht with rfl|⟨_,rfl⟩<;>exact Q5.mpr ⟨rfl,rfl⟩
   have oke:=(j.i1 e (z02 _ z07)).1
   have ie:=(YZ oke).1
   refine Qi.mpr ⟨(decide (atL R e.2=e.1),[~~~(flD z F),~~~(rB a b N),~~~(sq d' (ls.map (pnB c))),some (.own (rD R)),s,some (.own (.lst (wt0.map npD))),~~~(npD e)]),JH.mp ?_,?_⟩
   ·simp? only[npD,QC (Qgu j.rc ie),true_and]
   dsimp only
   rw[z16] at hn
   simp only[z27,zp6] at hn
   by_cases c:atL R e.2=e.1
   ·rw[decide_eq_true c,if_pos rfl]
    have pw0:=(z34.mp j.pw).1
    have hg:=Qpr (z:=z) (e:=e) rf j.rc h1 pw0 (fun x hx=>j.i1 x (z06 _ hx)) @0 ie
    simp? only[]
    refine QpK (dis:=[rD R,.lst (wt0.map npD)]) (P:=QvG h w F e R wt0) rfl hg ?_
    rintro d os ⟨_,R',wt',rfl,g⟩
    obtain⟨j',nd,_⟩:=j.give nf c g
    refine⟨trivial,wt'.length+5 * QdH (cel w h) (fun p=>dn p || decide (p=e.2)),?_,R',wt',~~~(npD e),_,.inr ⟨_,rfl⟩,j',z24 _,?_,rfl⟩
    ·have a:=Qfl (Vk.mpr ie) nd
     have b:=g.ln
     have c:=Qld (h:=h) (w:=w) (F:=F) e.2
     lia
    ·have a:=Qfl (Vk.mpr ie) nd
     have b:=g.ln
     have c:=Qld (h:=h) (w:=w) (F:=F) e.2
     lia
   ·rw[decide_eq_false c,if_neg @1]
    exact Q5.mpr ⟨rfl,wt0.length+5 * QdH (cel w h) dn,by lia,R,wt0,~~~(npD e),dn,.inr ⟨_,rfl⟩,j.stale c,z24 _,by lia,rfl⟩
  ·refine⟨R0,Qh4 Vx (gvL h w F R0 least),none,fun _=>false,.inl rfl,QmH r0 least,?_,by decide,rfl⟩
   have a:=Qnz (h:=h) (w:=w) (F:=F) (R:=R0) (least:=least)
   have b:=QmF (cel w h) (fun _=>false)
   rw[QaU] at b
   rw[(Vs (lt:=Vx) (gvL h w F R0 least)).length_eq]
   lia
 rintro ρ ⟨R,t,dn,ht,j,rfl⟩
 simp? only[]
 refine⟨_,[],rfl,?_,rfl,R,rfl,?_⟩
 ·rcases hs with rfl|⟨_,rfl⟩<;>rcases ht with rfl|⟨_,rfl⟩<;>rfl
 ·subst e0
  refine⟨j.rc,j.up,j.fin nf hlow,fun q hq=>(j.so q hq).imp id fun⟨u,hu,hn,hv⟩=>⟨u,(j.d1 u hu).1,hn,hv⟩⟩)
end
variable {z:Z}
section
variable {h w:Nat}{F R N:List @17}{p:Int×Int}{ls:List PN}
variable {a b c d':Bool}
theorem QeA {l:List Int}(hl:l.length<=30):QV z [rwB b l]=.ok .non []:=Jz (Qff (by
 dsimp only[JW]
 refine Qi.mpr ⟨(false,[~~~(rwB b l)]),JH.mp ?_,Q5.mpr ⟨_,rfl,rfl,rfl,rfl⟩⟩
 have e3:siK (rwB b l,[~~~(rwB b l)])=.ok (l.map D.int,[~~~(rwB b l)]):=Qgm
 simp? only[e3]
 refine Qg8 (g:=fun _=>.bl true) (di:=[]) (ρb:=[none]) (os:=[]) rfl rfl ?_ (by rw[z36,z01];lia) rfl rfl ?_
 ·intro d hd
  obtain⟨i,hi,rfl⟩:=z48.mp hd
  exact⟨[~~~(.int i)],rfl,JH.mp (by simp? only[QC Qfv,true_and]),rfl⟩
 ·have e4:Qq6 [.lst (zk3 (fun _=>D.bl true) (l.map D.int))]=some (.bl true):=by
   have e5:zk3 (fun _=>D.bl true) (l.map D.int)=(l.map fun _=>true).map D.bl:=by rw[z76,z76];rfl
   rw[e5,QkN]
   congr 2
   rw[zd4]
   exact z69.mpr fun _ _=>rfl
  simp? only[e4]))
theorem Qin (rf:Rc h w F)(rn:Rc h w N)(h1:1<=h)(hw:w<=30):Yl z [flD z F,rB a b N]=.ok .non []:=Jz (Qff (by
 dsimp only[Yk]
 have i1:=Ju (z:=z) (F:=F) (nm := "high") @1
 have i2:=Ju (z:=z) (F:=F) (nm := "wide") @1
 have g1:YS [rB a b N]=some (.int h):=by unfold rB;rw[Qhe,z01,rn.hi]
 refine Ws [~~~(flD z F),~~~(rB a b N),none] ?_ ?_
 ·refine Qi.mpr ⟨(false,[~~~(flD z F),~~~(rB a b N),none]),JH.mp ?_,Q5.mpr ⟨rfl,rfl⟩⟩
  simp? only[i1,g1,QC (show J5 z [rB a b N]=.ok (.bl true) [] from Qgv),QC (QdT rf),true_and,ne_eq,not_true_eq_false]
 have e3:siK (rB a b N,[~~~(flD z F),~~~(rB a b N),none])=.ok (N.map (rwB b),[~~~(flD z F),~~~(rB a b N),none]):=Qgm
 simp? only[e3]
 refine Qak (fun i ρ=>∃s,frO s/\ρ=[~~~(flD z F),~~~(rB a b N),s]) ⟨none,.inl rfl,rfl⟩ ?_ ?_
 ·rintro i d ρ hd ⟨s,hs,rfl⟩
  rw[z22] at hd
  obtain⟨l,hl,rfl⟩:=z03.mp hd
  have el:=rn.wi l (z59 hl)
  have g2:YS [rwB b l]=some (.int w):=by unfold rwB;rw[Qhe,z01,el]
  refine⟨[~~~(flD z F),~~~(rB a b N),~~~(rwB b l)],?_,?_⟩
  ·rcases hs with rfl|⟨_,rfl⟩<;>rfl
  refine Ws [~~~(flD z F),~~~(rB a b N),~~~(rwB b l)] ?_ ?_
  ·refine Qi.mpr ⟨(false,[~~~(flD z F),~~~(rB a b N),~~~(rwB b l)]),JH.mp ?_,Q5.mpr ⟨rfl,rfl⟩⟩
   simp? only[i2,g2,QC (show J5 z [rwB b l]=.ok (.bl true) [] from Qgv),QC (QaS rf h1),true_and,ne_eq,not_true_eq_false]
  simp? only[QC (QeA (z:=z) (l:=l) @0)]
  exact⟨trivial,trivial,_,.inr ⟨_,rfl⟩,rfl⟩
 ·rintro ρ ⟨s,hs,rfl⟩
  refine⟨[],rfl,?_,trivial,rfl⟩
  rcases hs with rfl|⟨_,rfl⟩<;>rfl))
theorem Qgx {s:Int}(rf:Rc h w F)(h1:1<=h)(hp:inR h w p):Yr z [flD z F,pnB c (p,s)]=.ok .non []:=Jz (Qff (by
 dsimp only[Yq]
 have i1:=Ju (z:=z) (F:=F) (nm := "check_place") @1
 simp? only[pnB,QC (Qlj (a:=plB c p) (b:=.int s)),i1,QC (Qgw rf h1 hp),true_and]
 exact⟨_,rfl,rfl⟩))
def unL (h w:Nat)(N R:List @17):List (Int×Int):=(cel w h).filter fun p=>decide (atL N p≠atL R p)
theorem Qlu (rn:Rc h w N)(r:Rc h w R)(hh:h<=30)(hw:w<=30):Qie z [rB a b N,rD R]=.ok (.lst ((unL h w N R).map pl)) []:=Jz (Jc (by
 dsimp only[Qfm]
 have hz:h * w<=900:=z65 (zg3 hh hw) @1
 simp? only[Qfh (QcP rn hh hw)]
 refine QkQ (f:=fun d=>decide (atL N (pD d)≠atL R (pD d))) (g:=fun d=>d) (di:=[]) (ρb:=[none,~~~(rB a b N),~~~(rD R)]) (os:=[]) rfl rfl ?_ (by rw[z36,z01,QaU];lia) rfl rfl ?_
 ·intro d hd
  obtain⟨q,hq,rfl⟩:=z48.mp hd
  have c:=Vk.mp hq
  refine⟨[~~~(pl q),~~~(rB a b N),~~~(rD R)],rfl,JH.mp ?_,fun _=>rfl,rfl⟩
  simp? only[QC (show YC z [rB a b N,pl q]=_ from Qhg (c:=true) rn c),QC (Qgu r c),true_and]
  rfl
 have e9:(((cel w h).map pl).filter (fun d=>decide (atL N (pD d)≠atL R (pD d)))).map (fun d=>d)=(unL h w N R).map pl:=by
  rw[zi7 (fun _=>rfl),zg6];rfl
 rw[e9]
 exact Q5.mpr ⟨_,_,rfl,rfl,rfl,rfl⟩))
def QwC (h w:Nat)(F N:List @17)(ls:List PN)(d:D)(os:List D):Prop:=os=[]/\∃R,d=.tup [rD R,.lst ((unL h w N R).map pl)]/\QpO h w F N (onF h w F ls) R
theorem Qlv (rf:Rc h w F)(nf:Nn h w F)(rn:Rc h w N)(h1:1<=h)(hh:h<=30)(w1:1<=w)(hw:w<=30)(hl:∀x∈ls,inR h w x.1) :
  FW (Qa5 z [flD z F,rB a b N,sq d' (ls.map (pnB c))]) (QwC h w F N ls):=Jc (by
 dsimp only[Qb9]
 refine Ws [~~~(flD z F),~~~(rB a b N),~~~(sq d' (ls.map (pnB c))),none,none] ?_ ?_
 ·simp? only[QC (Qin (z:=z) rf rn h1 hw)]
  exact⟨trivial,trivial,trivial⟩
 refine Jq (fun ρ=>∃s,frO s/\ρ=[~~~(flD z F),~~~(rB a b N),~~~(sq d' (ls.map (pnB c))),s,none]) ?_ ?_
 ·simp? only[Qgm]
  refine Qak (fun i ρ=>∃s,frO s/\ρ=[~~~(flD z F),~~~(rB a b N),~~~(sq d' (ls.map (pnB c))),s,none]) ⟨none,.inl rfl,rfl⟩ ?_ ?_
  ·rintro i d ρ hd ⟨s,hs,rfl⟩
   rw[z22] at hd
   obtain⟨x,hx,rfl⟩:=z03.mp hd
   have hm:=z59 hx
   refine⟨[~~~(flD z F),~~~(rB a b N),~~~(sq d' (ls.map (pnB c))),~~~(pnB c x),none],?_,?_⟩
   ·rcases hs with rfl|⟨_,rfl⟩<;>rfl
   simp? only[QC (Qgx (z:=z) (s:=x.2) (p:=x.1) rf h1 (hl x hm))]
   exact⟨trivial,trivial,_,.inr ⟨_,rfl⟩,rfl⟩
  ·rintro ρ ⟨s,hs,rfl⟩
   exact⟨rfl,s,hs,rfl⟩
 rintro ρ ⟨s,hs,rfl⟩
 refine Jq (fun ρ=>∃R,QpO h w F N (onF h w F ls) R/\ρ=[~~~(flD z F),~~~(rB a b N),~~~(sq d' (ls.map (pnB c))),s,some (.own (rD R))]) ?_ ?_
 ·simp? only[]
  refine Qmt (P:=fun d os=>os=[]/\∃R,d=rD R/\QpO h w F N (onF h w F ls) R) (Qlt rf nf rn h1 hh w1 hw hl) fun d os hz=>?_
  obtain⟨e1,R,e2,sp⟩:=hz
  refine⟨(fun q=>nomatch q),?_⟩
  subst e2
  exact Q5.mpr ⟨rfl,R,sp,rfl⟩
 rintro ρ ⟨R,sp,rfl⟩
 simp? only[Qfh (Qlu (z:=z) rn sp.rc hh hw)]
 rw[Qsx (q:=([rD R,.lst ((unL h w N R).map pl)],[~~~(flD z F),~~~(rB a b N),~~~(sq d' (ls.map (pnB c))),s,none])) rfl (by rw[z36];show(2:Nat)<=16777216;decide)]
 simp? only[]
 refine⟨_,[],rfl,?_,rfl,R,rfl,sp⟩
 rcases hs with rfl|⟨_,rfl⟩<;>rfl)
end
variable {z:Z}
theorem Qhk {a b:Int×Int}(e:Qe5 a=Qe5 b):a=b:=by
 have:=(zw6 e)
 exact zp2 (zs8 this.1) (zs8 (zw6 this.2).1)
def Qec (ls:List PN):D:=.nd (.dT (ls.map fun x=>Qe5 x.1)) (ls.map fun x=>.int x.2)
def QbL:List PN->Int×Int->Option Int
 | [],_=>none
 |x::r,q=>if x.1=q then some x.2 else QbL r q
def QnA (ls:List PN)(q:Int×Int)(v:Int):List PN:=if(ls.any fun x=>decide (x.1=q))=true then ls.map (fun x=>if x.1=q then(x.1,v) else x) else ls++[(q,v)]
theorem Qio:∀{ls:List PN} {q p:Int×Int} {v:Int},(ls.any fun x=>decide (x.1=q))=false->QbL (ls++[(q,v)]) p=if p=q then some v else QbL ls p
 | [],q,p,v,_=>by
  show(if q=p then some v else none)=_
  by_cases e:p=q
  ·rw[if_pos e,if_pos e.symm]
  ·rw[if_neg e,if_neg (zb9 e)];rfl
 |x::r,q,p,v,h=>by
  rw[zf3,Bool.or_eq_false_iff] at h
  rw[zo7,QbL,Qio h.2,QbL]
  by_cases e:x.1=p
  ·rw[if_pos e,if_pos e,if_neg fun q'=>of_decide_eq_false h.1 (e.trans q')]
  ·rw[if_neg e,if_neg e]
theorem Qfw:∀{ls:List PN} {q p:Int×Int} {v:Int},(ls.any fun x=>decide (x.1=q))=true->QbL (ls.map fun x=>if x.1=q then(x.1,v) else x) p=if p=q then some v else QbL ls p
 | [],q,p,v,h=>by cases h
 |x::r,q,p,v,h=>by
  rw[z30]
  by_cases e:x.1=q
  ·rw[if_pos e,QbL,QbL]
   by_cases e2:x.1=p
   ·rw[if_pos e2,if_pos (e2.symm.trans e)]
   ·rw[if_neg e2,if_neg e2,if_neg fun k=>e2 (e.trans k.symm)]
    by_cases h':(r.any fun x=>decide (x.1=q))=true
    ·rw[Qfw h',if_neg fun k=>e2 (e.trans k.symm)]
    ·rw[show(r.map fun x=>if x.1=q then(x.1,v) else x)=r from by
      refine(z94 fun y hy=>?_).trans (List.map_id r)
      rw[if_neg fun k=>h' (List.any_eq_true.mpr ⟨y,hy,decide_eq_true k⟩)];rfl]
  ·rw[if_neg e,QbL,QbL]
   have h':(r.any fun x=>decide (x.1=q))=true:=by
    rw[zf3,decide_eq_false e,Bool.false_or] at h;exact h
   by_cases e2:x.1=p
   ·rw[if_pos e2,if_pos e2,if_neg fun k=>e (e2.trans k)]
   ·rw[if_neg e2,if_neg e2,Qfw h']
theorem QmI {ls:List PN}{q p:Int×Int}{v:Int}:QbL (QnA ls q v) p=if p=q then some v else QbL ls p:=by
 unfold QnA
 by_cases h:(ls.any fun x=>decide (x.1=q))=true
 ·rw[if_pos h,Qfw h]
 ·rw[if_neg h,Qio (zi2.mpr h)]
theorem Qps {ls:List PN}{q:Int×Int}:((ls.map fun x=>Qe5 x.1).any fun x=>decide (x=Qe5 q))=ls.any fun x=>decide (x.1=q):=by
 rw[List.any_map]
 congr 1
 funext x
 exact decide_eq_decide.mpr ⟨Qhk,fun e=>congrArg Qe5 e⟩
theorem Qpt {ls:List PN}{q:Int×Int}{v:Int}:zc2 (fun x y=>if x=Qe5 q then D.int v else y) (ls.map fun x=>Qe5 x.1) (ls.map fun x=>D.int x.2)=(ls.map fun x=>if x.1=q then(x.1,v) else x).map fun x=>D.int x.2:=by
 induction ls with
 |nil=>rfl
 |cons x r ih=>
  rw[z30,z30,za8,ih,z30,z30]
  congr 1
  by_cases e:x.1=q
  ·rw[if_pos e,if_pos (by rw[e])]
  ·rw[if_neg e,if_neg fun k=>e (Qhk k)]
theorem Qpu {ls:List PN}{q:Int×Int}{v:Int}:(ls.map fun x=>if x.1=q then(x.1,v) else x).map (fun x=>Qe5 x.1)=ls.map fun x=>Qe5 x.1:=by
 rw[z76]
 refine z94 fun x _=>?_
 show Qe5 (if x.1=q then(x.1,v) else x).1=_
 split<;>rfl
theorem QmJ (ls:List PN):D.Jb (ls.map fun x=>.int x.2)=true:=by
 induction ls with
 |nil=>rfl
 |cons x r ih=>rw[z30];exact z66.mpr ⟨rfl,ih⟩
theorem Qpv {par:Bool}{i:Nat}{ρ:Rho}{mv mk:ME}{ls:List PN}{v:Int}{q:Int×Int}{kf:Fl×Rho->Prop}(hi:ρ[i]? = some (some (mkS par (Qec ls))))(h1:mv ρ=.ok (.int v,ρ))(h2:mk ρ=.ok (pl q,ρ))(hl:ls.length<z17)
  (h:kf (.nx,ρ.set i (some (mkS par (Qec (QnA ls q v)))))):W (QoD i mv mk ρ) kf:=by
 have e1:Qnh ρ i=some (par,ls.map (fun x=>Qe5 x.1),ls.map fun x=>.int x.2):=by unfold Qnh;rw[hi];cases par<;>rfl
 refine⟨_,?_,h⟩
 unfold QoD
 rw[h1]
 show((Rs.of (Qnh ρ i)).bind _)=_
 rw[e1]
 show((mk ρ).bind _)=_
 rw[h2]
 show((Rs.of (Qnh ρ i)).bind _)=_
 rw[e1]
 show(if(ls.map fun x=>Qe5 x.1).length<z17 then(if((D.int v).imm && D.Jb (ls.map fun x=>.int x.2))=true then Rs.ok (Fl.nx,ρ.set i (some (mkS par (.nd (.dT (putD (ls.map fun x=>Qe5 x.1) (ls.map fun x=>.int x.2) (Qe5 q) (.int v)).1) (putD (ls.map fun x=>Qe5 x.1) (ls.map fun x=>.int x.2) (Qe5 q) (.int v)).2)))) else .no) else .no)=_
 rw[if_pos (by rw[z01];exact hl),if_pos (by rw[QmJ];rfl)]
 congr 4
 unfold putD QnA Qec
 rw[Qps]
 by_cases hn:(ls.any fun x=>decide (x.1=q))=true
 ·rw[if_pos hn,if_pos hn]
  dsimp only
  rw[Qpt,Qpu]
 ·rw[if_neg hn,if_neg hn,z77,z77];rfl
theorem Qip {v:Int}:∀{ls:List PN} {q:Int×Int},(match Qk5 (ls.map fun x=>Qe5 x.1) (ls.map fun x=>D.int x.2) (Qe5 q) with|some d=>if d.imm=true then some d else none|none=>some (.int v))=some (D.int ((QbL ls q).getD v))
 | [],_=>rfl
 |x::r,q=>by
  rw[z30,z30,Qk5,QbL]
  by_cases e:x.1=q
  ·rw[if_pos e,if_pos (by rw[e])];rfl
  ·rw[if_neg e,if_neg fun k=>e (Qhk k)];exact Qip
theorem get_eq {md mk mv:ME}{ρ:Rho}{ls:List PN}{q:Int×Int}{v:Int}(h1:md ρ=.ok (Qec ls,ρ))(h2:mk ρ=.ok (pl q,ρ))(h3:mv ρ=.ok (.int v,ρ)):QmC md mk mv ρ=.ok (.int ((QbL ls q).getD v),ρ):=
 Qpi h1 h2 h3 Qip
theorem Qpw (xs:List Int)(k:Int)(hk:0<=k):∃c:Int,QdK z [script xs,.int k]=.ok (.int c) []:=by
 by_cases h:k<xs.length
 ·refine⟨xs.getD k.toNat 0,Jz (Jc ?_)⟩
  dsimp only[VH]
  have g1:YS [script xs]=some (.int xs.length):=by show some (D.int ((xs.map D.int).length:Nat))=_;rw[z01]
  have g2:atI (xs.map D.int) k=some (.int (xs.getD k.toNat 0)):=Qay D.int 0 hk @0
  have g3:gIx (script xs) (.int k)=some (.int (xs.getD k.toNat 0)):=g2
  simp? only[g1,h,g3]
  exact⟨_,_,rfl,rfl,rfl,rfl⟩
 ·refine⟨0,Jz (Jc ?_)⟩
  dsimp only[VH]
  have g1:YS [script xs]=some (.int xs.length):=by show some (D.int ((xs.map D.int).length:Nat))=_;rw[z01]
  simp? only[g1,h]
  exact⟨_,_,rfl,rfl,rfl,rfl⟩
theorem Qcb (xs:List Int)(k:Int)(hk:0<=k):FW (QcI z [script xs,.int k]) (fun d os=>os=[]/\Pot d):=Jc (by
 dsimp only[QaI]
 obtain⟨c,ec⟩:=Qpw (z:=z) xs k hk
 have c1:QmT 10 18:=⟨by decide,by decide,by decide⟩
 have c2:QgB 101 k:=.inl @1
 simp? only[QC ec,c1]
 refine⟨trivial,?_⟩
 refine Qg7 (fun h=>?_) (fun h=>?_)
 ·obtain⟨r,er⟩:=Qlh (z:=z) (c+101 * k)
  simp? only[c2,QC er]
  exact⟨trivial,_,_,rfl,rfl,rfl,_,_,rfl⟩
 ·simp? only[]
  exact⟨_,_,rfl,rfl,rfl,_,_,rfl⟩)
section
variable {h w:Nat}{F:List @17}
theorem Qgy (hw:1<=w):∀h:Nat,(z68 (h * w)).map (fun(j:Nat)=>(((j:Int) / w,(j:Int) % w):Int×Int))=cel w h
 |0=>by rw[Nat.zero_mul];rfl
 |h+1=>by
  rw[Nat.succ_mul,List.range_add,z77,Qgy hw h,cel]
  congr 1
  rw[z76]
  refine z94 fun k hk=>?_
  have hk:=za4.mp hk
  have e1:(((h * w+k:Nat):Int)) / w=h:=by
   have:(h * w+k) / w=h:=by rw[Nat.mul_comm,Nat.mul_add_div @0,Nat.div_eq_of_lt hk];rfl
   exact(Int.natCast_ediv _ _).symm.trans (congrArg _ this)
  have e2:(((h * w+k:Nat):Int)) % w=k:=by
   have:(h * w+k) % w=k:=by rw[Nat.mul_comm,Nat.mul_add_mod,Nat.mod_eq_of_lt hk]
   exact(Int.natCast_emod _ _).symm.trans (congrArg _ this)
  show((((h * w+k:Nat):Int)) / w,(((h * w+k:Nat):Int)) % w)=_
  rw[e1,e2]
theorem QeB (r:Rc h w F)(h1:1<=h)(hh:h<=30)(w1:1<=w)(hw:w<=30):Qb0 z [rD F]=.ok (.lst ((cel w h).map pl)) []:=Jz (Jc (by
 dsimp only[VM]
 have hz:h * w<=900:=z65 (zg3 hh hw) @1
 have g1:YS [rD F]=some (.int h):=by unfold rD;simp[YS,r.hi]
 have g2:YS [rwI (F.getD (0:Int).toNat [])]=some (.int w):=by
  have:=r.row (i:=0) @1 @0
  unfold rwI
  simp only[YS,z01,this]
 simp only[z97] at g2
 have c1:QgB h w:=.inl ⟨by lia,by lia⟩
 have em:(h:Int) * (w:Int)=((h * w:Nat):Int):=(Int.natCast_mul h w).symm
 have b1:(-4611686018427387904:Int)<=((h * w:Nat):Int)/\((h * w:Nat):Int)<4611686018427387904:=by lia
 simp? only[Vt r (i:=0) @1 @0,g2,g1,c1,em,b1,and_self,z95]
 refine Qg8 (g:=fun d=>match d with|.int k=>.tup [.int (k / w),.int (k % w)]|_=>d) (di:=[]) (ρb:=[none,~~~(.int w)]) (os:=[]) rfl rfl ?_ (by rw[z36,z01,z63];lia) rfl rfl ?_
 ·intro d hd
  obtain⟨n,hn,rfl⟩:=z48.mp hd
  have c2:∀a,Qd3 a (w:Int):=fun a=>⟨by lia,by lia⟩
  have c3:(0:Int)<w:=by lia
  exact⟨[~~~(.int (0+(n:Nat))),~~~(.int w)],rfl,JH.mp (by simp? only[c2,c3]),rfl⟩
 ·have e:zk3 (fun d=>match d with|D.int k=>D.tup [.int (k / w),.int (k % w)]|_=>d) (zk3 (fun(j:Nat)=>D.int (0+(j:Int))) (z68 (h * w)))=(cel w h).map pl:=by
   rw[← Qgy w1 h,z76,z76]
   refine z94 fun k _=>?_
   show D.tup [.int ((0+(k:Int)) / w),.int ((0+(k:Int)) % w)]=D.tup [.int ((k:Int) / w),.int ((k:Int) % w)]
   rw[zv1]
  rw[e]
  exact Q5.mpr ⟨_,_,rfl,rfl,rfl,rfl⟩))
end
variable {z:Z}
section
variable {h w:Nat}{F N:List @17}{p:Int×Int}{xs:List Int}{q:D}
theorem QwD {α:Type}{r:Rs α}{P k:α->Prop}(h:W r P)(hk:∀a,P a->k a):W r k:=let ⟨a,e,p⟩:=h;⟨a,e,hk a p⟩
theorem QcQ {ρ:Rho}{i:Nat}{s:Option Sl}{d:D}(h:ρ[i]? = some s)(hs:frO s):Qam ρ i d=some (ρ.set i (~~~d)):=by unfold Qam;rw[h];rcases hs with rfl|⟨_,rfl⟩<;>rfl
theorem Qpx {ρ:Rho}{i j:Nat}{s t:Option Sl}{x y:D}(h:ρ[i]? = some s)(hs:frO s)(h2:(ρ.set i (~~~x))[j]? = some t)(ht:frO t):Qjn i j (.tup [x,y]) ρ=some ((ρ.set i (~~~x)).set j (~~~y)):=by
 show(Qam ρ i x).bind _=_
 rw[QcQ h hs];exact QcQ h2 ht
def QuY (d:D)(os:List D):Prop:=∃n:Nat,∃q,d=.int n/\os=[q]/\Pot q/\1<=n/\n<=30
theorem Qlw (hq:Pot q):FW (QdP z [q]) QuY:=Jc (by
 dsimp only[QbJ]
 simp? only[]
 refine Qbv (p:=q) (P:=spT 8) rfl (Q4 hq @1 @1) fun _ _ ⟨r1,q1,e1,e2,hq1,_,_⟩=>⟨q1,e2,?_⟩;subst e1
 simp? only[]
 refine Qg7 (fun h=>?_) (fun h=>?_)
 ·simp? only[]
  refine Qbv (p:=q1) (P:=spT 30) rfl (Q4 hq1 @1 @1) fun _ _ ⟨r2,q2,e1,e2,hq2,g0,g1⟩=>⟨q2,e2,?_⟩;subst e1
  simp? only[]
  exact⟨_,_,rfl,rfl,(1+r2).toNat,q2,by rw[zw7 @0],rfl,hq2,by lia,by lia⟩
 ·simp? only[]
  refine Qbv (p:=q1) (P:=spT 6) rfl (Q4 hq1 @1 @1) fun _ _ ⟨r2,q2,e1,e2,hq2,g0,g1⟩=>⟨q2,e2,?_⟩;subst e1
  simp? only[]
  exact⟨_,_,rfl,rfl,(1+r2).toNat,q2,by rw[zw7 @0],rfl,hq2,by lia,by lia⟩)
theorem Qiq:∀{r:List D},(∀x∈r,Qhf x)->∃l:List Int,r=l.map D.int/\∀x∈l,0<=x/\x<Qaa
 | [],_=>⟨[],rfl,fun _ q=>nomatch q⟩
 |d::r,h=>by
  obtain⟨l,rfl,hl⟩:=Qiq fun x hx=>h x (z08 _ hx)
  obtain⟨a,rfl,h0,h1⟩:=h d z07
  exact⟨a::l,rfl,fun x hx=>by
   rcases z15.mp hx with rfl|hx
   ·exact⟨h0,h1⟩
   ·exact hl x hx⟩
theorem Qlx {l:List Int}(ok:okL F)(hl:∀x∈l,0<=x/\x<Qaa):okL (F++[l]):=fun r hr=>by
 rcases z05.mp hr with hr|hr
 ·exact ok r hr
 ·rw[z26.mp hr];exact hl
theorem QnB {i:Nat}{l:List Int}(r:Rc i w F)(hl:l.length=w):Rc (i+1) w (F++[l]):=⟨by rw[z16,r.hi];rfl,fun x hx=>by
 rcases z05.mp hx with hx|hx
 ·exact r.wi x hx
 ·rw[z26.mp hx];exact hl⟩
theorem Jh {s:Option Sl}{ρ:Rho}(hs:frO s):outs [] (s::ρ)=outs [] ρ:=by rcases hs with rfl|⟨_,rfl⟩<;>rfl
def QsH (s:Option Sl):Prop:=s=none\/∃d,s=some (.own d)
def QwE (d:D)(os:List D):Prop:=os=[]/\∃(h w:Nat) (F:List @17),d=rD F/\Rc h w F/\okL F/\1<=h/\h<=30/\1<=w/\w<=30
theorem Qpy {s:Option Sl}{ρ:Rho}(hs:QsH s):outs [] (s::ρ)=outs [] ρ:=by rcases hs with rfl|⟨_,rfl⟩<;>rfl
theorem Qly:FW (Qb4 z [script xs,.int 0]) QwE:=Jc (by
 dsimp only[V2]
 refine Jq (fun ρ=>∃q,Pot q/\ρ=[~~~(script xs),~~~(.int 0),some (.own q),none,none,none,none,none]) ?_ ?_
 ·simp? only[]
  refine Qmt (P:=fun d os=>os=[]/\Pot d) (Qcb xs 0 @0) fun d os hz=>?_
  obtain⟨_,hq⟩:=hz
  refine⟨(fun q=>nomatch q),?_⟩
  exact Q5.mpr ⟨rfl,d,hq,rfl⟩
 rintro ρ ⟨q,hq,rfl⟩
 refine Jq (fun ρ=>∃(h:Nat) (q:D),Pot q/\1<=h/\h<=30/\ρ=[~~~(script xs),~~~(.int 0),some (.own q),~~~(.int h),none,none,none,none]) ?_ ?_
 ·simp? only[]
  refine QkP (p:=q) (P:=QuY) rfl (Qlw hq) fun _ _ ⟨n,q1,e1,e2,hq1,g0,g1⟩=>⟨q1,e2,?_⟩;subst e1
  exact Q5.mpr ⟨rfl,n,q1,hq1,g0,g1,rfl⟩
 rintro ρ ⟨h,q,hq,h1,hh,rfl⟩
 refine Jq (fun ρ=>∃(w:Nat) (q:D),1<=w/\w<=30/\ρ=[~~~(script xs),~~~(.int 0),some (.own q),~~~(.int h),~~~(.int w),none,none,none]) ?_ ?_
 ·simp? only[]
  refine QkP (p:=q) (P:=QuY) rfl (Qlw hq) fun _ _ ⟨n,q1,e1,e2,hq1,g0,g1⟩=>⟨q1,e2,?_⟩;subst e1
  exact Q5.mpr ⟨rfl,n,q1,g0,g1,rfl⟩
 rintro ρ ⟨w,q,w1,hw,rfl⟩
 refine Ws [~~~(script xs),~~~(.int 0),some (.own q),~~~(.int h),~~~(.int w),some (.own (rD [])),none,none] ?_ ?_
 ·exact Q5.mpr ⟨rfl,rfl⟩
 refine Jq (fun ρ=>∃F s6 s7,Rc h w F/\okL F/\frO s6/\QsH s7/\ρ=[~~~(script xs),~~~(.int 0),some (.own q),~~~(.int h),~~~(.int w),some (.own (rD F)),s6,s7]) ?_ ?_
 ·have b1:(-4611686018427387904:Int)<=h/\(h:Int)<4611686018427387904:=by lia
  simp? only[b1,and_self,z95]
  refine Qak (fun i ρ=>∃F s6 s7,Rc i w F/\okL F/\frO s6/\QsH s7/\ρ=[~~~(script xs),~~~(.int 0),some (.own q),~~~(.int h),~~~(.int w),some (.own (rD F)),s6,s7]) ⟨[],none,none,⟨rfl,fun _ h=>nomatch h⟩,fun _ h=>(nomatch h),.inl rfl,.inl rfl,rfl⟩ ?_ ?_
  ·rintro i d ρ hd ⟨F,s6,s7,rF,oF,h6,h7,rfl⟩
   rw[z22] at hd
   obtain⟨x,hx,rfl⟩:=z03.mp hd
   have hi:i<h:=by have:=(z25.mp hx).1;rwa[z63] at this
   refine⟨[~~~(script xs),~~~(.int 0),some (.own q),~~~(.int h),~~~(.int w),some (.own (rD F)),~~~(.int (0+(x:Int))),s7],?_,?_⟩
   ·exact QcQ rfl h6
   refine Jq (fun ρ=>∃q7,Pot q7/\ρ=[~~~(script xs),~~~(.int 0),some (.own q),~~~(.int h),~~~(.int w),some (.own (rD F)),~~~(.int (0+(x:Int))),some (.own q7)]) ?_ ?_
   ·rcases h7 with rfl|⟨_,rfl⟩ <;>
    ·simp? only[]
     refine Qmt (P:=fun d os=>os=[]/\Pot d) (Qcb xs _ @0) fun d os hz=>?_
     obtain⟨_,hq⟩:=hz
     refine⟨(fun q=>nomatch q),?_⟩
     exact Q5.mpr ⟨rfl,d,hq,rfl⟩
   rintro ρ ⟨q7,hq7,rfl⟩
   refine Qi.mpr ⟨_,rfl,Qi.mpr ?_⟩
   refine Qrk (Inv:=fun ρ=>∃q,Pot q/\ρ=[none,some (.par q)]) (Pd:=fun _ y=>Qhf y) (di:=[q7]) (ρb:=[none,some (.par q7)]) (QoJ (n:=w) rfl @0 @0) rfl rfl ?_ ⟨q7,hq7,rfl⟩ ?_ ?_
   ·rintro d' hd' ρ' ⟨q',hq',rfl⟩
    refine⟨[~~~d',some (.par q')],rfl,Q5.mpr ⟨rfl,?_⟩⟩
    simp? only[]
    refine QkP (p:=q') (P:=spP Qhf) rfl (Qpl hq') fun d _ hz=>?_
    obtain⟨p2,e2,hp2,hd⟩:=hz
    refine⟨p2,e2,?_⟩
    obtain⟨r2,rfl,k0,k1⟩:=hd
    simp? only[]
    exact⟨⟨p2,hp2,rfl⟩,_,rfl,k0,k1⟩
   ·simp[z36];lia
   ·rintro ys ρ2 ⟨q2,hq2,rfl⟩ f
    obtain⟨l,rfl,hl⟩:=Qiq f.all
    have ll:=f.length
    refine⟨[q2],rfl,?_⟩
    have hz:(F.map rwI).length<16777216:=by rw[z01,rF.hi];lia
    simp? only[rD,hz]
    refine⟨trivial,F++[l],~~~(.int (0+(x:Int))),some (.own q2),QnB rF (by simpa using ll),Qlx oF hl,.inr ⟨_,rfl⟩,.inr ⟨_,rfl⟩,?_⟩
    rw[z77];rfl
  ·rintro ρ ⟨F,s6,s7,rF,oF,h6,h7,rfl⟩
   rw[z01,z63] at rF
   exact⟨rfl,F,s6,s7,rF,oF,h6,h7,rfl⟩
 rintro ρ ⟨F,s6,s7,rF,oF,h6,h7,rfl⟩
 simp? only[]
 refine⟨_,[],rfl,?_,rfl,h,w,F,rfl,rF,oF,h1,hh,w1,hw⟩
 rcases h6 with rfl|⟨_,rfl⟩<;>rcases h7 with rfl|⟨_,rfl⟩<;>rfl)
def QwF (h w:Nat)(d:D)(os:List D):Prop:=os=[]/\∃N,d=rD N/\Rc h w N/\okL N
def fB (l:List Int):Prop:=∀x∈l,0<=x/\x<Qaa
theorem Qje (rf:Rc h w F)(hh:h<=30)(hw:w<=30):FW (Qbi z [script xs,.int 31,rD F]) (QwF h w):=Jc (by
 dsimp only[Vd]
 refine Ws [~~~(script xs),~~~(.int 31),~~~(rD F),some (.own (rD [])),none,none,none,none,none] ?_ ?_
 ·exact Q5.mpr ⟨rfl,rfl⟩
 refine Jq (fun ρ=>∃N s4 s5 s7 s8,(Rc h w N/\okL N)/\frO s4/\QsH s5/\frO s7/\frO s8/\ρ=[~~~(script xs),~~~(.int 31),~~~(rD F),some (.own (rD N)),s4,s5,none,s7,s8]) ?_ ?_
 ·have g1:YS [rD F]=some (.int h):=by unfold rD;simp[YS,rf.hi]
  have b1:(-4611686018427387904:Int)<=h/\(h:Int)<4611686018427387904:=by lia
  simp? only[g1,b1,and_self,z95]
  refine Qak (fun i ρ=>∃N s4 s5 s7 s8,(Rc i w N/\okL N)/\frO s4/\QsH s5/\frO s7/\frO s8/\ρ=[~~~(script xs),~~~(.int 31),~~~(rD F),some (.own (rD N)),s4,s5,none,s7,s8]) ⟨[],none,none,none,none,⟨⟨rfl,(fun _ h=>nomatch h)⟩,(fun _ h=>nomatch h)⟩,.inl rfl,.inl rfl,.inl rfl,.inl rfl,rfl⟩ ?_ ?_
  ·rintro i d ρ hd ⟨N,s4,s5,s7,s8,rN,h4,h5,h7,h8,rfl⟩
   rw[z22] at hd
   obtain⟨x,hx,rfl⟩:=z03.mp hd
   obtain⟨hi,ex⟩:=z25.mp hx
   rw[z63] at hi
   rw[zm5] at ex
   subst ex
   refine⟨[~~~(script xs),~~~(.int 31),~~~(rD F),some (.own (rD N)),~~~(.int (0+(i:Int))),s5,none,s7,s8],?_,?_⟩
   ·exact QcQ rfl h4
   refine Jq (fun ρ=>∃q5,Pot q5/\ρ=[~~~(script xs),~~~(.int 31),~~~(rD F),some (.own (rD N)),~~~(.int (0+(i:Int))),some (.own q5),none,s7,s8]) ?_ ?_
   ·rcases h5 with rfl|⟨_,rfl⟩ <;>
    ·simp? only[]
     refine Qmt (P:=fun d os=>os=[]/\Pot d) (Qcb xs _ @0) fun d os hz=>?_
     obtain⟨_,hq⟩:=hz
     refine⟨(fun q=>nomatch q),?_⟩
     exact Q5.mpr ⟨rfl,d,hq,rfl⟩
   rintro ρ ⟨q5,hq5,rfl⟩
   refine Ws [~~~(script xs),~~~(.int 31),~~~(rD F),some (.own (rD N)),~~~(.int (0+(i:Int))),some (.own q5),some (.own (rwI [])),s7,s8] ?_ ?_
   ·exact Q5.mpr ⟨rfl,rfl⟩
   refine Jq (fun ρ=>∃q5 l s7 s8,(l.length=w/\fB l)/\frO s7/\frO s8/\ρ=[~~~(script xs),~~~(.int 31),~~~(rD F),some (.own (rD N)),~~~(.int (0+(i:Int))),some (.own q5),some (.own (rwI l)),s7,s8]) ?_ ?_
   ·have e4:∀ρ,siK (rwI (F.getD (0+(i:Int)).toNat []),ρ)=.ok ((F.getD (0+(i:Int)).toNat []).map .int,ρ):=fun _=>rfl
    have ew:=rf.row (i:=0+(i:Int)) @0 @0
    simp? only[Vt rf (i:=0+(i:Int)) @0 @0,e4]
    refine Qak (fun j ρ=>∃q5 l s7 s8,Pot q5/\(l.length=j/\fB l)/\frO s7/\frO s8/\ρ=[~~~(script xs),~~~(.int 31),~~~(rD F),some (.own (rD N)),~~~(.int (0+(i:Int))),some (.own q5),some (.own (rwI l)),s7,s8]) ⟨q5,[],s7,s8,hq5,⟨rfl,(fun _ h=>nomatch h)⟩,h7,h8,rfl⟩ ?_ ?_
    ·rintro j d ρ hd ⟨q5,l,s7,s8,hq5,hl,h7,h8,rfl⟩
     have lj:=(z25.mp hd).1
     rw[z01,ew] at lj
     rw[z22] at hd
     obtain⟨x,hx,rfl⟩:=z03.mp hd
     refine⟨[~~~(script xs),~~~(.int 31),~~~(rD F),some (.own (rD N)),~~~(.int (0+(i:Int))),some (.own q5),some (.own (rwI l)),~~~(.int x),s8],?_,?_⟩
     ·exact QcQ rfl h7
     refine Jq (fun ρ=>∃q5 v,Pot q5/\ρ=[~~~(script xs),~~~(.int 31),~~~(rD F),some (.own (rD N)),~~~(.int (0+(i:Int))),some (.own q5),some (.own (rwI l)),~~~(.int x),~~~(.int v)]) ?_ ?_
     ·simp? only[]
      refine Qbv (p:=q5) (P:=spT 3) rfl (Q4 hq5 @1 @1) fun _ _ ⟨r1,q1,e1,e2,hq1,_,_⟩=>⟨q1,e2,?_⟩;subst e1
      rcases h8 with rfl|⟨_,rfl⟩<;>exact Q5.mpr ⟨rfl,q1,r1,hq1,rfl⟩
     rintro ρ ⟨q5,v,hq5,rfl⟩
     have hz:(l.map D.int).length<16777216:=by rw[z01,hl.1];lia
     refine Qi.mpr ⟨_,rfl,Qi.mpr ?_⟩
     refine QwD (P:=fun r=>∃q5 y,Pot q5/\(0<=y/\y<Qaa)/\r=(.int y,[~~~(script xs),~~~(.int 31),~~~(rD F),some (.own (rD N)),~~~(.int (0+(i:Int))),some (.own q5),some (.own (rwI l)),~~~(.int x),~~~(.int v)])) ?_ ?_
     ·by_cases c1:x > 0
      ·by_cases c2:v > 0
       ·simp? only[c1,c2]
        refine QkP (p:=q5) (P:=spP Qhf) rfl (QdS hq5) fun d _ hz=>?_
        obtain⟨p2,e2,hp2,hd⟩:=hz
        refine⟨p2,e2,?_⟩
        obtain⟨r2,rfl,k0,k1⟩:=hd
        simp? only[]
        exact⟨p2,r2,hp2,⟨k0,k1⟩,rfl⟩
       ·simp? only[c1,c2]
        exact⟨q5,0,hq5,⟨by decide,by decide⟩,rfl⟩
      ·simp? only[c1]
       exact⟨q5,0,hq5,⟨by decide,by decide⟩,rfl⟩
     ·rintro _ ⟨q5,y,hq5,by_,rfl⟩
      simp? only[rwI,hz]
      refine⟨trivial,q5,l++[y],~~~(.int x),~~~(.int v),hq5,⟨by rw[z16,hl.1];rfl,fun v hv=>?_⟩,.inr ⟨_,rfl⟩,.inr ⟨_,rfl⟩,?_⟩
      ·rcases z05.mp hv with hv|hv
       ·exact hl.2 v hv
       ·rw[z26.mp hv];exact by_
      ·rw[z77];rfl
    ·rintro ρ ⟨q5,l,s7,s8,hq5,hl,h7,h8,rfl⟩
     rw[z01,ew] at hl
     exact⟨rfl,q5,l,s7,s8,hl,h7,h8,rfl⟩
   rintro ρ ⟨q5,l,s7,s8,hl,h7,h8,rfl⟩
   have hz:(N.map rwI).length<16777216:=by rw[z01,rN.1.hi];lia
   simp? only[rD,hz]
   refine⟨trivial,N++[l],~~~(.int (0+(i:Int))),some (.own q5),s7,s8,⟨QnB rN.1 hl.1,Qlx rN.2 hl.2⟩,.inr ⟨_,rfl⟩,.inr ⟨_,rfl⟩,h7,h8,?_⟩
   rw[z77];rfl
  ·rintro ρ ⟨N,s4,s5,s7,s8,rN,h4,h5,h7,h8,rfl⟩
   rw[z01,z63] at rN
   exact⟨rfl,N,s4,s5,s7,s8,rN,h4,h5,h7,h8,rfl⟩
 rintro ρ ⟨N,s4,s5,s7,s8,rN,h4,h5,h7,h8,rfl⟩
 simp? only[]
 refine⟨_,[],rfl,?_,rfl,N,rfl,rN.1,rN.2⟩
 show outs [] [s4,s5,none,s7,s8]=some []
 refine(Jh h4).trans ((Qpy h5).trans ?_)
 show outs [] [s7,s8]=some []
 exact(Jh h7).trans (Jh h8))
end
variable {z:Z}
section
variable {h w:Nat}{N:List @17}{p:Int×Int}{q:D}
def nB (n:Int):Prop:=-Qaa<n/\n<Qaa
def QwG (h w:Nat)(d:D)(os:List D):Prop:=∃(ls:List PN) (q:D),os=[q]/\d=.lst (ls.map pnD)/\ls.length<=60/\∀x∈ls,inR h w x.1/\nB x.2
theorem Qlz (rn:Rc h w N)(on:∀p,inR h w p->0<=atL N p/\atL N p<Qaa)(h1:1<=h)(hh:h<=30)(w1:1<=w)(hw:w<=30)(hq:Pot q):FW (Qb6 z [q,rD N]) (QwG h w):=Jc (by
 dsimp only[V4]
 refine Ws [some (.par q),~~~(rD N),some (.own (.lst [])),none,none,none,none,none] ?_ ?_
 ·exact Q5.mpr ⟨rfl,rfl⟩
 have g1:YS [rD N]=some (.int h):=by unfold rD;simp[YS,rn.hi]
 have g2:YS [rwI (N.getD (0:Int).toNat [])]=some (.int w):=by
  have:=rn.row (i:=0) @1 @0
  unfold rwI
  simp only[YS,z01,this]
 simp only[z97] at g2
 have g3:(0:Int)<3:=by decide
 have g4:∀a:Int,Qd3 a 3:=fun a=>⟨by decide,by decide⟩
 refine Jq (fun ρ=>∃(q:D) (ls:List PN) (s3 s4 s5 s6 s7:Option Sl),frO s3/\frO s4/\frO s5/\frO s6/\frO s7/\ls.length<=60/\(∀x∈ls,inR h w x.1/\nB x.2)/\ρ=[some (.par q),~~~(rD N),some (.own @12),s3,s4,s5,s6,s7]) ?_ ?_
 ·simp? only[]
  refine Qbv (p:=q) (P:=spT 7) rfl (Q4 hq @1 @1) fun _ _ ⟨m,q1,e1,e2,hq1,k0,k1⟩=>⟨q1,e2,?_⟩;subst e1
  have b1:(-4611686018427387904:Int)<=m/\(m:Int)<4611686018427387904:=by lia
  simp? only[b1,and_self]
  refine Qak (fun i ρ=>∃(q:D) (ls:List PN) (s3 s4 s5 s6 s7:Option Sl),Pot q/\frO s3/\frO s4/\frO s5/\frO s6/\frO s7/\ls.length=i/\(∀x∈ls,inR h w x.1/\nB x.2)/\ρ=[some (.par q),~~~(rD N),some (.own @12),s3,s4,s5,s6,s7]) ⟨q1,[],none,none,none,none,none,hq1,.inl rfl,.inl rfl,.inl rfl,.inl rfl,.inl rfl,rfl,(fun _ h=>nomatch h),rfl⟩ ?_ ?_
  ·rintro i d ρ hd ⟨q,ls,s3,s4,s5,s6,s7,hq,h3,h4,h5,h6,h7,hi,hl,rfl⟩
   have li:=(z25.mp hd).1
   rw[z01,z63] at li
   rw[z22] at hd
   obtain⟨x,hx,rfl⟩:=z03.mp hd
   generalize (0+(x:Int))=y
   refine⟨[some (.par q),~~~(rD N),some (.own @12),~~~(.int y),s4,s5,s6,s7],?_,?_⟩
   ·exact QcQ rfl h3
   refine Jq (fun ρ=>∃q,∃r:Int,Pot q/\0<=r/\r<h/\ρ=[some (.par q),~~~(rD N),some (.own @12),~~~(.int y),~~~(.int r),s5,s6,s7]) ?_ ?_
   ·refine Qeb (args:=[q,.int h]) (dis:=[q]) (Y8 rfl (Y8 (Qc7 (args:=[rD N]) rfl g1) rfl)) rfl (Q4 hq @0 (za0 (b:=31) @0 @1)) fun _ _ ⟨r1,q1,e1,e2,hq1,k0,k1⟩=>?_;subst e1 e2
    rcases h4 with rfl|⟨_,rfl⟩<;>exact Q5.mpr ⟨rfl,q1,r1,hq1,k0,k1,rfl⟩
   rintro ρ ⟨q,r,hq,r0,r1,rfl⟩
   refine Jq (fun ρ=>∃q,∃c:Int,Pot q/\0<=c/\c<w/\ρ=[some (.par q),~~~(rD N),some (.own @12),~~~(.int y),~~~(.int r),~~~(.int c),s6,s7]) ?_ ?_
   ·refine Qeb (args:=[q,.int w]) (dis:=[q]) (Y8 rfl (Y8 (Qc7 (Y8 (Qde rfl rfl (Vt rn (i:=0) @1 @0)) rfl) g2) rfl)) rfl (Q4 hq @0 (za0 (b:=31) @0 @1)) fun _ _ ⟨r1,q1,e1,e2,hq1,k0,k1⟩=>?_;subst e1 e2
    rcases h5 with rfl|⟨_,rfl⟩<;>exact Q5.mpr ⟨rfl,q1,r1,hq1,k0,k1,rfl⟩
   rintro ρ ⟨q,c,hq,c0,c1,rfl⟩
   have ip:inR h w (r,c):=⟨r0,r1,c0,c1⟩
   refine Jq (fun ρ=>∃q,∃a:Int,Pot q/\ρ=[some (.par q),~~~(rD N),some (.own @12),~~~(.int y),~~~(.int r),~~~(.int c),~~~(.int a),s7]) ?_ ?_
   ·refine Qeb (args:=[q,.int 5]) (dis:=[q]) rfl rfl (Q4 hq @1 @1) fun _ _ ⟨r1,q1,e1,e2,hq1,k0,k1⟩=>?_;subst e1 e2
    rcases h6 with rfl|⟨_,rfl⟩<;>exact Q5.mpr ⟨rfl,q1,r1,hq1,rfl⟩
   rintro ρ ⟨q,a,hq,rfl⟩
   refine Jq (fun ρ=>∃q,∃n:Int,Pot q/\0<=n/\n<Qaa/\ρ=[some (.par q),~~~(rD N),some (.own @12),~~~(.int y),~~~(.int r),~~~(.int c),~~~(.int a),~~~(.int n)]) ?_ ?_
   ·refine Qeb (args:=[q]) (dis:=[q]) rfl rfl (QdS hq) fun d _ ⟨p2,e2,hp2,hd⟩=>?_;subst e2
    obtain⟨r2,rfl,k0,k1⟩:=hd
    rcases h7 with rfl|⟨_,rfl⟩<;>exact Q5.mpr ⟨rfl,p2,r2,hp2,k0,k1,rfl⟩
   rintro ρ ⟨q,n,hq,n0,n1,rfl⟩
   refine Jq (fun ρ=>∃n:Int,nB n/\ρ=[some (.par q),~~~(rD N),some (.own @12),~~~(.int y),~~~(.int r),~~~(.int c),~~~(.int a),~~~(.int n)]) ?_ ?_
   ·by_cases a0:a=0
    ·simp? only[a0]
     exact⟨trivial,-n,⟨by lia,by lia⟩,rfl⟩
    by_cases a1:a=1
    ·simp? only[a1,Vt rn r0 r1,Qea rn ip,g3,g4,QuW]
     have o:=on _ ip
     refine⟨trivial,_,?_,rfl⟩
     have e60:(Qaa:Int)=1000000000000000000000000000000000000000000000000000000000000:=by decide
     have o0:=o.1
     have z3:0<=n % 3:=zk4 _ @1
     generalize n % 3=y at z3
     generalize atL N (r,c)=x at o0
     unfold nB
     split<;>constructor<;>lia
    simp? only[a0,a1]
    exact⟨trivial,n,⟨by lia,n1⟩,rfl⟩
   rintro ρ ⟨n,hn,rfl⟩
   have hz:(ls.map pnD).length<16777216:=by rw[z01,hi];lia
   simp? only[hz]
   refine⟨trivial,q,ls++[((r,c),n)],~~~(.int y),~~~(.int r),~~~(.int c),~~~(.int a),~~~(.int n),hq,.inr ⟨_,rfl⟩,.inr ⟨_,rfl⟩,.inr ⟨_,rfl⟩,.inr ⟨_,rfl⟩,.inr ⟨_,rfl⟩,by rw[z16,hi];rfl,fun x hx=>?_,?_⟩
   ·rcases z05.mp hx with hx|hx
    ·exact hl x hx
    ·rw[z26.mp hx];exact⟨ip,hn⟩
   ·rw[z77];rfl
  ·rintro ρ ⟨q,ls,s3,s4,s5,s6,s7,hq,h3,h4,h5,h6,h7,hi,hl,rfl⟩
   rw[z01,z63] at hi
   exact⟨rfl,q,ls,s3,s4,s5,s6,s7,h3,h4,h5,h6,h7,by lia,hl,rfl⟩
 rintro ρ ⟨q,ls,s3,s4,s5,s6,s7,h3,h4,h5,h6,h7,hi,hl,rfl⟩
 simp? only[]
 refine⟨_,[q],rfl,?_,ls,q,rfl,rfl,hi,hl⟩
 show(outs [] [s3,s4,s5,s6,s7]).map (q::·)=_
 rw[Jh h3,Jh h4,Jh h5,Jh h6,Jh h7];rfl)
end
variable {z:Z}
section
variable {h w:Nat}{F R:List @17}{p:Int×Int}{q:D}
theorem Qjf (rf:Rc h w F)(nf:Nn h w F)(h1:1<=h):QbY z [rD F,.int p.1,.int p.2]=.ok (.lst ((nbL h w F p).map pl)) []:=Jz (Jc (by
 dsimp only[VL]
 have gh:YS [rD F]=some (.int h):=by show some (D.int ((F.map rwI).length:Nat))=_;rw[z01,rf.hi]
 have er:=rf.row (i:=0) @1 @0
 simp only[z97] at er
 have gw:YS [rwI (F.getD 0 [])]=some (.int w):=by show some (D.int (((F.getD 0 []).map D.int).length:Nat))=_;rw[z01,er]
 have ix0:=Vt rf (i:=0) @1 @0
 simp only[z97] at ix0
 simp? only[]
 refine Qak (ds:=(arL p).map pl) (fun i ρ=>∃s t,frO s/\frO t/\ρ=[~~~(rD F),~~~(.int p.1),~~~(.int p.2),some (.own (.lst ((((arL p).take i).filter (okN h w F)).map pl))),s,t]) ⟨none,none,.inl rfl,.inl rfl,rfl⟩ ?_ ?_
 ·rintro i d ρ hd ⟨s,t,hs,ht,rfl⟩
  rw[z22] at hd
  obtain⟨v,hv,rfl⟩:=z03.mp hd
  have et:(arL p).take (i+1)=(arL p).take i++[v]:=by rw[zh9,hv];rfl
  refine⟨[~~~(rD F),~~~(.int p.1),~~~(.int p.2),some (.own (.lst ((((arL p).take i).filter (okN h w F)).map pl))),~~~(.int v.1),~~~(.int v.2)],?_,?_⟩
  ·exact Qpx rfl hs rfl ht
  rw[et,zw5]
  refine Qi.mpr ⟨(okN h w F v,[~~~(rD F),~~~(.int p.1),~~~(.int p.2),some (.own (.lst ((((arL p).take i).filter (okN h w F)).map pl))),~~~(.int v.1),~~~(.int v.2)]),JH.mp ?_,?_⟩
  ·by_cases c1:0<=v.1
   ·by_cases c2:v.1<h
    ·by_cases c3:0<=v.2
     ·by_cases c4:v.2<w
      ·have iv:inR h w v:=⟨c1,c2,c3,c4⟩
       simp? only[gh,ix0,gw,c1,c2,c3,c4,Vt rf c1 c2,Qea rf iv]
       have:=nf v iv
       unfold okN
       by_cases q:atL F v=0
       ·simp[iv,q]
       ·have q2:0<atL F v:=by lia
        simp[iv,q,q2]
      ·have iv:¬ inR h w v:=fun q=>c4 q.2.2.2
       simp? only[gh,ix0,gw,c1,c2,c3,c4]
       simp[okN,iv]
     ·have iv:¬ inR h w v:=fun q=>c3 q.2.2.1
      simp? only[gh,c1,c2,c3]
      simp[okN,iv]
    ·have iv:¬ inR h w v:=fun q=>c2 q.2.1
     simp? only[gh,c1,c2]
     simp[okN,iv]
   ·have iv:¬ inR h w v:=fun q=>c1 q.1
    simp? only[c1]
    simp[okN,iv]
  ·dsimp only
   cases c:okN h w F v with
   |true=>
    rw[if_pos rfl]
    have hz:((((arL p).take i).filter (okN h w F)).map pl).length<16777216:=by
     rw[z01]
     have a:=zb3 (okN h w F) ((arL p).take i)
     have b:=List.length_take_le i (arL p)
     have c:(arL p).length=4:=rfl
     have d:=List.length_take_le' i (arL p)
     lia
    simp? only[hz]
    refine⟨trivial,~~~(.int v.1),~~~(.int v.2),.inr ⟨_,rfl⟩,.inr ⟨_,rfl⟩,?_⟩
    rw[z84,if_pos c,z77]
    rfl
   |false=>
    rw[if_neg @1]
    refine Q5.mpr ⟨rfl,~~~(.int v.1),~~~(.int v.2),.inr ⟨_,rfl⟩,.inr ⟨_,rfl⟩,?_⟩
    rw[z84,if_neg (by rw[c];decide),List.filter_nil,z52]
 ·rintro ρ ⟨s,t,hs,ht,rfl⟩
  simp? only[]
  refine⟨_,[],rfl,?_,rfl,rfl⟩
  rcases hs with rfl|⟨_,rfl⟩<;>rcases ht with rfl|⟨_,rfl⟩<;>rfl))
theorem Qjg (rf:Rc h w F)(r:Rc h w R)(h1:1<=h)(hw:w<=30):QaE z [rD F,rD R]=.ok (.bl true) []:=Jz (Jc (by
 dsimp only[YD]
 have gh:YS [rD F]=some (.int h):=by show some (D.int ((F.map rwI).length:Nat))=_;rw[z01,rf.hi]
 have gr:YS [rD R]=some (.int h):=by show some (D.int ((R.map rwI).length:Nat))=_;rw[z01,r.hi]
 have er:=rf.row (i:=0) @1 @0
 simp only[z97] at er
 have gw:YS [rwI (F.getD 0 [])]=some (.int w):=by show some (D.int (((F.getD 0 []).map D.int).length:Nat))=_;rw[z01,er]
 have ix0:=Vt rf (i:=0) @1 @0
 simp only[z97] at ix0
 have i1:Qmp [rD R,.ty "list"]=some (.bl true):=rfl
 refine Ws [~~~(rD F),~~~(rD R),none] ?_ ?_
 ·simp? only[i1,gh,gr]
  simp
  exact Q5.mpr ⟨rfl,rfl⟩
 refine Jq (fun ρ=>∃s,frO s/\ρ=[~~~(rD F),~~~(rD R),s]) ?_ ?_
 ·have e3:∀ρ,siK (rD R,ρ)=.ok (R.map rwI,ρ):=fun _=>rfl
  simp? only[e3]
  refine Qak (fun i ρ=>∃s,frO s/\ρ=[~~~(rD F),~~~(rD R),s]) ⟨none,.inl rfl,rfl⟩ ?_ ?_
  ·rintro i d ρ hd ⟨s,hs,rfl⟩
   rw[z22] at hd
   obtain⟨l,hl,rfl⟩:=z03.mp hd
   have el:=r.wi l (z59 hl)
   have gl:YS [rwI l]=some (.int w):=by show some (D.int ((l.map D.int).length:Nat))=_;rw[z01,el]
   have i2:Qmp [rwI l,.ty "list"]=some (.bl true):=rfl
   refine⟨[~~~(rD F),~~~(rD R),~~~(rwI l)],?_,?_⟩
   ·exact QcQ rfl hs
   refine Ws [~~~(rD F),~~~(rD R),~~~(rwI l)] ?_ ?_
   ·simp? only[i2,gl,ix0,gw]
    simp
    exact Q5.mpr ⟨rfl,rfl⟩
   have e4:∀ρ,siK (rwI l,ρ)=.ok (l.map .int,ρ):=fun _=>rfl
   refine Qi.mpr ⟨(false,[~~~(rD F),~~~(rD R),~~~(rwI l)]),JH.mp ?_,?_⟩
   ·simp? only[e4]
    refine QkQ (f:=fun _=>false) (g:=fun d=>d) (di:=[]) (ρb:=[none]) (os:=[]) rfl rfl ?_ (by rw[z36,z01,el];lia) rfl rfl ?_
    ·intro d hd
     obtain⟨x,hx,rfl⟩:=z48.mp hd
     have i3:Qmp [.int x,.ty "int"]=some (.bl true):=rfl
     have i4:Qmp [.int x,.ty "bool"]=some (.bl false):=rfl
     refine⟨[~~~(.int x)],rfl,JH.mp ?_,(fun z=>nomatch z),rfl⟩
     simp? only[i3,i4]
    ·have e5:(l.map D.int).filter (fun _=>false)=[]:=List.filter_eq_nil_iff.mpr fun _ _ z=>nomatch z
     rw[e5]
     have e6:gNe (.lst []) (.lst [])=some (.bl false):=rfl
     simp? only[e6]
   ·exact Q5.mpr ⟨rfl,~~~(rwI l),.inr ⟨_,rfl⟩,rfl⟩
  ·rintro ρ ⟨s,hs,rfl⟩
   exact⟨rfl,s,hs,rfl⟩
 rintro ρ ⟨s,hs,rfl⟩
 simp? only[]
 refine⟨_,_,rfl,?_,rfl,rfl⟩
 rcases hs with rfl|⟨_,rfl⟩<;>rfl))
end
section
variable {h w:Nat}{F N R:List @17}{p:Int×Int}{q:D}{ls G:List PN}
def Gd (ls G:List PN):Prop:=∀q,(∀x∈ls,x.1=q->∃v,QbL G q=some v/\x.2<=v)/\∀v,QbL G q=some v->(q,v)∈ls
theorem Gd.put (g:Gd ls G)(x:PN):Gd (ls++[x]) (QnA G x.1 (if(QbL G x.1).getD x.2 > x.2 then(QbL G x.1).getD x.2 else x.2)):=fun q=>by
 obtain⟨g1,g2⟩:=g q
 rw[QmI]
 by_cases e:q=x.1
 ·subst e
  rw[if_pos rfl]
  refine⟨fun y hy ey=>⟨_,rfl,?_⟩,fun v hv=>?_⟩
  ·rcases z05.mp hy with hy|hy
   ·obtain⟨v,e1,e2⟩:=g1 y hy ey
    rw[e1,zb1]
    split<;>lia
   ·rw[z26.mp hy]
    split<;>lia
  ·rw[← z21 hv]
   cases c:QbL G x.1 with
   |none=>
    rw[zi3,if_neg @0]
    exact z02 _ z07
   |some u=>
    rw[zb1]
    by_cases k:u > x.2
    ·rw[if_pos k];exact z06 _ (g2 u c)
    ·rw[if_neg k];exact z02 _ z07
 ·rw[if_neg e]
  refine⟨fun y hy ey=>?_,fun v hv=>z06 _ (g2 v hv)⟩
  rcases z05.mp hy with hy|hy
  ·exact g1 y hy ey
  ·rw[z26.mp hy] at ey;exact absurd ey.symm e
theorem QlA:∀{ls:List PN} {R:List @17},Rc h w R->(∀x∈ls,inR h w x.1)->∀q,inR h w q->atL (ls.foldl lft R) q=atL R q\/(q,atL (ls.foldl lft R) q)∈ls
 | [],_,_,_,_,_=>.inl rfl
 |x::ls,R,r,hl,q,hq=>by
  have hx:=hl x z07
  rcases QlA (Qim r hx) (fun y hy=>hl y (z08 _ hy)) q hq with e|e
  ·rw[zf1,e,Qls r hx hq]
   by_cases c:q=x.1
   ·rw[if_pos c]
    by_cases k:atL R x.1 > x.2
    ·rw[if_pos k,c];exact .inl rfl
    ·rw[if_neg k,c];exact .inr z07
   ·rw[if_neg c];exact .inl rfl
  ·exact .inr (z08 _ e)
def QeC (h w:Nat)(F N R:List @17)(G:List PN)(p:Int×Int):Int:=if atL F p > 0 then QkX (atL N p::(QbL G p).getD (atL N p)::(nbL h w F p).map fun q=>atL R q - atL F p) else atL N p
theorem QnC {u v:Int×Int}(hu:okN h w F u=true)(hv:v∈nbL h w F u):u∈nbL h w F v:=by
 refine z64.mpr ⟨?_,hu⟩
 have:=(z64.mp hv).1
 unfold arL at this ⊢
 simp only[z15,zo3,or_false] at this ⊢
 obtain⟨u1,u2⟩:=u
 obtain⟨v1,v2⟩:=v
 simp only[zk9] at this ⊢
 lia
theorem QmK (nf:Nn h w F)(rn:Rc h w N)(hl:∀x∈ls,inR h w x.1)(g:Gd ls G)(sp:QpO h w F N (onF h w F ls) R)(hp:inR h w p):atL R p=QeC h w F N R G p:=by
 have hl':∀x∈onF h w F ls,inR h w x.1:=fun x hx=>hl x (z64.mp hx).1
 have nn:=nf p hp
 have up:=sp.up p hp
 have so:=sp.so p hp
 have lu:=Qhj rn hl' p hp
 have ll:=QlA rn hl' p hp
 unfold QeC
 by_cases c:atL F p > 0
 ·rw[if_pos c]
  have ok:okN h w F p=true:=by unfold okN;simp[hp];lia
  obtain⟨b1,b2⟩:=Qgh (ns:=atL N p::(QbL G p).getD (atL N p)::(nbL h w F p).map fun q=>atL R q - atL F p) @9
  refine zq6 ?_ ?_
  ·refine b2 _ ?_
   rcases so with e|⟨u,hu,hn,e⟩
   ·rcases ll with e2|e2
    ·rw[e,e2];exact z07
    ·rw[← e] at e2
     obtain⟨e3,e4⟩:=z64.mp e2
     obtain⟨v,k1,k2⟩:=(g p).1 _ e3 rfl
     have k3:=(g p).2 v k1
     have:(p,v)∈onF h w F ls:=z64.mpr ⟨k3,ok⟩
     have k4:=QdV rn hl' _ this
     have:v=atL R p:=by dsimp only at k2 k4;lia
     refine z08 _ (z15.mpr (.inl ?_))
     rw[k1,zb1,this]
   ·refine z08 _ (z08 _ (z48.mpr ⟨u,QnC hu hn,e.symm⟩))
  ·rcases z15.mp b1 with e|e
   ·rw[e];lia
   ·rcases z15.mp e with e|e
    ·rw[e]
     cases k:QbL G p with
     |none=>rw[zi3];lia
     |some v=>
      have k3:=(g p).2 v k
      have:(p,v)∈onF h w F ls:=z64.mpr ⟨k3,ok⟩
      have k4:=QdV rn hl' _ this
      rw[zb1]
      exact z91 k4 up
    ·obtain⟨u,hu,e⟩:=z48.mp e
     rw[← e]
     exact sp.cl u (Qgl hu) p (QnC ok hu)
 ·rw[if_neg c]
  have z0:atL F p=0:=by lia
  have no:okN h w F p=false:=by unfold okN;simp[z0]
  rcases so with e|⟨u,hu,hn,e⟩
  ·rcases ll with e2|e2
   ·rw[e,e2]
   ·have:=(z64.mp e2).2
    rw[no] at this;cases this
  ·have:=Qgl hn
   rw[no] at this;cases this
end
variable {z:Z}
section
variable {h w:Nat}{F N R:List @17}{p:Int×Int}{q:D}{ls G:List PN}
def tD (h w:Nat)(N R:List @17):D:=.tup [rD R,.lst ((unL h w N R).map pl)]
theorem max_eq {l:List Int}(h:l≠[]):Qmw [rwI l]=some (.int (QkX l)):=by
 cases l with
 |nil=>exact absurd rfl h
 |cons x l=>
  show(Qh3 ((x::l).map D.int)).bind _=_
  rw[Qa2]
  rfl
theorem Qjh {l:List (Int×Int)}:(D.lst (l.map pl)).pln 30=true:=by
 show(l.map pl).all (D.pln 29)=true
 rw[zd4]
 exact z69.mpr fun _ _=>rfl
theorem QmL {v:Int}:(QnA G p v).length<=G.length+1:=by
 unfold QnA
 split
 ·rw[z01];lia
 ·rw[z16];exact z24 _
theorem QmM (rf:Rc h w F)(nf:Nn h w F)(rn:Rc h w N)(h1:1<=h)(hh:h<=30)(w1:1<=w)(hw:w<=30)(hn:ls.length<=2000)(hl:∀x∈ls,inR h w x.1)(sp:QpO h w F N (onF h w F ls) R):QcJ z [rD F,rD N,.lst (ls.map pnD),tD h w N R]=.ok (.bl true) []:=Jz (Jc (by
 dsimp only[QaJ]
 have hz:h * w<=900:=z65 (zg3 hh hw) @1
 refine Ws [~~~(rD F),~~~(rD N),~~~@12,~~~(tD h w N R),none,none,none,none,none,none,none,none,none] ?_ ?_
 ·have i1:Qmp [tD h w N R,.ty "tuple"]=some (.bl true):=rfl
  have i2:YS [tD h w N R]=some (.int 2):=rfl
  have i3:gIx (tD h w N R) (.int 0)=some (rD R):=rfl
  refine Qi.mpr ⟨(false,[~~~(rD F),~~~(rD N),~~~@12,~~~(tD h w N R),none,none,none,none,none,none,none,none,none]),JH.mp ?_,Q5.mpr ⟨rfl,rfl⟩⟩
  simp? only[i1,i2,i3,QC (Qjg (z:=z) rf sp.rc h1 hw),true_and,ne_eq,not_true_eq_false]
 refine Ws [~~~(rD F),~~~(rD N),~~~@12,~~~(tD h w N R),some (.own (Qec [])),none,none,none,none,none,none,none,none] ?_ ?_
 ·exact Q5.mpr ⟨rfl,rfl⟩
 refine Jq (fun ρ=>∃G s5 s6,frO s5/\frO s6/\Gd ls G/\ρ=[~~~(rD F),~~~(rD N),~~~@12,~~~(tD h w N R),some (.own (Qec G)),s5,s6,none,none,none,none,none,none]) ?_ ?_
 ·have e2:∀ρ,siK (D.lst (ls.map pnD),ρ)=.ok (ls.map pnD,ρ):=fun _=>rfl
  simp? only[e2]
  refine Qak (fun i ρ=>∃G s5 s6,frO s5/\frO s6/\Gd (ls.take i) G/\G.length<=i/\ρ=[~~~(rD F),~~~(rD N),~~~@12,~~~(tD h w N R),some (.own (Qec G)),s5,s6,none,none,none,none,none,none]) ⟨[],none,none,.inl rfl,.inl rfl,(fun q=>⟨(fun _ h=>nomatch h),(fun _ h=>nomatch h)⟩),z24 _,rfl⟩ ?_ ?_
  ·rintro i d ρ hd ⟨G,s5,s6,h5,h6,g,gl,rfl⟩
   rw[z22] at hd
   obtain⟨x,hx,rfl⟩:=z03.mp hd
   have li:=(z25.mp hx).1
   refine⟨[~~~(rD F),~~~(rD N),~~~@12,~~~(tD h w N R),some (.own (Qec G)),~~~(pl x.1),~~~(.int x.2),none,none,none,none,none,none],?_,?_⟩
   ·exact Qpx rfl h5 rfl h6
   have ek:Qmg (Q7 (mV 5) Qem) [~~~(rD F),~~~(rD N),~~~@12,~~~(tD h w N R),some (.own (Qec G)),~~~(pl x.1),~~~(.int x.2),none,none,none,none,none,none]=.ok (pl x.1,[~~~(rD F),~~~(rD N),~~~@12,~~~(tD h w N R),some (.own (Qec G)),~~~(pl x.1),~~~(.int x.2),none,none,none,none,none,none]):=JH.mp (by simp? only[pl])
   have eg:=get_eq (md:=mB 4) (mk:=Qmg (Q7 (mV 5) Qem)) (mv:=mV 6) (ls:=G) (q:=x.1) (v:=x.2) (ρ:=[~~~(rD F),~~~(rD N),~~~@12,~~~(tD h w N R),some (.own (Qec G)),~~~(pl x.1),~~~(.int x.2),none,none,none,none,none,none]) rfl ek rfl
   refine Qpv (par:=false) (ls:=G) (q:=x.1) (v:=if(QbL G x.1).getD x.2 > x.2 then(QbL G x.1).getD x.2 else x.2) rfl (JH.mp ?_) ek (by rw[z36];lia) ?_
   ·simp? only[eg]
   ·have et:ls.take (i+1)=ls.take i++[x]:=by rw[zh9,hx];rfl
    refine⟨rfl,QnA G x.1 (if(QbL G x.1).getD x.2 > x.2 then(QbL G x.1).getD x.2 else x.2),~~~(pl x.1),~~~(.int x.2),.inr ⟨_,rfl⟩,.inr ⟨_,rfl⟩,?_,z65 QmL @0,rfl⟩
    rw[et]
    exact g.put x
  ·rintro ρ ⟨G,s5,s6,h5,h6,g,_,rfl⟩
   rw[z01,zo1] at g
   exact⟨rfl,G,s5,s6,h5,h6,g,rfl⟩
 rintro ρ ⟨G,s5,s6,h5,h6,g,rfl⟩
 refine Ws [~~~(rD F),~~~(rD N),~~~@12,~~~(tD h w N R),some (.own (Qec G)),s5,s6,~~~(rD R),~~~(.lst ((unL h w N R).map pl)),none,none,none,none] ?_ ?_
 ·exact Qi.mpr ⟨_,rfl,Qi.mpr ⟨_,rfl,Q5.mpr ⟨rfl,rfl⟩⟩⟩
 refine Jq (fun ρ=>∃s9 s10 s11 s12,frO s9/\frO s10/\frO s11/\frO s12/\ρ=[~~~(rD F),~~~(rD N),~~~@12,~~~(tD h w N R),some (.own (Qec G)),s5,s6,~~~(rD R),~~~(.lst ((unL h w N R).map pl)),s9,s10,s11,s12]) ?_ ?_
 ·simp? only[Qfh (QeB rf h1 hh w1 hw)]
  refine Qak (fun i ρ=>∃s9 s10 s11 s12,frO s9/\frO s10/\frO s11/\frO s12/\ρ=[~~~(rD F),~~~(rD N),~~~@12,~~~(tD h w N R),some (.own (Qec G)),s5,s6,~~~(rD R),~~~(.lst ((unL h w N R).map pl)),s9,s10,s11,s12]) ⟨none,none,none,none,.inl rfl,.inl rfl,.inl rfl,.inl rfl,rfl⟩ ?_ ?_
  ·rintro i d ρ hd ⟨s9,s10,s11,s12,h9,h10,h11,h12,rfl⟩
   rw[z22] at hd
   obtain⟨p,hp,rfl⟩:=z03.mp hd
   have ip:=Vk.mp (z59 hp)
   have ra:=QmK nf rn hl g sp ip
   refine⟨[~~~(rD F),~~~(rD N),~~~@12,~~~(tD h w N R),some (.own (Qec G)),s5,s6,~~~(rD R),~~~(.lst ((unL h w N R).map pl)),~~~(.int p.1),~~~(.int p.2),s11,s12],?_,?_⟩
   ·exact Qpx rfl h9 rfl h10
   refine Ws [~~~(rD F),~~~(rD N),~~~@12,~~~(tD h w N R),some (.own (Qec G)),s5,s6,~~~(rD R),~~~(.lst ((unL h w N R).map pl)),~~~(.int p.1),~~~(.int p.2),~~~(.int (atL N p)),s12] ?_ ?_
   ·rcases h11 with rfl|⟨_,rfl⟩<;>simp? only[Vt rn ip.1 ip.2.1,Qea rn ip]<;>exact⟨trivial,trivial⟩
   refine Jq (fun ρ=>∃s12,frO s12/\ρ=[~~~(rD F),~~~(rD N),~~~@12,~~~(tD h w N R),some (.own (Qec G)),s5,s6,~~~(rD R),~~~(.lst ((unL h w N R).map pl)),~~~(.int p.1),~~~(.int p.2),~~~(.int (QeC h w F N R G p)),s12]) ?_ ?_
   ·unfold QeC
    refine Qi.mpr ⟨(decide (atL F p > 0),[~~~(rD F),~~~(rD N),~~~@12,~~~(tD h w N R),some (.own (Qec G)),s5,s6,~~~(rD R),~~~(.lst ((unL h w N R).map pl)),~~~(.int p.1),~~~(.int p.2),~~~(.int (atL N p)),s12]),JH.mp ?_,?_⟩
    ·simp? only[Vt rf ip.1 ip.2.1,Qea rf ip]
    dsimp only
    by_cases c:atL F p > 0
    ·rw[decide_eq_true c,if_pos rfl,if_pos c]
     refine Ws [~~~(rD F),~~~(rD N),~~~@12,~~~(tD h w N R),some (.own (Qec G)),s5,s6,~~~(rD R),~~~(.lst ((unL h w N R).map pl)),~~~(.int p.1),~~~(.int p.2),~~~(.int (atL N p)),~~~(rwI ((nbL h w F p).map fun q=>atL R q - atL F p))] ?_ ?_
     ·simp? only[Qfh (Qjf (z:=z) (p:=p) rf nf h1)]
      refine Qns (f:=fun _=>true) (g:=fun d=>.int (atL R (pD d) - atL F p)) (di:=[]) (ρb:=[none,none,~~~(rD R),~~~(rD F),~~~(.int p.1),~~~(.int p.2)]) (os:=[]) rfl rfl ?_ (by rw[z36,z01];have:=Qld (h:=h) (w:=w) (F:=F) p;lia) rfl rfl ?_
      ·intro d hd
       obtain⟨q,hq,rfl⟩:=z48.mp hd
       have iq:=(YZ (Qgl hq)).1
       refine⟨[~~~(.int q.1),~~~(.int q.2),~~~(rD R),~~~(rD F),~~~(.int p.1),~~~(.int p.2)],rfl,rfl,fun _=>JH.mp ?_,rfl⟩
       simp? only[Vt sp.rc iq.1 iq.2.1,Qea sp.rc iq,Vt rf ip.1 ip.2.1,Qea rf ip]
       rfl
      ·have e8:(((nbL h w F p).map pl).filter fun _=>true).map (fun d=>D.int (atL R (pD d) - atL F p))=((nbL h w F p).map fun q=>atL R q - atL F p).map D.int:=by
        rw[zv6.mpr fun _ _=>rfl,z76,z76];rfl
       rw[e8]
       rcases h12 with rfl|⟨_,rfl⟩<;>exact Q5.mpr ⟨rfl,rfl⟩
     have eg:=get_eq (md:=mB 4) (mk:=Qs2 (Q7 (mV 9) (Q7 (mV 10) Qem))) (mv:=mV 11) (ls:=G) (q:=p) (v:=atL N p) (ρ:=[~~~(rD F),~~~(rD N),~~~@12,~~~(tD h w N R),some (.own (Qec G)),s5,s6,~~~(rD R),~~~(.lst ((unL h w N R).map pl)),~~~(.int p.1),~~~(.int p.2),~~~(.int (atL N p)),~~~(rwI ((nbL h w F p).map fun q=>atL R q - atL F p))]) rfl (JH.mp (by simp? only[];rfl)) rfl
     have e2:Qmw [.lst (.int (atL N p)::.int ((QbL G p).getD (atL N p))::((nbL h w F p).map fun q=>atL R q - atL F p).map D.int)]=some (.int (QkX (atL N p::(QbL G p).getD (atL N p)::(nbL h w F p).map fun q=>atL R q - atL F p))):=max_eq (l:=atL N p::(QbL G p).getD (atL N p)::(nbL h w F p).map fun q=>atL R q - atL F p) @9
     have e3:2+(((nbL h w F p).map fun q=>atL R q - atL F p).map D.int).length<=16777216:=by rw[z01,z01];have:=Qld (h:=h) (w:=w) (F:=F) p;lia
     simp only[rwI] at eg
     simp? only[eg,rwI,e3,e2]
     exact⟨trivial,_,.inr ⟨_,rfl⟩,rfl⟩
    ·rw[decide_eq_false c,if_neg @1,if_neg c]
     exact Q5.mpr ⟨rfl,s12,h12,rfl⟩
   rintro ρ ⟨s12,h12,rfl⟩
   refine Qi.mpr ⟨(false,[~~~(rD F),~~~(rD N),~~~@12,~~~(tD h w N R),some (.own (Qec G)),s5,s6,~~~(rD R),~~~(.lst ((unL h w N R).map pl)),~~~(.int p.1),~~~(.int p.2),~~~(.int (QeC h w F N R G p)),s12]),JH.mp ?_,Q5.mpr ⟨rfl,~~~(.int p.1),~~~(.int p.2),~~~(.int (QeC h w F N R G p)),s12,.inr ⟨_,rfl⟩,.inr ⟨_,rfl⟩,.inr ⟨_,rfl⟩,h12,rfl⟩⟩
   simp? only[Vt sp.rc ip.1 ip.2.1,Qea sp.rc ip,ra,ne_eq,not_true_eq_false]
  ·rintro ρ ⟨s9,s10,s11,s12,h9,h10,h11,h12,rfl⟩
   exact⟨rfl,s9,s10,s11,s12,h9,h10,h11,h12,rfl⟩
 rintro ρ ⟨s9,s10,s11,s12,h9,h10,h11,h12,rfl⟩
 simp? only[Qfh (QeB rf h1 hh w1 hw)]
 refine Qns (f:=fun d=>decide (atL R (pD d)≠atL N (pD d))) (g:=fun d=>d) (di:=[]) (ρb:=[none,none,~~~(rD R),~~~(rD N)]) (os:=[]) rfl rfl ?_ (by rw[z36,z01,QaU];lia) rfl rfl ?_
 ·intro d hd
  obtain⟨p,hp,rfl⟩:=z48.mp hd
  have ip:=Vk.mp hp
  refine⟨[~~~(.int p.1),~~~(.int p.2),~~~(rD R),~~~(rD N)],rfl,JH.mp ?_,fun _=>JH.mp ?_,rfl⟩
  ·simp? only[Vt sp.rc ip.1 ip.2.1,Qea sp.rc ip,Vt rn ip.1 ip.2.1,Qea rn ip]
   rfl
  ·simp? only[]
   rfl
 have e9:(((cel w h).map pl).filter (fun d=>decide (atL R (pD d)≠atL N (pD d)))).map (fun d=>d)=(unL h w N R).map pl:=by
  rw[zi7 (fun _=>rfl),zg6]
  unfold unL
  congr 1
  refine List.filter_congr fun p _=>?_
  exact decide_eq_decide.mpr ⟨zb9,zb9⟩
 rw[e9]
 simp? only[Qfi (Qjh (l:=unL h w N R))]
 refine⟨_,[],rfl,?_,rfl,rfl⟩
 refine(Jh h5).trans ((Jh h6).trans ?_)
 show outs [] [s9,s10,s11,s12]=some []
 exact(Jh h9).trans ((Jh h10).trans ((Jh h11).trans (Jh h12)))))
end
variable {z:Z}
section
variable {h w:Nat}{F R N:List @17}{p:Int×Int}{ρ ρ1:Rho}{c:Addr}{q:D}
theorem QlB:∀(L:List @17),D.Jb (L.map tuI)=true
 | []=>rfl
 |l::L=>by
  show(D.imm (tuI l) && D.Jb (L.map tuI))=true
  rw[QlB L,zs7]
  exact VB l
theorem QsI {L:List @17}:(flD z L).imm=true:=by
 show(D.imm (tuD L) && true)=true
 rw[zs7]
 exact QlB L
theorem QsJ {L:List @17}:(Qjb z.Qq (flD z L) && (flD z L).imm)=true:=by
 have a:Qjb z.Qq (flD z L)=true:=by show(decide (z.Qq=z.Qq) && _)=true;simp
 rw[a,QsI];rfl
theorem QsK (r:Rc h w F)(ok:okL F)(hp:inR h w p):0<=atL F p/\atL F p<Qaa:=by
 have hl:p.1.toNat<F.length:=by rw[r.hi];have:=hp.1;have:=hp.2.1;lia
 have wl:=r.wi _ (z99 hl)
 have hj:p.2.toNat<F[p.1.toNat].length:=by rw[wl];have:=hp.2.2.1;have:=hp.2.2.2;lia
 have:=ok _ (z99 hl) _ (z99 hj)
 unfold atL
 simp only[z14,z04 hl,zb1,z04 hj]
 exact this
theorem QsL {ρ ρ1 ρ2:Rho}{ma mb:ME}{ds:List D}{i:Int}{d:D}(h1:ma ρ=.ok (.lst ds,ρ1))(h2:mb ρ1=.ok (.int i,ρ2))(h3:atI ds i=some d):QuE ma mb ρ=.ok (d,ρ2):=by
 unfold QuE
 rw[h1]
 show((mb ρ1).bind _)=_
 rw[h2]
 show Rs.of ((atI ds i).map _)=_
 rw[h3];rfl
theorem JT {ρ ρ1:Rho}{ks:List Kd}{mr:MA}{ds:List D}{q:List D×Rho}(h1:mr ρ=.ok (ds,ρ1))(h2:Qaj ks ds ρ1=some q)(h3:q.1.length<=z17):QmD ks mr ρ=.ok (.lst q.1,q.2):=by
 unfold QmD
 rw[h1]
 show(Rs.of (Qaj ks ds ρ1)).bind _=_
 rw[h2]
 exact if_pos h3
theorem QmN {m:ME}{xs:List D}(e:m ρ=.ok (.lst xs,ρ)):Qkg m ρ=.ok (xs,ρ):=by unfold Qkg;rw[e];rfl
theorem Qgz (r:Rc h w F)(hh:h<=30){i:Nat}(e:mV i ρ=.ok (rD F,ρ)):Qcu false [.me] 0 (Qkg (mV i)) Qs4 (QhJ (Q7 (mV 0) Qem)) ρ=.ok (rD F,ρ):=by
 refine(comp_map (g:=fun d=>d) (di:=[]) (ρb:=[none]) (os:=[]) (QmN e) rfl rfl ?_ (by rw[z36,z01,r.hi];lia) rfl rfl).trans ?_
 ·intro d hd
  obtain⟨l,hl,rfl⟩:=z48.mp hd
  have e6:liK ([rwI l],[~~~(rwI l)])=.ok (rwI l,[~~~(rwI l)]):=by
   show(if D.Jb (l.map D.int)=true then _ else _)=_
   rw[if_pos (VB l)];rfl
  refine⟨[~~~(rwI l)],rfl,JH.mp ?_,rfl⟩
  simp? only[e6]
 ·rw[zi7 (fun _=>rfl)];rfl
theorem Qfx {α:Type}{xs:List α}{i:Int}{k:Nat}(hi:i=k)(hk:k<=xs.length):cutD xs (some i) none=xs.drop k:=by
 subst hi
 unfold cutD
 rw[HT.QjL,HT.Qhs,zh1 hk,z75 (by rw[z58];exact z24 _)]
theorem QsM (r:Rc h w F)(hp:inR h w p):(F.map rwI)[p.1.toNat]? = some (.lst ((F.getD p.1.toNat []).map D.int)):=by
 have hl:p.1.toNat<F.length:=by rw[r.hi];have:=hp.1;have:=hp.2.1;lia
 rw[z22,z04 hl,z14,z04 hl];rfl
def XR {α:Type}(c:Addr)(r:Rs α):Prop:=∃ρ,r=.ex c ρ
theorem Qhl {io:List Bool}{n:Nat}{mb:MS}{ds:List D}(h:XR c (mb (Qkl io n ds))):JN io n mb ds=.ex c:=let ⟨_,e⟩:=h;QoP e
theorem QmO {m u:MS}(h:XR c (m ρ)):XR c (Qi6 m u ρ):=let ⟨_,e⟩:=h;⟨_,Qr0 e⟩
theorem QmP {m u:MS}(Q:Rho->Prop)(h:W (m ρ) fun r=>r.1=.nx/\Q r.2)(k:∀ρ,Q ρ->XR c (u ρ)):XR c (Qi6 m u ρ):=by
 obtain⟨⟨f,ρ1⟩,e,e1,e2⟩:=h
 have e1:f=.nx:=e1
 subst e1
 rw[QrZ e]
 exact k ρ1 e2
theorem Qta {mt:MT}{m u:MS}(h:mt ρ=.ok (true,ρ1))(k:XR c (m ρ1)):XR c (mIf mt m u ρ):=by
 rw[Qms h,if_pos rfl];exact k
theorem Qfy {mr:MA}{d:D}(h:mr ρ=.ok ([d],ρ1)):XR c (QkG c mr ρ):=⟨ρ1,by
 unfold QkG;rw[h]
 show(if[d].length<=z17 then Rs.ex c ρ1 else .no)=_
 rw[if_pos (by rw[z36];show(1:Nat)<=16777216;decide)]⟩
theorem Qir {rk:Kd}{f:List D->Fr}{mr:MA}{args:List D}(h:mr ρ=.ok (args,ρ1))(k:f args=.ex c):XR c (Qkd (Qac rk f mr) ρ):=⟨_,QkM (QhY h k)⟩
theorem QlC {tg:D->Rho->Option Rho}{mb:MS}{e:D}{post:List D}{Inv:Rho->Prop}:∀{pre:List D} {ρ:Rho},Inv ρ->(∀d∈pre,∀ρ,Inv ρ->∃ρ1,tg d ρ=some ρ1/\W (mb ρ1) fun r=>r.1=.nx/\Inv r.2)->(∀ρ,Inv ρ->∃ρ1,tg e ρ=some ρ1/\XR c (mb ρ1))->XR c (forL tg mb (pre++e::post) ρ)
 | [],ρ,i,_,h=>by
  obtain⟨ρ1,e1,ρ2,e2⟩:=h ρ i
  refine⟨ρ2,?_⟩
  rw[zj6]
  unfold forL
  rw[e1]
  show((mb ρ1).bind _)=_
  rw[e2];rfl
 |d::pre,ρ,i,hp,h=>by
  obtain⟨ρ1,e1,⟨f,ρ2⟩,e2,e3,i2⟩:=hp d z07 ρ i
  have e3:f=.nx:=e3
  subst e3
  have ih:=QlC (post:=post) i2 (fun d' hd'=>hp d' (z08 _ hd')) h
  obtain⟨ρ3,e4⟩:=ih
  refine⟨ρ3,?_⟩
  rw[zo7]
  unfold forL
  rw[e1]
  show((mb ρ1).bind _)=_
  rw[e2]
  exact e4
theorem QsN {tg:D->Rho->Option Rho}{mb:MS}{mi:MA}{ds:List D}(h:mi ρ=.ok (ds,ρ1))(k:XR c (forL tg mb ds ρ1)):XR c (Qs3 mi tg mb ρ):=by
 unfold Qs3;rw[h];exact k
def isI:D->Bool
 |.int _=>true
 |_=>false
theorem Qji {xs:List D}(hx:∀x∈xs,Vu z [x]=.ok (.bl (isI x)) [])(hl:xs.length<=31)(bad:xs.all isI=false):QV z [.lst xs]=.ex z.Qn:=Qhl (by
 dsimp only[JW]
 refine Qta (ρ1:=[~~~(.lst xs)]) (JH.mp ?_) (Qfy rfl)
 simp? only[]
 refine Qg8 (g:=fun d=>.bl (isI d)) (di:=[]) (ρb:=[none]) (os:=[]) rfl rfl ?_ (by rw[z36];lia) rfl rfl ?_
 ·intro d hd
  exact⟨[~~~d],rfl,JH.mp (by simp? only[QC (hx d hd),true_and]),rfl⟩
 ·have e4:Qq6 [.lst (xs.map fun d=>D.bl (isI d))]=some (.bl false):=by
   have e5:(xs.map fun d=>D.bl (isI d))=(xs.map isI).map D.bl:=by rw[z76];rfl
   rw[e5,QkN]
   congr 2
   rw[zd4]
   exact bad
  simp? only[e4])
theorem QlD {rs:List D}(rf:Rc h w F)(hl:rs.length<=31)(ne:rs.length≠h):Yl z [flD z F,.lst rs]=.ex z.Qn:=Qhl (by
 dsimp only[Yk]
 have i1:=Ju (z:=z) (F:=F) (nm := "high") @1
 have c1:((rs.length:Nat):Int)≠(h:Int):=by lia
 refine QmO (Qta (ρ1:=[~~~(flD z F),~~~(.lst rs),none]) (JH.mp ?_) (Qfy rfl))
 simp? only[i1,QC Yu,QC (QdT rf),true_and,c1,ne_eq,not_false_eq_true])
theorem QlE {pre:List @17}{xs post:List D}(rf:Rc h w F)(h1:1<=h)(hh:h<=30)(hw:w<=30)(len:pre.length+1+post.length=h)(hp:∀l∈pre,l.length=w)(bx:xs.length≠w\/(xs.length=w/\QV z [.lst xs]=.ex z.Qn)):Yl z [flD z F,.lst (pre.map rwI++.lst xs::post)]=.ex z.Qn:=Qhl (by
 dsimp only[Yk]
 have i1:=Ju (z:=z) (F:=F) (nm := "high") @1
 have i2:=Ju (z:=z) (F:=F) (nm := "wide") @1
 generalize hrs:pre.map rwI++.lst xs::post=rs
 have g1:YS [.lst rs]=some (.int h):=by
  show some (D.int (rs.length:Nat))=_
  rw[← hrs,z16,z01,z27]
  congr 2
  lia
 refine QmP (fun ρ=>ρ=[~~~(flD z F),~~~(.lst rs),none]) ?_ ?_
 ·refine Qi.mpr ⟨(false,[~~~(flD z F),~~~(.lst rs),none]),JH.mp ?_,Q5.mpr ⟨rfl,rfl⟩⟩
  simp? only[i1,g1,QC Yu,QC (QdT rf),true_and,ne_eq,not_true_eq_false]
 rintro ρ rfl
 refine QsN (ds:=rs) (ρ1:=[~~~(flD z F),~~~(.lst rs),none]) rfl ?_
 rw[← hrs]
 refine QlC (Inv:=fun ρ=>∃s,frO s/\ρ=[~~~(flD z F),~~~(.lst (pre.map rwI++.lst xs::post)),s]) ⟨none,.inl rfl,by rw[hrs]⟩ ?_ ?_
 ·rintro d hd ρ ⟨s,hs,rfl⟩
  obtain⟨l,hl,rfl⟩:=z48.mp hd
  have g2:YS [rwI l]=some (.int w):=by show some (D.int ((l.map D.int).length:Nat))=_;rw[z01,hp l hl]
  refine⟨[~~~(flD z F),~~~(.lst (pre.map rwI++.lst xs::post)),~~~(rwI l)],?_,?_⟩
  ·rcases hs with rfl|⟨_,rfl⟩<;>rfl
  refine Ws [~~~(flD z F),~~~(.lst (pre.map rwI++.lst xs::post)),~~~(rwI l)] ?_ ?_
  ·refine Qi.mpr ⟨(false,[~~~(flD z F),~~~(.lst (pre.map rwI++.lst xs::post)),~~~(rwI l)]),JH.mp ?_,Q5.mpr ⟨rfl,rfl⟩⟩
   simp? only[i2,g2,QC (show J5 z [rwI l]=.ok (.bl true) [] from Yu),QC (QaS rf h1),true_and,ne_eq,not_true_eq_false]
  simp? only[QC (show QV z [rwI l]=.ok .non [] from QeA (z:=z) (b:=false) (l:=l) (by have:=hp l hl;lia))]
  exact⟨trivial,trivial,_,.inr ⟨_,rfl⟩,rfl⟩
 ·rintro ρ ⟨s,hs,rfl⟩
  refine⟨[~~~(flD z F),~~~(.lst (pre.map rwI++.lst xs::post)),~~~(.lst xs)],?_,?_⟩
  ·rcases hs with rfl|⟨_,rfl⟩<;>rfl
  rcases bx with bx|⟨bw,bx⟩
  ·have c1:((xs.length:Nat):Int)≠(w:Int):=by lia
   refine QmO (Qta (ρ1:=[~~~(flD z F),~~~(.lst (pre.map rwI++.lst xs::post)),~~~(.lst xs)]) (JH.mp ?_) (Qfy rfl))
   simp? only[i2,QC Yu,QC (QaS rf h1),true_and,c1,ne_eq,not_false_eq_true]
  ·refine QmP (fun ρ=>ρ=[~~~(flD z F),~~~(.lst (pre.map rwI++.lst xs::post)),~~~(.lst xs)]) ?_ ?_
   ·refine Qi.mpr ⟨(false,[~~~(flD z F),~~~(.lst (pre.map rwI++.lst xs::post)),~~~(.lst xs)]),JH.mp ?_,Q5.mpr ⟨rfl,rfl⟩⟩
    simp? only[i2,bw,QC Yu,QC (QaS rf h1),true_and,ne_eq,not_true_eq_false]
   rintro ρ rfl
   exact Qir rfl bx)
def QsO (z:Z)(h w:Nat)(d:D):Prop:=(∃rs:List D,d=.lst rs/\rs.length<=31/\rs.length≠h)\/∃(pre:List @17) (xs post:List D),d=.lst (pre.map rwI++.lst xs::post)/\pre.length+1+post.length=h/\(∀l∈pre,l.length=w)/\(xs.length≠w\/(xs.length=w/\QV z [.lst xs]=.ex z.Qn))
theorem QdW {d:D}{st:D}(rf:Rc h w F)(h1:1<=h)(hh:h<=30)(hw:w<=30)(b:QsO z h w d):Qa5 z [flD z F,d,st]=.ex z.Qn:=Qhl (by
 dsimp only[Qb9]
 refine QmO (Qir (args:=[flD z F,d]) rfl ?_)
 rcases b with⟨rs,rfl,hl,ne⟩|⟨pre,xs,post,rfl,len,hp,bx⟩
 ·exact QlD rf hl ne
 ·exact QlE rf h1 hh hw len hp bx)
def NoP (z:Z)(F:List @17)(d:D):Prop:=VR z [flD z F,d]=.ok (.bl false) []
theorem QbM {d:D}(e:QaG z [d]=.ok (.bl false) []):NoP z F d:=Jz (Jc (by
 dsimp only[YH]
 simp? only[QC e,true_and]
 exact⟨_,_,rfl,rfl,rfl,rfl⟩))
theorem QaV {d:D}{n:Int}(e:Vu z [d]=.ok (.bl false) []):Jt z [d,.int n]=.ok (.bl false) []:=Jz (Jc (by
 dsimp only[VN]
 simp? only[QC e,true_and]
 exact⟨_,_,rfl,rfl,rfl,rfl⟩))
theorem YM {k:Bool}{a b:D}{x y:Bool}(rf:Rc h w F)(h1:1<=h)(ea:Jt z [a,.int h]=.ok (.bl x) [])(eb:x=true->Jt z [b,.int w]=.ok (.bl y) [])(no:(x && y)=false):NoP z F (sq k [a,b]):=Jz (Jc (by
 dsimp only[YH]
 have i1:=Ju (z:=z) (F:=F) (nm := "high") @1
 have i2:=Ju (z:=z) (F:=F) (nm := "wide") @1
 have e1:QaG z [sq k [a,b]]=.ok (.bl true) []:=by cases k<;>rfl
 have e2:gIx (sq k [a,b]) (.int 0)=some a:=by cases k<;>rfl
 have e3:gIx (sq k [a,b]) (.int 1)=some b:=by cases k<;>rfl
 simp? only[QC e1,e2,e3,true_and,i1,i2,QC (QdT rf),QC (QaS rf h1),QC ea]
 cases x with
 |false=>
  simp? only[]
  exact⟨_,_,rfl,rfl,rfl,rfl⟩
 |true=>
  have:y=false:=no
  subst this
  simp? only[e3,i2,QC (QaS rf h1),QC (eb rfl),true_and]
  exact⟨_,_,rfl,rfl,rfl,rfl⟩))
theorem QmQ {d:D}(n:NoP z F d):Jf z [flD z F,d]=.ex z.Qv:=Qhl (by
 dsimp only[Je]
 have i1:=Ju (z:=z) (F:=F) (nm := "has") @1
 refine Qta (ρ1:=[~~~(flD z F),~~~d]) (JH.mp ?_) (Qfy rfl)
 simp? only[i1,QC n,true_and])
theorem QmR {d:D}{n:Int}(k:NoP z F d):Yr z [flD z F,.tup [d,.int n]]=.ex z.Qv:=Qhl (by
 dsimp only[Yq]
 have i1:=Ju (z:=z) (F:=F) (nm := "check_place") @1
 refine QmP (fun ρ=>ρ=[~~~(flD z F),~~~(.tup [d,.int n])]) ?_ ?_
 ·simp? only[QC (Qlj (a:=d) (b:=.int n)),true_and]
 rintro ρ rfl
 refine Qir (args:=[flD z F,d]) (ρ1:=[~~~(flD z F),~~~(.tup [d,.int n])]) (JH.mp ?_) (QmQ k)
 simp? only[i1])
theorem QcR {pre:List PN}{d:D}{n:Int}{post:List D}(rf:Rc h w F)(rn:Rc h w N)(h1:1<=h)(hh:h<=30)(hw:w<=30)(hl:∀x∈pre,inR h w x.1)(k:NoP z F d):Qa5 z [flD z F,rD N,.lst (pre.map pnD++.tup [d,.int n]::post)]=.ex z.Qv:=Qhl (by
 dsimp only[Qb9]
 generalize hrs:pre.map pnD++.tup [d,.int n]::post=rs
 refine QmP (fun ρ=>ρ=[~~~(flD z F),~~~(rD N),~~~(.lst rs),none,none]) ?_ ?_
 ·simp? only[QC (show Yl z [flD z F,rD N]=.ok .non [] from Qin (z:=z) (a:=false) (b:=false) rf rn h1 hw)]
  exact⟨trivial,trivial,trivial⟩
 rintro ρ rfl
 refine QmO (QsN (ds:=rs) (ρ1:=[~~~(flD z F),~~~(rD N),~~~(.lst rs),none,none]) rfl ?_)
 rw[← hrs]
 refine QlC (Inv:=fun ρ=>∃s,frO s/\ρ=[~~~(flD z F),~~~(rD N),~~~(.lst (pre.map pnD++.tup [d,.int n]::post)),s,none]) ⟨none,.inl rfl,by rw[hrs]⟩ ?_ ?_
 ·rintro e he ρ ⟨s,hs,rfl⟩
  obtain⟨x,hx,rfl⟩:=z48.mp he
  refine⟨[~~~(flD z F),~~~(rD N),~~~(.lst (pre.map pnD++.tup [d,.int n]::post)),~~~(pnD x),none],?_,?_⟩
  ·rcases hs with rfl|⟨_,rfl⟩<;>rfl
  simp? only[QC (show Yr z [flD z F,pnD x]=.ok .non [] from Qgx (z:=z) (c:=true) (s:=x.2) (p:=x.1) rf h1 (hl x hx))]
  exact⟨trivial,trivial,_,.inr ⟨_,rfl⟩,rfl⟩
 ·rintro ρ ⟨s,hs,rfl⟩
  refine⟨[~~~(flD z F),~~~(rD N),~~~(.lst (pre.map pnD++.tup [d,.int n]::post)),~~~(.tup [d,.int n]),none],?_,Qir (args:=[flD z F,.tup [d,.int n]]) rfl (QmR k)⟩
  rcases hs with rfl|⟨_,rfl⟩<;>rfl)
theorem QsP:(rD R).pln 30=true:=by
 show(R.map rwI).all (D.pln 29)=true
 rw[zd4]
 refine z69.mpr fun l _=>?_
 show(l.map D.int).all (D.pln 28)=true
 rw[zd4]
 exact z69.mpr fun _ _=>rfl
end
variable {z:Z}
section
variable {h w:Nat}{N:List @17}{p:Int×Int}{ρ ρ1 ρ2:Rho}{c:Addr}{q:D}
theorem QnD {α:Type}{l:List α}{n:Nat}:cutD l none (some (n:Int))=l.take n:=by
 unfold cutD
 rw[HT.Qhs,HT.QjL]
 by_cases c:n<=l.length
 ·rw[zh1 c];rfl
 ·rw[Nat.min_eq_right @0,z75 @9,z75 @0];rfl
theorem QsQ {mt:MT}{A u:MS}{b:Bool}{k:Fl×Rho->Prop}(t:mt ρ=.ok (b,ρ1))(h1:b=true->W (A ρ1) fun r=>(∃d,r.1=.rt d)/\k r)(h2:b=false->W (u ρ1) k):W (Qi6 (mIf mt A Qou) u ρ) k:=by
 unfold Qi6
 rw[Qms t]
 cases b with
 |true=>
  obtain⟨⟨f,ρ2⟩,e,⟨d,e2⟩,hk⟩:=h1 rfl
  have e2:f=.rt d:=e2
  subst e2
  rw[if_pos rfl,e]
  exact Q5.mpr hk
 |false=>rw[if_neg @1];exact h2 rfl
theorem QeD {m:ME}{lo hi:MO}{xs:List D}{a b:Option Int}(h:m ρ=.ok (.lst xs,ρ1))(h1:lo ρ1=.ok (a,ρ1))(h2:hi ρ1=.ok (b,ρ1)):Qt4 m lo hi ρ=.ok (.lst (cutD xs a b),ρ1):=by
 unfold Qt4;rw[h];show(lo ρ1).bind _=_;rw[h1];show(hi ρ1).bind _=_;rw[h2];rfl
theorem Qis {m:ME}{lo hi:MO}{xs:List D}{a b:Option Int}(h:m ρ=.ok (.lst xs,ρ1))(h1:lo ρ1=.ok (a,ρ1))(h2:hi ρ1=.ok (b,ρ1))(im:D.Jb (cutD xs a b)=true):Qt5 m lo hi ρ=.ok (.lst (cutD xs a b),ρ1):=by
 unfold Qt5;rw[h];show(lo ρ1).bind _=_;rw[h1];show(hi ρ1).bind _=_;rw[h2]
 show(if D.Jb (cutD xs a b)=true then _ else _)=_
 rw[if_pos im]
theorem QlF {a b:ME}{xs ys:List D}(h1:a ρ=.ok (.lst xs,ρ1))(h2:b ρ1=.ok (.lst ys,ρ2))(hz:xs.length+ys.length<=z17)(im:D.Jb (xs++ys)=true):QkC a b ρ=.ok (.lst (xs++ys),ρ2):=by
 unfold QkC;rw[h1];show(b ρ1).bind _=_;rw[h2]
 show(if xs.length+ys.length<=z17 then(if D.Jb (xs++ys)=true then _ else _) else _)=_
 rw[if_pos hz,if_pos im]
theorem Qit {par:Bool}{i p:Nat}{m mi:ME}{d:D}{xs:List D}{n:Int}(h1:m ρ=.ok (d,ρ1))(hi:ρ1[i]? = some (some (mkS par (.lst xs))))(h2:mi ρ1=.ok (.int n,ρ1))(e1:ixN xs.length n=some p):QhV i m mi ρ=.ok (.nx,ρ1.set i (some (mkS par (.lst (xs.set p d))))):=by
 have el:Qax ρ1 i=some (par,xs):=by unfold Qax;rw[hi];cases par<;>rfl
 unfold QhV
 simp only[h1,h2,el,e1,Rs.bind,Rs.of,asI,ze3]
theorem Qiu {α:Type}{xs:List α}{r:Int}{n:Nat}(hn:xs.length=n)(n3:n<=30)(r0:0<=r)(r1:r<n):((cutD xs none (some r)).length<=30/\(cutD xs (some r) none).length<=30/\(cutD xs (some (r+1)) none).length<=30)/\(cutD xs none (some r)++cutD xs (some (r+1)) none).length=n - 1/\∀y,(cutD xs none (some r)++[y]++cutD xs (some r) none).length=n+1:=by
 have e:r=(r.toNat:Int):=by lia
 have a1:(cutD xs none (some r)).length=r.toNat:=by rw[e,QnD,z44];lia
 have a2:(cutD xs (some r) none).length=n - r.toNat:=by rw[Qfx e @0,z58];lia
 have a3:(cutD xs (some (r+1)) none).length=n - r.toNat - 1:=by rw[Qfx (k:=r.toNat+1) @0 @0,z58];lia
 refine⟨⟨by lia,by lia,by lia⟩,by rw[z16];lia,fun y=>by rw[z16,z16,zb2];lia⟩
theorem sz2 {a b:Nat}(h1:a<=31)(h2:b<=31):a+b<=z17:=by rw[z36];lia
theorem up1 {a:Nat}(h:a<=30):a<=31:=Nat.le_succ_of_le h
theorem QsR {n:Nat}(h:1<=n):n - 1≠n:=by lia
theorem QsS {n:Nat}:n+1≠n:=by lia
theorem QvH {α:Type}{xs:List α}{y:α}(h:xs.length<=30):(xs++[y]).length<=31:=by rw[z16,zb2];lia
theorem Qhm {r:Int}{xs:List D}(rn:Rc h w N)(r0:0<=r)(r1:r<h)(hx:xs.length≠w\/(xs.length=w/\QV z [.lst xs]=.ex z.Qn)):QsO z h w (.lst ((N.map rwI).set r.toNat (.lst xs))):=by
 have hr:=rn.hi
 refine .inr ⟨N.take r.toNat,xs,(N.drop (r.toNat+1)).map rwI,?_,?_,fun l hl=>rn.wi l (za2 hl),hx⟩
 ·rw[List.set_eq_take_append_cons_drop,if_pos (by rw[z01];lia),zm3,zs6]
 ·rw[z44,z01,z58];lia
theorem QnE {ds:List D}{i:Int}(h0:0<=i)(h1:i<ds.length):∃d,atI ds i=some d/\d∈ds:=by
 have l:i.toNat<ds.length:=by lia
 refine⟨ds[i.toNat],?_,z99 l⟩
 unfold atI
 rw[QcE h0 h1]
 exact z04 l
def Qpz:List D:=[.bl true,.bl false,.non,.str "1",.str "",.lst [.int 1],.tup [.int 0,.int 0],.lst []]
theorem QpA {d:D}(hd:d∈Qpz):Vu z [d]=.ok (.bl false) []/\isI d=false:=by
 unfold Qpz at hd
 simp only[z15,zo3,or_false] at hd
 rcases hd with rfl|rfl|rfl|rfl|rfl|rfl|rfl|rfl<;>exact⟨rfl,rfl⟩
theorem QpB {l:List Int}{k:Nat}{d:D}(hd:d∈Qpz)(hk:k<l.length)(hl:l.length<=30):QV z [.lst ((l.map D.int).set k d)]=.ex z.Qn:=by
 obtain⟨b1,b2⟩:=QpA (z:=z) hd
 refine Qji (fun x hx=>?_) (by rw[z98,z01];lia) ?_
 ·rcases zr3 hx with hx|rfl
  ·obtain⟨n,_,rfl⟩:=z48.mp hx
   exact Qfv
  ·rw[b2];exact b1
 ·rw[List.all_eq_false]
  exact⟨d,List.mem_set (by rw[z01];exact hk) d,by rw[b2];decide⟩
def spB (z:Z)(h w:Nat)(d:D)(os:List D):Prop:=∃q,os=[q]/\Pot q/\QsO z h w d
abbrev S7 (q:D)(N:List @17)(h:Nat)(r c a:Int)(s:Sl):Rho:=[some (.par q),~~~(rD N),~~~(.int h),~~~(.int r),~~~(.int c),~~~(.int a),some s]
theorem QlG (rn:Rc h w N)(h1:1<=h)(hh:h<=30)(w1:1<=w)(hw:w<=30)(hq:Pot q):FW (Qb2 z [q,rD N]) (spB z h w):=Jc (by
 dsimp only[V1]
 have g1:YS [rD N]=some (.int h):=by unfold rD;simp[YS,rn.hi]
 have g2:YS [rwI (N.getD (0:Int).toNat [])]=some (.int w):=by
  have:=rn.row (i:=0) @1 @0
  unfold rwI
  simp only[YS,z01,this]
 simp only[z97] at g2
 refine Ws [some (.par q),~~~(rD N),~~~(.int h),none,none,none,none] ?_ ?_
 ·simp? only[S7,g1]
  exact⟨trivial,trivial⟩
 refine Jq (fun ρ=>∃q,∃r:Int,Pot q/\0<=r/\r<h/\ρ=[some (.par q),~~~(rD N),~~~(.int h),~~~(.int r),none,none,none]) ?_ ?_
 ·refine Qeb (args:=[q,.int h]) (dis:=[q]) rfl rfl (Q4 hq @0 (za0 (b:=31) @0 @1)) fun _ _ ⟨r1,q1,e1,e2,hq1,k0,k1⟩=>?_;subst e1 e2
  exact Q5.mpr ⟨rfl,q1,r1,hq1,k0,k1,rfl⟩
 rintro ρ ⟨q,r,hq,r0,r1,rfl⟩
 refine Jq (fun ρ=>∃q,∃c:Int,Pot q/\0<=c/\c<w/\ρ=[some (.par q),~~~(rD N),~~~(.int h),~~~(.int r),~~~(.int c),none,none]) ?_ ?_
 ·refine Qeb (args:=[q,.int w]) (dis:=[q]) (Y8 rfl (Y8 (Qc7 (Y8 (Qde rfl rfl (Vt rn (i:=0) @1 @0)) rfl) g2) rfl)) rfl (Q4 hq @0 (za0 (b:=31) @0 @1)) fun _ _ ⟨r1,q1,e1,e2,hq1,k0,k1⟩=>?_;subst e1 e2
  exact Q5.mpr ⟨rfl,q1,r1,hq1,k0,k1,rfl⟩
 rintro ρ ⟨q,c,hq,c0,c1,rfl⟩
 have ip:inR h w (r,c):=⟨r0,r1,c0,c1⟩
 refine Jq (fun ρ=>∃q,∃a:Int,Pot q/\ρ=[some (.par q),~~~(rD N),~~~(.int h),~~~(.int r),~~~(.int c),~~~(.int a),none]) ?_ ?_
 ·refine Qeb (args:=[q,.int 5]) (dis:=[q]) rfl rfl (Q4 hq @1 @1) fun _ _ ⟨r1,q1,e1,e2,hq1,k0,k1⟩=>?_;subst e1 e2
  exact Q5.mpr ⟨rfl,q1,r1,hq1,rfl⟩
 rintro ρ ⟨q,a,hq,rfl⟩
 refine Ws (S7 q N h r c a (.own (rD N))) ?_ ?_
 ·exact Qi.mpr ⟨_,Qgz rn hh rfl,Q5.mpr ⟨rfl,rfl⟩⟩
 have hl:(N.map rwI).length=h:=by rw[z01,rn.hi]
 obtain⟨⟨l1,l2,l3⟩,l4,l5⟩:=Qiu hl hh r0 r1
 have hr:((N.getD r.toNat []).map D.int).length=w:=by rw[z01];exact rn.row r0 r1
 obtain⟨⟨m1,m2,m3⟩,m4,m5⟩:=Qiu hr hw c0 c1
 have ir:ixN (N.map rwI).length r=some r.toNat:=QcE r0 (by rw[hl];exact r1)
 have im:∀(a b:Option Int),D.Jb (cutD ((N.getD r.toNat []).map D.int) a b)=true:=fun a b=>by
  unfold cutD
  rw[← zs6,← zm3]
  exact VB _
 have ia:∀{xs ys:List D},D.Jb xs=true->D.Jb ys=true->D.Jb (xs++ys)=true:=fun e1 e2=>QhH e1 e2
 refine QsQ (b:=decide (a=0)) (ρ1:=(S7 q N h r c a (.own (rD N)))) (JH.mp (by simp? only[S7])) (fun _=>?_) (fun _=>?_)
 ·refine Qi.mpr ⟨_,Qcx (QeD (xs:=N.map rwI) (ρ1:=(S7 q N h r c a (.frz (rD N)))) rfl rfl rfl) (QeD (xs:=N.map rwI) rfl (a:=some (r+1)) rfl rfl) (sz2 (up1 l1) (up1 l3)),Q5.mpr ⟨⟨_,rfl⟩,_,[q],rfl,rfl,q,rfl,hq,.inl ⟨_,rfl,?_,?_⟩⟩⟩
  ·rw[l4];exact z65 (Nat.sub_le _ _) (up1 hh)
  ·rw[l4];exact QsR h1
 refine QsQ (b:=decide (a=1)) (ρ1:=(S7 q N h r c a (.own (rD N)))) (JH.mp (by simp? only[S7])) (fun _=>?_) (fun _=>?_)
 ·have e1:QpF (Q7 (QhJ (Q7 (mOp gIx (mB 6) (mV 3)) Qem)) Qem) (S7 q N h r c a (.frz (rD N)))=.ok (.lst [rwI (N.getD r.toNat [])],(S7 q N h r c a (.frz (rD N)))):=JH.mp (by
   have e6:∀ρ,liK ([rwI (N.getD r.toNat [])],ρ)=.ok (rwI (N.getD r.toNat []),ρ):=fun _=>Qnj.trans (if_pos (VB _))
   simp? only[S7,Vt rn r0 r1,e6])
  refine Qi.mpr ⟨_,Qcx (Qcx (QeD (xs:=N.map rwI) (ρ1:=(S7 q N h r c a (.frz (rD N)))) rfl rfl rfl) e1 (sz2 (up1 l1) (show(1:Nat)<=31 by decide))) (QeD (xs:=N.map rwI) rfl (a:=some r) rfl rfl) (sz2 (QvH l1) (up1 l2)),Q5.mpr ⟨⟨_,rfl⟩,_,[q],rfl,rfl,q,rfl,hq,.inl ⟨_,rfl,?_,?_⟩⟩⟩
  ·rw[l5];exact Nat.succ_le_succ hh
  ·rw[l5];exact QsS
 have ib:mOp gIx (mB 6) (mV 3) (S7 q N h r c a (.own (rD N)))=.ok (.lst ((N.getD r.toNat []).map D.int),(S7 q N h r c a (.own (rD N)))):=Qde rfl rfl (Vt rn r0 r1)
 refine Jq (fun ρ=>∃ys q,Pot q/\QsO z h w (.lst ys)/\ρ=(S7 q N h r c a (.own (.lst ys)))) ?_ ?_
 ·by_cases a2:a=2
  ·refine⟨_,(Qms (b:=true) (ρ1:=(S7 q N h r c a (.own (rD N)))) (JH.mp (by simp? only[S7,a2]))).trans ((if_pos rfl).trans (Qit (par:=false) (p:=r.toNat) (xs:=N.map rwI) (n:=r) (QlF (Qis ib rfl rfl (im _ _)) (Qis ib (a:=some (c+1)) rfl rfl (im _ _)) (sz2 (up1 m1) (up1 m3)) (ia (im _ _) (im _ _))) rfl rfl ir)),rfl,_,q,hq,Qhm rn r0 r1 (.inl ?_),rfl⟩
   rw[m4];exact QsR w1
  refine Qi.mpr ⟨(false,(S7 q N h r c a (.own (rD N)))),JH.mp (by simp? only[S7,a2]),?_⟩
  dsimp only
  rw[if_neg @1]
  by_cases a3:a=3
  ·have e3:QpF (Q7 (mI (mOp gIx (mOp gIx (mB 6) (mV 3)) (mV 4))) Qem) (S7 q N h r c a (.own (rD N)))=.ok (.lst [.int (atL N (r,c))],(S7 q N h r c a (.own (rD N)))):=JH.mp (by simp? only[S7,Vt rn r0 r1,Qea rn ip])
   refine⟨_,(Qms (b:=true) (ρ1:=(S7 q N h r c a (.own (rD N)))) (JH.mp (by simp? only[S7,a3]))).trans ((if_pos rfl).trans (Qit (par:=false) (p:=r.toNat) (xs:=N.map rwI) (n:=r) (QlF (Qcx (Qis ib rfl rfl (im _ _)) e3 (sz2 (up1 m1) (show(1:Nat)<=31 by decide))) (Qis ib (a:=some c) rfl rfl (im _ _)) (sz2 (QvH m1) (up1 m2)) (ia (ia (im _ _) rfl) (im _ _))) rfl rfl ir)),rfl,_,q,hq,Qhm rn r0 r1 (.inl ?_),rfl⟩
   rw[m5];exact QsS
  refine Qi.mpr ⟨(false,(S7 q N h r c a (.own (rD N)))),JH.mp (by simp? only[S7,a3]),?_⟩
  dsimp only
  rw[if_neg @1]
  have tk:W (Qf2 true [some 0,none] (YF z) (Q7 (mS 0) (Q7 (mC (.int 8)) Qem)) (S7 q N h r c a (.own (rD N)))) fun r'=>∃q,∃x:Int,Pot q/\0<=x/\x<8/\r'=(.int x,(S7 q N h r c a (.own (rD N)))):=by
   simp? only[S7]
   refine Qbv (p:=q) (P:=spT 8) rfl (Q4 hq @1 @1) fun _ _ ⟨r1,q1,e1,e2,hq1,k0,k1⟩=>⟨q1,e2,?_⟩;subst e1
   exact⟨q1,r1,hq1,k0,k1,rfl⟩
  obtain⟨_,et,q',x,hq',x0,x1,rfl⟩:=tk
  obtain⟨d,ed,hd⟩:=QnE (ds:=Qpz) x0 x1
  have el:∀ρ:Rho,QmD [.O,.O,.O,.O,.O,.O,.O,.O] (Q7 (mI (mC (.bl true))) (Q7 (mI (mC (.bl false))) (Q7 (mI (mC .non)) (Q7 (mI (mC (.str "1"))) (Q7 (mI (mC (.str ""))) (Q7 (Qmf (Q7 (mC (.int 1)) Qem)) (Q7 (mI (Qs2 (Q7 (mC (.int 0)) (Q7 (mC (.int 0)) Qem)))) (Q7 (Qmf Qem) Qem)))))))) (some (.par q)::ρ)=.ok (.lst Qpz,some (.par q)::ρ):=fun ρ=>JT (q:=(Qpz,some (.par q)::ρ)) (ds:=Qpz) (JH.mp (by simp? only[S7];rfl)) rfl (by rw[z36];show(8:Nat)<=16777216;decide)
  refine Qh5 (par:=false) (d:=d) (ys:=N.map rwI) (xs:=(N.getD r.toNat []).map D.int) (n:=r) (j:=c) (p:=r.toNat) (q:=c.toNat) (ρ1:=(S7 q' N h r c a (.own (rD N)))) rfl (QsL (el _) et ed) rfl rfl ir (QsM rn ip) (QcE c0 (by rw[hr];exact c1)) ⟨rfl,_,q',hq',Qhm rn r0 r1 (.inr ⟨by rw[z98];exact hr,?_⟩),rfl⟩
  have e5:=rn.row r0 r1
  exact QpB hd (by rw[e5];lia) (by rw[e5];exact hw)
 rintro ρ ⟨ys,q,hq,hb,rfl⟩
 exact Q5.mpr ⟨_,[q],rfl,rfl,q,rfl,hq,hb⟩)
end
variable {z:Z}
section
variable {h w:Nat}{F:List @17}{p:Int×Int}{ρ:Rho}{c:Addr}{q x y s:D}
def npL (h w:Nat)(n:Int):List D:=[.tup [.int h,.int 0],.tup [.int 0,.int w],.tup [.int (-1),.int 0],.tup [.int 0,.int (-1)],.tup [.int n,.int 0],.tup [.int 0],.tup [.int 0,.int 0,.int 0],.tup [],.non,.str "00",.int 0,.tup [.bl true,.int 0],.tup [.int 0,.bl false],.tup [.non,.int 0],.lst [.int 0],.lst [.int 0,.int w],.tup [.int 0,.str "0"],.lst [.lst [.int 0,.int 0],.int 0]]
theorem QwH {n:Int}{d:D}(rf:Rc h w F)(h1:1<=h)(w1:1<=w)(hn:(h:Int)<=n)(hd:d∈npL h w n):NoP z F d:=by
 have no:∀{i m:Int},¬ (0<=i/\i<m)->Jt z [.int i,.int m]=.ok (.bl false) []:=fun k=>QaT.trans (by rw[decide_eq_false k])
 have yes:∀{m:Int},0<m->Jt z [.int 0,.int m]=.ok (.bl true) []:=fun k=>QaT.trans (by rw[decide_eq_true ⟨zd5 0,k⟩])
 have y0:Jt z [.int 0,.int h]=.ok (.bl true) []:=yes @0
 unfold npL at hd
 simp only[z15,zo3,or_false] at hd
 rcases hd with rfl|rfl|rfl|rfl|rfl|rfl|rfl|rfl|rfl|rfl|rfl|rfl|rfl|rfl|rfl|rfl|rfl|rfl
 ·exact YM (k:=true) (x:=false) (y:=false) rf h1 (no @0) (fun q=>nomatch q) rfl
 ·exact YM (k:=true) (x:=true) (y:=false) rf h1 y0 (fun _=>no @0) rfl
 ·exact YM (k:=true) (x:=false) (y:=false) rf h1 (no @0) (fun q=>nomatch q) rfl
 ·exact YM (k:=true) (x:=true) (y:=false) rf h1 y0 (fun _=>no @0) rfl
 ·exact YM (k:=true) (x:=false) (y:=false) rf h1 (no @0) (fun q=>nomatch q) rfl
 ·exact QbM rfl
 ·exact QbM rfl
 ·exact QbM rfl
 ·exact QbM rfl
 ·exact QbM rfl
 ·exact QbM rfl
 ·exact YM (k:=true) (x:=false) (y:=false) rf h1 (QaV rfl) (fun q=>nomatch q) rfl
 ·exact YM (k:=true) (x:=true) (y:=false) rf h1 y0 (fun _=>QaV rfl) rfl
 ·exact YM (k:=true) (x:=false) (y:=false) rf h1 (QaV rfl) (fun q=>nomatch q) rfl
 ·exact QbM rfl
 ·exact YM (k:=false) (x:=true) (y:=false) rf h1 y0 (fun _=>no @0) rfl
 ·exact YM (k:=true) (x:=true) (y:=false) rf h1 y0 (fun _=>QaV rfl) rfl
 ·exact YM (k:=false) (x:=false) (y:=false) rf h1 (QaV rfl) (fun q=>nomatch q) rfl
def spN (h w:Nat)(d:D)(os:List D):Prop:=∃q,∃n:Int,os=[q]/\Pot q/\(h:Int)<=n/\d∈npL h w n
theorem Qjj (hq:Pot q):FW (QaK z [q,.int h,.int w]) (spN h w):=Jc (by
 dsimp only[YK]
 refine Jq (fun ρ=>∃n:Int,(h:Int)<=n/\ρ=[some (.par q),~~~(.int h),~~~(.int w),~~~(.lst ((npL h w n).take 11))]) ?_ ?_
 ·refine Q5.mpr ⟨rfl,(h:Int)+(10:Int) ^ (59:Nat),?_,rfl⟩
  have:(0:Int)<=(10:Int) ^ (59:Nat):=by decide
  lia
 rintro ρ ⟨n,hn,rfl⟩
 refine Ws [some (.par q),~~~(.int h),~~~(.int w),~~~(.lst (npL h w n))] ?_ ?_
 ·exact Q5.mpr ⟨rfl,rfl⟩
 have tk:W (Qf2 true [some 0,none] (YF z) (Q7 (mS 0) (Q7 (mC (.int 18)) Qem)) [some (.par q),~~~(.int h),~~~(.int w),~~~(.lst (npL h w n))]) fun r'=>∃q,∃x:Int,Pot q/\0<=x/\x<18/\r'=(.int x,[some (.par q),~~~(.int h),~~~(.int w),~~~(.lst (npL h w n))]):=by
  simp? only[]
  refine Qbv (p:=q) (P:=spT 18) rfl (Q4 hq @1 @1) fun _ _ ⟨r1,q1,e1,e2,hq1,k0,k1⟩=>⟨q1,e2,?_⟩;subst e1
  exact⟨q1,r1,hq1,k0,k1,rfl⟩
 obtain⟨_,et,q',x,hq',x0,x1,rfl⟩:=tk
 obtain⟨d,ed,hd⟩:=QnE (ds:=npL h w n) x0 x1
 exact Qi.mpr ⟨_,Qde (x:=.lst (npL h w n)) rfl et ed,Q5.mpr ⟨_,[q'],rfl,rfl,q',n,rfl,hq',hn,hd⟩⟩)
structure Xok (z:Z)(c:Addr)(l:Bool):Prop where
 exm:zf5 z.K (.ref c) (.ref z.Js)=some true
 kv:z40 z.K (.ref c) (.type "ValueError")=some true
 ks:z40 z.K (.ref c) (.ref z.Q9)=some false
 kw:z40 z.K (.ref c) (.ref z.Y0)=some false
 kl:z40 z.K (.ref c) (.ref z.Qn)=some l
 kp:z40 z.K (.ref c) (.ref z.Qv)=some (!l)
 pl:JB z.K c=true
theorem Qda {C:Addr}{b:Bool}(k:z40 z.K (.ref c) (.ref C)=some b)(p:JB z.K c=true):Qd9 z.K [.nd (.exc c) [],.cls C]=some (.bl b):=by
 show(z40 z.K (.ref c) (.ref C)).bind _=_
 rw[k]
 exact if_pos (.inr p)
theorem QpC {n:String}{b:Bool}(k:z40 z.K (.ref c) (.type n)=some b)(p:JB z.K c=true):Qd9 z.K [.nd (.exc c) [],.ty n]=some (.bl b):=by
 show(z40 z.K (.ref c) (.type n)).bind _=_
 rw[k]
 exact if_pos (.inr p)
theorem Qa6 {l:Bool}(k:Xok z c l)(e:Qa5 z [x,y,s]=.ex c):Qbm z [x,y,s]=.ok (.str (if l then "lights" else "place")) []:=Jz (Jc (by
 dsimp only[Vi]
 refine Ws [~~~x,~~~y,~~~s,some (.frz .non),none] ?_ ?_
 ·exact Q5.mpr ⟨rfl,rfl⟩
 refine Ws [~~~x,~~~y,~~~s,~~~(.nd (.exc c) []),none] ?_ ?_
 ·refine⟨(.nx,[~~~x,~~~y,~~~s,~~~(.nd (.exc c) []),none]),?_,rfl,rfl⟩
  unfold Qs5
  rw[QkM (QhY (args:=[x,y,s]) rfl e)]
  show noX (dispatch z.K c _ _)=_
  unfold dispatch
  rw[k.exm]
  rfl
 have n1:Quo id (.nd (.exc c) []) .non=some (.bl false):=rfl
 have i1:=QpC k.kv k.pl
 have i2:=Qda k.ks k.pl
 have i3:=Qda k.kw k.pl
 have i4:=Qda k.kl k.pl
 have i5:=Qda k.kp k.pl
 have e1:gEq (.bl l) (.bl !l)=some (.bl false):=by cases l<;>rfl
 have e2:Qun [.bl l]=some (.int (if l then 1 else 0)):=rfl
 refine Ws [~~~x,~~~y,~~~s,~~~(.nd (.exc c) []),none] ?_ ?_
 ·simp? only[n1,i1,i2,i3]
  exact⟨trivial,trivial⟩
 refine Ws [~~~x,~~~y,~~~s,~~~(.nd (.exc c) []),none] ?_ ?_
 ·simp? only[i4,i5,e1]
  exact⟨trivial,trivial⟩
 cases l<;>(simp? only[i4,e2];exact⟨_,_,rfl,rfl,rfl,rfl⟩)))
end
variable {z:Z}
section
variable {h w:Nat}{R N:List @17}
theorem QuZ:(tD h w N R).pln 30=true:=by
 have a:(rD R).pln 29=true:=by
  show(R.map rwI).all (D.pln 28)=true
  rw[zd4]
  refine z69.mpr fun l _=>?_
  show(l.map D.int).all (D.pln 27)=true
  rw[zd4]
  exact z69.mpr fun _ _=>rfl
 have b:(D.lst ((unL h w N R).map pl)).pln 29=true:=by
  show((unL h w N R).map pl).all (D.pln 28)=true
  rw[zd4]
  exact z69.mpr fun _ _=>rfl
 show[rD R,.lst ((unL h w N R).map pl)].all (D.pln 29)=true
 rw[zm6,zm6,a,b];rfl
theorem QsT {l:List PN}{x:D}{a:Int}(a0:0<=a)(a1:a<=l.length):cutD (l.map pnD) none (some a)++[x]++cutD (l.map pnD) (some a) none=(l.take a.toNat).map pnD++x::(l.map pnD).drop a.toNat:=by
 have e:a=(a.toNat:Int):=by lia
 rw[Qfx (k:=a.toNat) e (by rw[z01];lia)]
 rw[e,QnD,zm3,z20,← e];rfl
end
abbrev LS (z:Z)(h w:Nat)(F N R:List @17)(ls:List PN)(ns:List Int)(q:D)(a b c d e f:Option Sl):Rho:=[~~~(script ns),~~~(rD F),~~~(rD N),some (.own q),~~~@12,~~~(flD z F),~~~(tD h w N R),~~~(rD N),a,b,c,d,e,f]
structure Zok (z:Z):Prop where
 xl:Xok z z.Qn true
 xp:Xok z z.Qv false
theorem QsU (hz:Zok z)(ns:List Int):FW (QsB z [script ns]) (fun d os=>d=.bl true/\os=[]):=Jc (by
 dsimp only[Qpj]
 obtain⟨_,_,el,rfl,h,w,F,rfl,rf,okF,h1,hh,w1,hw⟩:=Qly (z:=z) (xs:=ns)
 have nf:Nn h w F:=fun p hp=>(QsK rf okF hp).1
 refine Ws [~~~(script ns),~~~(rD F),none,none,none,none,none,none,none,none,none,none,none,none] ?_ ?_
 ·exact Qi.mpr ⟨_,Ye (args:=[script ns,.int 0]) rfl el (fun q=>nomatch q),Q5.mpr ⟨rfl,rfl⟩⟩
 obtain⟨_,_,en,rfl,N,rfl,rN,oN⟩:=Qje (z:=z) (xs:=ns) rf hh hw
 refine Ws [~~~(script ns),~~~(rD F),~~~(rD N),none,none,none,none,none,none,none,none,none,none,none] ?_ ?_
 ·exact Qi.mpr ⟨_,Ye (args:=[script ns,.int 31,rD F]) rfl en (fun q=>nomatch q),Q5.mpr ⟨rfl,rfl⟩⟩
 obtain⟨q,_,ep,rfl,hq⟩:=Qcb (z:=z) ns 61 @1
 refine Ws [~~~(script ns),~~~(rD F),~~~(rD N),some (.own q),none,none,none,none,none,none,none,none,none,none] ?_ ?_
 ·exact Qi.mpr ⟨_,Ye (args:=[script ns,.int 61]) rfl ep (fun q=>nomatch q),Q5.mpr ⟨rfl,rfl⟩⟩
 refine Jq (fun ρ=>∃q,∃ls:List PN,ls.length<=60/\(∀x∈ls,inR h w x.1/\nB x.2)/\ρ=[~~~(script ns),~~~(rD F),~~~(rD N),some (.own q),~~~@12,none,none,none,none,none,none,none,none,none]) ?_ ?_
 ·refine Qeb (args:=[q,rD N]) (dis:=[q]) rfl rfl (Qlz (z:=z) rN (fun p hp=>QsK rN oN hp) h1 hh w1 hw hq) fun _ _ ⟨ls,q1,e1,e2,hn,hl⟩=>?_;subst e1 e2
  exact Q5.mpr ⟨rfl,q1,ls,hn,hl,rfl⟩
 rintro ρ ⟨q,ls,hln,hl,rfl⟩
 refine Ws [~~~(script ns),~~~(rD F),~~~(rD N),some (.own q),~~~@12,~~~(flD z F),none,none,none,none,none,none,none,none] ?_ ?_
 ·exact Qi.mpr ⟨_,QuL (x:=rD F) (ρ1:=[~~~(script ns),~~~(rD F),~~~(rD N),some (.own q),~~~@12,none,none,none,none,none,none,none,none,none]) (JH.mp (by simp? only[])) (fun y=>Qpp rf h1 hh w1 hw okF) QsJ,Q5.mpr ⟨rfl,rfl⟩⟩
 have hl':∀x∈ls,inR h w x.1:=fun x hx=>(hl x hx).1
 obtain⟨_,_,er,rfl,R,rfl,sp⟩:=Qlv (z:=z) (a:=false) (b:=false) (c:=true) (d':=false) rf nf rN h1 hh w1 hw hl'
 change Qa5 z [flD z F,rD N,.lst (ls.map pnD)]=Fr.ok (tD h w N R) [] at er
 refine Ws [~~~(script ns),~~~(rD F),~~~(rD N),some (.own q),~~~@12,~~~(flD z F),~~~(tD h w N R),none,none,none,none,none,none,none] ?_ ?_
 ·exact Qi.mpr ⟨_,Ye (args:=[flD z F,rD N,.lst (ls.map pnD)]) rfl er (fun q=>nomatch q),Q5.mpr ⟨rfl,rfl⟩⟩
 refine Ws [~~~(script ns),~~~(rD F),~~~(rD N),some (.own q),~~~@12,~~~(flD z F),~~~(tD h w N R),~~~(rD N),none,none,none,none,none,none] ?_ ?_
 ·exact Qi.mpr ⟨_,Qgz rN hh rfl,Q5.mpr ⟨rfl,rfl⟩⟩
 obtain⟨q,_,ep,rfl,hq⟩:=Qcb (z:=z) ns 62 @1
 refine Ws [~~~(script ns),~~~(rD F),~~~(rD N),some (.own q),~~~@12,~~~(flD z F),~~~(tD h w N R),~~~(rD N),none,none,none,none,none,none] ?_ ?_
 ·exact Qi.mpr ⟨_,Ye (args:=[script ns,.int 62]) rfl ep (fun q=>nomatch q),Q5.mpr ⟨rfl,rfl⟩⟩
 have gh:YS [rD F]=some (.int h):=by unfold rD;simp[YS,rf.hi]
 have gw:YS [rwI (F.getD (0:Int).toNat [])]=some (.int w):=by
  have:=rf.row (i:=0) @1 @0
  unfold rwI
  simp only[YS,z01,this]
 simp only[z97] at gw
 have gs:YS [.lst (ls.map pnD)]=some (.int (ls.length:Nat)):=by simp[YS]
 refine Jq (fun ρ=>∃q,∃s8 s9 s10 s11 s12:Option Sl,frO s8/\frO s9/\frO s10/\frO s11/\frO s12/\ρ=(LS z h w F N R ls ns q s8 s9 s10 s11 s12 none)) ?_ ?_
 ·have b1:(-4611686018427387904:Int)<=3/\(3:Int)<4611686018427387904:=by lia
  simp? only[LS,b1,and_self]
  refine Qak (fun i ρ=>∃q,∃s8 s9 s10 s11 s12:Option Sl,Pot q/\frO s8/\frO s9/\frO s10/\frO s11/\frO s12/\ρ=(LS z h w F N R ls ns q s8 s9 s10 s11 s12 none)) ⟨q,none,none,none,none,none,hq,.inl rfl,.inl rfl,.inl rfl,.inl rfl,.inl rfl,rfl⟩ ?_ ?_
  ·rintro i d ρ hd ⟨q,s8,s9,s10,s11,s12,hq,h8,h9,h10,h11,h12,rfl⟩
   rw[z22] at hd
   obtain⟨x,hx,rfl⟩:=z03.mp hd
   generalize (0+(x:Int))=y
   refine⟨(LS z h w F N R ls ns q (~~~(.int y)) s9 s10 s11 s12 none),?_,?_⟩
   ·exact QcQ rfl h8
   refine Jq (fun ρ=>∃q d,Pot q/\QsO z h w d/\ρ=(LS z h w F N R ls ns q (~~~(.int y)) (~~~d) s10 s11 s12 none)) ?_ ?_
   ·refine Qeb (args:=[q,rD N]) (dis:=[q]) rfl rfl (QlG rN h1 hh w1 hw hq) fun d _ ⟨q1,e2,hq1,hb⟩=>?_;subst e2
    rcases h9 with rfl|⟨_,rfl⟩<;>exact Q5.mpr ⟨rfl,q1,d,hq1,hb,rfl⟩
   rintro ρ ⟨q,d,hq,hb,rfl⟩
   refine Jq (fun ρ=>∃q x,∃m:Int,Pot q/\NoP z F x/\ρ=(LS z h w F N R ls ns q (~~~(.int y)) (~~~d) (~~~(.tup [x,.int m])) s11 s12 none)) ?_ ?_
   ·simp? only[LS,gh,Vt rf (i:=0) @1 @0,gw]
    refine QpK (dis:=[q]) (P:=spN h w) rfl (Qjj hq) fun x os hz=>?_
    obtain⟨q1,n,e,hq1,hn,hx⟩:=hz
    subst e
    simp? only[LS]
    refine QkP (p:=q1) (P:=spP Qhf) rfl (QdS hq1) fun d' _ hz=>?_
    obtain⟨q2,e2,hq2,hd'⟩:=hz
    refine⟨q2,e2,?_⟩
    obtain⟨m,rfl,_,_⟩:=hd'
    rcases h10 with rfl|⟨_,rfl⟩<;>simp? only[LS]<;>exact⟨trivial,q2,x,m,hq2,QwH rf h1 w1 hn hx,rfl⟩
   rintro ρ ⟨q,x,m,hq,nx,rfl⟩
   refine Jq (fun ρ=>∃q,∃a:Int,Pot q/\0<=a/\a<=ls.length/\ρ=(LS z h w F N R ls ns q (~~~(.int y)) (~~~d) (~~~(.tup [x,.int m])) (~~~(.int a)) s12 none)) ?_ ?_
   ·refine Qeb (args:=[q,.int ((ls.length:Int)+1)]) (dis:=[q]) (Y8 rfl (Y8 (Qde (Qc7 (args:=[.lst (ls.map pnD)]) rfl gs) rfl rfl) rfl)) rfl (Q4 hq @0 (za0 (b:=62) @0 @1)) fun _ _ ⟨r1,q1,e1,e2,hq1,k0,k1⟩=>?_;subst e1 e2
    rcases h11 with rfl|⟨_,rfl⟩<;>exact Q5.mpr ⟨rfl,q1,r1,hq1,k0,by lia,rfl⟩
   rintro ρ ⟨q,a,hq,a0,a1,rfl⟩
   refine Jq (fun ρ=>∃k:Nat,ρ=@7) ?_ ?_
   ·have hm:(ls.map pnD).length=ls.length:=z01 ..
    have c1:(cutD (ls.map pnD) none (some a)).length<=60:=by unfold cutD;rw[z44,z58];lia
    have c2:(cutD (ls.map pnD) (some a) none).length<=60:=by unfold cutD;rw[z44,z58];lia
    have e0:QpF (Q7 (mV 10) Qem) (LS z h w F N R ls ns q (~~~(.int y)) (~~~d) (~~~(.tup [x,.int m])) (~~~(.int a)) s12 none)=.ok (.lst [.tup [x,.int m]],(LS z h w F N R ls ns q (~~~(.int y)) (~~~d) (~~~(.tup [x,.int m])) (~~~(.int a)) s12 none)):=JH.mp (by simp? only[LS])
    have e1:=Qcx (Qcx (QeD (m:=mV 4) (lo:=Qt2) (hi:=Qt3 (mV 11)) (xs:=ls.map pnD) (ρ:=(LS z h w F N R ls ns q (~~~(.int y)) (~~~d) (~~~(.tup [x,.int m])) (~~~(.int a)) s12 none)) (ρ1:=(LS z h w F N R ls ns q (~~~(.int y)) (~~~d) (~~~(.tup [x,.int m])) (~~~(.int a)) s12 none)) rfl rfl rfl) e0 (by rw[z36,zb2];lia)) (QeD (m:=mV 4) (lo:=Qt3 (mV 11)) (hi:=Qt2) (xs:=ls.map pnD) rfl (a:=some a) rfl rfl) (by rw[z16,z36,zb2];lia)
    rw[QsT a0 a1] at e1
    refine Qi.mpr ⟨_,e1,?_⟩
    rcases h12 with rfl|⟨_,rfl⟩<;>exact Q5.mpr ⟨rfl,a.toNat,rfl⟩
   rintro ρ ⟨k,rfl⟩
   refine Ws @7 ?_ ?_
   ·exact Qi.mpr ⟨_,Qfg (Qde (Ye (args:=[flD z F,d,.lst (ls.map pnD)]) rfl (Qa6 hz.xl (QdW rf h1 hh hw hb)) (fun _=>rfl)) rfl (Qc9 rfl)),Q5.mpr ⟨rfl,rfl⟩⟩
   refine Ws @7 ?_ ?_
   ·exact Qi.mpr ⟨_,Qfg (Qde (Ye (args:=[flD z F,d,.lst ((ls.take k).map pnD++.tup [x,.int m]::(ls.map pnD).drop k)]) rfl (Qa6 hz.xl (QdW rf h1 hh hw hb)) (fun _=>rfl)) rfl (Qc9 rfl)),Q5.mpr ⟨rfl,rfl⟩⟩
   refine Ws @7 ?_ ?_
   ·exact Qi.mpr ⟨_,Qfg (Qde (Ye (args:=[flD z F,rD N,.lst ((ls.take k).map pnD++.tup [x,.int m]::(ls.map pnD).drop k)]) rfl (Qa6 hz.xp (QcR rf rN h1 hh hw (fun x hx=>hl' x (za2 hx)) nx)) (fun _=>rfl)) rfl (Qc9 rfl)),Q5.mpr ⟨rfl,rfl⟩⟩
   have e9:Q7 (mV 5) (Q7 (mV 2) (Q7 (QpF (Q7 (mV 10) Qem)) Qem)) @7=.ok ([flD z F,rD N,.lst [.tup [x,.int m]]],@7):=JH.mp (by simp? only[LS])
   exact Qi.mpr ⟨_,Qfg (Qde (Ye e9 (Qa6 hz.xp (QcR (pre:=[]) (post:=[]) rf rN h1 hh hw (fun _ h=>nomatch h) nx)) (fun _=>rfl)) rfl (Qc9 rfl)),Q5.mpr ⟨rfl,q,_,_,_,_,_,hq,.inr ⟨_,rfl⟩,.inr ⟨_,rfl⟩,.inr ⟨_,rfl⟩,.inr ⟨_,rfl⟩,.inr ⟨_,rfl⟩,rfl⟩⟩
  ·rintro ρ ⟨q,s8,s9,s10,s11,s12,hq,h8,h9,h10,h11,h12,rfl⟩
   exact⟨rfl,q,s8,s9,s10,s11,s12,h8,h9,h10,h11,h12,rfl⟩
 rintro ρ ⟨q,s8,s9,s10,s11,s12,h8,h9,h10,h11,h12,rfl⟩
 refine Ws (LS z h w F N R ls ns q s8 s9 s10 s11 s12 (~~~(tD h w N R))) ?_ ?_
 ·exact Qi.mpr ⟨_,Ye (args:=[flD z F,rD N,.lst (ls.map pnD)]) rfl er (fun q=>nomatch q),Q5.mpr ⟨rfl,rfl⟩⟩
 have f1:=Qfi (QsP (R:=N))
 have f2:=Qfi (QuZ (h:=h) (w:=w) (N:=N) (R:=R))
 simp? only[LS,f1,f2,QC (QmM (z:=z) rf nf rN h1 hh w1 hw @0 hl' sp)]
 have eo:outs [] [s8,s9,s10,s11,s12,some (Sl.frz (tD h w N R))]=some []:=by
  rw[Jh h8,Jh h9,Jh h10,Jh h11,Jh h12];rfl
 exact⟨trivial,_,[],rfl,eo,rfl,rfl⟩)
theorem QsV (hz:Zok z)(ns:List Int):QsB z [script ns]=.ok (.bl true) []:=Jz (QsU hz ns)
end H31
namespace H31
open PySem PySem.Spec L2 TL
theorem Qiv {K:z00}{c:Addr}(a:z51 K (.ref c) "__getattribute__" = some (some (.builtin "BaseException.__getattribute__")))(a2:z51 K (.ref c) "__getattr__" = some none)(b:(zq2 K c).isSome=true)(d:z51 K (.ref c) "__class__" = some (some (.builtin "object.__class__")))(e:zl4 K (.builtin "object.__class__") "__get__" = some (some (.builtin "getset_descriptor.__get__")))(f:zn4 K (.builtin "object.__class__")=some true)(g:ze8 K c (.type "object")=some true)(g2:ze8 K c (.type "BaseException")=some true):JB K c=true:=by
 unfold JB
 rw[a,a2,b,d,e,f,g,g2];rfl
theorem all_mk {l:zj0}{w:World}{K:z00}{h:Heap}{mg:Str->Option Value}{Qh7 VD:Tok}{fa Qq Js Qn Qv Q9 Y0:Addr}(X:K.In h)(G:h.Ns z38 mg)(hfa:mg "law" = some (.ref fa))
  (a1:Nf K "is_whole" "is_whole" (top 10))
  (a2:Nf K "is_listed" "is_listed" (top 11))
  (a3:Nm K Qq "high" "Floor.high" (inClass (top 16) 1))
  (a4:Nm K Qq "wide" "Floor.wide" (inClass (top 16) 2))
  (a5:Nm K Qq "rows" "Floor.rows" (inClass (top 16) 3))
  (a6:Nm K Qq "is_wall" "Floor.is_wall" (inClass (top 16) 8))
  (a7:Nf K "around" "around" (top 17))
  (a8:Nf K "places_of" "places_of" (top 18))
  (a9:Nf K "insert_in_order" "insert_in_order" (top 33))
  (a10:Nf K "number_at" "number_at" (top 34))
  (a11:Nf K "_law_cell" "_law_cell" (top 37))
  (a12:Nf K "_law_rich" "_law_rich" (top 38))
  (a13:Nf K "_law_beside" "_law_beside" (top 47))
  (a14:Nf K "_law_places" "_law_places" (top 48))
  (a15:Nf K "_law_are_rows" "_law_are_rows" (top 49))
  (a16:Nf K "is_pair" "is_pair" (top 12))
  (a17:Nm K Qq "places" "Floor.places" (inClass (top 16) 7))
  (a18:Nf K "is_within" "is_within" (top 19))
  (a19:Nf K "is_sized" "is_sized" (top 21))
  (a20:Nf K "check_numbers" "check_numbers" (top 27))
  (a21:Nf K "lift" "lift" (top 30))
  (a22:Nf K "unlike" "unlike" (top 35))
  (a23:Nf K "_law_purse" "_law_purse" (top 39))
  (a24:Nf K "_law_take" "_law_take" (top 40))
  (a25:Nf K "_law_right" "_law_right" (top 50))
  (a26:Nm K Qq "has" "Floor.has" (inClass (top 16) 9))
  (a27:Nf K "is_rectangle" "is_rectangle" (top 20))
  (a28:Nf K "is_loss" "is_loss" (top 23))
  (a29:Nf K "check_rows" "check_rows" (top 26))
  (a30:Nf K "givers" "givers" (top 31))
  (a31:Nf K "_law_number" "_law_number" (top 41))
  (a32:Nf K "_law_loss" "_law_loss" (top 42))
  (a33:Nf K "_law_size" "_law_size" (top 43))
  (a34:Nf K "_law_spoilt" "_law_spoilt" (top 52))
  (a35:Nf K "_law_no_place" "_law_no_place" (top 53))
  (a36:Nm K Qq "check_place" "Floor.check_place" (inClass (top 16) 10))
  (a37:Nf K "check_losses" "check_losses" (top 22))
  (a38:Nf K "_law_losses" "_law_losses" (top 44))
  (a39:Nf K "_law_numbers" "_law_numbers" (top 45))
  (a40:Nf K "_law_starts" "_law_starts" (top 46))
  (a41:Nm K Qq "__init__" "Floor.__init__" (inClass (top 16) 0))
  (a42:Nm K Qq "loss" "Floor.loss" (inClass (top 16) 4))
  (a43:Nm K Qq "beside" "Floor.beside" (inClass (top 16) 5))
  (a44:Nf K "check_start" "check_start" (top 28))
  (a45:Nf K "give" "give" (top 32))
  (a46:Nf K "spread" "spread" (top 29))
  (a47:Nf K "raised" "raised" (top 25))
  (a48:Nf K "_law_refused" "_law_refused" (top 51))
  (a49:Nf K "law" "law" (top 54))
  (z0:z61 K z38 "ValueError" = some none)
  (z1:z61 K z38 "all" = some none)
  (z2:z61 K z38 "bool" = some none)
  (z3:z61 K z38 "enumerate" = some none)
  (z4:z61 K z38 "int" = some none)
  (z5:z61 K z38 "isinstance" = some none)
  (z6:z61 K z38 "len" = some none)
  (z7:z61 K z38 "list" = some none)
  (z8:z61 K z38 "max" = some none)
  (z9:z61 K z38 "min" = some none)
  (z10:z61 K z38 "range" = some none)
  (z11:z61 K z38 "sorted" = some none)
  (z12:z61 K z38 "tuple" = some none)
  (QdI:z61 K z38 "Floor" = some (some (.ref Qq)))
  (Yx:z61 K z38 "GlowError" = some (some (.ref Js)))
  (Jx:z61 K z38 "NoLights" = some (some (.ref Qn)))
  (Yy:z61 K z38 "NoPlace" = some (some (.ref Qv)))
  (Yj:z61 K z38 "NoStrength" = some (some (.ref Q9)))
  (QbX:z61 K z38 "Walled" = some (some (.ref Y0)))
  (Ys:zd1 K Qn bmV "ValueError.__new__" = true)
  (Qaz:zd1 K Qv bmV "ValueError.__new__" = true)
  (Qiw:zg0 K Qq Str.empty=true) (Qix:zh3 K Qq=true) (Qiy:zl5 K Qq=true) (Qiz:z51 K (.ref Qq) "__setattr__" = some (some (.builtin "object.__setattr__"))) (QiA:zi9 K Qq=true) (QiB:zd9 K (.ref Qq)=true)
  (QF:z51 K (.ref Qq) "losses" = some none)
  (Qh8:z61 K z38 "MOST" = some (some (.int 30 Qh7)))
  (VF:z61 K z38 "WALL_LOSS" = some (some (.int 0 VD)))
  (qp4:zl4 K (.builtin "object.__class__") "__get__" = some (some (.builtin "getset_descriptor.__get__"))) (qp5:zn4 K (.builtin "object.__class__")=some true)
  (Qcc:zf5 K (.ref Qn) (.ref Js)=some true)
  (Qcd:z40 K (.ref Qn) (.type "ValueError")=some true)
  (Qce:z40 K (.ref Qn) (.ref Q9)=some false)
  (Qcf:z40 K (.ref Qn) (.ref Y0)=some false)
  (Qcg:z40 K (.ref Qn) (.ref Qn)=some true)
  (Qch:z40 K (.ref Qn) (.ref Qv)=some false)
  (QdX:z51 K (.ref Qn) "__getattribute__" = some (some (.builtin "BaseException.__getattribute__"))) (QdY:z51 K (.ref Qn) "__getattr__" = some none) (QdZ:(zq2 K Qn).isSome=true) (Qd0:z51 K (.ref Qn) "__class__" = some (some (.builtin "object.__class__"))) (Qd1:ze8 K Qn (.type "object")=some true) (Qd2:ze8 K Qn (.type "BaseException")=some true)
  (QcS:zf5 K (.ref Qv) (.ref Js)=some true)
  (QcT:z40 K (.ref Qv) (.type "ValueError")=some true)
  (QcU:z40 K (.ref Qv) (.ref Q9)=some false)
  (QcV:z40 K (.ref Qv) (.ref Y0)=some false)
  (QcW:z40 K (.ref Qv) (.ref Qn)=some false)
  (QcX:z40 K (.ref Qv) (.ref Qv)=some true)
  (QeE:z51 K (.ref Qv) "__getattribute__" = some (some (.builtin "BaseException.__getattribute__"))) (QeF:z51 K (.ref Qv) "__getattr__" = some none) (QeG:(zq2 K Qv).isSome=true) (QeH:z51 K (.ref Qv) "__class__" = some (some (.builtin "object.__class__"))) (QeI:ze8 K Qv (.type "object")=some true) (QeJ:ze8 K Qv (.type "BaseException")=some true)
  :
  ∃fd:FuncData,(∀(s:Shared) (v:Value),BindsTo s fd ⟨[v],[]⟩ [("_law_script",v)])/\∀base:Heap,K.In base->base.Ns z38 mg->Qeh l.prog w K mg base (CXe l.prog w) 10 fa fd ["_law_script"] (Qk9 K):=by
 let z:Z:=⟨K,Qq,Js,Qn,Qv,Q9,Y0,Qh7,VD⟩
 have con:∀base,Con z ⟨l.prog,w,mg,base⟩:=fun _=>⟨z67 X G z0,z67 X G z1,z67 X G z2,z67 X G z3,z67 X G z4,z67 X G z5,z67 X G z6,z67 X G z7,z67 X G z8,z67 X G z9,z67 X G z10,z67 X G z11,z67 X G z12,za1 X G QdI,za1 X G Yx,za1 X G Jx,za1 X G Yy,za1 X G Yj,za1 X G QbX,Ys,Qaz,za1 X G Qh8,za1 X G VF,⟨Qiw,Qix,Qiy,Qiz⟩,QF,z54⟩
 have hz:Zok z:=⟨⟨Qcc,Qcd,Qce,Qcf,Qcg,Qch,Qiv QdX QdY QdZ Qd0 qp4 qp5 Qd1 Qd2⟩,⟨QcS,QcT,QcU,QcV,QcW,QcX,Qiv QeE QeF QeG QeH qp4 qp5 QeI QeJ⟩⟩
 refine Qsn X G hfa a49 (Qpj z) con (fun base R g=>?_) (fun ns=>QsV hz ns) (fun _ _ _ _ _ _ _ _=>.of_eq rfl)
 let y:Y:=⟨l.prog,w,mg,base⟩
 have c:Con z y:=con base
 have Yt:Qcy z y:=Qae X G c a1 (Qey z) @10 (fun _ g=>g)
 have Q3:VG z y:=Qae X G c a2 (QdJ z) @10 (fun _ g=>g)
 have JK:QaB z y:=QmE c a3 (QaA z) @10 (fun _ g=>g)
 have JL:QaD z y:=QmE c a4 (QaC z) @10 (fun _ g=>g)
 have QnF:Qgp z y:=QmE c a5 (QcH z) @10 (fun _ g=>g)
 have QM:JV z y:=QmE c a6 (Yz z) @8 (fun _ g=>g)
 have Qfo:Qib z y:=Qae X G c a7 (Qh9 z) @10 (fun _ g=>g)
 have J9:Qbz z y:=Qae X G c a8 (Qbx z) @10 (fun _ g=>g)
 have Yd:Vv z y:=Qae X G c a9 (J6 z) @8 (fun _ g=>g)
 have QB:J8 z y:=Qae X G c a10 (QbA z) @8 (fun _ g=>g)
 have QbE:QdL z y:=Qae X G c a11 (VH z) @8 (fun _ g=>g)
 have Yb:QbC z y:=Qae X G c a12 (QbB z) @10 (fun _ g=>g)
 have VP:QbZ z y:=Qae X G c a13 (VL z) (fun _ _ _ _ _ _=>ar3 fun _ _ _=>rfl) (fun _ g=>g)
 have Yo:Qb1 z y:=Qae X G c a14 (VM z) @10 (fun _ g=>g)
 have YG:QaF z y:=Qae X G c a15 (YD z) @8 (fun _ g=>g)
 have Vw:QdM z y:=Qae X G c a16 (Qgq z) @10 (fun _ g=>g Q3)
 have Vb:Qbd z y:=QmE c a17 (Y9 z) @10 (fun _ g=>g J9)
 have JF:QbD z y:=Qae X G c a18 (VN z) @8 (fun _ g=>g Yt)
 have Qa4:Qez z y:=Qae X G c a19 (Qcz z) @10 (fun _ g=>g Q3)
 have YJ:QaH z y:=Qae X G c a20 (JW z) @10 (fun _ g=>g Yt)
 have Qlf:Qnu z y:=Qae X G c a21 (Qic z) (fun _ _ _ _ _ _=>ar3 fun _ _ _=>rfl) (fun _ g=>g QM QB)
 have Qfr:Qif z y:=Qae X G c a22 (Qfm z) @8 (fun _ g=>g J9 QB)
 have QW:Y4 z y:=Qae X G c a23 (QaI z) @8 (fun _ g=>g QbE Yb)
 have Qh:Jd z y:=Qae X G c a24 (QbF z) @8 (fun _ g=>g Yb)
 have QaQ:QcK z y:=Qae X G c a25 (QaJ z) (fun _ _ _ _ _ _=>ar4 fun _ _ _ _=>rfl) (fun _ g=>g VP Yo YG)
 have Yc:QbG z y:=QmE c a26 (YH z) @8 (fun _ g=>g JK JL Vw JF)
 have Ve:Qbf z y:=Qae X G c a27 (Va z) @10 (fun _ g=>g Qa4)
 have QdR:Qgs z y:=Qae X G c a28 (QdN z) @10 (fun _ g=>g JF)
 have QaP:QcL z y:=Qae X G c a29 (Yk z) @8 (fun _ g=>g Q3 JK JL YJ)
 have Qfq:Qih z y:=Qae X G c a30 (Qfn z) @8 (fun _ g=>g QM QB Vb)
 have QX:Yp z y:=Qae X G c a31 (VV z) @10 (fun _ g=>g Qh)
 have QbK:QdO z y:=Qae X G c a32 (QbH z) @10 (fun _ g=>g Qh)
 have V3:QdQ z y:=Qae X G c a33 (QbJ z) @10 (fun _ g=>g Qh)
 have V7:Qb3 z y:=Qae X G c a34 (V1 z) @8 (fun _ g=>g Qh)
 have YL:QaL z y:=Qae X G c a35 (YK z) (fun _ _ _ _ _ _=>ar3 fun _ _ _=>rfl) (fun _ g=>g Qh)
 have Qw:Jg z y:=QmE c a36 (Je z) @8 (fun _ g=>g Yc)
 have Vf:Qbh z y:=Qae X G c a37 (Vc z) @10 (fun _ g=>g QdR)
 have V8:Qb5 z y:=Qae X G c a38 (V2 z) @8 (fun _ g=>g QW QbK V3)
 have Vj:Qbj z y:=Qae X G c a39 (Vd z) (fun _ _ _ _ _ _=>ar3 fun _ _ _=>rfl) (fun _ g=>g QW Qh QX)
 have V9:Qb7 z y:=Qae X G c a40 (V4 z) @8 (fun _ g=>g Qh QX)
 have QaR:QcM z y:=Qww X G c a41 QiA QiB QdI (Ym z) @8 (fun _ g=>g Ve Vf)
 have QaO:QcO z y:=QmE c a42 (QaN z) @8 (fun _ g=>g Qw)
 have Vh:Qbl z y:=QmE c a43 (Vg z) @8 (fun _ g=>g QM Qfo Yc Qw)
 have V5:Qb8 z y:=Qae X G c a44 (Yq z) @8 (fun _ g=>g Vw Qw)
 have Qlg:Qnw z y:=Qae X G c a45 (Qle z) (fun _ _ _ _ _ _=>ar4 fun _ _ _ _=>rfl) (fun _ g=>g Yd QB QaO Vh)
 have Qfs:Qij z y:=Qae X G c a46 (Qfp z) (fun _ _ _ _ _ _=>ar3 fun _ _ _=>rfl) (fun _ g=>g QB Qlf Qfq Qlg)
 have V6:Qft z y:=Qae X G c a47 (Qb9 z) (fun _ _ _ _ _ _=>ar3 fun _ _ _=>rfl) (fun _ g=>g Qfr QaP V5 Qfs)
 have Jk:Qbn z y:=Qae X G c a48 (Vi z) (fun _ _ _ _ _ _=>ar3 fun _ _ _=>rfl) (fun _ g=>g V6)
 exact g QW Qh QaQ QX V7 YL V8 Vj V9 QaR V6 Jk
end H31
namespace PySem.W.Fast
def tw10855501397722465006:=()
def tw11080814947143213375:=()
def tw11242116387106628661:=()
def tw7619691977851939827:=()
def tw4482054890858967080:=()
def tw12409358604141164315:=()
def tw6505853803822347633:=()
def tw7922727503013366985:=()
def tw11813776972780194910:=()
def tw8805133519598763384:=()
def tw12226266975649538772:=()
def tw13636310956038824445:=()
def tw16804387990810758187:=()
def tw14120341138743714880:=()
def tw18261329853932440801:=()
def tw10644188001264195137:=()
def tw2673706327564194880:=()
def tw12097621930504287812:=()
def tw11634645409430740998:=()
def tw17503045530572837749:=()
def tw8081226478194515623:=()
def tw925363302386805911:=()
def tw13516863001881779633:=()
def tw11851798856957223532:=()
def tw81876027943165108:=()
def tw3494572740842469023:=()
def tw6794192460797773957:=()
def tw1502970389664831447:=()
def tw18419200155914205568:=()
def tw16227245371070095252:=()
def tw14830438351251606177:=()
def tw7336492089554327518:=()
def tw15835769620102922417:=()
def tw6014255302493458818:=()
def tw12413503197075821257:=()
def tw10970967432931711087:=()
def tw5010919656214661712:=()
def tw17358322479691115669:=()
def tw784644317704207434:=()
def tw1612639554803455469:=()
def tw561747113113389658:=()
def tw15725049708778151058:=()
def tw11575931493332783378:=()
def tw18241769289997134113:=()
def tw12030989184190312005:=()
def tw10237249665366054720:=()
def tw6176239703432673927:=()
def tw17822365635998857993:=()
def tw16209787579796761506:=()
def tw3279842580466975234:=()
def tw5772537325179711629:=()
def tw18333353561331912887:=()
def tw4421057342683030015:=()
def tw6099036104322190790:=()
def tw13914688352016945822:=()
def tw2100743216027635956:=()
def tw4309116003781307982:=()
def tw2819304873399337455:=()
def tw7997556417349410062:=()
def tw16177328308866843287:=()
def tw8080830972612896516:=()
def tw5845083957672131447:=()
def tw14678186491318086024:=()
def tw15127871127836249276:=()
def tw4021818593696140519:=()
def tw2703545895280991824:=()
def tw2348951230508522682:=()
def tw9225290492469011883:=()
def tw15743325489653437248:=()
def tw12346026848324835046:=()
def tw6095431250089724201:=()
def tw8540186055406410342:=()
def tw16925788580987441887:=()
def tw9101958452111645214:=()
def tw9397236928348819499:=()
def tw13724377109510781775:=()
def tw9837744858584128408:=()
def tw16369796216086288625:=()
def tw16075409040735000046:=()
def tw10794638558941809062:=()
def tw5541741722756966713:=()
def tw3287097318663088448:=()
def tw5859335480458772993:=()
def tw2586461579782704854:=()
def tw8878427192737064138:=()
def tw1603464657591080534:=()
def tw7248517521372652330:=()
def tw1458639804637546651:=()
def tw11594206343236041686:=()
def tw17673170047899923958:=()
def tw1718975120798995116:=()
def tw12749275522096474523:=()
def tw12930593367194440129:=()
def tw10809783109620202517:=()
def tw11849390979344924151:=()
def tw12542276466581445956:=()
def tw7737961919917966906:=()
def tw18022134350455645021:=()
def tw14510895606309233830:=()
def tw1902014120850651633:=()
def tw5360331576902820313:=()
def tw17248474655557379739:=()
def tw6510467577767100716:=()
def tw13394195879731871828:=()
def tw6006963481817287353:=()
def tw12716655451979471799:=()
def tw4692755251960795398:=()
def tw7299043492500611264:=()
def tw8079808514766546734:=()
def tw13133316648248719149:=()
def tw15005988344300213135:=()
def tw7526306671008958626:=()
def tw8560012436763121839:=()
def tw9947382108118661747:=()
def tw5822914302343758385:=()
def tw9996482657143622124:=()
def tw128235354336521804:=()
def tw7477858453546901814:=()
def tw11213889662411029807:=()
def tw14808837736713533236:=()
def tw150724454402359890:=()
def tw542612826233581215:=()
def tw2140128355127763924:=()
def tw7594468062610777177:=()
def tw3809799777419840008:=()
def tw13080856453358625142:=()
def tw9925181824467937090:=()
def tw16750765977167422174:=()
def tw9747832876887556645:=()
def tw2339262689688700946:=()
def tw9844039102682899386:=()
def tw10502543447777521461:=()
def tw2428900953820013123:=()
def tw4276674558761103502:=()
def tw14646551993577739420:=()
def tw13305407120613826282:=()
def tw520602409516392557:=()
def tw6134721687331395247:=()
def tw10592357301495857387:=()
def tw16341491046966637516:=()
def tw16748065342148928247:=()
def tw11112363579400190082:=()
def tw8385736200966985116:=()
def tw16913384519290129203:=()
def tw15254462074560375943:=()
def tw16120395989787272838:=()
def tw2416679129890058115:=()
def tw5677508065092890978:=()
def tw17484708247728870268:=()
def tw14151737047355759568:=()
def tw9549493527239902776:=()
def tw6796672661467588511:=()
def tw13909099717434851462:=()
def tw12008123421846383862:=()
def tw16555651456293959563:=()
def tw17947993592300408046:=()
def tw1245592442756657253:=()
def tw9160356802473235883:=()
def tw10897530502891791239:=()
def tw11823285028805262746:=()
def tw13143703870908566674:=()
def tw12745600705626297762:=()
def tw6746777830119920223:=()
def tw9133725778455617768:=()
def tw10730498951725959608:=()
def tw10630158752916004745:=()
def tw16081185182610376894:=()
def tw5402725855302176958:=()
def tw16496307237720814014:=()
def tw13710911254092595858:=()
def tw10303384899602889257:=()
def tw3686338322362640919:=()
def tw3335762662571882903:=()
def tw3148740237608212547:=()
def tw9691556414971430801:=()
def tw2910734391143588423:=()
def tw10198995033269052643:=()
def tw13224685728660849369:=()
def tw15697510260764730240:=()
def tw9356125003915212466:=()
def tw17301729210463749449:=()
def tw6962677197587644014:=()
def tw15329372306469097842:=()
def tw2884415271267035698:=()
def tw1924910769539254968:=()
def tw10795107806039034839:=()
def tw9166877506113982066:=()
def tw17145659621940625847:=()
def tw4219617524910075442:=()
def tw7904716504362047295:=()
def tw10474939174465473172:=()
def tw12381443609069588467:=()
def tw1285925146043107539:=()
def tw6172277691908311781:=()
def tw1719221493163970078:=()
def tw12179893628150339266:=()
def tw16453249405493047665:=()
def tw9516745296103777391:=()
def tw16646496360746276210:=()
def tw7443228551634402941:=()
def tw7025806131933102096:=()
def tw11750433170640096796:=()
def tw9750408940414479345:=()
def tw18214562845145111753:=()
def tw2018736652302363069:=()
def tw886591677921683064:=()
def tw9403399497506317337:=()
def tw13205840503742183538:=()
def tw6085437847707839984:=()
def tw3083695203567702426:=()
def tw10062708121412799115:=()
def tw847624799982130826:=()
def tw14003340883211697046:=()
def tw15150215069110619307:=()
def tw4595422206529960224:=()
def tw6467732612580835122:=()
def tw14941633995621000176:=()
def tw17050641305292798081:=()
def tw2913854209161978955:=()
def tw3594649680681860683:=()
def tw17767072127173600954:=()
def tw9227944759786774728:=()
def tw5600100058224464733:=()
def tw12790881660351882407:=()
def tw5800421436602111876:=()
def tw13608395409757407307:=()
def tw17311250410053908921:=()
def tw1108294350940867918:=()
def tw7514201079022078129:=()
def tw17033021915575833995:=()
def tw15841775791300190192:=()
def tw6215723484308380063:=()
def tw17055767902885673897:=()
def tw3584162665240600085:=()
def tw7529576790747754088:=()
def tw6526397311766288335:=()
def tw14986131569300557397:=()
def tw14785082293623176727:=()
def tw1173973620067474117:=()
def tw7324913195341616006:=()
def tw6591344242602370865:=()
def tw12044622182014653314:=()
def tw7422610068245985068:=()
def tw7660334635661314071:=()
def tw5331882884528164866:=()
def tw988782051906007601:=()
def tw11338660425001955716:=()
def tw17448061678026728534:=()
def tw4551828555620495277:=()
def tw2357747668015752772:=()
def tw13717786382021771982:=()
def tw3203977084774214348:=()
def tw16083021699032645353:=()
def tw5491944713707635518:=()
def tw11280809111410330237:=()
def tw17694328970249503287:=()
def tw2458147996229373351:=()
def tw13157788917931457579:=()
def tw18375550228605838920:=()
def tw1198964546927887260:=()
def tw495095051886031239:=()
def tw5689311287703993225:=()
def tw8063398875843316309:=()
def tw16051038562987227552:=()
def tw3703709599887395051:=()
def tw8132996775730498276:=()
def tw17465269466544872124:=()
def tw1143849698434479286:=()
def tw6877881748508816154:=()
def tw6494777811034469330:=()
def tw9888101227202968674:=()
def tw7618173776956178768:=()
def tw17148112785771911926:=()
def tw7352831689907588861:=()
def tw7792779315771939255:=()
def tw7324303805908234470:=()
def tw4814868870945061217:=()
def tw10565500137369209406:=()
def tw3696115558305450813:=()
def tw6761110687157125199:=()
def tw10945542993382943692:=()
def tw1528364432411689127:=()
def tw2650887013985871432:=()
def tw7409975715441647384:=()
def tw11570083727499979406:=()
def tw11856202209481882207:=()
def tw12687563715601603420:=()
def tw17271417092449145673:=()
def tw16762321770589647674:=()
def tw7179076722423364245:=()
def tw1049383533388089259:=()
def tw4661509416566759749:=()
def tw11728408574109393109:=()
def tw5323772079946750593:=()
def tw15187112279470458956:=()
def tw8747969080433447346:=()
def tw17385428147653694746:=()
def tw13465911993569797623:=()
def tw4263992572784374224:=()
def tw4189757449206392354:=()
def tw138510758544239447:=()
def tw4423108229646407692:=()
def tw10131008275920732567:=()
def tw6491726393725882597:=()
def tw8749706361520339639:=()
def tw4185851351679819363:=()
def tw3468397822461032535:=()
def tw9075549553952706751:=()
def tw12847413462479306155:=()
def tw1471524901101213418:=()
def tw5783812921566085228:=()
def tw1282041752904836923:=()
def tw15125220699246261818:=()
def tw12055278030158797870:=()
end PySem.W.Fast
open PySem PySem.W PyProof.Rows
set_option maxRecDepth 100000 in
set_option maxHeartbeats 0 in
theorem PySem.Challenge.cw_glowcells_k31_rows_and_places_refused_holds : PySem.Challenge.rw_glowcells_k31_rows_and_places_refused.Holds := by
 w_on;o_law;k_head;(case hw=>w_witness2)
 k_fill
 refine TL.walk (l:=PySem.Challenge.rw_glowcells_k31_rows_and_places_refused) (k:=10) ⟨rfl,by decide,by decide,rfl⟩ rfl rfl (fun w h Y=>PySem.W.kIn_of Y) ?F
 case F=>
  intro w mg fa h KX GG hmg
  refine' _root_.H31.all_mk KX GG hmg ?a1 ?a2 ?a3 ?a4 ?a5 ?a6 ?a7 ?a8 ?a9 ?a10 ?a11 ?a12 ?a13 ?a14 ?a15 ?a16 ?a17 ?a18 ?a19 ?a20 ?a21 ?a22 ?a23 ?a24 ?a25 ?a26 ?a27 ?a28 ?a29 ?a30 ?a31 ?a32 ?a33 ?a34 ?a35 ?a36 ?a37 ?a38 ?a39 ?a40 ?a41 ?a42 ?a43 ?a44 ?a45 ?a46 ?a47 ?a48 ?a49 ?z0 ?z1 ?z2 ?z3 ?z4 ?z5 ?z6 ?z7 ?z8 ?z9 ?z10 ?z11 ?z12 ?QdI ?Yx ?Jx ?Yy ?Yj ?QbX ?Ys ?Qaz ?Qiw ?Qix ?Qiy ?Qiz ?QiA ?QiB ?QF ?Qh8 ?VF ?qp4 ?qp5 ?Qcc ?Qcd ?Qce ?Qcf ?Qcg ?Qch ?QdX ?QdY ?QdZ ?Qd0 ?Qd1 ?Qd2 ?QcS ?QcT ?QcU ?QcV ?QcW ?QcX ?QeE ?QeF ?QeG ?QeH ?QeI ?QeJ
  (case QdI=>k_is)
  (case Yx=>k_is)
  (case Jx=>k_is)
  (case Yy=>k_is)
  (case Yj=>k_is)
  (case QbX=>k_is)
  all_goals try k_is
  all_goals try dsimp only[L2.bmV];k_exc
  all_goals try exact⟨_,_,by k_is,L2.QmW (by k_is) (by k_is) (by k_is)⟩
  all_goals try exact⟨_,_,by k_is,by k_is,L2.QmW (by k_is) (by k_is) (by k_is)⟩
  all_goals try kit_is
  all_goals try kts_exm
  all_goals try with_unfolding_all rfl
