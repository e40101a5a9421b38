import PyProof.Rows.All
import Wide.All
import OpenK.AllK
import Wide.FinOn
import Lean
import PyProof.EqAt
import PyProof.EqKinds
import PyProof.TupleCall
import PyProof.NeKinds
import KE.KTryMore
import PyProof.ExcBaseAll.ValueError
import OpenK.KOwn
import PyProof.ConsumeWalk
import KE.KIntText
import PyProof.EnumFor
import PyProof.EnumMake
import PyProof.StrWalks
import KE.KRevSl
import PyProof.ReprRoads
import PyProof.ReprBulk
import PyProof.Draws
import PyProof.TupleIter
import PyProof.WalksMore
import KE.KIsAll
import PyProof.RulesAs
import PyProof.NsDelKeeps
import PyProof.Rows.SetFrom
import PyProof.SetRoads
import PyProof.ListRange
import KE.KItemsList
import KE.KSortTup
import PyProof.Rows.MinMaxN
import PyProof.WalkInts
import PyProof.Rows.ListMulArg
import PyProof.Rows.SumAny
import PyProof.MaxThree
import PyProof.AttrMissHeap
import KE.KDictOf
import KE.KRevIter
import PyProof.CollectIter
import PySem.Challenge.RW_glowcells_k35_two_floors
open List renaming length_map→z00,mem_append_right→z02,getElem?_eq_getElem→z04,mem_append→z05,mem_append_left→z06,mem_cons_self→z07,mem_cons_of_mem→z08,nodup_append→z09,getD_eq_getElem?_getD→z12,mem_cons→z13,size_toArray→z14,length_append→z16,getElem?_map→z18,append_assoc→z20,length_cons→z24,mem_singleton→z25,getElem?_eq_some_iff→z26,map_cons→z31,pairwise_append→z35,mem_of_getElem?→z37,mem_map→z40,getElem?_append_right→z46,take_append_drop→z47,getElem?_toArray→z48,length_take→z49,append_nil→z53,length_range→z55,map_map→z60,getElem?_append_left→z61,mem_filter→z63,range→z64,getElem?_set_ne→z65,map_append→z68,extract_eq_drop_take→z69,nodup_cons→z72,lookup_cons→z73,all_eq_true→z74,pairwise_cons→z77,perm_iff_count→z79,filter_cons→z80,take_of_length_le→z84,length_drop→z85,map_congr_left→z86,count_append→z87,zip_cons_cons→z89,mem_of_mem_take→z90,getElem_mem→z91,getElem?_set_self→z96,drop_eq_getElem_cons→z97,replicate→za1,mem_range→za2,length_reverse→za5,getElem_of_mem→za6,zipWith_cons_cons→za7,length_filter_le→za9,pairwise_iff_getElem→zb1,length_set→zb7,getElem?_take_of_lt→zb8,zipWith→zb9,flatten_append→zc0,filterMap_cons→zc1,mem_reverse→zc4,perm_append_comm→zc7,reverse_perm→zc9,flatten_cons→zd0,mem_of_mem_drop→zd2,lookup→zd6,length→zd7,map_id''→ze1,length_zipIdx→ze2,foldl_cons→ze3,find?_cons→ze4,any_cons→ze5,drop_of_length_le→zf0,take_add_one→zf2,nodup_nil→zf8,take_length→zg0,getElem_inj→zg1,ext_getElem→zg2,map→zg3,filter_map→zg5,count_cons→zg6,all_map→zh2,take_zero→zh3,mem_or_eq_of_mem_set→zh4,take_sublist→zh8,ext_getElem?→zh9,getElem?_cons_succ→zi5,all_cons→zi6,getElem?_zipIdx→zj9,drop_zero→zk3,reverse_append→zk5,mem_filterMap→zl4,map_take→zl5,getElem_range→zl6,take_succ_eq_append_getElem→zl8,getElem_drop→zm1,drop_sublist→zm2,map_set→zm9,map_nil→zn0,take_append_of_le_length→zn3,eq_nil_of_length_eq_zero→zn4,drop_length→zn5,of_mem_zip→zo4,nil_append→zo5,length_nil→zo6,take_take→zp9,toArray→zr7,set_append_right→zr8,pairwise_reverse→zr9,length_singleton→zs0,dropLast_eq_take→zs1,reverse_reverse→zt0,map_eq_cons_iff→zt1,replicate_succ→zt3,range'→zt4,filter_eq_self→zt5,filter_append→zu2,reverse_cons→zv3,pairwise_map→zv4,getElem_take→zv5,getElem?_set→zv6
open PySem.W renaming Frag→z01,nsIn→z23,mg_of→z29,findIn→z50,mg_none_of→z70,isFn→z88,emptyDict→z94,instObj→zb3,keepIn→ze8,fnOf→ze9,plainGet→zf6,hasDictIn→zh1,lookIn→zj1,plainGet_of→zj4,hideAll_get→zj5,callWith_K→zk1,plainOver→zk7,methodObj→zk8,kitx_list→zk9,takerIn→zm5,makesIn→zm6,OpenLaw→zm7,codeIn→zn9,cellsFrom_some→zp7,methodCall_KW→zq3,hideAll_none→zq6,of_hideAll→zr5,kitx_tuple→zr6,kitx_dict→zs6,handedIn→zt2,hideAll→zu1,kitOne→zu7,kitAny→zu8
open Option renaming map_eq_some_iff→z03,bind_eq_some_iff→z28,getD_some→z98,bind_some→zf9,getD_none→zi1,map_some→zv0
open PySem renaming sizeLine→z15,wpAny_bind→z19,mainGlobals→z21,sizeLine_eq→z36,boot_len→z41,wpAny_pure→z51,bootBuiltins→z71,mem_of_lookup→za4,wpAny_truthy_bool→za8,wpAny_mono→zb5,wpAny_passesOwn→zd3,wpAny_loadPart'→zf3,wpAny_holding→zf4,wpAny_Call_Name_kw→zf5,wpAny_call_entry→zg8,wpAny_pyIter_tuple→zi4,wpAny_pyIter_enum→zi9,wpAny_callSpecial?_slot→zj2,wpAny_execs_nil→zk6,Builtin→zl0,wpAny_field→zm4,wpAny_newList→zn7,wpAny_newObj_type→zo9,codeAny_mono→zp6,ofString_length→zr0,Within→zr1,wpAny_letOwnedTupleGo_enum→zr4,wpAny_standAt→zt8,call→zu0
open PySem.Heap renaming get?_push_of_some→z17,lt_size→z34,get?_push_size→z45,SameBut→ze0,get?_push_ne→zi0,get?_none_of_le→zk0,size_push→zk4,get?_update_other→zr2,get?_update_self→zs2,get?_update_ne→zt6
open Option.some renaming inj→z22
open Nat renaming le_refl→z27,lt_of_lt_of_le→z39,ne_of_lt→z52,le_trans→z62,zero_add→z92,add_sub_cancel_left→za0,zero_le→zb4,lt_irrefl→zc3,mul_le_mul→zc6,le_succ→zf7,sub_self→zj7,min_eq_left→zj8,lt_succ_of_lt→zm8,ne_of_gt→zn2,lt_succ_self→zo1,le_of_lt→zs8,le_of_eq→zs9,add_sub_cancel→zv2
open Or renaming inl→z30,inr→z59
open Bool renaming false_ne_true→z32,and_eq_true_iff→z66,and_eq_true→z99,false_eq_true→ze7,eq_iff_iff→zg7,eq_false_iff→zm3,and_true→zq7,or_eq_true_iff→zt7
open Array renaming getD_eq_getD_getElem?→z33,getElem?_toList→z43,toList_push→z54,toList_append→z57,size_push→z67,getElem?_eq_getElem→z75,length_toList→z78,toList_extract→z83,size_append→zc8,toList_reverse→zd1,toList_inj→zn1,toList_setIfInBounds→zo8,toList→zr3
open PySem.Value renaming none→z38,ref→z44,int→z76,bool→zl7,str→zn8,float→zs5
open PySem.NameKind renaming free→z42,cell→z95
open PySem.Obj renaming mapSeq→z56,data_mapFields→zv1
open True renaming intro→z58
open PySem.SeqAt.EqAt renaming int_int→z81,same→zh6,of_refs→zj0,str_int→zq1,int_str→zq2
open Int renaming toNat_natCast→z82,le_trans→z93,toNat_zero→za3,lt_of_lt_of_le→zb0,le_refl→zd9,emod_lt_of_pos→zl9,zero_add→zn6,le_antisymm→zp3,emod_nonneg→zp4,toNat_of_nonneg→zu4
open PySem.Heap.SameBut renaming update→zb2
open False renaming elim→zb6
open PySem.Builtin.SmallTypes renaming nextOf→zc2
open List.Perm renaming append_left→zc5,refl→ze6,trans→zi2
open Ne renaming symm→zd4
open PySem.F renaming slot_tuple_iterator_next→zd5,plainAttrs_list→zd8,slot_dict_get→zi7,args_dict_get_3→zp2,entry_dict_get→zp8,args_tuple_iterator_next_1→zq0,entry_tuple_iterator_next→zq4,slot_enumerate_next→zu5
open PyProof.Rows renaming callWith_type1→zf1,envOfC→zo3
open PySem.Builtin.List renaming listTooLong→zg4
open Std.Legacy.Range renaming forIn_eq_forIn_range'→zg9,size→zl3
open Std.Legacy renaming Range→zh0
open PySem.SeqAt renaming EqAt→zh5,RcNeAt→zq9,RcAt→zt9
open PySem.Paired renaming length→zh7
open ForInStep renaming yield→zi3
open PySem.Calls renaming callWith_builtin→zi8,spliced_cons→zl2,Name_function_global→zo7,call_function_entry→zp5,evalArgs_plain→zs4,spliced_nil→zu6
open PySem.Str renaming ofString→zj3
open Prod.mk renaming inj→zj6,injEq→zk2
open Nat.succ renaming inj→zl1
open PySem.Around renaming under→zm0
open Prod renaming ext→zo0
open PySem.Spec renaming log2_small→zo2
open Sum renaming inr→zp0,inl→zp1
open PySem.SeqAt.RcAt renaming tuples→zq5
open Sum.inl renaming inj→zq8
open PySem.Code renaming isFrame→zs3
open PySem.PyData renaming leavesShort→zs7,showable→zu9
open List.cons renaming inj→zu3
set_option Elab.async false
set_option linter.all false
set_option maxRecDepth 100000
namespace L2
open PySem PySem.Spec PyProof.Rows
abbrev Key:=Sum Int Str
def Qh4:Key->Value->Bool
 |.inl k,v=>Value.isInt k v
 |.inr x,v=>Value.isStrOf x v
def Qud (w:World):Key->Int
 |.inl k=>hashInt k
 |.inr x=>hashStr w x
theorem Jj:∀{k:Key} {v:Value},Qh4 k v=true->(∃i t,k=zp1 i/\v=z76 i t)\/(∃x t,k=zp0 x/\v=zn8 x t)
 |.inl i,v,h=>by
  obtain⟨t,e⟩:=Value.isInt_shape (k:=i) (v:=v) h
  exact .inl ⟨i,t,rfl,e⟩
 |.inr x,v,h=>by
  obtain⟨t,e⟩:=Value.isStrOf_shape (x:=x) (v:=v) h
  exact .inr ⟨x,t,rfl,e⟩
theorem QiR (i:Int)(t:Tok):Qh4 (.inl i) (.int i t)=true:=by simp[Qh4,Value.isInt]
theorem QiS (x:Str)(t:Tok):Qh4 (.inr x) (.str x t)=true:=by simp[Qh4,Value.isStrOf]
theorem QoU (a b:Int):decide ((zp1 a:Key)=zp1 b)=(a == b):=by
 by_cases e:a=b
 ·subst e;simp
 ·have h:¬ (zp1 a:Key)=zp1 b:=fun q=>e (zq8 q)
  rw[decide_eq_false h]
  exact(beq_eq_false_iff_ne.mpr e).symm
theorem QoV (a b:Str):decide ((zp0 a:Key)=zp0 b)=decide (a=b):=by
 by_cases e:a=b
 ·subst e;simp
 ·have h:¬ (zp0 a:Key)=zp0 b:=fun q=>e (Sum.inr.inj q)
  rw[decide_eq_false h,decide_eq_false e]
theorem QoW (a:Int)(b:Str):decide ((zp1 a:Key)=zp0 b)=false:=decide_eq_false (fun q=>nomatch q)
theorem QoX (a:Str)(b:Int):decide ((zp0 a:Key)=zp1 b)=false:=decide_eq_false (fun q=>nomatch q)
def JU (prog:Program)(w:World):PySem.KeyKind prog w Key where
 is:=Qh4
 hash:=Qud w
 inj:=fun v a b ha hb=>by
  rcases Jj ha with⟨i,t,rfl,rfl⟩|⟨x,t,rfl,rfl⟩
  ·rcases Jj hb with⟨j,u,rfl,e⟩|⟨y,u,rfl,e⟩
   ·injection e with e1 _;rw[e1]
   ·exact nomatch e
  ·rcases Jj hb with⟨j,u,rfl,e⟩|⟨y,u,rfl,e⟩
   ·exact nomatch e
   ·injection e with e1 _;rw[e1]
 byValue:=fun k v h=>by
  rcases Jj h with⟨i,t,rfl,rfl⟩|⟨x,t,rfl,rfl⟩<;>rfl
 pyHash:=fun hv h=>by
  rcases Jj hv with⟨i,t,rfl,rfl⟩|⟨x,t,rfl,rfl⟩
  ·exact wpAny_pyHash_int h
  ·exact wpAny_pyHash_str h
 eqBool:=fun hu hv h=>by
  rcases Jj hu with⟨i,t,rfl,rfl⟩|⟨x,t,rfl,rfl⟩
  ·rcases Jj hv with⟨j,u,rfl,rfl⟩|⟨y,u,rfl,rfl⟩
   ·rw[QoU] at h;exact wpAny_eqBool_int h
   ·rw[QoW] at h;exact zq2 i t y u _ _ _ _ h
  ·rcases Jj hv with⟨j,u,rfl,rfl⟩|⟨y,u,rfl,rfl⟩
   ·rw[QoX] at h;exact zq1 x t j u _ _ _ _ h
   ·rw[QoV] at h;exact wpAny_eqBool_str h
 «strs» := fun k x t v h=>by
  rcases Jj h with⟨i,u,rfl,e⟩|⟨y,u,rfl,e⟩
  ·exact nomatch e
  ·injection e with e1 _
   subst e1
   cases v<;>rfl
theorem Qgq (prog:Program)(w:World)(i:Int)(t:Tok):(JU prog w).is (.inl i) (.int i t)=true:=QiR i t
theorem Qgr (prog:Program)(w:World)(x:Str)(t:Tok):(JU prog w).is (.inr x) (.str x t)=true:=QiS x t
inductive V where
 |non|bl (b:Bool)|int (i:Int)|str (x:Str)|byt (b:Array UInt8)|flt (b:UInt64)|ref (a:Addr)|ty (n:String)
 deriving DecidableEq
def RelV:V->Value->Prop
 |.non,u=>u=z38
 |.bl b,u=>u=zl7 b
 |.int i,u=>∃t,u=z76 i t
 |.str x,u=>∃t,u=zn8 x t
 |.byt b,u=>∃t,u=Value.bytes b t
 |.flt b,u=>∃t,u=zs5 b t
 |.ref a,u=>u=z44 a
 |.ty n,u=>u=Value.type n
abbrev Vals:List V->List Value->Prop:=Paired RelV
theorem Vals.length {xs:List V}{us:List Value}(r:Vals xs us):xs.length=us.length:=zh7 r
theorem Vals.get:∀{xs:List V} {us:List Value} {i:Nat} {x:V},Vals xs us->xs[i]? = some x->∃u,us[i]? = some u/\RelV x u
 |_,_,_,_,.nil,e=>by simp at e
 |_,_,0,_,.cons r _,e=>by simp at e;subst e;exact⟨_,rfl,r⟩
 |_,_,i+1,x,.cons _ t,e=>by
  obtain⟨u,h1,h2⟩:=Vals.get (i:=i) (x:=x) t (by simpa using e)
  exact⟨u,by simpa using h1,h2⟩
theorem Vals.set {x:V}{u:Value}(r:RelV x u):∀{xs:List V} {us:List Value} (i:Nat),Vals xs us->Vals (xs.set i x) (us.set i u)
 |_,_,_,.nil=>.nil
 |_,_,0,.cons _ t=>.cons r t
 |_,_,i+1,.cons q t=>.cons q (Vals.set r i t)
theorem Vals.append:∀{xs ys:List V} {us ws:List Value},Vals xs us->Vals ys ws->Vals (xs++ys) (us++ws)
 |_,_,_,_,.nil,s=>s
 |_,_,_,_,.cons r t,s=>.cons r (Vals.append t s)
theorem Vals.take:∀{xs:List V} {us:List Value} (n:Nat),Vals xs us->Vals (xs.take n) (us.take n)
 |_,_,0,_=>.nil
 |_,_,_+1,.nil=>.nil
 |_,_,n+1,.cons r t=>.cons r (Vals.take n t)
theorem Vals.drop:∀{xs:List V} {us:List Value} (n:Nat),Vals xs us->Vals (xs.drop n) (us.drop n)
 |_,_,0,r=>r
 |_,_,_+1,.nil=>.nil
 |_,_,n+1,.cons _ t=>Vals.drop n t
def Qgn:Option V->Option Value->Prop
 |some v,some u=>RelV v u
 |none,none=>True
 |_,_=>False
def KV {κ:Type}:List (κ×V)->List (κ×Value)->Prop:=Paired fun(p:κ×V) (q:κ×Value)=>p.1=q.1/\RelV p.2 q.2
def kV:Key->V
 |.inl i=>.int i
 |.inr x=>.str x
inductive HO where
 |lst (xs:List V)
 |tup (xs:List V)
 |dK (kvs:List (Key×V))|dT (kvs:List (List Key×V))
 |set (S:Int->Bool) (n:Nat)
 |ins (C dx:Addr) (fs:List (Str×V))
 |own (x:Addr)
 |xd (fs:List (Str×V))
 |met (f x:Addr)
 |rng (lo hi:Int)
 |frz (o:Obj) (u:HO)
 |tbl (ps:Array Value)
 |ext (φ:Heap->Prop)
abbrev Hp:=Addr->Option HO
def upd (H:Hp)(a:Addr)(o:HO):Hp:=fun b=>if b=a then some o else H b
theorem Qy {H:Hp}{a:Addr}{o:HO}:upd H a o a=some o:=by unfold upd;rw[if_pos rfl]
theorem Qp {H:Hp}{a b:Addr}{o:HO}(h:b≠a):upd H a o b=H b:=by unfold upd;rw[if_neg h]
theorem Qr6 {H:Hp}{a b:Addr}{o u:HO}(h:H a=some o)(h':H b=some u)(d:o≠u):a≠b:=by
 intro e;subst e;rw[h] at h';exact d (z22 h')
theorem QL {H:Hp}{a b:Addr}{o:HO}(h:H a=some o)(h':H b=none):a≠b:=by
 intro e;subst e;rw[h] at h';cases h'
section
variable (P:Program)(w:World)
def Yc (H:Hp)(h:Heap)(a:Addr):HO->Prop
 |.lst xs=>xs.length<=z15/\∃(its:List Value) (n:Nat),Vals xs its/\h.get? a=some { cls:=.type "list",data:=.seq its.toArray n }
 |.tup xs=>xs.length<=z15/\∃its:List Value,Vals xs its/\IsTup h a its.toArray
 |.dK kvs=>kvs.length<=z15/\(a == sysModules)=false/\∃vs,KV kvs vs/\h.DictOf (JU P w) a vs
 |.dT kvs=>kvs.length<=z15/\(a == sysModules)=false/\∃xs:List (List Key×Addr×Value),
   Paired (fun(p:List Key×V) (q:List Key×Addr×Value)=>p.1=q.1/\H q.2.1=some (.tup (p.1.map kV))/\RelV p.2 q.2.2) kvs xs/\
   ∃o es ep,h.get? a=some o/\o.ExactDict/\o.data=.dict es ep/\es.toList=xs.map (entryOfKey (tupleKind (JU P w)))/\(xs.map (·.1)).Nodup
 |.set S n=>h.SetOf (intKind P w) a S n
 |.ins C dx fs=>H dx=some (.own a)/\fs.length<=1000/\dx≠a/\h.get? a=some (zb3 C dx)/\
   ∃mA,h.Ns1 dx mA/\(∀f,Qgn (fs.lookup f) (mA f))/\zr1 mA (fs.map (·.1))
 |.own _=>∃o,h.get? a=some o
 |.xd fs=>∃mA,h.Ns1 a mA/\∀f,Qgn (fs.lookup f) (mA f)
 |.rng lo hi=>∃t u v,h.get? a=some { cls:=.type "range",data:=.fields #[.int lo t,.int hi u,.int 1 v]}
 |.frz o u=>h.get? a=some o/\Yc H h a u
 |.tbl ps=>h.get? a=some { cls:=.none,data:=.fields ps }
 |.met f x=>h.get? a=some (zk8 (.ref f) (.ref x))
 |.ext φ=>φ h/\(∃o,h.get? a=some o)/\∀h1 h2:Heap,φ h1->(∀o,h1.get? a=some o->h2.get? a=some o)->φ h2
def HOk (H:Hp)(h:Heap):Prop:=∀a o,H a=some o->Yc P w H h a o
end
section
variable {P:Program}{w:World}{H H':Hp}{h h':Heap}{a:Addr}{o:HO}
theorem Yc.lt (x:Yc P w H h a o):a<h.objs.size:=by
 cases o with
 |lst xs=>obtain⟨_,_,_,_,e⟩:=x;exact z34 e
 |tup xs=>obtain⟨_,_,_,p⟩:=x;exact p.lt
 |dK kvs=>obtain⟨_,_,_,_,o,_,_,e,_⟩:=x;exact z34 e
 |dT kvs=>obtain⟨_,_,_,_,o,_,_,e,_⟩:=x;exact z34 e
 |set S n=>obtain⟨o,_,_,_,e,_⟩:=x;exact z34 e
 |ins C dx fs=>obtain⟨_,_,_,e,_⟩:=x;exact z34 e
 |own y=>obtain⟨_,e⟩:=x;exact z34 e
 |xd fs=>obtain⟨_,⟨_,_,_,e,_⟩,_⟩:=x;exact z34 e
 |rng lo hi=>obtain⟨_,_,_,e⟩:=x;exact z34 e
 |frz ob u=>obtain⟨e,_⟩:=x;exact z34 e
 |tbl ps=>exact z34 (show h.get? a=some _ from x)
 |met f y=>exact z34 (show h.get? a=some _ from x)
 |ext φ=>obtain⟨_,⟨_,e⟩,_⟩:=x;exact z34 e
theorem Paired.QrO {α β:Type}{F G:α->β->Prop}:∀{l₁:List α} {l₂:List β},Paired F l₁ l₂->(∀a b,F a b->G a b)->Paired G l₁ l₂
 |_,_,.nil,_=>.nil
 |_,_,.cons r t,f=>.cons (f _ _ r) (Paired.QrO t f)
theorem Paired.imp' {α β:Type}{F G:α->β->Prop}(f:∀a b,F a b->G a b){l₁:List α}{l₂:List β}(r:Paired F l₁ l₂):Paired G l₁ l₂:=Paired.QrO r f
theorem Yc.stay (x:Yc P w H h a o)(k:∀b u,(b=a\/H b=some (.own a))->h.get? b=some u->h'.get? b=some u)
  (ho:∀b,H b=some (.own a)->H' b=some (.own a)) (ht:∀b xs,H b=some (.tup xs)->H' b=some (.tup xs)):Yc P w H' h' a o:=by
 induction o with
 |lst xs=>obtain⟨z,its,n,r,e⟩:=x;exact⟨z,its,n,r,k _ _ (.inl rfl) e⟩
 |tup xs=>obtain⟨z,its,r,ob,e,c⟩:=x;exact⟨z,its,r,ob,k _ _ (.inl rfl) e,c⟩
 |dK kvs=>obtain⟨z,y,vs,r,ob,es,ep,e,c⟩:=x;exact⟨z,y,vs,r,ob,es,ep,k _ _ (.inl rfl) e,c⟩
 |dT kvs=>
  obtain⟨z,y,xs,r,ob,es,ep,e,c⟩:=x
  exact⟨z,y,xs,Paired.QrO r fun p q z=>⟨z.1,ht _ _ z.2.1,z.2.2⟩,ob,es,ep,k _ _ (.inl rfl) e,c⟩
 |set S n=>obtain⟨ob,es,ep,t,e,c⟩:=x;exact⟨ob,es,ep,t,k _ _ (.inl rfl) e,c⟩
 |ins C dx fs=>
  obtain⟨d,z,ne,e,mA,⟨od,es,ep,e2,c⟩,r⟩:=x
  exact⟨ho _ d,z,ne,k _ _ (.inl rfl) e,mA,⟨od,es,ep,k _ _ (.inr d) e2,c⟩,r⟩
 |own y=>obtain⟨ob,e⟩:=x;exact⟨ob,k _ _ (.inl rfl) e⟩
 |xd fs=>obtain⟨mA,⟨od,es,ep,e,c⟩,r⟩:=x;exact⟨mA,⟨od,es,ep,k _ _ (.inl rfl) e,c⟩,r⟩
 |rng lo hi=>obtain⟨t,u,v,e⟩:=x;exact⟨t,u,v,k _ _ (.inl rfl) e⟩
 |frz ob u ih=>obtain⟨e,q⟩:=x;exact⟨k _ _ (.inl rfl) e,ih q⟩
 |tbl ps=>
  have e:h.get? a=some { cls:=.none,data:=.fields ps }:=x
  show h'.get? a=some { cls:=.none,data:=.fields ps }
  exact k a _ (.inl rfl) e
 |met f y=>
  have e:h.get? a=some (zk8 (.ref f) (.ref y)):=x
  show h'.get? a=some (zk8 (.ref f) (.ref y))
  exact k a _ (.inl rfl) e
 |ext φ=>obtain⟨p,⟨o,e⟩,st⟩:=x;exact⟨st _ _ p fun o q=>k _ _ (.inl rfl) q,⟨o,k _ _ (.inl rfl) e⟩,st⟩
theorem HOk.lt (x:HOk P w H h)(e:H a=some o):a<h.objs.size:=(x a o e).lt
theorem HOk.fresh (x:HOk P w H h)(e:h.objs.size<=a):H a=none:=by
 cases q:H a with
 |none=>rfl
 |some u=>exact absurd (z39 (x.lt q) e) (zc3 _)
theorem HOk.kept (x:HOk P w H h)(k:∀b u,h.get? b=some u->h'.get? b=some u):HOk P w H h':=fun a o e=>
 (x a o e).stay (fun b u _ q=>k b u q) (fun _ q=>q) fun _ _ q=>q
theorem HOk.laid (x:HOk P w H h)(k:∀b u,h.get? b=some u->h'.get? b=some u)(hp:h.objs.size<=a)(new:Yc P w (upd H a o) h' a o):HOk P w (upd H a o) h':=fun b u e=>by
 have hn:=x.fresh hp
 by_cases hb:b=a
 ·subst hb;rw[Qy] at e;cases e;exact new
 ·rw[Qp hb] at e
  exact(x b u e).stay (fun c v _ q=>k c v q) (fun c q=>by rw[Qp (QL q hn)];exact q) fun c xs q=>by rw[Qp (QL q hn)];exact q
end
def Rd (H:Hp)(a:Addr)(u:HO):Prop:=H a=some u\/∃o,H a=some (.frz o u)
theorem Rd.ok {P:Program}{w:World}{H:Hp}{h:Heap}{a:Addr}{u:HO}(r:Rd H a u)(x:HOk P w H h):Yc P w H h a u:=by
 rcases r with r|⟨o,r⟩
 ·exact x a u r
 ·obtain⟨_,q⟩:=x a _ r
  exact q
def Mut:Option HO->Prop
 |some (.lst _)=>True
 |some (.dK _)=>True
 |some (.dT _)=>True
 |some (.set _ _)=>True
 |some (.ins _ _ _)=>True
 |some (.ext _)=>True
 |_=>False
section
variable {P:Program}{w:World}{H:Hp}{h h':Heap}{x e:Addr}{o':HO}
theorem HOk.write (ok:HOk P w H h)(mu:Mut (H x))(he:e=x\/H e=some (.own x))(k:∀b u,b≠e->h.get? b=some u->h'.get? b=some u)(heo:∃u,h'.get? e=some u)
  (new:Yc P w (upd H x o') h' x o'):HOk P w (upd H x o') h':=fun b u q=>by
 have QtI:∀c y,H c=some (.own y)->c≠x:=fun c y r z=>by subst z;rw[r] at mu;exact mu
 have Que:∀c xs,H c=some (.tup xs)->c≠x:=fun c xs r z=>by subst z;rw[r] at mu;exact mu
 by_cases hb:b=x
 ·subst hb;rw[Qy] at q;cases q;exact new
 ·rw[Qp hb] at q
  by_cases hbe:b=e
  ·have q':H b=some (.own x):=by
    rcases he with z|z
    ·exact absurd (hbe.trans z) hb
    ·rw[hbe];exact z
   rw[q] at q';cases q'
   obtain⟨v,hv⟩:=heo
   exact⟨v,by rw[hbe];exact hv⟩
  ·refine(ok b u q).stay (fun c v hc r=>k c v ?_ r) (fun c r=>by rw[Qp (QtI c b r)];exact r) fun c xs r=>by rw[Qp (Que c xs r)];exact r
   rcases hc with rfl|hc
   ·exact hbe
   ·rintro rfl
    rcases he with z|z
    ·exact QtI c b hc z
    ·rw[hc] at z;cases z;exact hb rfl
end
structure Un (fs ex:List Addr)(H H':Hp)(h h':Heap):Prop where
 keep:∀b o,h.get? b=some o->H b=none->b∉fs->b∉ex->h'.get? b=some o
 slot:∀b o,h.get? b=some o->H b=none->b∈fs->b∉ex->∃sl,h'.get? b=some { o with slots:=sl }
 free:∀b o,h.get? b=some o->H b=none->b∉ex->H' b=none
 there:∀b o,h.get? b=some o->b∉ex->∃o',h'.get? b=some o'
 tups:∀b xs,H b=some (.tup xs)->H' b=some (.tup xs)
 QiT:∀b o u,H b=some (.frz o u)->H' b=some (.frz o u)
 Qk8:∀b ps,H b=some (.tbl ps)->∃more,H' b=some (.tbl (ps++more))
section
variable {fs ex:List Addr}{H H1:Hp}{h h1 h':Heap}{a x e:Addr}{o:HO}
theorem Un.any (u:Un fs ex H H1 h h1){b:Addr}{ob:Obj}(q:h.get? b=some ob)(n:H b=none)(hx:b∉ex):∃sl,h1.get? b=some { ob with slots:=sl }:=by
 by_cases hb:b∈fs
 ·exact u.slot b ob q n hb hx
 ·exact⟨ob.slots,u.keep b ob q n hb hx⟩
theorem Un.kept (k:∀b u,h.get? b=some u->h'.get? b=some u):Un fs ex H H h h':=
 ⟨fun b ob q _ _ _=>k b ob q,fun b ob q _ _ _=>⟨ob.slots,k b ob q⟩,fun _ _ _ n _=>n,fun b ob q _=>⟨ob,k b ob q⟩,fun _ _ q=>q,fun _ _ _ q=>q,fun _ ps q=>⟨#[],by rw[q];simp⟩⟩
theorem Un.refl:Un fs ex H H h h:=Un.kept fun _ _ q=>q
theorem Un.laid (k:∀b u,h.get? b=some u->h'.get? b=some u)(hp:h.objs.size<=a)(hn:H a=none):Un fs ex H (upd H a o) h h' where
 keep:=fun b u q _ _ _=>k b u q
 slot:=fun b u q _ _ _=>⟨u.slots,k b u q⟩
 free:=fun b u q n _=>by rw[Qp (z52 (z39 (z34 q) hp))];exact n
 there:=fun b u q _=>⟨u,k b u q⟩
 tups:=fun b xs q=>by rw[Qp (QL q hn)];exact q
 QiT:=fun b u xs q=>by rw[Qp (QL q hn)];exact q
 Qk8:=fun b ps q=>⟨#[],by rw[Qp (QL q hn),q];simp⟩
theorem Un.write (mu:Mut (H x))(he:e=x\/H e=some (.own x))(k:∀b u,b≠e->h.get? b=some u->h'.get? b=some u)(heo:∃u,h'.get? e=some u):Un fs ex H (upd H x o) h h':=by
 have hx:∀b,H b=none->b≠x:=fun b n z=>by subst z;rw[n] at mu;exact mu
 have hb:∀b,H b=none->b≠e:=fun b n z=>by
  subst z
  rcases he with r|r
  ·exact hx b n r
  ·rw[n] at r;cases r
 have hm:∀b u,H b=some u->¬ Mut (some u)->b≠x:=fun b u q nm z=>by subst z;rw[q] at mu;exact nm mu
 refine⟨fun b u q n _ _=>k b u (hb b n) q,fun b u q n _ _=>⟨u.slots,k b u (hb b n) q⟩,fun b u q n _=>by rw[Qp (hx b n)];exact n,fun b u q _=>?_,
  fun b xs q=>by rw[Qp (hm b _ q fun z=>z)];exact q,fun b u xs q=>by rw[Qp (hm b _ q fun z=>z)];exact q,fun b ps q=>⟨#[],by rw[Qp (hm b _ q fun z=>z),q];simp⟩⟩
 by_cases hbe:b=e
 ·subst hbe;exact heo
 ·exact⟨u,k b u hbe q⟩
end
def trk (h:Heap)(H:Hp):List Addr:=(z64 h.objs.size).filter fun a=>(H a).isSome
def Qla (h:Heap)(H:Hp):Heap:=zu1 h (trk h H)
theorem QiU (h:Heap)(H:Hp):(Qla h H).objs.size=h.objs.size:=PySem.W.hideAll_size _ _
theorem Qlb {h:Heap}{H:Hp}{b:Addr}{o:Obj}(e:h.get? b=some o)(n:H b=none):(Qla h H).get? b=some o:=
 zj5 _ e fun hm=>by
  have q:(H b).isSome=true:=(z63.mp hm).2
  rw[n] at q;simp at q
theorem QmU {h:Heap}{H:Hp}{b:Addr}{o:Obj}(e:(Qla h H).get? b=some o):h.get? b=some o/\H b=none:=by
 have e':h.get? b=some o:=zr5 (trk h H) e
 refine⟨e',?_⟩
 cases q:H b with
 |none=>rfl
 |some x=>
  have hm:b∈trk h H:=z63.mpr ⟨za2.mpr (z34 e'),by simp[q]⟩
  have z:(Qla h H).get? b=none:=zq6 (trk h H) hm
  rw[z] at e;cases e
structure Mod (K:z01)(mg:Str->Option Value)(base:Heap):Prop where
 kin:K.In base
 glob:base.Ns z21 mg
 blt:∃mb,base.Ns builtinsNs mb/\∀x:Str,x ≠ "__name__" -> mb x=z71 x
 nolimit:base.NoLimit
structure Cx where
 prog:Program
 w:World
 K:z01
 mg:Str->Option Value
 base:Heap
 A:Around
 N:List Str
 s₀:Shared
 H₀:Hp
 env:Env
 outer:List Env
 stack:List Env
 ex:List Addr
 fn:Str->Bool
 calm:Bool
 pn:List (Addr×Obj)
 xe:Value->Shared->Prop
def frs (l:List Env):List Addr:=l.filterMap (·.frame)
abbrev Cx.fs (X:Cx):List Addr:=frs X.outer
def Vis (sc:Scope)(x:Str):Prop:=sc.names.lookup x=some .local\/sc.names.lookup x=some .cell\/sc.names.lookup x=some .free
def Loc (sc:Scope)(x:Str):Prop:=sc.names.lookup x=some .local\/sc.names.lookup x=some .cell
def Look (env:Env)(h:Heap)(m:Str->Option Value)(x:Str)(u:Value):Prop:=
 (env.kindOf x=some .local/\m x=some u)\/((env.kindOf x=some .cell\/env.kindOf x=some .free)/\∃c,env.cells.lookup x=some c/\h.IsCell c (some u))
structure Cx.Ok (X:Cx):Prop where
 mod:Mod X.K X.mg X.base
 kind:X.env.scope.kind=.function
 glob:X.env.globals=z21
 blt:X.env.builtins=builtinsNs
 above:X.s₀.heap.objs.size<=X.env.locals
 inj:∀x y c,X.env.cells.lookup x=some c->X.env.cells.lookup y=some c->x=y
 has:∀x,(X.env.kindOf x=some .cell\/X.env.kindOf x=some .free)->∃c,X.env.cells.lookup x=some c
 cab:∀x c,X.fn x=true->X.env.cells.lookup x=some c->X.s₀.heap.objs.size<=c
 hd:X.calm=true->X.A.handled=none
 frames:X.A.frames=some X.stack
 stk:X.stack=X.outer\/(X.stack=X.env::X.outer/\X.env.frame=some X.env.locals)
 exf:∀b∈X.ex,b≠X.env.locals/\∀x c,X.env.cells.lookup x=some c->c≠b
 bs:∀b o,X.base.get? b=some o->X.s₀.heap.get? b=some o/\X.H₀ b=none
 bsz:X.base.objs.size<=X.s₀.heap.objs.size
 QoY:∀b o,X.base.get? b=some o->b∉X.ex
 QoZ:∀b∈X.ex,b∉X.fs
 QiP:X.s₀.heap.FunFrames X.base X.outer
 frf:∀b∈X.fs,X.H₀ b=none
structure Inv (X:Cx)(pins:List (Addr×Obj))(σ:List (Option V))(H:Hp)(s:Shared):Prop where
 ok:X.Ok
 os:s.os=X.s₀.os
 bare:AllBare s.gens
 base:Un X.fs X.ex X.H₀ H X.s₀.heap s.heap
 loc:∃m,s.heap.Ns X.env.locals m/\∀(i:Nat) (x:Str) (v:V),X.N[i]? = some x->σ[i]? = some (some v)->Vis X.env.scope x->∃u,RelV v u/\Look X.env s.heap m x u
 cell:∀x c,X.env.cells.lookup x=some c->∃v,s.heap.IsCell c v
 free:H X.env.locals=none
 QcF:∀x c,X.env.cells.lookup x=some c->H c=none
 pin:∀p∈X.pn++pins,s.heap.get? p.1=some p.2/\H p.1=none/\p.1≠X.env.locals/\p.1∉X.fs/\∀v,p.2.data≠.cell v
 hok:HOk X.prog X.w H s.heap
 len:σ.length=X.N.length
section
variable {X:Cx}{pins:List (Addr×Obj)}{σ:List (Option V)}{H H':Hp}{s:Shared}{h':Heap}
theorem Cx.Ok.Quf (ok:X.Ok){b:Addr}{o:Obj}(e:X.base.get? b=some o):b∉X.fs:=fun hb=>by
 have:=(ok.QiP.mem hb).1
 rw[e] at this;cases this
theorem Inv.bs (I:Inv X pins σ H s):∀b o,X.base.get? b=some o->s.heap.get? b=some o/\H b=none:=fun b o e=>
 ⟨I.base.keep b o (I.ok.bs b o e).1 (I.ok.bs b o e).2 (I.ok.Quf e) (I.ok.QoY b o e),I.base.free b o (I.ok.bs b o e).1 (I.ok.bs b o e).2 (I.ok.QoY b o e)⟩
theorem Inv.bk (I:Inv X pins σ H s):∀b o,X.base.get? b=some o->s.heap.get? b=some o:=fun b o e=>(I.bs b o e).1
theorem Inv.mod (I:Inv X pins σ H s):Mod X.K X.mg X.base:=I.ok.mod
theorem Inv.kIn (I:Inv X pins σ H s):X.K.In s.heap:=I.ok.mod.kin.keeps I.bk
theorem Inv.lt (I:Inv X pins σ H s):X.env.locals<s.heap.objs.size:=let ⟨_,hn,_⟩:=I.loc;hn.lt
theorem Inv.sz (I:Inv X pins σ H s):X.s₀.heap.objs.size<=s.heap.objs.size:=z62 I.ok.above (zs8 I.lt)
theorem Inv.QtJ (I:Inv X pins σ H s){a:Addr}(h:s.heap.objs.size<=a):a∉X.fs:=fun hb=>by
 obtain⟨_,o,ho,_⟩:=I.ok.QiP.mem hb
 exact absurd (z39 (z34 ho) (z62 I.sz h)) (zc3 _)
theorem Inv.cne (I:Inv X pins σ H s):∀x c,X.env.cells.lookup x=some c->c≠X.env.locals:=fun x c e z=>by
 obtain⟨v,o,ho,hd⟩:=I.cell x c e
 obtain⟨m,⟨o',es,ep,ho',hd',_⟩,_⟩:=I.loc
 rw[z,ho'] at ho;cases ho;rw[hd'] at hd;cases hd
theorem Inv.QiP (I:Inv X pins σ H s):s.heap.FunFrames X.base X.outer:=by
 have all:∀(l:List Env),(∀b∈frs l,b∈X.fs)->X.s₀.heap.FunFrames X.base l->s.heap.FunFrames X.base l:=by
  intro l
  induction l with
  |nil=>intro _ _;trivial
  |cons env r ih=>
   intro hs hl
   obtain⟨hk,⟨L,o,hf,hn,ho,hd⟩,hr⟩:=hl
   have hL:L∈X.fs:=hs L (by unfold frs;rw[zc1,hf];exact z07)
   obtain⟨sl,e⟩:=I.base.slot L o ho (I.ok.frf L hL) hL fun z=>I.ok.QoZ L z hL
   exact⟨hk,⟨L,_,hf,hn,e,hd⟩,ih (fun b hb=>hs b (by unfold frs;rw[zc1,hf];exact z08 _ hb)) hr⟩
 exact all X.outer (fun _ hb=>hb) I.ok.QiP
theorem Inv.stack (I:Inv X pins σ H s):s.heap.FunFrames X.base X.stack:=by
 rcases I.ok.stk with e|⟨e,hf⟩
 ·rw[e];exact I.QiP
 ·rw[e]
  obtain⟨m,hn,_⟩:=I.loc
  refine .cons (by rw[I.ok.kind];decide) hf hn ?_ I.QiP
  exact zk0 (z62 I.ok.bsz I.ok.above)
theorem Inv.Qfa (I:Inv X pins σ H s):∀b∈frs X.stack,b∈X.env.locals::X.fs:=fun b hb=>by
 rcases I.ok.stk with e|⟨e,hf⟩
 ·rw[e] at hb;exact z08 _ hb
 ·rw[e] at hb
  unfold frs at hb
  rw[zc1,hf] at hb
  exact hb
theorem Inv.Qgs (I:Inv X pins σ H s):∀b∈frs X.stack,H b=none:=fun b hb=>by
 rcases z13.mp (I.Qfa b hb) with e|hb
 ·rw[e];exact I.free
 ·obtain⟨_,o,ho,_⟩:=I.ok.QiP.mem hb
  exact I.base.free b o ho (I.ok.frf b hb) fun z=>I.ok.QoZ b z hb
theorem Inv.step {g':Array GenState}{t':Nat}{d':Drawn}{ch:List Addr}(I:Inv X pins σ H s)
  (hch:∀b∈ch,(b∈X.ex\/X.s₀.heap.objs.size<=b)/\b≠X.env.locals/\(∀x c,X.env.cells.lookup x=some c->c≠b)/\∀p∈X.pn++pins,p.1≠b)
  (keep:∀b o,b≠X.env.locals->b∉X.fs->b∉ch->s.heap.get? b=some o->H b=none->h'.get? b=some o)
  (slot:∀b o,b≠X.env.locals->b∈X.fs->b∉ch->s.heap.get? b=some o->H b=none->∃sl,h'.get? b=some { o with slots:=sl }) (free:∀b o,b∉ch->s.heap.get? b=some o->H b=none->H' b=none)
  (there:∀b o,b∉ch->s.heap.get? b=some o->∃o',h'.get? b=some o')
  (tups:∀b xs,H b=some (.tup xs)->H' b=some (.tup xs)) (QiT:∀b o u,H b=some (.frz o u)->H' b=some (.frz o u)) (Qk8:∀b ps,H b=some (.tbl ps)->∃more,H' b=some (.tbl (ps++more)))
  (ns:∀m,s.heap.Ns X.env.locals m->h'.Ns X.env.locals m) (hok:HOk X.prog X.w H' h') (hg:AllBare g') :
  Inv X pins σ H' { s with heap:=h',gens:=g',drawn:=d',toks:=t' }:=by
 have neL:∀b o,X.s₀.heap.get? b=some o->b≠X.env.locals:=fun b o e=>z52 (z39 (z34 e) I.ok.above)
 have neC:∀b o,X.s₀.heap.get? b=some o->b∉X.ex->b∉ch:=fun b o e hx hb=>by
  rcases(hch b hb).1 with z|z
  ·exact hx z
  ·exact absurd (z39 (z34 e) z) (zc3 _)
 have cellK:∀x c,X.env.cells.lookup x=some c->∀v,s.heap.IsCell c v->h'.IsCell c v:=fun x c e v ⟨o,ho,hd⟩=>by
  have nch:c∉ch:=fun z=>(hch c z).2.2.1 x c e rfl
  by_cases hc:c∈X.fs
  ·obtain⟨sl,q⟩:=slot c o (I.cne x c e) hc nch ho (I.QcF x c e)
   exact⟨_,q,hd⟩
  ·exact⟨o,keep c o (I.cne x c e) hc nch ho (I.QcF x c e),hd⟩
 refine⟨I.ok,I.os,hg,⟨fun b o e n hb hx=>?_,fun b o e n hb hx=>?_,fun b o e n hx=>?_,fun b o e hx=>?_,fun b xs e=>tups b xs (I.base.tups b xs e),fun b o xs e=>QiT b o xs (I.base.QiT b o xs e),fun b ps e=>?_⟩,?_,fun x c e=>?_,?_,fun x c e=>?_,fun p hp=>?_,hok,I.len⟩
 ·exact keep b o (neL b o e) hb (neC b o e hx) (I.base.keep b o e n hb hx) (I.base.free b o e n hx)
 ·obtain⟨sl,e1⟩:=I.base.slot b o e n hb hx
  obtain⟨sl',e2⟩:=slot b _ (neL b o e) hb (neC b o e hx) e1 (I.base.free b o e n hx)
  exact⟨sl',e2⟩
 ·obtain⟨o',e1⟩:=I.base.there b o e hx
  exact free b o' (neC b o e hx) e1 (I.base.free b o e n hx)
 ·obtain⟨o',e1⟩:=I.base.there b o e hx
  exact there b o' (neC b o e hx) e1
 ·obtain⟨m1,e1⟩:=I.base.Qk8 b ps e
  obtain⟨m2,e2⟩:=Qk8 b _ e1
  exact⟨m1++m2,by rw[e2,Array.append_assoc]⟩
 ·obtain⟨m,hn,hl⟩:=I.loc
  refine⟨m,ns m hn,fun i x v e1 e2 e3=>?_⟩
  obtain⟨u,r,l⟩:=hl i x v e1 e2 e3
  refine⟨u,r,?_⟩
  rcases l with l|⟨k,c,e,z⟩
  ·exact .inl l
  ·exact .inr ⟨k,c,e,cellK x c e _ z⟩
 ·obtain⟨v,z⟩:=I.cell x c e
  exact⟨v,cellK x c e v z⟩
 ·obtain⟨m,⟨o,_,_,ho,_⟩,_⟩:=I.loc
  exact free _ o (fun z=>(hch _ z).2.1 rfl) ho I.free
 ·obtain⟨v,o,ho,hd⟩:=I.cell x c e
  exact free c o (fun z=>(hch c z).2.2.1 x c e rfl) ho (I.QcF x c e)
 ·obtain⟨e,n,ne,nf,d⟩:=I.pin p hp
  have nch:p.1∉ch:=fun z=>(hch p.1 z).2.2.2 p hp rfl
  exact⟨keep p.1 p.2 ne nf nch e n,free p.1 p.2 nch e n,ne,nf,d⟩
theorem Inv.un {t':Nat}(I:Inv X pins σ H s)(u:Un X.fs [] H H' s.heap h')(hok:HOk X.prog X.w H' h'):Inv X pins σ H' { s with heap:=h',toks:=t' }:=by
 obtain⟨m,⟨o,es,ep,ho,r⟩,_⟩:=id I.loc
 obtain⟨sl,hL⟩:=u.any ho I.free (by simp)
 exact I.step (g':=s.gens) (d':=s.drawn) (ch:=[]) (fun _ z=>nomatch z) (fun b o _ hb _ e n=>u.keep b o e n hb (by simp)) (fun b o _ hb _ e n=>u.slot b o e n hb (by simp)) (fun b o _ e n=>u.free b o e n (by simp)) (fun b o _ e=>u.there b o e (by simp)) u.tups u.QiT u.Qk8 (fun m' hm=>by
  obtain⟨o',es',ep',ho',r'⟩:=hm
  rw[ho] at ho';cases ho'
  exact⟨_,es',ep',hL,r'⟩) hok I.bare
theorem Inv.call {g':Array GenState}{t':Nat}{d':Drawn}{ch:List Addr}(I:Inv X pins σ H s)(u:Un (frs X.stack) ch H H' s.heap h')(hok:HOk X.prog X.w H' h')(hg:AllBare g')
  (hch:∀b∈ch,(b∈X.ex\/X.s₀.heap.objs.size<=b)/\b≠X.env.locals/\(∀x c,X.env.cells.lookup x=some c->c≠b)/\∀p∈X.pn++pins,p.1≠b) :
  Inv X pins σ H' { s with heap:=h',gens:=g',drawn:=d',toks:=t' }:=by
 obtain⟨m,⟨o,es,ep,ho,r⟩,_⟩:=id I.loc
 obtain⟨sl,hL⟩:=u.any ho I.free fun z=>(hch _ z).2.1 rfl
 exact I.step (ch:=ch) hch (fun b o hL hb hc e n=>u.keep b o e n (fun z=>(z13.mp (I.Qfa b z)).elim hL hb) hc) (fun b o _ _ hc e n=>u.any e n hc) (fun b o hc e n=>u.free b o e n hc) (fun b o hc e=>u.there b o e hc) u.tups u.QiT u.Qk8 (fun m' hm=>by
  obtain⟨o',es',ep',ho',r'⟩:=hm
  rw[ho] at ho';cases ho'
  exact⟨_,es',ep',hL,r'⟩) hok hg
theorem Inv.turned {t':Nat}{it:Addr}(I:Inv X pins σ H s)(k:∀b o,b≠it->s.heap.get? b=some o->h'.get? b=some o)(hn:H it=none)(hL:it≠X.env.locals)
  (h1:it∈X.ex\/X.s₀.heap.objs.size<=it) (h2:∀x c,X.env.cells.lookup x=some c->c≠it) (h3:∀p∈X.pn++pins,p.1≠it):Inv X pins σ H { s with heap:=h',toks:=t' }:=by
 have nit:∀b u,H b=some u->b≠it:=fun b u e z=>by rw[z,hn] at e;cases e
 refine I.step (g':=s.gens) (d':=s.drawn) (ch:=[it]) (fun b hb=>?_) (fun b o _ _ hc e _=>k b o (fun z=>hc (by simp[z])) e) (fun b o _ _ hc e _=>⟨o.slots,k b o (fun z=>hc (by simp[z])) e⟩) (fun _ _ _ _ n=>n)
  (fun b o hc e=>⟨o,k b o (fun z=>hc (by simp[z])) e⟩) (fun _ _ e=>e) (fun _ _ _ e=>e) (fun b ps e=>⟨#[],by rw[e];simp⟩) (fun m hm=>?_) (fun b u e=>?_) I.bare
 ·have e:b=it:=by simpa using hb
  subst e
  exact⟨h1,hL,h2,h3⟩
 ·obtain⟨o,es,ep,ho,r⟩:=hm
  exact⟨o,es,ep,k _ o (zd4 hL) ho,r⟩
 ·refine(I.hok b u e).stay (fun c v hc q=>k c v ?_ q) (fun _ q=>q) fun _ _ q=>q
  rcases hc with z|z
  ·rw[z];exact nit b u e
  ·exact nit c _ z
theorem Inv.tok (I:Inv X pins σ H s)(t:Nat):Inv X pins σ H { s with toks:=t }:=I.un (h':=s.heap) (t':=t) Un.refl I.hok
theorem Inv.kept {t':Nat}(I:Inv X pins σ H s)(k:∀b u,s.heap.get? b=some u->h'.get? b=some u):Inv X pins σ H { s with heap:=h',toks:=t' }:=I.un (Un.kept k) (I.hok.kept k)
theorem Inv.laid {a:Addr}{o:HO}{t':Nat}(I:Inv X pins σ H s)(k:∀b u,s.heap.get? b=some u->h'.get? b=some u)(hp:s.heap.objs.size<=a)(new:Yc X.prog X.w (upd H a o) h' a o) :
  Inv X pins σ (upd H a o) { s with heap:=h',toks:=t' }:=I.un (Un.laid k hp (I.hok.fresh hp)) (I.hok.laid k hp new)
theorem Inv.write {x e:Addr}{o:HO}{t':Nat}(I:Inv X pins σ H s)(mu:Mut (H x))(he:e=x\/H e=some (.own x))(k:∀b u,b≠e->s.heap.get? b=some u->h'.get? b=some u)(heo:∃u,h'.get? e=some u)
  (new:Yc X.prog X.w (upd H x o) h' x o):Inv X pins σ (upd H x o) { s with heap:=h',toks:=t' }:=I.un (Un.write mu he k heo) (I.hok.write mu he k heo new)
theorem Inv.weak {σ':List (Option V)}(I:Inv X pins σ H s)(hl:σ'.length=σ.length)(w:∀(i:Nat) v,σ'[i]? = some (some v)->σ[i]? = some (some v)):Inv X pins σ' H s:=
 ⟨I.ok,I.os,I.bare,I.base,let ⟨m,hn,hl'⟩:=I.loc;⟨m,hn,fun i x v e1 e2 e3=>hl' i x v e1 (w i v e2) e3⟩,I.cell,I.free,I.QcF,I.pin,I.hok,hl.trans I.len⟩
theorem Inv.Qd9 {Qo0:List (Addr×Obj)}(I:Inv X pins σ H s)(h:∀p∈Qo0,s.heap.get? p.1=some p.2/\H p.1=none/\p.1≠X.env.locals/\p.1∉X.fs/\∀v,p.2.data≠.cell v):Inv X Qo0 σ H s:=
 ⟨I.ok,I.os,I.bare,I.base,I.loc,I.cell,I.free,I.QcF,fun p hp=>(z05.mp hp).elim (fun z=>I.pin p (z06 _ z)) (h p),I.hok,I.len⟩
theorem Qhd {N:List Str}(hN:N.Nodup){i j:Nat}{x:Str}(a:N[i]? = some x)(b:N[j]? = some x):i=j:=by
 obtain⟨h1,e1⟩:=z26.mp a
 obtain⟨h2,e2⟩:=z26.mp b
 exact(zg1 hN).mp (e1.trans e2.symm)
theorem Qfb {M:Model}{A:Around}{E:Value->Shared->Prop}{i:Nat}{x:Str}{v:V}{u:Value}{Q:Unit->Shared->Prop}(I:Inv X pins σ H s)(hN:X.N.Nodup)(hi:X.N[i]? = some x)(hx:Loc X.env.scope x)(r:RelV v u)
  (h:∀s',Inv X pins (σ.set i (some v)) H s'->(∃a,ze0 a s.heap s'.heap/\(a=X.env.locals\/X.env.cells.lookup x=some a))->Q () s') (hf:X.fn x=true\/X.env.scope.names.lookup x=some .local:=by first|exact .inl rfl|exact .inr rfl|assumption):wpAny M A (storeName X.env x u) Q E s:=by
 obtain⟨m,hn,hl⟩:=id I.loc
 have hcls:(X.env.scope.kind == .class || (X.env.scope.kind == .module && X.env.locals != X.env.globals))=false:=by rw[I.ok.kind];rfl
 have hiσ:i<σ.length:=by rw[I.len];exact(z26.mp hi).1
 have cne:=I.cne
 have tracked:∀{a:Addr} {h':Heap},(∃o,s.heap.get? a=some o/\H a=none)->ze0 a s.heap h'->HOk X.prog X.w H h':=fun{a h'} ha hs b ob e=>by
  obtain⟨_,_,hfree⟩:=ha
  refine(I.hok b ob e).stay (fun c w' hc q=>(hs.2 c ?_).trans q) (fun _ q=>q) fun _ _ q=>q
  rintro rfl
  rcases hc with rfl|hc
  ·rw[hfree] at e;cases e
  ·rw[hfree] at hc;cases hc
 rcases hx with hk|hk
 ·refine wpAny_storeName_local hk hn (fun h' hn' hs=>?_) hcls
  obtain⟨oL,_,_,hoL,_⟩:=id hn
  refine h _ ⟨I.ok,I.os,I.bare,⟨fun b o e n hb hx=>?_,fun b o e n hb hx=>?_,I.base.free,fun b o e hx=>?_,I.base.tups,I.base.QiT,I.base.Qk8⟩,⟨_,hn',fun j y v' e1 e2 e3=>?_⟩,fun y c e=>?_,I.free,I.QcF,fun p hp=>?_,tracked ⟨oL,hoL,I.free⟩ hs,by simpa using I.len⟩ ⟨_,hs,.inl rfl⟩
  ·exact(hs.2 b (z52 (z39 (z34 e) I.ok.above))).trans (I.base.keep b o e n hb hx)
  ·obtain⟨sl,e1⟩:=I.base.slot b o e n hb hx
   exact⟨sl,(hs.2 b (z52 (z39 (z34 e) I.ok.above))).trans e1⟩
  ·obtain⟨o',e1⟩:=I.base.there b o e hx
   exact⟨o',(hs.2 b (z52 (z39 (z34 e) I.ok.above))).trans e1⟩
  ·by_cases hj:j=i
   ·subst hj
    rw[hi] at e1;cases e1
    rw[z96 hiσ] at e2
    cases e2
    exact⟨u,r,.inl ⟨hk,by simp⟩⟩
   ·rw[z65 (zd4 hj)] at e2
    obtain⟨u',r',q⟩:=hl j y v' e1 e2 e3
    refine⟨u',r',?_⟩
    rcases q with⟨k,e⟩|⟨k,c,e,z⟩
    ·refine .inl ⟨k,?_⟩
     have:y≠x:=fun e=>hj (Qhd hN e1 (e▸hi))
     simp[this,e]
    ·exact .inr ⟨k,c,e,z.sameBut hs (cne y c e)⟩
  ·obtain⟨w',z⟩:=I.cell y c e
   exact⟨w',z.sameBut hs (cne y c e)⟩
  ·obtain⟨e,n,ne,nf,d⟩:=I.pin p hp
   exact⟨(hs.2 p.1 ne).trans e,n,ne,nf,d⟩
 ·have hfn:X.fn x=true:=by
   rcases hf with z|z
   ·exact z
   ·rw[z] at hk;cases hk
  obtain⟨c,hc⟩:=I.ok.has x (.inl hk)
  obtain⟨w',z⟩:=I.cell x c hc
  refine wpAny_storeName_cell I.ok.kind hk hc z (fun h' hc' hs=>?_)
  obtain⟨oc,hoc,Qug⟩:=id z
  refine h { s with heap:=h' } ⟨I.ok,I.os,I.bare,⟨fun b o e n hb hx=>?_,fun b o e n hb hx=>?_,I.base.free,fun b o e hx=>?_,I.base.tups,I.base.QiT,I.base.Qk8⟩,⟨m,hn.sameBut hs (zd4 (cne x c hc)),fun j y v' e1 e2 e3=>?_⟩,fun y c' e=>?_,I.free,I.QcF,fun p hp=>?_,tracked ⟨oc,hoc,I.QcF x c hc⟩ hs,by simpa using I.len⟩ ⟨c,hs,.inr hc⟩
  ·exact(hs.2 b (z52 (z39 (z34 e) (I.ok.cab x c hfn hc)))).trans (I.base.keep b o e n hb hx)
  ·obtain⟨sl,e1⟩:=I.base.slot b o e n hb hx
   exact⟨sl,(hs.2 b (z52 (z39 (z34 e) (I.ok.cab x c hfn hc)))).trans e1⟩
  ·obtain⟨o',e1⟩:=I.base.there b o e hx
   exact⟨o',(hs.2 b (z52 (z39 (z34 e) (I.ok.cab x c hfn hc)))).trans e1⟩
  ·by_cases hj:j=i
   ·subst hj
    rw[hi] at e1;cases e1
    rw[z96 hiσ] at e2
    cases e2
    exact⟨u,r,.inr ⟨.inl hk,c,hc,hc'⟩⟩
   ·rw[z65 (zd4 hj)] at e2
    obtain⟨u',r',q⟩:=hl j y v' e1 e2 e3
    refine⟨u',r',?_⟩
    rcases q with q|⟨k,c',e,z'⟩
    ·exact .inl q
    ·refine .inr ⟨k,c',e,z'.sameBut hs ?_⟩
     rintro rfl
     exact hj (Qhd hN e1 (I.ok.inj _ _ _ e hc▸hi))
  ·by_cases hcc:c'=c
   ·subst hcc;exact⟨_,hc'⟩
   ·obtain⟨w2,z2⟩:=I.cell y c' e
    exact⟨w2,z2.sameBut hs hcc⟩
  ·obtain⟨e,n,ne,nf,d⟩:=I.pin p hp
   refine⟨(hs.2 p.1 ?_).trans e,n,ne,nf,d⟩
   intro q
   rw[q,hoc] at e
   have q':oc=p.2:=z22 e
   exact d w' (by rw[← q'];exact Qug)
theorem Qhe {M:Model}{A:Around}{E:Value->Shared->Prop}{i:Nat}{x:Str}{v:V}{u:Value}{Q:Unit->Shared->Prop}(I:Inv X pins σ H s)(hN:X.N.Nodup)(hi:X.N[i]? = some x)(hx:Loc X.env.scope x)(r:RelV v u)
  (h:∀s',Inv X pins (σ.set i (some v)) H s'->Q () s') (hf:X.fn x=true\/X.env.scope.names.lookup x=some .local:=by first|exact .inl rfl|exact .inr rfl|assumption):wpAny M A (storeName X.env x u) Q E s:=
 Qfb I hN hi hx r (fun s' I' _=>h s' I') hf
theorem Inv.call' {s':Shared}{ch:List Addr}(I:Inv X pins σ H s)(ho:s'.os=s.os)(u:Un (frs X.stack) ch H H' s.heap s'.heap)(hok:HOk X.prog X.w H' s'.heap)(hg:AllBare s'.gens)
  (hch:∀b∈ch,(b∈X.ex\/X.s₀.heap.objs.size<=b)/\b≠X.env.locals/\(∀x c,X.env.cells.lookup x=some c->c≠b)/\∀p∈X.pn++pins,p.1≠b):Inv X pins σ H' s':=by
 obtain⟨h',g',d',t',o'⟩:=s'
 have e:o'=s.os:=ho
 subst e
 exact I.call (g':=g') (t':=t') (d':=d') u hok hg hch
end
abbrev XK:=Value->Option Addr->Hp->Prop
abbrev St:=List (Option V)
abbrev VK:=V->Hp->Prop
abbrev TE:=St->Hp->VK->Prop
abbrev TT:=St->Hp->(Bool->Hp->Prop)->Prop
abbrev TA:=St->Hp->(List V->Hp->Prop)->Prop
structure Ends where
 nx:St->Hp->Prop
 rt:VK
 bk:St->Hp->Prop:=fun _ _=>False
 ct:St->Hp->Prop:=fun _ _=>False
abbrev TS:=Ends->St->Hp->Prop
def EP (X:Cx)(pins:List (Addr×Obj))(σ:St)(Q:VK)(u:Value)(s':Shared):Prop:=∃v H',Inv X pins σ H' s'/\RelV v u/\Q v H'
def TP (X:Cx)(pins:List (Addr×Obj))(σ:St)(Q:Bool->Hp->Prop)(b:Bool)(s':Shared):Prop:=∃H',Inv X pins σ H' s'/\Q b H'
def AP (X:Cx)(pins:List (Addr×Obj))(σ:St)(Q:List V->Hp->Prop)(us:List Value)(s':Shared):Prop:=∃vs H',Inv X pins σ H' s'/\Vals vs us/\Q vs H'
def SP (X:Cx)(pins:List (Addr×Obj))(D:Ends)(f:Flow)(s':Shared):Prop:=
 match f with
 |.next=>∃σ' H',Inv X pins σ' H' s'/\D.nx σ' H'
 |.brk=>∃σ' H',Inv X pins σ' H' s'/\D.bk σ' H'
 |.cont=>∃σ' H',Inv X pins σ' H' s'/\D.ct σ' H'
 |.ret u=>∃v σ' H',Inv X pins σ' H' s'/\RelV v u/\D.rt v H'
def PE (X:Cx)(e:Expr)(t:TE):Prop:=
 ∀(pins:List (Addr×Obj)) (s:Shared) (σ:St) (H:Hp) (Q:VK),Inv X pins σ H s->t σ H Q->wpAny (model X.prog X.w) X.A (eval e X.env) (EP X pins σ Q) X.xe s
def PT (X:Cx)(e:Expr)(t:TT):Prop:=
 ∀(pins:List (Addr×Obj)) (s:Shared) (σ:St) (H:Hp) (Q:Bool->Hp->Prop),Inv X pins σ H s->t σ H Q->wpAny (model X.prog X.w) X.A (isTrue e X.env (eval e X.env)) (TP X pins σ Q) X.xe s
def PW (X:Cx)(e:Expr)(t:TT):Prop:=
 ∀(whole:Sem Value) (pins:List (Addr×Obj)) (s:Shared) (σ:St) (H:Hp) (Q:Bool->Hp->Prop),Inv X pins σ H s->t σ H Q->wpAny (model X.prog X.w) X.A (isTrue e X.env whole) (TP X pins σ Q) X.xe s
theorem PW.pt {X:Cx}{e:Expr}{t:TT}(h:PW X e t):PT X e t:=h _
def PA (X:Cx)(es:List Expr)(t:TA):Prop:=
 ∀(pos:Pos) (pins:List (Addr×Obj)) (s:Shared) (σ:St) (H:Hp) (Q:List V->Hp->Prop),Inv X pins σ H s->t σ H Q->wpAny (model X.prog X.w) X.A (spliced (backTo pos (starEach es X.env))) (AP X pins σ Q) X.xe s
def PS (X:Cx)(st:Stmt)(t:TS):Prop:=
 ∀(pins:List (Addr×Obj)) (s:Shared) (σ:St) (H:Hp) (D:Ends),Inv X pins σ H s->t D σ H->wpAny (model X.prog X.w) X.A (exec st X.env) (SP X pins D) X.xe s
def PSs (X:Cx)(st:List Stmt)(t:TS):Prop:=
 ∀(pins:List (Addr×Obj)) (s:Shared) (σ:St) (H:Hp) (D:Ends),Inv X pins σ H s->t D σ H->wpAny (model X.prog X.w) X.A (execs st X.env) (SP X pins D) X.xe s
theorem thn {α:Type}{t:Sem α}{Q Q':α->Shared->Prop}{M:Model}{A:Around}{E:Value->Shared->Prop}{s:Shared}(h:wpAny M A t Q E s)(hQ:∀a s,Q a s->Q' a s):wpAny M A t Q' E s:=zb5 h hQ fun _ _ x=>x
section
variable {X:Cx}
def QrP (i:Nat):TE:=fun σ H Q=>∃v,σ[i]? = some (some v)/\Q v H
def tC (v:V):TE:=fun _ H Q=>Q v H
theorem Qar {i:Nat}{x:Str}{pos:Pos}(hN:X.N[i]? = some x)(hv:Vis X.env.scope x)(hd:(x == ("__debug__" : Str))=false:=by decide)(hcd:(x == ("__classdict__" : Str))=false:=by decide):PE X (.Name x pos) (QrP i):=by
 intro pins s σ H Q I h
 obtain⟨v,e,h⟩:=h
 obtain⟨m,hn,hl⟩:=I.loc
 obtain⟨u,r,l⟩:=hl i x v hN e hv
 have fin:EP X pins σ Q u s:=⟨v,H,I,r,h⟩
 rcases l with⟨hk,hm⟩|⟨hk,c,hc,hcell⟩
 ·exact wpAny_Name (wpAny_loadName_local I.ok.kind hk hn hm fin) hd
 ·rcases hk with hk|hk
  ·exact wpAny_Name (wpAny_loadName_cell I.ok.kind hk hc hcell fin) hd
  ·exact wpAny_Name (wpAny_loadName_free I.ok.kind hk hc hcell fin hcd) hd
theorem Qo1 {i j pos}:PE X (.Constant (.int i) j pos) (tC (.int i)):=fun _ _ _ H _ I h=>wpAny_Constant_int ⟨.int i,H,I.tok _,⟨_,rfl⟩,h⟩
theorem Qr7 {b j pos}:PE X (.Constant (.bool b) j pos) (tC (.bl b)):=fun _ _ _ H _ I h=>Constant_bool ⟨.bl b,H,I,rfl,h⟩
def Gl (X:Cx)(x:Str):Prop:=X.env.kindOf x=some .globalImplicit
theorem Qgt {E:Value->Shared->Prop}{pins:List (Addr×Obj)}{s:Shared}{σ:St}{H:Hp}{x:Str}{u:Value}{pos:Pos}{Q:Value->Shared->Prop}(I:Inv X pins σ H s)(hg:Gl X x)(hm:X.mg x=some u)(h:Q u s)
  (hd:(x == ("__debug__" : Str))=false:=by decide):wpAny (model X.prog X.w) X.A (eval (.Name x pos) X.env) Q E s:=
 zo7 I.ok.kind hg (Calls.loadGlobal_global (by rw[I.ok.glob];exact I.mod.glob.keeps I.bk) hm h) hd
theorem Qfc {E:Value->Shared->Prop}{pins:List (Addr×Obj)}{s:Shared}{σ:St}{H:Hp}{x:Str}{u:Value}{pos:Pos}{Q:Value->Shared->Prop}(I:Inv X pins σ H s)(hg:Gl X x)(hm:X.mg x=none)(hv:z71 x=some u)(h:Q u s)
  (hn:x ≠ "__name__" := by decide) (hd:(x == ("__debug__" : Str))=false:=by decide):wpAny (model X.prog X.w) X.A (eval (.Name x pos) X.env) Q E s:=by
 obtain⟨mb,h1,h2⟩:=I.mod.blt
 exact zo7 I.ok.kind hg (Calls.loadGlobal_builtin (by rw[I.ok.glob];exact I.mod.glob.keeps I.bk) hm (by rw[I.ok.blt];exact h1.keeps I.bk) ((h2 x hn).trans hv) h) hd
theorem QmV {x:Str}{v:V}{u:Value}{pos:Pos}(hg:Gl X x)(hm:X.mg x=some u)(r:RelV v u)(hd:(x == ("__debug__" : Str))=false:=by decide):PE X (.Name x pos) (tC v):=
 fun _ _ _ H _ I h=>Qgt I hg hm ⟨v,H,I,r,h⟩ hd
theorem QmW {x:Str}{v:V}{u:Value}{pos:Pos}(hg:Gl X x)(hm:X.mg x=none)(hv:z71 x=some u)(r:RelV v u)(hn:x ≠ "__name__" := by decide)(hd:(x == ("__debug__" : Str))=false:=by decide):PE X (.Name x pos) (tC v):=
 fun _ _ _ H _ I h=>Qfc I hg hm hv ⟨v,H,I,r,h⟩ hn hd
variable {a b:Expr}{ta tb:TE}{pos:Pos}
def tB (t:TE):TT:=fun σ H Q=>t σ H fun x H1=>∃c,x=.bl c/\Q c H1
theorem Qo2 {e:Expr}{t:TE}(h:PE X e t)(he:∀whole,isTrue e X.env whole=(do let v ← whole;standAt e.pos;holding [v] (truthy v)):=by intro _;rfl):PT X e (tB t):=by
 intro pins s σ H Q I hw
 refine isTrue_plain (thn (h pins s σ H _ I hw) fun v s1 hz=>?_) (he _)
 obtain⟨x,H1,I1,r1,q1⟩:=hz
 obtain⟨d,rfl,q⟩:=q1
 cases r1
 exact za8 ⟨H1,I1,q⟩
variable {tA tB':TT}{rest:List Expr}
def Quh (t u:TT):TT:=fun σ H Q=>t σ H fun c H1=>if c=true then u σ H1 Q else Q false H1
def tOr (t u:TT):TT:=fun σ H Q=>t σ H fun c H1=>if c=true then Q true H1 else u σ H1 Q
def Qui (t:TT):TT:=fun σ H Q=>t σ H fun c H1=>Q (!c) H1
theorem QmX (ha:PT X a tA):PW X (.BoolOp .And [a] pos) tA:=by
 intro wh pins s σ H Q I h
 refine isTrue_and (thn (ha pins s σ H Q I h) fun c s1 e=>?_)
 cases c with
 |true=>exact isTrue_and_nil e
 |false=>exact e
theorem Qo3 (ha:PT X a tA):PW X (.BoolOp .Or [a] pos) tA:=by
 intro wh pins s σ H Q I h
 refine isTrue_or (thn (ha pins s σ H Q I h) fun c s1 e=>?_)
 cases c with
 |false=>exact isTrue_or_nil e
 |true=>exact e
theorem Qo4 (ha:PT X a tA)(hb:PW X (.BoolOp .And (b::rest) pos) tB'):PW X (.BoolOp .And (a::b::rest) pos) (Quh tA tB'):=by
 intro wh pins s σ H Q I h
 refine isTrue_and (thn (ha pins s σ H _ I h) fun c s1 hz=>?_)
 obtain⟨H1,I1,q1⟩:=hz
 cases c with
 |true=>exact hb wh pins s1 σ H1 Q I1 q1
 |false=>exact⟨H1,I1,q1⟩
theorem Qr8 (ha:PT X a tA)(hb:PW X (.BoolOp .Or (b::rest) pos) tB'):PW X (.BoolOp .Or (a::b::rest) pos) (tOr tA tB'):=by
 intro wh pins s σ H Q I h
 refine isTrue_or (thn (ha pins s σ H _ I h) fun c s1 hz=>?_)
 obtain⟨H1,I1,q1⟩:=hz
 cases c with
 |true=>exact⟨H1,I1,q1⟩
 |false=>exact hb wh pins s1 σ H1 Q I1 q1
theorem Qo5 (ha:PT X a tA):PT X (.UnaryOp .Not a pos) (Qui tA):=by
 intro pins s σ H Q I h
 exact isTrue_not (ha pins s σ H (fun c H1=>Q (!c) H1) I h)
def Qr9 (ta tb:TE):TE:=fun σ H Q=>ta σ H fun x H1=>∃c,x=.bl c/\if c=true then tb σ H1 Q else Q (.bl false) H1
def Qsa (ta:TE):TE:=fun σ H Q=>ta σ H fun x H1=>∃c,x=.bl c/\Q (.bl (!c)) H1
theorem Qo6 {op}{t:TE}(h:PE X a t):PE X (.BoolOp op [a] pos) t:=fun pins s σ H Q I hw=>BoolOp_one (h pins s σ H Q I hw)
theorem Qo7 (ha:PE X a ta)(hb:PE X (.BoolOp .And (b::rest) pos) tb):PE X (.BoolOp .And (a::b::rest) pos) (Qr9 ta tb):=by
 intro pins s σ H Q I h
 refine BoolOp_and (thn (ha pins s σ H _ I h) fun v s1 hz=>?_)
 obtain⟨x,H1,I1,r1,q1⟩:=hz
 obtain⟨c,rfl,q1⟩:=q1
 cases r1
 refine za8 ?_
 cases c with
 |true=>exact hb pins s1 σ H1 Q I1 q1
 |false=>exact⟨.bl false,H1,I1,rfl,q1⟩
theorem Qo8 (ha:PE X a ta):PE X (.UnaryOp .Not a pos) (Qsa ta):=by
 intro pins s σ H Q I h
 refine UnaryOp_ (thn (ha pins s σ H _ I h) fun v s1 hz=>?_)
 obtain⟨x,H1,I1,r1,q1⟩:=hz
 obtain⟨c,rfl,q1⟩:=q1
 cases r1
 exact not_of (za8 ⟨.bl (!c),H1,I1,rfl,q1⟩)
def tIf (t:TT)(ta tb:TE):TE:=fun σ H Q=>t σ H fun c H1=>if c=true then ta σ H1 Q else tb σ H1 Q
theorem Qlc {c:Expr}(hc:PT X c tA)(ha:PE X a ta)(hb:PE X b tb):PE X (.IfExp c a b pos) (tIf tA ta tb):=by
 intro pins s σ H Q I h
 refine wpAny_IfExp (thn (hc pins s σ H _ I h) fun d s1 hz=>?_)
 obtain⟨H1,I1,q1⟩:=hz
 cases d with
 |true=>exact ha pins s1 σ H1 Q I1 q1
 |false=>exact hb pins s1 σ H1 Q I1 q1
end
def SqL (K:z01)(H:Hp)(a:Addr)(xs:List V):Prop:=
 Rd H a (.lst xs)\/
  ∃(o:Obj) (its:Array Value) (n:Nat),K.lookup a=some o/\o.cls=.type "list" /\ o.dict=none/\o.data=.seq its n/\its.size<=z15/\Vals xs its.toList
def SqT (K:z01)(H:Hp)(a:Addr)(xs:List V):Prop:=
 Rd H a (.tup xs)\/
  ∃(o:Obj) (its:Array Value) (n:Nat),K.lookup a=some o/\o.cls=.type "tuple" /\ o.data=.seq its n/\its.size<=z15/\Vals xs its.toList
def Quj:Value->Option V
 |.none=>some .non
 |.bool b=>some (.bl b)
 |.int i _=>some (.int i)
 |.str x _=>some (.str x)
 |.bytes b _=>some (.byt b)
 |.float b _=>some (.flt b)
 |.ref a=>some (.ref a)
 |.type n=>some (.ty n)
 |_=>none
theorem RelV.abs {x:V}{u:Value}(r:RelV x u):Quj u=some x:=by
 cases x with
 |non=>cases r;rfl
 |bl _=>cases r;rfl
 |int _=>obtain⟨t,rfl⟩:=r;rfl
 |str _=>obtain⟨t,rfl⟩:=r;rfl
 |byt _=>obtain⟨t,rfl⟩:=r;rfl
 |flt _=>obtain⟨t,rfl⟩:=r;rfl
 |ref _=>cases r;rfl
 |ty _=>cases r;rfl
theorem RelV.inj {x y:V}{u:Value}(r:RelV x u)(q:RelV y u):x=y:=z22 (r.abs.symm.trans q.abs)
theorem Vals.inj:∀{xs ys:List V} {us:List Value},Vals xs us->Vals ys us->xs=ys
 |_,_,_,.nil,.nil=>rfl
 |_,_,_,.cons r t,.cons r' t'=>by rw[r.inj r',Vals.inj t t']
section
variable {X:Cx}{pins:List (Addr×Obj)}{σ:St}{H:Hp}{s:Shared}{a:Addr}{xs ys:List V}
theorem SqL.of {K:z01}(h:H a=some (.lst xs)):SqL K H a xs:=.inl (.inl h)
theorem SqT.of {K:z01}(h:H a=some (.tup xs)):SqT K H a xs:=.inl (.inl h)
theorem Inv.list (I:Inv X pins σ H s)(h:SqL X.K H a xs):∃its:List Value,Vals xs its/\PlainL s.heap a its.toArray/\xs.length<=z15:=by
 rcases h with h|⟨o,its,n,hk,hc,hd,hs,hz,r⟩
 ·obtain⟨z,its,n,r,e⟩:=h.ok I.hok
  exact⟨its,r,⟨_,n,e,rfl,rfl,rfl⟩,z⟩
 ·refine⟨its.toList,r,⟨o,n,I.kIn a o hk,hc,hd,by simpa using hs⟩,?_⟩
  have e:=r.length
  simp only[z78] at e
  lia
theorem Inv.tuple (I:Inv X pins σ H s)(h:SqT X.K H a xs):∃its:List Value,Vals xs its/\IsTup s.heap a its.toArray/\xs.length<=z15:=by
 rcases h with h|⟨o,its,n,hk,hc,hs,hz,r⟩
 ·obtain⟨z,its,r,p⟩:=h.ok I.hok
  exact⟨its,r,p,z⟩
 ·refine⟨its.toList,r,⟨o,I.kIn a o hk,hc,n,by simpa using hs⟩,?_⟩
  have e:=r.length
  simp only[z78] at e
  lia
theorem Inv.Qea (I:Inv X pins σ H s)(h:SqL X.K H a xs)(h':SqL X.K H a ys):xs=ys:=by
 obtain⟨its,r,⟨o,n,e,_,_,d⟩,_⟩:=I.list h
 obtain⟨its',r',⟨o',n',e',_,_,d'⟩,_⟩:=I.list h'
 rw[e] at e';cases e'
 rw[d] at d'
 injection d' with d1 _
 have:its=its':=by simpa using congrArg zr3 d1
 subst this
 exact r.inj r'
theorem Inv.QcG (I:Inv X pins σ H s)(h:SqT X.K H a xs)(h':SqT X.K H a ys):xs=ys:=by
 obtain⟨its,r,⟨o,e,_,n,d⟩,_⟩:=I.tuple h
 obtain⟨its',r',⟨o',e',_,n',d'⟩,_⟩:=I.tuple h'
 rw[e] at e';cases e'
 rw[d] at d'
 injection d' with d1 _
 have:its=its':=by simpa using congrArg zr3 d1
 subst this
 exact r.inj r'
end
abbrev Cx.wish (X:Cx)(E:Value->Shared->Prop):Cx:={ X with xe:=E }
abbrev Cx.nox (X:Cx):Cx:=X.wish fun _ _=>False
theorem Cx.Ok.wish {X:Cx}(ok:X.Ok)(E:Value->Shared->Prop):(X.wish E).Ok:=
 ⟨ok.mod,ok.kind,ok.glob,ok.blt,ok.above,ok.inj,ok.has,ok.cab,ok.hd,ok.frames,ok.stk,ok.exf,ok.bs,ok.bsz,ok.QoY,ok.QoZ,ok.QiP,ok.frf⟩
theorem Cx.Ok.Qb6 {X:Cx}{E:Value->Shared->Prop}(ok:(X.wish E).Ok):X.Ok:=
 ⟨ok.mod,ok.kind,ok.glob,ok.blt,ok.above,ok.inj,ok.has,ok.cab,ok.hd,ok.frames,ok.stk,ok.exf,ok.bs,ok.bsz,ok.QoY,ok.QoZ,ok.QiP,ok.frf⟩
section
variable {X:Cx}{pins:List (Addr×Obj)}{σ:St}{H:Hp}{s:Shared}{E:Value->Shared->Prop}
theorem Inv.wish (I:Inv X pins σ H s)(E:Value->Shared->Prop):Inv (X.wish E) pins σ H s:=⟨I.ok.wish E,I.os,I.bare,I.base,I.loc,I.cell,I.free,I.QcF,I.pin,I.hok,I.len⟩
theorem Inv.Qb6 (I:Inv (X.wish E) pins σ H s):Inv X pins σ H s:=⟨I.ok.Qb6,I.os,I.bare,I.base,I.loc,I.cell,I.free,I.QcF,I.pin,I.hok,I.len⟩
theorem SP.Qb6 {D:Ends}{f:Flow}{s':Shared}(h:SP (X.wish E) pins D f s'):SP X pins D f s':=by
 cases f with
 |next=>obtain⟨σ',H',I,q⟩:=h;exact⟨σ',H',I.Qb6,q⟩
 |brk=>obtain⟨σ',H',I,q⟩:=h;exact⟨σ',H',I.Qb6,q⟩
 |cont=>obtain⟨σ',H',I,q⟩:=h;exact⟨σ',H',I.Qb6,q⟩
 |ret u=>obtain⟨v,σ',H',I,r,q⟩:=h;exact⟨v,σ',H',I.Qb6,r,q⟩
theorem PSs.nox {st:List Stmt}{t:TS}(h:PSs X.nox st t):PSs X st t:=fun pins s σ H D I hw=>
 zb5 (h pins s σ H D (I.wish _) hw) (fun _ _ q=>q.Qb6) fun _ _ z=>zb6 z
end
section
variable {X:Cx}{st:Stmt}{rest:List Stmt}{t u:TS}{e:Expr}{te:TE}{pos:Pos}
def Qsb:TS:=fun D σ H=>D.nx σ H
def Quk (t u:TS):TS:=fun D σ H=>t { D with nx:=u D } σ H
theorem QmY:PSs X [] Qsb:=fun _ _ σ H _ I h=>zk6 ⟨σ,H,I,h⟩
theorem Qhf (h1:PS X st t)(h2:PSs X rest u):PSs X (st::rest) (Quk t u):=by
 intro pins s σ H D I h
 refine wpAny_execs_cons (thn (h1 pins s σ H { D with nx:=u D } I h) fun f s1 q=>?_)
 cases f with
 |next=>
  obtain⟨σ',H',I',q⟩:=q
  exact h2 pins s1 σ' H' D I' q
 |ret v=>exact q
 |brk=>exact q
 |cont=>exact q
theorem QiV (h1:PS X st t):PSs X [st] t:=by
 intro pins s σ H D I h
 refine wpAny_execs_cons (thn (h1 pins s σ H D I h) fun f s1 q=>?_)
 cases f with
 |next=>exact zk6 q
 |ret v=>exact q
 |brk=>exact q
 |cont=>exact q
theorem Inv.quiet {pins:List (Addr×Obj)}{σ:St}{H:Hp}{s:Shared}(I:Inv X pins σ H s):interactive X.env=false:=by simp[interactive,I.ok.kind]
def Qsc (te:TE):TS:=fun D σ H=>te σ H fun _ H1=>D.nx σ H1
theorem Qeb (he:PE X e te)(hs:swapsWith e none pos.line X.env=pure false:=by rfl):PS X (.Expr e pos) (Qsc te):=by
 intro pins s σ H D I h
 exact wpAny_Expr_any (thn (he pins s σ H _ I h) fun v s1 ⟨x,H1,I1,r1,q1⟩=>⟨σ,H1,I1,q1⟩) I.quiet hs
def Qul (te:TE):TS:=fun D σ H=>te σ H D.rt
theorem Qo9 (he:PE X e te):PS X (.Return (some e) pos) (Qul te):=by
 intro pins s σ H D I h
 exact wpAny_Return_some (thn (he pins s σ H _ I h) fun v s1 ⟨x,H1,I1,r1,q1⟩=>⟨x,σ,H1,I1,r1,q1⟩)
def Qum (c:TT)(t u:TS):TS:=fun D σ H=>c σ H fun b H1=>if b=true then t D σ H1 else u D σ H1
theorem Qsd {c:Expr}{a b:List Stmt}{tc:TT}(hc:PT X c tc)(ha:PSs X a t)(hb:PSs X b u):PS X (.If c a b pos) (Qum tc t u):=by
 intro pins s σ H D I h
 refine wpAny_If (thn (hc pins s σ H _ I h) fun d s1 hz=>?_)
 obtain⟨H1,I1,q1⟩:=hz
 cases d with
 |true=>exact ha pins s1 σ H1 D I1 q1
 |false=>exact hb pins s1 σ H1 D I1 q1
end
abbrev TG:=V->St->Hp->(St->Hp->Prop)->Prop
abbrev TGs:=List V->St->Hp->(St->Hp->Prop)->Prop
def PG (X:Cx)(target:Expr)(t:TG):Prop:=
 ∀(pins:List (Addr×Obj)) (s:Shared) (σ:St) (H:Hp) (v:V) (u:Value) (Q:St->Hp->Prop),Inv X pins σ H s->RelV v u->t v σ H Q->
  wpAny (model X.prog X.w) X.A (assign target X.env u) (fun _ s'=>∃σ' H',Inv X pins σ' H' s'/\Q σ' H') X.xe s
def PGs (X:Cx)(ts:List Expr)(t:TGs):Prop:=
 ∀(pins:List (Addr×Obj)) (s:Shared) (σ:St) (H:Hp) (vs:List V) (us:List Value) (Q:St->Hp->Prop),Inv X pins σ H s->Vals vs us->t vs σ H Q->
  wpAny (model X.prog X.w) X.A (assignInOrder ((assignEach ts X.env).map (·.2)) us) (fun _ s'=>∃σ' H',Inv X pins σ' H' s'/\Q σ' H') X.xe s
abbrev Qse:=V->V->V->Hp->(Hp->Prop)->Prop
def QtK (X:Cx)(t:Qse):Prop:=
 ∀(pins:List (Addr×Obj)) (s:Shared) (σ:St) (H:Hp) (o i v:V) (ov iv u:Value) (Q:Hp->Prop),Inv X pins σ H s->RelV o ov->RelV i iv->RelV v u->t o i v H Q->
  wpAny (model X.prog X.w) X.A (setItem ov iv u) (fun _ s'=>∃H',Inv X pins σ H' s'/\Q H') X.xe s
section
variable {X:Cx}{pos:Pos}
def VH (i:Nat):TG:=fun v σ H Q=>Q (σ.set i (some v)) H
theorem QA {i:Nat}{x:Str}(hN:X.N.Nodup)(hi:X.N[i]? = some x)(hx:Loc X.env.scope x)(hf:X.fn x=true\/X.env.scope.names.lookup x=some .local:=by first|exact .inl rfl|exact .inr rfl|assumption):PG X (.Name x pos) (VH i):=by
 intro pins s σ H v u Q I r h
 exact wpAny_assign_Name (Qhe I hN hi hx r (fun s' I'=>⟨_,H,I',h⟩) hf)
def QmZ:TGs:=fun vs σ H Q=>vs=[]/\Q σ H
def QbQ (t:TG)(u:TGs):TGs:=fun vs σ H Q=>∃v r,vs=v::r/\t v σ H fun σ' H'=>u r σ' H' Q
theorem Vq:PGs X [] QmZ:=by
 intro pins s σ H vs us Q I r h
 obtain⟨e,h⟩:=h
 subst e
 cases r
 exact assignInOrder_nil ⟨σ,H,I,h⟩
theorem QZ {e:Expr}{es:List Expr}{t:TG}{u:TGs}(h1:PG X e t)(h2:PGs X es u)
  (hs:(assignEach (e::es) X.env).map (·.2)=assign e X.env::(assignEach es X.env).map (·.2):=by rfl):PGs X (e::es) (QbQ t u):=by
 intro pins s σ H vs us Q I r h
 obtain⟨v,vr,e1,h⟩:=h
 subst e1
 cases r with
 |cons r rr=>
  rw[hs]
  refine assignInOrder_cons (thn (h1 pins s σ H _ _ _ I r h) fun _ s1 hz=>?_)
  obtain⟨σ1,H1,I1,q1⟩:=hz
  exact h2 pins s1 σ1 H1 _ _ Q I1 rr q1
def Qm0 (K:z01)(n:Nat)(t:TGs):TG:=fun v σ H Q=>∃a xs,v=.ref a/\SqT K H a xs/\xs.length=n/\t xs σ H Q
theorem Qa2 {es:List Expr}{k:Nat}{t:TGs}{n:Nat}(hc:X.calm=true)(h:PGs X es t)
  (hn:(assignEach es X.env).length=n:=by rfl) (hst:(assignEach es X.env).findIdx? (·.1)=none:=by rfl):PG X (.Tuple es k pos) (Qm0 X.K n t):=by
 intro pins s σ H v u Q I r hw
 obtain⟨a,xs,e1,hq,hl,hw⟩:=hw
 subst e1
 cases r
 obtain⟨its,rv,ht,hz⟩:=I.tuple hq
 refine assign_Tuple_tuple (I.ok.hd hc) ht (by simp[hn,← hl,rv.length]) hst fun h' hx=>?_
 have I1:Inv X pins σ H { s with heap:=h' }:=I.kept (t':=s.toks) fun b o e=>hx b o (z52 (z34 e)) e
 exact h pins _ σ H xs _ Q I1 (by simpa using rv) hw
def Qhg (to ti:TE)(t:Qse):TG:=fun v σ H Q=>to σ H fun o H1=>ti σ H1 fun i H2=>t o i v H2 fun H3=>Q σ H3
theorem Qb7 {o i:Expr}{to ti:TE}{t:Qse}(ho:PE X o to)(hi:PE X i ti)(hs:QtK X t)
  (ha:∀v,assign (.Subscript o i pos) X.env v=(do
   let ov ← holding [v] (eval o X.env)
   let iv ← holding [v,ov] (eval i X.env)
   standAt pos
   holding [v,ov,iv] (setItem ov iv v)
   release [v,ov,iv] []):=by intro _;rfl):PG X (.Subscript o i pos) (Qhg to ti t):=by
 intro pins s σ H v u Q I r h
 rw[ha]
 refine z19 (zf4 (thn (ho pins s σ H _ I h) fun ov s1 hz=>?_))
 obtain⟨x,H1,I1,r1,q1⟩:=hz
 refine z19 (zf4 (thn (hi pins s1 σ H1 _ I1 q1) fun iv s2 hz=>?_))
 obtain⟨y,H2,I2,r2,q2⟩:=hz
 refine z19 (zt8 (z19 (zf4 (thn (hs pins s2 σ H2 x y v ov iv u _ I2 r1 r2 r q2) fun _ s3 hz=>?_))))
 obtain⟨H3,I3,q3⟩:=hz
 exact wpAny_release ⟨σ,H3,I3,q3⟩
def Qpa (te:TE)(g:TG):TS:=fun D σ H=>te σ H fun x H1=>g x σ H1 D.nx
theorem QiW {tg e:Expr}{te:TE}{g:TG}(he:PE X e te)(hg:PG X tg g)(hs:swapsWithSole [tg] e pos.line X.env=pure false:=by rfl)(hw:swappedStores [tg] e X.env=pure none:=by rfl)
  (h1:(assignEach [tg] X.env).map (·.2)=[assign tg X.env]:=by rfl):PS X (.Assign [tg] e pos) (Qpa te g):=by
 intro pins s σ H D I h
 refine wpAny_Assign_stores (thn (he pins s σ H _ I h) fun v s1 hz=>?_) hs hw
 obtain⟨x,H1,I1,r1,q1⟩:=hz
 rw[h1]
 exact thn (hg pins s1 σ H1 x v _ I1 r1 q1) fun _ s2 q=>q
theorem Qmi {i:Nat}{x:Str}{e:Expr}{te:TE}{pos':Pos}(hN:X.N.Nodup)(hi:X.N[i]? = some x)(hx:Loc X.env.scope x)(he:PE X e te)(hs:swapsWith e (some (.Name x pos')) pos.line X.env=pure false:=by rfl)(hf:X.fn x=true\/X.env.scope.names.lookup x=some .local:=by first|exact .inl rfl|exact .inr rfl|assumption) :
  PS X (.Assign [.Name x pos'] e pos) (Qpa te (VH i)):=by
 intro pins s σ H D I h
 refine wpAny_Assign_Name (thn (he pins s σ H _ I h) fun v s1 hz=>?_) hs
 obtain⟨y,H1,I1,r1,q1⟩:=hz
 exact Qhe I1 hN hi hx r1 (fun s2 I2=>⟨_,H1,I2,q1⟩) hf
end
section
variable {X:Cx}{pos:Pos}
def Qpb (c:TT)(tb:TS):TS:=fun D σ H=>∃W:Nat->St->Hp->Prop,(∃m,W m σ H)/\∀m σ H,W m σ H->
 c σ H fun b H1=>if b=true then ∃N:St->Hp->Prop,(∀σ' H',N σ' H'->∃m',m' < m/\W m' σ' H')/\tb { D with nx:=N,ct:=N,bk:=D.nx } σ H1 else D.nx σ H1
theorem Qld {c:Expr}{body:List Stmt}{tc:TT}{tb:TS}(hp:PassesOwn (model X.prog X.w) X.A X.env X.xe)(hc:PT X c tc)(hb:PSs X body tb):PS X (.While c body [] pos) (Qpb tc tb):=by
 intro pins s σ H D I h
 obtain⟨W,⟨m0,w0⟩,turn⟩:=h
 refine wpAny_While (codeAny_whileLoop (fun n s'=>∃σ' H',Inv X pins σ' H' s'/\W n σ' H') ?_ m0 ⟨σ,H,I,w0⟩)
 rintro n s1 ⟨σ1,H1,I1,w1⟩
 refine zd3 hp (thn (hc pins s1 σ1 H1 _ I1 (turn n σ1 H1 w1)) fun b s2 hz=>?_)
 obtain⟨H2,I2,q2⟩:=hz
 cases b with
 |true=>
  obtain⟨N,hN,q2⟩:=q2
  rw[if_pos rfl]
  refine zd3 hp (thn (hb pins s2 σ1 H2 _ I2 q2) fun f s3 q3=>?_)
  cases f with
  |next=>
   obtain⟨σ3,H3,I3,n3⟩:=q3
   obtain⟨m',hm,w3⟩:=hN σ3 H3 n3
   exact⟨m',hm,σ3,H3,I3,w3⟩
  |cont=>
   obtain⟨σ3,H3,I3,n3⟩:=q3
   obtain⟨m',hm,w3⟩:=hN σ3 H3 n3
   exact⟨m',hm,σ3,H3,I3,w3⟩
  |brk=>exact q3
  |ret v=>exact q3
 |false=>
  rw[if_neg z32]
  exact zk6 ⟨σ1,H2,I2,q2⟩
end
structure It where
 go:Nat->Hp->Prop
 yld:Nat->Hp->V->Hp->Prop
 stop:Nat->Hp->Prop
def Qk9 (X:Cx)(pins:List (Addr×Obj))(H:Hp)(b:Addr):Prop:=
 H b=none/\b≠X.env.locals/\b∉X.fs/\(b∈X.ex\/X.s₀.heap.objs.size<=b)/\(∀x c,X.env.cells.lookup x=some c->c≠b)/\∀p∈X.pn++pins,p.1≠b
theorem Inv.Qpc {X:Cx}{pins:List (Addr×Obj)}{σ:St}{H H':Hp}{s:Shared}{b:Addr}(I:Inv X pins σ H s)(hb:s.heap.objs.size<=b)(hn:H' b=none):Qk9 X pins H' b:=by
 refine⟨hn,zn2 (z39 I.lt hb),I.QtJ hb,.inr (z62 I.sz hb),fun x c e z=>?_,fun p hp z=>?_⟩
 ·obtain⟨v,q⟩:=I.cell x c e
  exact absurd (z39 q.lt (by rw[z];exact hb)) (zc3 _)
 ·exact absurd (z39 (z34 (I.pin p hp).1) (by rw[z];exact hb)) (zc3 _)
structure Turn (P:Program)(w:World)(K:z01)(tg:Expr)(J:It)(fp:List Addr)(it:Addr)(tn:Nat->Heap->Prop):Prop where
 mem:it∈fp
 obj:∀i h,tn i h->∀b∈fp,∃o,h.get? b=some o/\∀v,o.data≠.cell v
 keep:∀i h h',tn i h->(∀b∈fp,∀o,h.get? b=some o->h'.get? b=some o)->tn i h'
 item:∀(X:Cx),X.prog=P->X.w=w->X.K=K->X.calm=true->∀(i:Nat) (pins:List (Addr×Obj)) (s:Shared) (σ:St) (H:Hp) (E:Value->Shared->Prop),Inv X pins σ H s->(∀b∈fp,Qk9 X pins H b)->tn i s.heap->J.go i H->
  wpAny (model P w) X.A (pyNext (.ref it)) (fun r s1=>∃u,r=some u/\
   wpAny (model P w) X.A (letOwnedTupleGo tg (.ref it) u) (fun _ s2=>∃x H',Inv X pins σ H' s2/\RelV x u/\J.yld i H x H'/\tn (i+1) s2.heap/\∀b∈fp,H' b=none) E s1) E s
 done:∀(X:Cx),X.prog=P->X.w=w->X.K=K->X.calm=true->∀(i:Nat) (pins:List (Addr×Obj)) (s:Shared) (σ:St) (H:Hp) (E:Value->Shared->Prop),Inv X pins σ H s->(∀b∈fp,Qk9 X pins H b)->tn i s.heap->J.stop i H->
  wpAny (model P w) X.A (pyNext (.ref it)) (fun r s1=>r=none/\Inv X pins σ H s1) E s
 self:∀(A:Around) (i:Nat) (s:Shared) (Q:Value->Shared->Prop) (E:Value->Shared->Prop),tn i s.heap->Q (.ref it) s->wpAny (model P w) A (pyIter (.ref it)) Q E s
abbrev TI:=St->Hp->(It->Hp->Prop)->Prop
def PIE (X:Cx)(pins:List (Addr×Obj))(σ:St)(tg:Expr)(R:It->Hp->Prop)(itv:Value)(s2:Shared):Prop:=
 ∃(it:Addr) (fp:List Addr) (tn:Nat->Heap->Prop) (J:It) (H':Hp),itv=.ref it/\Inv X pins σ H' s2/\Turn X.prog X.w X.K tg J fp it tn/\tn 0 s2.heap/\(∀b∈fp,Qk9 X pins H' b)/\R J H'
def PI (X:Cx)(tg iter:Expr)(wi:TI):Prop:=
 ∀(pins:List (Addr×Obj)) (s:Shared) (σ:St) (H:Hp) (R:It->Hp->Prop),Inv X pins σ H s->wi σ H R->
  wpAny (model X.prog X.w) X.A (eval iter X.env) (fun v s1=>wpAny (model X.prog X.w) X.A (pyIter v) (PIE X pins σ tg R) X.xe s1) X.xe s
theorem Qm1 {M:Model}{A:Around}{E:Value->Shared->Prop}{s:Shared}{tg:Expr}{it:Addr}{u:Value}{o:Obj}{n:String}{vs:Array Value}{Q:Unit->Shared->Prop}(ho:s.heap.get? it=some o)(hc:o.cls=.type n)(hd:o.data=.fields vs)
  (hn:["enumerate","zip","dict_itemiterator","dict_reverseitemiterator","odict_iterator","itertools.zip_longest","itertools.pairwise"].contains n=false) (hQ:Q () s):wpAny M A (letOwnedTupleGo tg (.ref it) u) Q E s:=by
 unfold letOwnedTupleGo
 cases tg<;>first
  |exact z51 hQ
  |(cases u<;>first
    |exact z51 hQ
    |(refine z19 (wpAny_load ho ?_);rw[hc,hd];show wpAny M A (if(["enumerate","zip","dict_itemiterator","dict_reverseitemiterator","odict_iterator","itertools.zip_longest","itertools.pairwise"].contains n && vs[0]? == some (rawInt _))=true then _ else _) Q E s;rw[if_neg (by intro h;rw[hn,Bool.false_and] at h;cases h)];exact z51 hQ))
def Itl (K:z01)(a:Addr):It:=
 ⟨fun i H=>∃xs x,SqL K H a xs/\xs[i]? = some x,fun i H x H'=>H'=H/\∀xs,SqL K H a xs->xs[i]? = some x,fun i H=>∃xs,SqL K H a xs/\xs.length<=i⟩
def Itt (K:z01)(a:Addr):It:=
 ⟨fun i H=>∃xs x,SqT K H a xs/\xs[i]? = some x,fun i H x H'=>H'=H/\∀xs,SqT K H a xs->xs[i]? = some x,fun i H=>∃xs,SqT K H a xs/\xs.length<=i⟩
def Itr (lo:Int)(n:Nat):It:=⟨fun i _=>i<n,fun i H x H'=>H'=H/\x=.int (lo+i),fun i _=>n<=i⟩
theorem QiX {P:Program}{w:World}{K:z01}{tg:Expr}(a it:Addr):Turn P w K tg (Itl K a) [it] it (fun i h=>h.IsListIter it a i) where
 mem:=by simp
 obj:=fun i h st b hb=>by
  have e:b=it:=by simpa using hb
  subst e
  obtain⟨o,e,c,d⟩:=st
  exact⟨o,e,fun v z=>by rw[d] at z;cases z⟩
 keep:=fun i h h' st k=>st.at fun o e=>k it (by simp) o e
 item:=by
  intro X hP hw hK hc i pins s σ H E I hf st hg
  subst hP hw hK
  obtain⟨xs,x,hq,hx⟩:=hg
  obtain⟨its,rv,p,hz⟩:=I.list hq
  obtain⟨u,hu,ru⟩:=rv.get hx
  obtain⟨f0,f1,f2,f3,f4,f5⟩:=hf it (by simp)
  refine wpAny_pyNext_list_item st p.isList (x:=u) (by simpa using hu) fun h' st' sb=>?_
  have I1:Inv X pins σ H { s with heap:=h' }:=I.turned (t':=s.toks) (fun b o hb e=>(sb.2 b hb).trans e) f0 f1 f3 f4 f5
  obtain⟨o,e,c,d⟩:=id st'
  exact⟨u,rfl,Qm1 (s:={ s with heap:=h' }) e c d (by decide) ⟨x,H,I1,ru,⟨rfl,fun ys hy=>by rw[I.Qea hy hq];exact hx⟩,st',fun b hb=>(hf b hb).1⟩⟩
 done:=by
  intro X hP hw hK hc i pins s σ H E I hf st hg
  subst hP hw hK
  obtain⟨xs,hq,hx⟩:=hg
  obtain⟨its,rv,p,hz⟩:=I.list hq
  obtain⟨f0,f1,f2,f3,f4,f5⟩:=hf it (by simp)
  have hl:=rv.length
  exact wpAny_pyNext_list_end (I.ok.hd hc) st p.isList (by simp;lia) fun h' eb=>⟨rfl,I.turned (t':=s.toks) (fun b o hb e=>eb b o hb e) f0 f1 f3 f4 f5⟩
 self:=fun _ _ _ _ _ st h=>wpAny_pyIter_listiter st h
theorem Qh5 {P:Program}{w:World}{K:z01}{tg:Expr}(a it:Addr):Turn P w K tg (Itt K a) [it] it (fun i h=>h.IsTupleIter it a i) where
 mem:=by simp
 obj:=fun i h st b hb=>by
  have e:b=it:=by simpa using hb
  subst e
  obtain⟨o,e,c,d⟩:=st
  exact⟨o,e,fun v z=>by rw[d] at z;cases z⟩
 keep:=fun i h h' st k=>st.at fun o e=>k it (by simp) o e
 item:=by
  intro X hP hw hK hc i pins s σ H E I hf st hg
  subst hP hw hK
  obtain⟨xs,x,hq,hx⟩:=hg
  obtain⟨its,rv,p,hz⟩:=I.tuple hq
  obtain⟨u,hu,ru⟩:=rv.get hx
  obtain⟨f0,f1,f2,f3,f4,f5⟩:=hf it (by simp)
  refine wpAny_pyNext_tuple_item st (show s.heap.IsTuple a its.toArray from p) (x:=u) (by simpa using hu) fun h' st' sb=>?_
  have I1:Inv X pins σ H { s with heap:=h' }:=I.turned (t':=s.toks) (fun b o hb e=>(sb.2 b hb).trans e) f0 f1 f3 f4 f5
  obtain⟨o,e,c,d⟩:=id st'
  exact⟨u,rfl,Qm1 (s:={ s with heap:=h' }) e c d (by decide) ⟨x,H,I1,ru,⟨rfl,fun ys hy=>by rw[I.QcG hy hq];exact hx⟩,st',fun b hb=>(hf b hb).1⟩⟩
 done:=by
  intro X hP hw hK hc i pins s σ H E I hf st hg
  subst hP hw hK
  obtain⟨xs,hq,hx⟩:=hg
  obtain⟨its,rv,p,hz⟩:=I.tuple hq
  obtain⟨f0,f1,f2,f3,f4,f5⟩:=hf it (by simp)
  have hl:=rv.length
  exact wpAny_pyNext_tuple_end (I.ok.hd hc) st (show s.heap.IsTuple a its.toArray from p) (by simp;lia) fun h' eb=>⟨rfl,I.turned (t':=s.toks) (fun b o hb e=>eb b o hb e) f0 f1 f3 f4 f5⟩
 self:=fun _ _ _ _ _ st h=>wpAny_pyIter_tupleiter st h
theorem Qh6 {P:Program}{w:World}{K:z01}{tg:Expr}(it:Addr)(lo:Int)(n:Nat):Turn P w K tg (Itr lo n) [it] it (fun i h=>IsRangeIter h it (lo+(i:Nat) * 1) ((n:Int) - (i:Nat)) 1) where
 mem:=by simp
 obj:=fun i h st b hb=>by
  have e:b=it:=by simpa using hb
  subst e
  exact⟨_,st,fun v z=>by
   have z':Data.fields _=Data.cell v:=z
   cases z'⟩
 keep:=fun i h h' st k=>k it (by simp) _ st
 item:=by
  intro X hP hw hK hc i pins s σ H E I hf st hg
  subst hP hw hK
  obtain⟨f0,f1,f2,f3,f4,f5⟩:=hf it (by simp)
  have W:=Walks.range (prog:=X.prog) (w:=X.w) (I.ok.hd hc) it lo 1 n
  refine W.item i s _ _ hg st fun v h' tk hv st' kk=>?_
  obtain⟨t,rfl⟩:=hv
  have I1:Inv X pins σ H { s with heap:=h',toks:=tk }:=I.turned (fun b o hb e=>kk b o (by simpa using hb) e) f0 f1 f3 f4 f5
  refine⟨_,rfl,Qm1 (s:={ s with heap:=h',toks:=tk }) (n := "range_iterator") st' rfl rfl (by decide) ⟨.int (lo+i),H,I1,⟨t,?_⟩,⟨rfl,rfl⟩,st',fun b hb=>(hf b hb).1⟩⟩
  rw[Int.mul_one]
 done:=by
  intro X hP hw hK hc i pins s σ H E I hf st hg
  subst hP hw hK
  obtain⟨f0,f1,f2,f3,f4,f5⟩:=hf it (by simp)
  exact wpAny_pyNext_range_end (I.ok.hd hc) st (by have:n<=i:=hg;lia) fun h' eb=>⟨rfl,I.turned (t':=s.toks) (fun b o hb e=>eb b o hb e) f0 f1 f3 f4 f5⟩
 self:=fun _ _ _ _ _ st h=>wpAny_pyIter_rangeiter st h
section
variable {X:Cx}{tg:Expr}
theorem Qle {pins:List (Addr×Obj)}{σ:St}{H:Hp}{s:Shared}{R:It->Hp->Prop}{E:Value->Shared->Prop}{lo hi:Int}{t u v:Tok}{tk:Nat}(I:Inv X pins σ H s)(h1 : -(2 ^ 62)<=lo)(h2:lo<2 ^ 62)(h3 : -(2 ^ 62)<=hi)(h4:hi<2 ^ 62)
  (q:R (Itr lo (hi - lo).toNat) H):wpAny (model X.prog X.w) X.A (pyIter (.ref s.heap.objs.size)) (PIE X pins σ tg R) E { s with heap:=s.heap.push { cls:=.type "range",data:=.fields #[.int lo t,.int hi u,.int 1 v]},toks:=tk }:=by
 refine wpAny_pyIter_range (IsRange.new ..) (small_one h1 h2 h3 h4) ?_
 have I1:Inv X pins σ H { s with heap:=s.heap.push { cls:=.type "range",data:=.fields #[.int lo t,.int hi u,.int 1 v]},toks:=tk }:=I.kept fun b o e=>z17 _ e
 refine⟨(s.heap.push { cls:=.type "range",data:=.fields #[.int lo t,.int hi u,.int 1 v]}).objs.size,[(s.heap.push { cls:=.type "range",data:=.fields #[.int lo t,.int hi u,.int 1 v]}).objs.size],_,_,H,rfl,
  I1.kept (t':=tk) fun b o e=>z17 _ e,Qh6 _ lo (hi - lo).toNat,?_,fun b hb=>?_,q⟩
 ·have e1:lo+((0:Nat):Int) * 1=lo:=by simp
  have e2:(((hi - lo).toNat:Nat):Int) - ((0:Nat):Int)=Builtin.Range.rangeSize lo hi 1:=by rw[rangeSize_one];split<;>lia
  show IsRangeIter _ _ (lo+((0:Nat):Int) * 1) ((((hi - lo).toNat:Nat):Int) - ((0:Nat):Int)) 1
  rw[e1,e2]
  exact z45 _ rfl
 ·have e:b=(s.heap.push { cls:=.type "range",data:=.fields #[.int lo t,.int hi u,.int 1 v]}).objs.size:=by simpa using hb
  subst e
  exact I1.Qpc (z27 _) (I1.hok.fresh (z27 _))
def Qsf (ta:TA):TI:=fun σ H R=>ta σ H fun vs H1=>∃j:Int,vs=[.int j]/\-(2 ^ 62)<=j/\j<2 ^ 62/\R (Itr 0 j.toNat) H1
theorem QiY {a:Expr}{ta:TA}{p pos:Pos}(hg:Gl X "range")(hm:X.mg "range" = none)(ha:PA X [a] ta)(hs:starEach [a] X.env=[(false,eval a X.env)]:=by rfl):PI X tg (.Call (.Name "range" p) [a] [] pos) (Qsf ta):=by
 intro pins s σ H R I h
 refine Call_ (Qfc I hg hm boot_range (zf1 (thn (ha pos pins s σ H _ I h) fun us s1 hz=>?_) hs rfl))
 obtain⟨vs,H1,I1,r1,q1⟩:=hz
 obtain⟨j,e,q1,q2,q⟩:=q1
 subst e
 cases r1 with
 |cons r rr=>
  cases rr
  obtain⟨t,rfl⟩:=r
  exact call_range_1 (Qle I1 (by lia) (by lia) q1 q2 (by simpa using q))
def Qun (wi:TI)(g:TG)(tb:TS):TS:=fun D σ H=>wi σ H fun J H1=>∃W:Nat->Nat->St->Hp->Prop,(∃m,W 0 m σ H1)/\∀i m σ H,W i m σ H->
 (J.stop i H/\D.nx σ H)\/(J.go i H/\∃N:St->Hp->Prop,(∀σ' H',N σ' H'->∃m',m' < m/\W (i+1) m' σ' H')/\∀x H',J.yld i H x H'->g x σ H' fun σ2 H2=>tb { D with nx:=N,ct:=N,bk:=D.nx } σ2 H2)
def Qbs (fp:List Addr)(h:Heap):List (Addr×Obj):=fp.filterMap fun b=>(h.get? b).map fun o=>(b,o)
theorem QaS {fp:List Addr}{h:Heap}{b:Addr}{o:Obj}(hb:b∈fp)(e:h.get? b=some o):(b,o)∈Qbs fp h:=zl4.mpr ⟨b,hb,by rw[e];rfl⟩
theorem Qfd {fp:List Addr}{h:Heap}{p:Addr×Obj}(hp:p∈Qbs fp h):p.1∈fp/\h.get? p.1=some p.2:=by
 obtain⟨b,hb,e⟩:=zl4.mp hp
 cases q:h.get? b with
 |none=>rw[q] at e;cases e
 |some o=>
  rw[q] at e
  have e':(b,o)=p:=z22 e
  subst e'
  exact⟨hb,q⟩
theorem Inv.pinned {pins:List (Addr×Obj)}{σ:St}{H:Hp}{s:Shared}{fp:List Addr}(I:Inv X pins σ H s)(hf:∀b∈fp,Qk9 X pins H b)(ho:∀b∈fp,∃o,s.heap.get? b=some o/\∀v,o.data≠.cell v):Inv X (pins++Qbs fp s.heap) σ H s:=
 I.Qd9 fun p hp=>(z05.mp hp).elim (fun z=>I.pin p (z02 _ z)) fun z=>by
  obtain⟨hb,e⟩:=Qfd z
  obtain⟨f0,f1,f2,_⟩:=hf p.1 hb
  obtain⟨o,e',d⟩:=ho p.1 hb
  rw[e] at e';cases e'
  exact⟨e,f0,f1,f2,d⟩
theorem Inv.Qcp {pins pl:List (Addr×Obj)}{σ:St}{H:Hp}{s:Shared}(I:Inv X (pins++pl) σ H s):Inv X pins σ H s:=I.Qd9 fun p hp=>I.pin p (z02 _ (z06 _ hp))
theorem Qpd {iter:Expr}{body:List Stmt}{wi:TI}{g:TG}{tb:TS}{pos:Pos}(hp:PassesOwn (model X.prog X.w) X.A X.env X.xe)(hc:X.calm=true)(hi:PI X tg iter wi)(hg:PG X tg g)(hb:PSs X body tb)
  (hs:∀x,foldedSetIterable iter X.env x=pure x:=by intro _;rfl):PS X (.For tg iter body [] pos) (Qun wi g tb):=by
 intro pins s σ H D I h
 refine wpAny_For (thn (hi pins s σ H _ I h) fun v s1 h1=>thn h1 fun itv s2 h2=>?_) hs
 obtain⟨it,fp,tn,J,H2,e,I2,T,st2,f2,W,⟨m0,w0⟩,turn⟩:=h2
 subst e
 -- what stays true of the iterator's objects through the loop
 have stat:∀{H':Hp},(∀b∈fp,H' b=none)->∀b∈fp,Qk9 X pins H' b:=fun hn b hb=>⟨hn b hb,(f2 b hb).2⟩
 refine codeAny_forLoop_any (fun n s'=>∃i σ' H',Inv X pins σ' H' s'/\tn i s'.heap/\(∀b∈fp,H' b=none)/\W i n σ' H') ?_ m0 ⟨0,σ,H2,I2,st2,fun b hb=>(f2 b hb).1,w0⟩
 rintro n s3 ⟨i,σ3,H3,I3,st3,fr3,w3⟩
 rcases turn i n σ3 H3 w3 with⟨stop,qn⟩|⟨go,N,hN,step⟩
 ·refine zd3 hp (thn (T.done X rfl rfl rfl hc i pins s3 σ3 H3 X.xe I3 (stat fr3) st3 stop) fun r s4 hz=>?_)
  obtain⟨hr,I4⟩:=hz
  subst hr
  exact zk6 ⟨σ3,H3,I4,qn⟩
 ·refine zd3 hp (thn (T.item X rfl rfl rfl hc i pins s3 σ3 H3 X.xe I3 (stat fr3) st3 go) fun r s4 hz=>?_)
  obtain⟨u,hr,h4⟩:=hz
  subst hr
  refine zd3 hp (thn h4 fun _ s5 hz=>?_)
  obtain⟨x,H5,I5,r5,y5,st5,fr5⟩:=hz
  have I5':=I5.pinned (stat fr5) (T.obj _ _ st5)
  refine zd3 hp (thn (hg _ s5 σ3 H5 x u _ I5' r5 (step x H5 y5)) fun _ s6 hz=>?_)
  obtain⟨σ6,H6,I6,q6⟩:=hz
  refine zd3 hp (thn (hb _ s6 σ6 H6 _ I6 q6) fun f s7 q7=>?_)
  have again:∀{σ7:St} {H7:Hp},Inv X (pins++Qbs fp s5.heap) σ7 H7 s7->N σ7 H7->∃m,m<n/\∃i σ' H',Inv X pins σ' H' s7/\tn i s7.heap/\(∀b∈fp,H' b=none)/\W i m σ' H':=fun{σ7 H7} I7 n7=>by
   obtain⟨m',hm,w7⟩:=hN σ7 H7 n7
   refine⟨m',hm,i+1,σ7,H7,I7.Qcp,T.keep _ _ _ st5 fun b hb o e=>(I7.pin (b,o) (z02 _ (z02 _ (QaS hb e)))).1,fun b hb=>?_,w7⟩
   obtain⟨o,e,d⟩:=T.obj _ _ st5 b hb
   exact(I7.pin (b,o) (z02 _ (z02 _ (QaS hb e)))).2.1
  cases f with
  |next=>obtain⟨σ7,H7,I7,n7⟩:=q7;exact again I7 n7
  |cont=>obtain⟨σ7,H7,I7,n7⟩:=q7;exact again I7 n7
  |brk=>obtain⟨σ7,H7,I7,q7⟩:=q7;exact⟨σ7,H7,I7.Qcp,q7⟩
  |ret v=>obtain⟨x7,σ7,H7,I7,r7,q7⟩:=q7;exact⟨x7,σ7,H7,I7.Qcp,r7,q7⟩
end
abbrev R2:=V->V->Hp->VK->Prop
def OpR (X:Cx)(f:Value->Value->Sem Value)(r:R2):Prop:=
 ∀(pins:List (Addr×Obj)) (s:Shared) (σ:St) (H:Hp) (x y:V) (v u:Value) (Q:VK),Inv X pins σ H s->RelV x v->RelV y u->r x y H Q->
  wpAny (model X.prog X.w) X.A (f v u) (EP X pins σ Q) X.xe s
def UnR (X:Cx)(f:Value->Sem Value)(r:V->Hp->VK->Prop):Prop:=
 ∀(pins:List (Addr×Obj)) (s:Shared) (σ:St) (H:Hp) (x:V) (v:Value) (Q:VK),Inv X pins σ H s->RelV x v->r x H Q->
  wpAny (model X.prog X.w) X.A (f v) (EP X pins σ Q) X.xe s
def QbR (X:Cx)(f:Value)(r:List V->Hp->VK->Prop):Prop:=
 ∀(pins:List (Addr×Obj)) (s:Shared) (σ:St) (H:Hp) (xs:List V) (us:List Value) (Q:VK),Inv X pins σ H s->Vals xs us->r xs H Q->
  wpAny (model X.prog X.w) X.A (call f us) (EP X pins σ Q) X.xe s
def tOp (r:R2)(ta tb:TE):TE:=fun σ H Q=>ta σ H fun x H1=>tb σ H1 fun y H2=>r x y H2 Q
def tUn (r:V->Hp->VK->Prop)(ta:TE):TE:=fun σ H Q=>ta σ H fun x H1=>r x H1 Q
def rI (C:Int->Int->Prop)(g:Int->Int->V):R2:=fun x y H Q=>∃i j,x=.int i/\y=.int j/\C i j/\Q (g i j) H
def rI0 (g:Int->Int->V):R2:=fun x y H Q=>∃i j,x=.int i/\y=.int j/\Q (g i j) H
def rU (g:Int->V):V->Hp->VK->Prop:=fun x H Q=>∃i,x=.int i/\Q (g i) H
section
variable {X:Cx}{a b:Expr}{ta tb:TE}{pos:Pos}
theorem Qsg (ha:PE X a ta)(hb:PE X b tb){pins:List (Addr×Obj)}{s:Shared}{σ:St}{H:Hp}{R:V->V->Hp->Prop}(I:Inv X pins σ H s)
  (h:ta σ H fun x H1=>tb σ H1 fun y H2=>R x y H2) {Q:Value->Shared->Prop} {f:Value->Value->Sem Value}
  (hf:∀v u s2 x y H2,Inv X pins σ H2 s2->RelV x v->RelV y u->R x y H2->wpAny (model X.prog X.w) X.A (f v u) Q X.xe s2) :
  wpAny (model X.prog X.w) X.A (eval a X.env) (fun v s₁=>wpAny (model X.prog X.w) X.A (eval b X.env) (fun u s₂=>wpAny (model X.prog X.w) X.A (f v u) Q X.xe s₂) X.xe s₁) X.xe s:=by
 refine thn (ha pins s σ H _ I h) fun v s1 hz=>?_
 obtain⟨x,H1,I1,r1,q1⟩:=hz
 refine thn (hb pins s1 σ H1 _ I1 q1) fun u s2 hz=>?_
 obtain⟨y,H2,I2,r2,q2⟩:=hz
 exact hf v u s2 x y H2 I2 r1 r2 q2
theorem Qpe {op:Operator}{r:R2}(ho:OpR X (binaryOp op) r)(ha:PE X a ta)(hb:PE X b tb):PE X (.BinOp a op b pos) (tOp r ta tb):=by
 intro pins s σ H Q I h
 exact wpAny_BinOp (Qsg ha hb I h fun v u s2 x y H2 I2 rx ry q=>ho pins s2 σ H2 x y v u Q I2 rx ry q)
theorem Qsh {op:UnaryOp}{r:V->Hp->VK->Prop}(ho:UnR X (unaryOp op) r)(ha:PE X a ta):PE X (.UnaryOp op a pos) (tUn r ta):=by
 intro pins s σ H Q I h
 exact UnaryOp_ (thn (ha pins s σ H _ I h) fun v s1 ⟨x,H1,I1,r1,q1⟩=>ho pins s1 σ H1 x v Q I1 r1 q1)
theorem opI {f:Value->Value->Sem Value}{C:Int->Int->Prop}{g:Int->Int->Int}
  (rule:∀(i j:Int) (t u:Tok) (s:Shared) (Q:Value->Shared->Prop) (E:Value->Shared->Prop),C i j->Q (.int (g i j) s.toks) { s with toks:=s.toks+1 }->wpAny (model X.prog X.w) X.A (f (.int i t) (.int j u)) Q E s) :
  OpR X f (rI C fun i j=>.int (g i j)):=by
 intro pins s σ H x y v u Q I rx ry h
 obtain⟨i,j,rfl,rfl,hc,q⟩:=h
 obtain⟨t,rfl⟩:=rx
 obtain⟨t',rfl⟩:=ry
 exact rule i j t t' s _ _ hc ⟨.int (g i j),H,I.tok _,⟨_,rfl⟩,q⟩
theorem QtL {f:Value->Value->Sem Value}{g:Int->Int->Int}
  (rule:∀(i j:Int) (t u:Tok) (s:Shared) (Q:Value->Shared->Prop) (E:Value->Shared->Prop),Q (.int (g i j) s.toks) { s with toks:=s.toks+1 }->wpAny (model X.prog X.w) X.A (f (.int i t) (.int j u)) Q E s) :
  OpR X f (rI0 fun i j=>.int (g i j)):=by
 intro pins s σ H x y v u Q I rx ry h
 obtain⟨i,j,rfl,rfl,q⟩:=h
 obtain⟨t,rfl⟩:=rx
 obtain⟨t',rfl⟩:=ry
 exact rule i j t t' s _ _ ⟨.int (g i j),H,I.tok _,⟨_,rfl⟩,q⟩
theorem Qsi {f:Value->Value->Sem Value}{g:Int->Int->Bool}
  (rule:∀(i j:Int) (t u:Tok) (s:Shared) (Q:Value->Shared->Prop) (E:Value->Shared->Prop),Q (.bool (g i j)) s->wpAny (model X.prog X.w) X.A (f (.int i t) (.int j u)) Q E s) :
  OpR X f (rI0 fun i j=>.bl (g i j)):=by
 intro pins s σ H x y v u Q I rx ry h
 obtain⟨i,j,rfl,rfl,q⟩:=h
 obtain⟨t,rfl⟩:=rx
 obtain⟨t',rfl⟩:=ry
 exact rule i j t t' s _ _ ⟨.bl (g i j),H,I,rfl,q⟩
def Qmj (i j:Int):Prop:=0<=j/\j<=1000000/\i.natAbs<2 ^ 64
def Qgo (i j:Int):Prop:=(-(2 ^ 64)<i/\i<2 ^ 64)\/(-(2 ^ 64)<j/\j<2 ^ 64)
theorem Qgo.ok {i j:Int}(h:Qgo i j):IntMulOk i j:=by
 rcases h with⟨h1,h2⟩|⟨h1,h2⟩
 ·exact .of_left (intBits_le_64 h1 h2)
 ·exact .of_right (intBits_le_64 h1 h2)
theorem Jt:OpR X (binaryOp .Add) (rI0 fun i j=>.int (i+j)):=QtL fun _ _ _ _ _ _ _ q=>add_int q
theorem Qb8:OpR X (binaryOp .Sub) (rI0 fun i j=>.int (i - j)):=QtL fun _ _ _ _ _ _ _ q=>sub_int q
theorem Qbt:OpR X (binaryOp .Mult) (rI Qgo fun i j=>.int (i * j)):=opI fun _ _ _ _ _ _ _ hc q=>mul_int q hc.ok
theorem QdQ:OpR X (binaryOp .Mod) (rI (fun _ j=>0<j) fun i j=>.int (i % j)):=opI fun i j _ _ _ _ _ hc q=>by
 have h1:(0:Int)<j:=hc
 exact mod_int' (by lia) (by rw[Int.fmod_eq_emod_of_nonneg i (by lia)];exact q)
theorem Qfe:OpR X (binaryOp .Pow) (rI Qmj fun i j=>.int (i ^ j.toNat)):=opI fun _ _ _ _ _ _ _ hc q=>pow_int_small hc.1 hc.2.1 hc.2.2 q
theorem unI {f:Value->Sem Value}{g:Int->Int}
  (rule:∀(i:Int) (t:Tok) (s:Shared) (Q:Value->Shared->Prop) (E:Value->Shared->Prop),Q (.int (g i) s.toks) { s with toks:=s.toks+1 }->wpAny (model X.prog X.w) X.A (f (.int i t)) Q E s) :
  UnR X f (rU fun i=>.int (g i)):=by
 intro pins s σ H x v Q I rx h
 obtain⟨i,rfl,q⟩:=h
 obtain⟨t,rfl⟩:=rx
 exact rule i t s _ _ ⟨.int (g i),H,I.tok _,⟨_,rfl⟩,q⟩
theorem Qpf:UnR X (unaryOp .USub) (rU fun i=>.int (-i)):=unI fun _ _ _ _ _ q=>neg_int q
end
def QoM:V->V->Bool
 |.non,.non=>true|.non,.int _=>true|.int _,.non=>true|.non,.bl _=>true|.bl _,.non=>true|.non,.str _=>true|.str _,.non=>true
 |.int _,.int _=>true|.bl _,.bl _=>true|.str _,.str _=>true|.byt _,.byt _=>true
 |.int _,.str _=>true|.str _,.int _=>true|.bl _,.str _=>true|.str _,.bl _=>true
 |_,_=>false
def rEq:R2:=fun x y H Q=>QoM x y=true/\Q (.bl (decide (x=y))) H
def rNe:R2:=fun x y H Q=>QoM x y=true/\Q (.bl (!decide (x=y))) H
theorem Qgu {i j:Int}:decide (V.int i=V.int j)=(i == j):=by
 rw[zg7]
 simp
theorem QiZ {i j:Bool}:decide (V.bl i=V.bl j)=(i == j):=by
 rw[zg7]
 simp
theorem Qgv {i j:Str}:decide (V.str i=V.str j)=(i == j):=by
 rw[zg7]
 simp
theorem Qi0 {i j:Array UInt8}:decide (V.byt i=V.byt j)=(i.toList == j.toList):=by
 rw[zg7]
 cases i
 cases j
 simp
section
variable {X:Cx}{a b c:Expr}{ta tb tc:TE}{pos:Pos}
theorem Q8 {pins:List (Addr×Obj)}{σ:St}{H:Hp}{s:Shared}{Q:VK}{k k':Bool}(I:Inv X pins σ H s)(q:Q (.bl k) H)(e:k=k'):EP X pins σ Q (.bool k') s:=by
 subst e
 exact⟨.bl k,H,I,rfl,q⟩
theorem Qlf:OpR X (compareOp .Eq) rEq:=by
 intro pins s σ H x y v u Q I rx ry h
 obtain⟨hs,q⟩:=h
 cases x with
 |non=>
  cases rx
  cases y with
  |non=>cases ry;exact PySem.EqNone.eq_none_none (Q8 I q (by simp))
  |bl j=>cases ry;exact PySem.EqNone.eq_none_bool (Q8 I q (by simp))
  |int j=>obtain⟨t',rfl⟩:=ry;exact PySem.EqNone.eq_none_int (Q8 I q (by simp))
  |str j=>obtain⟨t',rfl⟩:=ry;exact PySem.EqNone.eq_none_str (Q8 I q (by simp))
  |_=>exact absurd (show false=true from hs) z32
 |bl i=>
  cases rx
  cases y with
  |non=>cases ry;exact PySem.EqNone.eq_bool_none (Q8 I q (by simp))
  |bl j=>cases ry;exact eq_bool (Q8 I q QiZ)
  |str j=>obtain⟨t',rfl⟩:=ry;exact PySem.EqMixed.eq_bool_str (Q8 I q (by simp))
  |_=>exact absurd (show false=true from hs) z32
 |int i=>
  obtain⟨t,rfl⟩:=rx
  cases y with
  |non=>cases ry;exact PySem.EqNone.eq_int_none (Q8 I q (by simp))
  |int j=>obtain⟨t',rfl⟩:=ry;exact eq_int (Q8 I q Qgu)
  |str j=>obtain⟨t',rfl⟩:=ry;exact PySem.EqMixed.eq_int_str (Q8 I q (by simp))
  |_=>exact absurd (show false=true from hs) z32
 |str i=>
  obtain⟨t,rfl⟩:=rx
  cases y with
  |non=>cases ry;exact PySem.EqNone.eq_str_none (Q8 I q (by simp))
  |bl j=>cases ry;exact PySem.EqMixed.eq_str_bool (Q8 I q (by simp))
  |int j=>obtain⟨t',rfl⟩:=ry;exact PySem.EqMixed.eq_str_int (Q8 I q (by simp))
  |str j=>obtain⟨t',rfl⟩:=ry;exact eq_str (Q8 I q Qgv)
  |_=>exact absurd (show false=true from hs) z32
 |byt i=>
  obtain⟨t,rfl⟩:=rx
  cases y with
  |byt j=>obtain⟨t',rfl⟩:=ry;exact PySem.W.eq_bytes (Q8 I q Qi0)
  |_=>exact absurd (show false=true from hs) z32
 |_=>cases y<;>exact absurd (show false=true from hs) z32
theorem Qsj:OpR X (compareOp .NotEq) rNe:=by
 intro pins s σ H x y v u Q I rx ry h
 obtain⟨hs,q⟩:=h
 cases x with
 |non=>
  cases rx
  cases y with
  |non=>cases ry;exact PySem.EqNone.ne_none_none (Q8 I q (by simp))
  |bl j=>cases ry;exact PySem.EqNone.ne_none_bool (Q8 I q (by simp))
  |int j=>obtain⟨t',rfl⟩:=ry;exact PySem.EqNone.ne_none_int (Q8 I q (by simp))
  |str j=>obtain⟨t',rfl⟩:=ry;exact PySem.EqNone.ne_none_str (Q8 I q (by simp))
  |_=>exact absurd (show false=true from hs) z32
 |bl i=>
  cases rx
  cases y with
  |non=>cases ry;exact PySem.EqNone.ne_bool_none (Q8 I q (by simp))
  |bl j=>cases ry;exact ne_bool (Q8 I q (congrArg not QiZ))
  |str j=>obtain⟨t',rfl⟩:=ry;exact PySem.EqMixed.ne_bool_str (Q8 I q (by simp))
  |_=>exact absurd (show false=true from hs) z32
 |int i=>
  obtain⟨t,rfl⟩:=rx
  cases y with
  |non=>cases ry;exact PySem.EqNone.ne_int_none (Q8 I q (by simp))
  |int j=>obtain⟨t',rfl⟩:=ry;exact ne_int (Q8 I q (congrArg not Qgu))
  |str j=>obtain⟨t',rfl⟩:=ry;exact PySem.EqMixed.ne_int_str (Q8 I q (by simp))
  |_=>exact absurd (show false=true from hs) z32
 |str i=>
  obtain⟨t,rfl⟩:=rx
  cases y with
  |non=>cases ry;exact PySem.EqNone.ne_str_none (Q8 I q (by simp))
  |bl j=>cases ry;exact PySem.EqMixed.ne_str_bool (Q8 I q (by simp))
  |int j=>obtain⟨t',rfl⟩:=ry;exact PySem.EqMixed.ne_str_int (Q8 I q (by simp))
  |str j=>obtain⟨t',rfl⟩:=ry;exact ne_str (Q8 I q (congrArg not Qgv))
  |_=>exact absurd (show false=true from hs) z32
 |byt i=>
  obtain⟨t,rfl⟩:=rx
  cases y with
  |byt j=>obtain⟨t',rfl⟩:=ry;exact PySem.W.ne_bytes (Q8 I q (congrArg not Qi0))
  |_=>exact absurd (show false=true from hs) z32
 |_=>cases y<;>exact absurd (show false=true from hs) z32
theorem Qff:OpR X (compareOp .Lt) (rI0 fun i j=>.bl (decide (i<j))):=Qsi fun _ _ _ _ _ _ _ q=>lt_int q
theorem Qi1:OpR X (compareOp .LtE) (rI0 fun i j=>.bl (decide (i<=j))):=Qsi fun _ _ _ _ _ _ _ q=>le_int q
theorem Qec:OpR X (compareOp .Gt) (rI0 fun i j=>.bl (decide (j<i))):=Qsi fun _ _ _ _ _ _ _ q=>gt_int q
theorem QM (b:Expr){op:CmpOp}(h:op≠.In:=by decide)(h2:op≠.NotIn:=by decide):behindInMarks op b=false:=by
 have e1:(op == CmpOp.In)=false:=by cases op<;>first|rfl|exact absurd rfl h
 have e2:(op == CmpOp.NotIn)=false:=by cases op<;>first|rfl|exact absurd rfl h2
 cases b<;>simp[behindInMarks,e1,e2]
theorem Qm2 {op:CmpOp}{r:R2}(ho:OpR X (compareOp op) r)(ha:PE X a ta)(hb:PE X b tb)(hm:behindInMarks op b=false):PE X (.Compare a [op] [b] pos) (tOp r ta tb):=by
 intro pins s σ H Q I h
 exact wpAny_Compare1 (Qsg ha hb I h fun v u s2 x y H2 I2 rx ry q=>ho pins s2 σ H2 x y v u Q I2 rx ry q) hm
def Qm3 (t:TE):TT:=fun σ H Q=>t σ H fun x H'=>∃k,x=.bl k/\Q k H'
theorem Qm4 {op:CmpOp}{r:R2}(ho:OpR X (compareOp op) r)(ha:PE X a ta)(hb:PE X b tb)(hm:behindInMarks op b=false):PT X (.Compare a [op] [b] pos) (Qm3 (tOp r ta tb)):=by
 intro pins s σ H Q I h
 refine wpAny_isTrue_Compare1 (thn (ha pins s σ H _ I h) fun v s1 hz=>?_) hm
 obtain⟨x,H1,I1,r1,q1⟩:=hz
 refine thn (hb pins s1 σ H1 _ I1 q1) fun u s2 hz=>?_
 obtain⟨y,H2,I2,r2,q2⟩:=hz
 refine thn (ho pins s2 σ H2 x y v u _ I2 r1 r2 q2) fun c s3 hz=>?_
 obtain⟨z,H3,I3,r3,k,e,q3⟩:=hz
 subst e
 cases r3
 exact za8 ⟨H3,I3,q3⟩
def Qi2 (r r':R2)(ta tb tc:TE):TE:=fun σ H Q=>ta σ H fun x H1=>tb σ H1 fun y H2=>r x y H2 fun z H3=>∃k,z=.bl k/\
 (if k=true then tc σ H3 fun w' H4=>r' y w' H4 Q else Q (.bl false) H3)
theorem Qlg {op op':CmpOp}{r r':R2}(ho:OpR X (compareOp op) r)(ho':OpR X (compareOp op') r')(ha:PE X a ta)(hb:PE X b tb)(hc:PE X c tc)
  (hm:lastMarks [op,op'] [b,c]=false:=by with_unfolding_all rfl):PE X (.Compare a [op,op'] [b,c] pos) (Qi2 r r' ta tb tc):=by
 intro pins s σ H Q I h
 refine Compare_chain (thn (ha pins s σ H _ I h) fun v s1 hz=>?_) hm
 obtain⟨x,H1,I1,r1,q1⟩:=hz
 refine chain_link (thn (hb pins s1 σ H1 _ I1 q1) fun u s2 hz=>?_)
 obtain⟨y,H2,I2,r2,q2⟩:=hz
 refine thn (ho pins s2 σ H2 x y v u _ I2 r1 r2 q2) fun d s3 hz=>?_
 obtain⟨z,H3,I3,r3,k,e,q3⟩:=hz
 subst e
 cases r3
 refine za8 ?_
 cases k with
 |false=>exact ite_ff ⟨.bl false,H3,I3,rfl,q3⟩
 |true=>exact ite_tt (chain_last (thn (hc pins s3 σ H3 _ I3 q3) fun w' s4 ⟨z',H4,I4,r4,q4⟩=>ho' pins s4 σ H4 y z' u w' Q I4 r2 r4 q4))
theorem Qlh {op op':CmpOp}{r r':R2}(ho:OpR X (compareOp op) r)(ho':OpR X (compareOp op') r')(ha:PE X a ta)(hb:PE X b tb)(hc:PE X c tc)
  (hm:lastMarks [op,op'] [b,c]=false:=by with_unfolding_all rfl):PT X (.Compare a [op,op'] [b,c] pos) (Qm3 (Qi2 r r' ta tb tc)):=by
 intro pins s σ H Q I h
 refine isTrue_chain (thn (ha pins s σ H _ I h) fun v s1 hz=>?_) hm
 obtain⟨x,H1,I1,r1,q1⟩:=hz
 refine test_link (thn (hb pins s1 σ H1 _ I1 q1) fun u s2 hz=>?_)
 obtain⟨y,H2,I2,r2,q2⟩:=hz
 refine thn (ho pins s2 σ H2 x y v u _ I2 r1 r2 q2) fun d s3 hz=>?_
 obtain⟨z,H3,I3,r3,k,e,q3⟩:=hz
 subst e
 cases r3
 refine za8 ?_
 cases k with
 |false=>
  obtain⟨k',e',q'⟩:=q3
  cases e'
  exact ite_ff ⟨H3,I3,q'⟩
 |true=>
  refine ite_tt (test_last (thn (hc pins s3 σ H3 _ I3 q3) fun w' s4 hz=>?_))
  obtain⟨z',H4,I4,r4,q4⟩:=hz
  refine thn (ho' pins s4 σ H4 y z' u w' _ I4 r2 r4 q4) fun d' s5 hz=>?_
  obtain⟨z2,H5,I5,r5,k2,e2,q5⟩:=hz
  subst e2
  cases r5
  exact za8 ⟨H5,I5,q5⟩
theorem Qfg:(z15:Nat)<2 ^ 63:=by rw[z36];decide
theorem vals1 {x:V}{us:List Value}(r:Vals [x] us):∃u,us=[u]/\RelV x u:=by
 cases r with
 |cons r1 r2=>cases r2;exact⟨_,rfl,r1⟩
theorem vals2 {x y:V}{us:List Value}(r:Vals [x,y] us):∃u w',us=[u,w']/\RelV x u/\RelV y w':=by
 cases r with
 |cons r1 r2=>
  cases r2 with
  |cons r3 r4=>cases r4;exact⟨_,_,rfl,r1,r3⟩
theorem Qfh (hc:X.calm=true):QbR X (.builtin "max") (fun xs H Q=>∃i j,xs=[.int i,.int j]/\Q (.int (if j > i then j else i)) H):=by
 intro pins s σ H xs us Q I r h
 obtain⟨i,j,rfl,q⟩:=h
 obtain⟨u,w',rfl,⟨t,rfl⟩,⟨t',rfl⟩⟩:=vals2 r
 refine max_two_ints (I.ok.hd hc) fun h' tk k=>⟨_,H,I.kept k,?_,q⟩
 by_cases hj:j > i
 ·rw[if_pos hj,if_pos hj];exact⟨_,rfl⟩
 ·rw[if_neg hj,if_neg hj];exact⟨_,rfl⟩
theorem Qi3 (hc:X.calm=true):QbR X (.builtin "min") (fun xs H Q=>∃i j,xs=[.int i,.int j]/\Q (.int (if j<i then j else i)) H):=by
 intro pins s σ H xs us Q I r h
 obtain⟨i,j,rfl,q⟩:=h
 obtain⟨u,w',rfl,⟨t,rfl⟩,⟨t',rfl⟩⟩:=vals2 r
 refine min_two_ints (I.ok.hd hc) fun h' tk k=>⟨_,H,I.kept k,?_,q⟩
 by_cases hj:j<i
 ·rw[if_pos hj,if_pos hj];exact⟨_,rfl⟩
 ·rw[if_neg hj,if_neg hj];exact⟨_,rfl⟩
def QtM (K:z01)(x:V)(H:Hp)(n:Nat):Prop:=
 match x with
 |.str y=>y.length<=z15/\n=y.length
 |.byt y=>y.size<=z15/\n=y.size
 |.ref p=>(∃xs,SqL K H p xs/\n=xs.length)\/∃xs,SqT K H p xs/\n=xs.length
 |_=>False
theorem QH:QbR X (.builtin "len") (fun xs H Q=>∃x n,xs=[x]/\QtM X.K x H n/\Q (.int n) H):=by
 intro pins s σ H xs us Q I r h
 obtain⟨x,n,rfl,e,q⟩:=h
 obtain⟨u,rfl,rx⟩:=vals1 r
 have hl:=Qfg
 have hs:z15=16777216:=z36
 cases x with
 |str y=>
  obtain⟨t,rfl⟩:=rx
  obtain⟨hy,e'⟩:y.length<=z15/\n=y.length:=e
  subst e'
  exact len_str (by lia) ⟨.int _,H,I.tok _,⟨_,rfl⟩,q⟩
 |byt y=>
  obtain⟨t,rfl⟩:=rx
  obtain⟨hy,e'⟩:y.size<=z15/\n=y.size:=e
  subst e'
  exact PySem.W.len_bytes (by lia) ⟨.int _,H,I.tok _,⟨_,rfl⟩,q⟩
 |ref p=>
  cases rx
  have e':(∃xs,SqL X.K H p xs/\n=xs.length)\/∃xs,SqT X.K H p xs/\n=xs.length:=e
  rcases e' with⟨xs,hx,e'⟩|⟨xs,hx,e'⟩
  ·subst e'
   obtain⟨its,r',pl,hz⟩:=I.list hx
   have hlen:=r'.length
   exact Calls.call_len_list pl.isList (by simp only[z14];lia) ⟨.int xs.length,H,I.tok _,⟨_,by simp only[z14];rw[hlen]⟩,q⟩
  ·subst e'
   obtain⟨its,r',pl,hz⟩:=I.tuple hx
   have hlen:=r'.length
   exact len_tuple pl (by simp only[z14];lia) ⟨.int xs.length,H,I.tok _,⟨_,by simp only[z14];rw[hlen]⟩,q⟩
 |_=>exact(show False from e).elim
end
structure Qm5 (h:Heap)(x dx C:Addr)(mA:Str->Option Value):Prop where
 obj:h.get? x=some (zb3 C dx)
 ns:h.Ns1 dx mA
 ne:dx≠x
theorem Qi4 {h:Heap}{dx:Addr}{mA:Str->Option Value}(n:h.Ns1 dx mA):∃od,h.get? dx=some od/\∀name,zj1 name od=some (mA name):=by
 obtain⟨o,es,ep,ho,hd,hk,_,hm⟩:=n
 refine⟨o,ho,fun name=>?_⟩
 have e:=hm name
 unfold nsFind findBy at e
 rw[← Array.find?_toList] at e
 unfold zj1
 rw[hd]
 dsimp only
 split
 ·rename_i y q
  rw[q] at e
  exact congrArg some e
 ·rename_i q
  rw[q] at e
  have a:es.toList.any (·.refKey)=false:=by
   rw[List.any_eq_false]
   intro y hy
   obtain⟨z,t,hkey⟩:=hk y (Array.mem_toList_iff.mp hy)
   simp[DictEntry.refKey,hkey]
  have a':¬ es.toList.any (·.refKey)=true:=by rw[a];exact z32
  rw[if_neg a']
  exact congrArg some e
theorem Qm5.look {h:Heap}{x dx C:Addr}{mA:Str->Option Value}(I:Qm5 h x dx C mA):∃od,PySem.W.InstAt h x (zb3 C dx) C (some od)/\∀name,zj1 name od=some (mA name):=
 let ⟨od,ho,hl⟩:=Qi4 I.ns
 ⟨od,⟨I.obj,rfl,rfl,ho⟩,hl⟩
section
variable {prog:Program}{w:World}{A:Around}{E:Value->Shared->Prop}{s:Shared}{K:z01}{x dx C f:Addr}{mA:Str->Option Value}{name:Str}{v:Value}
theorem get_map {expr:Bool}{Q:Value->Shared->Prop}(X:K.In s.heap)(I:Qm5 s.heap x dx C mA)(hg:zf6 K C name=true)(hh:zh1 K C=true)
  (ha:z50 K (.ref C) name=some none) (hv:mA name=some v) (hv':zt2 v=true) (h:Q v { s with toks:=s.toks+1 }) :
  wpAny (model prog w) A (getAttr (.ref x) name expr) Q E s:=by
 obtain⟨od,J,hl⟩:=I.look
 exact PySem.W.get_value X J (zj4 hg).1 (PySem.W.findObj_own hh ha rfl (by rw[hl,hv])) hv' h
theorem Qli {pl:Sem Bool}{Q:Value×List Value->Shared->Prop}(X:K.In s.heap)(I:Qm5 s.heap x dx C mA)(hg:zf6 K C name=true)
  (hf:z50 K (.ref C) name=some (some (.ref f))) (ht:z88 K (.ref f)=true) (hv:mA name=none) (h:Q (.ref f,[.ref x]) s) :
  wpAny (model prog w) A (getMethod (.ref x) name pl) Q E s:=by
 obtain⟨od,J,hl⟩:=I.look
 exact PySem.W.method_fn X J (zj4 hg).1 (zj4 hg).2 hf (beq_iff_eq.mp ht) (by show(zj1 name od).map (·.isSome)=some false;rw[hl,hv];rfl) h
theorem Qm6 {ns:List Str}{Q:Unit->Shared->Prop}(X:K.In s.heap)(I:Qm5 s.heap x dx C mA)
  (hs:z50 K (.ref C) "__setattr__" = some (some (.builtin "object.__setattr__"))) (hp:zk7 K C=true) (ht:zm5 K C name=some none) (hh:zh1 K C=true)
  (hw:zr1 mA ns) (hsz:ns.length<=z15)
  (h:∀h',Qm5 h' x dx C (fun y=>if y=name then some v else mA y)->ze0 dx s.heap h'->Q () { s with heap:=h',toks:=s.toks+2 }) :
  wpAny (model prog w) A (setAttr (.ref x) name v) Q E s:=by
 obtain⟨od,J,hl⟩:=I.look
 refine PySem.W.set_plain X J hs (PySem.W.osa_open (s:={ s with toks:=s.toks+1 }) (r:=none) X J hp ht fun b=>?_)
 obtain⟨cd,hc,hd'⟩:=PySem.W.any_some hh
 have hx:s.heap.get? x=some ⟨.ref C,some dx,.plain,#[]⟩:=I.obj
 refine z19 (z51 (z19 (z19 (wpAny_loadPart hx (z19 (PySem.W.Looks.here (s:={ s with toks:=s.toks+1 }) (PySem.W.looks_clsIn X hc) ?_))))))
 rw[hd']
 refine z51 (a:=some dx) (z19 (z51 (z19 ?_)))
 refine wpAny_nsSet1 (s:={ s with toks:=s.toks+1 }) I.ns fun h' hn2 hs2=>?_
 obtain⟨oD,esD,epD,hoD,hdD,hcD⟩:=hn2.count (PySem.Within.cons name v hw)
 refine z19 (wpAny_lookBehind hoD (by rw[hdD];exact pastItsLine_dict (z62 hcD (by rw[z24];lia))) ?_)
 exact z51 (h _ ⟨(hs2.2 _ (zd4 I.ne)).trans I.obj,hn2,I.ne⟩ hs2)
theorem Qlj {R:Result->Shared->Prop}{vs:List Value}{kw:List (Str×Value)}(X:K.In s.heap)(hm:zm6 K C=true)
  (hi:z50 K (.ref C) "__init__" = some (some (.ref f))) (hf:PySem.W.typeIn K (.ref f)=some (.type "function"))
  (h:codeAny (model prog w) (A.under (.builtin "type.__call__" ⟨.ref C::vs,kw⟩)) (.call (.ref f) ⟨.ref (s.heap.objs.size+1)::vs,kw⟩) (PySem.W.InitBack (s.heap.objs.size+1) R)
   { s with heap:=(s.heap.push z94).push (zb3 C s.heap.objs.size)}) :
  codeAny (model prog w) A (.call (.ref C) ⟨vs,kw⟩) R s:=by
 obtain⟨hh,g,d,t,os⟩:=s
 exact PySem.W.make_core (PySem.W.makes_of X hm) (PySem.W.looks_findIn X hi) (fun self=>PySem.W.bind_fn X self hf) (.inl rfl) h
end
def Qgp (f:Str)(v:V):List (Str×V)->List (Str×V)
 | []=>[(f,v)]
 |(g,x)::r=>if g=f then(g,v)::r else(g,x)::Qgp f v r
theorem QcH (f g:Str)(v:V):∀fs:List (Str×V),(Qgp f v fs).lookup g=if g=f then some v else fs.lookup g
 | []=>by
  show zd6 g [(f,v)]=_
  by_cases h:g=f
  ·have hb:(g == f)=true:=beq_iff_eq.mpr h
   simp only[zd6,hb,if_pos h]
  ·have hb:(g == f)=false:=beq_eq_false_iff_ne.mpr h
   simp only[zd6,hb,if_neg h]
 |(k,x)::r=>by
  have ih:=QcH f g v r
  rw[show Qgp f v ((k,x)::r)=(if k=f then(k,v)::r else(k,x)::Qgp f v r) from rfl]
  by_cases hk:k=f
  ·rw[if_pos hk]
   by_cases h:g=k
   ·have hb:(g == k)=true:=beq_iff_eq.mpr h
    simp only[zd6,hb,if_pos (h.trans hk)]
   ·have hb:(g == k)=false:=beq_eq_false_iff_ne.mpr h
    simp only[zd6,hb,if_neg (fun e:g=f=>h (e.trans hk.symm))]
  ·rw[if_neg hk]
   by_cases h:g=k
   ·have hb:(g == k)=true:=beq_iff_eq.mpr h
    simp only[zd6,hb,if_neg (fun e:g=f=>hk (h.symm.trans e))]
   ·have hb:(g == k)=false:=beq_eq_false_iff_ne.mpr h
    simp only[zd6,hb]
    exact ih
theorem QcI (f:Str)(v:V):∀fs:List (Str×V),f∈(Qgp f v fs).map (·.1)/\∀g,g∈fs.map (·.1)->g∈(Qgp f v fs).map (·.1)
 | []=>⟨by simp[Qgp],fun g h=>by simp at h⟩
 |(k,x)::r=>by
  obtain⟨i1,i2⟩:=QcI f v r
  rw[show Qgp f v ((k,x)::r)=(if k=f then(k,v)::r else(k,x)::Qgp f v r) from rfl]
  by_cases hk:k=f
  ·rw[if_pos hk]
   subst hk
   exact⟨by simp,fun g h=>by simpa using h⟩
  ·rw[if_neg hk]
   refine⟨?_,fun g h=>?_⟩
   ·rw[z31]
    exact z08 _ i1
   ·rw[z31] at h ⊢
    rcases z13.mp h with e|e
    ·exact z13.mpr (.inl e)
    ·exact z08 _ (i2 g e)
theorem QcJ (f:Str)(v:V):∀fs:List (Str×V),(Qgp f v fs).length<=fs.length+1
 | []=>by simp[Qgp]
 |(k,x)::r=>by
  have ih:=QcJ f v r
  rw[show Qgp f v ((k,x)::r)=(if k=f then(k,v)::r else(k,x)::Qgp f v r) from rfl]
  by_cases hk:k=f
  ·rw[if_pos hk,z24,z24];lia
  ·rw[if_neg hk,z24,z24];lia
theorem Qgn.some_of {v:V}{o:Option Value}(r:Qgn (some v) o):∃u,o=some u/\RelV v u:=by
 cases o with
 |none=>exact(show False from r).elim
 |some u=>exact⟨u,rfl,r⟩
theorem Qgn.none_of {o:Option Value}(r:Qgn none o):o=none:=by
 cases o with
 |none=>rfl
 |some u=>exact(show False from r).elim
theorem Qi5 {v:V}{u:Value}(r:RelV v u):zt2 u=true:=by
 cases v with
 |non=>cases(show u=z38 from r);rfl
 |bl b=>cases(show u=zl7 b from r);rfl
 |int i=>obtain⟨t,e⟩:=(show ∃t,u=z76 i t from r);cases e;rfl
 |str x=>obtain⟨t,e⟩:=(show ∃t,u=zn8 x t from r);cases e;rfl
 |byt b=>obtain⟨t,e⟩:=(show ∃t,u=Value.bytes b t from r);cases e;rfl
 |flt b=>obtain⟨t,e⟩:=(show ∃t,u=zs5 b t from r);cases e;rfl
 |ref a=>cases(show u=z44 a from r);rfl
 |ty n=>cases(show u=Value.type n from r);rfl
section
variable {P:Program}{w:World}{H:Hp}{h:Heap}{a C dx:Addr}{fs:List (Str×V)}
theorem Qed (hok:HOk P w H h)(e:H a=some (.ins C dx fs)):∃mA,Qm5 h a dx C mA/\(∀f,Qgn (fs.lookup f) (mA f))/\zr1 mA (fs.map (·.1))/\fs.length<=1000/\H dx=some (.own a):=by
 obtain⟨d,z,ne,ob,mA,n,r,q⟩:=(show Yc P w H h a (.ins C dx fs) from hok a _ e)
 exact⟨mA,⟨ob,n,ne⟩,r,q,z,d⟩
end
structure Cls (K:z01)(C:Addr):Prop where
 pg:zf6 K C Str.empty=true
 hd:zh1 K C=true
 po:zk7 K C=true
 sa:z50 K (.ref C) "__setattr__" = some (some (.builtin "object.__setattr__"))
theorem Cls.get {K:z01}{C:Addr}(c:Cls K C)(f:Str):zf6 K C f=true:=c.pg
def Qa3 (K:z01)(C:Addr)(f:Str):Prop:=z50 K (.ref C) f=some none
theorem Qa3.taker {K:z01}{C:Addr}{f:Str}(n:Qa3 K C f):zm5 K C f=some none:=by
 unfold zm5
 rw[show z50 K (.ref C) f=some none from n]
 rfl
structure Meth (K:z01)(C:Addr)(m:Str)(f:Addr):Prop where
 at_:z50 K (.ref C) m=some (some (.ref f))
 fn:z88 K (.ref f)=true
 kp:ze8 K (.ref f)=true
section
variable {X:Cx}{pins:List (Addr×Obj)}{σ:St}{H:Hp}{s:Shared}{a C dx:Addr}{fs:List (Str×V)}{f:Str}{v:V}{A:Around}{E:Value->Shared->Prop}
theorem Qh7 {b:Bool}{Q:Value->Shared->Prop}(I:Inv X pins σ H s)(e:H a=some (.ins C dx fs))(c:Cls X.K C)(n:Qa3 X.K C f)(l:fs.lookup f=some v)
  (h:∀u s',Inv X pins σ H s'->RelV v u->Q u s'):wpAny (model X.prog X.w) A (getAttr (.ref a) f b) Q E s:=by
 obtain⟨mA,O,r,_,_,_⟩:=Qed I.hok e
 obtain⟨u,hu,ru⟩:=Qgn.some_of (v:=v) (o:=mA f) (by rw[← l];exact r f)
 exact get_map I.kIn O (c.get f) c.hd n hu (Qi5 ru) (h u _ (I.tok _) ru)
theorem QdR {m:Str}{g:Addr}{pl:Sem Bool}{Q:Value×List Value->Shared->Prop}(I:Inv X pins σ H s)(e:H a=some (.ins C dx fs))(c:Cls X.K C)(k:Meth X.K C m g)(l:fs.lookup m=none)
  (h:Q (.ref g,[.ref a]) s):wpAny (model X.prog X.w) A (getMethod (.ref a) m pl) Q E s:=by
 obtain⟨mA,O,r,_,_,_⟩:=Qed I.hok e
 have hn:mA m=none:=Qgn.none_of (by rw[← l];exact r m)
 exact Qli I.kIn O (c.get m) k.at_ k.fn hn h
theorem Qh8 {y:V}{u:Value}{Q:Unit->Shared->Prop}(I:Inv X pins σ H s)(e:H a=some (.ins C dx fs))(c:Cls X.K C)(n:Qa3 X.K C f)(hl:fs.length<1000)(ry:RelV y u)
  (h:∀s',Inv X pins σ (upd H a (.ins C dx (Qgp f y fs))) s'->Q () s'):wpAny (model X.prog X.w) A (setAttr (.ref a) f u) Q E s:=by
 obtain⟨mA,O,r,wi,_,ho⟩:=Qed I.hok e
 have hz:(fs.map (·.1)).length<=z15:=by rw[z00,z36];lia
 refine Qm6 I.kIn O c.sa c.po n.taker c.hd wi hz fun h' O' sb=>h _ ?_
 have hd:∃o,h'.get? dx=some o:=let ⟨o,_,_,e',_⟩:=O'.ns;⟨o,e'⟩
 refine I.write (x:=a) (e:=dx) (by rw[e];exact z58) (.inr ho) (fun b q hb z=>(sb.2 b hb).trans z) hd ?_
 refine⟨by rw[Qp O.ne];exact ho,?_,O.ne,O'.obj,_,O'.ns,fun g=>?_,fun g hg=>?_⟩
 ·have:=QcJ f y fs;lia
 ·show Qgn ((Qgp f y fs).lookup g) (if g=f then some u else mA g)
  rw[QcH]
  by_cases q:g=f
  ·rw[if_pos q,if_pos q];exact ry
  ·rw[if_neg q,if_neg q];exact r g
 ·by_cases q:g=f
  ·rw[q];exact(QcI f y fs).1
  ·refine(QcI f y fs).2 g (wi g fun z=>hg ?_)
   show(if g=f then some u else mA g)=none
   rw[if_neg q];exact z
theorem Inv.made (I:Inv X pins σ H s):Inv X pins σ (upd (upd H s.heap.objs.size (.own (s.heap.objs.size+1))) (s.heap.objs.size+1) (.ins C s.heap.objs.size []))
  { s with heap:=(s.heap.push z94).push (zb3 C s.heap.objs.size)}:=by
 have e1:(s.heap.push z94).get? s.heap.objs.size=some z94:=z45 s.heap rfl
 have e2:((s.heap.push z94).push (zb3 C s.heap.objs.size)).get? (s.heap.objs.size+1)=some (zb3 C s.heap.objs.size):=by
  have:=z45 (s.heap.push z94) (o:=zb3 C s.heap.objs.size) rfl
  rwa[zk4] at this
 have e3:(s.heap.push z94).Ns s.heap.objs.size (fun _=>none):=⟨z94,#[],_,e1,rfl,(fun e he=>absurd he (by simp)),fun _=>rfl⟩
 have I1:=I.laid (a:=s.heap.objs.size) (o:=.own (s.heap.objs.size+1)) (h':=s.heap.push z94) (t':=s.toks) (fun b u q=>z17 _ q) (z27 _) ⟨_,e1⟩
 refine I1.laid (a:=s.heap.objs.size+1) (o:=.ins C s.heap.objs.size []) (t':=s.toks) (fun b u q=>z17 _ q) (zs9 (zk4 _ _)) ?_
 have ne:s.heap.objs.size≠s.heap.objs.size+1:=z52 (zo1 _)
 refine⟨by rw[Qp ne,Qy],zb4 _,ne,e2,fun _=>none,(Heap.Ns1.of_empty e3).at fun o q=>z17 _ q,fun _=>z58,fun y hy=>absurd rfl hy⟩
theorem Qm7 {prog:Program}{w:World}{env:Env}{e:Expr}{f:Str}{pos:Pos}{s:Shared}{Q:Value->Shared->Prop}(hb:attributeBase e f env (eval e env)=eval e env)
  (h:wpAny (model prog w) A (eval e env) (fun o s₁=>wpAny (model prog w) A (getAttr o f true) Q E s₁) E s):wpAny (model prog w) A (eval (.Attribute e f pos) env) Q E s:=
 Attribute_any_ h (by rw[arm_eval_Attribute,hb])
end
def Quo (K:z01)(ta:TE)(f:Str):TE:=fun σ H Q=>ta σ H fun x H1=>∃a C dx fs v,x=.ref a/\H1 a=some (.ins C dx fs)/\Cls K C/\Qa3 K C f/\fs.lookup f=some v/\Q v H1
def Qup (K:z01)(ta tv:TE)(f:Str):TS:=fun D σ H=>tv σ H fun y H1=>ta σ H1 fun x H2=>∃a C dx fs,x=.ref a/\H2 a=some (.ins C dx fs)/\Cls K C/\Qa3 K C f/\fs.length<1000/\
 D.nx σ (upd H2 a (.ins C dx (Qgp f y fs)))
section
variable {X:Cx}{o e value:Expr}{f:Str}{pos pos':Pos}{ta tv:TE}
theorem Qpg (he:PE X e ta)(hb:attributeBase e f X.env (eval e X.env)=eval e X.env):PE X (.Attribute e f pos) (Quo X.K ta f):=by
 intro pins s σ H Q I h
 refine Qm7 hb (thn (he pins s σ H _ I h) fun u s1 hz=>?_)
 obtain⟨x,H1,I1,rx,a,C,dx,fs,v,ex,ea,c,n,l,q⟩:=hz
 subst ex
 obtain rfl:u=z44 a:=rx
 exact Qh7 I1 ea c n l fun u' s2 I2 ru=>⟨v,H1,I2,ru,q⟩
theorem Qph (ha:PE X o ta)(hv:PE X value tv)(hs:swapsWith value (some (.Attribute o f pos')) pos.line X.env=pure false):PS X (.Assign [.Attribute o f pos'] value pos) (Qup X.K ta tv f):=by
 intro pins s σ H D I h
 refine plainObj_wpAny_Assign_Attribute (thn (hv pins s σ H _ I h) fun u s1 hz=>?_) hs
 obtain⟨y,H1,I1,ry,q⟩:=hz
 refine thn (ha pins s1 σ H1 _ I1 q) fun ov s2 hz=>?_
 obtain⟨x,H2,I2,rx,a,C,dx,fs,ex,ea,c,n,l,q2⟩:=hz
 subst ex
 obtain rfl:ov=z44 a:=rx
 exact Qh8 I2 ea c n l ry fun s3 I3=>⟨σ,_,I3,q2⟩
end
section
variable {H:Hp}
inductive QiQ (K:z01) (H:Hp):V->Value->Prop where
 |non:QiQ K H .non (.type "NoneType")
 |bl (x:Bool):QiQ K H (.bl x) (.type "bool")
 |int (i:Int):QiQ K H (.int i) (.type "int")
 |str (x:Str):QiQ K H (.str x) (.type "str")
 |flt (x:UInt64):QiQ K H (.flt x) (.type "float")
 |lst {a:Addr} {xs:List V} (e:H a=some (.lst xs)):QiQ K H (.ref a) (.type "list")
 |frz {a:Addr} {o:Obj} {xs:List V} (e:H a=some (.frz o (.lst xs))):QiQ K H (.ref a) (.type "list")
 |tup {a:Addr} {xs:List V} (e:H a=some (.tup xs)):QiQ K H (.ref a) (.type "tuple")
 |dK {a:Addr} {kvs:List (Key×V)} (e:H a=some (.dK kvs)):QiQ K H (.ref a) (.type "dict")
 |dT {a:Addr} {kvs:List (List Key×V)} (e:H a=some (.dT kvs)):QiQ K H (.ref a) (.type "dict")
 |ins {a C dx:Addr} {fs:List (Str×V)} (e:H a=some (.ins C dx fs)) (cl:Cls K C) (ha:z50 K (.ref C) "__class__" = some (some (.builtin "object.__class__")))
   (hn:PySem.W.specialIn K (.builtin "object.__class__") "__get__" = some (some (.builtin "getset_descriptor.__get__"))) (htk:PySem.W.takesIn K (.builtin "object.__class__")=some true)
   (hm:PySem.W.mroIn K C (.type "object")=some true):QiQ K H (.ref a) (.ref C)
end
structure Qao (k:Nat)(A:Around):Prop where
 hd:A.handled=none
 dp:A.depth+3 * k+5<recursionLimit
 un:A.units+16 * k+200<cLine
 gd:A.guards=some []
theorem Qao.mono {j k:Nat}{A:Around}(r:Qao k A)(h:j<=k):Qao j A:=⟨r.hd,by have:=r.dp;lia,by have:=r.un;lia,r.gd⟩
theorem Qao.deeper {k:Nat}{A:Around}(r:Qao (k+1) A)(env:Env):Qao k (A.deeper env):=
 ⟨r.hd,by have:=r.dp;show A.depth+1+3 * k+5<_;lia,by have:=r.un;show A.units+3+16 * k+200<_;lia,r.gd⟩
theorem Qh9 {A:Around}{C:Addr}{us:List Value}{kw:List (Str×Value)}:(A.under (.builtin "type.__call__" ⟨.ref C::us,kw⟩)).depth=A.depth+1:=by
 first|rfl|simp[zm0,Code.weight,Code.isCreation,Code.isGuard,Code.isCaller,Code.frames,zs3,guardIds]
theorem Qia {A:Around}{C:Addr}{us:List Value}{kw:List (Str×Value)}:(A.under (.builtin "type.__call__" ⟨.ref C::us,kw⟩)).units=A.units+1:=by
 first|rfl|simp[zm0,Code.cUnits,Code.frames,zs3]
theorem Qm8 {A:Around}{C:Addr}{us:List Value}{kw:List (Str×Value)}(h:A.guards=some []):(A.under (.builtin "type.__call__" ⟨.ref C::us,kw⟩)).guards=some []:=by
 have e:(Code.builtin "type.__call__" ⟨.ref C::us,kw⟩).guards=[]:=by simp[Code.guards,Code.isGuard,guardIds]
 unfold zm0
 dsimp only
 rw[e,h]
 rfl
theorem Qao.make {k:Nat}{A:Around}(r:Qao (k+1) A)(C:Addr)(us:List Value)(kw:List (Str×Value)):Qao k (A.under (.builtin "type.__call__" ⟨.ref C::us,kw⟩)):=
 ⟨r.hd,by have:=r.dp;rw[Qh9];lia,by have:=r.un;rw[Qia];lia,Qm8 r.gd⟩
theorem Qao.depth {k:Nat}{A:Around}(r:Qao k A):A.depth<recursionLimit:=by have:=r.dp;lia
theorem Qao.units {k:Nat}{A:Around}(r:Qao k A):A.units+64<cLine:=by have:=r.un;lia
def Qsk:TA:=fun _ H Q=>Q [] H
def Qsl (ta:TE)(tr:TA):TA:=fun σ H Q=>ta σ H fun x H1=>tr σ H1 fun xs H2=>Q (x::xs) H2
section
variable {X:Cx}{e:Expr}{es:List Expr}{te:TE}{t:TA}{pos:Pos}
theorem Qi6:PA X [] Qsk:=fun _ _ _ _ H Q I h=>zu6 ⟨[],H,I,.nil,h⟩
theorem Qgw (ha:PE X e te)(hr:PA X es t)(hs:starEach (e::es) X.env=(false,eval e X.env)::starEach es X.env:=by rfl):PA X (e::es) (Qsl te t):=by
 intro pos pins s σ H Q I h
 rw[hs]
 show wpAny _ _ (spliced ((false,eval e X.env)::backTo pos (starEach es X.env))) _ _ s
 refine zl2 (thn (ha pins s σ H _ I h) fun u s1 hz=>?_)
 obtain⟨x,H1,I1,r1,q1⟩:=hz
 exact thn (hr pos pins s1 σ H1 _ I1 q1) fun us s2 ⟨xs,H2,I2,r2,q2⟩=>⟨x::xs,H2,I2,.cons r1 r2,q2⟩
def Quq (t:TA):TE:=fun σ H Q=>t σ H fun xs H1=>xs.length<=z15/\∀p,H1 p=none->Q (.ref p) (upd H1 p (.tup xs))
def Qur (t:TA):TE:=fun σ H Q=>t σ H fun xs H1=>xs.length<=z15/\∀p,H1 p=none->Q (.ref p) (upd H1 p (.lst xs))
theorem Qmk {x1}(h:PA X es t):PE X (.Tuple es x1 pos) (Quq t):=by
 intro pins s σ H Q I hq
 refine wpAny_Tuple_spliced (thn (h pos pins s σ H _ I hq) fun us s1 ⟨xs,H1,I1,r,z,q⟩=>⟨by rw[← r.length];exact z,?_⟩)
 have hf:H1 s1.heap.objs.size=none:=I1.hok.fresh (z27 _)
 refine⟨.ref s1.heap.objs.size,upd H1 s1.heap.objs.size (.tup xs),I1.laid (t':=s1.toks) (fun b u e=>z17 _ e) (z27 _) ?_,rfl,q _ hf⟩
 exact⟨z,us,r,⟨_,z45 _ rfl,rfl,_,rfl⟩⟩
theorem Qml (h:PA X es t):PE X (.List es pos) (Qur t):=by
 intro pins s σ H Q I hq
 refine wpAny_List_spliced (thn (h pos pins s σ H _ I hq) fun us s1 ⟨xs,H1,I1,r,z,q⟩=>⟨by rw[← r.length];exact z,?_⟩)
 have hf:H1 s1.heap.objs.size=none:=I1.hok.fresh (z27 _)
 refine⟨.ref s1.heap.objs.size,upd H1 s1.heap.objs.size (.lst xs),I1.laid (t':=s1.toks) (fun b u e=>z17 _ e) (z27 _) ?_,rfl,q _ hf⟩
 exact⟨z,us,0,r,z45 _ rfl⟩
end
abbrev Sp:=List V->Hp->VK->XK->Prop
abbrev CXT:=List Env->Hp->Shared->XK->Value->Shared->Prop
structure Qm9 (P:Program)(w:World)(K:z01)(mg:Str->Option Value)(base:Heap)(A:Around)(outer:List Env)(s:Shared)(H:Hp):Prop where
 frames:A.frames=some outer
 mod:Mod K mg base
 bs:∀b o,base.get? b=some o->s.heap.get? b=some o/\H b=none
 bsz:base.objs.size<=s.heap.objs.size
 QiP:s.heap.FunFrames base outer
 frf:∀b∈frs outer,H b=none
 hok:HOk P w H s.heap
 bare:AllBare s.gens
def CE (outer:List Env)(P:Program)(w:World)(H:Hp)(s:Shared)(Q:VK)(u:Value)(s':Shared):Prop:=
 ∃v H',s'.os=s.os/\AllBare s'.gens/\Un (frs outer) [] H H' s.heap s'.heap/\HOk P w H' s'.heap/\RelV v u/\Q v H'
def CR (CX:CXT)(outer:List Env)(P:Program)(w:World)(H:Hp)(s:Shared)(Q:VK)(E:XK)(r:Result)(s':Shared):Prop:=
 match r with
 |.ok (.ret u)=>CE outer P w H s Q u s'
 |.ok _=>False
 |.error e=>CX outer H s E e s'
structure JF (P:Program)(w:World)(K:z01)(mg:Str->Option Value)(base:Heap)(CX:CXT)(k:Nat)(f:Addr)(fd:FuncData)(ps:List Str)(sp:Sp):Prop where
 len:∀vs H Q E,sp vs H Q E->vs.length=ps.length
 run:∀(A:Around) (outer:List Env) (s:Shared) (H:Hp) (args:Args) (us:List Value) (vs:List V) (Q:VK) (E:XK),Qao k A->Qm9 P w K mg base A outer s H->BindsTo s fd args (ps.zip us)->Vals vs us->sp vs H Q E->
  codeAny (model P w) A (.call (.ref f) args) (CR CX outer P w H s Q E) s
theorem JF.imp {P:Program}{w:World}{K:z01}{mg:Str->Option Value}{base:Heap}{CX:CXT}{k:Nat}{f:Addr}{fd:FuncData}{ps:List Str}{sp sp':Sp}(F:JF P w K mg base CX k f fd ps sp)
  (h:∀vs H Q E,sp' vs H Q E->sp vs H Q E):JF P w K mg base CX k f fd ps sp':=
 ⟨fun vs H Q E q=>F.len vs H Q E (h _ _ _ _ q),fun A outer s H args us vs Q E hr he hb hv hs=>F.run A outer s H args us vs Q E hr he hb hv (h _ _ _ _ hs)⟩
theorem Qm9.make {P:Program}{w:World}{K:z01}{mg:Str->Option Value}{base:Heap}{A:Around}{outer:List Env}{s:Shared}{H:Hp}(e:Qm9 P w K mg base A outer s H)(C:Addr)(us:List Value)(kw:List (Str×Value)) :
  Qm9 P w K mg base (A.under (.builtin "type.__call__" ⟨.ref C::us,kw⟩)) outer s H:=⟨by first|exact e.frames|(simpa[zm0,Code.envs,zs3,pushEnvs] using e.frames),e.mod,e.bs,e.bsz,e.QiP,e.frf,e.hok,e.bare⟩
section
variable {X:Cx}{pins:List (Addr×Obj)}{σ:St}{H:Hp}{s s':Shared}
theorem Inv.env0 (I:Inv X pins σ H s):Qm9 X.prog X.w X.K X.mg X.base X.A X.stack s H:=
 ⟨I.ok.frames,I.ok.mod,I.bs,z62 I.ok.bsz I.sz,I.stack,I.Qgs,I.hok,I.bare⟩
theorem Inv.after {Q:VK}{u:Value}(I:Inv X pins σ H s)(h:CE X.stack X.prog X.w H s Q u s'):EP X pins σ Q u s':=by
 obtain⟨v,H',os,bare,un,hok,r,q⟩:=h
 obtain⟨hh,g,d,t,os'⟩:=s'
 obtain rfl:os'=s.os:=os
 exact⟨v,H',I.call (h':=hh) (g':=g) (d':=d) (t':=t) (ch:=[]) un hok bare (fun b z=>absurd z (by simp)),r,q⟩
end
def Binds (K:z01)(fd:FuncData)(ps:List Str)(ds:List Value):Prop:=
 ∀(s:Shared) (us:List Value),K.In s.heap->(us++ds).length=ps.length->BindsTo s fd ⟨us,[]⟩ (ps.zip (us++ds))
theorem Binds.all {K:z01}{fd:FuncData}{ps:List Str}(h:∀us:List Value,us.length=ps.length->bindArgs fd ⟨us,[]⟩=pure (ps.zip us)):Binds K fd ps []:=fun s us _ hl=>by
 rw[z53] at hl ⊢
 exact .of_eq (h us hl)
def Passes (CX:CXT)(X:Cx)(E:XK):Prop:=∀(pins:List (Addr×Obj)) (σ:St) (H:Hp) (s:Shared) (e:Value) (s':Shared),Inv X pins σ H s->CX X.stack H s E e s'->X.xe e s'
section
variable {f C:Addr}
structure Mk (K:z01)(C f:Addr):Prop where
 makes:zm6 K C=true
 init:z50 K (.ref C) "__init__" = some (some (.ref f))
 fn:z88 K (.ref f)=true
 kp:ze8 K (.ref C)=true
end
structure Qs (N P:List Str)(sc:Scope):Prop where
 kind:sc.kind=.function
 co:sc.isCoroutine=false
 gen:sc.isGenerator=false
 nd:N.Nodup
 pre:N.take P.length=P
 par:∀x∈P,sc.names.lookup x=some .local\/sc.names.lookup x=some .cell
 Qpi:∀y∈sc.names,y.2≠.free
theorem Qfi {kindOf:Str->Option NameKind}{x:Str}:∀{binds:List (Str×Value)} {m:Str->Option Value},(∀v,(x,v)∉binds)->bindL kindOf binds m x=m x
 | [],_,_=>rfl
 |(n,v)::r,m,h=>by
  unfold bindL
  rw[Qfi fun w hw=>h w (z08 _ hw)]
  split
  ·have:x≠n:=by rintro rfl;exact h v z07
   simp[this]
  ·rfl
theorem Qfj {kindOf:Str->Option NameKind}{x:Str}:∀{binds:List (Str×Value)} {m:Str->Option Value},(∀v,(x,v)∉binds)->bindC kindOf binds m x=m x
 | [],_,_=>rfl
 |(n,v)::r,m,h=>by
  unfold bindC
  rw[Qfj fun w hw=>h w (z08 _ hw)]
  split
  ·rfl
  ·have:x≠n:=by rintro rfl;exact h v z07
   simp[this]
theorem Qfk {kindOf:Str->Option NameKind}{x:Str}{v:Value}:∀{P:List Str} {vs:List Value} {i:Nat} {m:Str->Option Value},P.Nodup->P[i]? = some x->vs[i]? = some v->kindOf x=some .local->
  bindL kindOf (P.zip vs) m x=some v
 | [],_,_,_,_,h,_,_=>by simp at h
 |_::_,[],_,_,_,_,h,_=>by simp at h
 |p::P,w::vs,0,m,nd,h1,h2,hk=>by
  simp at h1 h2;subst h1;subst h2
  show bindL kindOf ((p,w)::P.zip vs) m p=_
  unfold bindL
  rw[Qfi fun v hv=>(z72.mp nd).1 (zo4 hv).1,if_pos hk]
  simp
 |p::P,w::vs,i+1,m,nd,h1,h2,hk=>by
  show bindL kindOf ((p,w)::P.zip vs) m x=_
  unfold bindL
  exact Qfk (i:=i) (z72.mp nd).2 (by simpa using h1) (by simpa using h2) hk
theorem Qfl {kindOf:Str->Option NameKind}{x:Str}{v:Value}:∀{P:List Str} {vs:List Value} {i:Nat} {m:Str->Option Value},P.Nodup->P[i]? = some x->vs[i]? = some v->kindOf x≠some .local->
  bindC kindOf (P.zip vs) m x=some v
 | [],_,_,_,_,h,_,_=>by simp at h
 |_::_,[],_,_,_,_,h,_=>by simp at h
 |p::P,w::vs,0,m,nd,h1,h2,hk=>by
  simp at h1 h2;subst h1;subst h2
  show bindC kindOf ((p,w)::P.zip vs) m p=_
  unfold bindC
  rw[Qfj fun v hv=>(z72.mp nd).1 (zo4 hv).1,if_neg hk]
  simp
 |p::P,w::vs,i+1,m,nd,h1,h2,hk=>by
  show bindC kindOf ((p,w)::P.zip vs) m x=_
  unfold bindC
  exact Qfl (i:=i) (z72.mp nd).2 (by simpa using h1) (by simpa using h2) hk
def start (N:List Str)(vs:List V):St:=vs.map some++za1 (N.length - vs.length) none
def Qib (CX:CXT)(P:Program)(w:World)(K:z01)(mg:Str->Option Value)(base:Heap)(N:List Str)(qual:Str)(scope:Scope)(f:Addr)(cd:Value)(A:Around)(outer:List Env)(s:Shared)(H:Hp)(E:XK):Cx where
 prog:=P
 w:=w
 K:=K
 mg:=mg
 base:=base
 A:=A.deeper (envOfC qual scope s.heap.objs.size f cd)
 N:=N
 s₀:=s
 H₀:=H
 env:=envOfC qual scope s.heap.objs.size f cd
 outer:=outer
 stack:=envOfC qual scope s.heap.objs.size f cd::outer
 ex:=[]
 calm:=true
 fn:=fun _=>true
 pn:=[]
 xe:=fun e s'=>wpAny (model P w) (A.deeper (envOfC qual scope s.heap.objs.size f cd)) (leaving (envOfC qual scope s.heap.objs.size f cd) e) (fun _ s''=>CX outer H s E e s'') (fun e' s''=>CX outer H s E e' s'') s'
theorem Qhh {sc:Scope}{n:Nat}{x:Str}(h:sc.names.lookup x=some .cell):∃c,(cellsFrom n sc.names []).lookup x=some c:=by
 have q:=zp7 sc.names n [] (.inl h)
 exact Option.isSome_iff_exists.mp q
theorem Qi7 {CX:CXT}{P:Program}{w:World}{K:z01}{mg:Str->Option Value}{base:Heap}{N ps:List Str}{qual:Str}{scope:Scope}{f:Addr}{cd:Value}{A:Around}{outer:List Env}{s s1:Shared}{H:Hp}{E:XK}{us:List Value}{vs:List V}
  (S:Qs N ps scope) (hd:A.handled=none) (e0:Qm9 P w K mg base A outer s H) (hl:vs.length=ps.length) (r:Vals vs us)
  (x:InCallC s s.heap.objs.size (bindL (envOfC qual scope s.heap.objs.size f cd).kindOf (ps.zip us) fun _=>none) (cellsFrom (s.heap.objs.size+1) scope.names []) (bindC (envOfC qual scope s.heap.objs.size f cd).kindOf (ps.zip us) fun _=>none) s1) :
  Inv (Qib CX P w K mg base N qual scope f cd A outer s H E) [] (start N vs) H s1:=by
 have hpl:ps.length<=N.length:=by have:=congrArg zd7 S.pre;rw[z49] at this;lia
 obtain⟨h1,tk,rfl,hk⟩:=x.done
 have noA:∀b:Addr,b∉(Qib CX P w K mg base N qual scope f cd A outer s H E).ex:=fun b z=>absurd (show b∈([]:List Addr) from z) (by simp)
 refine⟨⟨e0.mod,S.kind,rfl,rfl,z27 _,fun y z c h1 h2=>?_,fun y hy=>?_,fun y c _ h=>?_,fun _=>hd,Around.frames_deeper e0.frames,.inr ⟨rfl,rfl⟩,fun b z=>absurd z (noA b),e0.bs,e0.bsz,fun b _ _=>noA b,fun b z=>absurd z (noA b),e0.QiP,e0.frf⟩,
  rfl,e0.bare,Un.kept hk,⟨_,x.toInCall.ns,fun i y v h1 h2 h3=>?_⟩,fun y c h=>⟨_,x.cell y c h⟩,e0.hok.fresh (z27 _),fun y c h=>?_,fun p hp=>absurd (show p∈([]:List (Addr×Obj)) from hp) (by simp),e0.hok.kept hk,?_⟩
 ·exact name_of_addr x.apart (za4 h1) (za4 h2)
 ·have hy:scope.names.lookup y=some .cell\/scope.names.lookup y=some .free:=hy
  rcases hy with hy|hy
  ·exact Qhh hy
  ·exact absurd rfl (S.Qpi _ (za4 hy))
 ·exact zs8 (x.above y c (za4 h))
 ·have hi:i<vs.length:=by
   unfold start at h2
   by_cases hi:i<vs.length
   ·exact hi
   ·rw[z46 (by simpa using hi)] at h2
    rw[List.getElem?_replicate] at h2
    split at h2<;>cases h2
  have ha:vs[i]? = some v:=by
   unfold start at h2
   rw[z61 (by simpa using hi),z18] at h2
   cases e:vs[i]? with
   |none=>rw[e] at h2;cases h2
   |some a=>rw[e] at h2;cases h2;rfl
  obtain⟨u,hu,rv⟩:=r.get ha
  have hp:ps[i]? = some y:=by
   rw[← S.pre,zb8 (by lia)];exact h1
  have ndP:ps.Nodup:=by rw[← S.pre];exact S.nd.sublist (zh8 _ _)
  refine⟨u,rv,?_⟩
  rcases S.par y (z37 hp) with k|k
  ·exact .inl ⟨k,Qfk ndP hp hu k⟩
  ·obtain⟨c,e⟩:=Qhh (n:=s.heap.objs.size+1) k
   refine .inr ⟨.inl k,c,e,?_⟩
   have q:=x.cell y c e
   rw[Qfl ndP hp hu (by show scope.names.lookup y≠_;rw[k];decide)] at q
   exact q
 ·exact e0.hok.fresh (zs8 (x.above y c (za4 h)))
 ·unfold start
  show _=N.length
  rw[z16,z00,List.length_replicate]
  lia
theorem Qpj {CX:CXT}{P:Program}{w:World}{K:z01}{mg:Str->Option Value}{base:Heap}{k:Nat}{f:Addr}{name qual:Str}{params:Arguments}{body:List Stmt}{scope:Scope}{dV kV doc pm cdv ct oc:Value}{an od:Option Addr}
  {osl:Array (Option Value)} {N ps:List Str} {sp:Sp} (lk:K.lookup f=some ⟨oc,od,.func (ze9 name qual params body scope dV kV doc pm an cdv ct),osl⟩) (hcd:zn9 K cdv qual=true) (S:Qs N ps scope)
  (len:∀vs H Q E,sp vs H Q E->vs.length=ps.length)
  (hbody:∀(A:Around) (outer:List Env) (s:Shared) (H:Hp) (vs:List V) (Q:VK) (E:XK),Qao k (A.deeper (envOfC qual scope s.heap.objs.size f cdv))->sp vs H Q E->
   ∃t,PSs (Qib CX P w K mg base N qual scope f cdv A outer s H E) body t/\t { nx:=fun _ H'=>Q .non H',rt:=Q } (start N vs) H) :
  JF P w K mg base CX (k+1) f (ze9 name qual params body scope dV kV doc pm an cdv ct) ps sp:=by
 refine⟨len,fun A outer s H args us vs Q E hr e0 hb r hsp=>?_⟩
 have hl:=len _ _ _ _ hsp
 have KX:K.In s.heap:=e0.mod.kin.keeps fun b o e=>(e0.bs b o e).1
 have lim:s.heap.NoLimit:=e0.mod.nolimit.keeps fun b o e=>(e0.bs b o e).1
 have hkind:∀y∈ps.zip us,scope.names.lookup y.1=some .local\/(scope.names.lookup y.1=some .cell/\((cellsFrom (s.heap.objs.size+1) scope.names []).lookup y.1).isSome=true):=fun⟨n,v⟩ hy=>by
  rcases S.par n (zo4 hy).1 with q|q
  ·exact .inl q
  ·exact .inr ⟨q,zp7 _ _ _ (.inl q)⟩
 refine codeAny_call_function hr.depth (KX _ _ lk) rfl S.co S.gen rfl (PySem.W.codeRec_of KX hcd) (hb _ _ _ _ ?_)
 refine wpAny_newFunctionEnv_cells S.kind hkind fun env he s1 x=>?_
 subst he
 refine⟨lim.keeps x.toInCall.keep,codeAny_func ?_⟩
 obtain⟨t,ht,hq⟩:=hbody A outer s H vs Q E (hr.deeper _) hsp
 have I:Inv (Qib CX P w K mg base N qual scope f cdv A outer s H E) [] (start N vs) H s1:=Qi7 S hr.hd e0 hl r x
 refine zb5 (ht [] s1 (start N vs) H _ I hq) (fun fl s' hs=>?_) fun e s' hs=>hs
 have fin:∀{σ':St} {H':Hp} {v:V} {u:Value},Inv (Qib CX P w K mg base N qual scope f cdv A outer s H E) [] σ' H' s'->RelV v u->Q v H'->CE outer P w H s Q u s':=
  fun{σ' H' v u} J rv q=>⟨v,H',J.os,J.bare,J.base,J.hok,rv,q⟩
 cases fl with
 |ret u=>
  obtain⟨v,σ',H',J,rv,q⟩:=hs
  exact fin J rv q
 |next=>
  obtain⟨σ',H',J,q⟩:=hs
  exact fin (v:=V.non) (u:=z38) J rfl q
 |brk=>
  obtain⟨_,_,_,q⟩:=hs
  exact zb6 q
 |cont=>
  obtain⟨_,_,_,q⟩:=hs
  exact zb6 q
section
variable {X:Cx}{x:Str}{p pos:Pos}{e:Expr}{es:List Expr}{t:TA}{id T:String}{r:List V->Hp->VK->Prop}
def tCB (r:List V->Hp->VK->Prop)(t:TA):TE:=fun σ H Q=>t σ H fun vs H1=>r vs H1 Q
theorem Qhi (hc:QbR X (.builtin id) r)(hg:Gl X x)(hm:X.mg x=none)(hv:z71 x=some (.builtin id))(ha:PA X (e::es) t)(hn:x ≠ "__name__" := by decide)(hdb:(x == ("__debug__" : Str))=false:=by decide)
  (he:starEach (e::es) X.env=(false,eval e X.env)::starEach es X.env:=by rfl) (hpl:(backTo pos (starEach es X.env)).any (·.1)=false:=by rfl):PE X (.Call (.Name x p) (e::es) [] pos) (tCB r t):=by
 intro pins s σ H Q I h
 refine zf5 (Qfc I hg hm hv ?_ hn hdb)
 exact PyProof.Rows.callWith_builtin1 (thn (ha pos pins s σ H _ I h) fun us s1 ⟨vs,H1,I1,r1,q1⟩=>hc pins s1 σ H1 vs us Q I1 r1 q1) he hpl
theorem Qfm (hc:QbR X (.type T) r)(hg:Gl X x)(hm:X.mg x=none)(hv:z71 x=some (.type T))(ha:PA X (e::es) t)(hn:x ≠ "__name__" := by decide)(hdb:(x == ("__debug__" : Str))=false:=by decide)
  (he:starEach (e::es) X.env=(false,eval e X.env)::starEach es X.env:=by rfl) (hpl:(backTo pos (starEach es X.env)).any (·.1)=false:=by rfl):PE X (.Call (.Name x p) (e::es) [] pos) (tCB r t):=by
 intro pins s σ H Q I h
 refine zf5 (Qfc I hg hm hv ?_ hn hdb)
 exact zf1 (thn (ha pos pins s σ H _ I h) fun us s1 ⟨vs,H1,I1,r1,q1⟩=>hc pins s1 σ H1 vs us Q I1 r1 q1) he hpl
end
section
variable {κ:Type}[DecidableEq κ]
def Qic (kvs:List (κ×V))(k:κ):Option V:=(kvs.find? fun kv=>decide (kv.1=k)).map (·.2)
def putK (kvs:List (κ×V))(k:κ)(v:V):List (κ×V):=
 if(kvs.any fun kv=>decide (kv.1=k))=true then kvs.map (fun kv=>if kv.1=k then(kv.1,v) else kv) else kvs++[(k,v)]
theorem Qcq {p:κ×V}{r:List (κ×V)}{k:κ}(e:p.1=k):Qic (p::r) k=some p.2:=by simp[Qic,ze4,e]
theorem Qbu {p:κ×V}{r:List (κ×V)}{k:κ}(e:¬ p.1=k):Qic (p::r) k=Qic r k:=by simp[Qic,ze4,e]
theorem Qhj (k:κ):∀kvs:List (κ×V),(kvs.any fun kv=>decide (kv.1=k))=(Qic kvs k).isSome
 | []=>rfl
 |p::r=>by
  rw[ze5]
  by_cases e:p.1=k
  ·simp only[Qcq e,decide_eq_true e,Bool.true_or,Option.isSome_some]
  ·rw[Qbu e,decide_eq_false e,Bool.false_or];exact Qhj k r
theorem QcK (kvs:List (κ×V))(k:κ)(v:V):(putK kvs k v).length<=kvs.length+1:=by
 unfold putK
 split
 ·rw[z00];lia
 ·rw[z16,z24,zo6];lia
theorem Qgn.Qi8 {o:Option V}{u:Option Value}(r:Qgn o u):o.isSome=u.isSome:=by
 cases o with
 |none=>cases u with
  |none=>rfl
  |some _=>exact(show False from r).elim
 |some _=>cases u with
  |none=>exact(show False from r).elim
  |some _=>rfl
theorem Qgn.getD {o:Option V}{u:Option Value}{d:V}{d':Value}(r:Qgn o u)(rd:RelV d d'):RelV (o.getD d) (u.getD d'):=by
 cases o with
 |none=>cases u with
  |none=>exact rd
  |some _=>exact(show False from r).elim
 |some _=>cases u with
  |none=>exact(show False from r).elim
  |some _=>exact r
theorem KV.val {kvs:List (κ×V)}{vs:List (κ×Value)}(r:KV kvs vs)(k:κ):Qgn (Qic kvs k) (valueAt vs k):=by
 unfold KV at r
 induction r with
 |nil=>exact z58
 | @cons p q ps qs h t ih=>
  obtain⟨h1,h2⟩:=h
  by_cases e:p.1=k
  ·have e':q.1=k:=h1.symm.trans e
   have b:valueAt (q::qs) k=some q.2:=by simp[valueAt,ze4,e']
   rw[Qcq e,b];exact h2
  ·have e':¬ q.1=k:=fun z=>e (h1.trans z)
   have b:valueAt (q::qs) k=valueAt qs k:=by simp[valueAt,ze4,e']
   rw[Qbu e,b];exact ih
theorem KV.any {kvs:List (κ×V)}{vs:List (κ×Value)}(r:KV kvs vs)(k:κ):(kvs.any fun kv=>decide (kv.1=k))=vs.any fun kv=>decide (kv.1=k):=by
 unfold KV at r
 induction r with
 |nil=>rfl
 |cons h t ih=>rw[ze5,ze5,ih,h.1]
theorem KV.repl {kvs:List (κ×V)}{vs:List (κ×Value)}(r:KV kvs vs)(k:κ){y:V}{u:Value}(ry:RelV y u) :
  KV (kvs.map fun kv=>if kv.1=k then(kv.1,y) else kv) (vs.map fun kv=>if kv.1=k then(kv.1,u) else kv):=by
 unfold KV at r ⊢
 induction r with
 |nil=>exact .nil
 | @cons p q ps qs h t ih=>
  rw[z31,z31]
  refine .cons ?_ ih
  obtain⟨h1,h2⟩:=h
  by_cases e:p.1=k
  ·rw[if_pos e,if_pos (h1.symm.trans e)];exact⟨h1,ry⟩
  ·rw[if_neg e,if_neg (fun z=>e (h1.trans z))];exact⟨h1,h2⟩
theorem KV.put {kvs:List (κ×V)}{vs:List (κ×Value)}(r:KV kvs vs)(k:κ){y:V}{u:Value}(ry:RelV y u):KV (putK kvs k y) (stored vs k u):=by
 unfold putK stored
 rw[r.any k]
 by_cases e:(vs.any fun kv=>decide (kv.1=k))=true
 ·rw[if_pos e,if_pos e];exact r.repl k ry
 ·rw[if_neg e,if_neg e];exact Paired.snoc r ⟨rfl,ry⟩
theorem KV.length {kvs:List (κ×V)}{vs:List (κ×Value)}(r:KV kvs vs):kvs.length=vs.length:=zh7 r
end
theorem Qna {P:Program}{w:World}{k:Key}{u:Value}(r:RelV (kV k) u):(JU P w).is k u=true:=by
 cases k with
 |inl i=>obtain⟨t,e⟩:=(show ∃t,u=z76 i t from r);subst e;exact Qgq P w i t
 |inr x=>obtain⟨t,e⟩:=(show ∃t,u=zn8 x t from r);subst e;exact Qgr P w x t
theorem Qfn {P:Program}{w:World}:∀{ks:List Key} {us:List Value},Vals (ks.map kV) us->ItemsAre (JU P w) ks us
 | [],_,r=>by rw[zn0] at r;cases r;exact .nil
 |k::ks,_,r=>by
  rw[z31] at r
  cases r with
  |cons h t=>exact .cons (Qna h) (Qfn t)
abbrev KT (H:Hp):List (List Key×V)->List (List Key×Addr×Value)->Prop:=Paired fun p q=>p.1=q.1/\H q.2.1=some (.tup (p.1.map kV))/\RelV p.2 q.2.2
theorem KT.val {H:Hp}{kvs:List (List Key×V)}{xs:List (List Key×Addr×Value)}(r:KT H kvs xs)(k:List Key):Qgn (Qic kvs k) ((atKey xs k).map (·.2)):=by
 induction r with
 |nil=>exact z58
 | @cons p q ps qs h t ih=>
  obtain⟨h1,_,h2⟩:=h
  by_cases e:p.1=k
  ·have e':q.1=k:=h1.symm.trans e
   have b:atKey (q::qs) k=some q.2:=by simp[atKey,ze4,e']
   rw[Qcq e,b];exact h2
  ·have e':¬ q.1=k:=fun z=>e (h1.trans z)
   have b:atKey (q::qs) k=atKey qs k:=by simp[atKey,ze4,e']
   rw[Qbu e,b];exact ih
theorem KT.repl {H:Hp}{kvs:List (List Key×V)}{xs:List (List Key×Addr×Value)}(r:KT H kvs xs)(k:List Key){y:V}{u:Value}(ry:RelV y u) :
  KT H (kvs.map fun kv=>if kv.1=k then(kv.1,y) else kv) (xs.map (putAt k u)):=by
 induction r with
 |nil=>exact .nil
 | @cons p q ps qs h t ih=>
  rw[z31,z31]
  refine .cons ?_ ih
  obtain⟨h1,h2,h3⟩:=h
  unfold putAt
  by_cases e:p.1=k
  ·rw[if_pos e,if_pos (h1.symm.trans e)];exact⟨h1,h2,ry⟩
  ·rw[if_neg e,if_neg (fun z=>e (h1.trans z))];exact⟨h1,h2,h3⟩
theorem KT.put {H:Hp}{kvs:List (List Key×V)}{xs:List (List Key×Addr×Value)}(r:KT H kvs xs)(k:List Key){b:Addr}{y:V}{u:Value}(hb:H b=some (.tup (k.map kV)))(ry:RelV y u) :
  KT H (putK kvs k y) (storedH xs k b u):=by
 have e:(kvs.any fun kv=>decide (kv.1=k))=(atKey xs k).isSome:=by
  rw[Qhj,(r.val k).Qi8,Option.isSome_map]
 unfold putK storedH
 rw[e]
 by_cases q:(atKey xs k).isSome=true
 ·rw[if_pos q,if_pos q];exact r.repl k ry
 ·rw[if_neg q,if_neg q];exact Paired.snoc r ⟨rfl,hb,ry⟩
theorem KT.keeps {H H':Hp}{kvs:List (List Key×V)}{xs:List (List Key×Addr×Value)}(r:KT H kvs xs)(ht:∀b ys,H b=some (.tup ys)->H' b=some (.tup ys)):KT H' kvs xs:=
 Paired.QrO r fun _ _ z=>⟨z.1,ht _ _ z.2.1,z.2.2⟩
section
variable {P:Program}{w:World}{H:Hp}{h:Heap}{a:Addr}
theorem Qpk {u:HO}(ok:HOk P w H h)(e:Rd H a u):Yc P w H h a u:=e.ok ok
theorem Qnb {kvs:List (Key×V)}(ok:HOk P w H h)(e:Rd H a (.dK kvs)):kvs.length<=z15/\(a == sysModules)=false/\∃vs,KV kvs vs/\h.DictOf (JU P w) a vs:=
 show Yc P w H h a (.dK kvs) from Qpk ok e
theorem Qsm {kvs:List (Key×V)}(ok:HOk P w H h)(e:H a=some (.dK kvs)):kvs.length<=z15/\(a == sysModules)=false/\∃vs,KV kvs vs/\h.DictOf (JU P w) a vs:=Qnb ok (.inl e)
theorem Qi9 {ks:List Key}(ok:HOk P w H h)(e:H a=some (.tup (ks.map kV))):(tupleKind (JU P w)).is h ks a:=by
 obtain⟨_,its,r,o,h1,h2,n,h3⟩:=(show Yc P w H h a (.tup (ks.map kV)) from ok a _ e)
 exact⟨o,its.toArray,n,h1,h2,h3,by simpa using Qfn r⟩
theorem Qnc {kvs:List (List Key×V)}(ok:HOk P w H h)(e:Rd H a (.dT kvs)):kvs.length<=z15/\(a == sysModules)=false/\
  ∃xs,KT H kvs xs/\h.DictOfH (tupleKind (JU P w)) a xs:=by
 obtain⟨z,y,xs,r,o,es,ep,h1,h2,h3,h4,h5⟩:=(show Yc P w H h a (.dT kvs) from Qpk ok e)
 refine⟨z,y,xs,r,o,es,ep,h1,h2,h3,h4,fun x hx=>?_,h5⟩
 have all:∀{l:List (List Key×V)} {m:List (List Key×Addr×Value)},KT H l m->∀x∈m,(tupleKind (JU P w)).is h x.1 x.2.1:=by
  intro l m q
  induction q with
  |nil=>intro x hx;exact nomatch hx
  | @cons p q ps qs hq t ih=>
   intro x hx
   rcases z13.mp hx with e|hx
   ·subst e
    exact Qi9 ok (by rw[← hq.1];exact hq.2.1)
   ·exact ih x hx
 exact all r x hx
theorem Qsn {kvs:List (List Key×V)}(ok:HOk P w H h)(e:H a=some (.dT kvs)):kvs.length<=z15/\(a == sysModules)=false/\
  ∃xs,KT H kvs xs/\h.DictOfH (tupleKind (JU P w)) a xs:=Qnc ok (.inl e)
end
def Qpl (H:Hp)(a:Addr)(y:V)(r:Option V):Prop:=
 (∃kvs k,Rd H a (.dK kvs)/\y=kV k/\r=Qic kvs k)\/∃kvs k b,Rd H a (.dT kvs)/\y=.ref b/\H b=some (.tup (k.map kV))/\r=Qic kvs k
def Qpm (H:Hp)(a:Addr)(y v:V)(H':Hp):Prop:=
 (∃kvs k,H a=some (.dK kvs)/\y=kV k/\kvs.length<z15/\H'=upd H a (.dK (putK kvs k v)))\/
 ∃kvs k b,H a=some (.dT kvs)/\y=.ref b/\H b=some (.tup (k.map kV))/\kvs.length<z15/\H'=upd H a (.dT (putK kvs k v))
theorem Qpl.t {H:Hp}{a b:Addr}{kvs:List (List Key×V)}{k:List Key}(e:H a=some (.dT kvs))(eb:H b=some (.tup (k.map kV))):Qpl H a (.ref b) (Qic kvs k):=.inr ⟨kvs,k,b,.inl e,rfl,eb,rfl⟩
theorem Qpm.t {H:Hp}{a b:Addr}{kvs:List (List Key×V)}{k:List Key}{v:V}(e:H a=some (.dT kvs))(eb:H b=some (.tup (k.map kV)))(hl:kvs.length<z15) :
  Qpm H a (.ref b) v (upd H a (.dT (putK kvs k v))):=.inr ⟨kvs,k,b,e,rfl,eb,hl,rfl⟩
section
variable {X:Cx}{pins:List (Addr×Obj)}{σ:St}{H:Hp}{s:Shared}{a:Addr}{y v:V}{u r:Value}{A:Around}{E:Value->Shared->Prop}
theorem Inv.big (I:Inv X pins σ H s):sysModules<s.heap.objs.size:=by
 have h:z21<s.heap.objs.size:=(I.mod.glob.keeps I.bk).lt
 exact Nat.lt_trans (by decide) h
theorem Qja {h':Heap}{t':Nat}{ob:HO}(I:Inv X pins σ H s)(mu:Mut (H a))(hs:ze0 a s.heap h')(he:∃q,h'.get? a=some q)(new:Yc X.prog X.w (upd H a ob) h' a ob) :
  Inv X pins σ (upd H a ob) { s with heap:=h',toks:=t' }:=
 I.write (x:=a) (e:=a) mu (.inl rfl) (fun b q hb z=>(hs.2 b hb).trans z) he new
theorem Qpn {P:Program}{w:World}{H':Hp}{h':Heap}{kvs:List (Key×V)}{vs:List (Key×Value)}(z:kvs.length<=z15)(hd:(a == sysModules)=false)(rel:KV kvs vs)(dd:h'.DictOf (JU P w) a vs) :
  Yc P w H' h' a (.dK kvs):=⟨z,hd,vs,rel,dd⟩
theorem Qjb {H':Hp}{Q:Unit->Shared->Prop}(hu:A.units+1<cLine)(I:Inv X pins σ H s)(g:Qpm H a y v H')(ry:RelV y u)(rv:RelV v r)(h:∀s',Inv X pins σ H' s'->Q () s') :
  wpAny (model X.prog X.w) A (setItem (.ref a) u r) Q E s:=by
 rcases g with⟨kvs,k,e,ey,l,eH⟩|⟨kvs,k,b,e,ey,eb,l,eH⟩
 ·subst ey eH
  obtain⟨z,hd,vs,rel,dd⟩:=Qsm I.hok e
  have hz:vs.length<=z15:=by rw[← rel.length];exact z
  have hl:(putK kvs k v).length<=z15:=by have:=QcK kvs k v;lia
  refine wpAny_setItem_pairs (hsz:=hz) (Qna ry) dd fun h' dd' hs=>h _ ?_
  have he:∃q,h'.get? a=some q:=let ⟨q,_,_,hq,_⟩:=dd';⟨q,hq⟩
  exact Qja I (by rw[e];exact z58) hs he (Qpn hl hd (rel.put k rv) dd')
 ·subst ey eH
  cases(show u=z44 b from ry)
  obtain⟨z,hd,xs,rel,dd⟩:=Qsn I.hok e
  have hz:xs.length<=z15:=by rw[← zh7 rel];exact z
  have hl:(putK kvs k v).length<=z15:=by have:=QcK kvs k v;lia
  refine wpAny_setItem_heap (hsz:=hz) (tupleKind_room_in1 hu) (Qi9 I.hok eb) dd fun h' dd' hs=>h _ ?_
  obtain⟨q,es,ep,hq,h2,h3,h4,_,h5⟩:=dd'
  refine Qja I (by rw[e];exact z58) hs ⟨q,hq⟩ ⟨hl,hd,_,(rel.put k eb rv).keeps fun c ys ec=>?_,q,es,ep,hq,h2,h3,h4,h5⟩
  rw[Qp (Qr6 ec e (fun z=>nomatch z))]
  exact ec
end
def Qso (td ty tv:TE):TS:=fun D σ H=>tv σ H fun v H1=>td σ H1 fun x H2=>ty σ H2 fun y H3=>∃a H4,x=.ref a/\Qpm H3 a y v H4/\D.nx σ H4
section
variable {X:Cx}{o i value:Expr}{pos pos':Pos}{td ty tv:TE}
theorem Qnd (hu:X.A.units+1<cLine)(ho:PE X o td)(hi:PE X i ty)(hv:PE X value tv)(hs:swapsWith value (some (.Subscript o i pos')) pos.line X.env=pure false) :
  PS X (.Assign [.Subscript o i pos'] value pos) (Qso td ty tv):=by
 intro pins s σ H D I h
 refine wpAny_Assign_Subscript (thn (hv pins s σ H _ I h) fun r s1 hz=>?_) hs
 obtain⟨v,H1,I1,rv,q1⟩:=hz
 refine thn (ho pins s1 σ H1 _ I1 q1) fun u s2 hz=>?_
 obtain⟨x,H2,I2,rx,q2⟩:=hz
 refine thn (hi pins s2 σ H2 _ I2 q2) fun iv s3 hz=>?_
 obtain⟨y,H3,I3,ry,a,H4,ex,g,q3⟩:=hz
 subst ex
 obtain rfl:u=z44 a:=rx
 exact Qjb hu I3 g ry rv fun s4 I4=>⟨σ,H4,I4,q3⟩
end
theorem Qlk {P:Program}{w:World}{H:Hp}(h:Heap)(hb:sysModules<h.objs.size):Yc P w H (h.push { cls:=.type "dict",data:=.dict #[]}) h.objs.size (.dT []):=
 ⟨zb4 _,beq_eq_false_iff_ne.mpr (zd4 (z52 hb)),[],.nil,_,#[],0,z45 _ rfl,⟨rfl,rfl,rfl⟩,rfl,rfl,zf8⟩
def Qpo:TE:=fun _ H Q=>∀p,H p=none->Q (.ref p) (upd H p (.dT []))
section
variable {X:Cx}{pos:Pos}
theorem Qll:PE X (.Dict [] [] pos) Qpo:=fun pins s σ H Q I h=>
 wpAny_Dict_empty ⟨.ref s.heap.objs.size,_,I.laid (a:=s.heap.objs.size) (o:=.dT []) (t':=s.toks) (fun _ _ q=>z17 _ q) (z27 _) (Qlk s.heap I.big),rfl,h _ (I.hok.fresh (z27 _))⟩
end
structure M2 (X:Cx)(o:Expr)(m:Str)(apos:Pos)(e f:Expr)(cpos:Pos):Prop where
 base:attributeBase o m X.env (eval o X.env)=eval o X.env
 few:((backTo cpos (starEach [e,f] X.env)).all (fun x=>!x.1) && (backToKw cpos (keywordEach [] X.env)).all (fun x=>x.1.isSome)
  && decide (([e,f]:List Expr).length+([]:List Keyword).length+(if([]:List Keyword).isEmpty then 0 else 1)<30))=true
 line:(apos.endLine == cpos.line)=true
 trees:backTo cpos (starEach [e,f] X.env)=[(false,eval e X.env),(false,eval f X.env)]
def IsD (H:Hp)(a:Addr):Prop:=(∃kvs,Rd H a (.dK kvs))\/∃kvs,Rd H a (.dT kvs)
theorem Qpp {X:Cx}{pins:List (Addr×Obj)}{σ:St}{H:Hp}{s:Shared}{a:Addr}(I:Inv X pins σ H s)(d:IsD H a) :
  s.TypeIs (.ref a) "dict" /\ (∀b,z44 a=.ref b->∃ob,s.heap.get? b=some ob/\ob.dict=none)/\(a == sysModules)=false:=by
 rcases d with⟨kvs,e⟩|⟨kvs,e⟩
 ·obtain⟨_,hd,vs,_,dd⟩:=Qnb I.hok e
  refine⟨dd.typeIs,fun b q=>?_,hd⟩
  cases q
  obtain⟨ob,_,_,h1,h2,_⟩:=dd
  exact⟨ob,h1,h2.2.1⟩
 ·obtain⟨_,hd,xs,_,dd⟩:=Qnc I.hok e
  refine⟨dd.typeIs,fun b q=>?_,hd⟩
  cases q
  obtain⟨ob,_,_,h1,h2,_⟩:=dd
  exact⟨ob,h1,h2.2.1⟩
section
variable {X:Cx}{pins:List (Addr×Obj)}{σ:St}{H:Hp}{s:Shared}{a:Addr}{y d:V}{u r:Value}{o:Option V}{A:Around}{E:Value->Shared->Prop}
theorem Qpq {Q:Value->Shared->Prop}(hu:A.units+1<cLine)(I:Inv X pins σ H s)(g:Qpl H a y o)(ry:RelV y u)(rd:RelV d r)(h:∀w' s',Inv X pins σ H s'->RelV (o.getD d) w'->Q w' s') :
  wpAny (model X.prog X.w) A (call (.builtin "dict.get") [.ref a,u,r]) Q E s:=by
 rcases g with⟨kvs,k,e,ey,l⟩|⟨kvs,k,b,e,ey,eb,l⟩
 ·subst ey
  obtain⟨z,hd,vs,rel,dd⟩:=Qnb I.hok e
  refine call_meetsIn zi7 dd.typeIs zp8 (zp2 _ _ _) (meets_dict_get_default (JU X.prog X.w) a (Qna ry) hd r) ⟨_,dd.mapOf,h _ _ (I.tok _) ?_⟩
  rw[l]
  exact(rel.val k).getD rd
 ·subst ey
  cases(show u=z44 b from ry)
  obtain⟨z,hd,xs,rel,dd⟩:=Qnc I.hok e
  refine call_meetsIn zi7 dd.typeIs zp8 (zp2 _ _ _) (meetsH_dict_get_default (tupleKind (JU X.prog X.w)) a b hd r) ⟨tupleKind_room_in1 hu,k,xs,Qi9 I.hok eb,dd,h _ _ (I.tok _) ?_⟩
  rw[l]
  exact(rel.val k).getD rd
end
def Qpr (td ty tx:TE):TE:=fun σ H Q=>td σ H fun x H1=>∃a,x=.ref a/\IsD H1 a/\ty σ H1 fun y H2=>tx σ H2 fun z H3=>∃o,Qpl H3 a y o/\Q (o.getD z) H3
section
variable {X:Cx}{o e f:Expr}{apos cpos:Pos}{td ty tx:TE}
theorem Qlm (hu:X.A.units+1<cLine)(ho:PE X o td)(he:PE X e ty)(hf:PE X f tx)(m:M2 X o "get" apos e f cpos):PE X (.Call (.Attribute o "get" apos) [e,f] [] cpos) (Qpr td ty tx):=by
 intro pins s σ H Q I h
 refine wpAny_Call_method m.base m.few m.line PySem.F.plainAttrs_dict zi7 PySem.F.type_dict_get (thn (ho pins s σ H _ I h) fun u s1 hz=>?_)
 obtain⟨x,H1,I1,rx,a,ex,d,q1⟩:=hz
 subst ex
 obtain rfl:u=z44 a:=rx
 obtain⟨t1,t2,_⟩:=Qpp I1 d
 refine⟨t1,t2,?_⟩
 rw[m.trees]
 refine zi8 rfl (zs4 (zl2 (thn (he pins s1 σ H1 _ I1 q1) fun iv s2 hz=>?_)))
 obtain⟨y,H2,I2,ry,q2⟩:=hz
 refine zl2 (thn (hf pins s2 σ H2 _ I2 q2) fun fv s3 hz=>?_)
 obtain⟨z,H3,I3,rz,ov,g,q3⟩:=hz
 refine zu6 ?_
 exact Qpq hu I3 g ry rz fun w' s4 I4 rw'=>⟨_,H3,I4,rw',q3⟩
end
end L2
namespace HT
open PySem PyProof.Rows
theorem Qee (A:Around)(s:Shared)(a:Int)(t:Tok)(c:Int)(u:Tok)(prog:Program)(w:World)(E:Value->Shared->Prop)(Q:Value->Shared->Prop)(h:Q (.bool (decide (a<c))) s) :
  wpAny (model prog w) A (richCompare .Lt (.int a t) (.int c u)) Q E s:=
 (PyProof.Rows.lt_int h:wpAny (model prog w) A (compareOp .Lt (.int a t) (.int c u)) Q E s)
section
open PySem.SeqAt
open PySem.AutoSeq1 (wpAny_loadPart')
open PySem.MeetsSeq PySem.MeetsSeq2 PySem.MeetsSeq3
end
section
def sIx (n d:Nat):Option Int->Nat
 |none=>d
 |some v=>if v<0 then(v+(n:Int)).toNat else min v.toNat n
theorem Qln (n d:Nat):sIx n d none=d:=rfl
theorem Qne (n d k:Nat):sIx n d (some (k:Int))=min k n:=by
 show(if(k:Int)<0 then((k:Int)+(n:Int)).toNat else min (k:Int).toNat n)=min k n
 rw[if_neg (by lia),z82]
end
end HT
namespace L2
open PySem PySem.Spec PyProof.Rows
abbrev TO:=St->Hp->(Option Int->Hp->Prop)->Prop
def PO (X:Cx)(e:Option Expr)(t:TO):Prop:=
 ∀(pins:List (Addr×Obj)) (s:Shared) (σ:St) (H:Hp) (Q:Option Int->Hp->Prop),Inv X pins σ H s->t σ H Q->
  wpAny (model X.prog X.w) X.A (evalPart e X.env) (fun u s'=>∃o H',Inv X pins σ H' s'/\IsPart u o/\Q o H') X.xe s
def Qnf:TO:=fun _ H Q=>Q none H
def Qsp (t:TE):TO:=fun σ H Q=>t σ H fun x H1=>∃i,x=.int i/\Q (some i) H1
theorem intsAre_of {ns:List Int}:∀{us:List Value},Vals (ns.map V.int) us->IntsAre us ns:=by
 induction ns with
 |nil=>intro us r;rw[zn0] at r;cases r;exact .nil
 |cons n ns ih=>
  intro us r
  rw[z31] at r
  cases r with
  |cons r1 r2=>
   obtain⟨t,e⟩:=r1
   subst e
   exact .cons n t (ih r2)
section
variable {X:Cx}{e:Expr}{te:TE}{lo hi:Option Expr}{tl th:TO}{pos p2:Pos}
theorem Qng:PO X none Qnf:=by
 intro pins s σ H Q I h
 rw[evalPart_none]
 exact z51 ⟨none,H,I,.none,h⟩
theorem Qnh (h:PE X e te):PO X (some e) (Qsp te):=by
 intro pins s σ H Q I hw
 rw[evalPart_some]
 refine thn (h pins s σ H _ I hw) fun u s1 hz=>?_
 obtain⟨x,H1,I1,r1,q1⟩:=hz
 obtain⟨i,rfl,q⟩:=q1
 obtain⟨t,rfl⟩:=r1
 exact⟨some i,H1,I1,.int i t,q⟩
def SlR (X:Cx)(r:V->Option Int->Option Int->Hp->VK->Prop):Prop:=
 ∀(pins:List (Addr×Obj)) (s:Shared) (σ:St) (H:Hp) (x:V) (v vl vu:Value) (lo hi:Option Int) (sl:Addr) (Q:VK),Inv X pins σ H s->RelV x v->s.heap.IsSliceOf sl vl vu .none->IsPart vl lo->IsPart vu hi->r x lo hi H Q->
  ∃T id,typeLookup (.type T) "__getitem__" = pure (some (.builtin id))/\s.TypeIs v T/\wpAny (model X.prog X.w) X.A (getItem v (.ref sl)) (EP X pins σ Q) X.xe s
def tSl (r:V->Option Int->Option Int->Hp->VK->Prop)(te:TE)(tl th:TO):TE:=fun σ H Q=>te σ H fun x H1=>tl σ H1 fun l H2=>th σ H2 fun u H3=>r x l u H3 Q
theorem Qhk {r:V->Option Int->Option Int->Hp->VK->Prop}(hr:SlR X r)(he:PE X e te)(hl:PO X lo tl)(hu:PO X hi th):PE X (.Subscript e (.Slice lo hi none p2) pos) (tSl r te tl th):=by
 intro pins s σ H Q I h
 refine Subscript_ (thn (he pins s σ H _ I h) fun v s1 hz=>?_)
 obtain⟨x,H1,I1,r1,q1⟩:=hz
 refine wpAny_Slice (thn (hl pins s1 σ H1 _ I1 q1) fun vl s2 hz=>?_)
 obtain⟨l,H2,I2,pl,q2⟩:=hz
 refine thn (hu pins s2 σ H2 _ I2 q2) fun vu s3 hz=>?_
 obtain⟨u,H3,I3,pu,q3⟩:=hz
 rw[evalPart_none]
 refine z51 ?_
 have I4:Inv X pins σ H3 { s3 with heap:=s3.heap.push { cls:=.type "slice",data:=.fields #[vl,vu,.none]}}:=I3.kept (t':=s3.toks) fun b ob q=>z17 _ q
 obtain⟨T,id,hT,ht,hg⟩:=hr pins { s3 with heap:=s3.heap.push { cls:=.type "slice",data:=.fields #[vl,vu,.none]}} σ H3 x v vl vu l u s3.heap.objs.size Q I4 r1 (Heap.IsSliceOf.new ..) pl pu q3
 show wpAny (model X.prog X.w) X.A (subscriptTail e (.Slice lo hi none p2) v (.ref s3.heap.objs.size)) (EP X pins σ Q) X.xe { s3 with heap:=s3.heap.push { cls:=.type "slice",data:=.fields #[vl,vu,.none]}}
 exact tail_any (ops:=[.ref s3.heap.objs.size,v]) ht hT hg (by with_unfolding_all rfl)
def Qni (xs:List V)(lo hi:Option Int):List V:=(xs.drop (HT.sIx xs.length 0 lo)).take (HT.sIx xs.length xs.length hi - HT.sIx xs.length 0 lo)
theorem Qgx (xs:List V)(lo hi:Option Int):(Qni xs lo hi).length<=xs.length:=by
 unfold Qni
 rw[z49,z85]
 lia
end
def ixN (n:Nat)(i:Int):Option Nat:=if 0<=i then(if i<n then some i.toNat else none) else if -(n:Int)<=i then some (i+n).toNat else none
def atI {α:Type}(xs:List α)(i:Int):Option α:=(ixN xs.length i).bind fun j=>xs[j]?
theorem Qjc {n:Nat}{i:Int}{j:Nat}(h:ixN n i=some j):seqIndex? i n=some j/\j<n/\-(n:Int)<=i/\i<n:=by
 unfold ixN at h
 by_cases h0:0<=i
 ·rw[if_pos h0] at h
  by_cases h1:i<n
  ·rw[if_pos h1] at h
   have e:i.toNat=j:=z22 h
   exact⟨by rw[seqIndex_of h0 h1,e],by lia,by lia,h1⟩
  ·rw[if_neg h1] at h;cases h
 ·rw[if_neg h0] at h
  by_cases h1 : -(n:Int)<=i
  ·rw[if_pos h1] at h
   have e:(i+n).toNat=j:=z22 h
   exact⟨by rw[seqIndex_neg (by lia) h1,e],by lia,h1,by lia⟩
  ·rw[if_neg h1] at h;cases h
theorem Qgy {α:Type}{xs:List α}{i:Int}{v:α}(h:atI xs i=some v):∃j,seqIndex? i xs.length=some j/\xs[j]? = some v/\j<xs.length/\-(xs.length:Int)<=i/\i<xs.length:=by
 unfold atI at h
 cases e:ixN xs.length i with
 |none=>rw[e] at h;cases h
 |some j=>
  rw[e] at h
  obtain⟨h1,h2,h3,h4⟩:=Qjc e
  exact⟨j,h1,h,h2,h3,h4⟩
def Qgz (b:Expr):Prop:=∀o i,subscripted b false o i=operate [o,i] (getItem o i)
def IxR (X:Cx)(r:R2):Prop:=
 ∀(value slice:Expr) (pins:List (Addr×Obj)) (s:Shared) (σ:St) (H:Hp) (x y:V) (v u:Value) (Q:VK),Inv X pins σ H s->RelV x v->RelV y u->r x y H Q->
  subscripted slice false v u=operate [v,u] (getItem v u)->wpAny (model X.prog X.w) X.A (subscriptTail value slice v u) (EP X pins σ Q) X.xe s
def MtR (X:Cx)(id:String)(r:V->List V->Hp->VK->Prop):Prop:=
 ∀(pins:List (Addr×Obj)) (s:Shared) (σ:St) (H:Hp) (x:V) (xs:List V) (v:Value) (us:List Value) (Q:VK),Inv X pins σ H s->RelV x v->Vals xs us->r x xs H Q->
  wpAny (model X.prog X.w) X.A (call (.builtin id) (v::us)) (EP X pins σ Q) X.xe s
section
variable {X:Cx}{a b:Expr}{ta tb:TE}{pos:Pos}
theorem IxR.or {r r':R2}(h:IxR X r)(h':IxR X r'):IxR X (fun x y H Q=>r x y H Q\/r' x y H Q):=by
 intro value slice pins s σ H x y v u Q I rx ry q hs
 rcases q with q|q
 ·exact h value slice pins s σ H x y v u Q I rx ry q hs
 ·exact h' value slice pins s σ H x y v u Q I rx ry q hs
theorem QgA {r:R2}(hr:IxR X r)(ha:PE X a ta)(hb:PE X b tb)(hs:Qgz b):PE X (.Subscript a b pos) (tOp r ta tb):=by
 intro pins s σ H Q I h
 exact Subscript_ (Qsg ha hb I h fun v u s2 x y H2 I2 rx ry q=>hr a b pins s2 σ H2 x y v u Q I2 rx ry q (hs _ _))
def Qsq (K:z01):R2:=fun x y H Q=>∃p xs i v,x=.ref p/\y=.int i/\SqL K H p xs/\atI xs i=some v/\Q v H
def QtN (K:z01):R2:=fun x y H Q=>∃p xs i v,x=.ref p/\y=.int i/\SqT K H p xs/\atI xs i=some v/\Q v H
def QtO:R2:=fun x y H Q=>∃z i c,x=.str z/\y=.int i/\z.length<=z15/\atI z.cps.toList i=some c/\Q (.str ⟨#[c]⟩) H
theorem QbS:IxR X (Qsq X.K):=by
 intro value slice pins s σ H x y v u Q I rx ry h hs
 obtain⟨p,xs,i,z,rfl,rfl,hq,he,q⟩:=h
 cases rx
 obtain⟨t,rfl⟩:=ry
 obtain⟨its,r,pl,hz⟩:=I.list hq
 obtain⟨j,h1,h2,h3,h4,h5⟩:=Qgy he
 obtain⟨w,ew,rw'⟩:=r.get h2
 have hl:=r.length
 have hn:=Qfg
 have fin:EP X pins σ Q w s:=⟨z,H,I,rw',q⟩
 by_cases h0:0<=i
 ·have hj:i.toNat=j:=by
   rw[seqIndex_of h0 h5] at h1
   exact z22 h1
  exact item_listR pl.isList h0 (by lia) (by rw[hj];simpa using ew) fin hs
 ·have hj:(i+(its.toArray.size:Int)).toNat=j:=by
   rw[seqIndex_neg (by lia) h4] at h1
   rw[z14,← hl]
   exact z22 h1
  exact subscriptTail_builtinR (x:=w) pl.isList.typeIs slot_list_getitem.lookup
   (wpAny_getItem_list_neg (Q:=fun r s'=>r=w/\EP X pins σ Q r s') pl.isList (by lia) (by rw[z14]<;>lia) (by lia) (by rw[hj];simpa using ew) ⟨rfl,fin⟩) hs
theorem Qps:IxR X (QtN X.K):=by
 intro value slice pins s σ H x y v u Q I rx ry h hs
 obtain⟨p,xs,i,z,rfl,rfl,hq,he,q⟩:=h
 cases rx
 obtain⟨t,rfl⟩:=ry
 obtain⟨its,r,pl,hz⟩:=I.tuple hq
 obtain⟨j,h1,h2,h3,h4,h5⟩:=Qgy he
 obtain⟨w,ew,rw'⟩:=r.get h2
 have hl:=r.length
 have hn:=Qfg
 have fin:EP X pins σ Q w s:=⟨z,H,I,rw',q⟩
 exact subscriptTail_builtinR (x:=w) pl.typeIs slot_tuple_getitem.lookup
  (getItem_tuple (j:=j) (Q:=fun r s'=>r=w/\EP X pins σ Q r s') pl (by lia) (by lia) (by rw[z14,← hl];exact h1) (by simpa using ew) ⟨rfl,fin⟩) hs
theorem Qpt:IxR X QtO:=by
 intro value slice pins s σ H x y v u Q I rx ry h hs
 obtain⟨z,i,c,rfl,rfl,hz,he,q⟩:=h
 obtain⟨t,rfl⟩:=rx
 obtain⟨t',rfl⟩:=ry
 obtain⟨j,h1,h2,h3,h4,h5⟩:=Qgy he
 have hl:z.cps.toList.length=z.length:=by simp[Str.length]
 rw[hl] at h1 h4 h5
 have hn:=Qfg
 exact tail_any (typeIs_str s z t) slot_str_getitem.lookup (getItem_str (c:=c) (by
  have e1:decide (i < -(2 ^ 63:Int))=false:=decide_eq_false (by lia)
  have e2:decide (i ≥ 2 ^ 63)=false:=decide_eq_false (by lia)
  rw[e1,e2,Bool.or_false]) (by rw[h1];simpa using h2) ⟨.str ⟨#[c]⟩,H,I.tok _,⟨_,rfl⟩,q⟩) hs
def rIx (K:z01):R2:=fun x y H Q=>Qsq K x y H Q\/QtN K x y H Q\/QtO x y H Q
theorem Qmm:IxR X (rIx X.K):=QbS.or (Qps.or Qpt)
theorem Qid (its:List Value)(n j:Nat)(u:Value):z56 (·.setIfInBounds j u) { cls:=.type "list",data:=.seq its.toArray n }={ cls:=.type "list",data:=.seq (its.set j u).toArray n }:=by
 simp[z56]
theorem Inv.lst {pins:List (Addr×Obj)}{σ:St}{H:Hp}{s:Shared}{p:Addr}{xs:List V}(I:Inv X pins σ H s)(h:H p=some (.lst xs)) :
  ∃(its:List Value) (n:Nat),Vals xs its/\s.heap.get? p=some { cls:=.type "list",data:=.seq its.toArray n }/\xs.length<=z15:=by
 obtain⟨z,its,n,r,e⟩:=I.hok p _ h
 exact⟨its,n,r,e,z⟩
theorem Inv.Qpu {pins:List (Addr×Obj)}{σ:St}{H:Hp}{s:Shared}{p:Addr}{xs ys:List V}{its its':List Value}{n n':Nat}{f:Obj->Obj}(I:Inv X pins σ H s)(h:H p=some (.lst xs))
  (ho:s.heap.get? p=some { cls:=.type "list",data:=.seq its.toArray n }) (hf:f { cls:=.type "list",data:=.seq its.toArray n }={ cls:=.type "list",data:=.seq its'.toArray n' }) (r:Vals ys its') (hz:ys.length<=z15) (t:Nat) :
  Inv X pins σ (upd H p (.lst ys)) { s with heap:=s.heap.update p f,toks:=t }:=by
 have e:(s.heap.update p f).get? p=some { cls:=.type "list",data:=.seq its'.toArray n' }:=by
  rw[zs2 f ho (by rw[hf]<;>rfl),hf]
 refine I.write (x:=p) (e:=p) (by rw[h];trivial) (.inl rfl) (fun b u hb q=>(zr2 _ _ (zd4 hb)).trans q) ⟨_,e⟩ ?_
 exact⟨hz,its',n',r,e⟩
def Qnj:V->V->V->Hp->(Hp->Prop)->Prop:=fun o i v H Q=>∃p xs k j,o=.ref p/\i=.int k/\H p=some (.lst xs)/\ixN xs.length k=some j/\Q (upd H p (.lst (xs.set j v)))
theorem set_list:QtK X Qnj:=by
 intro pins s σ H o i v ov iv u Q I ro ri rv h
 obtain⟨p,xs,k,j,rfl,rfl,hp,hj,q⟩:=h
 cases ro
 obtain⟨t,rfl⟩:=ri
 obtain⟨its,n,r,ho,hz⟩:=I.lst hp
 obtain⟨h1,h2,h3,h4⟩:=Qjc hj
 have hl:=r.length
 have hn:=Qfg
 have I':Inv X pins σ (upd H p (.lst (xs.set j v))) { s with heap:=s.heap.update p (z56 (·.setIfInBounds j u))}:=
  I.Qpu hp ho (Qid its n j u) (r.set rv j) (by rw[zb7];exact hz) s.toks
 by_cases h0:0<=k
 ·have hk:k.toNat=j:=by
   rw[seqIndex_of h0 h4] at h1
   exact z22 h1
  exact PySem.W.ki_setAt ho h0 (by lia) (by rw[z14,← hl];exact h4) (by rw[hk];exact⟨_,I',q⟩)
 ·have hk:(k+(its.toArray.size:Int)).toNat=j:=by
   rw[seqIndex_neg (by lia) h3] at h1
   rw[z14,← hl]
   exact z22 h1
  exact PySem.W.ki_setBack ho (by lia) (by rw[z14,← hl];exact h3) (by lia) (by rw[hk];exact⟨_,I',q⟩)
theorem Qfo (lo hi:Option Int)(n:Nat):(sliceBounds lo hi none n).1=((HT.sIx n 0 lo:Nat):Int)/\(sliceBounds lo hi none n).2.1=((HT.sIx n n hi:Nat):Int)/\(sliceBounds lo hi none n).2.2=1:=by
 refine⟨?_,?_,rfl⟩
 ·cases lo with
  |none=>simp[sliceBounds,HT.sIx]
  |some i=>
   simp only[sliceBounds,HT.sIx,zi1,show(1:Int) > 0 by decide,if_true]
   by_cases h:i<0
   ·simp only[h,if_true]<;>lia
   ·simp only[h,if_false]<;>lia
 ·cases hi with
  |none=>simp[sliceBounds,HT.sIx]
  |some i=>
   simp only[sliceBounds,HT.sIx,zi1,show(1:Int) > 0 by decide,if_true]
   by_cases h:i<0
   ·simp only[h,if_true]<;>lia
   ·simp only[h,if_false]<;>lia
theorem Qef (its:List Value)(lo hi:Option Int):slicePick its.toArray lo hi none=((its.drop (HT.sIx its.length 0 lo)).take (HT.sIx its.length its.length hi - HT.sIx its.length 0 lo)).toArray:=by
 obtain⟨h1,h2,h3⟩:=Qfo lo hi its.toArray.size
 unfold slicePick
 rw[h1,h2,h3]
 simp only[sliceRange_one,pick_run,z14]<;>rfl
def Qus (K:z01):V->Option Int->Option Int->Hp->VK->Prop:=fun x lo hi H Q=>∃a xs,x=.ref a/\SqL K H a xs/\∀p,H p=none->Q (.ref p) (upd H p (.lst (Qni xs lo hi)))
theorem Qjd:SlR X (Qus X.K):=by
 intro pins s σ H x v vl vu lo hi sl Q I rx hs pl pu h
 obtain⟨a,xs,rfl,hx,q⟩:=h
 cases rx
 obtain⟨its,r,ht,hz⟩:=I.list hx
 have hlen:=r.length
 refine⟨"list",_,slot_list_getitem.lookup,ht.isList.typeIs,?_⟩
 refine wpAny_getItem_list_slice ht.isList hs pl pu .none (by simp) ?_ (by rw[z14]<;>lia)
 rw[Qef,← hlen]
 refine⟨.ref s.heap.objs.size,_,I.laid (t':=s.toks) (o:=.lst (Qni xs lo hi)) (fun b ob q=>z17 _ q) (z27 _) ?_,rfl,q _ (I.hok.fresh (z27 _))⟩
 exact⟨z62 (Qgx xs lo hi) hz,_,0,(r.drop (HT.sIx xs.length 0 lo)).take (HT.sIx xs.length xs.length hi - HT.sIx xs.length 0 lo),z45 _ rfl⟩
def Qeg:V->Bool
 |.non=>true
 |.bl _=>true
 |.int _=>true
 |.str _=>true
 |_=>false
def eqV:V->V->Bool
 |.non,.non=>true
 |.bl a,.bl b=>a == b
 |.bl a,.int b=>(if a then 1 else 0) == b
 |.int a,.bl b=>a == (if b then 1 else 0)
 |.int a,.int b=>a == b
 |.str a,.str b=>a == b
 |_,_=>false
theorem Qpv {A:Around}{s:Shared}{y x:V}{u v:Value}(ry:RelV y u)(rx:RelV x v)(fy:Qeg y=true)(fx:Qeg x=true):zh5 A s u v (eqV y x):=by
 cases y with
 |non=>
  cases ry
  cases x with
  |non=>cases rx;exact zh6 _
  |bl b=>cases rx;exact SeqAt.EqAt.none_bool b
  |int b=>obtain⟨t,rfl⟩:=rx;exact SeqAt.EqAt.none_int b t
  |str b=>obtain⟨t,rfl⟩:=rx;exact SeqAt.EqAt.none_str b t
  |_=>exact absurd (show false=true from fx) z32
 |bl a=>
  cases ry
  cases x with
  |non=>cases rx;exact SeqAt.EqAt.bool_none a
  |bl b=>cases rx;exact SeqAt.EqAt.bool_bool a b
  |int b=>obtain⟨t,rfl⟩:=rx;exact SeqAt.EqAt.bool_int a b t
  |str b=>obtain⟨t,rfl⟩:=rx;exact SeqAt.EqAt.bool_str a b t
  |_=>exact absurd (show false=true from fx) z32
 |int a=>
  obtain⟨t',rfl⟩:=ry
  cases x with
  |non=>cases rx;exact SeqAt.EqAt.int_none a t'
  |bl b=>cases rx;exact SeqAt.EqAt.int_bool a t' b
  |int b=>obtain⟨t,rfl⟩:=rx;exact z81 a t' b t
  |str b=>obtain⟨t,rfl⟩:=rx;exact zq2 a t' b t
  |_=>exact absurd (show false=true from fx) z32
 |str a=>
  obtain⟨t',rfl⟩:=ry
  cases x with
  |non=>cases rx;exact SeqAt.EqAt.str_none a t'
  |bl b=>cases rx;exact SeqAt.EqAt.str_bool a t' b
  |int b=>obtain⟨t,rfl⟩:=rx;exact zq1 a t' b t
  |str b=>obtain⟨t,rfl⟩:=rx;exact SeqAt.EqAt.str_str a t' b t
  |_=>exact absurd (show false=true from fx) z32
 |_=>exact absurd (show false=true from fy) z32
theorem Qfp:QbR X (.type "list") (fun xs H Q=>∃p ys,xs=[.ref p]/\(SqL X.K H p ys\/SqT X.K H p ys)/\∀l,H l=none->Q (.ref l) (upd H l (.lst ys))):=by
 intro pins s σ H xs us Q I r h
 obtain⟨p,ys,rfl,hq,q⟩:=h
 obtain⟨u,rfl,rx⟩:=vals1 r
 cases rx
 have fin:∀(its:List Value),Vals ys its->ys.length<=z15->∀(h':Heap) (c':Nat),(∀b o',s.heap.get? b=some o'->h'.get? b=some o')->
   h'.get? s.heap.objs.size=some { cls:=.type "list",dict:=none,data:=.seq its.toArray c',slots:=#[]}->EP X pins σ Q (.ref s.heap.objs.size) { s with heap:=h' }:=fun its r' hz h' c' kp e=>
  ⟨.ref s.heap.objs.size,_,I.laid (t':=s.toks) kp (z27 _) (show Yc X.prog X.w _ h' _ (.lst ys) from⟨hz,its,c',r',e⟩),rfl,q _ (I.hok.fresh (z27 _))⟩
 rcases hq with hq|hq
 ·obtain⟨its,r',pl,hz⟩:=I.list hq
  have hlen:=r'.length
  obtain⟨o,ho,hc,n,hd⟩:=pl.isList
  exact call_list_seq p (.inl rfl) ho hc hd (fun h' c' kp e=>fin its r' hz h' c' kp e) (by simp only[z14]<;>lia)
 ·obtain⟨its,r',pl,hz⟩:=I.tuple hq
  have hlen:=r'.length
  obtain⟨o,ho,hc,n,hd⟩:=pl
  exact call_list_seq p (.inr rfl) ho hc hd (fun h' c' kp e=>fin its r' hz h' c' kp e) (by simp only[z14]<;>lia)
theorem Qeh:QbR X (.type "tuple") (fun xs H Q=>∃p ys,xs=[.ref p]/\((SqL X.K H p ys/\∀l,H l=none->Q (.ref l) (upd H l (.tup ys)))\/(SqT X.K H p ys/\Q (.ref p) H))):=by
 intro pins s σ H xs us Q I r h
 obtain⟨p,ys,rfl,h⟩:=h
 obtain⟨u,rfl,rx⟩:=vals1 r
 cases rx
 rcases h with⟨hq,q⟩|⟨hq,q⟩
 ·obtain⟨its,r',pl,hz⟩:=I.list hq
  have hlen:=r'.length
  refine call_tuple_list pl.isList (fun h' kp=>?_) (by simp only[z14]<;>lia)
  have I1:Inv X pins σ H { s with heap:=h' }:=I.kept (t':=s.toks) kp
  have I2:Inv X pins σ (upd H h'.objs.size (.tup ys)) { s with heap:=h'.push { cls:=.type "tuple",data:=.seq its.toArray }}:=
   I1.laid (t':=s.toks) (fun b o e=>z17 _ e) (z27 _) (show Yc X.prog X.w _ _ _ (.tup ys) from⟨hz,its,r',IsTup.new _ _⟩)
  exact⟨.ref h'.objs.size,_,I2,rfl,q _ (I1.hok.fresh (z27 _))⟩
 ·obtain⟨its,r',pl,hz⟩:=I.tuple hq
  exact call_tuple_same pl ⟨.ref p,H,I,rfl,q⟩
def tyV (K:z01)(T:String)(x:V)(H:Hp):Prop:=match x with
 |.str _=>T = "str"
 |.int _=>T = "int"
 |.ref p=>(T = "list" /\ ∃xs,SqL K H p xs)\/(T = "tuple" /\ ∃o,K.lookup p=some o/\o.cls=.type "tuple" /\ o.dict=none)\/
   (T = "dict" /\ ((∃kvs,H p=some (.dK kvs))\/∃kvs,H p=some (.dT kvs)))\/(T = "set" /\ ∃S n,H p=some (.set S n))
 |_=>False
theorem Qmn {pins:List (Addr×Obj)}{σ:St}{H:Hp}{s:Shared}{T:String}{x:V}{v:Value}(I:Inv X pins σ H s)(r:RelV x v)(ty:tyV X.K T x H) :
  s.TypeIs v T/\∀a,v=.ref a->∃ob,s.heap.get? a=some ob/\ob.dict=none:=by
 cases x with
 |str z=>
  obtain⟨t,rfl⟩:=r
  cases(show T = "str" from ty)
  exact⟨typeIs_str s z t,fun _ e=>nomatch e⟩
 |int i=>
  obtain⟨t,rfl⟩:=r
  cases(show T = "int" from ty)
  exact⟨typeIs_int s i t,fun _ e=>nomatch e⟩
 |ref p=>
  cases r
  rcases ty with⟨rfl,xs,hq⟩|⟨rfl,o,hk,hc,hd⟩|⟨rfl,hk⟩|⟨rfl,S,n,hk⟩
  ·obtain⟨its,_,pl,_⟩:=I.list hq
   refine⟨pl.isList.typeIs,fun a e=>?_⟩
   cases e
   obtain⟨o,n,e,c,hd,_⟩:=pl
   exact⟨o,e,hd⟩
  ·refine⟨⟨o,I.kIn p o hk,hc⟩,fun a e=>?_⟩
   cases e
   exact⟨o,I.kIn _ o hk,hd⟩
  ·have z:∃o,s.heap.get? p=some o/\o.ExactDict:=by
    rcases hk with⟨kvs,hk⟩|⟨kvs,hk⟩
    ·obtain⟨_,_,_,_,o,_,_,e,ex,_⟩:=I.hok p _ hk
     exact⟨o,e,ex⟩
    ·obtain⟨_,_,_,_,o,_,_,e,ex,_⟩:=I.hok p _ hk
     exact⟨o,e,ex⟩
   obtain⟨o,e,ex⟩:=z
   refine⟨⟨o,e,ex.1⟩,fun a e2=>?_⟩
   cases e2
   exact⟨o,e,ex.2.1⟩
  ·obtain⟨o,_,_,_,e,ex,_⟩:=I.hok p _ hk
   refine⟨⟨o,e,ex.1⟩,fun a e2=>?_⟩
   cases e2
   exact⟨o,e,ex.2.1⟩
 |_=>exact zb6 ty
def Qut (K:z01)(T:String)(r:V->List V->Hp->VK->Prop)(to:TE):TE:=fun σ H Q=>to σ H fun x H1=>tyV K T x H1/\r x [] H1 Q
def tBM (K:z01)(T:String)(r:V->List V->Hp->VK->Prop)(to:TE)(t:TA):TE:=fun σ H Q=>to σ H fun x H1=>tyV K T x H1/\t σ H1 fun xs H2=>r x xs H2 Q
variable {o e:Expr}{es:List Expr}{to:TE}{t:TA}{name:Str}{apos cpos:Pos}{T id:String}{r:V->List V->Hp->VK->Prop}
theorem Qpw (pa:PlainAttrs T)(slot:Slot T name id)(hty:typeOf (.builtin id)=pure (.type "method_descriptor"))(hm:MtR X id r)(ho:PE X o to)
  (hbase:attributeBase o name X.env (eval o X.env)=eval o X.env:=by rfl) (hline:(apos.endLine == cpos.line)=true:=by rfl):PE X (.Call (.Attribute o name apos) [] [] cpos) (Qut X.K T r to):=by
 intro pins s σ H Q I h
 refine wpAny_Call_method0_late hbase hline (thn (ho pins s σ H _ I h) fun v s1 hz=>?_)
 obtain⟨x,H1,I1,r1,ty,q1⟩:=hz
 obtain⟨h1,h2⟩:=Qmn I1 r1 ty
 exact⟨T,id,pa,slot,hty,h1,h2,zi8 rfl (PySem.evalArgs_none (hm pins s1 σ H1 x [] v [] Q I1 r1 .nil q1))⟩
theorem Qnk (pa:PlainAttrs T)(slot:Slot T name id)(hty:typeOf (.builtin id)=pure (.type "method_descriptor"))(hm:MtR X id r)(ho:PE X o to)(ha:PA X (e::es) t)
  (hbase:attributeBase o name X.env (eval o X.env)=eval o X.env:=by rfl)
  (hfew:((backTo cpos (starEach (e::es) X.env)).all (fun x=>!x.1) && (backToKw cpos (keywordEach [] X.env)).all (fun x=>x.1.isSome)
   && decide ((e::es).length+([]:List Keyword).length+(if([]:List Keyword).isEmpty then 0 else 1)<30))=true:=by rfl)
  (hline:(apos.endLine == cpos.line)=true:=by rfl) (hs:starEach (e::es) X.env=(false,eval e X.env)::starEach es X.env:=by rfl) (hplain:(backTo cpos (starEach es X.env)).any (·.1)=false:=by rfl) :
  PE X (.Call (.Attribute o name apos) (e::es) [] cpos) (tBM X.K T r to t):=by
 intro pins s σ H Q I h
 refine wpAny_Call_method_late hbase hfew hline rfl (thn (ho pins s σ H _ I h) fun v s1 hz=>?_)
 obtain⟨x,H1,I1,r1,ty,q1⟩:=hz
 obtain⟨h1,h2⟩:=Qmn I1 r1 ty
 refine⟨T,id,pa,slot,hty,h1,h2,?_⟩
 have hA:=ha cpos pins s1 σ H1 _ I1 q1
 rw[hs] at hA ⊢
 refine zi8 (by show(false || (backTo cpos (starEach es X.env)).any (·.1))=false;rw[hplain]<;>rfl) (zs4 ?_)
 exact thn hA fun us s2 ⟨vs,H2,I2,r2,q2⟩=>hm pins s2 σ H2 x vs v us Q I2 r1 r2 q2
end
def MtM (X:Cx)(id:String)(r:V->List V->Hp->VK->Prop):Prop:=
 ∀(pins:List (Addr×Obj)) (s:Shared) (σ:St) (H:Hp) (x:V) (xs:List V) (v:Value) (us:List Value) (Q:VK),Inv X pins σ H s->RelV x v->Vals xs us->r x xs H Q->
  wpAny (model X.prog X.w) X.A (call (.builtin id) (v::us)) (EP X pins σ Q) X.xe s
theorem Vals.one {x:V}{us:List Value}(h:Vals [x] us):∃u,us=[u]/\RelV x u:=by
 cases h with
 |cons r t=>cases t;exact⟨_,rfl,r⟩
theorem Vals.two {x y:V}{us:List Value}(h:Vals [x,y] us):∃u v,us=[u,v]/\RelV x u/\RelV y v:=by
 cases h with
 |cons r t=>obtain⟨u,rfl,q⟩:=Vals.one t;exact⟨_,_,rfl,r,q⟩
theorem Vals.zero:∀{us:List Value},Vals [] us->us=[]
 |_,.nil=>rfl
theorem Vals.dropLast {xs:List V}{us:List Value}(h:Vals xs us):Vals xs.dropLast us.dropLast:=by
 induction h with
 |nil=>exact .nil
 |cons r t ih=>
  cases t with
  |nil=>exact .nil
  |cons q t'=>exact .cons r ih
theorem Qie {α:Type}(l:List α):l.eraseIdx (l.length - 1)=l.dropLast:=by
 induction l with
 |nil=>rfl
 |cons a r ih=>
  cases r with
  |nil=>rfl
  |cons b r=>
   have e:(a::b::r).length - 1=((b::r).length - 1)+1:=by
    have h1:(a::b::r).length=r.length+2:=rfl
    have h2:(b::r).length=r.length+1:=rfl
    lia
   rw[e,List.eraseIdx_cons_succ,ih]
   all_goals rfl
section
variable {X:Cx}{pins:List (Addr×Obj)}{σ:St}{H:Hp}{s:Shared}{l:Addr}{xs ys:List V}
theorem Inv.QrQ {its its':List Value}{n:Nat}{f:Array Value->Array Value}{t':Nat}(I:Inv X pins σ H s)(hH:H l=some (.lst xs))
  (e:s.heap.get? l=some { cls:=.type "list",data:=.seq its.toArray n }) (hf:f its.toArray=its'.toArray) (hv:Vals ys its') (hz:ys.length<=z15) :
  Inv X pins σ (upd H l (.lst ys)) { s with heap:=s.heap.update l (z56 f),toks:=t' }:=by
 have q:=PySem.IsL.update e f
 rw[hf] at q
 refine I.write (x:=l) (e:=l) (by rw[hH];exact trivial) (.inl rfl) (fun b' u hb hu=>(zr2 s.heap (z56 f) (zd4 hb)).trans hu) ⟨_,q⟩ ?_
 exact⟨hz,its',_,hv,q⟩
theorem Inv.Quu {its:List Value}{t':Nat}(I:Inv X pins σ H s)(hv:Vals ys its)(hz:ys.length<=z15) :
  Inv X pins σ (upd H s.heap.objs.size (.lst ys)) { s with heap:=s.heap.push { cls:=.type "list",data:=.seq its.toArray },toks:=t' }:=
 I.laid (fun _ _ q=>z17 _ q) (z27 _) ⟨hz,its,0,hv,z45 _ rfl⟩
theorem Inv.fresh (I:Inv X pins σ H s):H s.heap.objs.size=none:=I.hok.fresh (z27 _)
theorem Inv.Qpx (I:Inv X pins σ H s)(hH:H l=some (.lst xs)):xs.length<=z15/\∃(its:List Value) (n:Nat),Vals xs its/\xs.length=its.length/\s.heap.get? l=some { cls:=.type "list",data:=.seq its.toArray n }:=by
 obtain⟨z,its,n,r,e⟩:=I.hok l _ hH
 exact⟨z,its,n,r,r.length,e⟩
theorem Qlo {n:Nat}(h:n<=z15):zg4 n=false:=by
 unfold zg4
 exact decide_eq_false (by lia)
end
section
variable {X:Cx}
def Qnl:V->List V->Hp->VK->Prop:=fun x vs H Q=>∃l xs y,x=.ref l/\vs=[y]/\H l=some (.lst xs)/\xs.length<z15/\Q .non (upd H l (.lst (xs++[y])))
theorem Qje:MtM X "list.append" Qnl:=by
 intro pins s σ H x vs v us Q I rx rv h
 obtain⟨l,xs,y,rfl,rfl,hH,hz,q⟩:=h
 cases rx
 obtain⟨u,rfl,ru⟩:=rv.one
 obtain⟨z,its,n,r,hl,e⟩:=I.Qpx hH
 refine call_meets F.slot_list_append ⟨_,e,rfl⟩ F.entry_list_append (F.args_list_append_2 _ _) (PySem.list_append l its.toArray n u (by rw[z14];lia)) ⟨e,?_⟩
 refine⟨.non,_,I.QrQ (its':=its++[u]) hH e (by simp) (r.append (.cons ru .nil)) ?_,rfl,q⟩
 rw[z16,zs0]
 lia
def Qnm:V->List V->Hp->VK->Prop:=fun x vs H Q=>∃l b xs zs,x=.ref l/\vs=[.ref b]/\H l=some (.lst xs)/\H b=some (.lst zs)/\xs.length+zs.length<=z15/\Q .non (upd H l (.lst (xs++zs)))
theorem Qjf:MtM X "list.extend" Qnm:=by
 intro pins s σ H x vs v us Q I rx rv h
 obtain⟨l,b,xs,zs,rfl,rfl,hH,hB,hz,q⟩:=h
 cases rx
 obtain⟨u,rfl,ru⟩:=rv.one
 cases ru
 obtain⟨z,its,n,r,hl,e⟩:=I.Qpx hH
 obtain⟨z2,its2,n2,r2,hl2,e2⟩:=I.Qpx hB
 have hsz:its.toArray.size+its2.toArray.size<=z15:=by rw[z14,z14];lia
 have Qsr:¬ (!its.toArray.isEmpty && zg4 (its.toArray.size+its2.toArray.size))=true:=by
  rw[Qlo hsz,Bool.and_false]
  exact z32
 refine call_meets F.slot_list_extend ⟨_,e,rfl⟩ F.entry_list_extend (F.args_list_extend_2 _ _)
  (AutoSeq1.list_extend_list_list_0 l its.toArray n b its2.toArray n2 Qsr (by rw[z14];lia) (by lia)) ⟨e,e2,?_⟩
 refine⟨.non,_,I.QrQ (its':=its++its2) hH e (by simp) (r.append r2) ?_,rfl,q⟩
 rw[z16]
 lia
def Quv:V->List V->Hp->VK->Prop:=fun x vs H Q=>∃l xs y,x=.ref l/\vs=[]/\H l=some (.lst xs)/\xs[xs.length - 1]? = some y/\Q y (upd H l (.lst xs.dropLast))
theorem Qpy:MtM X "list.pop" Quv:=by
 intro pins s σ H x vs v us Q I rx rv h
 obtain⟨l,xs,y,rfl,rfl,hH,hy,q⟩:=h
 cases rx
 have hus:=rv.zero
 subst hus
 obtain⟨z,its,n,r,hl,e⟩:=I.Qpx hH
 obtain⟨u,hu,ru⟩:=r.get hy
 have hy':its.toArray[its.toArray.size - 1]? = some u:=by
  show its.toArray[its.length - 1]? = some u
  rw[← z43,← hl]
  exact hu
 refine call_meets F.slot_list_pop ⟨_,e,rfl⟩ F.entry_list_pop (F.args_list_pop_1 _) (MeetsSeq.list_pop_last l its.toArray n u hy' (by rw[z14];lia)) ⟨e,?_⟩
 refine⟨y,_,I.QrQ (its':=its.dropLast) hH e ?_ r.dropLast ?_,ru,q⟩
 ·show its.toArray.eraseIdxIfInBounds (its.toArray.size - 1)=its.dropLast.toArray
  rw[z14,List.eraseIdxIfInBounds_toArray,Qie]
 ·rw[List.length_dropLast]
  lia
end
end L2
namespace Att
open PySem PySem.W PySem.Calls PyProof.Rows
theorem QcL {P:Params}{h:Heap}:∀(ns:List Int) (vs:List Value),WellAll P h vs (ns.map WData.int)->IntsAre vs ns:=by
 intro ns
 induction ns with
 |nil=>
  intro vs w
  rw[zn0] at w
  cases w
  exact .nil
 |cons n ns ih=>
  intro vs w
  rw[z31] at w
  cases w with
  |cons a b=>
   cases a
   exact .cons _ _ (ih _ b)
theorem Qjg {l:OpenLaw}{n:Nat}(hn:l.most=some n){P:Params}{h:Heap}{args:List WData}{vals:List Value}
  (hpre:l.row.toRowW.claim.pre args=true) (hwl:WellAll P h vals args) :
  ∃a vs ns,vals=[z44 a]/\args=[WData.list (ns.map WData.int)]/\h.get? a=some { cls:=.type "list",data:=.seq vs.toArray }/\IntsAre vs ns/\ns.length<=n:=by
 have hsh:WShape.hasAll [] args [.list .int]=true:=(pre_splitW hpre).1
 have hc:l.pre.holds [] { args:=args }=true:=(pre_splitW hpre).2
 obtain⟨d,r,rfl,h1,h2⟩:=hasAllW_cons hsh
 obtain rfl:=hasAllW_nil h2
 obtain⟨xs,rfl,h3⟩:=hasW_list h1
 obtain⟨ns,rfl⟩:=items_int h3
 have hlen:ns.length<=n:=by
  unfold OpenLaw.pre at hc
  have h4:(WTm.not (.lt (.lit (.int (n:Int))) (.len (.arg 0)))).holds [] { args:=[.list (ns.map .int)]}=true:=by
   have h4:=(holds_andW hc).1
   rw[hn] at h4
   exact h4
  have h5:=condW_of h4 (w_not (w_lt w_lit (w_len_list (w_arg rfl))))
  rw[z00] at h5
  refine Nat.le_of_not_lt fun q=>?_
  have q':(n:Int)<((ns.length:Nat):Int):=by lia
  first
   |(rw[decide_eq_true q'] at h5;exact absurd h5 (by decide))
   |(simp at h5;lia)
 cases hwl with
 |cons w1 w2=>
  cases w2
  cases w1 with
  |list ho hall=>exact⟨_,_,ns,rfl,rfl,ho,QcL ns _ hall,hlen⟩
theorem Qjh (l:OpenLaw)(args:List WData):l.row.toRowW.claim.post args (.bool true) args=true:=
 postW_of (r:=l.row.toRowW) (X:=(true == true))
  (show WShape.has [] (.bool true) .bool=true by first|rfl|decide|simp[WShape.has,WShape.arms,WShape.armsAll])
  (show(WTm.eq .res (.lit (.bool true))).value [] { args:=args,res:=some (.bool true),after:=args }=some (.bool (true == true)) from w_eq_bool (w_res rfl) w_lit) rfl
theorem QgB {l:OpenLaw}{n:Nat}{q:Program}{loose:List Str}{XP:(Str->Option Value)->Heap->Prop}{YP:World->Heap->Prop}{d:DefRec}
  (hn:l.most=some n) (hdf:d.params.defaults=[])
  (call:∀(w:World) (s₀ s₁:Shared) (mg mb:Str->Option Value) (fa:Addr) (o:Obj) (pm cd doc:Value) (a:Addr) (vs:List Value) (ns:List Int),
   Ground q loose [] XP w s₀ mg mb s₁.heap->YP w s₁.heap->
   s₁.heap.get? fa=some o->o.data=.func (docDef d.name d.params d.body d.scope pm cd doc)->s₁.heap.CodeRec cd d.name->mg d.name=some (.ref fa)->
   s₁.heap.get? a=some { cls:=.type "list",data:=.seq vs.toArray }->IntsAre vs ns->ns.length<=n->s₁.gens = #[]->
   codeAny (model l.prog w) callerA (.call (.ref fa) ⟨[.ref a],[]⟩) (fun r s'=>r=.ok (.ret (.bool true))/\OldK s₁.heap s'.heap/\s'.os=s₁.os/\AllBare s'.gens) s₁) :
  WalkO q loose XP YP l.row.toRowW d [] (fun f vs=>zu0 f vs):=by
 intro w s₀ s₁ mg mb G Y fa o pm cd doc dV kV ho hd hcd hD hmg hg args vals as hpre hlay hrd hwl hlo
 obtain rfl:dV=.none:=Dflts.none hD hdf
 obtain rfl:kV=.none:=Dflts.noKw hD
 obtain⟨a,vs,ns,rfl,rfl,hobj,hints,hlen⟩:=Qjg hn hpre hwl
 refine enter_call (zp6 (call w s₀ s₁ mg mb fa o pm cd doc a vs ns G Y ho (fd_plain hd) hcd hmg hobj hints hlen hg) fun r s' hq=>?_)
 obtain⟨rfl,h2,h3,h4⟩:=hq
 exact⟨.inl ⟨.bool true,.bool true,[],rfl,fun _=>rfl,.bool true,Qjh l _,fun _=>⟨List.Pairwise.nil,fun _ hm=>(nomatch hm)⟩⟩,h2,h3,h4⟩
end Att
namespace L2
open PySem PySem.Spec PyProof.Rows
theorem Qfq:∀{vs:List Value} {ns:List Int},IntsAre vs ns->Vals (ns.map V.int) vs
 |_,_,.nil=>.nil
 |_,_,.cons n t h=>.cons ⟨t,rfl⟩ (Qfq h)
def Only (H:Hp):Prop:=∀b,H b=none\/∃o xs,H b=some (.frz o (.lst xs))
theorem Qlp {P:Program}{w:World}{K:z01}{mg mb:Str->Option Value}{CX:CXT}{k:Nat}{fa a:Addr}{fd:FuncData}{x:Str}{sp:Sp}{s₁:Shared}{vs:List Value}{ns:List Int}
  (KX:K.In s₁.heap) (hns:s₁.heap.Ns z21 mg) (hb:s₁.heap.Ns builtinsNs mb) (hbb:∀x:Str,x ≠ "__name__" -> mb x=z71 x) (hlim:s₁.heap.NoLimit) (hg:s₁.gens = #[])
  (ha:s₁.heap.get? a=some { cls:=.type "list",data:=.seq vs.toArray }) (hi:IntsAre vs ns) (hl:ns.length<=z15) (hr:Qao k callerA)
  (F:∀base:Heap,K.In base->base.Ns z21 mg->JF P w K mg base CX k fa fd [x] sp) (hbind:∀(s:Shared) (u:Value),BindsTo s fd ⟨[u],[]⟩ [(x,u)])
  (hsp:∀H:Hp,Only H->SqL K H a (ns.map V.int)->sp [.ref a] H (fun v _=>v=.bl true) fun _ _ _=>False)
  (hCX:∀H e s',CX [] H s₁ (fun _ _ _=>False) e s'->False) :
  codeAny (model P w) callerA (.call (.ref fa) ⟨[.ref a],[]⟩) (fun r s'=>r=.ok (.ret (.bool true))/\OldK s₁.heap s'.heap/\s'.os=s₁.os/\AllBare s'.gens) s₁:=by
 have rv:=Qfq hi
 have lenV:=hi.length
 -- from an abstract heap in which nothing but the script may be tracked
 have core:∀H:Hp,Only H->SqL K H a (ns.map V.int)->HOk P w H s₁.heap->(∀b,H b≠none->b=a)->(H a≠none->K.lookup a=none)->
   codeAny (model P w) callerA (.call (.ref fa) ⟨[.ref a],[]⟩) (fun r s'=>r=.ok (.ret (.bool true))/\OldK s₁.heap s'.heap/\s'.os=s₁.os/\AllBare s'.gens) s₁:=by
  intro H hO hS hok hA hK
  have Qji:∀{b:Addr} {o:Obj},s₁.heap.get? b=some o->H b=none->(Qla s₁.heap H).get? b=some o:=fun e n=>Qlb e n
  have noA:∀{b:Addr} {o:Obj} {es:Array DictEntry} {ep:Nat},s₁.heap.get? b=some o->o.data=.dict es ep->H b=none:=fun{b o es ep} e d=>by
   cases q:H b with
   |none=>rfl
   |some u=>
    have e':b=a:=hA b (by rw[q];simp)
    subst e'
    rw[ha] at e;cases e
    have d':Data.seq vs.toArray _=Data.dict es ep:=d
    cases d'
  have nsK:∀{b:Addr} {m:Str->Option Value},s₁.heap.Ns b m->(Qla s₁.heap H).Ns b m:=fun{b m} ⟨o,es,ep,e,d,r⟩=>⟨o,es,ep,Qji e (noA e d),d,r⟩
  have hKb:K.In (Qla s₁.heap H):=fun b o e=>Qji (KX b o e) (by
   cases q:H b with
   |none=>rfl
   |some u=>
    have e':b=a:=hA b (by rw[q];simp)
    subst e'
    rw[hK (by rw[q];simp)] at e;cases e)
  have hM:Mod K mg (Qla s₁.heap H):=⟨hKb,nsK hns,⟨mb,nsK hb,hbb⟩,let ⟨mc,h1,h2⟩:=hlim;⟨mc,nsK h1,h2⟩⟩
  have e0:Qm9 P w K mg (Qla s₁.heap H) callerA [] s₁ H:=⟨rfl,hM,fun b o e=>QmU e,zs9 (QiU _ _),trivial,fun b hb=>absurd (show b∈([]:List Addr) from hb) (by simp),hok,.of_eq hg⟩
  refine zp6 ((F _ hKb (nsK hns)).run callerA [] s₁ H ⟨[.ref a],[]⟩ [.ref a] [.ref a] _ _ hr e0 (hbind s₁ (.ref a)) (.cons rfl .nil) (hsp H hO hS)) fun r s' h=>?_
  cases r with
  |error e=>exact(hCX H e s' h).elim
  |ok fl=>
   cases fl with
   |next=>exact zb6 h
   |brk=>exact zb6 h
   |cont=>exact zb6 h
   |ret u=>
    obtain⟨v,H',os,bare,un,hok',r',q⟩:=h
    have q':v=.bl true:=q
    subst q'
    obtain rfl:u=zl7 true:=r'
    refine⟨rfl,OldK.of_keep fun b o e=>?_,os,bare⟩
    cases q:H b with
    |none=>exact un.keep b o e q (by intro z;exact absurd (show b∈([]:List Addr) from z) (by simp)) (by simp)
    |some u=>
     rcases hO b with z|⟨ob,xs,z⟩
     ·rw[q] at z;cases z
     ·have z2:=un.QiT b ob _ z
      obtain⟨e1,_⟩:=hok b _ z
      obtain⟨e2,_⟩:=hok' b _ z2
      rw[e] at e1;cases e1
      exact e2
 cases hk:K.lookup a with
 |some o=>
  -- the script is one of the module's own objects
  have e:=KX a o hk
  rw[ha] at e
  cases e
  refine core (fun _=>none) (fun _=>.inl rfl) (.inr ⟨_,vs.toArray,_,hk,rfl,rfl,rfl,by rw[z14,lenV];exact hl,by simpa using rv⟩) (fun b u z=>by have z':(none:Option HO)=some u:=z;cases z') (fun b z=>absurd rfl z) fun z=>absurd rfl z
 |none=>
  refine core (fun b=>if b=a then some (.frz { cls:=.type "list",data:=.seq vs.toArray } (.lst (ns.map V.int))) else none) (fun b=>?_) (.inl (.inr ⟨{ cls:=.type "list",data:=.seq vs.toArray },if_pos rfl⟩)) (fun b u z=>?_) (fun b z=>?_) fun _=>hk
  ·by_cases hb:b=a
   ·exact .inr ⟨_,_,if_pos hb⟩
   ·exact .inl (if_neg hb)
  ·by_cases hb:b=a
   ·have z':=(if_pos hb).symm.trans z
    cases z'
    subst hb
    exact⟨ha,by rw[z00];exact hl,vs,_,rv,ha⟩
   ·have z':=(if_neg hb).symm.trans z
    cases z'
  ·by_cases hb:b=a
   ·exact hb
   ·exact absurd (if_neg hb) z
theorem Qnn {l:zm7}{n k:Nat}{q:Program}{loose:List Str}{XP:(Str->Option Value)->Heap->Prop}{YP:World->Heap->Prop}{d:DefRec}{K:Params->z01}{CX:World->CXT}{sp:World->Sp}{x:Str}
  (hn:l.most=some n) (hn2:n<=z15) (hdf:d.params.defaults=[]) (hr:Qao k callerA)
  (hY:∀(w:World) (h:Heap),YP w h->(K w.params).In h)
  (F:∀(w:World) (mg:Str->Option Value) (fa:Addr) (h:Heap),(K w.params).In h->h.Ns z21 mg->mg d.name=some (.ref fa)->
   ∃fd:FuncData,(∀(s:Shared) (u:Value),BindsTo s fd ⟨[u],[]⟩ [(x,u)])/\
    ∀base:Heap,(K w.params).In base->base.Ns z21 mg->JF l.prog w (K w.params) mg base (CX w) k fa fd [x] (sp w))
  (hsp:∀(w:World) (H:Hp) (a:Addr) (ns:List Int),ns.length<=n->Only H->SqL (K w.params) H a (ns.map V.int)->sp w [.ref a] H (fun v _=>v=.bl true) fun _ _ _=>False)
  (hCX:∀(w:World) (H:Hp) (s:Shared) (e:Value) (s':Shared),CX w [] H s (fun _ _ _=>False) e s'->False) :
  PySem.W.WalkO q loose XP YP l.row.toRowW d [] (fun f vs=>zu0 f vs):=by
 refine Att.QgB hn hdf fun w s₀ s₁ mg mb fa o pm cd doc a vs ns G Y ho hd hcd hmg hobj hints hlen hg=>?_
 have KX:=hY w _ Y
 obtain⟨fd,hb,hF⟩:=F w mg fa _ KX G.T.g hmg
 exact Qlp KX G.T.g G.T.b G.T.builtins G.T.nolimit hg hobj hints (z62 hlen hn2) hr hF hb (fun H hO hS=>hsp w H a ns hlen hO hS) fun H e s'=>hCX w H s₁ e s'
def inClass (s:Stmt)(j:Nat):Stmt:=match s with
 |.ClassDef _ _ _ body _ _ _ _ _ _ _=>body.getD j (.Pass ⟨0,0,0,0⟩)
 |_=>.Pass ⟨0,0,0,0⟩
def QcM (s:Stmt):Arguments:=match s with
 |.FunctionDef _ a _ _ _ _ _ _ _ _=>a
 |_=>{ posonlyargs:=[],args:=[],vararg:=none,kwonlyargs:=[],kw_defaults:=[],kwarg:=none,defaults:=[]}
def VR (s:Stmt):List Stmt:=match s with
 |.FunctionDef _ _ b _ _ _ _ _ _ _=>b
 |_=>[]
def Qf (s:Stmt):Scope:=match s with
 |.FunctionDef _ _ _ _ _ _ sc _ _ _=>sc
 |_=>{ kind:=.function,names:=[],isGenerator:=false,isCoroutine:=false }
abbrev CX0:CXT:=fun _ _ _ _ _ _=>False
structure Fun (K:z01)(x qual:Str)(st:Stmt)(f:Addr)(fd:FuncData):Prop where
 ex:∃(oc:Value) (od:Option Addr) (kV doc pm:Value) (an:Option Addr) (cdv ct:Value) (osl:Array (Option Value)),
  fd=ze9 x qual (QcM st) (VR st) (Qf st) .none kV doc pm an cdv ct/\K.lookup f=some ⟨oc,od,.func fd,osl⟩/\zn9 K cdv qual=true
 kp:ze8 K (.ref f)=true
section
variable {P:Program}{w:World}{K:z01}{mg:Str->Option Value}{base:Heap}
theorem Fun.ok {x qual:Str}{st:Stmt}{f:Addr}{fd:FuncData}{N ps:List Str}{k:Nat}{sp:Sp}(F:Fun K x qual st f fd)(S:Qs N ps (Qf st))(len:∀vs H Q E,sp vs H Q E->vs.length=ps.length)
  (hbody:∀(cdv:Value) (A:Around) (outer:List Env) (s:Shared) (H:Hp) (vs:List V) (Q:VK) (E:XK),Qao k (A.deeper (envOfC qual (Qf st) s.heap.objs.size f cdv))->sp vs H Q E->
   ∃t,PSs (Qib CX0 P w K mg base N qual (Qf st) f cdv A outer s H E).nox (VR st) t/\t { nx:=fun _ H'=>Q .non H',rt:=Q } (start N vs) H):JF P w K mg base CX0 (k+1) f fd ps sp:=by
 obtain⟨oc,od,kV,doc,pm,an,cdv,ct,osl,rfl,lk,hcd⟩:=F.ex
 refine Qpj lk hcd S len fun A outer s H vs Q E hr hsp=>?_
 obtain⟨t,h,q⟩:=hbody cdv A outer s H vs Q E hr hsp
 exact⟨t,h.nox,q⟩
theorem Fun.binds {x qual:Str}{st:Stmt}{f:Addr}{fd:FuncData}{ps:List Str}(F:Fun K x qual st f fd)
  (h:∀(kV doc pm:Value) (an:Option Addr) (cdv ct:Value) (us:List Value),us.length=ps.length->bindArgs (ze9 x qual (QcM st) (VR st) (Qf st) .none kV doc pm an cdv ct) ⟨us,[]⟩=pure (ps.zip us)):Binds K fd ps []:=by
 obtain⟨oc,od,kV,doc,pm,an,cdv,ct,osl,rfl,lk,hcd⟩:=F.ex
 exact .all (h kV doc pm an cdv ct)
theorem QB {x qual:Str}{st:Stmt}{f:Addr}{oc:Value}{od an:Option Addr}{osl:Array (Option Value)}{kV doc pm cdv ct:Value}(l:K.lookup f=some ⟨oc,od,.func (ze9 x qual (QcM st) (VR st) (Qf st) .none kV doc pm an cdv ct),osl⟩)
  (c:zn9 K cdv qual=true) (k:ze8 K (.ref f)=true):Fun K x qual st f (ze9 x qual (QcM st) (VR st) (Qf st) .none kV doc pm an cdv ct):=⟨⟨oc,od,kV,doc,pm,an,cdv,ct,osl,rfl,l,c⟩,k⟩
end
theorem Qlq {A:Around}{k:Nat}(hr:Qao k A):A.units+1<cLine:=Nat.lt_of_le_of_lt (Nat.add_le_add_left (by decide:1<=64) _) hr.units
section
variable {X:Cx}
theorem pv (i:Nat){x:Str}{pos:Pos}(hN:X.N[i]? = some x:=by rfl)(hv:Vis X.env.scope x:=by first|exact z30 rfl|exact z59 (z30 rfl)|exact z59 (z59 rfl))(hd:(x == ("__debug__" : Str))=false:=by decide)
  (hcd:(x == ("__classdict__" : Str))=false:=by decide):PE X (.Name x pos) (QrP i):=Qar hN hv hd hcd
end
def Qz (H H':Hp):Prop:=∀b o,H b=some o->H' b=some o
theorem Qz.refl (H:Hp):Qz H H:=fun _ _ h=>h
theorem Qz.trans {H H1 H2:Hp}(a:Qz H H1)(b:Qz H1 H2):Qz H H2:=fun c o h=>b c o (a c o h)
theorem Qz.free {H H':Hp}(e:Qz H H'){l:Addr}(h:H' l=Option.none):H l=Option.none:=by
 cases q:H l with
 |none=>rfl
 |some o=>
  rw[e l o q] at h
  cases h
section
variable {κ:Type}[DecidableEq κ]
end
end L2
set_option maxHeartbeats 4000000
namespace L2
open PySem PySem.Spec PyProof.Rows
theorem Qif {α β:Type}{l:List α}{f:α->β->Sem (ForInStep β)}{g:α->β->β}(h:∀x∈l,∀c,f x c=pure (.yield (g x c))):∀c:β,forIn l c f=pure (l.foldl (fun c x=>g x c) c):=by
 induction l with
 |nil=>intro c;rfl
 |cons x l ih=>
  intro c
  rw[List.forIn_cons,h x z07,pure_bind]
  exact ih (fun y hy=>h y (z08 _ hy)) _
def Qfr (cells:List (Str×Addr))(names:List (Str×NameKind)):List (Str×Addr):=
 names.foldl (fun c x=>if(x.2 == z42)=true then(x.1,(cells.lookup x.1).getD 0)::c else c) []
theorem Qig {scope:Scope}{env:Env}(h:∀x∈scope.names,x.2=.free->∃c,env.cells.lookup x.1=some c):closureFor scope env=pure (Qfr env.cells scope.names):=by
 simp only[closureFor]
 rw[Qif (g:=fun(x:Str×NameKind) c=>if(x.2 == z42)=true then(x.1,(env.cells.lookup x.1).getD 0)::c else c) (fun x hx c=>by
  obtain⟨n,kind⟩:=x
  by_cases hk:kind=.free
  ·subst hk
   obtain⟨a,ha⟩:=h _ hx rfl
   simp[cellOf,ha]
  ·have hb:(kind == z42)=false:=by simpa using hk
   simp only[hb,ze7,if_false])]
 rfl
theorem QdS {cells:List (Str×Addr)}:∀(names:List (Str×NameKind)) (acc:List (Str×Addr)),(∀x∈names,x.2=.free->∃c,cells.lookup x.1=some c)->(∀p∈acc,cells.lookup p.1=some p.2)->
  ∀p∈names.foldl (fun c (x:Str×NameKind)=>if(x.2 == z42)=true then(x.1,(cells.lookup x.1).getD 0)::c else c) acc,cells.lookup p.1=some p.2
 | [],_,_,ha=>ha
 |(n,k)::r,acc,h,ha=>by
  rw[ze3]
  refine QdS r _ (fun x hx=>h x (z08 _ hx)) ?_
  by_cases hk:k=.free
  ·subst hk
   obtain⟨a,e⟩:=h (n,.free) z07 rfl
   intro p hp
   simp only[beq_self_eq_true,if_true] at hp
   rcases z13.mp hp with rfl|hp
   ·show cells.lookup n=some ((cells.lookup n).getD 0)
    have e':cells.lookup n=some a:=e
    rw[e'];rfl
   ·exact ha p hp
  ·have hb:(k == z42)=false:=by simpa using hk
   simp only[hb,ze7,if_false]
   exact ha
theorem QbT {cells:List (Str×Addr)}{y:Str}:∀(names:List (Str×NameKind)) (acc:List (Str×Addr)),((y,z42)∈names\/y∈acc.map (·.1))->
  y∈(names.foldl (fun c (x:Str×NameKind)=>if(x.2 == z42)=true then(x.1,(cells.lookup x.1).getD 0)::c else c) acc).map (·.1)
 | [],acc,h=>h.elim (fun z=>nomatch z) fun z=>z
 |(n,k)::r,acc,h=>by
  rw[ze3]
  refine QbT r _ ?_
  rcases h with h|h
  ·rcases z13.mp h with e|h
   ·cases e
    refine .inr ?_
    simp
   ·exact .inl h
  ·refine .inr ?_
   split
   ·exact z08 _ h
   ·exact h
theorem QbU {y:Str}:∀{l:List (Str×Addr)},y∈l.map (·.1)->∃c,l.lookup y=some c
 | [],h=>nomatch h
 |(n,a)::r,h=>by
  by_cases e:y=n
  ·subst e
   exact⟨a,by simp[z73]⟩
  ·have hb:(y == n)=false:=by simpa using e
   have hr:y∈r.map (·.1):=(z13.mp h).resolve_left e
   obtain⟨c,hc⟩:=QbU hr
   exact⟨c,by rw[z73,hb];exact hc⟩
theorem Qas {env:Env}{y:Str}:∀{names:List (Str×NameKind)} {k:NameKind},(∀z∈names,z.2≠.cell)->
  (names.map fun(n,k)=>if(k == z42 && env.scope.kind == .function && env.kindOf n == some .cell) then(n,z95) else(n,k)).lookup y=some k->k=.cell\/k=.free->(y,z42)∈names
 | [],_,_,h,_=>by simp at h
 |(n,k0)::r,k,hc,h,hk=>by
  rw[z31] at h
  by_cases e:y=n
  ·subst e
   by_cases c:(k0 == z42 && env.scope.kind == .function && env.kindOf y == some .cell)=true
   ·have hf:k0=.free:=by
     have:=c
     simp only[z99] at this
     simpa using this.1.1
    subst hf
    exact z07
   ·have h':k0=k:=by
     rw[show(match (y,k0) with|(n,k)=>if(k == z42 && env.scope.kind == .function && env.kindOf n == some .cell)=true then(n,z95) else(n,k))=(y,k0) from if_neg c] at h
     simpa[z73] using h
    subst h'
    rcases hk with rfl|rfl
    ·exact absurd rfl (hc _ z07)
    ·exact z07
  ·have hb:(y == n)=false:=by simpa using e
   refine z08 _ (Qas (env:=env) (k:=k) (fun z hz=>hc z (z08 _ hz)) ?_ hk)
   by_cases c:(k0 == z42 && env.scope.kind == .function && env.kindOf n == some .cell)=true
   ·rw[show(match (n,k0) with|(n,k)=>if(k == z42 && env.scope.kind == .function && env.kindOf n == some .cell)=true then(n,z95) else(n,k))=(n,z95) from if_pos c,z73,hb] at h
    exact h
   ·rw[show(match (n,k0) with|(n,k)=>if(k == z42 && env.scope.kind == .function && env.kindOf n == some .cell)=true then(n,z95) else(n,k))=(n,k0) from if_neg c,z73,hb] at h
    exact h
theorem Qat {env:Env}{y:Str}:∀{names:List (Str×NameKind)},names.lookup y=some .free->
  (names.map fun(n,k)=>if(k == z42 && env.scope.kind == .function && env.kindOf n == some .cell) then(n,z95) else(n,k)).lookup y=some .cell\/
  (names.map fun(n,k)=>if(k == z42 && env.scope.kind == .function && env.kindOf n == some .cell) then(n,z95) else(n,k)).lookup y=some .free
 | [],h=>by simp at h
 |(n,k)::r,h=>by
  have ih:=@Qat env y r
  show zd6 y ((if(k == z42 && env.scope.kind == .function && env.kindOf n == some .cell)=true then(n,z95) else(n,k))::_)=_\/zd6 y ((if(k == z42 && env.scope.kind == .function && env.kindOf n == some .cell)=true then(n,z95) else(n,k))::_)=_
  cases hx:y == n with
  |true=>
   simp only[z73,hx] at h
   cases h
   by_cases hc:(z42 == z42 && env.scope.kind == .function && env.kindOf n == some .cell)=true
   ·rw[if_pos hc];simp[z73,hx]
   ·rw[if_neg hc];simp[z73,hx]
  |false=>
   simp only[z73,hx] at h
   by_cases hc:(k == z42 && env.scope.kind == .function && env.kindOf n == some .cell)=true
   ·rw[if_pos hc];simp only[z73,hx];exact ih h
   ·rw[if_neg hc];simp only[z73,hx];exact ih h
structure Blk (X:Cx)(scope:Scope)(N:List Str)(ix:List (Option Nat)):Prop where
 kind:scope.kind=.function
 Qhl:∀y∈scope.names,y.2≠.cell
 names:∀y∈scope.names,y.2=.local->scope.names.lookup y.1=some .local
 free:∀y∈scope.names,y.2=.free->X.env.kindOf y.1=some .cell\/X.env.kindOf y.1=some .free
 nd:N.Nodup
 len:ix.length=N.length
 slots:∀(j i:Nat) (y:Str),ix[j]? = some (some i)->N[j]? = some y->X.N[i]? = some y/\scope.names.lookup y=some .free
def JA (ix:List (Option Nat))(σ:St):St:=ix.map fun o=>o.bind fun i=>(σ[i]?).join
def Cx.blk (X:Cx)(scope:Scope)(N:List Str)(pins:List (Addr×Obj))(C:Addr)(s:Shared)(H:Hp)(ex:List Addr):Cx:=
 { X with N:=N,s₀:=s,H₀:=H,env:=compEnvC scope (Qfr X.env.cells scope.names) C X.env,outer:=X.stack,stack:=X.stack,ex:=ex,fn:=fun _=>false,pn:=X.pn++pins,xe:=fun _ _=>False }
def PIf (X:Cx)(ifs:List Expr)(t:TT):Prop:=
 ∀(pins:List (Addr×Obj)) (s:Shared) (σ:St) (H:Hp) (Q:Bool->Hp->Prop),Inv X pins σ H s->t σ H Q->
  wpAny (model X.prog X.w) X.A (forIn ifs true fun c r=>if r=true then do let ok ← isTrue c X.env (eval c X.env);pure (zi3 ok) else pure (zi3 r)) (TP X pins σ Q) X.xe s
def Quw:TT:=fun _ H Q=>Q true H
theorem Qno {X:Cx}:PIf X [] Quw:=fun pins s σ H Q I h=>wpAny_tests_nil ⟨H,I,h⟩
theorem Qnp {X:Cx}{c:Expr}{t:TT}(h:PT X c t):PIf X [c] t:=fun pins s σ H Q I q=>wpAny_tests_one (h pins s σ H Q I q)
theorem Qa6 {prog:Program}{w:World}{A:Around}{R:Result->Shared->Prop}{s:Shared}{elt target iter:Expr}{ifs:List Expr}{scope:Scope}{pos:Pos}{it acc:Value}{env:Env}(I:Nat->Shared->Prop)
  (turn:∀n s,I n s->wpAny (model prog w) A (pyNext it) (fun r s₁=>match r with
   |none=>R (.ok .next) s₁
   |some v=>wpAny (model prog w) A (letOwnedTupleGo target it v) (fun _ s₀=>wpAny (model prog w) A (assign target env v) (fun _ s₂=>
     wpAny (model prog w) A (forIn ifs true fun c r=>if r=true then do let ok ← isTrue c env (eval c env);pure (zi3 ok) else pure (zi3 r)) (fun ok s₃=>
      if ok=true then wpAny (model prog w) A (eval elt env) (fun x s₄=>
       wpAny (model prog w) A (call (.builtin "list.append") [acc,x]) (fun _ s₅=>∃m,m<n/\I m s₅) (fun _ _=>False) s₄) (fun _ _=>False) s₃
      else ∃m,m<n/\I m s₃) (fun _ _=>False) s₂) (fun _ _=>False) s₀) (fun _ _=>False) s₁) (fun _ _=>False) s)
  (n:Nat) (h:I n s) :
  codeAny (model prog w) A (.compLoop (.ListComp elt [⟨target,iter,ifs,0⟩] scope pos) 0 it acc env) R s:=by
 refine codeAny_loop rfl I (fun n s hI=>?_) n h
 show wpAny _ A ((compTurn (.ListComp elt [⟨target,iter,ifs,0⟩] scope pos) 0 it acc env).onRaise (fun x=>do noteFrame x env;theTreesLotGoes x)) _ _ s
 refine wpAny_noted ?_
 rw[compTurn_list]
 refine z19 (zt8 (z19 (zb5 (turn n s hI) (fun r s₁ h₁=>?_) fun _ _ h'=>h'.elim)))
 cases r with
 |none=>exact z51 h₁
 |some v=>
  refine z19 (zb5 h₁ (fun _ s₀ h₀=>?_) fun _ _ h'=>h'.elim)
  refine z19 (zb5 h₀ (fun _ s₂ h₂=>z19 (zb5 h₂ (fun ok s₃ h₃=>?_) fun _ _ h'=>h'.elim)) fun _ _ h'=>h'.elim)
  cases ok with
  |false=>exact z51 ⟨rfl,h₃⟩
  |true=>
   exact z19 (z19 (zb5 h₃ (fun x s₄ h₄=>z19 (zb5 h₄ (fun _ s₅ h₅=>z51 (z51 ⟨rfl,h₅⟩)) fun _ _ h'=>h'.elim)) fun _ _ h'=>h'.elim))
theorem HOk.track {P:Program}{w:World}{H:Hp}{h:Heap}{a:Addr}{o:HO}(x:HOk P w H h)(hn:H a=none)(new:Yc P w (upd H a o) h a o):HOk P w (upd H a o) h:=fun b u e=>by
 by_cases hb:b=a
 ·subst hb;rw[Qy] at e;cases e;exact new
 ·rw[Qp hb] at e
  exact(x b u e).stay (fun c v _ q=>q) (fun c q=>by rw[Qp (QL q hn)];exact q) fun c xs q=>by rw[Qp (QL q hn)];exact q
theorem HOk.but {P:Program}{w:World}{H:Hp}{h h':Heap}{a:Addr}(x:HOk P w H h)(hn:H a=none)(sb:ze0 a h h'):HOk P w H h':=fun b u e=>by
 refine(x b u e).stay (fun c v hc q=>(sb.2 c ?_).trans q) (fun _ q=>q) fun _ _ q=>q
 rintro rfl
 rcases hc with rfl|hc
 ·rw[hn] at e;cases e
 ·rw[hn] at hc;cases hc
section
variable {X:Cx}
def QdA (i j:Int):Prop:=0<j/\j<115792089237316195423570985008687907853269984665640564039457584007913129639936
theorem Qlr {j:Int}(h:QdA 0 j):j.natAbs.log2<9000:=by
 have h1:(0:Int)<j:=h.1
 have h2:j<115792089237316195423570985008687907853269984665640564039457584007913129639936:=h.2
 have e:(2:Nat) ^ 256=115792089237316195423570985008687907853269984665640564039457584007913129639936:=by decide
 have h3:j.natAbs<2 ^ 256:=by rw[e];lia
 have h4:j.natAbs.log2<256:=(Nat.log2_lt (by lia)).mpr h3
 lia
theorem Qei:OpR X (binaryOp .FloorDiv) (rI QdA fun i j=>.int (i / j)):=opI fun i j _ _ _ _ _ hc q=>by
 have h1:(0:Int)<j:=hc.1
 exact floordiv_int (by lia) (by rw[Int.fdiv_eq_ediv_of_nonneg i (by lia)];exact q) (.inl (PyProof.noPylong_of_log2 (Qlr ⟨hc.1,hc.2⟩)))
theorem QdT {pins:List (Addr×Obj)}{σ:St}{H:Hp}{s:Shared}{x:V}{u t:Value}(I:Inv X pins σ H s)(rx:RelV x u)(ty:QiQ X.K H x t) :
  ∃Z:Heap->Prop,PySem.W.KitX X.K u t Z/\Z s.heap/\u≠.builtin "__main__.__loader__#opaque" := by
 cases ty with
 |non=>cases(show u=z38 from rx);exact⟨_,PySem.W.kitx_none,z58,fun z=>nomatch z⟩
 |bl y=>cases(show u=zl7 y from rx);exact⟨_,PySem.W.kitx_bool,z58,fun z=>nomatch z⟩
 |int i=>obtain⟨t,q⟩:=(show ∃t,u=z76 i t from rx);cases q;exact⟨_,PySem.W.kitx_int,z58,fun z=>nomatch z⟩
 |str y=>obtain⟨t,q⟩:=(show ∃t,u=zn8 y t from rx);cases q;exact⟨_,PySem.W.kitx_str,z58,fun z=>nomatch z⟩
 |flt y=>obtain⟨t,q⟩:=(show ∃t,u=zs5 y t from rx);cases q;exact⟨_,PySem.W.kitx_float,z58,fun z=>nomatch z⟩
 | @lst a xs ea=>
  cases(show u=z44 a from rx)
  obtain⟨_,_,n,_,h1⟩:=(show Yc X.prog X.w H s.heap a (.lst xs) from I.hok a _ ea)
  exact⟨_,zk9,⟨_,h1,rfl⟩,fun z=>nomatch z⟩
 | @frz a ob xs ea=>
  cases(show u=z44 a from rx)
  obtain⟨_,_,_,n,_,h1⟩:=(show Yc X.prog X.w H s.heap a (.frz ob (.lst xs)) from I.hok a _ ea)
  exact⟨_,zk9,⟨_,h1,rfl⟩,fun z=>nomatch z⟩
 | @tup a xs ea=>
  cases(show u=z44 a from rx)
  obtain⟨_,_,_,p⟩:=(show Yc X.prog X.w H s.heap a (.tup xs) from I.hok a _ ea)
  obtain⟨o,h1,h2,_⟩:=p
  exact⟨_,zr6,⟨o,h1,h2⟩,fun z=>nomatch z⟩
 | @dK a kvs ea=>
  cases(show u=z44 a from rx)
  obtain⟨_,_,vs,_,p⟩:=(show Yc X.prog X.w H s.heap a (.dK kvs) from I.hok a _ ea)
  obtain⟨o,es,ep,h1,h2,_⟩:=p
  exact⟨_,zs6,⟨o,h1,h2.1⟩,fun z=>nomatch z⟩
 | @dT a kvs ea=>
  cases(show u=z44 a from rx)
  obtain⟨_,_,xs,_,o,es,ep,h1,h2,_⟩:=(show Yc X.prog X.w H s.heap a (.dT kvs) from I.hok a _ ea)
  exact⟨_,zs6,⟨o,h1,h2.1⟩,fun z=>nomatch z⟩
 | @ins a C dx fs ea cl ha hn htk hm=>
  cases(show u=z44 a from rx)
  obtain⟨mA,O,_⟩:=Qed I.hok ea
  obtain⟨od,J,_⟩:=O.look
  exact⟨_,PySem.W.kitx_own (cl.get _) cl.hd ha hn htk hm,J,fun z=>nomatch z⟩
theorem Qjj:∀{cs:List String} {us:List Value},Vals (cs.map V.ty) us->us=cs.map Value.type
 | [],_,.nil=>rfl
 |c::cs,_,.cons r t=>by
  cases r
  rw[Qjj t];rfl
theorem Paired.get {α β:Type}{F:α->β->Prop}:∀{l:List α} {m:List β} {i:Nat} {a:α},Paired F l m->l[i]? = some a->∃b,m[i]? = some b/\F a b
 |_,_,_,_,.nil,e=>by simp at e
 |_,_,0,_,.cons r _,e=>by simp at e;subst e;exact⟨_,rfl,r⟩
 |_,_,i+1,x,.cons _ t,e=>by
  obtain⟨u,h1,h2⟩:=Paired.get (i:=i) (a:=x) t (by simpa using e)
  exact⟨u,by simpa using h1,h2⟩
end
theorem Blk.of {X:Cx}{scope:Scope}{N:List Str}{ix:List (Option Nat)}(kind:scope.kind=.function:=by rfl)
  (c1:(scope.names.all fun y=>y.2 != z95)=true:=by rfl)
  (c2:(scope.names.all fun y=>y.2 != NameKind.local || scope.names.lookup y.1 == some NameKind.local)=true:=by rfl)
  (c3:(scope.names.all fun y=>y.2 != z42 || (X.env.scope.names.lookup y.1 == some z95 || X.env.scope.names.lookup y.1 == some z42))=true:=by rfl)
  (nd:N.Nodup:=by decide +kernel) (len:ix.length=N.length:=by rfl)
  (c4:((List.zip ix N).all fun p=>match p.1 with|none=>true|some i=>X.N[i]? == some p.2 && scope.names.lookup p.2 == some z42)=true:=by rfl):Blk X scope N ix where
 kind:=kind
 Qhl:=fun y hy e=>by
  have q:=z74.mp c1 y hy
  rw[e] at q
  exact absurd q (by decide)
 names:=fun y hy e=>by
  have q:=z74.mp c2 y hy
  rw[e] at q
  exact beq_iff_eq.mp (by simpa using q)
 free:=fun y hy e=>by
  have q:=z74.mp c3 y hy
  rw[e] at q
  have q':(X.env.scope.names.lookup y.1 == some z95 || X.env.scope.names.lookup y.1 == some z42)=true:=by simpa using q
  rcases zt7.mp q' with z|z
  ·exact .inl (beq_iff_eq.mp z)
  ·exact .inr (beq_iff_eq.mp z)
 nd:=nd
 len:=len
 slots:=fun j i y h1 h2=>by
  have hm:(some i,y)∈List.zip ix N:=by
   have e:(List.zip ix N)[j]? = some (some i,y):=by rw[List.getElem?_zip_eq_some];exact⟨h1,h2⟩
   exact z37 e
  have q:=z74.mp c4 _ hm
  have q':(X.N[i]? == some y && scope.names.lookup y == some z42)=true:=q
  obtain⟨z1,z2⟩:=z66.mp q'
  exact⟨beq_iff_eq.mp z1,beq_iff_eq.mp z2⟩
def SqB (kd:Bool)(K:z01)(H:Hp)(a:Addr)(xs:List V):Prop:=match kd with
 |true=>SqL K H a xs
 |false=>SqT K H a xs
def Itb (kd:Bool)(K:z01)(a:Addr):It:=match kd with
 |true=>Itl K a
 |false=>Itt K a
def Qux (K:z01)(tl:TE):TI:=fun σ H R=>tl σ H fun x H1=>∃a kd,x=.ref a/\(∃xs,SqB kd K H1 a xs)/\R (Itb kd K a) H1
theorem Qpz {X:Cx}{tg l:Expr}{tl:TE}(hl:PE X l tl):PI X tg l (Qux X.K tl):=by
 intro pins s σ H R I h
 refine thn (hl pins s σ H _ I h) fun v s1 hz=>?_
 obtain⟨x,H1,I1,r1,q1⟩:=hz
 obtain⟨a,kd,e,⟨xs,hq⟩,q⟩:=q1
 subst e
 cases r1
 cases kd with
 |true=>
  obtain⟨its,rv,p,hz⟩:=I1.list (show SqL X.K H1 a xs from hq)
  refine wpAny_pyIter_list p.isList ?_
  refine⟨s1.heap.objs.size,[s1.heap.objs.size],_,_,H1,rfl,I1.kept (t':=s1.toks) fun b o e=>z17 _ e,QiX a _,⟨_,z45 _ rfl,rfl,rfl⟩,fun b hb=>?_,q⟩
  have e:b=s1.heap.objs.size:=by simpa using hb
  subst e
  exact I1.Qpc (z27 _) (I1.hok.fresh (z27 _))
 |false=>
  obtain⟨its,rv,p,hz⟩:=I1.tuple (show SqT X.K H1 a xs from hq)
  refine zi4 (show s1.heap.IsTuple a its.toArray from p) ?_
  refine⟨s1.heap.objs.size,[s1.heap.objs.size],_,_,H1,rfl,I1.kept (t':=s1.toks) fun b o e=>z17 _ e,Qh5 a _,⟨_,z45 _ rfl,rfl,rfl⟩,fun b hb=>?_,q⟩
  have e:b=s1.heap.objs.size:=by simpa using hb
  subst e
  exact I1.Qpc (z27 _) (I1.hok.fresh (z27 _))
theorem Qz.upd {H:Hp}{a:Addr}{o:HO}(h:H a=none):Qz H (upd H a o):=fun b u e=>by rw[Qp (QL e h)];exact e
structure ExcAt (s:Shared)(H:Hp)(h:Heap)(e:Addr)(cv:Value):Prop where
 new:s.heap.get? e=none
 free:H e=none
 tr:∃oe vs a0 T oT ts,h.get? e=some oe/\oe.cls=cv/\vs[0]? = some a0/\oe.data=.fields vs/\vs[1]? = some (.ref T)/\T≠e/\s.heap.get? T=none/\H T=none/\h.get? T=some oT/\oT.data=.fields ts/\ts[3]? = some .none
def CXe (P:Program)(w:World):CXT:=fun outer H s E ev s'=>∃e cv H',ev=.ref e/\s'.os=s.os/\AllBare s'.gens/\Un (frs outer) [] H H' s.heap s'.heap/\HOk P w H' s'.heap/\ExcAt s H' s'.heap e cv/\E cv none H'
structure QgC (X:Cx):Prop where
 stk:X.stack=X.env::X.outer
 fr:X.env.frame=some X.env.locals
 ex:X.ex=[]
section
variable {X:Cx}{pins:List (Addr×Obj)}{σ:St}{H:Hp}{s:Shared}
theorem Inv.frames (I:Inv X pins σ H s):∀b∈frs X.stack,∃o,s.heap.get? b=some o/\∀vs,o.data≠.fields vs:=fun b hb=>(I.stack.mem hb).2
theorem Qnq {l:List Env}:∀env∈l,∀a,env.frame=some a->a∈frs l:=fun env he a hf=>zl4.mpr ⟨env,he,hf⟩
structure Flew (X:Cx)(extra:List Addr)(h h':Heap):Prop where
 keep:∀b o,h.get? b=some o->b∉frs X.stack->b∉extra->h'.get? b=some o
 slot:∀b o,h.get? b=some o->b∈frs X.stack->∃sl,h'.get? b=some { o with slots:=sl }
theorem Inv.baseOf {h':Heap}{extra:List Addr}(I:Inv X pins σ H s)(hs:∀b∈frs X.stack,b=X.env.locals\/b∈X.fs)(hx:∀b∈extra,X.s₀.heap.get? b=none)(f:Flew X extra s.heap h')(hfs:∀b∈X.fs,b∈frs X.stack) :
  Un X.fs X.ex X.H₀ H X.s₀.heap h':=by
 have nx:∀b o,X.s₀.heap.get? b=some o->b∉extra:=fun b o e z=>by rw[hx b z] at e;cases e
 have nl:∀b o,X.s₀.heap.get? b=some o->b∉X.fs->b∉frs X.stack:=fun b o e n z=>by
  rcases hs b z with q|q
  ·exact absurd (z39 (z34 e) I.ok.above) (by rw[q];exact zc3 _)
  ·exact n q
 refine⟨fun b o e n hb hx'=>f.keep b o (I.base.keep b o e n hb hx') (nl b o e hb) (nx b o e),fun b o e n hb hx'=>?_,I.base.free,fun b o e hx'=>?_,I.base.tups,I.base.QiT,I.base.Qk8⟩
 ·obtain⟨sl,q⟩:=I.base.slot b o e n hb hx'
  obtain⟨sl',q'⟩:=f.slot b _ q (hfs b hb)
  exact⟨sl',q'⟩
 ·obtain⟨o',q⟩:=I.base.there b o e hx'
  by_cases hb:b∈frs X.stack
  ·obtain⟨sl,q'⟩:=f.slot b o' q hb
   exact⟨_,q'⟩
  ·exact⟨o',f.keep b o' q hb (nx b o e)⟩
theorem Inv.Qss {h':Heap}{extra:List Addr}(I:Inv X pins σ H s)(hx:∀b∈extra,H b=none)(f:Flew X extra s.heap h'):HOk X.prog X.w H h':=fun a o e=>by
 have QpA:∀b u,(∃z,H b=some z)->s.heap.get? b=some u->h'.get? b=some u:=fun b u ⟨z,hz⟩ q=>f.keep b u q (fun m=>by rw[I.Qgs b m] at hz;cases hz) fun m=>by rw[hx b m] at hz;cases hz
 refine(I.hok a o e).stay (fun b u hb q=>QpA b u ?_ q) (fun _ q=>q) fun _ _ q=>q
 rcases hb with rfl|hb
 ·exact⟨_,e⟩
 ·exact⟨_,hb⟩
theorem QgC.Qls (d:QgC X)(b:Addr)(hb:b∈frs X.stack):b=X.env.locals\/b∈X.fs:=by
 rw[d.stk] at hb
 unfold frs at hb
 rw[zc1,d.fr] at hb
 exact z13.mp hb
theorem QgC.Qst (d:QgC X)(b:Addr)(hb:b∈X.fs):b∈frs X.stack:=by
 rw[d.stk]
 unfold frs
 rw[zc1,d.fr]
 exact z08 _ hb
def Qmo (X:Cx)(extra:List Addr)(h:Heap):Heap:=zu1 h (frs X.stack++extra)
theorem Qih {extra:List Addr}{h:Heap}:(Qmo X extra h).StaysIn h:=fun b o e=>zr5 _ e
theorem QgD {extra:List Addr}(I:Inv X pins σ H s):s.heap.FunFrames (Qmo X extra s.heap) X.stack:=PySem.W.funFrames_hide I.stack fun env he a hf=>z06 _ (Qnq env he a hf)
theorem Qfs {extra:List Addr}{h:Heap}{b:Addr}(hb:b∈extra):(Qmo X extra h).get? b=none:=zq6 _ (z02 _ hb)
theorem Qnr {extra:List Addr}{h':Heap}(I:Inv X pins σ H s)(k:(Qmo X extra s.heap).StaysIn h')(u:s.heap.UpToSlots h'):Flew X extra s.heap h':=by
 refine⟨fun b o e n1 n2=>k b o (zj5 _ e fun z=>(z05.mp z).elim n1 n2),fun b o e hb=>?_⟩
 obtain⟨o',e',hd⟩:=I.frames b hb
 rw[e] at e';cases e'
 exact u b o e hd
theorem Inv.there {T:Addr}{o:HO}(I:Inv X pins σ H s)(q:H T=some o):∃ob,s.heap.get? T=some ob:=by
 have z:=I.hok T o q
 cases o with
 |lst xs=>obtain⟨_,_,_,_,e⟩:=z;exact⟨_,e⟩
 |tup xs=>obtain⟨_,_,_,ob,e,_⟩:=z;exact⟨_,e⟩
 |dK kvs=>obtain⟨_,_,_,_,ob,_,_,e,_⟩:=z;exact⟨_,e⟩
 |dT kvs=>obtain⟨_,_,_,_,ob,_,_,e,_⟩:=z;exact⟨_,e⟩
 |set S n=>obtain⟨ob,_,_,_,e,_⟩:=z;exact⟨_,e⟩
 |ins C dx fs=>obtain⟨_,_,_,e,_⟩:=z;exact⟨_,e⟩
 |own y=>obtain⟨_,e⟩:=z;exact⟨_,e⟩
 |xd fs=>obtain⟨_,⟨_,_,_,e,_⟩,_⟩:=z;exact⟨_,e⟩
 |rng lo hi=>obtain⟨_,_,_,e⟩:=z;exact⟨_,e⟩
 |frz ob u=>obtain⟨e,_⟩:=z;exact⟨_,e⟩
 |tbl ps=>exact⟨_,(show s.heap.get? T=some _ from z)⟩
 |met f y=>exact⟨_,(show s.heap.get? T=some _ from z)⟩
 |ext φ=>obtain⟨_,⟨_,e⟩,_⟩:=z;exact⟨_,e⟩
theorem QpB {extra:List Addr}{h':Heap}{T:Addr}{oT:Obj}{ts:Array Value}(I:Inv X pins σ H s)(hex:X.ex=[])(x1:∀b∈extra,X.s₀.heap.get? b=none)(x2:∀b∈extra,H b=none)(f:Flew X extra s.heap h')
  (hB:(Qmo X extra s.heap).get? T=none) (hT:h'.get? T=some oT) (hd:oT.data=.fields ts):X.s₀.heap.get? T=none/\H T=none:=by
 have nf:T∉frs X.stack:=fun z=>by
  obtain⟨o,e,nd⟩:=I.frames T z
  obtain⟨sl,q⟩:=f.slot T o e z
  rw[hT] at q;cases q
  exact nd ts hd
 have key:T∈extra\/s.heap.get? T=none:=by
  by_cases hm:T∈extra
  ·exact .inl hm
  ·refine .inr ?_
   cases e:s.heap.get? T with
   |none=>rfl
   |some o=>
    have q:(Qmo X extra s.heap).get? T=some o:=zj5 _ e fun z=>(z05.mp z).elim nf hm
    rw[hB] at q;cases q
 rcases key with m|e
 ·exact⟨x1 T m,x2 T m⟩
 ·refine⟨?_,?_⟩
  ·cases q:X.s₀.heap.get? T with
   |none=>rfl
   |some o=>
    obtain⟨o',q'⟩:=I.base.there T o q (by rw[hex];simp)
    rw[e] at q';cases q'
  ·cases q:H T with
   |none=>rfl
   |some o=>
    obtain⟨ob,q'⟩:=I.there q
    rw[e] at q';cases q'
theorem QpC {h':Heap}{extra:List Addr}{e:Addr}{cv:Value}{E:XK}(d:QgC X)(I:Inv X pins σ H s)(x1:∀b∈extra,X.s₀.heap.get? b=none)(x2:∀b∈extra,H b=none)(f:Flew X extra s.heap h')(x:ExcAt X.s₀ H h' e cv)(k:E cv none H) :
  CXe X.prog X.w X.outer X.H₀ X.s₀ E (.ref e) { s with heap:=h' }:=by
 have u:=I.baseOf d.Qls x1 f d.Qst
 rw[d.ex] at u
 exact⟨e,cv,H,rfl,I.os,I.bare,u,I.Qss x2 f,x,k⟩
theorem Inv.old (I:Inv X pins σ H s)(hex:X.ex=[]){b:Addr}(h:s.heap.get? b=none):X.s₀.heap.get? b=none:=by
 cases q:X.s₀.heap.get? b with
 |none=>rfl
 |some o=>
  obtain⟨o',q'⟩:=I.base.there b o q (by rw[hex];simp)
  rw[h] at q';cases q'
theorem Qsu {B h':Heap}{l:List Env}{e:Addr}{cv a0:Value}{extra:List Addr}(I:Inv X pins σ H s)(hex:X.ex=[])(x1:∀b∈extra,X.s₀.heap.get? b=none)(x2:∀b∈extra,H b=none)(f:Flew X extra s.heap h')
  (fl:Heap.FlyingW (Qmo X extra s.heap) l e cv a0 h') (e1:X.s₀.heap.get? e=none) (e2:H e=none):ExcAt X.s₀ H h' e cv:=by
 obtain⟨_,_,_,oe,vs,T,oT,ts,he,⟨hc,h0⟩,hd,h1,hB,hTe,hT,hdT,h3⟩:=fl
 obtain⟨n1,n2⟩:=QpB I hex x1 x2 f hB hT hdT
 exact⟨e1,e2,oe,vs,a0,T,oT,ts,he,hc,h0,hd,h1,hTe,n1,n2,hT,hdT,h3⟩
theorem Qlt {e:Addr}{cv:Value}{E:XK}{E1:Value->Shared->Prop}(d:QgC X)(I:Inv X pins σ H s)(x:ExcAt X.s₀ H s.heap e cv)(k:E cv none H) :
  wpAny (model X.prog X.w) X.A (leaving X.env (.ref e)) (fun _ s2=>CXe X.prog X.w X.outer X.H₀ X.s₀ E (.ref e) s2) E1 s:=by
 obtain⟨e1,e2,oe,vs,a0,T,oT,ts,he,hc,h0,hd,h1,hTe,n1,n2,hT,hdT,h3⟩:=x
 have fr:X.A.frames=some (X.env::X.outer):=by rw[I.ok.frames,d.stk]
 have x1:∀b∈[e,T],X.s₀.heap.get? b=none:=fun b hb=>by
  rcases z13.mp hb with rfl|hb
  ·exact e1
  ·rw[z25.mp hb];exact n1
 have x2:∀b∈[e,T],H b=none:=fun b hb=>by
  rcases z13.mp hb with rfl|hb
  ·exact e2
  ·rw[z25.mp hb];exact n2
 have fly:Heap.FlyingW (Qmo X [e,T] s.heap) (X.env::X.outer) e cv a0 s.heap:=
  ⟨Qih,Qfs (by simp),by rw[← d.stk];exact QgD I,oe,vs,T,oT,ts,he,⟨hc,h0⟩,hd,h1,Qfs (by simp),hTe,hT,hdT,h3⟩
 refine wpAny_leaves_onW fr d.fr fly fun h' fl up=>?_
 have f:Flew X [e,T] s.heap h':=Qnr I fl.1 up
 exact QpC (s:=s) d I x1 x2 f (Qsu (B:=s.heap) I d.ex x1 x2 f fl e1 e2) k
theorem Inv.raised {e:Value}{E:XK}{s':Shared}(I:Inv X pins σ H s)(h:CXe X.prog X.w X.stack H s E e s'):∃ea cv H',e=.ref ea/\Inv X pins σ H' s'/\ExcAt s H' s'.heap ea cv/\E cv none H':=by
 obtain⟨ea,cv,H',rfl,os,bare,un,hok,x,k⟩:=h
 exact⟨ea,cv,H',rfl,I.call' (ch:=[]) os un hok bare (fun b z=>absurd z (by simp)),x,k⟩
theorem ExcAt.older {s':Shared}{h:Heap}{e:Addr}{cv:Value}(x:ExcAt s H h e cv)(k:∀b,s.heap.get? b=none->s'.heap.get? b=none):ExcAt s' H h e cv:=by
 obtain⟨e1,e2,oe,vs,a0,T,oT,ts,he,hc,h0,hd,h1,hTe,n1,n2,r⟩:=x
 exact⟨k _ e1,e2,oe,vs,a0,T,oT,ts,he,hc,h0,hd,h1,hTe,k _ n1,n2,r⟩
end
section
variable {CX:CXT}{P:Program}{w:World}{K:z01}{mg:Str->Option Value}{base:Heap}{N:List Str}{qual:Str}{scope:Scope}{f:Addr}{cd:Value}{A:Around}{outer:List Env}{s:Shared}{H:Hp}{E:XK}
theorem Qlu:QgC (Qib CX P w K mg base N qual scope f cd A outer s H E):=⟨rfl,rfl,rfl⟩
theorem Qsv:Passes (CXe P w) (Qib (CXe P w) P w K mg base N qual scope f cd A outer s H E) E:=fun pins σ H1 s1 e s' I h=>by
 obtain⟨ea,cv,H',rfl,I',x,k⟩:=I.raised h
 exact Qlt Qlu I' (x.older fun b z=>I.old rfl z) k
theorem Qej:PassesOwn (model P w) (A.deeper (envOfC qual scope s.heap.objs.size f cd)) (envOfC qual scope s.heap.objs.size f cd) (Qib (CXe P w) P w K mg base N qual scope f cd A outer s H E).xe:=PassesOwn.leaving
end
theorem Fun.okE {P:Program}{w:World}{K:z01}{mg:Str->Option Value}{base:Heap}{x qual:Str}{st:Stmt}{f:Addr}{fd:FuncData}{N ps:List Str}{k:Nat}{sp:Sp}(F:Fun K x qual st f fd)(S:Qs N ps (Qf st))(len:∀vs H Q E,sp vs H Q E->vs.length=ps.length)
  (hbody:∀(cdv:Value) (A:Around) (outer:List Env) (s:Shared) (H:Hp) (vs:List V) (Q:VK) (E:XK),Qao k (A.deeper (envOfC qual (Qf st) s.heap.objs.size f cdv))->A.handled=none->sp vs H Q E->
   ∃t,PSs (Qib (CXe P w) P w K mg base N qual (Qf st) f cdv A outer s H E) (VR st) t/\t { nx:=fun _ H'=>Q .non H',rt:=Q } (start N vs) H):JF P w K mg base (CXe P w) (k+1) f fd ps sp:=by
 obtain⟨oc,od,kV,doc,pm,an,cdv,ct,osl,rfl,lk,hcd⟩:=F.ex
 exact Qpj lk hcd S len fun A outer s H vs Q E hr hsp=>hbody cdv A outer s H vs Q E hr hr.hd hsp
structure Qi (P:Program)(w:World)(K:z01)(mg:Str->Option Value)(base:Heap)(k:Nat)(x:Str)(ps:List Str)(sp:Sp):Prop where
 ex:∃f fd,JF P w K mg base (CXe P w) k f fd ps sp/\mg x=some (.ref f)/\ze8 K (.ref f)=true/\Binds K fd ps []
structure QI (P:Program)(w:World)(K:z01)(mg:Str->Option Value)(base:Heap)(C:Addr)(k:Nat)(m:Str)(ps:List Str)(sp:Sp):Prop where
 ex:∃f fd,JF P w K mg base (CXe P w) k f fd ps sp/\Meth K C m f/\Binds K fd ps []
structure QaT (P:Program)(w:World)(K:z01)(mg:Str->Option Value)(base:Heap)(C:Addr)(k:Nat)(x:Str)(ps:List Str)(sp:Sp):Prop where
 ex:∃f fd,JF P w K mg base (CXe P w) k f fd ps sp/\Mk K C f/\mg x=some (.ref C)/\Binds K fd ps []
def Ext (σ τ:St):Prop:=τ.length=σ.length/\∀(i:Nat) v,σ[i]? = some (some v)->τ[i]? = some (some v)
def Qft (wi:TI)(ix:List (Option Nat))(g:TG)(tc:TT)(te:TE):TE:=fun σ H Q=>wi σ H fun J H1=>∃W:Nat->Nat->List V->Hp->Prop,(∃m,W 0 m [] H1)/\∀i m ys H,W i m ys H->
 (J.stop i H/\∀D,H D=none->Q (.ref D) (upd H D (.lst ys)))\/
 (J.go i H/\∃N:List V->Hp->Prop,(∀ys' H',N ys' H'->∃m',m' < m/\W (i+1) m' ys' H')/\∀x H',J.yld i H x H'->
  g x (JA ix σ) H' fun τ H1'=>Ext (JA ix σ) τ/\tc τ H1' fun c H2=>if c=true then te τ H2 fun y H3=>ys.length<z15/\N (ys++[y]) H3 else N ys H2)
theorem Qhm {X:Cx}{elt iter tg:Expr}{pos:Pos}{ifs:List Expr}{scope:Scope}{N:List Str}{ix:List (Option Nat)}{wi:TI}{g:TG}{tc:TT}{te:TE}
  (hc:X.calm=true) (B:Blk X scope N ix) (hi:PI X tg iter wi) (hg:∀pins C s H ex,PG (X.blk scope N pins C s H ex) tg g)
  (ht:∀pins C s H ex,PIf (X.blk scope N pins C s H ex) ifs tc) (he:∀pins C s H ex,PE (X.blk scope N pins C s H ex) elt te)
  (hs:∀x,foldedSetIterable iter X.env x=pure x) {pins:List (Addr×Obj)} {s:Shared} {σ:St} {H:Hp} {Q:VK} {pos':Pos} {use:Option (Value->Sem Unit)} {Qsw:Value->Shared->Prop} (I:Inv X pins σ H s) (h:Qft wi ix g tc te σ H Q)
  (fin:∀{s4:Shared} {H3:Hp} {D C:Addr} {ys:List V} {m:Str->Option Value},s4.heap.Ns C m->(∀h',ze0 C s4.heap h'->Inv X pins σ (upd H3 D (.lst ys)) { s4 with heap:=h' })->C≠X.env.locals->(∀y c,X.env.cells.lookup y=some c->c≠C)->(∀p∈X.pn++pins,p.1≠C)->X.s₀.heap.objs.size<=C->upd H3 D (.lst ys) C=none->Q (.ref D) (upd H3 D (.lst ys))->∀v,compPost (model X.prog X.w) X.A X.xe use Qsw (.ref D) C (.ok v) s4) :
  wpAny (model X.prog X.w) X.A (comprehension (.ListComp elt [⟨tg,iter,ifs,0⟩] scope pos) scope X.env pos' (newList []) false (eval iter X.env) use) Qsw X.xe s:=by
 have hcl:∀y∈scope.names,y.2=.free->∃c,X.env.cells.lookup y.1=some c:=fun y hy hf=>I.ok.has y.1 (B.free y hy hf)
 refine wpAny_comprehension_free (use:=use) (cl:=Qfr X.env.cells scope.names) rfl hs (Qig hcl) B.kind B.names ?_
 refine thn (hi pins s σ H _ I h) fun v s1 h1=>thn h1 fun itv s2 h2=>?_
 obtain⟨it,fp,tn,J,H2,e,I2,T,st2,f2,W,⟨m0,w0⟩,turn⟩:=h2
 subst e
 refine zo9 (wpAny_newFunctionEnv B.Qhl (by intro y hy;simp at hy) (fun h₁ QpD QoN=>?_) B.kind)
 dsimp only at QpD QoN ⊢
 generalize hHp:s2.heap.push { cls:=.type "list",dict:=none,data:=.seq ([]:List Value).toArray }=Hq at QpD QoN ⊢
 generalize hD:s2.heap.objs.size=D at QpD QoN ⊢
 generalize hCq:Hq.objs.size=C at QpD QoN ⊢
 have hC:C=D+1:=by rw[← hCq,← hHp,zk4,hD]
 have hDC:D≠C:=by lia
 have below:∀b o,s2.heap.get? b=some o->b≠C/\b≠D:=fun b o e=>by
  have h1:b<D:=by rw[← hD];exact z34 e
  exact⟨z52 (z39 h1 (by rw[hC];exact zf7 D)),z52 h1⟩
 have old:∀b o,s2.heap.get? b=some o->h₁.get? b=some o:=fun b o e=>QoN.extBut b o (below b o e).1 (z17 _ (hHp▸z17 _ e))
 have Qsx:h₁.get? D=some { cls:=.type "list",data:=.seq ([]:List Value).toArray }:=
  QoN.extBut _ _ hDC (z17 _ (hHp▸hD▸z45 _ rfl))
 have H2D:H2 D=none:=I2.hok.fresh (by rw[hD];exact z27 _)
 have H2C:H2 C=none:=I2.hok.fresh (by rw[hD];lia)
 have clM:∀y c,(Qfr X.env.cells scope.names).lookup y=some c->X.env.cells.lookup y=some c:=fun y c e=>QdS scope.names [] hcl (fun p hp=>nomatch hp) (y,c) (za4 e)
 have Qsy:∀b∈fp,∃o,s2.heap.get? b=some o:=fun b hb=>let ⟨o,e,_⟩:=T.obj 0 _ st2 b hb;⟨o,e⟩
 have QpE:∀p∈X.pn++pins,s2.heap.get? p.1=some p.2:=fun p hp=>(I2.pin p hp).1
 have Qmp:∀y c,X.env.cells.lookup y=some c->∃o,s2.heap.get? c=some o:=fun y c e=>let ⟨v,o,ho,_⟩:=I2.cell y c e;⟨o,ho⟩
 let Xb:Cx:=X.blk scope N pins C s2 H2 fp
 have okb:Xb.Ok:=by
  refine⟨I2.ok.mod,B.kind,I2.ok.glob,I2.ok.blt,?_,fun y z c e1 e2=>I2.ok.inj y z c (clM y c e1) (clM z c e2),fun y hy=>?_,fun y c hf _=>?_,I2.ok.hd,I2.ok.frames,.inl rfl,fun b hb=>?_,I2.bs,z62 I2.ok.bsz I2.sz,fun b o e hb=>?_,fun b hb hf=>?_,I2.stack,I2.Qgs⟩
  ·show s2.heap.objs.size<=C
   rw[hD];lia
  ·have hy':(y,z42)∈scope.names:=by
    rcases hy with hy|hy
    ·exact Qas (env:=X.env) B.Qhl (show(relabel scope X.env).names.lookup y=some .cell from hy) (.inl rfl)
    ·exact Qas (env:=X.env) B.Qhl (show(relabel scope X.env).names.lookup y=some .free from hy) (.inr rfl)
   exact QbU (QbT scope.names [] (.inl hy'))
  ·exact absurd (show false=true from hf) z32
  ·obtain⟨o,e⟩:=Qsy b hb
   refine⟨(below b o e).1,fun y c hy=>?_⟩
   exact(f2 b hb).2.2.2.2.1 y c (clM y c hy)
  ·rcases(f2 b hb).2.2.2.1 with z|z
   ·exact I2.ok.QoY b o e z
   ·exact absurd (z39 (z34 e) (z62 I2.ok.bsz z)) (zc3 _)
  ·rcases z13.mp (I2.Qfa b hf) with z|z
   ·exact(f2 b hb).2.1 z
   ·exact(f2 b hb).2.2.1 z
 have Quy:(JA ix σ).length=N.length:=by unfold JA;rw[z00];exact B.len
 have Qsz:∀p∈X.pn++pins,p.1∉frs X.stack:=fun p hp z=>by
  obtain⟨_,_,n1,n2,_⟩:=I2.pin p hp
  exact(z13.mp (I2.Qfa p.1 z)).elim n1 n2
 have DFs:D∉frs X.stack:=fun z=>by
  rcases z13.mp (I2.Qfa D z) with q|q
  ·have h3:=I2.lt
   rw[hD,← q] at h3
   exact absurd h3 (zc3 _)
  ·exact I2.QtJ (by rw[hD];exact z27 _) q
 -- at the block's start
 have Ib:Inv Xb [(D,{ cls:=.type "list",data:=.seq ([]:List Value).toArray })] (JA ix σ) H2 { s2 with heap:=h₁,toks:=s2.toks+([]:List (Str×Value)).length }:=by
  refine⟨okb,rfl,I2.bare,Un.kept old,⟨_,QpD,fun a y v e1 e2 e3=>?_⟩,fun y c e=>?_,H2C,fun y c e=>I2.QcF y c (clM y c e),fun p hp=>?_,I2.hok.kept old,Quy⟩
  ·unfold JA at e2
   rw[z18] at e2
   cases q:ix[a]? with
   |none=>rw[q] at e2;cases e2
   |some o=>
    rw[q] at e2
    cases o with
    |none=>cases e2
    |some i=>
     have e2':(σ[i]?).join=some v:=z22 e2
     have Quz:σ[i]? = some (some v):=by
      cases r:σ[i]? with
      |none=>rw[r] at e2';cases e2'
      |some t=>rw[r] at e2';exact congrArg some e2'
     obtain⟨n1,n2'⟩:=B.slots a i y q e1
     have n2:(y,z42)∈scope.names:=za4 n2'
     have kf:=B.free _ n2 rfl
     obtain⟨m,_,hl⟩:=I2.loc
     obtain⟨u,r,l⟩:=hl i y v n1 Quz (kf.elim (fun z=>.inr (.inl z)) fun z=>.inr (.inr z))
     refine⟨u,r,?_⟩
     rcases l with⟨l,_⟩|⟨_,c,hc1,hc2⟩
     ·rcases kf with z|z<;>(rw[show X.env.kindOf y=some .local from l] at z;cases z)
     ·obtain⟨c',hc'⟩:=QbU (QbT (cells:=X.env.cells) scope.names [] (.inl n2))
      have:c'=c:=z22 ((clM y c' hc').symm.trans hc1)
      subst this
      have kb:(relabel scope X.env).names.lookup y=some .cell\/(relabel scope X.env).names.lookup y=some .free:=Qat n2'
      obtain⟨oc,hoc,hcd⟩:=hc2
      exact .inr ⟨kb,c',hc',oc,old _ _ hoc,hcd⟩
  ·obtain⟨v,oc,hoc,hcd⟩:=I2.cell y c (clM y c e)
   exact⟨v,oc,old _ _ hoc,hcd⟩
  ·rcases z05.mp hp with hp|hp
   ·obtain⟨p1,p2,p3,p4,p5⟩:=I2.pin p hp
    exact⟨old _ _ p1,p2,(below _ _ p1).1,Qsz p hp,p5⟩
   ·have e:p=(D,{ cls:=.type "list",data:=.seq ([]:List Value).toArray }):=by simpa using hp
    subst e
    exact⟨Qsx,H2D,hDC,DFs,fun v z=>nomatch z⟩
 have stat:∀{H':Hp} {ob:Obj},(∀b∈fp,H' b=none)->∀b∈fp,Qk9 Xb [(D,ob)] H' b:=fun{H' ob} hn b hb=>by
  obtain⟨o,e⟩:=Qsy b hb
  refine⟨hn b hb,(below b o e).1,okb.QoZ b hb,.inl hb,fun y c hy=>(f2 b hb).2.2.2.2.1 y c (clM y c hy),fun p hp z=>?_⟩
  rcases z05.mp hp with hp|hp
  ·exact(f2 b hb).2.2.2.2.2 p hp z
  ·have q:p=(D,ob):=by simpa using hp
   subst q
   exact(below b o e).2 z.symm
 have loop:codeAny (model X.prog X.w) X.A (.compLoop (.ListComp elt [⟨tg,iter,ifs,0⟩] scope pos) 0 (.ref it) (.ref D) (compEnvC scope (Qfr X.env.cells scope.names) C X.env))
   (compPost (model X.prog X.w) X.A X.xe use Qsw (.ref D) C) { s2 with heap:=h₁,toks:=s2.toks+([]:List (Str×Value)).length }:=by
  refine Qa6 (fun n s'=>∃i ys H' its k,Inv Xb [(D,{ cls:=.type "list",data:=.seq (zr7 its) k })] (JA ix σ) H' s'/\tn i s'.heap/\(∀b∈fp,H' b=none)/\Vals ys its/\ys.length<=z15/\W i n ys H') ?_ m0
   ⟨0,[],H2,[],_,Ib,T.keep _ _ _ st2 fun b _ o e=>old b o e,fun b hb=>(f2 b hb).1,.nil,zb4 _,w0⟩
  rintro n s3 ⟨i,ys,H3,its,k,I3,st3,fr3,hv3,hz3,w3⟩
  rcases turn i n ys H3 w3 with⟨stop,qn⟩|⟨go,N',hN,step⟩
  ·refine thn (T.done Xb rfl rfl rfl hc i _ s3 _ H3 (fun _ _=>False) I3 (stat fr3) st3 stop) fun r s4 hz=>?_
   obtain⟨hr,I4⟩:=hz
   subst hr
   obtain⟨m,hn,_⟩:=I4.loc
   have hp4:=I4.pin (D,{ cls:=.type "list",data:=.seq its.toArray k }) (by simp)
   obtain⟨gD,nD,_,_,_⟩:=hp4
   have all:∀h',ze0 C s4.heap h'->Inv X pins σ (upd H3 D (.lst ys)) { s4 with heap:=h' }:=fun h' sb=>by
    have n3C:H3 C=none:=I4.free
    have un4:Un (frs X.stack) fp H2 H3 s2.heap s4.heap:=I4.base
    have gD':h'.get? D=some { cls:=.type "list",data:=.seq its.toArray k }:=(sb.2 D hDC).trans gD
    have up:∀b o,s2.heap.get? b=some o->h'.get? b=s4.heap.get? b:=fun b o e=>sb.2 b (below b o e).1
    refine I2.call' (ch:=fp) (s':={ s4 with heap:=h' }) I4.os ?_ ?_ I4.bare fun b hb=>⟨(f2 b hb).2.2.2.1,(f2 b hb).2.1,(f2 b hb).2.2.2.2.1,(f2 b hb).2.2.2.2.2⟩
    ·refine⟨fun b o e n hb hx=>(up b o e).trans (un4.keep b o e n hb hx),fun b o e n hb hx=>?_,fun b o e n hx=>?_,fun b o e hx=>?_,fun b xs e=>?_,fun b o u e=>?_,fun b ps e=>?_⟩
     ·obtain⟨sl,q⟩:=un4.slot b o e n hb hx
      exact⟨sl,(up b o e).trans q⟩
     ·rw[Qp (below b o e).2];exact un4.free b o e n hx
     ·obtain⟨o',q⟩:=un4.there b o e hx
      exact⟨o',(up b o e).trans q⟩
     ·have q:=un4.tups b xs e
      rw[Qp (QL q nD)];exact q
     ·have q:=un4.QiT b o u e
      rw[Qp (QL q nD)];exact q
     ·obtain⟨more,q⟩:=un4.Qk8 b ps e
      exact⟨more,by rw[Qp (QL q nD)];exact q⟩
    ·exact(HOk.but I4.hok n3C sb).track nD ⟨hz3,its,k,hv3,gD'⟩
   refine fin (C:=C) hn all (fun z=>?_) (fun y' c hy' z=>?_) (fun p hp z=>?_) (z62 I2.sz (by rw[hD];lia)) (by rw[Qp (zd4 hDC)];exact I4.free) (qn D nD) _
   ·have l1:=I2.lt
    rw[hD,← z,hC] at l1
    exact absurd l1 (Nat.not_lt.mpr (zf7 D))
   ·obtain⟨o,q'⟩:=Qmp y' c hy'
    exact(below c o q').1 z
   ·exact(below _ _ (QpE p hp)).1 z
  ·refine thn (T.item Xb rfl rfl rfl hc i _ s3 _ H3 (fun _ _=>False) I3 (stat fr3) st3 go) fun r s4 hz=>?_
   obtain⟨u,hr,h4⟩:=hz
   subst hr
   refine thn h4 fun _ s5 hz=>?_
   obtain⟨x5,H5,I5,r5,y5,st5,fr5⟩:=hz
   have I5':=I5.pinned (stat fr5) (T.obj _ _ st5)
   refine thn (hg pins C s2 H2 fp _ s5 _ H5 x5 u _ I5' r5 (step x5 H5 y5)) fun _ s6 hz=>?_
   obtain⟨σ6,H6,I6,QtP,q6⟩:=hz
   refine thn (ht pins C s2 H2 fp _ s6 _ _ _ I6 q6) fun ok s7 hz=>?_
   obtain⟨H7,I7,q7⟩:=hz
   have back:∀{H8:Hp} {s8:Shared} {ob:Obj} {ys':List V} {its':List Value} {k':Nat},Inv Xb ([(D,ob)]++Qbs fp s5.heap) σ6 H8 s8->ob={ cls:=.type "list",data:=.seq its'.toArray k' }->Vals ys' its'->ys'.length<=z15->N' ys' H8->
     ∃m,m<n/\∃i ys H' its k,Inv Xb [(D,{ cls:=.type "list",data:=.seq (zr7 its) k })] (JA ix σ) H' s8/\tn i s8.heap/\(∀b∈fp,H' b=none)/\Vals ys its/\ys.length<=z15/\W i m ys H':=fun{H8 s8 ob ys' its' k'} I8 eo hv8 hz8 n8=>by
    subst eo
    obtain⟨m',hm,w8⟩:=hN ys' H8 n8
    refine⟨m',hm,i+1,ys',H8,its',k',?_,T.keep _ _ _ st5 fun b hb o e=>(I8.pin (b,o) (z02 _ (z02 _ (QaS hb e)))).1,fun b hb=>?_,hv8,hz8,w8⟩
    ·exact(I8.Qcp).weak QtP.1.symm QtP.2
    ·obtain⟨o,e,d⟩:=T.obj _ _ st5 b hb
     exact(I8.pin (b,o) (z02 _ (z02 _ (QaS hb e)))).2.1
   cases ok with
   |false=>exact back I7 rfl hv3 hz3 q7
   |true=>
    have q7':te σ6 H7 fun y H3=>ys.length<z15/\N' (ys++[y]) H3:=q7
    show wpAny _ _ (eval elt _) _ _ _
    refine thn (he pins C s2 H2 fp _ s7 _ H7 _ I7 q7') fun y8 s8 hz=>?_
    obtain⟨v8,H8,I8,r8,hz8,q8⟩:=hz
    have gD8:=(I8.pin (D,{ cls:=.type "list",data:=.seq its.toArray k }) (by simp)).1
    have nD8:=(I8.pin (D,{ cls:=.type "list",data:=.seq its.toArray k }) (by simp)).2.1
    have hl8:=hv3.length
    refine wpAny_list_append_plain (hsz:=by rw[z14];lia) ⟨k,gD8⟩ fun h9 pl9 sb9=>?_
    obtain⟨k9,g9⟩:=pl9
    have g9':h9.get? D=some { cls:=.type "list",data:=.seq (its++[y8]).toArray k9 }:=by rw[g9];simp
    have QsA:∀p∈Qbs fp s5.heap,p.1≠D:=fun p hp z=>by
     obtain⟨hb,_⟩:=Qfd hp
     obtain⟨o,e⟩:=Qsy p.1 hb
     exact(below _ o e).2 z
    have I8':Inv Xb (Qbs fp s5.heap) σ6 H8 s8:=I8.Qd9 fun p hp=>I8.pin p (z02 _ (z02 _ hp))
    have I9:Inv Xb (Qbs fp s5.heap) σ6 H8 { s8 with heap:=h9 }:=I8'.turned (t':=s8.toks) (fun b o hb e=>(sb9.2 b hb).trans e) nD8 hDC (.inr (by show s2.heap.objs.size<=D;rw[hD];exact z27 _))
     (fun y c hy z=>by obtain⟨o,e⟩:=Qmp y c (clM y c hy);exact(below c o e).2 z)
     (fun p hp z=>by
      rcases z05.mp hp with hp|hp
      ·exact(below _ _ (QpE p hp)).2 z
      ·exact QsA p hp z)
    have I10:Inv Xb ([(D,{ cls:=.type "list",data:=.seq (its++[y8]).toArray k9 })]++Qbs fp s5.heap) σ6 H8 { s8 with heap:=h9 }:=I9.Qd9 fun p hp=>by
     rcases z05.mp hp with hp|hp
     ·have q:p=(D,{ cls:=.type "list",data:=.seq (its++[y8]).toArray k9 }):=by simpa using hp
      subst q
      exact⟨g9',nD8,hDC,DFs,fun v z=>nomatch z⟩
     ·exact I9.pin p (z02 _ hp)
    exact back I10 rfl (hv3.append (.cons r8 .nil)) (by rw[z16,zs0];lia) q8
 exact codeAny_compStart_list loop (T.self _ 0 _ _ _ (T.keep _ _ _ st2 fun b _ o e=>old b o e) loop)
theorem Qek {X:Cx}{elt iter tg:Expr}{y:Str}{py pos spos:Pos}{ifs:List Expr}{scope:Scope}{N:List Str}{ix:List (Option Nat)}{i0:Nat}{wi:TI}{g:TG}{tc:TT}{te:TE}
  (hc:X.calm=true) (hXN:X.N.Nodup) (hi0:X.N[i0]? = some y) (hy:Loc X.env.scope y) (B:Blk X scope N ix) (hi:PI X tg iter wi) (hg:∀pins C s H ex,PG (X.blk scope N pins C s H ex) tg g)
  (ht:∀pins C s H ex,PIf (X.blk scope N pins C s H ex) ifs tc) (he:∀pins C s H ex,PE (X.blk scope N pins C s H ex) elt te)
  (hsw:swapsWith (.ListComp elt [⟨tg,iter,ifs,0⟩] scope pos) (some (.Name y py)) spos.line X.env=pure true:=by rfl)
  (hf:X.fn y=true\/X.env.scope.names.lookup y=some .local:=by first|exact .inl rfl|exact .inr rfl|assumption)
  (hs:∀x,foldedSetIterable iter X.env x=pure x:=by intro _;rfl):PS X (.Assign [.Name y py] (.ListComp elt [⟨tg,iter,ifs,0⟩] scope pos) spos) (Qpa (Qft wi ix g tc te) (VH i0)):=by
 intro pins s σ H DD I h
 rw[exec_Assign_Name_used _ _ _ _ hsw]
 refine z19 (zt8 (z19 ?_))
 show wpAny _ X.A (do
  let _ ← comprehension (.ListComp elt [⟨tg,iter,ifs,0⟩] scope pos) scope X.env _ (newList []) false (eval iter X.env) (some (assign (.Name y py) X.env))) _ _ s
 refine z19 (thn (Q:=fun _ s'=>SP X pins DD .next s') ?_ fun _ s' hq=>z51 (z51 hq))
 refine Qhm hc B hi hg ht he hs I h fun{s4 H3 D C ys m} hn all c1 c2 c3 c4 c5 qn _=>?_
 show wpAny _ X.A (assign (.Name y py) X.env (.ref D)) _ _ s4
 refine wpAny_assign_Name (Qfb (all s4.heap (Heap.SameBut.refl _ _)) hXN hi0 hy (show RelV (.ref D) (.ref D) from rfl) (fun s5 I5 hz=>?_) hf)
 obtain⟨a,sb,ha⟩:=hz
 refine⟨m,hn.sameBut sb fun z=>?_,fun h' sb'=>⟨_,_,I5.turned (t':=s5.toks) (it:=C) (fun b o hb e=>(sb'.2 b hb).trans e) c5 c1 (.inr c4) c2 c3,qn⟩⟩
 rcases ha with q|q
 ·exact c1 (z.trans q)
 ·exact c2 y a q z.symm
theorem Qhn {X:Cx}{elt iter tg:Expr}{pos:Pos}{ifs:List Expr}{scope:Scope}{N:List Str}{ix:List (Option Nat)}{wi:TI}{g:TG}{tc:TT}{te:TE}
  (hc:X.calm=true) (B:Blk X scope N ix) (hi:PI X tg iter wi) (hg:∀pins C s H ex,PG (X.blk scope N pins C s H ex) tg g)
  (ht:∀pins C s H ex,PIf (X.blk scope N pins C s H ex) ifs tc) (he:∀pins C s H ex,PE (X.blk scope N pins C s H ex) elt te)
  (hs:∀x,foldedSetIterable iter X.env x=pure x:=by intro _;rfl):PE X (.ListComp elt [⟨tg,iter,ifs,0⟩] scope pos) (Qft wi ix g tc te):=by
 intro pins s σ H Q I h
 rw[eval_ListComp]
 exact Qhm hc B hi hg ht he hs I h fun{s4 H3 D C ys m} hn all _ _ _ _ _ q _=>⟨m,hn,fun h' sb=>⟨.ref D,upd H3 D (.lst ys),all h' sb,rfl,q⟩⟩
section
variable {X:Cx}
theorem QdB (hc:X.calm=true):QbR X (.builtin "all") (fun xs H Q=>∃(p:Addr) (bs:List Bool),xs=[.ref p]/\SqL X.K H p (bs.map V.bl)/\Q (.bl (bs.all fun b=>b)) H):=by
 intro pins s σ H xs us Q I r h
 obtain⟨p,bs,rfl,hp,q⟩:=h
 obtain⟨u,rfl,ru⟩:=vals1 r
 cases ru
 obtain⟨its,rv,pl,hz⟩:=I.list hp
 have lt:=pl.isList
 have ltp:p<s.heap.objs.size:=by obtain⟨o,ho,_⟩:=lt;exact z34 ho
 refine call_all_walk (wpAny_pyIter_list lt ?_)
 have hlen:=rv.length
 have W:=Walks.list (prog:=X.prog) (w:=X.w) (A:=X.A.in1) (I.ok.hd hc) s.heap.objs.size p (z52 ltp) its.toArray
 refine⟨_,_,_,_,_,_,fun j=>bs.getD j true,rfl,W,⟨⟨_,z45 _ rfl,rfl,rfl⟩,lt.at fun o e=>z17 _ e⟩,fun i v s1 Q1 E1 hP hQ=>?_,fun h' tk k=>?_⟩
 ·obtain⟨hi,hv⟩:∃hi:i<its.length,v=its[i]:=by
   have z:its.toArray[i]? = some v:=hP
   rw[z48] at z
   obtain⟨h1,h2⟩:=z26.mp z
   exact⟨h1,h2.symm⟩
  obtain⟨b,hb⟩:∃b,bs[i]? = some b:=⟨bs[i]'(by rw[z00] at hlen;lia),z04 _⟩
  obtain⟨u,hu,rb⟩:=rv.get (show(bs.map V.bl)[i]? = some (.bl b) by rw[z18,hb];rfl)
  have e:v=.bool b:=by
   rw[z04 hi] at hu
   rw[hv,z22 hu]
   exact rb
  subst e
  have e2:bs.getD i true=b:=by rw[z12,hb];rfl
  have hQ':Q1 (bs.getD i true) s1:=hQ
  rw[e2] at hQ'
  exact za8 hQ'
 ·have e:(z64 its.toArray.size).all (fun j=>bs.getD j true)=bs.all fun b=>b:=by
   have l2:its.toArray.size=bs.length:=by rw[z14,← hlen,z00]
   rw[l2,zg7,z74,z74]
   constructor
   ·intro h b hb
    obtain⟨i,hi⟩:=List.getElem?_of_mem hb
    have z:=h i (za2.mpr (z26.mp hi).1)
    rw[z12,hi] at z
    exact z
   ·intro h i hi
    have hi:=za2.mp hi
    rw[z12,z04 hi]
    exact h _ (z91 hi)
  rw[e]
  have I0:Inv X pins σ H { s with heap:=s.heap.push { cls:=.type "list_iterator",data:=.fields #[.ref p,.int 0 0]}}:=I.kept (t':=s.toks) fun b o z=>z17 _ z
  have fp:=I.Qpc (b:=s.heap.objs.size) (H':=H) (z27 _) I.fresh
  obtain⟨f0,f1,f2,f3,f4,f5⟩:=fp
  exact⟨.bl _,H,I0.turned (t':=tk) (it:=s.heap.objs.size) (fun b o hb z=>k b o (by simpa using hb) z) f0 f1 f3 f4 f5,rfl,q⟩
end
section
variable {X:Cx}{pins:List (Addr×Obj)}{σ:St}{H:Hp}{s:Shared}{h':Heap}
theorem Inv.Qjk {t':Nat}{ch:List Addr}(I:Inv X pins σ H s)(k:∀b o,b∉ch->s.heap.get? b=some o->h'.get? b=some o)(f:∀b∈ch,Qk9 X pins H b):Inv X pins σ H { s with heap:=h',toks:=t' }:=by
 have nit:∀b u,H b=some u->b∉ch:=fun b u e z=>by rw[(f b z).1] at e;cases e
 refine I.step (g':=s.gens) (d':=s.drawn) (ch:=ch) (fun b hb=>?_) (fun b o _ _ hc e _=>k b o hc e) (fun b o _ _ hc e _=>⟨o.slots,k b o hc e⟩) (fun _ _ _ _ n=>n)
  (fun b o hc e=>⟨o,k b o hc e⟩) (fun _ _ e=>e) (fun _ _ _ e=>e) (fun b ps e=>⟨#[],by rw[e];simp⟩) (fun m hm=>?_) (fun b u e=>?_) I.bare
 ·obtain⟨f0,f1,f2,f3,f4,f5⟩:=f b hb
  exact⟨f3,f1,f4,f5⟩
 ·obtain⟨o,es,ep,ho,r⟩:=hm
  exact⟨o,es,ep,k _ o (fun z=>(f _ z).2.1 rfl) ho,r⟩
 ·refine(I.hok b u e).stay (fun c v hc q=>k c v ?_ q) (fun _ q=>q) fun _ _ q=>q
  rcases hc with z|z
  ·rw[z];exact nit b u e
  ·exact nit c _ z
theorem Inv.QpF {t':Nat}{ch:List Addr}{a:Addr}{o:HO}(I:Inv X pins σ H s)(k:∀b o,b∉ch->s.heap.get? b=some o->h'.get? b=some o)(f:∀b∈ch,Qk9 X pins H b)(hp:s.heap.objs.size<=a)(new:Yc X.prog X.w (upd H a o) h' a o):Inv X pins σ (upd H a o) { s with heap:=h',toks:=t' }:=by
 have nit:∀b u,H b=some u->b∉ch:=fun b u e z=>by rw[(f b z).1] at e;cases e
 have hn:H a=none:=I.hok.fresh hp
 have na:∀b u,H b=some u->b≠a:=fun b u e z=>by rw[z,hn] at e;cases e
 refine I.step (g':=s.gens) (d':=s.drawn) (ch:=ch) (fun b hb=>?_) (fun b o _ _ hc e _=>k b o hc e) (fun b o _ _ hc e _=>⟨o.slots,k b o hc e⟩) (fun b o _ e n=>?_)
  (fun b o hc e=>⟨o,k b o hc e⟩) (fun b xs e=>?_) (fun b o u e=>?_) (fun b ps e=>⟨#[],?_⟩) (fun m hm=>?_) (fun b u e=>?_) I.bare
 ·obtain⟨f0,f1,f2,f3,f4,f5⟩:=f b hb
  exact⟨f3,f1,f4,f5⟩
 ·rw[Qp (z52 (z39 (z34 e) hp))];exact n
 ·rw[Qp (na _ _ e)];exact e
 ·rw[Qp (na _ _ e)];exact e
 ·rw[Qp (na _ _ e),e];simp
 ·obtain⟨o,es,ep,ho,r⟩:=hm
  exact⟨o,es,ep,k _ o (fun z=>(f _ z).2.1 rfl) ho,r⟩
 ·by_cases z:b=a
  ·subst z
   rw[Qy] at e
   cases e
   exact new
  ·rw[Qp z] at e
   refine(I.hok b u e).stay (fun c v hc q=>k c v ?_ q) (fun _ q=>?_) fun _ _ q=>?_
   ·rcases hc with z|z
    ·rw[z];exact nit b u e
    ·exact nit c _ z
   ·first|exact q|(rw[Qp (na _ _ q)];exact q)
   ·first|exact q|(rw[Qp (na _ _ q)];exact q)
end
section
variable {X:Cx}
def Ite (K:z01)(a:Addr):It:=
 ⟨fun i H=>∃xs x,SqL K H a xs/\xs[i]? = some x,fun i H v H'=>∃T x,H T=none/\v=.ref T/\H'=upd H T (.tup [.int (i:Nat),x])/\∀xs,SqL K H a xs->xs[i]? = some x,fun i H=>∃xs,SqL K H a xs/\xs.length<=i⟩
theorem Qjl {P:Program}{w:World}{K:z01}{es:List Expr}{k:Nat}{tp:Pos}(a e it:Addr)(hne:e≠it):Turn P w K (.Tuple es k tp) (Ite K a) [e,it] e (fun i h=>(∃old,IsEnum h e it ((i:Nat):Int) old)/\h.IsListIter it a i) where
 mem:=by simp
 obj:=fun i h st b hb=>by
  obtain⟨⟨old,he⟩,o,ho,c,d⟩:=st
  rcases z13.mp hb with rfl|hb
  ·exact⟨_,he,fun v z=>by cases z⟩
  ·have q:b=it:=by simpa using hb
   subst q
   exact⟨o,ho,fun v z=>by rw[d] at z;cases z⟩
 keep:=fun i h h' st k=>by
  obtain⟨⟨old,he⟩,hit⟩:=st
  exact⟨⟨old,k e (by simp) _ he⟩,hit.at fun o q=>k it (by simp) o q⟩
 item:=by
  intro X hP hw hK hc i pins s σ H E I hf st hg
  subst hP hw hK
  obtain⟨⟨old,he⟩,hit⟩:=st
  obtain⟨xs,x,hq,hx⟩:=hg
  obtain⟨its,rv,p,hz⟩:=I.list hq
  obtain⟨u,hu,ru⟩:=rv.get hx
  refine wpAny_pyNext_enum_item he hit p.isList (x:=u) (by simpa using hu) hne fun h1 heo hit1 ht1 hz1 hk1=>?_
  refine⟨_,rfl,zr4 heo fun h2 he2 hs2=>?_⟩
  have hel:e<s.heap.objs.size:=z34 he
  have hT:H s.heap.objs.size=none:=I.hok.fresh (z27 _)
  have kk:∀b o,b∉[e,it]->s.heap.get? b=some o->h2.get? b=some o:=fun b o hb q=>by
   have nb:b≠e:=fun z=>hb (by simp[z])
   have ni:b≠it:=fun z=>hb (by simp[z])
   exact(hs2.2 b nb).trans (hk1 b o nb ni q)
  have gT:h2.get? s.heap.objs.size=some { cls:=.type "tuple",data:=.seq #[.int i s.toks,u]}:=(hs2.2 _ (zn2 hel)).trans ht1
  -- the heap ahead of the tuple
  have I1:Inv X pins σ (upd H s.heap.objs.size (.tup [.int (i:Nat),x])) { s with heap:=h2,toks:=s.toks+1 }:=I.QpF kk hf (z27 _) ⟨by show 2<=z15;decide,[.int i s.toks,u],.cons ⟨_,rfl⟩ (.cons ru .nil),⟨_,gT,rfl,_,rfl⟩⟩
  refine⟨.ref s.heap.objs.size,_,I1,rfl,⟨s.heap.objs.size,x,hT,rfl,rfl,fun ys hy=>by rw[I.Qea hy hq];exact hx⟩,⟨⟨u,?_⟩,hit1.extBut hs2.extBut (zd4 hne)⟩,fun b hb=>?_⟩
  ·have:((i+1:Nat):Int)=(i:Int)+1:=by push_cast;rfl
   rw[this];exact he2
  ·have nb:b≠s.heap.objs.size:=by
    rcases z13.mp hb with rfl|hb
    ·exact z52 hel
    ·have q:b=it:=by simpa using hb
     subst q
     obtain⟨o,ho,_⟩:=hit
     exact z52 (z34 ho)
   rw[Qp nb]
   exact(hf b hb).1
 done:=by
  intro X hP hw hK hc i pins s σ H E I hf st hg
  subst hP hw hK
  obtain⟨⟨old,he⟩,hit⟩:=st
  obtain⟨xs,hq,hx⟩:=hg
  obtain⟨its,rv,p,hz⟩:=I.list hq
  have hl:=rv.length
  exact wpAny_pyNext_enum_end (I.ok.hd hc) he hit p.isList (by simp;lia) fun h' eb=>⟨rfl,I.Qjk (ch:=[e,it]) (t':=s.toks) (fun b o hb q=>eb b o (fun z=>hb (by simp[z])) q) hf⟩
 self:=fun _ _ _ _ _ st h=>let ⟨_,he⟩:=st.1;zi9 he h
theorem Qjm:z71 "enumerate" = some (.type "enumerate"):=by decide +kernel
end
section
variable {prog:Program}{w:World}{A:Around}{E:Value->Shared->Prop}{s:Shared}
theorem Qii {it tp:Addr}{j:Nat}{ys:Array Value}{y:Value}{Q:Value->Shared->Prop}(jt:s.heap.IsTupleIter it tp j)(jl:s.heap.IsTuple tp ys)(jx:ys[j]? = some y)
  (K:∀h2,h2.IsTupleIter it tp (j+1)->ze0 it s.heap h2->Q y { s with heap:=h2 }):wpAny (model prog w) A (zc2 (.ref it)) Q E s:=by
 obtain⟨oi,hi,ci,di⟩:=id jt
 obtain⟨ot,htp,_,nt,dt⟩:=jl
 unfold zc2
 refine z19 (zj2 (name:=zj3 "__next__") jt.typeIs zd5 (zg8 zd5 jt.typeIs zq4 ?_ (zq0 _)))
 show wpAny _ _ (field (.ref it) 0 >>= _) _ _ s
 refine z19 (zm4 hi di (x:=.ref tp) rfl ?_)
 show wpAny _ _ (if(z44 tp == z38)=true then _ else _) _ _ s
 rw[if_neg (show ¬ ((z44 tp == z38)=true) from z32)]
 show wpAny _ _ (field (.ref it) 1 >>= _) _ _ s
 refine z19 (zm4 hi di (x:=.int j 0) rfl ?_)
 show wpAny _ _ (seqItems? (.ref tp) >>= _) _ _ s
 refine z19 (wpAny_seqItems htp dt ?_)
 simp only[z82,jx]
 refine z19 (wpAny_setField hi di (by simp) (z51 ⟨y,rfl,z51 (K _ ?_ (zb2 ..))⟩))
 exact⟨_,zs2 _ hi (Obj.isFreed_of_fields (zv1 di _)),(Obj.cls_mapFields ..).trans ci,by rw[zv1 di];simp[rawInt]⟩
theorem Qfu {it tp:Addr}{j:Nat}{ys:Array Value}{Q:Value->Shared->Prop}(hh:A.handled=none)(jt:s.heap.IsTupleIter it tp j)(jl:s.heap.IsTuple tp ys)(jx:ys[j]? = none)
  (K:∀h2 x,Heap.ExtBut it s.heap h2->(∃o,h2.get? x=some o/\o.cls=.type "StopIteration")->E (.ref x) { s with heap:=h2 }):wpAny (model prog w) A (zc2 (.ref it)) Q E s:=by
 obtain⟨oi,hi,ci,di⟩:=id jt
 obtain⟨ot,htp,_,nt,dt⟩:=jl
 unfold zc2
 refine z19 (zj2 (name:=zj3 "__next__") jt.typeIs zd5 (zg8 zd5 jt.typeIs zq4 ?_ (zq0 _)))
 show wpAny _ _ (field (.ref it) 0 >>= _) _ _ s
 refine z19 (zm4 hi di (x:=.ref tp) rfl ?_)
 show wpAny _ _ (if(z44 tp == z38)=true then _ else _) _ _ s
 rw[if_neg (show ¬ ((z44 tp == z38)=true) from z32)]
 show wpAny _ _ (field (.ref it) 1 >>= _) _ _ s
 refine z19 (zm4 hi di (x:=.int j 0) rfl ?_)
 show wpAny _ _ (seqItems? (.ref tp) >>= _) _ _ s
 refine z19 (wpAny_seqItems htp dt ?_)
 simp only[z82,jx]
 refine z19 (wpAny_rule (z19 (wpAny_setField hi di (by simp) ?_)))
 show wpAny _ _ (newExc (.type "StopIteration") [] >>= _) _ _ _
 refine z19 ?_
 simp only[newExc,newTuple]
 refine z19 (zo9 ?_ (by size_fits))
 refine z19 (m:=firstArgMember _ _) (wpAny_of_eq (a:=z38) (by first|rfl|(simp only[firstArgMember];rfl)) ?_)
 refine zo9 ?_ (by size_fits)
 simp only[raiseNew]
 refine z19 (wpAny_handled ?_)
 first|rw[show A.in1.handled=none from hh]|rw[hh]
 refine z19 (z51 (wpAny_throw ?_))
 exact K _ _ (((zb2 ..).extBut.push _).push _) ⟨_,z45 _ rfl,rfl⟩
theorem QpG {prog:Program}{w:World}{A:Around}(hh:A.handled=none)(it tp:Addr)(hne:tp≠it)(ys:Array Value) :
  Draws prog w A it [it,tp] ys.size (fun i v=>ys[i]? = some v) (fun i h=>h.IsTupleIter it tp i/\h.IsTuple tp ys) where
 live:=fun _ _ st=>let ⟨o,ho,_⟩:=st.1;⟨o,ho⟩
 frame:=fun _ _ _ st hk=>by
  obtain⟨⟨o,ho,r⟩,o',ho',r'⟩:=st
  exact⟨⟨o,hk it (by simp) o ho,r⟩,o',hk tp (by simp) o' ho',r'⟩
 item:=fun i s Q E hi st hQ=>by
  refine Qii st.1 st.2 (y:=ys[i]) (by simp[hi]) fun h' hit' hs'=>?_
  exact hQ _ h' s.toks (by simp[hi]) ⟨hit',st.2.extBut hs'.extBut hne⟩ hs'
 done:=fun s Q E st hE=>Qfu hh st.1 st.2 (by simp) hE
open AutoSeq1 (wpAny_loadPart') in
theorem QpH (l:Addr)(ys:Array Value)(n:Nat)(dd:Option Addr)(zz:Array (Option Value)) :
  Meets (Builtin.«enumerate.__new__» ⟨[.type "enumerate",.ref l],[]⟩) (fun _ R s=>s.heap.get? l=some { cls:=.type "tuple",dict:=dd,data:=.seq ys n,slots:=zz }/\
   R (.ok (.ret (.ref (s.heap.push { cls:=.type "tuple_iterator",data:=.fields #[.ref l,.int 0 0]}).objs.size)))
    { s with heap:=(s.heap.push { cls:=.type "tuple_iterator",data:=.fields #[.ref l,.int 0 0]}).push { cls:=.type "enumerate",data:=.fields #[.none,.bool false,.ref s.heap.objs.size,rawInt 0,.none,.none]}}):=
 .of_wp fun prog w A R s h=>by
  obtain⟨hp,g,d,tk,os⟩:=s;obtain⟨hl,h⟩:=h
  have hsub:=sub_enumerate
  have hT:Heap.IsTuple (Shared.heap ⟨hp,g,d,tk,os⟩) l ys:=⟨_,hl,rfl,n,rfl⟩
  wp_walk using zf3 hl
  refine wpAny_stack_any fun st=>z51 ?_
  split
  ·rename_i c _ _ _ _ _
   cases(c == Value.type "enumerate")
   ·wp_walk using zf3 hl,zi4 hT
    exact⟨_,rfl,h⟩
   ·wp_walk using zf3 hl,zi4 hT
    exact⟨_,rfl,h⟩
  ·wp_walk using zf3 hl,zi4 hT
   exact⟨_,rfl,h⟩
theorem Qij {l:Addr}{ys:Array Value}{Q:Value->Shared->Prop}(hL:s.heap.IsTuple l ys)
  (h:∀h',IsEnum h' (s.heap.objs.size+1) s.heap.objs.size 0 .none->h'.IsTupleIter s.heap.objs.size l 0->(∀b o,s.heap.get? b=some o->h'.get? b=some o)->Q (.ref (s.heap.objs.size+1)) { s with heap:=h' }) :
  wpAny (model prog w) A (call (.type "enumerate") [.ref l]) Q E s:=by
 obtain⟨⟨c,dd,dt,zz⟩,hl,hc,n,hd⟩:=hL
 replace hc:c=.type "tuple" := hc
 replace hd:dt=.seq ys n:=hd
 subst hc hd
 refine callType_new F.called_enumerate (by decide) (F.typeCall_enumerate_1 _) (F.newCall_enumerate_1 _) (fun obj=>F.args_object_init_2 obj _) F.entry_enumerate_new (QpH l ys n dd zz) ⟨hl,?_⟩
 have hz:(s.heap.push { cls:=.type "tuple_iterator",data:=.fields #[.ref l,.int 0 0]}).objs.size=s.heap.objs.size+1:=zk4 ..
 show _/\_
 rw[hz]
 have he:IsEnum ((s.heap.push { cls:=.type "tuple_iterator",data:=.fields #[.ref l,.int 0 0]}).push { cls:=.type "enumerate",data:=.fields #[.none,.bool false,.ref s.heap.objs.size,rawInt 0,.none,.none]}) (s.heap.objs.size+1) s.heap.objs.size 0 .none:=by
  have q:=z45 (s.heap.push { cls:=.type "tuple_iterator",data:=.fields #[.ref l,.int 0 0]}) (o:={ cls:=.type "enumerate",data:=.fields #[.none,.bool false,.ref s.heap.objs.size,rawInt 0,.none,.none]}) rfl
  rw[hz] at q;exact q
 exact⟨⟨_,he,rfl⟩,h _ he ⟨_,z17 _ (z45 _ rfl),rfl,rfl⟩ fun b o x=>z17 _ (z17 _ x)⟩
end
section
variable {X:Cx}
def QsB (K:z01)(a:Addr):It:=
 ⟨fun i H=>∃xs x,SqT K H a xs/\xs[i]? = some x,fun i H v H'=>∃T x,H T=none/\v=.ref T/\H'=upd H T (.tup [.int (i:Nat),x])/\∀xs,SqT K H a xs->xs[i]? = some x,fun i H=>∃xs,SqT K H a xs/\xs.length<=i⟩
theorem Qik {P:Program}{w:World}{K:z01}{es:List Expr}{k:Nat}{tp:Pos}(a e it:Addr)(hne:e≠it)(hae:e≠a)(hai:a≠it):Turn P w K (.Tuple es k tp) (QsB K a) [e,it] e (fun i h=>(∃old,IsEnum h e it ((i:Nat):Int) old)/\h.IsTupleIter it a i) where
 mem:=by simp
 obj:=fun i h st b hb=>by
  obtain⟨⟨old,he⟩,o,ho,c,d⟩:=st
  rcases z13.mp hb with rfl|hb
  ·exact⟨_,he,fun v z=>by cases z⟩
  ·have q:b=it:=by simpa using hb
   subst q
   exact⟨o,ho,fun v z=>by rw[d] at z;cases z⟩
 keep:=fun i h h' st k=>by
  obtain⟨⟨old,he⟩,o,ho,r⟩:=st
  exact⟨⟨old,k e (by simp) _ he⟩,o,k it (by simp) o ho,r⟩
 item:=by
  intro X hP hw hK hc i pins s σ H E I hf st hg
  subst hP hw hK
  obtain⟨⟨old,he⟩,hit⟩:=st
  obtain⟨xs,x,hq,hx⟩:=hg
  obtain⟨its,rv,p,hz⟩:=I.tuple hq
  obtain⟨u,hu,ru⟩:=rv.get hx
  have hlt:i<its.toArray.size:=by
   rcases Nat.lt_or_ge i its.toArray.size with z|z
   ·exact z
   ·rw[z14] at z
    rw[List.getElem?_eq_none z] at hu
    cases hu
  refine wpAny_pyNext_enum_itemD (QpG (show X.A.in1.handled=none from I.ok.hd hc) it a hai its.toArray) he ⟨hit,p⟩ hlt hne (by simp[hne,hae]) fun y h1 tk hy heo hst ht1 hz1 hk1=>?_
  obtain⟨hit1,_⟩:=hst
  have eu:y=u:=by
   have:its[i]? = some y:=by simpa using hy
   rw[hu] at this
   exact(z22 this).symm
  subst eu
  refine⟨_,rfl,zr4 heo fun h2 he2 hs2=>?_⟩
  have hel:e<s.heap.objs.size:=z34 he
  have hT:H s.heap.objs.size=none:=I.hok.fresh (z27 _)
  have kk:∀b o,b∉[e,it]->s.heap.get? b=some o->h2.get? b=some o:=fun b o hb q=>by
   have nb:b≠e:=fun z=>hb (by simp[z])
   have ni:b≠it:=fun z=>hb (by simp[z])
   exact(hs2.2 b nb).trans (hk1 b o nb ni q)
  have gT:h2.get? s.heap.objs.size=some { cls:=.type "tuple",data:=.seq #[.int i tk,y]}:=(hs2.2 _ (zn2 hel)).trans ht1
  have I1:Inv X pins σ (upd H s.heap.objs.size (.tup [.int (i:Nat),x])) { s with heap:=h2,toks:=tk+1 }:=I.QpF kk hf (z27 _) ⟨by show 2<=z15;decide,[.int i tk,y],.cons ⟨_,rfl⟩ (.cons ru .nil),⟨_,gT,rfl,_,rfl⟩⟩
  refine⟨.ref s.heap.objs.size,_,I1,rfl,⟨s.heap.objs.size,x,hT,rfl,rfl,fun zs hy=>by rw[I.QcG hy hq];exact hx⟩,⟨⟨y,?_⟩,hit1.extBut hs2.extBut (zd4 hne)⟩,fun b hb=>?_⟩
  ·have:((i+1:Nat):Int)=(i:Int)+1:=by push_cast;rfl
   rw[this];exact he2
  ·have nb:b≠s.heap.objs.size:=by
    rcases z13.mp hb with rfl|hb
    ·exact z52 hel
    ·have q:b=it:=by simpa using hb
     subst q
     obtain⟨o,ho,_⟩:=hit
     exact z52 (z34 ho)
   rw[Qp nb]
   exact(hf b hb).1
 done:=by
  intro X hP hw hK hc i pins s σ H E I hf st hg
  subst hP hw hK
  obtain⟨⟨old,he⟩,hit⟩:=st
  obtain⟨xs,hq,hx⟩:=hg
  obtain⟨its,rv,p,hz⟩:=I.tuple hq
  have hl:=rv.length
  have hT:s.TypeIs (.ref e) "enumerate" := ⟨_,he,rfl⟩
  unfold pyNext
  refine z19 (wpAny_attempt (zj2 (name:=zj3 "__next__") hT zu5 (zg8 zu5 hT F.entry_enumerate_next ?_ (F.args_enumerate_next_1 _))))
  show wpAny _ _ (field (.ref e) 2 >>= _) _ _ _
  refine z19 (zm4 he rfl (x:=.ref it) rfl ?_)
  refine z19 (Qfu (I.ok.hd hc) hit p (by simp;lia) fun h' x eb hx'=>?_)
  obtain⟨o,ho,hc'⟩:=hx'
  refine z19 (wpAny_isInstance (T := "StopIteration") (b:=true) ⟨o,ho,hc'⟩ isSubtype_stop ?_)
  exact z51 ⟨rfl,I.Qjk (ch:=[e,it]) (t':=s.toks) (fun b o hb q=>eb b o (fun z=>hb (by simp[z])) q) hf⟩
 self:=fun _ _ _ _ _ st h=>let ⟨_,he⟩:=st.1;zi9 he h
def Itq (kd:Bool)(K:z01)(a:Addr):It:=match kd with
 |true=>Ite K a
 |false=>QsB K a
def QpI (K:z01)(ta:TA):TI:=fun σ H R=>ta σ H fun vs H1=>∃a kd,vs=[.ref a]/\(∃xs,SqB kd K H1 a xs)/\R (Itq kd K a) H1
theorem Qlv {es:List Expr}{k:Nat}{tp:Pos}{e:Expr}{ta:TA}{p pos:Pos}(hg:Gl X "enumerate")(hm:X.mg "enumerate" = none)(ha:PA X [e] ta)(hs:starEach [e] X.env=(false,eval e X.env)::starEach [] X.env:=by rfl)
  (hpl:(backTo pos (starEach [] X.env)).any (·.1)=false:=by rfl):PI X (.Tuple es k tp) (.Call (.Name "enumerate" p) [e] [] pos) (QpI X.K ta):=by
 intro pins s σ H R I h
 refine zf5 (Qfc I hg hm Qjm ?_ (by decide) (by decide))
 refine zf1 (thn (ha pos pins s σ H _ I h) fun us s1 ⟨vs,H1,I1,r1,a,kd,e1,⟨xs,hq⟩,q⟩=>?_) hs hpl
 subst e1
 obtain⟨u,rfl,ru⟩:=vals1 r1
 cases ru
 have fz:∀b∈[s1.heap.objs.size+1,s1.heap.objs.size],Qk9 X pins H1 b:=fun b hb=>by
  have hb':s1.heap.objs.size<=b:=by
   rcases z13.mp hb with rfl|hb
   ·exact zf7 _
   ·have z:b=s1.heap.objs.size:=by simpa using hb
    rw[z];exact z27 _
  exact I1.Qpc (H':=H1) hb' (I1.hok.fresh hb')
 cases kd with
 |true=>
  obtain⟨its,rv,pl,hz⟩:=I1.list (show SqL X.K H1 a xs from hq)
  refine call_enumerate_list pl.isList fun h' he hit hsz kp=>zi9 he ?_
  have I2:Inv X pins σ H1 { s1 with heap:=h' }:=I1.kept (t':=s1.toks) kp
  exact⟨s1.heap.objs.size+1,[s1.heap.objs.size+1,s1.heap.objs.size],_,Ite X.K a,H1,rfl,I2,Qjl a _ _ (Nat.succ_ne_self _),⟨⟨_,he⟩,hit⟩,fz,q⟩
 |false=>
  obtain⟨its,rv,pl,hz⟩:=I1.tuple (show SqT X.K H1 a xs from hq)
  have hal:a<s1.heap.objs.size:=by
   obtain⟨o,e,_⟩:=pl
   exact z34 e
  refine Qij (show s1.heap.IsTuple a its.toArray from pl) fun h' he hit kp=>zi9 he ?_
  have I2:Inv X pins σ H1 { s1 with heap:=h' }:=I1.kept (t':=s1.toks) kp
  exact⟨s1.heap.objs.size+1,[s1.heap.objs.size+1,s1.heap.objs.size],_,QsB X.K a,H1,rfl,I2,Qik a _ _ (Nat.succ_ne_self _) (zn2 (zm8 hal)) (z52 hal),⟨⟨_,he⟩,hit⟩,fz,q⟩
end
structure Sh (k b:Nat)(d:PyData):Prop where
 sh:d.showable=true
 dp:d.depth<=k
 bk:d.bulk<=b
 sl:d.leavesShort 61=true
theorem Sh.int {n:Int}(h:n.natAbs<10 ^ 60):Sh 0 0 (.int n) where
 sh:=by
  simp only[zu9]
  exact decide_eq_true (zo2 (z39 h (by decide +kernel)))
 dp:=by simp[PyData.depth]
 bk:=by simp[PyData.bulk]
 sl:=by
  have e:=int_text_length_le10 (k:=60) (by decide) h
  simp only[zs7]
  refine decide_eq_true ?_
  show(zj3 (toString n)).length<=61
  rw[zr0];exact e
section
def QsC (a:Addr)(cv:Value):HO:=.ext fun h=>∃o,h.get? a=some o/\o.cls=cv
end
structure Sw (k b:Nat)(d:PyData):Prop where
 sh:d.showable=true
 dp:d.depth<=k
 bk:d.bulk<=b
 sl:d.leavesShort 64=true
theorem Sw.int {n:Int}(h:n.natAbs<10 ^ 62):Sw 0 0 (.int n) where
 sh:=by
  simp only[zu9]
  exact decide_eq_true (zo2 (z39 h (by decide +kernel)))
 dp:=by simp[PyData.depth]
 bk:=by simp[PyData.bulk]
 sl:=by
  have e:=int_text_length_le10 (k:=62) (by decide) h
  simp only[zs7]
  refine decide_eq_true ?_
  show(zj3 (toString n)).length<=64
  rw[zr0];exact z62 e (by decide)
end L2
namespace L2.Srt
open PySem PySem.W PyProof.Rows
structure Ord (n:Nat)(lt:Nat->Nat->Bool):Prop where
 ir:∀i,lt i i=false
 tr:∀i j k,lt i j=true->lt j k=true->lt i k=true
 to:∀i j,i<n->j<n->i≠j->lt i j=false->lt j i=true
end L2.Srt
namespace L2.Srt
open PySem PyProof.Rows
def Qns:Bool->Keyed->Array Keyed->Nat->Nat->Nat->StateT SortSt Sem (Option Nat):=sortPriv% PySem.Builtin.gallop
def Qlw:Array Keyed->Array Keyed->StateT SortSt Sem (Array Keyed):=sortPriv% PySem.Builtin.mergeLo
def Qlx:Array Keyed->Array Keyed->StateT SortSt Sem (Array Keyed):=sortPriv% PySem.Builtin.mergeHi
section
variable {J:Shared->Prop}{M:Model}{A:Around}{E:Value->Shared->Prop}{α β:Type}{st:SortSt}
def wpT (J:Shared->Prop)(M:Model)(A:Around)(E:Value->Shared->Prop){α:Type}(m:StateT SortSt Sem α)(Q:α->SortSt->Prop)(st:SortSt):Prop:=
 ∀s,J s->wpAny M A (m st) (fun r s'=>J s'/\Q r.1 r.2) E s
theorem Qfv {m:StateT SortSt Sem α}{Q:α->SortSt->Prop}(h:wpT J M A E m Q st){s:Shared}(hs:J s):wpAny M A (m st) (fun r s'=>J s'/\Q r.1 r.2) E s:=h s hs
theorem Qe {a:α}{Q:α->SortSt->Prop}(h:Q a st):wpT J M A E (pure a:StateT SortSt Sem α) Q st:=fun s hs=>z51 ⟨hs,h⟩
theorem Qd {m:StateT SortSt Sem α}{f:α->StateT SortSt Sem β}{Q:β->SortSt->Prop}(h:wpT J M A E m (fun a st'=>wpT J M A E (f a) Q st') st):wpT J M A E (m >>= f) Q st:=fun s hs=>
 z19 (zb5 (h s hs) (fun r s' h'=>h'.2 s' h'.1) fun _ _ e=>e)
theorem QV {m:StateT SortSt Sem α}{Q Q':α->SortSt->Prop}(h:wpT J M A E m Q st)(k:∀a st',Q a st'->Q' a st'):wpT J M A E m Q' st:=fun s hs=>
 zb5 (h s hs) (fun r _ h'=>⟨h'.1,k _ _ h'.2⟩) fun _ _ e=>e
theorem Yo {Q:SortSt->SortSt->Prop}(h:Q st st):wpT J M A E (get:StateT SortSt Sem SortSt) Q st:=fun s hs=>z51 ⟨hs,h⟩
theorem Qnt {st':SortSt}{Q:PUnit->SortSt->Prop}(h:Q ⟨⟩ st'):wpT J M A E (set st':StateT SortSt Sem PUnit) Q st:=fun s hs=>z51 ⟨hs,h⟩
theorem Jr {f:SortSt->SortSt}{Q:PUnit->SortSt->Prop}(h:Q ⟨⟩ (f st)):wpT J M A E (modify f:StateT SortSt Sem PUnit) Q st:=fun s hs=>z51 ⟨hs,h⟩
theorem QaU {x:String}{Q:Unit->SortSt->Prop}(h:Q () st):wpT J M A E (liftM (rule x):StateT SortSt Sem Unit) Q st:=fun s hs=>by
 show wpAny M A (rule x >>= fun a=>pure (a,st)) _ E s
 exact z19 (wpAny_rule (z51 ⟨hs,h⟩))
theorem Qo {c:Prop}[Decidable c]{m u:StateT SortSt Sem α}{Q:α->SortSt->Prop}(h1:c->wpT J M A E m Q st)(h2:¬c->wpT J M A E u Q st):wpT J M A E (if c then m else u) Q st:=by
 by_cases h:c
 ·rw[if_pos h];exact h1 h
 ·rw[if_neg h];exact h2 h
theorem Qho (f:Nat->β->StateT SortSt Sem (ForInStep β))(I:Nat->β->SortSt->Prop)(Q:β->SortSt->Prop)(b0:Nat)
  (step:∀i c st,i<b0->I i c st->wpT J M A E (f i c) (fun r st'=>match r with|.done c'=>Q c' st'|.yield c'=>I (i+1) c' st') st) (fin:∀c st,I b0 c st->Q c st) :
  ∀(n i:Nat) (c:β) (st:SortSt),i+n=b0->I i c st->wpT J M A E (forIn (zt4 i n 1) c f) Q st:=fun n=>by
 induction n with
 |zero=>intro i c st e h;have:i=b0:=e;subst this;rw[List.range'_zero,List.forIn_nil];exact Qe (fin _ _ h)
 |succ n ih=>
  intro i c st e h
  rw[List.range'_succ,List.forIn_cons]
  refine Qd (QV (step i c st (by lia) h) fun r st' h'=>?_)
  cases r with
  |done c'=>exact Qe h'
  |yield c'=>exact ih (i+1) c' st' (by lia) h'
theorem Yd {b0:Nat}{f:Nat->β->StateT SortSt Sem (ForInStep β)}(I:Nat->β->SortSt->Prop){Q:β->SortSt->Prop}
  (step:∀i c st,i<b0->I i c st->wpT J M A E (f i c) (fun r st'=>match r with|.done c'=>Q c' st'|.yield c'=>I (i+1) c' st') st)
  (fin:∀c st,I b0 c st->Q c st) {c:β} (h:I 0 c st):wpT J M A E (forIn [:b0] c f) Q st:=by
 rw[zg9]
 have hsz:([:b0]:zh0).size=b0:=by simp[zl3]
 show wpT J M A E (forIn (zt4 0 ([:b0]:zh0).size 1) c f) Q st
 rw[hsz]
 exact Qho f I Q b0 step fin b0 0 c st (by lia) h
theorem Qel {a b0:Nat}(hab:a<=b0){f:Nat->β->StateT SortSt Sem (ForInStep β)}(I:Nat->β->SortSt->Prop){Q:β->SortSt->Prop}
  (step:∀i c st,a<=i->i<b0->I i c st->wpT J M A E (f i c) (fun r st'=>match r with|.done c'=>Q c' st'|.yield c'=>I (i+1) c' st') st)
  (fin:∀c st,I b0 c st->Q c st) {c:β} (h:I a c st):wpT J M A E (forIn [a:b0] c f) Q st:=by
 rw[zg9]
 have hsz:([a:b0]:zh0).size=b0 - a:=by simp[zl3]
 show wpT J M A E (forIn (zt4 a ([a:b0]:zh0).size 1) c f) Q st
 rw[hsz]
 refine Qho f (fun i c st=>a<=i/\I i c st) Q b0 (fun i c st hi h=>QV (step i c st h.1 hi h.2) fun r st' h'=>?_) (fun c st h=>fin c st h.2) (b0 - a) a c st (by lia) ⟨z27 _,h⟩
 cases r with
 |done c'=>exact h'
 |yield c'=>exact⟨by lia,h'⟩
end
structure Od (U:Keyed->Prop)(L:Keyed->Keyed->Bool):Prop where
 tr:∀x y z,L x y=true->L y z=true->L x z=true
 ir:∀x,L x x=false
 to:∀x y,U x->U y->x≠y->L x y=false->L y x=true
abbrev Sd (L:Keyed->Keyed->Bool)(l:List Keyed):Prop:=l.Pairwise fun x y=>L x y=true
abbrev H (a:Array Keyed)(i:Nat):Keyed:=a.getD i (z38,z38)
theorem Qil {a:Array Keyed}{i:Nat}(h:i<a.size):a[i]? = some (H a i):=by
 rw[H,z33,z75 h];rfl
def Ask (J:Shared->Prop)(M:Model)(A:Around)(E:Value->Shared->Prop)(κ:SortKind)(U:Keyed->Prop)(L:Keyed->Keyed->Bool):Prop:=
 ∀x y st (Q:Option Bool->SortSt->Prop),kindOf st=κ->U x->U y->Q (some (L x y)) st->wpT J M A E (lt' x y) Q st
section
variable {J:Shared->Prop}{M:Model}{A:Around}{E:Value->Shared->Prop}{st:SortSt}{κ:SortKind}{U:Keyed->Prop}{L:Keyed->Keyed->Bool}
theorem Qw {a:Array Keyed}{i:Nat}{Q:Keyed->SortSt->Prop}(h:i<a.size)(q:Q (H a i) st):wpT J M A E (elem' a i) Q st:=by
 rw[elem'_eq,Qil h];exact Qe q
structure Mg (L:Keyed->Keyed->Bool)(T O A1 B1:List Keyed):Prop where
 pm:(O++(A1++B1)).Perm T
 so:Sd L O
 oa:∀x∈O,∀y∈A1,L x y=true
 ob:∀x∈O,∀y∈B1,L x y=true
 sa:Sd L A1
 sb:Sd L B1
variable {T O A1 A2 B1 B2 P:List Keyed}{x:Keyed}
theorem Mg.mvA (m:Mg L T O (P++A2) B1)(h:∀x∈P,∀y∈B1,L x y=true):Mg L T (O++P) A2 B1:=by
 obtain⟨s1,s2,s3⟩:=z35.mp m.sa
 refine⟨?_,z35.mpr ⟨m.so,s1,fun x hx y hy=>m.oa x hx y (z06 _ hy)⟩,fun x hx y hy=>?_,fun x hx y hy=>?_,s2,m.sb⟩
 ·have:=m.pm
  rw[z20] at this ⊢
  exact this
 ·rcases z05.mp hx with hx|hx
  ·exact m.oa x hx y (z02 _ hy)
  ·exact s3 x hx y hy
 ·rcases z05.mp hx with hx|hx
  ·exact m.ob x hx y hy
  ·exact h x hx y hy
theorem Mg.mvB (m:Mg L T O A1 (P++B2))(h:∀x∈P,∀y∈A1,L x y=true):Mg L T (O++P) A1 B2:=by
 obtain⟨s1,s2,s3⟩:=z35.mp m.sb
 refine⟨?_,z35.mpr ⟨m.so,s1,fun x hx y hy=>m.ob x hx y (z06 _ hy)⟩,fun x hx y hy=>?_,fun x hx y hy=>?_,m.sa,s2⟩
 ·refine zi2 ?_ m.pm
  rw[z20]
  refine zc5 O ?_
  rw[← z20,← z20]
  exact List.Perm.append_right _ zc7
 ·rcases z05.mp hx with hx|hx
  ·exact m.oa x hx y hy
  ·exact h x hx y hy
 ·rcases z05.mp hx with hx|hx
  ·exact m.ob x hx y (z02 _ hy)
  ·exact s3 x hx y hy
theorem Mg.QtQ (m:Mg L T O A1 []):(O++A1).Perm T/\Sd L (O++A1):=by
 refine⟨?_,z35.mpr ⟨m.so,m.sa,m.oa⟩⟩
 have:=m.pm
 rw[z53] at this;exact this
theorem Mg.QtR (m:Mg L T O [] B1):(O++B1).Perm T/\Sd L (O++B1):=⟨m.pm,z35.mpr ⟨m.so,m.sb,m.ob⟩⟩
theorem Mg.QtS (m:Mg L T O [x] B1)(h:∀y∈B1,L y x=true):(O++B1++[x]).Perm T/\Sd L (O++B1++[x]):=by
 refine⟨?_,?_⟩
 ·refine zi2 ?_ m.pm
  rw[z20]
  exact zc5 O zc7
 ·rw[z20]
  exact z35.mpr ⟨m.so,z35.mpr ⟨m.sb,z77.mpr ⟨(fun _ z=>nomatch z),.nil⟩,fun y hy z hz=>by rw[z25.mp hz];exact h y hy⟩,fun y hy z hz=>by
   rcases z05.mp hz with hz|hz
   ·exact m.ob y hy z hz
   ·exact m.oa y hy z hz⟩
def bey (L:Keyed->Keyed->Bool)(left:Bool)(key:Keyed)(a:Array Keyed)(b i:Nat):Bool:=if left=true then L (H a (b+i)) key else !(L key (H a (b+i)))
theorem Qhp {n:Nat}{g:Nat->Bool}{f:Nat->Option (Option Nat)×Nat×Nat->StateT SortSt Sem (ForInStep (Option (Option Nat)×Nat×Nat))}(mono:∀i j,i<=j->j<n->g j=true->g i=true)
  (hf:∀x lo hi (R:ForInStep (Option (Option Nat)×Nat×Nat)->SortSt->Prop),lo<hi->hi<=n->R (if g (lo+(hi - lo) / 2)=true then .yield (none,lo+(hi - lo) / 2+1,hi) else .yield (none,lo,lo+(hi - lo) / 2)) st->wpT J M A E (f x (none,lo,hi)) R st)
  (hf2:∀x lo hi (R:ForInStep (Option (Option Nat)×Nat×Nat)->SortSt->Prop),lo ≥ hi->R (.done (none,lo,hi)) st->wpT J M A E (f x (none,lo,hi)) R st)
  {lo hi:Nat} (h1:lo<=hi) (h2:hi<=n) (h3:∀i<lo,g i=true) (h4:∀i,hi<=i->i<n->g i=false) :
  wpT J M A E (forIn [:n] (none,lo,hi) f) (fun c st'=>∃k,c=(none,k,k)/\st'=st/\k<=n/\(∀i<k,g i=true)/\(∀i,k<=i->i<n->g i=false)) st:=by
 refine Yd (I:=fun x c st'=>∃lo hi,c=(none,lo,hi)/\st'=st/\lo<=hi/\hi<=n/\hi - lo<=n - x/\(∀i<lo,g i=true)/\(∀i,hi<=i->i<n->g i=false)) ?_ ?_ ⟨lo,hi,rfl,rfl,h1,h2,by lia,h3,h4⟩
 ·rintro x c st' hx ⟨lo,hi,rfl,rfl,g1,g2,g3,g4,g5⟩
  by_cases c:lo ≥ hi
  ·have:lo=hi:=by lia
   subst this
   exact hf2 x lo lo _ c ⟨lo,rfl,rfl,g2,g4,g5⟩
  ·refine hf x lo hi _ (by lia) g2 ?_
   cases e:g (lo+(hi - lo) / 2) with
   |true=>exact⟨_,hi,rfl,rfl,by lia,g2,by lia,fun i hi'=>mono i _ (by lia) (by lia) e,g5⟩
   |false=>
    refine⟨lo,_,rfl,rfl,by lia,by lia,by lia,g4,fun i i1 i2=>?_⟩
    cases e2:g i with
    |false=>rfl
    |true=>rw[mono _ i i1 i2 e2] at e;cases e
 ·rintro c st' ⟨lo,hi,rfl,rfl,g1,g2,g3,g4,g5⟩
  have:lo=hi:=by lia
  subst this
  exact⟨lo,rfl,rfl,g2,g4,g5⟩
theorem J4 (ask:Ask J M A E κ U L){left:Bool}{key:Keyed}{a:Array Keyed}{b n h:Nat}{Q:Option Nat->SortSt->Prop}(hk:kindOf st=κ)(uk:U key)(ua:∀i<n,U (H a (b+i)))(hn:h<n)(hb:b+n<=a.size)
  (mono:∀i j,i<=j->j<n->bey L left key a b j=true->bey L left key a b i=true)
  (K:∀k,k<=n->(∀i<k,bey L left key a b i=true)->(∀i,k<=i->i<n->bey L left key a b i=false)->Q (some k) st):wpT J M A E (Qns left key a b n h) Q st:=by
 intro s hs
 wp_delta
 wp_delta
 refine Qfv ?_ hs
 have by_:∀{i:Nat} {R:Option Bool->SortSt->Prop},i<n->R (some (bey L left key a b i)) st->wpT J M A E (do
   let x ← elem' a (b+i)
   if left=true then lt' x key else do
    let r ← lt' key x
    pure (Option.map (fun x=>!x) r)) R st:=fun{i R} hi r=>by
  refine Qd (Qw (by lia) ?_)
  unfold bey at r
  cases left with
  |true=>rw[if_pos rfl];exact ask _ _ _ _ hk (ua i hi) uk r
  |false=>rw[if_neg (by decide)];exact Qd (ask _ _ _ _ hk uk (ua i hi) (Qe r))
 refine Qd (by_ hn ?_)
 dsimp only
 cases e0:bey L left key a b h with
 |true=>
  rw[if_pos rfl]
  refine Qd (QV (Yd (I:=fun x c st'=>∃lf f,c=(none,lf,f)/\st'=st/\lf<f/\x+1<=f/\h+lf<n/\bey L left key a b (h+lf)=true)
   (Q:=fun c st'=>∃lf f,c=(none,lf,f)/\st'=st/\lf<f/\h+lf<n/\bey L left key a b (h+lf)=true/\(n - h<=f\/bey L left key a b (h+f)=false)) ?_ ?_ ⟨0,1,rfl,rfl,by lia,by lia,by lia,e0⟩) ?_)
  ·rintro x c st' hx ⟨lf,f,rfl,rfl,g1,g2,g3,g4⟩
   dsimp only
   refine Qo (fun c=>Qe ⟨lf,f,rfl,rfl,g1,g3,g4,.inl c⟩) (fun c=>?_)
   refine Qd (by_ (i:=h+f) (by lia) ?_)
   cases e:bey L left key a b (h+f) with
   |true=>exact Qe ⟨f,_,rfl,rfl,by lia,by lia,by lia,e⟩
   |false=>exact Qe ⟨lf,f,rfl,rfl,g1,g3,g4,.inr e⟩
  ·rintro c st' ⟨lf,f,rfl,rfl,g1,g2,g3,g4⟩
   exact⟨lf,f,rfl,rfl,g1,g3,g4,.inl (by lia)⟩
  ·rintro c st' ⟨lf,f,rfl,rfl,g1,g3,g4,g5⟩
   refine Qd (QV (Qhp (g:=bey L left key a b) mono (fun x lo hi R l1 l2 r=>by
     dsimp only
     rw[if_neg (by lia)]
     refine Qd (by_ (by lia) ?_)
     cases e:bey L left key a b (lo+(hi - lo) / 2) with
     |true=>rw[e,if_pos rfl] at r;exact Qe r
     |false=>rw[e,if_neg (by decide)] at r;exact Qe r) (fun x lo hi R l1 r=>by
     dsimp only
     rw[if_pos l1];exact Qe r) (lo:=h+lf+1) (hi:=h+min f (n - h)) (by lia) (by lia) (fun i hi=>mono i (h+lf) (by lia) g3 g4) (fun i i1 i2=>?_)) fun c st' q=>by
    obtain⟨k,rfl,rfl,g1,g2,g3⟩:=q
    exact Qe (K k g1 g2 g3))
   rcases g5 with g5|g5
   ·lia
   ·cases e2:bey L left key a b i with
    |false=>rfl
    |true=>rw[mono (h+f) i (by lia) i2 e2] at g5;cases g5
 |false=>
  rw[if_neg (by decide)]
  refine Qd (QV (Yd (I:=fun x c st'=>∃lf f,c=(none,lf,f)/\st'=st/\lf<f/\x+1<=f/\lf<=h/\bey L left key a b (h - lf)=false)
   (Q:=fun c st'=>∃lf f,c=(none,lf,f)/\st'=st/\lf<f/\lf<=h/\bey L left key a b (h - lf)=false/\(h+1<=f\/(f<=h/\bey L left key a b (h - f)=true))) ?_ ?_ ⟨0,1,rfl,rfl,by lia,by lia,by lia,e0⟩) ?_)
  ·rintro x c st' hx ⟨lf,f,rfl,rfl,g1,g2,g3,g4⟩
   dsimp only
   refine Qo (fun c=>Qe ⟨lf,f,rfl,rfl,g1,g3,g4,.inl c⟩) (fun c=>?_)
   refine Qd (by_ (i:=h - f) (by lia) ?_)
   cases e:bey L left key a b (h - f) with
   |true=>exact Qe ⟨lf,f,rfl,rfl,g1,g3,g4,.inr ⟨by lia,e⟩⟩
   |false=>exact Qe ⟨f,_,rfl,rfl,by lia,by lia,by lia,e⟩
  ·rintro c st' ⟨lf,f,rfl,rfl,g1,g2,g3,g4⟩
   exact⟨lf,f,rfl,rfl,g1,g3,g4,.inl (by lia)⟩
  ·rintro c st' ⟨lf,f,rfl,rfl,g1,g3,g4,g5⟩
   refine Qd (QV (Qhp (g:=bey L left key a b) mono (fun x lo hi R l1 l2 r=>by
     dsimp only
     rw[if_neg (by lia)]
     refine Qd (by_ (by lia) ?_)
     cases e:bey L left key a b (lo+(hi - lo) / 2) with
     |true=>rw[e,if_pos rfl] at r;exact Qe r
     |false=>rw[e,if_neg (by decide)] at r;exact Qe r) (fun x lo hi R l1 r=>by
     dsimp only
     rw[if_pos l1];exact Qe r) (lo:=h+1 - min f (h+1)) (hi:=h - lf) (by lia) (by lia) (fun i hi=>?_) (fun i i1 i2=>?_)) fun c st' q=>by
    obtain⟨k,rfl,rfl,g1,g2,g3⟩:=q
    exact Qe (K k g1 g2 g3))
   ·rcases g5 with g5|⟨g5,g6⟩
    ·lia
    ·exact mono i (h - f) (by lia) (by lia) g6
   ·cases e2:bey L left key a b i with
    |false=>rfl
    |true=>rw[mono (h - lf) i i1 i2 e2] at g4;cases g4
end
def QsD:Nat->StateT SortSt Sem Unit:=sortPriv% PySem.Builtin.setMinGallop
structure Ev (st st':SortSt):Prop where
 k:kindOf st'=kindOf st
 a:arrOf st'=arrOf st
 p:pendingOf st'=pendingOf st
 f:failedOf st'=failedOf st
theorem Ev.refl (st:SortSt):Ev st st:=⟨rfl,rfl,rfl,rfl⟩
theorem Ev.trans {s t u:SortSt}(h:Ev s t)(k:Ev t u):Ev s u:=⟨k.k.trans h.k,k.a.trans h.a,k.p.trans h.p,k.f.trans h.f⟩
section
variable {J:Shared->Prop}{M:Model}{A:Around}{E:Value->Shared->Prop}{st:SortSt}{κ:SortKind}{U:Keyed->Prop}{L:Keyed->Keyed->Bool}{a b:Array Keyed}
theorem Qcr {g:Nat}{Q:Unit->SortSt->Prop}(h:∀st',Ev st st'->Q () st'):wpT J M A E (QsD g) Q st:=by
 intro s hs
 wp_delta
 wp_delta
 exact z51 ⟨hs,h _ ⟨rfl,rfl,rfl,rfl⟩⟩
theorem Yp {i:Nat}(h:i<a.size):H a i∈a.toList:=by
 have:=Qil h
 rw[← z43] at this
 exact z37 this
theorem Qhq {i:Nat}(h:i<a.size):a.toList.drop i=H a i::a.toList.drop (i+1):=by
 have e:=Qil h
 rw[z75 h] at e
 rw[z97 (by simpa using h),← z22 e];simp
theorem Qmq (s:Sd L a.toList){i j:Nat}(h:i<j)(hj:j<a.size):L (H a i) (H a j)=true:=by
 have e1:=Qil (show i<a.size by lia)
 have e2:=Qil hj
 rw[z75 (by lia)] at e1 e2
 rw[← z22 e1,← z22 e2]
 have:=zb1.mp s i j (by simpa using(show i<a.size by lia)) (by simpa using hj) h
 simpa using this
theorem QaV {i:Nat}{y:Keyed}(hy:y∈a.toList.drop i):∃j,i<=j/\j<a.size/\y=H a j:=by
 obtain⟨k,hk,e⟩:=za6 hy
 rw[zm1] at e
 have hl:i+k<a.size:=by rw[z85] at hk;simp at hk;lia
 refine⟨i+k,by lia,hl,?_⟩
 have e1:=Qil hl
 rw[z75 hl] at e1
 rw[← z22 e1,← e];simp
theorem QbV (o:Od U L)(s:Sd L a.toList){i:Nat}{x:Keyed}(h:L x (H a i)=true):∀y∈a.toList.drop i,L x y=true:=fun y hy=>by
 obtain⟨j,h1,h2,rfl⟩:=QaV hy
 by_cases e:i=j
 ·subst e;exact h
 ·exact o.tr _ _ _ h (Qmq s (by lia) h2)
theorem Qhr {i k:Nat}(h:i+k<=a.size):a.toList.drop i=(a.extract i (i+k)).toList++a.toList.drop (i+k):=by
 rw[z83,z69,← List.drop_drop,za0,z47]
theorem Qem {i:Nat}:(a.extract i).toList=a.toList.drop i:=by
 rw[z83,z69,z84]
 rw[z85];simp
theorem Qjn {i k:Nat}{y:Keyed}(h:i+k<=a.size)(hy:y∈(a.extract i (i+k)).toList):∃j,j<k/\y=H a (i+j):=by
 obtain⟨j,hj,e⟩:=za6 hy
 have hl:j<k:=by simp at hj;lia
 refine⟨j,hl,?_⟩
 have e1:=Qil (show i+j<a.size by lia)
 rw[z75 (by lia)] at e1
 rw[← z22 e1,← e];simp
theorem Qjo (o:Od U L)(s:Sd L a.toList){key:Keyed}{i n:Nat}(hn:i+n<=a.size):∀u v,u<=v->v<n->bey L false key a i v=true->bey L false key a i u=true:=fun u v h1 h2 h=>by
 unfold bey at h ⊢
 rw[if_neg (by decide)] at h ⊢
 by_cases e:u=v
 ·subst e;exact h
 ·cases c:L key (H a (i+u)) with
  |false=>rfl
  |true=>rw[o.tr _ _ _ c (Qmq s (show i+u<i+v by lia) (by lia))] at h;cases h
theorem Qfw (o:Od U L)(s:Sd L a.toList){key:Keyed}{i n:Nat}(hn:i+n<=a.size):∀u v,u<=v->v<n->bey L true key a i v=true->bey L true key a i u=true:=fun u v h1 h2 h=>by
 unfold bey at h ⊢
 rw[if_pos rfl] at h ⊢
 by_cases e:u=v
 ·subst e;exact h
 ·exact o.tr _ _ _ (Qmq s (show i+u<i+v by lia) (by lia)) h
variable {T O:List Keyed}{i j:Nat}
structure Two (U:Keyed->Prop)(L:Keyed->Keyed->Bool)(a b:Array Keyed):Prop where
 sa:Sd L a.toList
 sb:Sd L b.toList
 ua:∀x∈a.toList,U x
 ub:∀x∈b.toList,U x
 ne:∀x∈a.toList,∀y∈b.toList,x≠y
theorem Mg.Qly (o:Od U L)(t:Two U L a b)(m:Mg L T O (a.toList.drop i) (b.toList.drop j))(hj:j<b.size)(h:L (H b j) (H a i)=true):Mg L T (O++[H b j]) (a.toList.drop i) (b.toList.drop (j+1)):=by
 rw[Qhq hj] at m
 exact Mg.mvB (P:=[H b j]) m fun x hx=>by rw[z25.mp hx];exact QbV o t.sa h
theorem Mg.Qjp (o:Od U L)(t:Two U L a b)(m:Mg L T O (a.toList.drop i) (b.toList.drop j))(hi:i<a.size)(h:L (H a i) (H b j)=true):Mg L T (O++[H a i]) (a.toList.drop (i+1)) (b.toList.drop j):=by
 rw[Qhq hi] at m
 exact Mg.mvA (P:=[H a i]) m fun x hx=>by rw[z25.mp hx];exact QbV o t.sb h
theorem Two.flip (o:Od U L)(t:Two U L a b)(hi:i<a.size)(hj:j<b.size)(h:L (H b j) (H a i)=false):L (H a i) (H b j)=true:=
 o.to _ _ (t.ub _ (Yp hj)) (t.ua _ (Yp hi)) (zd4 (t.ne _ (Yp hi) _ (Yp hj))) h
theorem Mg.QuA (o:Od U L)(t:Two U L a b)(m:Mg L T O (a.toList.drop i) (b.toList.drop j))(hj:j<b.size){k:Nat}(hk:i+k<=a.size)(h:∀u<k,bey L false (H b j) a i u=true):Mg L T (O++(a.extract i (i+k)).toList) (a.toList.drop (i+k)) (b.toList.drop j):=by
 rw[Qhr hk] at m
 refine Mg.mvA m fun x hx=>?_
 obtain⟨u,hu,rfl⟩:=Qjn hk hx
 have:=h u hu
 unfold bey at this
 rw[if_neg (by decide)] at this
 exact QbV o t.sb (t.flip o (by lia) hj (by simpa using this))
theorem Mg.QtT (o:Od U L)(t:Two U L a b)(m:Mg L T O (a.toList.drop i) (b.toList.drop j)){k:Nat}(hk:j+k<=b.size)(h:∀u<k,bey L true (H a i) b j u=true):Mg L T (O++(b.extract j (j+k)).toList) (a.toList.drop i) (b.toList.drop (j+k)):=by
 rw[Qhr hk] at m
 refine Mg.mvB m fun x hx=>?_
 obtain⟨u,hu,rfl⟩:=Qjn hk hx
 have:=h u hu
 unfold bey at this
 rw[if_pos rfl] at this
 exact QbV o t.sa this
theorem Mg.len {out:Array Keyed}(m:Mg L (a.toList++b.toList) out.toList (a.toList.drop i) (b.toList.drop j))(hi:i<=a.size)(hj:j<=b.size):out.size+(a.size - i)+(b.size - j)=a.size+b.size:=by
 have:=m.pm.length_eq
 rw[z16,z16,z16,z85,z85] at this
 simp at this
 lia
def Gd (L:Keyed->Keyed->Bool)(a b r:Array Keyed):Prop:=r.toList.Perm (a.toList++b.toList)/\Sd L r.toList
theorem Mg.done {out:Array Keyed}(m:Mg L (a.toList++b.toList) out.toList (a.toList.drop i) (b.toList.drop j))(h:i=a.size\/j=b.size):Gd L a b (out++a.extract i++b.extract j):=by
 unfold Gd
 rw[z57,z57,Qem,Qem]
 rcases h with rfl|rfl
 ·have e:a.toList.drop a.size=[]:=zf0 (by simp)
  rw[e] at m ⊢
  rw[z53];exact m.QtR
 ·have e:b.toList.drop b.size=[]:=zf0 (by simp)
  rw[e] at m ⊢
  rw[z53];exact m.QtQ
theorem Mg.last {out:Array Keyed}(m:Mg L (a.toList++b.toList) out.toList (a.toList.drop i) (b.toList.drop j))(h:i+1=a.size)(hl:∀y∈b.toList,L y (H a (a.size - 1))=true):Gd L a b (out++b.extract j++a.extract i):=by
 unfold Gd
 rw[z57,z57,Qem,Qem]
 have e:a.toList.drop i=[H a i]:=by
  rw[Qhq (by lia),h]
  rw[zf0 (by simp)]
 rw[e] at m ⊢
 refine m.QtS fun y hy=>?_
 have:=hl y (zd2 hy)
 rw[show a.size - 1=i by lia] at this
 exact this
theorem Qmr {α β:Type}{c:Prop}[Decidable c]{B:β->StateT SortSt Sem α}{y:β}{p:β->Prop}{Q:α->SortSt->Prop}(h:∀v,wpT J M A E (B v) Q st):∀x,p x->wpT J M A E (if c then B x else B y) Q st:=fun x _=>Qo (fun _=>h x) (fun _=>h y)
theorem QgE (ask:Ask J M A E κ U L)(o:Od U L){Q:Array Keyed->SortSt->Prop}(hk:kindOf st=κ)(t:Two U L a b)(na:0<a.size)(nb:0<b.size)(hb:L (H b 0) (H a 0)=true)(hl:∀y∈b.toList,L y (H a (a.size - 1))=true)
  (K:∀r st',Ev st st'->Gd L a b r->Q r st'):wpT J M A E (Qlw a b) Q st:=by
 intro s hs
 wp_delta
 wp_delta
 refine Qfv ?_ hs
 refine Qd (QaU ?_)
 refine Qd (Qw nb ?_)
 have m0:Mg L (a.toList++b.toList) [] (a.toList.drop 0) (b.toList.drop 0):=⟨ze6 _,.nil,(fun _ z=>nomatch z),(fun _ z=>nomatch z),t.sa,t.sb⟩
 have m1:Mg L (a.toList++b.toList) (#[H b 0]:Array Keyed).toList (a.toList.drop 0) (b.toList.drop 1):=m0.Qly o t nb hb
 refine Qo (fun c=>Qe (K _ _ (.refl _) (m1.done (.inr (by simpa using c))))) (fun c1=>?_)
 refine Qo (fun c=>Qe (K _ _ (.refl _) (m1.last (by simpa using c) hl))) (fun c2=>?_)
 have c1:¬ 1=b.size:=by simpa using c1
 have c2:¬ 0+1=a.size:=by simpa using c2
 refine Qd (Yo ?_)
 refine Qd (QV (Yd (I:=fun x c st'=>∃out i j g,c=(none,out,i,j,g)/\Ev st st'/\i+1<a.size/\j<b.size/\x+1<=out.size/\Mg L (a.toList++b.toList) out.toList (a.toList.drop i) (b.toList.drop j))
  (Q:=fun c st'=>∃r w,c=(some r,w)/\Ev st st'/\Gd L a b r) ?_ ?_ ⟨_,0,1,_,rfl,.refl _,by lia,by lia,by simp,m1⟩) ?_)
 ·rintro x c st1 hx ⟨Qa7,i,j,g,rfl,ev,hi,hj,hx1,m⟩
  dsimp only
  refine Qd (QV (Yd (I:=fun y c st'=>∃out i j ac bc,c=(none,out,i,j,ac,bc)/\Ev st st'/\i+1<a.size/\j<b.size/\Qa7.size<=out.size/\Mg L (a.toList++b.toList) out.toList (a.toList.drop i) (b.toList.drop j))
   (Q:=fun c st'=>(∃r w,c=(some r,w)/\Ev st st'/\Gd L a b r)\/∃out i j ac bc,c=(none,out,i,j,ac,bc)/\Ev st st'/\i+1<a.size/\j<b.size/\Qa7.size<=out.size/\Mg L (a.toList++b.toList) out.toList (a.toList.drop i) (b.toList.drop j)) ?_ ?_ ⟨_,i,j,0,0,rfl,ev,hi,hj,z27 _,m⟩) ?_)
  ·rintro y c st2 hy ⟨out,i,j,ac,bc,rfl,ev,hi,hj,ho,m⟩
   dsimp only
   refine Qd (Qw hj (Qd (Qw (by lia) (Qd (ask _ _ _ _ (ev.k.trans hk) (t.ub _ (Yp hj)) (t.ua _ (Yp (by lia))) ?_)))))
   cases e:L (H b j) (H a i) with
   |true=>
    dsimp only
    rw[if_pos rfl]
    refine Qd (Qw hj ?_)
    have m2:=m.Qly o t hj e
    rw[← z54] at m2
    refine Qo (fun c=>Qe (.inl ⟨_,_,rfl,ev,m2.done (.inr (by simpa using c))⟩)) (fun c=>?_)
    have c:¬ j+1=b.size:=by simpa using c
    have hs:Qa7.size<=(out.push (H b j)).size:=by rw[z67];lia
    refine Qo (fun _=>Qe (.inr ⟨_,i,j+1,_,_,rfl,ev,hi,by lia,hs,m2⟩)) (fun _=>Qe ⟨_,i,j+1,_,_,rfl,ev,hi,by lia,hs,m2⟩)
   |false=>
    dsimp only
    rw[if_neg (by decide)]
    refine Qd (Qw (by lia) ?_)
    have m2:=m.Qjp o t (by lia) (t.flip o (by lia) hj e)
    rw[← z54] at m2
    refine Qo (fun c=>Qe (.inl ⟨_,_,rfl,ev,m2.last (by simpa using c) hl⟩)) (fun c=>?_)
    have c:¬ i+1+1=a.size:=by simpa using c
    have hs:Qa7.size<=(out.push (H a i)).size:=by rw[z67];lia
    refine Qo (fun _=>Qe (.inr ⟨_,i+1,j,_,_,rfl,ev,by lia,hj,hs,m2⟩)) (fun _=>Qe ⟨_,i+1,j,_,_,rfl,ev,by lia,hj,hs,m2⟩)
  ·rintro c st2 h
   exact .inr h
  rintro c st2 (⟨r,w,rfl,ev,gd⟩|⟨out,i,j,ac,bc,rfl,ev,hi,hj,ho,m⟩)
  ·exact Qe ⟨r,_,rfl,ev,gd⟩
  dsimp only
  refine Qd (QaU ?_)
  refine Qd (QV (Yd (I:=fun y c st'=>∃out i j g ac bc,c=(none,out,i,j,g,ac,bc)/\Ev st st'/\i+1<a.size/\j<b.size/\Qa7.size+y<=out.size/\Mg L (a.toList++b.toList) out.toList (a.toList.drop i) (b.toList.drop j))
   (Q:=fun c st'=>(∃r w,c=(some r,w)/\Ev st st'/\Gd L a b r)\/∃out i j g ac bc,c=(none,out,i,j,g,ac,bc)/\Ev st st'/\i+1<a.size/\j<b.size/\Qa7.size+1<=out.size/\Mg L (a.toList++b.toList) out.toList (a.toList.drop i) (b.toList.drop j)) ?_ ?_ ⟨_,i,j,_,ac,bc,rfl,ev,hi,hj,ho,m⟩) ?_)
  ·rintro y c st3 hy ⟨out,i,j,g,ac,bc,rfl,ev,hi,hj,ho,m⟩
   dsimp only
   generalize hx:g - 1=x1
   revert x1
   refine Qmr fun v=>?_
   all_goals
    refine Qd (Qcr fun st4 ev4=>?_)
    have ev:=ev.trans ev4
    clear ev4
    refine Qd (Qw hj ?_)
    refine Qd (J4 ask (ev.k.trans hk) (t.ub _ (Yp hj)) (fun u hu=>t.ua _ (Yp (by lia))) (by lia) (by lia) (Qjo o t.sa (by lia)) fun k k1 k2 k3=>?_)
    have m2:Mg L (a.toList++b.toList) (out++a.extract i (i+k)).toList (a.toList.drop (i+k)) (b.toList.drop j):=by
     rw[z57 (xs:=out)];exact m.QuA o t hj (k:=k) (by lia) k2
    have hs2:(out++a.extract i (i+k)).size=out.size+k:=by rw[zc8,Array.size_extract];lia
    have hq:i+k<a.size->L (H b j) (H a (i+k))=true:=fun h=>by
     have:=k3 k (z27 _) (by lia)
     unfold bey at this
     rw[if_neg (by decide)] at this
     simpa using this
    refine Qo (fun k0=>Qo (fun c=>Qe (.inl ⟨_,_,rfl,ev,m2.last (by simpa using c) hl⟩)) (fun c=>Qo (fun c=>Qe (.inl ⟨_,_,rfl,ev,m2.done (.inl (by simpa using c))⟩)) (fun c'=>?_))) (fun k0=>?_)
    rotate_left
    ·have k0:k=0:=by lia
     subst k0
     have hc:=hq (show i+0<a.size by lia)
     rw[Nat.add_zero] at hc
     refine Qd (Qw hj ?_)
     have n1:=Mg.Qly o t m hj hc
     rw[← z54] at n1
     have z1:Qa7.size+y+1<=(out.push (H b j)).size:=by rw[z67];have:=ho;lia
     refine Qo (fun c=>Qe (.inl ⟨_,_,rfl,ev,n1.done (.inr (by simpa using c))⟩)) (fun c=>?_)
     have hj1:j+1<b.size:=by
      have c:¬ j+1=b.size:=by simpa using c
      lia
     clear c
     generalize out.push (H b j)=QcN at n1 z1 ⊢
     refine Qd (Qw (by lia) ?_)
     refine Qd (J4 ask (ev.k.trans hk) (t.ua _ (Yp (by lia))) (fun u hu=>t.ub _ (Yp (by lia))) (by lia) (by lia) (Qfw o t.sb (by lia)) fun k' q1 q2 q3=>?_)
     have n2:Mg L (a.toList++b.toList) (QcN++b.extract (j+1) (j+1+k')).toList (a.toList.drop i) (b.toList.drop (j+1+k')):=by
      rw[z57 (xs:=QcN)];exact n1.QtT o t (k:=k') (by lia) q2
     have z2:Qa7.size+y+1<=(QcN++b.extract (j+1) (j+1+k')).size:=by rw[zc8];lia
     have hq2:j+1+k' < b.size->L (H a i) (H b (j+1+k'))=true:=fun h=>by
      have:=q3 k' (z27 _) (by lia)
      unfold bey at this
      rw[if_pos rfl] at this
      exact t.flip o (by lia) h this
     refine Qo (fun k1=>Qo (fun c=>Qe (.inl ⟨_,_,rfl,ev,n2.done (.inr (by simpa using c))⟩)) (fun c=>?_)) (fun k1=>?_)
     ·have hj2:j+1+k' < b.size:=by
       have c:¬ j+1+k'=b.size:=by simpa using c
       lia
      have hc2:=hq2 hj2
      generalize QcN++b.extract (j+1) (j+1+k')=Qnu at n2 z2 ⊢
      generalize j+1+k'=j3 at n2 hj2 hc2 ⊢
      refine Qd (Qw (by lia) ?_)
      have n3:=n2.Qjp o t (by lia) hc2
      rw[← z54] at n3
      refine Qo (fun c=>Qe (.inl ⟨_,_,rfl,ev,n3.last (by simpa using c) hl⟩)) (fun c=>?_)
      have c:¬ i+1+1=a.size:=by simpa using c
      have z3:Qa7.size+y+1<=(Qnu.push (H a i)).size:=by rw[z67];lia
      exact Qo (fun _=>Qe (.inr ⟨_,_,_,_,_,_,rfl,ev,by lia,hj2,by lia,n3⟩)) (fun _=>Qe ⟨_,_,_,_,_,_,rfl,ev,by lia,hj2,by lia,n3⟩)
     ·have k1:k'=0:=by lia
      subst k1
      have hc2:=hq2 hj1
      refine Qd (Qw (by lia) ?_)
      have n3:=n1.Qjp o t (by lia) hc2
      rw[← z54] at n3
      refine Qo (fun c=>Qe (.inl ⟨_,_,rfl,ev,n3.last (by simpa using c) hl⟩)) (fun c=>?_)
      have c:¬ i+1+1=a.size:=by simpa using c
      have z3:Qa7.size+y+1<=(QcN.push (H a i)).size:=by rw[z67];lia
      exact Qo (fun _=>Qe (.inr ⟨_,_,_,_,_,_,rfl,ev,by lia,hj1,by lia,n3⟩)) (fun _=>Qe ⟨_,_,_,_,_,_,rfl,ev,by lia,hj1,by lia,n3⟩)
    ·have hi2:i+k+1<a.size:=by
      have c:¬ i+k+1=a.size:=by simpa using c
      have c':¬ i+k=a.size:=by simpa using c'
      lia
     have hc:=hq (by lia)
     have ho2:Qa7.size+y<=(out++a.extract i (i+k)).size:=by rw[hs2];lia
     clear hs2 hq k2 k3 c c'
     generalize out++a.extract i (i+k)=QpJ at m2 ho2 ⊢
     generalize i+k=i1 at m2 hi2 hc ⊢
     refine Qd (Qw hj ?_)
     have n1:=Mg.Qly o t m2 hj hc
     rw[← z54] at n1
     have z1:Qa7.size+y+1<=(QpJ.push (H b j)).size:=by rw[z67];have:=ho2;lia
     refine Qo (fun c=>Qe (.inl ⟨_,_,rfl,ev,n1.done (.inr (by simpa using c))⟩)) (fun c=>?_)
     have hj1:j+1<b.size:=by
      have c:¬ j+1=b.size:=by simpa using c
      lia
     clear c
     generalize QpJ.push (H b j)=QcN at n1 z1 ⊢
     refine Qd (Qw (by lia) ?_)
     refine Qd (J4 ask (ev.k.trans hk) (t.ua _ (Yp (by lia))) (fun u hu=>t.ub _ (Yp (by lia))) (by lia) (by lia) (Qfw o t.sb (by lia)) fun k' q1 q2 q3=>?_)
     have n2:Mg L (a.toList++b.toList) (QcN++b.extract (j+1) (j+1+k')).toList (a.toList.drop i1) (b.toList.drop (j+1+k')):=by
      rw[z57 (xs:=QcN)];exact n1.QtT o t (k:=k') (by lia) q2
     have z2:Qa7.size+y+1<=(QcN++b.extract (j+1) (j+1+k')).size:=by rw[zc8];lia
     have hq2:j+1+k' < b.size->L (H a i1) (H b (j+1+k'))=true:=fun h=>by
      have:=q3 k' (z27 _) (by lia)
      unfold bey at this
      rw[if_pos rfl] at this
      exact t.flip o (by lia) h this
     refine Qo (fun k1=>Qo (fun c=>Qe (.inl ⟨_,_,rfl,ev,n2.done (.inr (by simpa using c))⟩)) (fun c=>?_)) (fun k1=>?_)
     ·have hj2:j+1+k' < b.size:=by
       have c:¬ j+1+k'=b.size:=by simpa using c
       lia
      have hc2:=hq2 hj2
      generalize QcN++b.extract (j+1) (j+1+k')=Qnu at n2 z2 ⊢
      generalize j+1+k'=j3 at n2 hj2 hc2 ⊢
      refine Qd (Qw (by lia) ?_)
      have n3:=n2.Qjp o t (by lia) hc2
      rw[← z54] at n3
      refine Qo (fun c=>Qe (.inl ⟨_,_,rfl,ev,n3.last (by simpa using c) hl⟩)) (fun c=>?_)
      have c:¬ i1+1+1=a.size:=by simpa using c
      have z3:Qa7.size+y+1<=(Qnu.push (H a i1)).size:=by rw[z67];lia
      exact Qo (fun _=>Qe (.inr ⟨_,_,_,_,_,_,rfl,ev,by lia,hj2,by lia,n3⟩)) (fun _=>Qe ⟨_,_,_,_,_,_,rfl,ev,by lia,hj2,by lia,n3⟩)
     ·have k1:k'=0:=by lia
      subst k1
      have hc2:=hq2 hj1
      refine Qd (Qw (by lia) ?_)
      have n3:=n1.Qjp o t (by lia) hc2
      rw[← z54] at n3
      refine Qo (fun c=>Qe (.inl ⟨_,_,rfl,ev,n3.last (by simpa using c) hl⟩)) (fun c=>?_)
      have c:¬ i1+1+1=a.size:=by simpa using c
      have z3:Qa7.size+y+1<=(QcN.push (H a i1)).size:=by rw[z67];lia
      exact Qo (fun _=>Qe (.inr ⟨_,_,_,_,_,_,rfl,ev,by lia,hj1,by lia,n3⟩)) (fun _=>Qe ⟨_,_,_,_,_,_,rfl,ev,by lia,hj1,by lia,n3⟩)
  ·rintro c st3 ⟨out,i,j,g,ac,bc,rfl,ev,hi,hj,ho,m⟩
   exact .inr ⟨out,i,j,g,ac,bc,rfl,ev,hi,hj,by lia,m⟩
  rintro c st3 (⟨r,w,rfl,ev,gd⟩|⟨out,i,j,g,ac,bc,rfl,ev,hi,hj,ho,m⟩)
  ·exact Qe ⟨r,_,rfl,ev,gd⟩
  dsimp only
  refine Qd (Qcr fun st4 ev4=>?_)
  exact Qe ⟨out,i,j,_,rfl,ev.trans ev4,hi,hj,by lia,m⟩
 ·rintro c st1 ⟨out,i,j,g,rfl,ev,hi,hj,hx,m⟩
  have:=m.len (by lia) (by lia)
  lia
 ·rintro c st1 ⟨r,w,rfl,ev,gd⟩
  exact Qe (K r st1 ev gd)
end
def fl (L:Keyed->Keyed->Bool)(x y:Keyed):Bool:=L y x
section
variable {J:Shared->Prop}{M:Model}{A:Around}{E:Value->Shared->Prop}{st:SortSt}{κ:SortKind}{U:Keyed->Prop}{L:Keyed->Keyed->Bool}{a b:Array Keyed}{T O:List Keyed}{i j:Nat}
abbrev tk (a:Array Keyed)(n:Nat):List Keyed:=(a.toList.take n).reverse
theorem QsE (h:i<a.size):tk a (i+1)=H a i::tk a i:=by
 have e:=Qil h
 rw[z75 h] at e
 unfold tk
 rw[zl8 (by simpa using h),zk5,← z22 e];simp
theorem QdU {y:Keyed}(hi:i<=a.size)(hy:y∈tk a i):∃j,j<i/\y=H a j:=by
 obtain⟨k,hk,e⟩:=za6 (zc4.mp hy)
 rw[zv5] at e
 have hl:k<i:=by rw[z49] at hk;lia
 refine⟨k,hl,?_⟩
 have e1:=Qil (show k<a.size by lia)
 rw[z75 (by lia)] at e1
 rw[← z22 e1,← e];simp
theorem Qlz (o:Od U L)(s:Sd L a.toList)(h1:0<i)(hi:i<=a.size){x:Keyed}(h:L (H a (i - 1)) x=true):∀y∈tk a i,L y x=true:=fun y hy=>by
 obtain⟨j,hj,rfl⟩:=QdU hi hy
 by_cases e:j=i - 1
 ·subst e;exact h
 ·exact o.tr _ _ _ (Qmq s (show j<i - 1 by lia) (by lia)) h
theorem Qms {k:Nat}(h:k<=i)(hi:i<=a.size):tk a i=(a.extract k i).toList.reverse++tk a k:=by
 unfold tk
 rw[← zk5]
 congr 1
 rw[z83,z69]
 have:=z47 k (a.toList.take i)
 rw[zp9,zj8 h,List.drop_take] at this
 exact this.symm
theorem Qhs {k:Nat}{y:Keyed}(hi:i<=a.size)(hy:y∈(a.extract k i).toList):∃j,k<=j/\j<i/\y=H a j:=by
 obtain⟨j,hj,e⟩:=za6 hy
 have hl:k+j<i:=by simp at hj;lia
 refine⟨k+j,by lia,hl,?_⟩
 have e1:=Qil (show k+j<a.size by lia)
 rw[z75 (by lia)] at e1
 rw[← z22 e1,← e];simp
theorem Mg.Qim (o:Od U L)(t:Two U L a b)(m:Mg (fl L) T O (tk a (i+1)) (tk b j))(hi:i<a.size)(j0:0<j)(hj:j<=b.size)(h:L (H b (j - 1)) (H a i)=true):Mg (fl L) T (O++[H a i]) (tk a i) (tk b j):=by
 rw[QsE hi] at m
 exact Mg.mvA (P:=[H a i]) m fun x hx=>by rw[z25.mp hx];exact Qlz o t.sb j0 hj h
theorem Mg.Qnv (o:Od U L)(t:Two U L a b)(m:Mg (fl L) T O (tk a i) (tk b (j+1)))(hj:j<b.size)(i0:0<i)(hi:i<=a.size)(h:L (H a (i - 1)) (H b j)=true):Mg (fl L) T (O++[H b j]) (tk a i) (tk b j):=by
 rw[QsE hj] at m
 exact Mg.mvB (P:=[H b j]) m fun x hx=>by rw[z25.mp hx];exact Qlz o t.sa i0 hi h
theorem Mg.QsF (o:Od U L)(t:Two U L a b)(m:Mg (fl L) T O (tk a i) (tk b j))(j0:0<j)(hj:j<=b.size){k:Nat}(hk:k<=i)(hi:i<=a.size)(h:∀u,k<=u->u<i->bey L false (H b (j - 1)) a 0 u=false):Mg (fl L) T (O++(a.extract k i).toList.reverse) (tk a k) (tk b j):=by
 rw[Qms hk hi] at m
 refine Mg.mvA m fun x hx=>?_
 obtain⟨u,u1,u2,rfl⟩:=Qhs hi (zc4.mp hx)
 have:=h u u1 u2
 unfold bey at this
 rw[if_neg (by decide),z92] at this
 exact Qlz o t.sb j0 hj (by simpa using this)
theorem Mg.QpK (o:Od U L)(t:Two U L a b)(m:Mg (fl L) T O (tk a i) (tk b j))(i0:0<i)(hi:i<=a.size){k:Nat}(hk:k<=j)(hj:j<=b.size)(h:∀u,k<=u->u<j->bey L true (H a (i - 1)) b 0 u=false):Mg (fl L) T (O++(b.extract k j).toList.reverse) (tk a i) (tk b k):=by
 rw[Qms hk hj] at m
 refine Mg.mvB m fun x hx=>?_
 obtain⟨u,u1,u2,rfl⟩:=Qhs hj (zc4.mp hx)
 have:=h u u1 u2
 unfold bey at this
 rw[if_pos rfl,z92] at this
 exact Qlz o t.sa i0 hi (t.flip o (by lia) (by lia) this)
theorem Qjq {l:List Keyed}(h:Sd (fl L) l):Sd L l.reverse:=zr9.mpr h
theorem Qmt {l:List Keyed}(h:Sd L l):Sd (fl L) l.reverse:=zr9.mpr h
theorem Mg.QuB {out:Array Keyed}(m:Mg (fl L) (a.toList++b.toList) out.toList (tk a i) (tk b j))(hi:i<=a.size)(hj:j<=b.size):out.size+i+j=a.size+b.size:=by
 have:=m.pm.length_eq
 rw[z16,z16,z16,za5,za5,z49,z49] at this
 simp at this
 lia
theorem Mg.Qen {out:Array Keyed}(m:Mg (fl L) (a.toList++b.toList) out.toList (tk a i) (tk b j))(h:i=0\/j=0):Gd L a b (a.extract 0 i++b.extract 0 j++out.reverse):=by
 unfold Gd
 have e:(a.extract 0 i++b.extract 0 j++out.reverse).toList=(out.toList++tk b j++tk a i).reverse:=by
  rw[z57,z57,zd1,z83,z83,z69,z69]
  simp[tk]
 rw[e]
 have g:(out.toList++tk b j++tk a i).Perm (a.toList++b.toList)/\Sd (fl L) (out.toList++tk b j++tk a i):=by
  rcases h with rfl|rfl
  ·have z:tk a 0=[]:=by simp[tk]
   rw[z] at m ⊢
   rw[z53];exact m.QtR
  ·have z:tk b 0=[]:=by simp[tk]
   rw[z] at m ⊢
   rw[z53];exact m.QtQ
 exact⟨(zc9 _).trans g.1,Qjq g.2⟩
theorem Mg.QdV {out:Array Keyed}(m:Mg (fl L) (a.toList++b.toList) out.toList (tk a i) (tk b 1))(hb:0<b.size)(hi:i<=a.size)(h0:∀y∈a.toList,L (H b 0) y=true):Gd L a b (b.extract 0 1++a.extract 0 i++out.reverse):=by
 unfold Gd
 have e:(b.extract 0 1++a.extract 0 i++out.reverse).toList=(out.toList++tk a i++tk b 1).reverse:=by
  rw[z57,z57,zd1,z83,z83,z69,z69]
  simp[tk]
 rw[e]
 have z:tk b 1=[H b 0]:=by
  rw[show 1=0+1 from rfl,QsE hb];simp[tk]
 have m':Mg (fl L) (a.toList++b.toList) out.toList [H b 0] (tk a i):=by
  rw[z] at m
  refine⟨?_,m.so,m.ob,m.oa,m.sb,m.sa⟩
  exact zi2 (zc5 _ zc7) m.pm
 have g:=m'.QtS fun y hy=>by
  obtain⟨k,hk,rfl⟩:=QdU hi hy
  exact h0 _ (Yp (by lia))
 rw[z]
 exact⟨(zc9 _).trans g.1,Qjq g.2⟩
theorem QgF (ask:Ask J M A E κ U L)(o:Od U L){Q:Array Keyed->SortSt->Prop}(hk:kindOf st=κ)(t:Two U L a b)(na:0<a.size)(nb:0<b.size)(h0:∀y∈a.toList,L (H b 0) y=true)(hl:L (H b (b.size - 1)) (H a (a.size - 1))=true)
  (K:∀r st',Ev st st'->Gd L a b r->Q r st'):wpT J M A E (Qlx a b) Q st:=by
 intro s hs
 wp_delta
 wp_delta
 refine Qfv ?_ hs
 refine Qd (QaU ?_)
 refine Qd (Qw (by lia) ?_)
 have m0:Mg (fl L) (a.toList++b.toList) [] (tk a (a.size - 1+1)) (tk b b.size):=by
  rw[show a.size - 1+1=a.size by lia]
  have ea:tk a a.size=a.toList.reverse:=by unfold tk;rw[z84 (by simp)]
  have eb:tk b b.size=b.toList.reverse:=by unfold tk;rw[z84 (by simp)]
  rw[ea,eb]
  exact⟨show(a.toList.reverse++b.toList.reverse).Perm (a.toList++b.toList) from List.Perm.append (zc9 _) (zc9 _),.nil,(fun _ z=>nomatch z),(fun _ z=>nomatch z),Qmt t.sa,Qmt t.sb⟩
 have m1:Mg (fl L) (a.toList++b.toList) (#[H a (a.size - 1)]:Array Keyed).toList (tk a (a.size - 1)) (tk b b.size):=m0.Qim o t (by lia) nb (z27 _) hl
 refine Qo (fun c=>Qe (K _ _ (.refl _) (m1.Qen (.inl (by simpa using c))))) (fun c1=>?_)
 refine Qo (fun c=>Qe (K _ _ (.refl _) ?_)) (fun c2=>?_)
 ·have c:b.size=1:=by simpa using c
  rw[c] at m1 ⊢
  exact m1.QdV nb (by lia) h0
 have c1:¬ a.size - 1=0:=by simpa using c1
 have c2:¬ b.size=1:=by simpa using c2
 refine Qd (Yo ?_)
 refine Qd (QV (Yd (I:=fun x c st'=>∃out i j g,c=(none,i,j,out,g)/\Ev st st'/\0<i/\i<=a.size/\1<j/\j<=b.size/\x+1<=out.size/\Mg (fl L) (a.toList++b.toList) out.toList (tk a i) (tk b j))
  (Q:=fun c st'=>∃r w,c=(some r,w)/\Ev st st'/\Gd L a b r) ?_ ?_ ⟨_,a.size - 1,b.size,_,rfl,.refl _,by lia,by lia,by lia,by lia,by simp,m1⟩) ?_)
 ·rintro x c st1 hx ⟨Qa7,i,j,g,rfl,ev,i0,hi,j0,hj,hx1,m⟩
  dsimp only
  refine Qd (QV (Yd (I:=fun y c st'=>∃out i j ac bc,c=(none,i,j,out,ac,bc)/\Ev st st'/\0<i/\i<=a.size/\1<j/\j<=b.size/\Qa7.size<=out.size/\Mg (fl L) (a.toList++b.toList) out.toList (tk a i) (tk b j))
   (Q:=fun c st'=>(∃r w,c=(some r,w)/\Ev st st'/\Gd L a b r)\/∃out i j ac bc,c=(none,i,j,out,ac,bc)/\Ev st st'/\0<i/\i<=a.size/\1<j/\j<=b.size/\Qa7.size<=out.size/\Mg (fl L) (a.toList++b.toList) out.toList (tk a i) (tk b j)) ?_ ?_ ⟨_,i,j,0,0,rfl,ev,i0,hi,j0,hj,z27 _,m⟩) ?_)
  ·rintro y c st2 hy ⟨out,i,j,ac,bc,rfl,ev,i0,hi,j0,hj,ho,m⟩
   dsimp only
   refine Qd (Qw (by lia) (Qd (Qw (by lia) (Qd (ask _ _ _ _ (ev.k.trans hk) (t.ub _ (Yp (by lia))) (t.ua _ (Yp (by lia))) ?_)))))
   cases e:L (H b (j - 1)) (H a (i - 1)) with
   |true=>
    dsimp only
    rw[if_pos rfl]
    refine Qd (Qw (by lia) ?_)
    have m2:=Mg.Qim (i:=i - 1) o t (by rw[show i - 1+1=i by lia];exact m) (by lia) (by lia) hj e
    rw[← z54] at m2
    refine Qo (fun c=>Qe (.inl ⟨_,_,rfl,ev,m2.Qen (.inl (by simpa using c))⟩)) (fun c=>?_)
    have c:¬ i - 1=0:=by simpa using c
    have hs:Qa7.size<=(out.push (H a (i - 1))).size:=by rw[z67];lia
    exact Qo (fun _=>Qe (.inr ⟨_,_,_,_,_,rfl,ev,by lia,by lia,j0,hj,hs,m2⟩)) (fun _=>Qe ⟨_,_,_,_,_,rfl,ev,by lia,by lia,j0,hj,hs,m2⟩)
   |false=>
    dsimp only
    rw[if_neg (by decide)]
    refine Qd (Qw (by lia) ?_)
    have m2:=Mg.Qnv (j:=j - 1) o t (by rw[show j - 1+1=j by lia];exact m) (by lia) i0 hi (t.flip o (by lia) (by lia) e)
    rw[← z54] at m2
    refine Qo (fun c=>Qe (.inl ⟨_,_,rfl,ev,?_⟩)) (fun c=>?_)
    ·have c:j - 1=1:=by simpa using c
     rw[c] at m2 ⊢
     exact m2.QdV nb hi h0
    have c:¬ j - 1=1:=by simpa using c
    have hs:Qa7.size<=(out.push (H b (j - 1))).size:=by rw[z67];lia
    exact Qo (fun _=>Qe (.inr ⟨_,_,_,_,_,rfl,ev,i0,hi,by lia,by lia,hs,m2⟩)) (fun _=>Qe ⟨_,_,_,_,_,rfl,ev,i0,hi,by lia,by lia,hs,m2⟩)
  ·rintro c st2 h
   exact .inr h
  rintro c st2 (⟨r,w,rfl,ev,gd⟩|⟨out,i,j,ac,bc,rfl,ev,i0,hi,j0,hj,ho,m⟩)
  ·exact Qe ⟨r,_,rfl,ev,gd⟩
  refine Qd (QaU ?_)
  refine Qd (QV (Yd (I:=fun y c st'=>∃out i j g ac bc,c=(none,i,j,out,g,ac,bc)/\Ev st st'/\0<i/\i<=a.size/\1<j/\j<=b.size/\Qa7.size+y<=out.size/\Mg (fl L) (a.toList++b.toList) out.toList (tk a i) (tk b j))
   (Q:=fun c st'=>(∃r w,c=(some r,w)/\Ev st st'/\Gd L a b r)\/∃out i j g ac bc,c=(none,i,j,out,g,ac,bc)/\Ev st st'/\0<i/\i<=a.size/\1<j/\j<=b.size/\Qa7.size+1<=out.size/\Mg (fl L) (a.toList++b.toList) out.toList (tk a i) (tk b j)) ?_ ?_ ⟨_,i,j,_,ac,bc,rfl,ev,i0,hi,j0,hj,ho,m⟩) ?_)
  ·rintro y c st3 hy ⟨out,i,j,g,ac,bc,rfl,ev,i0,hi,j0,hj,ho,m⟩
   dsimp only
   generalize hx:g - 1=x1
   revert x1
   refine Qmr fun v=>?_
   all_goals
    refine Qd (Qcr fun st4 ev4=>?_)
    have ev:=ev.trans ev4
    clear ev4
    refine Qd (Qw (by lia) ?_)
    refine Qd (J4 ask (ev.k.trans hk) (t.ub _ (Yp (by lia))) (fun u hu=>t.ua _ (Yp (by lia))) (by lia) (by lia) (Qjo o t.sa (by lia)) fun k k1 k2 k3=>?_)
    have m2:Mg (fl L) (a.toList++b.toList) (out++(a.extract k i).reverse).toList (tk a k) (tk b j):=by
     rw[z57 (xs:=out),zd1];exact m.QsF o t (by lia) hj k1 hi k3
    have hq:0<k->L (H a (k - 1)) (H b (j - 1))=true:=fun h=>by
     have:=k2 (k - 1) (by lia)
     unfold bey at this
     rw[if_neg (by decide),z92] at this
     exact t.flip o (by lia) (by lia) (by simpa using this)
    refine Qo (fun k0=>Qo (fun c=>Qe (.inl ⟨_,_,rfl,ev,m2.Qen (.inl (by simpa using c))⟩)) (fun c=>?_)) (fun k0=>?_)
    rotate_left
    ·have k0:k=i:=by lia
     subst k0
     have hc:=hq i0
     refine Qd (Qw (by lia) ?_)
     have n1:=Mg.Qnv (j:=j - 1) o t (by rw[show j - 1+1=j by lia];exact m) (by lia) i0 hi hc
     rw[← z54] at n1
     have z1:Qa7.size+y+1<=(out.push (H b (j - 1))).size:=by rw[z67];have:=ho;lia
     refine Qo (fun c=>Qe (.inl ⟨_,_,rfl,ev,?_⟩)) (fun c=>?_)
     ·have c:j - 1=1:=by simpa using c
      rw[c] at n1 ⊢
      exact n1.QdV nb hi h0
     have hj1:1<j - 1:=by
      have c:¬ j - 1=1:=by simpa using c
      lia
     clear c
     generalize out.push (H b (j - 1))=QcN at n1 z1 ⊢
     have hjb:j - 1<=b.size:=by lia
     generalize j - 1=j2 at n1 hj1 hjb ⊢
     refine Qd (Qw (by lia) ?_)
     refine Qd (J4 ask (ev.k.trans hk) (t.ua _ (Yp (by lia))) (fun u hu=>t.ub _ (Yp (by lia))) (by lia) (by lia) (Qfw o t.sb (by lia)) fun k' q1 q2 q3=>?_)
     have n2:Mg (fl L) (a.toList++b.toList) (QcN++(b.extract k' j2).reverse).toList (tk a k) (tk b k'):=by
      rw[z57 (xs:=QcN),zd1];exact n1.QpK o t i0 hi q1 hjb q3
     have z2:Qa7.size+y+1<=(QcN++(b.extract k' j2).reverse).size:=by rw[zc8];lia
     have hq2:0<k'->L (H b (k' - 1)) (H a (k - 1))=true:=fun h=>by
      have:=q2 (k' - 1) (by lia)
      unfold bey at this
      rw[if_pos rfl,z92] at this
      exact this
     refine Qo (fun k1=>Qo (fun c=>Qe (.inl ⟨_,_,rfl,ev,?_⟩)) (fun c=>Qo (fun c'=>Qe (.inl ⟨_,_,rfl,ev,n2.Qen (.inr (by simpa using c'))⟩)) (fun c'=>?_))) (fun k1=>?_)
     ·have c:k'=1:=by simpa using c
      subst c
      exact n2.QdV nb hi h0
     ·have hj3:1<k':=by
       have c:¬ k'=1:=by simpa using c
       have c':¬ k'=0:=by simpa using c'
       lia
      have hc2:=hq2 (by lia)
      generalize QcN++(b.extract k' j2).reverse=Qnu at n2 z2 ⊢
      have n3:=Mg.Qim (i:=k - 1) o t (by rw[show k - 1+1=k by lia];exact n2) (by lia) (by lia) (by lia) hc2
      rw[← z54] at n3
      refine Qd (Qw (by lia) ?_)
      refine Qo (fun c=>Qe (.inl ⟨_,_,rfl,ev,n3.Qen (.inl (by simpa using c))⟩)) (fun c=>?_)
      have c:¬ k - 1=0:=by simpa using c
      have z3:Qa7.size+y+1<=(Qnu.push (H a (k - 1))).size:=by rw[z67];lia
      exact Qo (fun _=>Qe (.inr ⟨_,_,_,_,_,_,rfl,ev,by lia,by lia,hj3,by lia,by lia,n3⟩)) (fun _=>Qe ⟨_,_,_,_,_,_,rfl,ev,by lia,by lia,hj3,by lia,by lia,n3⟩)
     ·have k1:k'=j2:=by lia
      subst k1
      have hc2:=hq2 (by lia)
      have n3:=Mg.Qim (i:=k - 1) o t (by rw[show k - 1+1=k by lia];exact n1) (by lia) (by lia) (by lia) hc2
      rw[← z54] at n3
      refine Qd (Qw (by lia) ?_)
      refine Qo (fun c=>Qe (.inl ⟨_,_,rfl,ev,n3.Qen (.inl (by simpa using c))⟩)) (fun c=>?_)
      have c:¬ k - 1=0:=by simpa using c
      have z3:Qa7.size+y+1<=(QcN.push (H a (k - 1))).size:=by rw[z67];lia
      exact Qo (fun _=>Qe (.inr ⟨_,_,_,_,_,_,rfl,ev,by lia,by lia,hj1,by lia,by lia,n3⟩)) (fun _=>Qe ⟨_,_,_,_,_,_,rfl,ev,by lia,by lia,hj1,by lia,by lia,n3⟩)
    ·have i2:0<k:=by
      have c:¬ k=0:=by simpa using c
      lia
     have hc:=hq i2
     have his:k<=a.size:=by lia
     have ho2:Qa7.size+y<=(out++(a.extract k i).reverse).size:=by rw[zc8];lia
     generalize out++(a.extract k i).reverse=QpJ at m2 ho2 ⊢
     refine Qd (Qw (by lia) ?_)
     have n1:=Mg.Qnv (j:=j - 1) o t (by rw[show j - 1+1=j by lia];exact m2) (by lia) i2 his hc
     rw[← z54] at n1
     have z1:Qa7.size+y+1<=(QpJ.push (H b (j - 1))).size:=by rw[z67];have:=ho2;lia
     refine Qo (fun c=>Qe (.inl ⟨_,_,rfl,ev,?_⟩)) (fun c=>?_)
     ·have c:j - 1=1:=by simpa using c
      rw[c] at n1 ⊢
      exact n1.QdV nb his h0
     have hj1:1<j - 1:=by
      have c:¬ j - 1=1:=by simpa using c
      lia
     clear c
     generalize QpJ.push (H b (j - 1))=QcN at n1 z1 ⊢
     have hjb:j - 1<=b.size:=by lia
     generalize j - 1=j2 at n1 hj1 hjb ⊢
     refine Qd (Qw (by lia) ?_)
     refine Qd (J4 ask (ev.k.trans hk) (t.ua _ (Yp (by lia))) (fun u hu=>t.ub _ (Yp (by lia))) (by lia) (by lia) (Qfw o t.sb (by lia)) fun k' q1 q2 q3=>?_)
     have n2:Mg (fl L) (a.toList++b.toList) (QcN++(b.extract k' j2).reverse).toList (tk a k) (tk b k'):=by
      rw[z57 (xs:=QcN),zd1];exact n1.QpK o t i2 his q1 hjb q3
     have z2:Qa7.size+y+1<=(QcN++(b.extract k' j2).reverse).size:=by rw[zc8];lia
     have hq2:0<k'->L (H b (k' - 1)) (H a (k - 1))=true:=fun h=>by
      have:=q2 (k' - 1) (by lia)
      unfold bey at this
      rw[if_pos rfl,z92] at this
      exact this
     refine Qo (fun k1=>Qo (fun c=>Qe (.inl ⟨_,_,rfl,ev,?_⟩)) (fun c=>Qo (fun c'=>Qe (.inl ⟨_,_,rfl,ev,n2.Qen (.inr (by simpa using c'))⟩)) (fun c'=>?_))) (fun k1=>?_)
     ·have c:k'=1:=by simpa using c
      subst c
      exact n2.QdV nb his h0
     ·have hj3:1<k':=by
       have c:¬ k'=1:=by simpa using c
       have c':¬ k'=0:=by simpa using c'
       lia
      have hc2:=hq2 (by lia)
      generalize QcN++(b.extract k' j2).reverse=Qnu at n2 z2 ⊢
      have n3:=Mg.Qim (i:=k - 1) o t (by rw[show k - 1+1=k by lia];exact n2) (by lia) (by lia) (by lia) hc2
      rw[← z54] at n3
      refine Qd (Qw (by lia) ?_)
      refine Qo (fun c=>Qe (.inl ⟨_,_,rfl,ev,n3.Qen (.inl (by simpa using c))⟩)) (fun c=>?_)
      have c:¬ k - 1=0:=by simpa using c
      have z3:Qa7.size+y+1<=(Qnu.push (H a (k - 1))).size:=by rw[z67];lia
      exact Qo (fun _=>Qe (.inr ⟨_,_,_,_,_,_,rfl,ev,by lia,by lia,hj3,by lia,by lia,n3⟩)) (fun _=>Qe ⟨_,_,_,_,_,_,rfl,ev,by lia,by lia,hj3,by lia,by lia,n3⟩)
     ·have k1:k'=j2:=by lia
      subst k1
      have hc2:=hq2 (by lia)
      have n3:=Mg.Qim (i:=k - 1) o t (by rw[show k - 1+1=k by lia];exact n1) (by lia) (by lia) (by lia) hc2
      rw[← z54] at n3
      refine Qd (Qw (by lia) ?_)
      refine Qo (fun c=>Qe (.inl ⟨_,_,rfl,ev,n3.Qen (.inl (by simpa using c))⟩)) (fun c=>?_)
      have c:¬ k - 1=0:=by simpa using c
      have z3:Qa7.size+y+1<=(QcN.push (H a (k - 1))).size:=by rw[z67];lia
      exact Qo (fun _=>Qe (.inr ⟨_,_,_,_,_,_,rfl,ev,by lia,by lia,hj1,by lia,by lia,n3⟩)) (fun _=>Qe ⟨_,_,_,_,_,_,rfl,ev,by lia,by lia,hj1,by lia,by lia,n3⟩)
  ·rintro c st3 ⟨out,i,j,g,ac,bc,rfl,ev,i0,hi,j0,hj,ho,m⟩
   exact .inr ⟨out,i,j,g,ac,bc,rfl,ev,i0,hi,j0,hj,by lia,m⟩
  rintro c st3 (⟨r,w,rfl,ev,gd⟩|⟨out,i,j,g,ac,bc,rfl,ev,i0,hi,j0,hj,ho,m⟩)
  ·exact Qe ⟨r,_,rfl,ev,gd⟩
  refine Qd (Qcr fun st4 ev4=>?_)
  exact Qe ⟨out,i,j,_,rfl,ev.trans ev4,i0,hi,j0,hj,by lia,m⟩
 ·rintro c st1 ⟨out,i,j,g,rfl,ev,i0,hi,j0,hj,hx,m⟩
  have:=m.QuB hi hj
  lia
 ·rintro c st1 ⟨r,w,rfl,ev,gd⟩
  exact Qe (K r st1 ev gd)
end
section
variable {J:Shared->Prop}{M:Model}{A:Around}{E:Value->Shared->Prop}{st:SortSt}{κ:SortKind}{U:Keyed->Prop}{L:Keyed->Keyed->Bool}{a:Array Keyed}{pre X Y post:List Keyed}{i:Nat}
theorem QsG {l:List Keyed}{n:Nat}(e:a.toList=pre++l):H a (pre.length+n)=H l.toArray n:=by
 rw[H,H,z33,z33,← z43,e,z46 (by lia),za0,z48]
theorem QpL {X Y:List Keyed}{n:Nat}(h:n<X.length):H (X++Y).toArray n=H X.toArray n:=by
 rw[H,H,z33,z33,z48,z48,z61 h]
theorem Qb9 {left:Bool}{key:Keyed}{b u:Nat}{x:Array Keyed}(h:H a (b+u)=H x u):bey L left key a b u=bey L left key x 0 u:=by
 unfold bey;rw[h,z92]
theorem Qht:∀(l q p t:List Keyed) (a:Array Keyed) (c n:Nat),a.toList=p++(q++t)->q.length=l.length->p.length=c+n->
  ((l.zipIdx n).foldl (fun a x=>match x with|(y,j)=>a.setIfInBounds (c+j) y) a).toList=p++(l++t)
 | [],[],p,t,a,c,n,e,_,_=>e
 | [],_::_,_,_,_,_,_,_,h,_=>nomatch h
 |_::_,[],_,_,_,_,_,_,h,_=>nomatch h
 |y::l,z::q,p,t,a,c,n,e,h,hp=>by
  rw[List.zipIdx_cons,ze3]
  have e2:(a.setIfInBounds (c+n) y).toList=(p++[y])++(q++t):=by
   rw[zo8,e,zr8 _ _ (by lia),hp,zj7]
   simp
  rw[Qht l q (p++[y]) t _ c (n+1) e2 (by simpa using h) (by rw[z16,hp];rfl)]
  simp
theorem QgG (ask:Ask J M A E κ U L)(o:Od U L){pw pw2:Nat}{Q:Bool->SortSt->Prop}(hk:kindOf st=κ)(hf:failedOf st=none)(ea:(arrOf st).toList=pre++(X++(Y++post)))
  (hp1:(pendingOf st)[i]? = some (pre.length,X.length,pw)) (hp2:(pendingOf st)[i+1]? = some (pre.length+X.length,Y.length,pw2)) (sX:Sd L X) (sY:Sd L Y) (nX:0<X.length) (nY:0<Y.length) (uX:∀x∈X,U x) (uY:∀x∈Y,U x) (ne:∀x∈X,∀y∈Y,x≠y)
  (K:∀st' Z,kindOf st'=κ->failedOf st'=none->(arrOf st').toList=pre++(Z++post)->Z.Perm (X++Y)->Sd L Z->pendingOf st'=((pendingOf st).setIfInBounds i (pre.length,X.length+Y.length,pw)).eraseIdxIfInBounds (i+1)->Q true st'):wpT J M A E (mergeAt' i) Q st:=by
 intro s hs
 wp_delta
 wp_delta
 refine Qfv ?_ hs
 refine Qd (Yo ?_)
 rw[show(pendingOf st)[i]? = _ from hp1,show(pendingOf st)[i+1]? = _ from hp2]
 refine Qd (Qnt ?_)
 have sz:(arrOf st).size=pre.length+(X.length+(Y.length+post.length)):=by
  have:=congrArg zd7 ea
  simpa using this
 have hX:∀u,u<X.length->H (arrOf st) (pre.length+u)=H X.toArray u:=fun u hu=>by rw[QsG ea,QpL hu]
 have hY:∀u,u<Y.length->H (arrOf st) (pre.length+X.length+u)=H Y.toArray u:=fun u hu=>by
  have e2:(arrOf st).toList=(pre++X)++(Y++post):=by rw[ea,z20]
  have:=QsG (n:=u) e2
  rw[z16] at this
  rw[this,QpL hu]
 have hy0:H (arrOf st) (pre.length+X.length)=H Y.toArray 0:=hY 0 nY
 have tXY:Two U L X.toArray Y.toArray:=⟨sX,sY,uX,uY,ne⟩
 have nXs:X.toArray.size=X.length:=by simp
 have nYs:Y.toArray.size=Y.length:=by simp
 refine Qd (Qw (a:=arrOf st) (by lia) ?_)
 rw[hy0]
 refine Qd (J4 (a:=arrOf st) ask hk (uY _ (Yp (a:=Y.toArray) (by lia))) (fun u hu=>by rw[hX u hu];exact uX _ (Yp (a:=X.toArray) (by lia))) nX (by lia)
  (fun u v h1 h2 h3=>by rw[Qb9 (hX v h2)] at h3;rw[Qb9 (hX u (by lia))];exact Qjo o (a:=X.toArray) (n:=X.length) sX (by lia) u v h1 h2 h3) fun k k1 k2 k3=>?_)
 have g1:∀u,u<k->L (H X.toArray u) (H Y.toArray 0)=true:=fun u hu=>by
  have:=k2 u hu
  rw[Qb9 (hX u (by lia))] at this
  unfold bey at this
  rw[if_neg (by decide),z92] at this
  exact tXY.flip o (by lia) (by lia) (by simpa using this)
 have g2:∀u,k<=u->u<X.length->L (H Y.toArray 0) (H X.toArray u)=true:=fun u h1 h2=>by
  have:=k3 u h1 h2
  rw[Qb9 (hX u h2)] at this
  unfold bey at this
  rw[if_neg (by decide),z92] at this
  simpa using this
 have pX:∀x∈X.take k,∀y∈Y,L x y=true:=fun x hx y hy=>by
  obtain⟨u,hu,rfl⟩:=QdU (a:=X.toArray) (i:=k) (by lia) (zc4.mpr hx)
  exact QbV o (a:=Y.toArray) (i:=0) sY (g1 u hu) y hy
 refine Qo (fun c=>Qe (K _ (X++Y) hk hf (by rw[z20];exact ea) (ze6 _) (z35.mpr ⟨sX,sY,?_⟩) rfl)) (fun c=>?_)
 ·have c:X.length - k=0:=by simpa using c
  rw[z84 (by lia)] at pX
  exact pX
 have kx:k<X.length:=by
  have c:¬ X.length - k=0:=by simpa using c
  lia
 clear c
 have hxl:H (arrOf st) (pre.length+k+(X.length - k) - 1)=H X.toArray (X.length - 1):=by
  rw[show pre.length+k+(X.length - k) - 1=pre.length+(X.length - 1) by lia];exact hX _ (by lia)
 refine Qd (Qw (a:=arrOf st) (by lia) ?_)
 rw[hxl]
 refine Qd (J4 (a:=arrOf st) ask hk (uX _ (Yp (a:=X.toArray) (by lia))) (fun u hu=>by rw[hY u hu];exact uY _ (Yp (a:=Y.toArray) (by lia))) (by lia) (by lia)
  (fun u v h1 h2 h3=>by rw[Qb9 (hY v h2)] at h3;rw[Qb9 (hY u (by lia))];exact Qfw o (a:=Y.toArray) (n:=Y.length) sY (by lia) u v h1 h2 h3) fun m m1 m2 m3=>?_)
 have f1:∀u,u<m->L (H Y.toArray u) (H X.toArray (X.length - 1))=true:=fun u hu=>by
  have:=m2 u hu
  rw[Qb9 (hY u (by lia))] at this
  unfold bey at this
  rw[if_pos rfl,z92] at this
  exact this
 have f2:∀u,m<=u->u<Y.length->L (H X.toArray (X.length - 1)) (H Y.toArray u)=true:=fun u h1 h2=>by
  have:=m3 u h1 h2
  rw[Qb9 (hY u h2)] at this
  unfold bey at this
  rw[if_pos rfl,z92] at this
  exact tXY.flip o (by lia) (by lia) this
 have m0:0<m:=by
  rcases Nat.eq_zero_or_pos m with e|e
  ·subst e
   have a1:=f2 0 (z27 _) nY
   have a2:=g2 (X.length - 1) (by lia) (by lia)
   have:=o.tr _ _ _ a1 a2
   rw[o.ir] at this;cases this
  ·exact e
 refine Qo (fun c=>absurd (show m=0 by simpa using c) (by lia)) (fun c=>?_)
 clear c
 have ex:((arrOf st).extract (pre.length+k) (pre.length+X.length)).toList=X.drop k:=by
  rw[z83,z69,ea,List.drop_append,zf0 (by lia),zo5,show pre.length+k - pre.length=k by lia,List.drop_append_of_le_length (by lia),show pre.length+X.length - (pre.length+k)=(X.drop k).length by rw[z85];lia,List.take_left]
 have ey:((arrOf st).extract (pre.length+X.length) (pre.length+X.length+m)).toList=Y.take m:=by
  have e2:(arrOf st).toList=(pre++X)++(Y++post):=by rw[ea,z20]
  rw[z83,z69,e2,show pre.length+X.length=(pre++X).length by rw[z16],List.drop_left,za0,zn3 m1]
 generalize (arrOf st).extract (pre.length+k) (pre.length+X.length)=x at ex ⊢
 generalize (arrOf st).extract (pre.length+X.length) (pre.length+X.length+m)=y at ey ⊢
 have xs:x.size=X.length - k:=by rw[← z78,ex,z85]
 have ys:y.size=m:=by rw[← z78,ey,z49];lia
 have hx:∀u,u<x.size->H x u=H X.toArray (k+u):=fun u hu=>by
  rw[H,H,z33,z33,← z43,ex,List.getElem?_drop,z48]
 have hy:∀u,u<y.size->H y u=H Y.toArray u:=fun u hu=>by
  rw[H,H,z33,z33,← z43,ey,zb8 (by lia),z48]
 have txy:Two U L x y:=⟨by rw[ex];exact sX.sublist (zm2 _ _),by rw[ey];exact sY.sublist (zh8 _ _),fun v hv=>uX v (zd2 (ex▸hv)),fun v hv=>uY v (z90 (ey▸hv)),fun v hv w hw=>ne v (zd2 (ex▸hv)) w (z90 (ey▸hw))⟩
 have b0:L (H y 0) (H x 0)=true:=by rw[hy 0 (by lia),hx 0 (by lia)];exact g2 _ (by lia) (by lia)
 have lx:H x (x.size - 1)=H X.toArray (X.length - 1):=by rw[hx _ (by lia)];congr 1;lia
 have bl:∀w∈y.toList,L w (H x (x.size - 1))=true:=fun w hw=>by
  obtain⟨u,hu,rfl⟩:=QdU (a:=y) (i:=y.size) (z27 _) (zc4.mpr (by rw[z84 (by simp)];exact hw))
  rw[lx,hy u hu];exact f1 u (by lia)
 have fin:∀(r:Array Keyed) (st':SortSt),Ev (setPending st (((pendingOf st).setIfInBounds i (pre.length,X.length+Y.length,pw)).eraseIdxIfInBounds (i+1))) st'->Gd L x y r->
   Q true (setArr st' (List.foldl (fun a x=>match x with|(p,j)=>a.setIfInBounds (pre.length+k+j) p) (arrOf st') r.toList.zipIdx)):=fun r st' ev gd=>by
  have pm:r.toList.Perm (X.drop k++Y.take m):=by have:=gd.1;rw[ex,ey] at this;exact this
  have pY:∀v∈r.toList,∀w∈Y.drop m,L v w=true:=fun v hv w hw=>by
   obtain⟨j,j1,j2,rfl⟩:=QaV (a:=Y.toArray) hw
   rcases z05.mp (pm.mem_iff.mp hv) with z|z
   ·obtain⟨u,u1,u2,rfl⟩:=QaV (a:=X.toArray) z
    have q:=f2 j j1 (by lia)
    by_cases e:u=X.length - 1
    ·subst e;exact q
    ·exact o.tr _ _ _ (Qmq (a:=X.toArray) sX (show u<X.length - 1 by lia) (by lia)) q
   ·obtain⟨u,hu,rfl⟩:=QdU (a:=Y.toArray) (i:=m) (by lia) (zc4.mpr z)
    exact Qmq (a:=Y.toArray) sY (by lia) j2
  have pT:∀v∈X.take k,∀w∈r.toList,L v w=true:=fun v hv w hw=>by
   rcases z05.mp (pm.mem_iff.mp hw) with z|z
   ·exact(z35.mp (show Sd L (X.take k++X.drop k) by rw[z47];exact sX)).2.2 v hv w z
   ·exact pX v hv w (z90 z)
  have e0:(arrOf st').toList=(pre++X.take k)++((X.drop k++Y.take m)++(Y.drop m++post)):=by
   rw[ev.a]
   show(arrOf st).toList=_
   rw[ea]
   simp only[z20]
   rw[← z20 (X.take k),z47,← z20 (Y.take m),z47]
  have e1:=Qht r.toList (X.drop k++Y.take m) (pre++X.take k) (Y.drop m++post) (arrOf st') (pre.length+k) 0 e0 pm.length_eq.symm (by rw[z16,z49];lia)
  refine K _ (X.take k++(r.toList++Y.drop m)) (ev.k.trans hk) (ev.f.trans hf) ?_ ?_ ?_ ev.p
  ·refine Eq.trans e1 ?_
   simp only[z20]
  ·have q:(r.toList++Y.drop m).Perm (X.drop k++Y):=by
    refine(pm.append_right _).trans ?_
    rw[z20,z47]
   refine(q.append_left _).trans ?_
   rw[← z20,z47]
  ·refine z35.mpr ⟨sX.sublist (zh8 _ _),z35.mpr ⟨gd.2,sY.sublist (zm2 _ _),pY⟩,fun v hv w hw=>?_⟩
   rcases z05.mp hw with z|z
   ·exact pT v hv w z
   ·exact pX v hv w (zd2 z)
 refine Qo (fun _=>?_) (fun _=>?_)
 ·refine Qd (QgE ask o hk txy (by lia) (by lia) b0 bl fun r st' ev gd=>?_)
  have ff:failedOf st'=none:=ev.f.trans hf
  refine Qd (Jr (Qd (Yo (Qe ?_))))
  show Q (failedOf st').isNone _
  rw[ff]
  exact fin r st' ev gd
 ·refine Qd (QgF ask o hk txy (by lia) (by lia) (fun v hv=>QbV o (a:=x) (i:=0) txy.sa b0 v hv) (bl _ (Yp (by lia))) fun r st' ev gd=>?_)
  have ff:failedOf st'=none:=ev.f.trans hf
  refine Qd (Jr (Qd (Yo (Qe ?_))))
  show Q (failedOf st').isNone _
  rw[ff]
  exact fin r st' ev gd
end
section
variable {J:Shared->Prop}{M:Model}{A:Around}{E:Value->Shared->Prop}{st:SortSt}{κ:SortKind}{U:Keyed->Prop}{L:Keyed->Keyed->Bool}{a:Array Keyed}{pre S:List Keyed}{i n:Nat}
theorem QlA (ask:Ask J M A E κ U L){i j:Nat}{Q:Option Bool->SortSt->Prop}(hk:kindOf st=κ)(hi:i<(arrOf st).size)(hj:j<(arrOf st).size)(ui:U (H (arrOf st) i))(uj:U (H (arrOf st) j))(q:Q (some (L (H (arrOf st) i) (H (arrOf st) j))) st):wpT J M A E (ltAt' i j) Q st:=by
 rw[ltAt'_eq]
 exact Qd (Yo (Qd (Qw hi (Qd (Qw hj (ask _ _ _ _ hk ui uj q))))))
structure Rst (κ:SortKind)(U:Keyed->Prop)(pre S:List Keyed)(st:SortSt):Prop where
 k:kindOf st=κ
 f:failedOf st=none
 e:(arrOf st).toList=pre++S
 u:∀x∈S,U x
 nd:S.Nodup
theorem Rst.sz (r:Rst κ U pre S st):(arrOf st).size=pre.length+S.length:=by
 have:=congrArg zd7 r.e
 simpa using this
theorem Rst.H (r:Rst κ U pre S st):Srt.H (arrOf st) (pre.length+i)=Srt.H S.toArray i:=QsG r.e
theorem Rst.uH (r:Rst κ U pre S st)(h:i<S.length):U (Srt.H S.toArray i):=r.u _ (Yp (a:=S.toArray) (by simpa using h))
theorem Rst.ne (r:Rst κ U pre S st){j:Nat}(hi:i<S.length)(hj:j<S.length)(h:i≠j):Srt.H S.toArray i≠Srt.H S.toArray j:=fun z=>by
 have e1:=Qil (a:=S.toArray) (show i<S.toArray.size by simpa using hi)
 have e2:=Qil (a:=S.toArray) (show j<S.toArray.size by simpa using hj)
 rw[z48,z04 hi] at e1
 rw[z48,z04 hj] at e2
 rw[← z22 e1,← z22 e2] at z
 exact h ((zg1 r.nd).mp z)
theorem Rst.ask (r:Rst κ U pre S st)(ask:Ask J M A E κ U L){u v:Nat}{Q:Option Bool->SortSt->Prop}(hu:u<S.length)(hv:v<S.length)(q:Q (some (L (Srt.H S.toArray u) (Srt.H S.toArray v))) st):wpT J M A E (ltAt' (pre.length+u) (pre.length+v)) Q st:=by
 refine QlA ask r.k (by rw[r.sz];lia) (by rw[r.sz];lia) (by rw[r.H];exact r.uH hu) (by rw[r.H];exact r.uH hv) ?_
 rw[r.H,r.H];exact q
theorem Qeo (h:n<S.length):S.take (n+1)=S.take n++[H S.toArray n]:=by
 have e:=Qil (a:=S.toArray) (show n<S.toArray.size by simpa using h)
 rw[z48,z04 h] at e
 rw[zl8 h,z22 e]
theorem Qin {y:Keyed}(hn:n<=S.length)(hy:y∈S.take n):∃j,j<n/\y=H S.toArray j:=QdU (a:=S.toArray) (by simpa using hn) (zc4.mpr hy)
theorem QgH (o:Od U L){L':Keyed->Keyed->Bool}(tr:∀x y z,L' x y=true->L' y z=true->L' x z=true)(h0:0<n)(h:n<S.length)(s:Sd L' (S.take n))(c:L' (H S.toArray (n - 1)) (H S.toArray n)=true):Sd L' (S.take (n+1)):=by
 rw[Qeo h]
 refine z35.mpr ⟨s,z77.mpr ⟨(fun _ z=>nomatch z),.nil⟩,fun x hx y hy=>?_⟩
 rw[z25.mp hy]
 rw[show n=(n - 1)+1 by lia,Qeo (by lia)] at hx s
 rcases z05.mp hx with hx|hx
 ·have:=(z35.mp s).2.2 x hx _ (z25.mpr rfl)
  exact tr _ _ _ this c
 ·rw[z25.mp hx];exact c
theorem Qhu (r:Rst κ U pre S st)(o:Od U L)(h0:0<n)(h:n<S.length)(c:L (Srt.H S.toArray n) (Srt.H S.toArray (n - 1))=false):L (Srt.H S.toArray (n - 1)) (Srt.H S.toArray n)=true:=
 o.to _ _ (r.uH h) (r.uH (by lia)) (r.ne h (by lia) (by lia)) c
theorem QgI {X Y:List Keyed}(e:a.toList=pre++(X++Y)):(mirror a pre.length (pre.length+X.length) ((pre.length+X.length - pre.length) / 2)).toList=pre++(X.reverse++Y):=by
 have sz:a.size=pre.length+(X.length+Y.length):=by
  have:=congrArg zd7 e
  simpa using this
 refine zh9 fun k=>?_
 have g1:∀u,(pre++(X++Y))[u]? = if u<pre.length then pre[u]? else if u<pre.length+X.length then X[u - pre.length]? else Y[u - pre.length - X.length]?:=fun u=>by
  by_cases c:u<pre.length
  ·rw[if_pos c,z61 c]
  ·rw[if_neg c,z46 (by lia)]
   by_cases c2:u<pre.length+X.length
   ·rw[if_pos c2,z61 (by lia)]
   ·rw[if_neg c2,z46 (by lia)]
 have g2:(pre++(X.reverse++Y))[k]? = if k<pre.length then pre[k]? else if k<pre.length+X.length then X.reverse[k - pre.length]? else Y[k - pre.length - X.length]?:=by
  by_cases c:k<pre.length
  ·rw[if_pos c,z61 c]
  ·rw[if_neg c,z46 (by lia)]
   by_cases c2:k<pre.length+X.length
   ·rw[if_pos c2,z61 (by rw[za5];lia)]
   ·rw[if_neg c2,z46 (by rw[za5];lia),za5]
 rw[z43,getElem?_mirror_all (by lia),← z43,← z43,e,g1,g1,g2]
 by_cases c:pre.length<=k/\k<pre.length+X.length
 ·rw[if_pos c,if_neg (by lia),if_pos (by lia),if_neg (by lia),if_pos c.2,List.getElem?_reverse (by lia)]
  congr 1;lia
 ·rw[if_neg c]
  by_cases c1:k<pre.length
  ·rw[if_pos c1,if_pos c1]
  ·rw[if_neg c1,if_neg c1,if_neg (by lia),if_neg (by lia)]
theorem Qjr (ask:Ask J M A E κ U L)(o:Od U L)(r:Rst κ U pre S st)(h0:0<S.length){Q:Option Nat->SortSt->Prop}
  (K:∀n st' S',Rst κ U pre S' st'->pendingOf st'=pendingOf st->S'.Perm S->0<n->n<=S'.length->Sd L (S'.take n)->Q (some n) st'):wpT J M A E (countRun' pre.length S.length) Q st:=by
 rw[countRun'_eq]
 have asc:∀{st:SortSt} {S:List Keyed} (r:Rst κ U pre S st) (n0:Nat),0<n0->n0<=S.length->Sd L (S.take n0)->∀{f:Nat->Option (Option Nat)×Nat->StateT SortSt Sem (ForInStep (Option (Option Nat)×Nat))},
   (∀i n (R:ForInStep (Option (Option Nat)×Nat)->SortSt->Prop),0<n->n<S.length->(L (H S.toArray n) (H S.toArray (n - 1))=true->R (.done (none,n)) st)->(L (H S.toArray n) (H S.toArray (n - 1))=false->R (.yield (none,n+1)) st)->wpT J M A E (f i (none,n)) R st)->
   wpT J M A E (forIn [n0:S.length] (none,n0) f) (fun c st'=>∃n,c=(none,n)/\st=st'/\n0<=n/\n<=S.length/\Sd L (S.take n)/\(n<S.length->L (H S.toArray n) (H S.toArray (n - 1))=true)) st:=fun{st S} r n0 n1 n2 s f hf=>by
  refine Qel n2 (I:=fun i c st'=>c=(none,i)/\st=st'/\n0<=i/\Sd L (S.take i)) ?_ ?_ ⟨rfl,rfl,z27 _,s⟩
  ·rintro i c st' i1 i2 ⟨rfl,rfl,i3,s⟩
   refine hf i i _ (by lia) i2 (fun c=>⟨i,rfl,rfl,i3,by lia,s,fun _=>c⟩) (fun c=>⟨rfl,rfl,by lia,QgH o o.tr (by lia) i2 s (Qhu r o (by lia) i2 c)⟩)
  ·rintro c st' ⟨rfl,rfl,i3,s⟩
   exact⟨S.length,rfl,rfl,i3,z27 _,s,fun h=>absurd h (zc3 _)⟩
 have s1:Sd L (S.take 1):=by
  rw[Qeo (n:=0) h0,zh3]
  exact z77.mpr ⟨(fun _ z=>nomatch z),.nil⟩
 refine Qd (QV (asc r 1 (by lia) h0 s1 fun i n R n1 n2 h3 h4=>?_) ?_)
 ·dsimp only
  rw[show pre.length+n - 1=pre.length+(n - 1) by lia]
  refine Qd (r.ask ask n2 (by lia) ?_)
  cases c:L (H S.toArray n) (H S.toArray (n - 1)) with
  |true=>exact Qe (h3 c)
  |false=>exact Qe (h4 c)
 rintro c st' ⟨n,rfl,rfl,n1,n2,s,hc⟩
 refine Qo (fun c=>Qe (K n _ S r rfl (ze6 _) (by lia) n2 s)) (fun c=>?_)
 have c:¬ n=S.length:=by simpa using c
 refine Qo (fun c1=>?_) (fun c1=>?_)
 ·rw[show pre.length+n - 1=pre.length+(n - 1) by lia]
  have q:L (H S.toArray 0) (H S.toArray (n - 1))=true:=by
   have:=Qmq (a:=(S.take n).toArray) s (show 0<n - 1 by lia) (by simp;lia)
   have h1:∀u,u<n->H (S.take n).toArray u=H S.toArray u:=fun u hu=>by
    rw[H,H,z33,z33,z48,z48,zb8 hu]
   rw[h1 0 (by lia),h1 (n - 1) (by lia)] at this
   exact this
  refine Qd (r.ask ask (u:=0) (v:=n - 1) (by lia) (by lia) ?_)
  rw[q]
  dsimp only
  rw[if_pos rfl]
  exact Qe (K n _ S r rfl (ze6 _) (by lia) n2 s)
 have e1:n=1:=by lia
 subst e1
 have d1:=hc (by lia)
 refine Qd (QaU ?_)
 have sd1:Sd (fl L) (S.take 1):=by
  rw[Qeo (n:=0) h0,zh3]
  exact z77.mpr ⟨(fun _ z=>nomatch z),.nil⟩
 have trf:∀x y z,fl L x y=true->fl L y z=true->fl L x z=true:=fun x y z h1 h2=>o.tr z y x h2 h1
 have sd2:Sd (fl L) (S.take 2):=QgH o trf (n:=1) (by lia) (by lia) sd1 d1
 refine Qd (QV (Qel (a:=1+1) (by lia) (I:=fun i c st'=>c=(none,i,0)/\st=st'/\2<=i/\Sd (fl L) (S.take i)) (Q:=fun c st'=>∃n,c=(none,n,0)/\st=st'/\2<=n/\n<=S.length/\Sd (fl L) (S.take n)) ?_ ?_ ⟨rfl,rfl,z27 _,sd2⟩) ?_)
 ·rintro i c st' i1 i2 ⟨rfl,rfl,i3,s⟩
  dsimp only
  rw[show pre.length+i - 1=pre.length+(i - 1) by lia]
  refine Qd (r.ask ask i2 (by lia) ?_)
  cases c:L (H S.toArray i) (H S.toArray (i - 1)) with
  |true=>
   dsimp only
   rw[if_pos rfl,if_neg (by lia)]
   exact Qe ⟨rfl,rfl,by lia,QgH o trf (by lia) i2 s c⟩
  |false=>
   dsimp only
   rw[if_neg (by decide)]
   refine Qd (r.ask ask (by lia) i2 ?_)
   rw[Qhu r o (by lia) i2 c]
   dsimp only
   rw[if_pos rfl]
   exact Qe ⟨i,rfl,rfl,i3,by lia,s⟩
 ·rintro c st' ⟨rfl,rfl,i3,s⟩
  exact⟨S.length,rfl,rfl,i3,z27 _,s⟩
 rintro c st' ⟨n,rfl,rfl,n1,n2,s⟩
 dsimp only
 rw[if_neg (by lia)]
 rw[reverseSlice'_eq]
 refine Qd (Jr ?_)
 have r2:Rst κ U pre ((S.take n).reverse++S.drop n) (setArr st (mirror (arrOf st) pre.length (pre.length+n) ((pre.length+n - pre.length) / 2))):=by
  have pm:((S.take n).reverse++S.drop n).Perm S:=by
   have:=(zc9 (S.take n)).append_right (S.drop n)
   rw[z47] at this
   exact this
  refine⟨r.k,r.f,?_,fun x hx=>r.u x (pm.mem_iff.mp hx),pm.nodup_iff.mpr r.nd⟩
  have ln:(S.take n).length=n:=by rw[z49];lia
  have:=QgI (a:=arrOf st) (pre:=pre) (X:=S.take n) (Y:=S.drop n) (by rw[z47];exact r.e)
  rw[ln] at this
  exact this
 have pm:((S.take n).reverse++S.drop n).Perm S:=by
  have:=(zc9 (S.take n)).append_right (S.drop n)
  rw[z47] at this
  exact this
 have sl:((S.take n).reverse++S.drop n).length=S.length:=pm.length_eq
 have st1:Sd L (((S.take n).reverse++S.drop n).take n):=by
  rw[zn3 (by rw[za5,z49];lia),z84 (by rw[za5,z49];lia)]
  exact Qjq s
 generalize hS2:(S.take n).reverse++S.drop n=S2 at r2 pm sl st1
 have hp:pendingOf (setArr st (mirror (arrOf st) pre.length (pre.length+n) ((pre.length+n - pre.length) / 2)))=pendingOf st:=rfl
 generalize setArr st (mirror (arrOf st) pre.length (pre.length+n) ((pre.length+n - pre.length) / 2))=st2 at r2 hp ⊢
 rw[← sl]
 refine Qd (QV (asc r2 n (by lia) (by lia) st1 fun i m R m1 m2 h3 h4=>?_) ?_)
 ·dsimp only
  rw[show pre.length+m - 1=pre.length+(m - 1) by lia]
  refine Qd (r2.ask ask m2 (by lia) ?_)
  cases c:L (H S2.toArray m) (H S2.toArray (m - 1)) with
  |true=>exact Qe (h3 c)
  |false=>exact Qe (h4 c)
 rintro c st3 ⟨m,rfl,rfl,m1,m2,s3,_⟩
 exact Qe (K m _ S2 r2 hp pm (by lia) m2 s3)
end
section
variable {J:Shared->Prop}{M:Model}{A:Around}{E:Value->Shared->Prop}{st:SortSt}{κ:SortKind}{U:Keyed->Prop}{L:Keyed->Keyed->Bool}{a:Array Keyed}{pre S:List Keyed}{i n:Nat}
theorem QgJ {P R t:List Keyed}{x:Keyed}(e:a.toList=P++(R++(x::t))):(bubble a (P.length+R.length) R.length).toList=P++(x::(R++t)):=by
 have sz:a.size=P.length+(R.length+(t.length+1)):=by
  have:=congrArg zd7 e
  simpa using this
 refine zh9 fun k=>?_
 have g1:∀u,(P++(R++(x::t)))[u]? = if u<P.length then P[u]? else if u<P.length+R.length then R[u - P.length]? else(x::t)[u - P.length - R.length]?:=fun u=>by
  by_cases c:u<P.length
  ·rw[if_pos c,z61 c]
  ·rw[if_neg c,z46 (by lia)]
   by_cases c2:u<P.length+R.length
   ·rw[if_pos c2,z61 (by lia)]
   ·rw[if_neg c2,z46 (by lia)]
 have g2:(P++(x::(R++t)))[k]? = if k<P.length then P[k]? else if k=P.length then some x else if k<=P.length+R.length then R[k - P.length - 1]? else t[k - P.length - 1 - R.length]?:=by
  by_cases c:k<P.length
  ·rw[if_pos c,z61 c]
  ·rw[if_neg c,z46 (by lia)]
   by_cases c1:k=P.length
   ·rw[if_pos c1,c1,zj7];rfl
   ·rw[if_neg c1,show k - P.length=(k - P.length - 1)+1 by lia,zi5,zv2]
    by_cases c2:k<=P.length+R.length
    ·rw[if_pos c2,z61 (by lia)]
    ·rw[if_neg c2,z46 (by lia)]
 rw[z43,getElem?_bubble (by lia) _ (by lia),← z43,← z43,← z43,e,g1,g1,g1,g2,zv2]
 by_cases c1:k=P.length
 ·rw[if_pos c1,if_neg (by lia),if_neg (by lia),if_neg (by lia),if_pos c1,za0,zj7];rfl
 ·rw[if_neg c1]
  by_cases c2:P.length<k/\k<=P.length+R.length
  ·rw[if_pos c2,if_neg (by lia),if_pos (by lia),if_neg (by lia),if_neg c1,if_pos c2.2]
   congr 1;lia
  ·rw[if_neg c2]
   by_cases c3:k<P.length
   ·rw[if_pos c3,if_pos c3]
   ·rw[if_neg c3,if_neg (by lia),if_neg c3,if_neg c1,if_neg (by lia),show k - P.length - R.length=(k - P.length - 1 - R.length)+1 by lia,zi5]
theorem Qnw (ask:Ask J M A E κ U L)(o:Od U L)(r:Rst κ U pre S st){ok:Nat}(h1:0<ok)(h2:ok<=n)(h3:n<=S.length)(s:Sd L (S.take ok)){Q:Bool->SortSt->Prop}
  (K:∀st' S',Rst κ U pre S' st'->pendingOf st'=pendingOf st->S'.Perm S->Sd L (S'.take n)->Q true st'):wpT J M A E (binarySort' pre.length n ok) Q st:=by
 rw[binarySort'_eq,show max ok 1=ok by lia]
 refine Qd (QV (Qel h2 (I:=fun k c st'=>c=(none,())/\∃S',Rst κ U pre S' st'/\pendingOf st'=pendingOf st/\S'.Perm S/\Sd L (S'.take k)) (Q:=fun c st'=>c=(none,())/\∃S',Rst κ U pre S' st'/\pendingOf st'=pendingOf st/\S'.Perm S/\Sd L (S'.take n)) ?_ (fun _ _ h=>h) ⟨rfl,S,r,rfl,ze6 _,s⟩) ?_)
 ·rintro k c st1 k1 k2 ⟨rfl,S1,r1,hp,pm,s⟩
  have sl:=pm.length_eq
  refine Qd (QV (Yd (I:=fun y c st'=>∃l q,c=(none,l,q)/\st1=st'/\l<=q/\q<=k/\q - l<=k - y/\(∀u,u<l->L (H S1.toArray u) (H S1.toArray k)=true)/\(∀u,q<=u->u<k->L (H S1.toArray k) (H S1.toArray u)=true))
   (Q:=fun c st'=>∃l q,c=(none,l,q)/\st1=st'/\l<=k/\(∀u,u<l->L (H S1.toArray u) (H S1.toArray k)=true)/\(∀u,l<=u->u<k->L (H S1.toArray k) (H S1.toArray u)=true)) ?_ ?_ ⟨0,k,rfl,rfl,by lia,by lia,by lia,(fun u h=>absurd h (Nat.not_lt_zero _)),fun u a b=>absurd b (by lia)⟩) ?_)
  ·rintro y c st2 hy ⟨l,q,rfl,rfl,g1,g2,g3,g4,g5⟩
   dsimp only
   refine Qo (fun c=>Qe ⟨l,q,rfl,rfl,by lia,g4,fun u a b=>g5 u (by lia) b⟩) (fun c=>?_)
   have hm:(l+q) / 2<q/\l<=(l+q) / 2:=by lia
   have srt:∀u v,u<v->v<k->L (H S1.toArray u) (H S1.toArray v)=true:=fun u v a b=>by
    have:=Qmq (a:=(S1.take k).toArray) s a (by simp;lia)
    have h1:∀u,u<k->H (S1.take k).toArray u=H S1.toArray u:=fun u hu=>by
     rw[H,H,z33,z33,z48,z48,zb8 hu]
    rw[h1 u (by lia),h1 v b] at this
    exact this
   refine Qd (r1.ask ask (u:=k) (v:=(l+q) / 2) (by lia) (by lia) ?_)
   cases e:L (H S1.toArray k) (H S1.toArray ((l+q) / 2)) with
   |true=>
    refine Qe ⟨l,_,rfl,rfl,by lia,by lia,by lia,g4,fun u a b=>?_⟩
    by_cases z:u=(l+q) / 2
    ·subst z;exact e
    ·exact o.tr _ _ _ e (srt _ u (by lia) b)
   |false=>
    have e2:=o.to _ _ (r1.uH (by lia)) (r1.uH (by lia)) (r1.ne (i:=k) (j:=(l+q) / 2) (by lia) (by lia) (by lia)) e
    refine Qe ⟨_,q,rfl,rfl,by lia,g2,by lia,fun u a=>?_,g5⟩
    by_cases z:u=(l+q) / 2
    ·subst z;exact e2
    ·exact o.tr _ _ _ (srt u _ (show u<(l+q) / 2 by lia) (by lia)) e2
  ·rintro c st2 ⟨l,q,rfl,rfl,g1,g2,g3,g4,g5⟩
   exact⟨l,q,rfl,rfl,by lia,g4,fun u a b=>g5 u (by lia) b⟩
  rintro c st2 ⟨l,q,rfl,rfl,l1,g4,g5⟩
  dsimp only
  rw[moveDown'_eq]
  refine Qd (Jr (Qe ⟨rfl,?_⟩))
  have hk:k<S1.length:=by lia
  have eS:S1=S1.take l++((S1.take k).drop l++(H S1.toArray k::S1.drop (k+1))):=by
   have a1:S1.take k=S1.take l++(S1.take k).drop l:=by
    have:=z47 l (S1.take k)
    rw[zp9,zj8 l1] at this
    exact this.symm
   have a2:=Qhq (a:=S1.toArray) (i:=k) (by simpa using hk)
   have a2:S1.drop k=H S1.toArray k::S1.drop (k+1):=a2
   rw[← a2,← z20,← a1,z47]
  have lP:(S1.take l).length=l:=by rw[z49];lia
  have lR:((S1.take k).drop l).length=k - l:=by rw[z85,z49];lia
  have mP:∀y∈S1.take l,∃u,u<l/\y=H S1.toArray u:=fun y hy=>Qin (by lia) hy
  have mR:∀y∈(S1.take k).drop l,∃u,l<=u/\u<k/\y=H S1.toArray u:=fun y hy=>by
   obtain⟨u,u1,u2,e⟩:=QaV (a:=(S1.take k).toArray) hy
   have u2:u<k:=by simp at u2;lia
   refine⟨u,u1,u2,?_⟩
   rw[e,H,H,z33,z33,z48,z48,zb8 u2]
  have sPR:Sd L (S1.take l++(S1.take k).drop l):=by
   have:=z47 l (S1.take k)
   rw[zp9,zj8 l1] at this
   rw[this];exact s
  have eA:=r1.e
  generalize S1.take l=P at eS lP mP sPR
  generalize (S1.take k).drop l=R at eS lR mR sPR
  generalize hx:H S1.toArray k=x at eS g4 g5
  generalize S1.drop (k+1)=t at eS
  have pm2:(P++(x::(R++t))).Perm S1:=by
   rw[eS]
   refine zc5 P ?_
   exact(List.perm_middle (l₁:=R)).symm
  refine⟨P++(x::(R++t)),⟨r1.k,r1.f,?_,fun y hy=>r1.u y (pm2.mem_iff.mp hy),pm2.nodup_iff.mpr r1.nd⟩,hp,pm2.trans pm,?_⟩
  ·rw[eS] at eA
   have eB:(arrOf st1).toList=(pre++P)++(R++(x::t)):=by rw[eA,z20]
   have:=QgJ eB
   rw[z16,lP,lR] at this
   show(bubble (arrOf st1) (pre.length+k) (pre.length+k - (pre.length+l))).toList=_
   rw[show pre.length+k - (pre.length+l)=k - l by lia]
   rw[show pre.length+l+(k - l)=pre.length+k by lia] at this
   rw[this,z20]
  ·have ek:(P++(x::(R++t))).take (k+1)=P++(x::R):=by
    have:(P++(x::(R++t)))=(P++(x::R))++t:=by rw[z20];rfl
    rw[this,List.take_left' (by rw[z16,z24,lP,lR];lia)]
   rw[ek]
   obtain⟨s1,s2,s3⟩:=z35.mp sPR
   refine z35.mpr ⟨s1,z77.mpr ⟨fun y hy=>?_,s2⟩,fun y hy w hw=>?_⟩
   ·obtain⟨u,u1,u2,rfl⟩:=mR y hy
    exact g5 u u1 u2
   ·rcases z13.mp hw with rfl|hw
    ·obtain⟨u,hu,rfl⟩:=mP y hy
     exact g4 u hu
    ·exact s3 y hy w hw
 ·rintro c st1 ⟨rfl,S1,r1,hp,pm,s⟩
  exact Qe (K st1 S1 r1 hp pm s)
end
def layR:Nat->List (List Keyed)->List (Nat×Nat)
 |_,[]=>[]
 |n,r::rs=>(n,r.length)::layR (n+r.length) rs
abbrev p2 (t:Nat×Nat×Nat):Nat×Nat:=(t.1,t.2.1)
theorem Qcs:∀(n:Nat) (a b:List (List Keyed)),layR n (a++b)=layR n a++layR (n+a.flatten.length) b
 |n,[],b=>by simp[layR]
 |n,r::a,b=>by
  show(n,r.length)::layR (n+r.length) (a++b)=(n,r.length)::(layR (n+r.length) a++_)
  rw[Qcs (n+r.length) a b,zd0,z16,Nat.add_assoc]
theorem Qep:∀(n:Nat) (a:List (List Keyed)),(layR n a).length=a.length
 |_,[]=>rfl
 |n,r::a=>by show(layR _ a).length+1=_;rw[Qep];rfl
section
variable {J:Shared->Prop}{M:Model}{A:Around}{E:Value->Shared->Prop}{st:SortSt}{κ:SortKind}{U:Keyed->Prop}{L:Keyed->Keyed->Bool}{T rest:List Keyed}{rs r1 r2:List (List Keyed)}{X Y:List Keyed}{i n:Nat}
structure Rn (κ:SortKind)(L:Keyed->Keyed->Bool)(T:List Keyed)(rs:List (List Keyed))(rest:List Keyed)(st:SortSt):Prop where
 k:kindOf st=κ
 f:failedOf st=none
 e:(arrOf st).toList=rs.flatten++rest
 pm:(arrOf st).toList.Perm T
 p:(pendingOf st).toList.map p2=layR 0 rs
 s:∀r∈rs,Sd L r/\0<r.length
theorem Rn.psz (r:Rn κ L T rs rest st):(pendingOf st).size=rs.length:=by
 have:=congrArg zd7 r.p
 rw[z00,Qep] at this
 simpa using this
theorem Rn.merge (ask:Ask J M A E κ U L)(o:Od U L)(uT:∀x∈T,U x)(nT:T.Nodup)(r:Rn κ L T (r1++X::Y::r2) rest st)(hi:r1.length=i){Q:Bool->SortSt->Prop}
  (K:∀st' Z,Rn κ L T (r1++Z::r2) rest st'->Z.length=X.length+Y.length->Q true st'):wpT J M A E (mergeAt' i) Q st:=by
 have ea:(arrOf st).toList=r1.flatten++(X++(Y++(r2.flatten++rest))):=by
  rw[r.e];simp only[zc0,zd0,z20]
 have hp:=r.p
 rw[Qcs,z92] at hp
 have hp':(pendingOf st).toList.map p2=layR 0 r1++((r1.flatten.length,X.length)::(r1.flatten.length+X.length,Y.length)::layR (r1.flatten.length+X.length+Y.length) r2):=hp
 obtain⟨P1,Pr,eP,q1,q2⟩:=List.map_eq_append_iff.mp hp'
 obtain⟨x,Pr,rfl,q3,q4⟩:=zt1.mp q2
 obtain⟨y,P2,rfl,q5,q6⟩:=zt1.mp q4
 obtain⟨x1,x2,x3⟩:=x
 obtain⟨y1,y2,y3⟩:=y
 obtain⟨rfl,rfl⟩:=zj6 q3
 obtain⟨rfl,rfl⟩:=zj6 q5
 have l1:P1.length=i:=by
  have:=congrArg zd7 q1
  rw[z00,Qep] at this
  rw[this,hi]
 have g1:(pendingOf st)[i]? = some (r1.flatten.length,X.length,x3):=by
  rw[← z43,eP,← l1,z46 (z27 _),zj7];rfl
 have g2:(pendingOf st)[i+1]? = some (r1.flatten.length+X.length,Y.length,y3):=by
  rw[← z43,eP,← l1,z46 (by lia),za0];rfl
 have hX:=r.s X (z02 _ z07)
 have hY:=r.s Y (z02 _ (z08 _ z07))
 have mem:∀v,v∈X++Y->v∈T:=fun v hv=>r.pm.mem_iff.mp (by
  rw[ea]
  rcases z05.mp hv with z|z
  ·exact z02 _ (z06 _ z)
  ·exact z02 _ (z02 _ (z06 _ z)))
 have nd:(r1.flatten++(X++(Y++(r2.flatten++rest)))).Nodup:=by rw[← ea];exact r.pm.nodup_iff.mpr nT
 have ne:∀v∈X,∀w∈Y,v≠w:=fun v hv w hw e=>by
  have n2:=(z09.mp nd).2.1
  exact(z09.mp n2).2.2 v hv w (z06 _ hw) e
 refine QgG ask o r.k r.f ea g1 g2 hX.1 hY.1 hX.2 hY.2 (fun v hv=>uT v (mem v (z06 _ hv))) (fun v hv=>uT v (mem v (z02 _ hv))) ne fun st' Z z1 z2 z3 z4 z5 z6=>?_
 have lZ:Z.length=X.length+Y.length:=by rw[z4.length_eq,z16]
 refine K st' Z ⟨z1,z2,?_,?_,?_,fun v hv=>?_⟩ lZ
 ·rw[z3];simp only[zc0,zd0,z20]
 ·rw[z3]
  refine zi2 ?_ r.pm
  rw[ea]
  refine zc5 _ ?_
  rw[← z20 X]
  exact z4.append_right _
 ·have e6:(pendingOf st').toList=P1++((r1.flatten.length,X.length+Y.length,x3)::P2):=by
   rw[z6,Array.toList_eraseIdxIfInBounds,zo8,eP,← l1,zr8 _ _ (z27 _),zj7,List.eraseIdx_append_of_length_le (by lia),za0]
   rfl
  rw[e6,z68,q1,z31,q6,Qcs,z92]
  show layR 0 r1++((r1.flatten.length,X.length+Y.length)::_)=layR 0 r1++((r1.flatten.length,Z.length)::layR (r1.flatten.length+Z.length) r2)
  rw[lZ,Nat.add_assoc]
 ·rcases z05.mp hv with z|z
  ·exact r.s v (z06 _ z)
  ·rcases z13.mp z with rfl|z
   ·exact⟨z5,by rw[lZ];have:=hX.2;lia⟩
   ·exact r.s v (z02 _ (z08 _ (z08 _ z)))
theorem QcO (h:i+1<rs.length):∃r1 X Y r2,rs=r1++X::Y::r2/\r1.length=i:=by
 refine⟨rs.take i,rs[i],rs[i+1],rs.drop (i+1+1),?_,by rw[z49];lia⟩
 rw[← z97,← z97,z47]
theorem Qnx (h:∀r∈rs,Sd L r/\0<r.length):rs.length<=rs.flatten.length:=by
 induction rs with
 |nil=>exact z27 _
 |cons r rs ih=>
  rw[zd0,z16,z24]
  have:=ih fun x hx=>h x (z08 _ hx)
  have:=(h r z07).2
  lia
theorem Qmu {a:Array (Nat×Nat×Nat)}{i:Nat}{f:Nat×Nat×Nat->Nat×Nat×Nat}(h:∀t,p2 (f t)=p2 t):(a.modify i f).toList.map p2=a.toList.map p2:=by
 refine zh9 fun k=>?_
 rw[z18,z18,z43,z43,Array.getElem?_modify]
 split
 ·rw[Option.map_map]
  congr 1
  funext t
  exact h t
 ·rfl
theorem QlB (ask:Ask J M A E κ U L)(o:Od U L)(uT:∀x∈T,U x)(nT:T.Nodup)(hk:kindOf st=κ)(hf:failedOf st=none)(hp:pendingOf st = #[])(ea:(arrOf st).toList=T)(h1:0<T.length){Q:Unit->SortSt->Prop}
  (K:∀st',failedOf st'=none->(arrOf st').toList.Perm T->Sd L (arrOf st').toList->Q () st'):wpT J M A E sortRuns' Q st:=by
 rw[sortRuns'_eq]
 refine Qd (Yo ?_)
 have sz:(arrOf st).size=T.length:=by rw[← ea];simp
 dsimp only
 rw[sz]
 generalize minRun' T.length T.length 0=mr
 refine Qd (QV (Yd (I:=fun x c st'=>∃rs rest,c=(none,rs.flatten.length)/\x<=rs.flatten.length/\Rn κ L T rs rest st') (Q:=fun c st'=>∃rs n,c=(none,n)/\Rn κ L T rs [] st') ?_ ?_ ⟨[],T,rfl,z27 _,⟨hk,hf,ea,by rw[ea],by rw[hp];rfl,fun _ z=>nomatch z⟩⟩) ?_)
 ·rintro x c st1 hx ⟨rs,rest,rfl,hx2,r⟩
  have tl:rs.flatten.length+rest.length=T.length:=by rw[← r.pm.length_eq,r.e,z16]
  refine Qo (fun c=>Qe ?_) (fun c=>?_)
  ·have:rest=[]:=zn4 (by lia)
   subst this
   exact⟨rs,_,rfl,r⟩
  rw[show T.length - rs.flatten.length=rest.length by lia]
  have QuC:∀x∈rest,x∈T:=fun x hx=>r.pm.mem_iff.mp (by rw[r.e];exact z02 _ hx)
  have ndR:rest.Nodup:=(z09.mp (show(rs.flatten++rest).Nodup by rw[← r.e];exact r.pm.nodup_iff.mpr nT)).2.1
  have q0:Rst κ U rs.flatten rest st1:=⟨r.k,r.f,r.e,fun x hx=>uT x (QuC x hx),ndR⟩
  have again:∀{st2:SortSt} {S2:List Keyed} {m:Nat},Rst κ U rs.flatten S2 st2->pendingOf st2=pendingOf st1->S2.Perm rest->0<m->m<=S2.length->Sd L (S2.take m)->Rn κ L T rs S2 st2:=fun{st2 S2 m} r2 e pm _ _ _=>by
   refine⟨r2.k,r2.f,r2.e,?_,by rw[e];exact r.p,r.s⟩
   rw[r2.e]
   refine(pm.append_left _).trans ?_
   rw[← r.e];exact r.pm
  have more:∀{st2:SortSt} {S2:List Keyed} {m:Nat} {rs2:List (List Keyed)},Rn κ L T rs2 S2 st2->rs2.flatten.length=rs.flatten.length->0<m->m<=S2.length->Sd L (S2.take m)->∃rs3 Qio,((none,rs.flatten.length+m):Option Unit×Nat)=(none,rs3.flatten.length)/\x+1<=rs3.flatten.length/\Rn κ L T rs3 Qio (setPending st2 ((pendingOf st2).push (rs.flatten.length,m,0))):=fun{st2 S2 m rs2} r2 e m1 m2 s=>by
   have lt:(S2.take m).length=m:=by rw[z49];lia
   have fl:(rs2++[S2.take m]).flatten.length=rs.flatten.length+m:=by rw[zc0,z16,e];simp[m2]
   refine⟨rs2++[S2.take m],S2.drop m,by rw[fl],by rw[fl];lia,r2.k,r2.f,?_,r2.pm,?_,fun v hv=>?_⟩
   ·show(arrOf st2).toList=_
    rw[r2.e,zc0]
    simp
   ·show((pendingOf st2).push _).toList.map p2=_
    rw[z54,z68,r2.p,Qcs,z92,e]
    show layR 0 rs2++[(rs.flatten.length,m)]=layR 0 rs2++[(rs.flatten.length,(S2.take m).length)]
    rw[lt]
   ·rcases z05.mp hv with z|z
    ·exact r2.s v z
    ·rw[z25.mp z];exact⟨s,by rw[lt];exact m1⟩
  refine Qd (Qjr ask o q0 (by lia) fun m st2 S2 t1 t2 t3 t4 t5 t6=>?_)
  refine Qo (fun c=>Qd (QaU (Qd (Qnw ask o t1 (n:=min rest.length mr) t4 (by rw[t3.length_eq] at t5;lia) (by rw[t3.length_eq];lia) t6 fun st3 S3 v1 v2 v3 v4=>?_)))) (fun c=>?_)
  ·rw[if_neg (by decide)]
   have m1:0<min rest.length mr:=by lia
   have m2:min rest.length mr<=S3.length:=by rw[v3.length_eq,t3.length_eq];lia
   have rn:=again v1 (v2.trans t2) (v3.trans t3) m1 m2 v4
   generalize min rest.length mr=m' at m1 m2 v4 ⊢
   refine Qd (Yo ?_)
   cases hb:(pendingOf st3).back? with
   |none=>
    exact Qd (Jr (Qe (more rn rfl m1 m2 v4)))
   |some t=>
    obtain⟨u1,u2,u3⟩:=t
    refine Qd (QV (Yd (I:=fun y c st'=>c=(none,())/\∃rs2,Rn κ L T rs2 S3 st'/\rs2.flatten.length=rs.flatten.length) (Q:=fun c st'=>c=(none,())/\∃rs2,Rn κ L T rs2 S3 st'/\rs2.flatten.length=rs.flatten.length) ?_ (fun _ _ h=>h) ⟨rfl,rs,rn,rfl⟩) ?_)
    ·rintro y c st4 hy ⟨rfl,rs2,r2,e2⟩
     refine Qd (Yo ?_)
     have ps:=r2.psz
     by_cases c1:(pendingOf st4).size > 1
     ·rw[if_pos c1]
      cases hg:(pendingOf st4)[(pendingOf st4).size - 2]? with
      |none=>exact Qe ⟨rfl,rs2,r2,e2⟩
      |some v=>
       obtain⟨v1,v2,v3⟩:=v
       refine Qo (fun _=>Qe ⟨rfl,rs2,r2,e2⟩) (fun _=>?_)
       obtain⟨q1,X,Y,q2,e,li⟩:=QcO (rs:=rs2) (i:=(pendingOf st4).size - 2) (by lia)
       subst e
       refine Qd (r2.merge ask o uT nT li fun st5 Z rz lz=>?_)
       rw[if_neg (by decide)]
       refine Qe ⟨rfl,_,rz,?_⟩
       rw[← e2]
       simp only[zc0,zd0,z16]
       lia
     ·rw[if_neg c1]
      exact Qe ⟨rfl,rs2,r2,e2⟩
    ·rintro c st4 ⟨rfl,rs2,r2,e2⟩
     refine Qd (Jr ?_)
     refine Qd (Jr (Qe (more (rs2:=rs2) ⟨r2.k,r2.f,r2.e,r2.pm,?_,r2.s⟩ e2 m1 m2 v4)))
     rw[← r2.p]
     exact Qmu fun _=>rfl
  ·have rn:=again t1 t2 t3 t4 t5 t6
   refine Qd (Yo ?_)
   cases hb:(pendingOf st2).back? with
   |none=>
    exact Qd (Jr (Qe (more rn rfl t4 t5 t6)))
   |some t=>
    obtain⟨u1,u2,u3⟩:=t
    refine Qd (QV (Yd (I:=fun y c st'=>c=(none,())/\∃rs2,Rn κ L T rs2 S2 st'/\rs2.flatten.length=rs.flatten.length) (Q:=fun c st'=>c=(none,())/\∃rs2,Rn κ L T rs2 S2 st'/\rs2.flatten.length=rs.flatten.length) ?_ (fun _ _ h=>h) ⟨rfl,rs,rn,rfl⟩) ?_)
    ·rintro y c st4 hy ⟨rfl,rs2,r2,e2⟩
     refine Qd (Yo ?_)
     have ps:=r2.psz
     by_cases c1:(pendingOf st4).size > 1
     ·rw[if_pos c1]
      cases hg:(pendingOf st4)[(pendingOf st4).size - 2]? with
      |none=>exact Qe ⟨rfl,rs2,r2,e2⟩
      |some v=>
       obtain⟨v1,v2,v3⟩:=v
       refine Qo (fun _=>Qe ⟨rfl,rs2,r2,e2⟩) (fun _=>?_)
       obtain⟨q1,X,Y,q2,e,li⟩:=QcO (rs:=rs2) (i:=(pendingOf st4).size - 2) (by lia)
       subst e
       refine Qd (r2.merge ask o uT nT li fun st5 Z rz lz=>?_)
       rw[if_neg (by decide)]
       refine Qe ⟨rfl,_,rz,?_⟩
       rw[← e2]
       simp only[zc0,zd0,z16]
       lia
     ·rw[if_neg c1]
      exact Qe ⟨rfl,rs2,r2,e2⟩
    ·rintro c st4 ⟨rfl,rs2,r2,e2⟩
     refine Qd (Jr ?_)
     refine Qd (Jr (Qe (more (rs2:=rs2) ⟨r2.k,r2.f,r2.e,r2.pm,?_,r2.s⟩ e2 t4 t5 t6)))
     rw[← r2.p]
     exact Qmu fun _=>rfl
 ·rintro c st1 ⟨rs,rest,rfl,hx2,r⟩
  have tl:rs.flatten.length+rest.length=T.length:=by rw[← r.pm.length_eq,r.e,z16]
  have:rest=[]:=zn4 (by lia)
  subst this
  exact⟨rs,_,rfl,r⟩
 rintro c st1 ⟨rs,n,rfl,r⟩
 have l0:rs.length<=T.length:=by
  have:=Qnx r.s
  have e:=r.pm.length_eq
  rw[r.e,z53] at e
  lia
 refine Qd (QV (Yd (I:=fun x c st'=>∃rs,c=(none,())/\Rn κ L T rs [] st'/\(rs.length<=1\/rs.length<=T.length - x)) (Q:=fun c st'=>∃rs,c=(none,())/\Rn κ L T rs [] st'/\rs.length<=1) ?_ ?_ ⟨rs,rfl,r,.inr (by lia)⟩) ?_)
 ·rintro x c st2 hx ⟨rs,rfl,r,hl⟩
  refine Qd (Yo ?_)
  have ps:=r.psz
  refine Qo (fun c=>Qe ⟨rs,rfl,r,by lia⟩) (fun c=>?_)
  have l2:2<=rs.length:=by lia
  have ok:∀i',i' + 1<rs.length->wpT J M A E (mergeAt' i') (fun r st'=>r=true/\∃rs,Rn κ L T rs [] st'/\rs.length<=T.length - (x+1)) st2:=fun i' h=>by
   obtain⟨r1,X,Y,r2,e,li⟩:=QcO h
   subst e
   refine r.merge ask o uT nT li fun st' Z rz _=>⟨rfl,_,rz,?_⟩
   simp only[z16,z24] at hl ⊢
   simp only[z16,z24] at l2
   lia
  refine Qd (QV (ok _ ?_) ?_)
  ·rw[ps]
   repeat' split
   all_goals lia
  ·rintro b st3 ⟨rfl,rs',r',l'⟩
   rw[if_neg (by decide)]
   exact Qe ⟨rs',rfl,r',.inr l'⟩
 ·rintro c st2 ⟨rs,rfl,r,hl⟩
  exact⟨rs,rfl,r,by lia⟩
 rintro c st2 ⟨rs,rfl,r,hl⟩
 refine Qe (K st2 r.f r.pm ?_)
 have el:=r.pm.length_eq
 rw[r.e,z53] at el ⊢
 match rs,hl,r.s with
 | [],_,_=>exact .nil
 | [x],_,s=>
  have:=(s x z07).1
  simpa using this
end
end L2.Srt
namespace L2.Srt
open PySem PySem.W PySem.Calls PyProof.Rows
section
variable {prog:Program}{w:World}{A:Around}{E:Value->Shared->Prop}{s:Shared}
def Kp (h h':Heap):Prop:=∀b o,h.get? b=some o->h'.get? b=some o
theorem Qjs {a:Addr}{vs:List Value}{n:Nat}{κ:SortKind}{lt:Nat->Nat->Bool}{h0:Heap}{P:PySem.Fin->Shared->Prop}(ho:s.heap.get? a=some (seqObj "list" vs.toArray n))(h0k:Kp h0 s.heap)(h0a:h0.get? a=none)(h2:2<=vs.length)(h64:vs.length<=4000)(nv:vs.Nodup)(o:Ord vs.length lt)
  (hk:∀(h':Heap) (tk:Nat) (Q:SortKind->Shared->Prop),Kp h0 h'->Q κ { s with heap:=h',toks:=tk }->wpAny (model prog w) A (keyKind' vs.toArray) Q (fun _ _=>False) { s with heap:=h',toks:=tk })
  (hc:∀(h':Heap) (tk i j:Nat) (Q:Bool->Shared->Prop),Kp h0 h'->i<vs.length->j<vs.length->(∀tk',Q (lt i j) { s with heap:=h',toks:=tk' })->wpAny (model prog w) A (keyLt' κ (vs.getD i z38) (vs.getD j z38)) Q (fun _ _=>False) { s with heap:=h',toks:=tk })
  (hQ:∀(h':Heap) (tk:Nat) (is:List Nat) (c:Nat),is.Perm (z64 vs.length)->is.Pairwise (fun i j=>lt i j=true)->Kp h0 h'->h'.get? a=some (seqObj "list" (is.map fun i=>vs.getD i z38).toArray c)->P (.done (.ret .none)) { s with heap:=h',toks:=tk }) :
  wpAny (model prog w) A (Builtin.«list.sort» ⟨[.ref a],[]⟩) P E s:=by
 have ha:a<s.heap.objs.size:=z34 ho
 have s1:=zb2 s.heap a (z56 fun _=>(#[]:Array Value))
 obtain⟨e1,ho1⟩:∃e1,(s.heap.update a (z56 fun _=>(#[]:Array Value))).get? a=some (seqObj "list" #[] e1):=⟨_,get?_update_seq ho fun _=>#[]⟩
 have ne:∀b o,h0.get? b=some o->b≠a:=fun b o e z=>by rw[z,h0a] at e;cases e
 have kp3:Kp h0 (((s.heap.update a (z56 fun _=>(#[]:Array Value))).push (seqObj "tuple" vs.toArray 0)).push (seqObj "list" #[] 0)):=fun b x e=>
  z17 _ (z17 _ ((s1.2 b (ne b x e)).trans (h0k b x e)))
 have ho3:(((s.heap.update a (z56 fun _=>(#[]:Array Value))).push (seqObj "tuple" vs.toArray 0)).push (seqObj "list" #[] 0)).get? a=some (seqObj "list" #[] e1):=z17 _ (z17 _ ho1)
 rw[list_sort_plain]
 refine z19 (listItems_at ho rfl ?_)
 refine z19 (listUpdate_at ho rfl ?_ (by rw[z14,z36];lia) (zb4 _))
 refine z19 (seqEpoch_at ho1 rfl ?_)
 refine z19 (wpAny_newTuple ?_ (by show vs.length<=_;rw[z36];lia))
 refine z19 (zn7 ?_ (zb4 _))
 refine zf4 ?_
 show wpAny (model prog w) A _ P E { s with heap:=((s.heap.update a (z56 fun _=>(#[]:Array Value))).push (seqObj "tuple" vs.toArray 0)).push (seqObj "list" #[] 0)}
 generalize ((s.heap.update a (z56 fun _=>(#[]:Array Value))).push (seqObj "tuple" vs.toArray 0)).push (seqObj "list" #[] 0)=h3 at kp3 ho3 ⊢
 dsimp only
 have hn2:¬ vs.toArray.size<2:=by rw[z14];lia
 rw[if_neg hn2,if_neg hn2]
 refine z19 (zb5 (hk h3 s.toks (fun κ' s'=>κ'=κ/\s'={ s with heap:=h3 }) kp3 ⟨rfl,rfl⟩) (fun κ' s0 hk'=>?_) fun _ _ x=>x.elim)
 obtain⟨rfl,rfl⟩:=hk'
 obtain⟨g,hg⟩:∃g:Keyed->Nat,∀i,i<vs.length->g (vs.getD i z38,vs.getD i z38)=i:=by
  classical
  refine⟨fun x=>if h:∃i,i<vs.length/\vs.getD i z38=x.1 then h.choose else 0,fun i hi=>?_⟩
  have h:∃j,j<vs.length/\vs.getD j z38=vs.getD i z38:=⟨i,hi,rfl⟩
  dsimp only
  rw[dif_pos h]
  obtain⟨h1,h2⟩:=h.choose_spec
  generalize h.choose=c at h1 h2 ⊢
  rw[z12,z12,z04 h1,z04 hi] at h2
  exact(zg1 nv).mp h2
 have eT:vs.map (fun v=>(v,v))=(z64 vs.length).map fun i=>((vs.getD i z38,vs.getD i z38):Keyed):=by
  apply zg2
  ·simp
  ·intro i h1 h2
   rw[z00] at h1
   simp[z12,z04 h1]
 have uT:∀x∈vs.map (fun v=>((v,v):Keyed)),∃i,i<vs.length/\x=(vs.getD i z38,vs.getD i z38):=fun x hx=>by
  rw[eT] at hx
  obtain⟨i,hi,rfl⟩:=z40.mp hx
  exact⟨i,za2.mp hi,rfl⟩
 have gT:(vs.map fun v=>((v,v):Keyed)).map g=z64 vs.length:=by
  rw[eT,z60]
  conv=>rhs;rw[← List.map_id (z64 vs.length)]
  exact z86 fun i hi=>hg i (za2.mp hi)
 have nT:(vs.map fun v=>((v,v):Keyed)).Nodup:=List.Pairwise.map _ (fun a b ne e=>ne (zj6 e).1) nv
 have run:=Qfv (s:={ s with heap:=h3 }) (J:=fun s'=>∃tk,s'={ s with heap:=h3,toks:=tk }) (QlB (M:=model prog w) (A:=A) (E:=E) (κ:=κ') (U:=fun x=>∃i,i<vs.length/\x=(vs.getD i z38,vs.getD i z38)) (L:=fun x y=>lt (g x) (g y)) (T:=vs.map fun v=>(v,v)) (st:=SortSt.mk' κ' (vs.toArray.zip vs.toArray) #[] 7 none)
  (Q:=fun _ st'=>failedOf st'=none/\(arrOf st').toList.Perm (vs.map fun v=>(v,v))/\Sd (fun x y=>lt (g x) (g y)) (arrOf st').toList) ?ask ⟨fun x y z=>o.tr _ _ _,fun x=>o.ir _,?od⟩ uT nT rfl rfl rfl ?arr (by rw[z00];lia) fun st' a1 a2 a3=>⟨a1,a2,a3⟩) ⟨s.toks,rfl⟩
 case ask=>
  rintro x y st Q hk ⟨i,hi,rfl⟩ ⟨j,hj,rfl⟩ q
  dsimp only at q
  rw[hg i hi,hg j hj] at q
  rw[lt'_eq]
  refine Qd (Yo ?_)
  rw[hk]
  refine Qd ?_
  rintro s1 ⟨tk,rfl⟩
  show wpAny (model prog w) A (Sem.attempt (keyLt' κ' (vs.getD i z38) (vs.getD j z38)) >>= fun a=>pure (a,st)) _ E _
  refine z19 (wpAny_attempt (zb5 (hc h3 tk i j (fun c s'=>c=lt i j/\∃tk',s'={ s with heap:=h3,toks:=tk' }) kp3 hi hj fun tk'=>⟨rfl,tk',rfl⟩) (fun c s' hc'=>?_) fun _ _ hF=>hF.elim))
  obtain⟨rfl,hs⟩:=hc'
  exact z51 ⟨hs,Qe q⟩
 case od=>
  rintro x y ⟨i,hi,rfl⟩ ⟨j,hj,rfl⟩ ne e
  rw[hg i hi,hg j hj] at e ⊢
  exact o.to i j hi hj (fun z=>ne (by rw[z])) e
 case arr=>
  show(vs.toArray.zip vs.toArray).toList=_
  rw[Array.toList_zip]
  have:∀l:List Value,l.zip l=l.map fun v=>(v,v):=fun l=>by
   induction l with
   |nil=>rfl
   |cons a l ih=>rw[z89,ih];rfl
  exact this vs
 refine z19 (zb5 run ?_ fun _ _ e=>e)
 ·rintro⟨⟨⟩,st'⟩ s' ⟨⟨tk,rfl⟩,hf,pm,sd⟩
  dsimp only
  dsimp only at hf pm sd
  have hout:(arrOf st').map (·.2)=(((arrOf st').toList.map g).map fun i=>vs.getD i z38).toArray:=by
   apply zn1.mp
   rw[Array.toList_map,z60]
   refine z86 fun x hx=>?_
   obtain⟨i,hi,rfl⟩:=uT x (pm.mem_iff.mp hx)
   show _=vs.getD (g _) z38
   rw[hg i hi]
  have pr:=pm.map g
  rw[gT] at pr
  rw[hout]
  have pw:((arrOf st').toList.map g).Pairwise (fun i j=>lt i j=true):=zv4.mpr sd
  generalize (arrOf st').toList.map g=is at pr pw ⊢
  have hsz:(is.map fun i=>vs.getD i z38).toArray.size=vs.length:=by rw[z14,z00,pr.length_eq,z55]
  have s2:=zb2 h3 a (z56 fun _=>(is.map fun i=>vs.getD i z38).toArray)
  obtain⟨c2,hc2⟩:∃c2,(h3.update a (z56 fun _=>(is.map fun i=>vs.getD i z38).toArray)).get? a=some (seqObj "list" (is.map fun i=>vs.getD i z38).toArray c2):=⟨_,get?_update_seq ho3 fun _=>(is.map fun i=>vs.getD i z38).toArray⟩
  refine z19 (seqEpoch_at ho3 rfl ?_)
  refine z19 (listUpdate_at ho3 rfl ?_ (zb4 _) (z62 (zs9 hsz) (by rw[z36];lia)))
  rw[hf]
  simp only[bne_self_eq_false,ze7,if_false]
  exact z51 (hQ _ tk is c2 pr pw (fun b x e=>(s2.2 b (ne b x e)).trans (kp3 b x e)) hc2)
theorem QgK {l:Addr}{vs:List Value}{κ:SortKind}{lt:Nat->Nat->Bool}{Q:Value->Shared->Prop}(hl:s.heap.IsList l vs.toArray)(h2:2<=vs.length)(h64:vs.length<=4000)(nv:vs.Nodup)(o:Ord vs.length lt)
  (hk:∀(h':Heap) (tk:Nat) (Q:SortKind->Shared->Prop),Kp s.heap h'->Q κ { s with heap:=h',toks:=tk }->wpAny (model prog w) A.in1.in1 (keyKind' vs.toArray) Q (fun _ _=>False) { s with heap:=h',toks:=tk })
  (hc:∀(h':Heap) (tk i j:Nat) (Q:Bool->Shared->Prop),Kp s.heap h'->i<vs.length->j<vs.length->(∀tk',Q (lt i j) { s with heap:=h',toks:=tk' })->wpAny (model prog w) A.in1.in1 (keyLt' κ (vs.getD i z38) (vs.getD j z38)) Q (fun _ _=>False) { s with heap:=h',toks:=tk })
  (hQ:∀(h':Heap) (tk:Nat) (is:List Nat) (c:Nat),is.Perm (z64 vs.length)->is.Pairwise (fun i j=>lt i j=true)->Kp s.heap h'->h'.get? (s.heap.objs.size+1)=some (seqObj "list" (is.map fun i=>vs.getD i z38).toArray c)->Q (.ref (s.heap.objs.size+1)) { s with heap:=h',toks:=tk }) :
  wpAny (model prog w) A (call (.builtin "sorted") [.ref l]) Q E s:=by
 refine zp5 kind_sorted plain_sorted entry_sorted (args_sorted1 _) ?_
 unfold Builtin.«sorted»
 refine z19 (m:=checkCount "sorted" 1 1 _) (z51 ?_)
 refine z19 (collect_list hl ?_ (by rw[z36];lia))
 refine z19 (zn7 ?_ (by rw[z36];lia))
 have hsz:((s.heap.push (seqObj "list" #[] 0)).update s.heap.objs.size (z56 (·++vs.toArray))).objs.size=s.heap.objs.size+1:=by
  rw[Heap.size_update,size_push']
 have hoL:(((s.heap.push (seqObj "list" #[] 0)).update s.heap.objs.size (z56 (·++vs.toArray))).push (seqObj "list" vs.toArray 0)).get? (s.heap.objs.size+1)=some (seqObj "list" vs.toArray 0):=by
  rw[← hsz];exact z45 _ rfl
 have keep:Kp s.heap (((s.heap.push (seqObj "list" #[] 0)).update s.heap.objs.size (z56 (·++vs.toArray))).push (seqObj "list" vs.toArray 0)):=fun b o q=>by
  have hlt:b<s.heap.objs.size:=z34 q
  rw[zi0 _ _ _ (by rw[hsz];exact z52 (zm8 hlt)),zt6 _ _ _ _ (z52 hlt),zi0 _ _ _ (z52 hlt)]
  exact q
 have hn0:s.heap.get? (s.heap.objs.size+1)=none:=zk0 (zf7 _)
 show wpAny _ _ _ _ _ { s with heap:=((s.heap.push (seqObj "list" #[] 0)).update s.heap.objs.size (z56 (·++vs.toArray))).push (seqObj "list" vs.toArray 0)}
 rw[hsz]
 refine z19 (zf4 (zg8 slot_list_sort ⟨_,hoL,rfl⟩ entry_list_sort ?body (args_list_sort _)))
 case body=>
  refine Qjs (s:={ s with heap:=((s.heap.push (seqObj "list" #[] 0)).update s.heap.objs.size (z56 (·++vs.toArray))).push (seqObj "list" vs.toArray 0)}) (h0:=s.heap) (κ:=κ) (lt:=lt) hoL keep hn0 h2 h64 nv o (fun h' tk Q kp q=>hk h' tk Q kp q) (fun h' tk i j Q kp hi hj q=>hc h' tk i j Q kp hi hj q) fun h' tk p c pp up kp hD=>?_
  exact⟨_,rfl,z51 ⟨_,rfl,hQ h' tk p c pp up kp hD⟩⟩
end
section
variable {prog:Program}{w:World}{A:Around}{E:Value->Shared->Prop}{s:Shared}
theorem Qip {a:Addr}{vs:List Value}{n:Nat}{h0:Heap}{P:PySem.Fin->Shared->Prop}(ho:s.heap.get? a=some (seqObj "list" vs.toArray n))(h0k:Kp h0 s.heap)(h0a:h0.get? a=none)(h2:vs.length<2)
  (hQ:∀(h':Heap) (tk:Nat) (c:Nat),Kp h0 h'->h'.get? a=some (seqObj "list" vs.toArray c)->P (.done (.ret .none)) { s with heap:=h',toks:=tk }) :
  wpAny (model prog w) A (Builtin.«list.sort» ⟨[.ref a],[]⟩) P E s:=by
 have s1:=zb2 s.heap a (z56 fun _=>(#[]:Array Value))
 obtain⟨e1,ho1⟩:∃e1,(s.heap.update a (z56 fun _=>(#[]:Array Value))).get? a=some (seqObj "list" #[] e1):=⟨_,get?_update_seq ho fun _=>#[]⟩
 have ne:∀b o,h0.get? b=some o->b≠a:=fun b o e z=>by rw[z,h0a] at e;cases e
 have kp3:Kp h0 (((s.heap.update a (z56 fun _=>(#[]:Array Value))).push (seqObj "tuple" vs.toArray 0)).push (seqObj "list" #[] 0)):=fun b x e=>
  z17 _ (z17 _ ((s1.2 b (ne b x e)).trans (h0k b x e)))
 have ho3:(((s.heap.update a (z56 fun _=>(#[]:Array Value))).push (seqObj "tuple" vs.toArray 0)).push (seqObj "list" #[] 0)).get? a=some (seqObj "list" #[] e1):=z17 _ (z17 _ ho1)
 rw[list_sort_plain]
 refine z19 (listItems_at ho rfl ?_)
 refine z19 (listUpdate_at ho rfl ?_ (by rw[z14,z36];lia) (zb4 _))
 refine z19 (seqEpoch_at ho1 rfl ?_)
 refine z19 (wpAny_newTuple ?_ (by show vs.length<=_;rw[z36];lia))
 refine z19 (zn7 ?_ (zb4 _))
 refine zf4 ?_
 show wpAny (model prog w) A _ P E { s with heap:=((s.heap.update a (z56 fun _=>(#[]:Array Value))).push (seqObj "tuple" vs.toArray 0)).push (seqObj "list" #[] 0)}
 generalize ((s.heap.update a (z56 fun _=>(#[]:Array Value))).push (seqObj "tuple" vs.toArray 0)).push (seqObj "list" #[] 0)=h3 at kp3 ho3 ⊢
 dsimp only
 have hn2:vs.toArray.size<2:=by rw[z14];lia
 rw[if_pos hn2,if_pos hn2]
 refine z19 (z51 ?_)
 rw[StateT.run_pure]
 refine z19 (z51 ?_)
 dsimp only
 have e2:(arrOf (SortSt.mk' general' (vs.toArray.zip vs.toArray) #[] 7 none)).map (·.2)=vs.toArray:=by
  show((vs.toArray.zip vs.toArray)).map (·.2)=vs.toArray
  apply zn1.mp
  simp[List.map_snd_zip]
 rw[e2]
 have s2:=zb2 h3 a (z56 fun _=>vs.toArray)
 obtain⟨c2,hc2⟩:∃c2,(h3.update a (z56 fun _=>vs.toArray)).get? a=some (seqObj "list" vs.toArray c2):=⟨_,get?_update_seq ho3 fun _=>vs.toArray⟩
 refine z19 (seqEpoch_at ho3 rfl ?_)
 refine z19 (listUpdate_at ho3 rfl ?_ (zb4 _) (by rw[z14,z36];lia))
 simp only[bne_self_eq_false,ze7,if_false]
 exact z51 (hQ _ s.toks c2 (fun b x e=>(s2.2 b (ne b x e)).trans (kp3 b x e)) hc2)
end
section
variable {prog:Program}{w:World}{A:Around}{E:Value->Shared->Prop}{s:Shared}
theorem Qiq {l:Addr}{vs:List Value}{κ:SortKind}{lt:Nat->Nat->Bool}{Q:Value->Shared->Prop}(hl:s.heap.IsList l vs.toArray)(h64:vs.length<=4000)(nv:vs.Nodup)(o:Ord vs.length lt)
  (hk:2<=vs.length->∀(h':Heap) (tk:Nat) (Q:SortKind->Shared->Prop),Kp s.heap h'->Q κ { s with heap:=h',toks:=tk }->wpAny (model prog w) A.in1.in1 (keyKind' vs.toArray) Q (fun _ _=>False) { s with heap:=h',toks:=tk })
  (hc:∀(h':Heap) (tk i j:Nat) (Q:Bool->Shared->Prop),Kp s.heap h'->i<vs.length->j<vs.length->(∀tk',Q (lt i j) { s with heap:=h',toks:=tk' })->wpAny (model prog w) A.in1.in1 (keyLt' κ (vs.getD i z38) (vs.getD j z38)) Q (fun _ _=>False) { s with heap:=h',toks:=tk })
  (hQ:∀(h':Heap) (tk:Nat) (is:List Nat) (c:Nat),is.Perm (z64 vs.length)->is.Pairwise (fun i j=>lt i j=true)->Kp s.heap h'->h'.get? (s.heap.objs.size+1)=some (seqObj "list" (is.map fun i=>vs.getD i z38).toArray c)->Q (.ref (s.heap.objs.size+1)) { s with heap:=h',toks:=tk }) :
  wpAny (model prog w) A (call (.builtin "sorted") [.ref l]) Q E s:=by
 by_cases h2:2<=vs.length
 ·exact QgK hl h2 h64 nv o (hk h2) hc hQ
 ·refine zp5 kind_sorted plain_sorted entry_sorted (args_sorted1 _) ?_
  unfold Builtin.«sorted»
  refine z19 (m:=checkCount "sorted" 1 1 _) (z51 ?_)
  refine z19 (collect_list hl ?_ (by rw[z36];lia))
  refine z19 (zn7 ?_ (by rw[z36];lia))
  have hsz:((s.heap.push (seqObj "list" #[] 0)).update s.heap.objs.size (z56 (·++vs.toArray))).objs.size=s.heap.objs.size+1:=by
   rw[Heap.size_update,size_push']
  have hoL:(((s.heap.push (seqObj "list" #[] 0)).update s.heap.objs.size (z56 (·++vs.toArray))).push (seqObj "list" vs.toArray 0)).get? (s.heap.objs.size+1)=some (seqObj "list" vs.toArray 0):=by
   rw[← hsz];exact z45 _ rfl
  have keep:Kp s.heap (((s.heap.push (seqObj "list" #[] 0)).update s.heap.objs.size (z56 (·++vs.toArray))).push (seqObj "list" vs.toArray 0)):=fun b o q=>by
   have hlt:b<s.heap.objs.size:=z34 q
   rw[zi0 _ _ _ (by rw[hsz];exact z52 (zm8 hlt)),zt6 _ _ _ _ (z52 hlt),zi0 _ _ _ (z52 hlt)]
   exact q
  have hn0:s.heap.get? (s.heap.objs.size+1)=none:=zk0 (zf7 _)
  show wpAny _ _ _ _ _ { s with heap:=((s.heap.push (seqObj "list" #[] 0)).update s.heap.objs.size (z56 (·++vs.toArray))).push (seqObj "list" vs.toArray 0)}
  rw[hsz]
  refine z19 (zf4 (zg8 slot_list_sort ⟨_,hoL,rfl⟩ entry_list_sort ?body (args_list_sort _)))
  case body=>
   refine Qip (s:={ s with heap:=((s.heap.push (seqObj "list" #[] 0)).update s.heap.objs.size (z56 (·++vs.toArray))).push (seqObj "list" vs.toArray 0)}) (h0:=s.heap) hoL keep hn0 (by lia) fun h' tk c kp hD=>?_
   refine⟨_,rfl,z51 ⟨_,rfl,hQ h' tk (z64 vs.length) c (ze6 _) ?_ kp ?_⟩⟩
   ·rw[zb1]
    intro i j hi hj hij
    rw[z55] at hj
    lia
   ·rw[hD]
    congr 2
    refine congrArg zr7 ?_
    apply zg2
    ·simp
    ·intro i h1 h2
     simp[z12,z04 h1]
end
def ltP (a b:Int×Int):Bool:=decide (a.1<b.1\/(a.1=b.1/\a.2<b.2))
def PT (K:z01)(H:Hp)(q:Addr)(pr:Int×Int):Prop:=SqT K H q [.int pr.1,.int pr.2]
def PO (h:Heap)(q:Addr)(pr:Int×Int):Prop:=∃o t u n,h.get? q=some o/\o.cls=.type "tuple" /\ o.data=.seq #[.int pr.1 t,.int pr.2 u] n
theorem PO.kp {h h':Heap}{q:Addr}{pr:Int×Int}(p:PO h q pr)(k:Kp h h'):PO h' q pr:=by
 obtain⟨o,t,u,n,e,r⟩:=p
 exact⟨o,t,u,n,k _ _ e,r⟩
theorem QsH {X:Cx}{pins:List (Addr×Obj)}{σ:St}{H:Hp}{s:Shared}(I:Inv X pins σ H s){q:Addr}{pr:Int×Int}(h:PT X.K H q pr):PO s.heap q pr:=by
 obtain⟨its,rv,⟨o,e,c,n,d⟩,_⟩:=I.tuple h
 obtain⟨u,v,rfl,⟨t,rfl⟩,⟨t',rfl⟩⟩:=Vals.two rv
 exact⟨o,t,t',n,e,c,d⟩
theorem range_getD {α:Type}(d:α)(l:List α):(z64 l.length).map (fun i=>l.getD i d)=l:=by
 apply zg2
 ·simp
 ·intro i h1 h2
  simp[z12,z04 h2]
section
theorem Qfx:∀{qs:List Addr} {us:List Value},Vals (qs.map V.ref) us->us=qs.map z44
 | [],_,.nil=>rfl
 |q::qs,_,.cons r t=>by cases r;rw[Qfx t];rfl
theorem Qfy:∀(qs:List Addr),Vals (qs.map V.ref) (qs.map z44)
 | []=>.nil
 |q::qs=>.cons rfl (Qfy qs)
end
inductive Qeq (A:Around) (s:Shared) (fin:Bool):List (Value×Value)->Bool->Prop
 |nil:Qeq A s fin [] fin
 |eq {p q:Value} {r:List (Value×Value)} {b:Bool} (h:zh5 A s p q true) (t:Qeq A s fin r b):Qeq A s fin ((p,q)::r) b
 |lt {p q:Value} {r:List (Value×Value)} {b:Bool} (h:zh5 A s p q false) (t:∀(prog:Program) (w:World) (E Q:Value->Shared->Prop),Q (.bool b) s->wpAny (model prog w) A (richCompare .Lt p q) Q E s):Qeq A s fin ((p,q)::r) b
section
open PySem.SeqAt
open PySem.AutoSeq1 (wpAny_loadPart')
open PySem.MeetsSeq PySem.MeetsSeq2 PySem.MeetsSeq3
theorem Qfz (l b:Addr)(items items2:Array Value)(n n2:Nat)(dd dd2:Option Addr)(sl sl2:Array (Option Value))(res:Bool) :
  Meets (Builtin.«tuple.__lt__» ⟨[.ref l,.ref b],[]⟩)
   (fun A R s=>s.heap.get? l=some { cls:=.type "tuple",dict:=dd,data:=.seq items n,slots:=sl }/\s.heap.get? b=some { cls:=.type "tuple",dict:=dd2,data:=.seq items2 n2,slots:=sl2 }/\
    Qeq A.in1 s (decide (items.size<items2.size)) (items.toList.zip items2.toList) res/\R (.ok (.ret (.bool res))) s):=
 .of_wp fun prog w A R s h=>by
  obtain⟨hp,g,d,tk,os⟩:=s;obtain⟨hl,hb,hx,h⟩:=h
  have f2:=AutoSeq1.sub_tuple_tuple
  wp_walk using zf3 hl,zf3 hb,wpAny_forIn_list _ (fun rest b s'=>b.1=none/\s'=⟨hp,g,d,tk,os⟩/\Qeq A.in1 ⟨hp,g,d,tk,os⟩ (decide (items.size<items2.size)) rest res) _
  case turn=>
   rintro⟨y,x⟩ rest b s' ⟨hb',rfl,hL⟩
   cases hL with
   |eq he hr=>
    refine z19 (he prog w _ _ ?_)
    wp_walk
    exact⟨rfl,rfl,hr⟩
   |lt he hlt=>
    refine z19 (he prog w _ _ ?_)
    have hri:=hlt prog w
    wp_walk using hri
    exact⟨_,rfl,by simpa using h⟩
  case fin=>
   rintro⟨b1,b2⟩ s' ⟨hb',rfl,hL⟩
   simp only at hb'
   subst hb'
   cases hL
   wp_walk
   exact⟨_,rfl,by simpa[Builtin.Tuple.tupleCompareSizes] using h⟩
  case h=>exact⟨rfl,rfl,hx⟩
end
theorem Qmv {prog:Program}{w:World}{A:Around}{E:Value->Shared->Prop}{s:Shared}{l b:Addr}{o o2:Obj}{items items2:Array Value}{n n2:Nat}{res:Bool}{Q:Value->Shared->Prop}(h1:s.heap.get? l=some o)(c1:o.cls=.type "tuple")(d1:o.data=.seq items n)(h2:s.heap.get? b=some o2)(c2:o2.cls=.type "tuple")(d2:o2.data=.seq items2 n2)
  (hu:A.units<cLine) (hx:Qeq A.in1 s (decide (items.size<items2.size)) (items.toList.zip items2.toList) res) (h:Q (.bool res) s):wpAny (model prog w) A (compareOp .Lt (.ref l) (.ref b)) Q E s:=by
 obtain⟨cls,dd,data,sl⟩:=o
 obtain⟨cls2,dd2,data2,sl2⟩:=o2
 simp only at c1 d1 c2 d2
 subst c1 d1 c2 d2
 exact richCompare_meets_room (op:=.Lt) ⟨_,h1,rfl⟩ ⟨_,h2,rfl⟩ PySem.F.slot_tuple_lt PySem.F.entry_tuple_lt (PySem.F.args_tuple_lt_2 _ _) (Qfz l b items items2 n n2 dd dd2 sl sl2 res)
  ⟨h1,h2,hx,show zl7 res≠Value.notImplemented/\Q (.bool res) s from⟨(fun x=>nomatch x),h⟩⟩ hu
abbrev NP:=Int×(Int×Int)
abbrev PN:=(Int×Int)×Int
def VQ (a b:NP):Bool:=decide (a.1<b.1) || (decide (a.1=b.1) && ltP a.2 b.2)
def QtU (a b:PN):Bool:=ltP a.1 b.1 || (decide (a.1=b.1) && decide (a.2<b.2))
def PO1 (h:Heap)(q:Addr)(x:NP):Prop:=∃o t r n,h.get? q=some o/\o.cls=.type "tuple" /\ o.data=.seq #[.int x.1 t,.ref r] n/\PO h r x.2
theorem PO1.kp {h h':Heap}{q:Addr}{x:NP}(p:PO1 h q x)(k:Kp h h'):PO1 h' q x:=by
 obtain⟨o,t,r,n,e,c,d,p⟩:=p
 exact⟨o,t,r,n,k _ _ e,c,d,p.kp k⟩
theorem PO.det {h:Heap}{q:Addr}{x y:Int×Int}(p:PO h q x)(p':PO h q y):x=y:=by
 obtain⟨o,t,u,n,e,c,d⟩:=p
 obtain⟨o',t',u',n',e',c',d'⟩:=p'
 rw[e] at e';cases e'
 rw[d] at d'
 injection d' with d1 d2
 have:=congrArg zr3 d1
 simp at this
 exact zo0 this.1.1 this.2.1
theorem Qny {A:Around}{s:Shared}{q r:Addr}{x y:Int×Int}(hu:A.units<cLine)(hq:PO s.heap q x)(hr:PO s.heap r y):zh5 A s (.ref q) (.ref r) (decide (x=y)):=by
 by_cases e:q=r
 ·subst e
  rw[decide_eq_true (hq.det hr)]
  exact zh6 _
 ·obtain⟨o,t1,t2,n,e1,c1,d1⟩:=hq
  obtain⟨o',t3,t4,n',e2,c2,d2⟩:=hr
  refine zj0 e ?_
  have key:=zq5 (A:=A) (e:=fun j=>if j=0 then x.1 == y.1 else x.2 == y.2) (show s.heap.IsTuple q [z76 x.1 t1,z76 x.2 t2].toArray from⟨o,e1,c1,n,d1⟩) (show s.heap.IsTuple r [z76 y.1 t3,z76 y.2 t4].toArray from⟨o',e2,c2,n',d2⟩) hu (fun j h1 h2=>by
   have hj:j=0\/j=1:=by simp at h1;lia
   rcases hj with rfl|rfl
   ·exact z81 x.1 t1 y.1 t3
   ·exact z81 x.2 t2 y.2 t4)
  have e2:((z64 (min [z76 x.1 t1,z76 x.2 t2].toArray.size [z76 y.1 t3,z76 y.2 t4].toArray.size)).all (fun j=>if j=0 then x.1 == y.1 else x.2 == y.2) && [z76 x.1 t1,z76 x.2 t2].toArray.size == [z76 y.1 t3,z76 y.2 t4].toArray.size)=decide (x=y):=by
   obtain⟨x1,x2⟩:=x
   obtain⟨y1,y2⟩:=y
   by_cases h1:x1=y1<;>by_cases h2:x2=y2<;>simp[h1,h2,List.range_succ]
  rw[e2] at key
  exact key
theorem QtV {prog:Program}{w:World}{A:Around}{E:Value->Shared->Prop}{s:Shared}{q r:Addr}{x y:Int×Int}{Q:Value->Shared->Prop}(hu:A.units<cLine)(hq:PO s.heap q x)(hr:PO s.heap r y)(h:Q (.bool (ltP x y)) s):wpAny (model prog w) A (compareOp .Lt (.ref q) (.ref r)) Q E s:=by
 obtain⟨o,t1,t2,n,e1,c1,d1⟩:=hq
 obtain⟨o',t3,t4,n',e2,c2,d2⟩:=hr
 refine Qmv e1 c1 d1 e2 c2 d2 hu ?_ h
 show Qeq _ s false [(z76 x.1 t1,z76 y.1 t3),(z76 x.2 t2,z76 y.2 t4)] _
 by_cases h1:x.1=y.1
 ·refine .eq (by have:=z81 (A:=A.in1) (s:=s) x.1 t1 y.1 t3;rwa[beq_iff_eq.mpr h1] at this) ?_
  by_cases h2:x.2=y.2
  ·have z:ltP x y=false:=decide_eq_false (by lia)
   rw[z]
   exact .eq (by have:=z81 (A:=A.in1) (s:=s) x.2 t2 y.2 t4;rwa[beq_iff_eq.mpr h2] at this) .nil
  ·have z:ltP x y=decide (x.2<y.2):=by unfold ltP;simp[h1]
   rw[z]
   exact .lt (by have:=z81 (A:=A.in1) (s:=s) x.2 t2 y.2 t4;rwa[beq_eq_false_iff_ne.mpr h2] at this) fun prog w E Q hq=>HT.Qee _ _ _ _ _ _ prog w E Q hq
 ·have z:ltP x y=decide (x.1<y.1):=by unfold ltP;simp[h1]
  rw[z]
  exact .lt (by have:=z81 (A:=A.in1) (s:=s) x.1 t1 y.1 t3;rwa[beq_eq_false_iff_ne.mpr h1] at this) fun prog w E Q hq=>HT.Qee _ _ _ _ _ _ prog w E Q hq
theorem QsI {prog:Program}{w:World}{A:Around}{E:Value->Shared->Prop}{s:Shared}{q r:Addr}{x y:NP}{Q:Value->Shared->Prop}(hu:A.units+1<cLine)(hq:PO1 s.heap q x)(hr:PO1 s.heap r y)(h:Q (.bool (VQ x y)) s):wpAny (model prog w) A (compareOp .Lt (.ref q) (.ref r)) Q E s:=by
 obtain⟨o,t1,a,n,e1,c1,d1,p1⟩:=hq
 obtain⟨o',t3,b,n',e2,c2,d2,p2⟩:=hr
 have hu1:A.in1.units<cLine:=by have:=units_in1 (A:=A);lia
 refine Qmv e1 c1 d1 e2 c2 d2 (by lia) ?_ h
 show Qeq _ s false [(z76 x.1 t1,z76 y.1 t3),(z44 a,z44 b)] _
 by_cases h1:x.1=y.1
 ·have h1':decide (x.1<y.1)=false:=decide_eq_false (by lia)
  refine .eq (by have:=z81 (A:=A.in1) (s:=s) x.1 t1 y.1 t3;rwa[beq_iff_eq.mpr h1] at this) ?_
  have z:VQ x y=ltP x.2 y.2:=by unfold VQ;simp[h1]
  rw[z]
  by_cases h2:x.2=y.2
  ·have z:ltP x.2 y.2=false:=decide_eq_false (by rw[h2];lia)
   rw[z]
   exact .eq (by have:=Qny hu1 p1 p2;rwa[decide_eq_true h2] at this) .nil
  ·exact .lt (by have:=Qny hu1 p1 p2;rwa[decide_eq_false h2] at this) fun prog w E Q hq=>QtV hu1 p1 p2 hq
 ·have z:VQ x y=decide (x.1<y.1):=by unfold VQ;simp[h1]
  rw[z]
  exact .lt (by have:=z81 (A:=A.in1) (s:=s) x.1 t1 y.1 t3;rwa[beq_eq_false_iff_ne.mpr h1] at this) fun prog w E Q hq=>HT.Qee _ _ _ _ _ _ prog w E Q hq
end L2.Srt
namespace L2.Srt
open PySem PySem.W PySem.Calls PyProof.Rows
theorem Qjt (a:Int×Int):ltP a a=false:=decide_eq_false (by lia)
theorem QpM {a b c:Int×Int}(h:ltP a b=true)(h':ltP b c=true):ltP a c=true:=by
 have h:=of_decide_eq_true h
 have h':=of_decide_eq_true h'
 exact decide_eq_true (by lia)
theorem Qnz {a b:Int×Int}(h:a≠b)(h':ltP a b=false):ltP b a=true:=by
 have h':=of_decide_eq_false h'
 refine decide_eq_true ?_
 by_cases e:a.1=b.1
 ·have:a.2≠b.2:=fun z=>h (zo0 e z)
  lia
 ·lia
theorem Qct {a b:NP}:VQ a b=true↔a.1<b.1\/(a.1=b.1/\ltP a.2 b.2=true):=by unfold VQ;simp
structure Lin {α:Type}(lt:α->α->Bool):Prop where
 irr:∀a,lt a a=false
 tr:∀a b c,lt a b=true->lt b c=true->lt a c=true
 tot:∀a b,a≠b->lt a b=false->lt b a=true
theorem Qbv:Lin VQ where
 irr:=fun a=>by rw[zm3];intro h;rcases Qct.mp h with h|⟨_,h⟩<;>first|lia|(rw[Qjt] at h;cases h)
 tr:=fun a b c h h'=>by
  rw[Qct] at h h' ⊢
  rcases h with h|⟨e,h⟩<;>rcases h' with h'|⟨e',h'⟩
  ·exact .inl (by lia)
  ·exact .inl (by lia)
  ·exact .inl (by lia)
  ·exact .inr ⟨by lia,QpM h h'⟩
 tot:=fun a b ne h=>by
  rw[Qct]
  have h':¬ (a.1<b.1\/(a.1=b.1/\ltP a.2 b.2=true)):=fun z=>by rw[Qct.mpr z] at h;cases h
  by_cases e:a.1=b.1
  ·refine .inr ⟨e.symm,Qnz (fun z=>ne (zo0 e z)) ?_⟩
   rw[zm3];exact fun z=>h' (.inr ⟨e,z⟩)
  ·exact .inl (by have:¬ a.1<b.1:=fun z=>h' (.inl z);lia)
theorem Lin.ord {α:Type}{lt:α->α->Bool}(L:Lin lt)(d:α){ps:List α}(nd:ps.Nodup):Ord ps.length fun i j=>lt (ps.getD i d) (ps.getD j d) where
 ir:=fun i=>L.irr _
 tr:=fun i j k a b=>L.tr _ _ _ a b
 to:=fun i j hi hj ne a=>by
  refine L.tot _ _ (fun z=>?_) a
  rw[z12,z12,z04 hi,z04 hj] at z
  exact ne ((zg1 nd).mp z)
theorem QlC.QrR {α:Type}{d:α}{R:Addr->α->Prop}{qs:List Addr}{ps:List α}(p:Paired R qs ps){i:Nat}(hi:i<qs.length):R (qs.getD i 0) (ps.getD i d):=by
 have e:qs[i]? = some qs[i]:=z04 hi
 obtain⟨b,eb,r⟩:=Paired.get p e
 rw[z12,z12,e,eb]
 exact r
structure Qhv (A:Around)(α:Type)(lt:α->α->Bool)(PO:Heap->Addr->α->Prop)(κ:SortKind):Prop where
 kp:∀{h h':Heap} {q:Addr} {x:α},PO h q x->Kp h h'->PO h' q x
 kind:∀{prog:Program} {w:World} {s:Shared} {qs:List Addr} {ps:List α} {Q:SortKind->Shared->Prop},Paired (PO s.heap) qs ps->2<=ps.length->Q κ s->wpAny (model prog w) A (keyKind' (qs.map z44).toArray) Q (fun _ _=>False) s
 det:∀{h:Heap} {q:Addr} {x y:α},PO h q x->PO h q y->x=y
 cmp:∀{prog:Program} {w:World} {s:Shared} {q r:Addr} {x y:α} {Q:Bool->Shared->Prop},PO s.heap q x->PO s.heap r y->Q (lt x y) s->wpAny (model prog w) A (keyLt' κ (.ref q) (.ref r)) Q (fun _ _=>False) s
theorem Qhv.nq {A:Around}{α:Type}{d:α}{lt:α->α->Bool}{PO:Heap->Addr->α->Prop}{κ:SortKind}(S:Qhv A α lt PO κ){h:Heap}{qs:List Addr}{ps:List α}(pr:Paired (PO h) qs ps)(nd:ps.Nodup):(qs.map z44).Nodup:=by
 have lq:=zh7 pr
 rw[List.nodup_iff_pairwise_ne,zb1]
 intro i j hi hj hij e
 rw[List.getElem_map,List.getElem_map] at e
 rw[z00] at hi hj
 have e:=Value.ref.inj e
 have p1:=QlC.QrR (d:=d) pr hi
 have p2:=QlC.QrR (d:=d) pr hj
 rw[z12,z04 hi] at p1
 rw[z12,z04 hj] at p2
 rw[z98,e] at p1
 rw[z98] at p2
 have z:=S.det p1 p2
 rw[z12,z12,z04 (by lia),z04 (by lia)] at z
 have:=(zg1 nd).mp z
 lia
theorem QlD {prog:Program}{w:World}{A:Around}{E:Value->Shared->Prop}{s:Shared}{α:Type}(d:α){lt:α->α->Bool}{PO:Heap->Addr->α->Prop}{κ:SortKind}(S:Qhv A.in1.in1 α lt PO κ)(L:Lin lt){l:Addr}{qs:List Addr}{ps:List α}{Q:Value->Shared->Prop}(hl:s.heap.IsList l (qs.map z44).toArray)(pr:Paired (PO s.heap) qs ps)(nd:ps.Nodup)(l64:ps.length<=4000)
  (k:∀(h':Heap) (tk:Nat) (is:List Nat) (c:Nat),is.Perm (z64 ps.length)->(is.map fun i=>ps.getD i d).Pairwise (fun a b=>lt a b=true)->Kp s.heap h'->h'.get? (s.heap.objs.size+1)=some (seqObj "list" ((is.map fun i=>qs.getD i 0).map z44).toArray c)->Q (.ref (s.heap.objs.size+1)) { s with heap:=h',toks:=tk }) :
  wpAny (model prog w) A (call (.builtin "sorted") [.ref l]) Q E s:=by
 have lq:=zh7 pr
 have QrS:(qs.map z44).length=ps.length:=by rw[z00,lq]
 have og:∀{i:Nat},i<(qs.map z44).length->(qs.map z44).getD i z38=z44 (qs.getD i 0):=fun{i} hi=>by
  rw[z00] at hi
  rw[z12,z12,z18,z04 hi]
  rfl
 refine Qiq (κ:=κ) (lt:=fun i j=>lt (ps.getD i d) (ps.getD j d)) hl (by rw[QrS];exact l64) (S.nq (d:=d) pr nd) (by rw[QrS];exact L.ord d nd) (fun h2 h' tk Q' kp q=>?_) (fun h' tk i j Q' kp hi hj q=>?_) fun h' tk is c pm pw kp hD=>?_
 ·exact S.kind (s:={ s with heap:=h',toks:=tk }) (Paired.imp' (fun _ _ z=>S.kp z kp) pr) (by lia) q
 ·rw[og hi,og hj]
  rw[z00] at hi hj
  exact S.cmp (s:={ s with heap:=h',toks:=tk }) (S.kp (QlC.QrR (d:=d) pr hi) kp) (S.kp (QlC.QrR (d:=d) pr hj) kp) (q tk)
 ·rw[QrS] at pm
  have hb:∀i∈is,i<ps.length:=fun i hi=>za2.mp (pm.mem_iff.mp hi)
  have QuD:(is.map fun i=>(qs.map z44).getD i z38)=(is.map fun i=>qs.getD i 0).map z44:=by
   rw[z60]
   exact z86 fun i hi=>og (by rw[QrS];exact hb i hi)
  rw[QuD] at hD
  exact k h' tk is c pm (zv4.mpr pw) kp hD
theorem QlE {h:Heap}{qs:List Addr}{ps:List NP}(p:Paired (PO1 h) qs ps):∃fs,KatTups h (qs.map z44) fs/\fs.length=ps.length/\∀v∈fs,∃i t,v=z76 i t:=by
 induction p with
 |nil=>exact⟨[],.nil,rfl,fun v z=>nomatch z⟩
 |cons z _ ih=>
  obtain⟨fs,k,l,a⟩:=ih
  obtain⟨o,t,u,n,e,c,d,_⟩:=z
  refine⟨_::fs,KatTups.cons e c d rfl k,by rw[z24,z24,l],fun v hv=>?_⟩
  rcases z13.mp hv with rfl|hv
  ·exact⟨_,_,rfl⟩
  ·exact a v hv
theorem QpN {A:Around}(hu:A.units+1<cLine):Qhv A NP VQ PO1 (tuples' true) where
 kp:=PO1.kp
 kind:=fun{prog w s qs ps Q} pr h2 q=>by
  obtain⟨fs,kt,lf,af⟩:=QlE pr
  refine kat_kind (T:=.type "int") kt (by lia) (fun v hv=>?_) rfl q
  obtain⟨i,t,rfl⟩:=af v hv
  exact Looks.of_pure rfl
 det:=fun p r=>by
  obtain⟨o,t,a,n,e,c,d,p1⟩:=p
  obtain⟨o',t',a',n',e',c',d',p2⟩:=r
  cases e.symm.trans e'
  have z:=d.symm.trans d'
  simp at z
  obtain⟨⟨⟨z1,z2⟩,z3⟩,z4⟩:=z
  subst z3
  exact zo0 z1 (p1.det p2)
 cmp:=fun{prog w s q r x y Q} hq hr h=>by
  obtain⟨o,t,a,n,e,c,d,p1⟩:=hq
  obtain⟨o',t',b,n',e',c',d',p2⟩:=hr
  refine kat_lt (b:=true) e d e' d' ?_
  show KatLex prog w A true _ Q [(z76 x.1 t,z76 y.1 t'),(z44 a,z44 b)] 0 s
  refine kat_cons ((z81 x.1 t y.1 t') prog w _ _ (kat_go (fun e1=>kat_yes ?_) fun e1=>kat_no ?_))
  ·have e1':x.1=y.1:=by simpa using e1
   have z:VQ x y=ltP x.2 y.2:=by unfold VQ;simp[e1']
   rw[z] at h
   refine kat_cons ((Qny (by lia) p1 p2) prog w _ _ (kat_go (fun e2=>kat_yes ?_) fun e2=>kat_no ?_))
   ·have e2':x.2=y.2:=of_decide_eq_true e2
    refine kat_nil ?_
    rw[e2',Qjt] at h
    exact h
   ·exact kat_one _ _ (QtV (by lia) p1 p2 h)
  ·have e1':x.1≠y.1:=by simpa using e1
   refine oneLt_int ?_
   have z:VQ x y=decide (x.1<y.1):=by unfold VQ;simp[e1']
   rw[z] at h
   exact h
def PT1 (K:z01)(H:Hp)(q:Addr)(x:NP):Prop:=∃r,SqT K H q [.int x.1,.ref r]/\PT K H r x.2
theorem Qju {X:Cx}{pins:List (Addr×Obj)}{σ:St}{H:Hp}{s:Shared}(I:L2.Inv X pins σ H s){q:Addr}{x:NP}(h:PT1 X.K H q x):PO1 s.heap q x:=by
 obtain⟨r,h1,h2⟩:=h
 obtain⟨its,rv,⟨o,e,c,n,d⟩,_⟩:=I.tuple h1
 obtain⟨u,v,rfl,⟨t,rfl⟩,rfl⟩:=Vals.two rv
 exact⟨o,t,r,n,e,c,d,QsH I h2⟩
section
variable {X:Cx}
def QpO (K:z01):List V->Hp->VK->Prop:=fun xs H Q=>∃p qs ps,xs=[.ref p]/\SqL K H p (qs.map V.ref)/\Paired (PT1 K H) qs ps/\ps.Nodup/\ps.length<=4000/\
 ∀(l:Addr) (is:List Nat),H l=none->is.Perm (z64 ps.length)->(is.map fun i=>ps.getD i (0,(0,0))).Pairwise (fun a b=>VQ a b=true)->Q (.ref l) (upd H l (.lst ((is.map fun i=>qs.getD i 0).map V.ref)))
theorem QfA (hu:X.A.units+3<cLine):QbR X (.builtin "sorted") (QpO X.K):=by
 intro pins s σ H xs us Q I r h
 obtain⟨p,qs,ps,rfl,hq,pr,nd,l64,k⟩:=h
 obtain⟨u,rfl,ru⟩:=vals1 r
 cases ru
 obtain⟨its,rv,pl,hz⟩:=I.list hq
 have ei:=Qfx rv
 subst ei
 have pso:Paired (PO1 s.heap) qs ps:=Paired.imp' (fun _ _ z=>Qju I z) pr
 refine QlD (d:=(0,(0,0))) (QpN (A:=X.A.in1.in1) (by show X.A.units+1+1+1<cLine;lia)) Qbv pl.isList pso nd l64 fun h' tk is c pm pw kp hD=>?_
 refine⟨.ref _,_,I.laid (t':=tk) (o:=.lst ((is.map fun i=>qs.getD i 0).map V.ref)) kp (zf7 _) ⟨?_,_,c,Qfy _,hD⟩,rfl,k _ is (I.hok.fresh (zf7 _)) pm pw⟩
 rw[z00,z00,pm.length_eq,z55,z36];lia
def Qer (q:Int×Int):List Key:=[.inl q.1,.inl q.2]
end
end L2.Srt
namespace TL
open PySem L2 PyProof.Rows
inductive Tag where
 |lst|tup
 |ins (k:Addr) (ns:List Str)
 |dT (ks:List (List Key))|dK (ks:List Key)
 |exc (c:Addr)
 deriving DecidableEq
inductive D where
 |int (i:Int)|bl (b:Bool)|non|str (s:Str)|ty (n:String)|cls (c:Addr)|nd (t:Tag) (ds:List D)
abbrev D.lst (ds:List D):D:=.nd .lst ds
abbrev D.tup (ds:List D):D:=.nd .tup ds
def Tag.mut:Tag->Bool
 |.lst=>true|.dT _=>true|.dK _=>true|_=>false
mutual
def D.imm:D->Bool
 |.nd t ds=>!t.mut && D.Jo ds
 |_=>true
def D.Jo:List D->Bool
 | []=>true
 |d::ds=>d.imm && D.Jo ds
end
def D.sc:D->Option V
 |.int i=>some (.int i)|.bl b=>some (.bl b)|.non=>some .non|.str s=>some (.str s)|.ty n=>some (.ty n)|.cls c=>some (.ref c)|.nd _ _=>none
def At (K:z01)(F:Hp)(a:Addr):Tag->List V->Prop
 |.lst,vs=>SqL K F a vs
 |.tup,vs=>F a=some (.tup vs)
 |.ins k ns,vs=>ns.length=vs.length/\∃dx,F a=some (.ins k dx (ns.zip vs))/\F dx=some (.own a)
 |.dT ks,vs=>ks.length=vs.length/\F a=some (.dT (ks.zip vs))
 |.dK ks,vs=>ks.length=vs.length/\F a=some (.dK (ks.zip vs))
 |.exc c,vs=>vs=[]/\F a=some (QsC a (.ref c))
def Mbl:HO->Prop
 |.lst _=>True|.dT _=>True|.dK _=>True|_=>False
def Mt (H:Hp)(a:Addr):Tag->List V->Prop
 |.lst,vs=>H a=some (.lst vs)
 |.dT ks,vs=>ks.length=vs.length/\H a=some (.dT (ks.zip vs))
 |.dK ks,vs=>ks.length=vs.length/\H a=some (.dK (ks.zip vs))
 |_,_=>False
section
variable {K:z01}{F H F' H':Hp}{a:Addr}{t:Tag}{vs:List V}
theorem At.same (h:At K F a t vs)(s:Qz F F'):At K F' a t vs:=by
 cases t with
 |lst=>exact h.imp (fun z=>z.imp (fun z=>s _ _ z) fun⟨o,z⟩=>⟨o,s _ _ z⟩) id
 |tup=>exact s _ _ h
 |ins k ns=>
  obtain⟨l,dx,h1,h2⟩:=h
  exact⟨l,dx,s _ _ h1,s _ _ h2⟩
 |dT ks=>exact⟨h.1,s _ _ h.2⟩
 |dK ks=>exact⟨h.1,s _ _ h.2⟩
 |exc c=>exact⟨h.1,s _ _ h.2⟩
theorem Mt.at (h:Mt H a t vs):At K H a t vs:=by
 cases t with
 |lst=>exact .inl (.inl h)
 |tup=>exact h.elim
 |ins k ns=>exact h.elim
 |dT ks=>exact h
 |dK ks=>exact h
 |exc c=>exact h.elim
theorem At.sql {K:z01}(h:At K F a .lst vs):SqL K F a vs:=h
theorem At.sqt {K:z01}(h:At K F a .tup vs):SqT K F a vs:=.inl (.inl h)
theorem Mt.mut (h:Mt H a t vs):t.mut=true:=by
 cases t with
 |lst=>rfl
 |tup=>exact h.elim
 |ins k ns=>exact h.elim
 |dT ks=>rfl
 |dK ks=>rfl
 |exc c=>exact h.elim
theorem Mt.eq (h:Mt H a t vs)(e:H' a=H a):Mt H' a t vs:=by
 cases t with
 |lst=>exact e.trans h
 |tup=>exact h.elim
 |ins k ns=>exact h.elim
 |dT ks=>exact⟨h.1,e.trans h.2⟩
 |dK ks=>exact⟨h.1,e.trans h.2⟩
 |exc c=>exact h.elim
theorem Mt.some (h:Mt H a t vs):∃o,H a=some o/\Mbl o:=by
 cases t with
 |lst=>exact⟨_,h,z58⟩
 |tup=>exact h.elim
 |ins k ns=>exact h.elim
 |dT ks=>exact⟨_,h.2,z58⟩
 |dK ks=>exact⟨_,h.2,z58⟩
 |exc c=>exact h.elim
end
mutual
inductive R (K:z01) (F:Hp):V->D->Prop
 |sc {v:V} {d:D} (e:d.sc=some v):R K F v d
 |nd {a:Addr} {t:Tag} {vs:List V} {ds:List D} (h:At K F a t vs) (r:RL K F vs ds):R K F (.ref a) (.nd t ds)
inductive RL (K:z01) (F:Hp):List V->List D->Prop
 |nil:RL K F [] []
 |cons {v:V} {d:D} {vs:List V} {ds:List D} (h:R K F v d) (r:RL K F vs ds):RL K F (v::vs) (d::ds)
end
mutual
inductive O (K:z01) (F H:Hp):V->D->List Addr->Prop
 |sc {v:V} {d:D} (e:d.sc=some v):O K F H v d []
 |im {a:Addr} {t:Tag} {vs:List V} {ds:List D} {fp:List Addr} (m:t.mut=false) (h:At K F a t vs) (r:OL K F H vs ds fp):O K F H (.ref a) (.nd t ds) fp
 |mt {a:Addr} {t:Tag} {vs:List V} {ds:List D} {fp:List Addr} (h:Mt H a t vs) (r:OL K F H vs ds fp):O K F H (.ref a) (.nd t ds) (a::fp)
inductive OL (K:z01) (F H:Hp):List V->List D->List Addr->Prop
 |nil:OL K F H [] [] []
 |cons {v:V} {d:D} {vs:List V} {ds:List D} {f g:List Addr} (h:O K F H v d f) (r:OL K F H vs ds g):OL K F H (v::vs) (d::ds) (f++g)
end
section
variable {K:z01}{F F' H H':Hp}
theorem R.ind {P:V->D->Prop}{Q:List V->List D->Prop}(c1:∀{v d},D.sc d=some v->P v d)(c2:∀{a t vs ds},At K F a t vs->Q vs ds->P (.ref a) (.nd t ds))(c4:Q [] [])(c5:∀{v d vs ds},P v d->Q vs ds->Q (v::vs) (d::ds)):(∀v d,R K F v d->P v d)/\∀vs ds,RL K F vs ds->Q vs ds:=
 ⟨fun _ _ h=>R.rec (motive_1:=fun v d _=>P v d) (motive_2:=fun v d _=>Q v d) (fun e=>c1 e) (fun h _ q=>c2 h q) c4 (fun _ _ p q=>c5 p q) h,fun _ _ h=>RL.rec (motive_1:=fun v d _=>P v d) (motive_2:=fun v d _=>Q v d) (fun e=>c1 e) (fun h _ q=>c2 h q) c4 (fun _ _ p q=>c5 p q) h⟩
theorem R.QpP (s:Qz F F'):(∀v d,R K F v d->R K F' v d)/\∀v d,RL K F v d->RL K F' v d:=R.ind .sc (fun h q=>.nd (h.same s) q) .nil .cons
theorem R.same (s:Qz F F'){v:V}{d:D}(h:R K F v d):R K F' v d:=(R.QpP s).1 _ _ h
theorem RL.same (s:Qz F F'){v:List V}{d:List D}(h:RL K F v d):RL K F' v d:=(R.QpP s).2 _ _ h
theorem RL.length {v:List V}{d:List D}(h:RL K F v d):v.length=d.length:=
 (R.ind (P:=fun _ _=>True) (Q:=fun v d=>v.length=d.length) (fun _=>trivial) (fun _ _=>trivial) rfl (fun _ q=>by rw[z24,z24,q])).2 _ _ h
theorem O.ind {P:V->D->List Addr->Prop}{Q:List V->List D->List Addr->Prop}(c1:∀{v d},D.sc d=some v->P v d [])(c2:∀{a t vs ds fp},t.mut=false->At K F a t vs->Q vs ds fp->P (.ref a) (.nd t ds) fp)(c3:∀{a t vs ds fp},Mt H a t vs->Q vs ds fp->P (.ref a) (.nd t ds) (a::fp))(c4:Q [] [] [])(c5:∀{v d vs ds f g},P v d f->Q vs ds g->Q (v::vs) (d::ds) (f++g)):(∀v d f,O K F H v d f->P v d f)/\∀vs ds f,OL K F H vs ds f->Q vs ds f:=
 ⟨fun _ _ _ h=>O.rec (motive_1:=fun v d f _=>P v d f) (motive_2:=fun v d f _=>Q v d f) (fun e=>c1 e) (fun m h _ q=>c2 m h q) (fun h _ q=>c3 h q) c4 (fun _ _ p q=>c5 p q) h,fun _ _ _ h=>OL.rec (motive_1:=fun v d f _=>P v d f) (motive_2:=fun v d f _=>Q v d f) (fun e=>c1 e) (fun m h _ q=>c2 m h q) (fun h _ q=>c3 h q) c4 (fun _ _ p q=>c5 p q) h⟩
theorem OL.length {v:List V}{d:List D}{f:List Addr}(h:OL K F H v d f):v.length=d.length:=
 (O.ind (P:=fun _ _ _=>True) (Q:=fun v d _=>v.length=d.length) (fun _=>trivial) (fun _ _ _=>trivial) (fun _ _=>trivial) rfl (fun _ q=>by rw[z24,z24,q])).2 _ _ _ h
theorem O.QpQ (s:Qz F F'):(∀v d fp,O K F H v d fp->(∀a∈fp,H' a=H a)->O K F' H' v d fp)/\∀v d fp,OL K F H v d fp->(∀a∈fp,H' a=H a)->OL K F' H' v d fp:=
 O.ind (fun e _=>.sc e) (fun m h q k=>.im m (h.same s) (q k)) (fun h q k=>.mt (h.eq (k _ z07)) (q fun a ha=>k a (z08 _ ha))) (fun _=>.nil) (fun p q k=>.cons (p fun a ha=>k a (z06 _ ha)) (q fun a ha=>k a (z02 _ ha)))
theorem O.keep (s:Qz F F'){v:V}{d:D}{fp:List Addr}(h:O K F H v d fp)(k:∀a∈fp,H' a=H a):O K F' H' v d fp:=(O.QpQ s).1 _ _ _ h k
theorem OL.keep (s:Qz F F'){v:List V}{d:List D}{fp:List Addr}(h:OL K F H v d fp)(k:∀a∈fp,H' a=H a):OL K F' H' v d fp:=(O.QpQ s).2 _ _ _ h k
theorem O.QtW:(∀v d fp,O K F H v d fp->∀a∈fp,∃o,H a=some o/\Mbl o)/\∀v d fp,OL K F H v d fp->∀a∈fp,∃o,H a=some o/\Mbl o:=
 O.ind (fun _ _ z=>nomatch z) (fun _ _ q=>q) (fun h q a ha=>(z13.mp ha).elim (fun e=>e▸h.some) (q a)) (fun _ z=>nomatch z) (fun p q a ha=>(z05.mp ha).elim (p a) (q a))
theorem O.mem {v:V}{d:D}{fp:List Addr}(h:O K F H v d fp)(a:Addr)(ha:a∈fp):∃o,H a=some o/\Mbl o:=O.QtW.1 _ _ _ h a ha
theorem OL.mem {v:List V}{d:List D}{fp:List Addr}(h:OL K F H v d fp)(a:Addr)(ha:a∈fp):∃o,H a=some o/\Mbl o:=O.QtW.2 _ _ _ h a ha
def jn (F H:Hp)(fp:List Addr):Hp:=fun b=>if b∈fp then H b else F b
theorem Qjv {fp:List Addr}(ap:∀a∈fp,F a=none):Qz F (jn F H fp):=fun b o e=>by
 unfold jn
 by_cases h:b∈fp
 ·rw[ap b h] at e;cases e
 ·rw[if_neg h];exact e
theorem Qap {fp:List Addr}(s:Qz F H):Qz (jn F H fp) H:=fun b o e=>by
 unfold jn at e
 by_cases h:b∈fp
 ·rw[if_pos h] at e;exact e
 ·rw[if_neg h] at e;exact s b o e
theorem VS {fp:List Addr}{b:Addr}(h:b∈fp):jn F H fp b=H b:=by unfold jn;rw[if_pos h]
theorem JG {fp:List Addr}{b:Addr}(h:b∉fp):jn F H fp b=F b:=by unfold jn;rw[if_neg h]
def lo (F:Hp)(L:List Addr):Hp:=fun b=>if b∈L then none else F b
theorem lo_le {L:List Addr}:Qz (lo F L) F:=fun b o e=>by
 unfold lo at e
 by_cases h:b∈L
 ·rw[if_pos h] at e;cases e
 ·rw[if_neg h] at e;exact e
theorem Qir {L:List Addr}{b:Addr}(h:b∈L):lo F L b=none:=by unfold lo;rw[if_pos h]
theorem Qa4 {L:List Addr}{b:Addr}(h:b∉L):lo F L b=F b:=by unfold lo;rw[if_neg h]
theorem O.rB (s:Qz F F'):(∀v d fp,O K F H v d fp->(∀a∈fp,F' a=H a)->R K F' v d)/\∀v d fp,OL K F H v d fp->(∀a∈fp,F' a=H a)->RL K F' v d:=
 O.ind (fun e _=>.sc e) (fun m h q k=>.nd (h.same s) (q k)) (fun h q k=>.nd (h.eq (k _ z07)).at (q fun a ha=>k a (z08 _ ha))) (fun _=>.nil) (fun p q k=>.cons (p fun a ha=>k a (z06 _ ha)) (q fun a ha=>k a (z02 _ ha)))
theorem O.r (s:Qz F F'){v:V}{d:D}{fp:List Addr}(h:O K F H v d fp)(k:∀a∈fp,F' a=H a):R K F' v d:=(O.rB s).1 _ _ _ h k
theorem OL.r (s:Qz F F'){v:List V}{d:List D}{fp:List Addr}(h:OL K F H v d fp)(k:∀a∈fp,F' a=H a):RL K F' v d:=(O.rB s).2 _ _ _ h k
theorem QcP {t:Tag}{ds:List D}(h:(D.nd t ds).imm=true):t.mut=false/\D.Jo ds=true:=by
 rw[D.imm,z99] at h
 exact⟨by simpa using h.1,h.2⟩
theorem YJ {d:D}{ds:List D}(h:D.Jo (d::ds)=true):d.imm=true/\D.Jo ds=true:=by
 rw[D.Jo,z99] at h
 exact h
theorem QaW:∀{ds:List D},D.Jo ds=true->∀d∈ds,d.imm=true
 | [],_,d,hd=>nomatch hd
 |x::ds,h,d,hd=>by
  obtain⟨h1,h2⟩:=YJ h
  rcases z13.mp hd with rfl|hd
  ·exact h1
  ·exact QaW h2 d hd
theorem QcQ:∀{ds:List D},(∀d∈ds,d.imm=true)->D.Jo ds=true
 | [],_=>by rw[D.Jo]
 |x::ds,h=>by
  rw[D.Jo,z99]
  exact⟨h x z07,QcQ fun d hd=>h d (z08 _ hd)⟩
theorem QlF {xs ys:List D}(h:D.Jo xs=true)(h':D.Jo ys=true):D.Jo (xs++ys)=true:=QcQ fun d hd=>(z05.mp hd).elim (QaW h d) (QaW h' d)
theorem At.lo {a:Addr}{t:Tag}{vs:List V}{L:List Addr}(m:t.mut=false)(h:At K F a t vs)(hl:∀b∈L,∀o,F b=some o->Mbl o):At K (lo F L) a t vs:=by
 cases t with
 |lst=>cases m
 |tup=>exact(Qa4 fun z=>hl _ z _ h).trans h
 |ins k ns=>
  obtain⟨l,dx,h1,h2⟩:=h
  exact⟨l,dx,(Qa4 fun z=>hl _ z _ h1).trans h1,(Qa4 fun z=>hl _ z _ h2).trans h2⟩
 |dT ks=>cases m
 |dK ks=>cases m
 |exc c=>exact⟨h.1,(Qa4 fun z=>hl _ z _ h.2).trans h.2⟩
theorem R.loB {L:List Addr}(hl:∀b∈L,∀o,F b=some o->Mbl o):(∀v d,R K F v d->d.imm=true->R K (lo F L) v d)/\∀v d,RL K F v d->D.Jo d=true->RL K (lo F L) v d:=
 R.ind (fun e _=>.sc e) (fun h q m=>.nd (h.lo (QcP m).1 hl) (q (QcP m).2)) (fun _=>.nil) (fun p q m=>.cons (p (YJ m).1) (q (YJ m).2))
theorem R.lo {L:List Addr}(hl:∀b∈L,∀o,F b=some o->Mbl o){v:V}{d:D}(h:R K F v d)(m:d.imm=true):R K (lo F L) v d:=(R.loB hl).1 _ _ h m
theorem RL.lo {L:List Addr}(hl:∀b∈L,∀o,F b=some o->Mbl o){v:List V}{d:List D}(h:RL K F v d)(m:D.Jo d=true):RL K (lo F L) v d:=(R.loB hl).2 _ _ h m
theorem R.oB:(∀v d,R K F v d->d.imm=true->O K F H v d [])/\∀v d,RL K F v d->D.Jo d=true->OL K F H v d []:=
 R.ind (fun e _=>.sc e) (fun h q m=>.im (QcP m).1 h (q (QcP m).2)) (fun _=>.nil) (fun p q m=>.cons (f:=[]) (p (YJ m).1) (q (YJ m).2))
theorem R.o {v:V}{d:D}(h:R K F v d)(m:d.imm=true):O K F H v d []:=R.oB.1 _ _ h m
theorem RL.o {v:List V}{d:List D}(h:RL K F v d)(m:D.Jo d=true):OL K F H v d []:=R.oB.2 _ _ h m
theorem O.QuE:(∀v d fp,O K F H v d fp->d.imm=true->fp=[])/\∀v d fp,OL K F H v d fp->D.Jo d=true->fp=[]:=
 O.ind (fun _ _=>rfl) (fun _ _ q i=>q (QcP i).2) (fun h _ i=>absurd h.mut (by rw[(QcP i).1];decide)) (fun _=>rfl) (fun p q i=>by rw[p (YJ i).1,q (YJ i).2];rfl)
theorem OL.QrT {v:List V}{d:List D}{fp:List Addr}(h:OL K F H v d fp)(i:D.Jo d=true):fp=[]:=O.QuE.2 _ _ _ h i
theorem R.QW {v:V}{d:D}{w:V}(h:R K F v d)(e:d.sc=some w):v=w:=by
 cases h with
 |sc e'=>rw[e] at e';exact(z22 e').symm
 |nd h r=>cases e
theorem RL.get {vs:List V}{ds:List D}{i:Nat}{d:D}(r:RL K F vs ds)(e:ds[i]? = some d):∃v,vs[i]? = some v/\R K F v d:=by
 induction i generalizing vs ds with
 |zero=>cases r with
  |nil=>simp at e
  |cons h r=>simp at e;subst e;exact⟨_,rfl,h⟩
 |succ i ih=>cases r with
  |nil=>simp at e
  |cons h r=>
   obtain⟨v,h1,h2⟩:=ih r (by simpa using e)
   exact⟨v,by simpa using h1,h2⟩
theorem RL.app {vs us:List V}{ds es:List D}(h:RL K F vs ds)(r:RL K F us es):RL K F (vs++us) (ds++es):=
 ((R.ind (P:=fun v d=>R K F v d) (Q:=fun vs ds=>RL K F vs ds/\RL K F (vs++us) (ds++es)) .sc (fun h q=>.nd h q.1) ⟨.nil,r⟩ (fun p q=>⟨.cons p q.1,.cons p q.2⟩)).2 _ _ h).2
theorem OL.app {vs us:List V}{ds es:List D}{f g:List Addr}(h:OL K F H vs ds f)(r:OL K F H us es g):OL K F H (vs++us) (ds++es) (f++g):=
 ((O.ind (P:=fun v d f=>O K F H v d f) (Q:=fun vs ds f=>OL K F H vs ds f/\OL K F H (vs++us) (ds++es) (f++g)) .sc (fun m h q=>.im m h q.1) (fun h q=>.mt h q.1) ⟨.nil,r⟩ (fun p q=>⟨.cons p q.1,by rw[z20];exact .cons p q.2⟩)).2 _ _ _ h).2
end
end TL
namespace TL
open PySem L2
inductive Sl where
 |frz (d:D)
 |own (d:D)
 |par (d:D)
abbrev Rho:=List (Option Sl)
structure Cn where
 K:z01
 H₀:Hp
 F₀:Hp
 A:List Addr
 QgL:List (Nat×V)
inductive S1 (K:z01) (F H:Hp):Option V->Option Sl->List Addr->List Addr->Prop
 |non {x:Option V}:S1 K F H x none [] []
 |frz {v:V} {d:D} (h:R K F v d):S1 K F H (some v) (some (.frz d)) [] []
 |own {v:V} {d:D} {f:List Addr} (h:O K F H v d f):S1 K F H (some v) (some (.own d)) f []
 |par {v:V} {d:D} {f:List Addr} (h:O K F H v d f):S1 K F H (some v) (some (.par d)) [] f
inductive SL (K:z01) (F H:Hp):St->Rho->List Addr->List Addr->Prop
 |nil:SL K F H [] [] [] []
 |cons {x:Option V} {s:Option Sl} {σ:St} {ρ:Rho} {f0 g0 f g:List Addr} (h:S1 K F H x s f0 g0) (r:SL K F H σ ρ f g):SL K F H (x::σ) (s::ρ) (f0++f) (g0++g)
section
variable {K:z01}{F F' H H':Hp}
theorem S1.keep {x:Option V}{s:Option Sl}{f g:List Addr}(sf:Qz F F')(h:S1 K F H x s f g)(k:∀a∈f++g,H' a=H a):S1 K F' H' x s f g:=by
 cases h with
 |non=>exact .non
 |frz h=>exact .frz (h.same sf)
 |own h=>exact .own (h.keep sf fun a ha=>k a (z06 _ ha))
 |par h=>exact .par (h.keep sf fun a ha=>k a ha)
theorem S1.mem {x:Option V}{s:Option Sl}{f g:List Addr}(h:S1 K F H x s f g):∀a∈f++g,∃o,H a=some o/\Mbl o:=by
 cases h with
 |non=>intro a ha;exact nomatch ha
 |frz h=>intro a ha;exact nomatch ha
 |own h=>intro a ha;rw[z53] at ha;exact h.mem a ha
 |par h=>intro a ha;exact h.mem a ha
theorem SL.keep (sf:Qz F F'){σ:St}{ρ:Rho}{f g:List Addr}(h:SL K F H σ ρ f g)(k:∀a∈f++g,H' a=H a):SL K F' H' σ ρ f g:=by
 induction h with
 |nil=>exact .nil
 |cons h r ih=>
  refine .cons (h.keep sf fun a ha=>k a ?_) (ih fun a ha=>k a ?_)<;>rcases z05.mp ha with z|z
  ·exact z06 _ (z06 _ z)
  ·exact z02 _ (z06 _ z)
  ·exact z06 _ (z02 _ z)
  ·exact z02 _ (z02 _ z)
theorem SL.mem {σ:St}{ρ:Rho}{f g:List Addr}(h:SL K F H σ ρ f g):∀a∈f++g,∃o,H a=some o/\Mbl o:=by
 induction h with
 |nil=>exact fun a ha=>nomatch ha
 |cons h r ih=>
  intro a ha
  rcases z05.mp ha with z|z<;>rcases z05.mp z with z|z
  ·exact h.mem a (z06 _ z)
  ·exact ih a (z06 _ z)
  ·exact h.mem a (z02 _ z)
  ·exact ih a (z02 _ z)
theorem SL.len {σ:St}{ρ:Rho}{f g:List Addr}(h:SL K F H σ ρ f g):σ.length=ρ.length:=by
 induction h with
 |nil=>rfl
 |cons h r ih=>exact congrArg Nat.succ ih
theorem SL.cut {σ:St}{ρ:Rho}{f g:List Addr}(h:SL K F H σ ρ f g):∀{i:Nat} {s:Option Sl},ρ[i]? = some s->∃x f0 g0 f1 f2 g1 g2,σ[i]? = some x/\S1 K F H x s f0 g0/\f=f1++(f0++f2)/\g=g1++(g0++g2)/\
  ∀{F' H':Hp},Qz F F'->(∀a∈f1++f2++(g1++g2),H' a=H a)->∀{x':Option V} {s':Option Sl} {f0' g0':List Addr},S1 K F' H' x' s' f0' g0'->SL K F' H' (σ.set i x') (ρ.set i s') (f1++(f0'++f2)) (g1++(g0'++g2)):=by
 induction h with
 |nil=>intro i s e;cases e
 | @cons x1 s1 σ1 ρ1 f0 g0 f g h r ih=>
  intro i s e
  cases i with
  |zero=>cases e;exact⟨_,_,_,[],f,[],g,rfl,h,rfl,rfl,fun{F' H'} sf k {x' s' f0' g0'} h'=>show SL K F' H' (_::_) (_::_) (f0'++f) (g0'++g) from .cons h' (r.keep sf k)⟩
  |succ i=>
   obtain⟨x,a0,b0,f1,f2,g1,g2,e1,h1,rfl,rfl,k⟩:=ih (i:=i) (s:=s) e
   refine⟨x,a0,b0,f0++f1,f2,g0++g1,g2,e1,h1,(z20 ..).symm,(z20 ..).symm,fun{F' H'} sf kk {x' s' f0' g0'} h'=>?_⟩
   rw[z20,z20]
   refine SL.cons (h.keep sf fun a ha=>kk a ?_) (k sf (fun a ha=>kk a ?_) h')<;>simp only[z05] at ha ⊢
   ·rcases ha with z|z
    ·exact .inl (.inl (.inl z))
    ·exact .inr (.inl (.inl z))
   ·rcases ha with(z|z)|z|z
    ·exact .inl (.inl (.inr z))
    ·exact .inl (.inr z)
    ·exact .inr (.inl (.inr z))
    ·exact .inr (.inr z)
end
def IsT:HO->Prop
 |.tup _=>True|_=>False
def Nw (H:Hp)(b:Addr)(o:HO):Prop:=H b=none\/IsT o
theorem Nw.not {H H':Hp}{b:Addr}{o o':HO}(n:Nw H b o)(e:H b≠none)(e':H' b=some o)(e2:H' b=some o')(m:Mbl o'):False:=by
 rcases n with z|z
 ·exact e z
 ·rw[e'] at e2;cases e2
  cases o with
  |tup _=>exact m
  |_=>exact z
theorem Nw.up {H H':Hp}{b:Addr}{o:HO}(n:Nw H b o)(f:H b=none->H' b=none):Nw H' b o:=n.imp f id
structure SI (C:Cn)(F H:Hp)(σ:St)(ρ:Rho)(τ:List (V×D))(fp:List Addr):Prop where
 sl:∃f g t,SL C.K F H σ ρ f g/\OL C.K F H (τ.map (·.1)) (τ.map (·.2)) t/\fp.Perm (f++(g++t))/\(∀a∈f,C.H₀ a=none)/\(∀a∈t,C.H₀ a=none)/\∀a∈g,a∈C.A\/C.H₀ a=none
 nd:fp.Nodup
 ap:∀a∈fp,F a=none
 fh:Qz F H
 f0:Qz C.F₀ F
 fn:∀b o,F b=some o->C.F₀ b=some o\/Nw C.H₀ b o
 kp:∀b o,C.H₀ b=some o->b∉C.A->H b=some o
 dm:∀b,H b=none->C.H₀ b=none
 pr:∀j v,(j,v)∈C.QgL->σ[j]? = some (some v)/\∃d,ρ[j]? = some (some (.par d))
section
variable {C:Cn}{F F' H H':Hp}{σ:St}{ρ:Rho}{τ:List (V×D)}{fp:List Addr}
theorem SI.len (I:SI C F H σ ρ τ fp):σ.length=ρ.length:=let ⟨_,_,_,s,_⟩:=I.sl;s.len
theorem SI.mem (I:SI C F H σ ρ τ fp):∀a∈fp,∃o,H a=some o/\Mbl o:=fun a ha=>by
 obtain⟨f,g,t,s,o,p,_⟩:=I.sl
 have z:=p.mem_iff.mp ha
 rcases z05.mp z with z|z
 ·exact s.mem a (z06 _ z)
 ·rcases z05.mp z with z|z
  ·exact s.mem a (z02 _ z)
  ·exact o.mem a z
theorem SI.perm {fp':List Addr}(I:SI C F H σ ρ τ fp)(p:fp.Perm fp'):SI C F H σ ρ τ fp':=by
 obtain⟨f,g,t,s,o,q,r⟩:=I.sl
 exact⟨⟨f,g,t,s,o,p.symm.trans q,r⟩,p.nodup_iff.mp I.nd,fun a ha=>I.ap a (p.mem_iff.mpr ha),I.fh,I.f0,I.fn,I.kp,I.dm,I.pr⟩
theorem SI.step (I:SI C F H σ ρ τ fp)(sf:Qz F F')(fh:Qz F' H')(hk:∀a∈fp,H' a=H a)(ap:∀a∈fp,F' a=none)(fn:∀b o,F' b=some o->F b=some o\/Nw C.H₀ b o)(kp:∀b o,C.H₀ b=some o->b∉C.A->H b=some o->H' b=some o)(dm:∀b,H' b=none->H b=none):SI C F' H' σ ρ τ fp:=by
 obtain⟨f,g,t,s,o,q,h1,h2,h3⟩:=I.sl
 have inn:∀{a:Addr},a∈f++(g++t)->H' a=H a:=fun z=>hk _ (q.mem_iff.mpr z)
 refine⟨⟨f,g,t,s.keep sf fun a ha=>inn (by
  rcases z05.mp ha with z|z
  ·exact z06 _ z
  ·exact z02 _ (z06 _ z)),o.keep sf fun a ha=>inn (z02 _ (z02 _ ha)),q,h1,h2,h3⟩,I.nd,ap,fh,I.f0.trans sf,fun b ob e=>?_,fun b ob e n=>?_,fun b e=>?_,I.pr⟩
 ·rcases fn b ob e with z|z
  ·exact I.fn b ob z
  ·exact .inr z
 ·exact kp b ob e n (I.kp b ob e n)
 ·exact I.dm b (dm b e)
theorem SI.lay {p:Addr}{o:HO}(I:SI C F H σ ρ τ fp)(hp:H p=none):SI C (upd F p o) (upd H p o) σ ρ τ fp:=by
 have np:∀a∈fp,a≠p:=fun a ha=>by
  obtain⟨_,e,_⟩:=I.mem a ha
  exact QL e hp
 have fp0:F p=none:=I.fh.free hp
 refine I.step (Qz.upd fp0) (fun b ob e=>?_) (fun a ha=>Qp (np a ha)) (fun a ha=>(Qp (np a ha)).trans (I.ap a ha)) (fun b ob e=>?_) (fun b ob _ _ e=>Qz.upd hp b ob e) fun b e=>(Qz.upd hp).free e
 ·by_cases hb:b=p
  ·subst hb;rw[Qy] at e ⊢;exact e
  ·rw[Qp hb] at e ⊢;exact I.fh b ob e
 ·by_cases hb:b=p
  ·subst hb;exact .inr (.inl (I.dm b hp))
  ·rw[Qp hb] at e;exact .inl e
theorem SI.lay0 {p:Addr}{o:HO}(I:SI C F H σ ρ τ fp)(hp:H p=none):SI C F (upd H p o) σ ρ τ fp:=by
 have np:∀a∈fp,a≠p:=fun a ha=>by
  obtain⟨_,e,_⟩:=I.mem a ha
  exact QL e hp
 exact I.step (Qz.refl F) (I.fh.trans (Qz.upd hp)) (fun a ha=>Qp (np a ha)) I.ap (fun b ob e=>.inl e) (fun b ob _ _ e=>Qz.upd hp b ob e) fun b e=>(Qz.upd hp).free e
theorem SI.pop {v:V}{d:D}(I:SI C F H σ ρ ((v,d)::τ) fp):∃f rest,O C.K F H v d f/\fp.Perm (f++rest)/\SI C F H σ ρ τ rest/\(∀a∈f,C.H₀ a=none)/\(∀a∈f,F a=none)/\(f++rest).Nodup:=by
 obtain⟨f,g,t,s,o,q,h1,h2,h3⟩:=I.sl
 cases o with
 | @cons _ _ _ _ t1 t2 o1 o2=>
  have p:fp.Perm (t1++(f++(g++t2))):=by
   refine q.trans ?_
   rw[z79]
   intro a
   simp only[z87]
   lia
  have nd:=p.nodup_iff.mp I.nd
  refine⟨t1,f++(g++t2),o1,p,⟨⟨f,g,t2,s,o2,.refl _,h1,fun a ha=>h2 a (z02 _ ha),h3⟩,(z09.mp nd).2.1,fun a ha=>I.ap a (p.mem_iff.mpr (z02 _ ha)),I.fh,I.f0,I.fn,I.kp,I.dm,I.pr⟩,fun a ha=>h2 a (z06 _ ha),fun a ha=>I.ap a (p.mem_iff.mpr (z06 _ ha)),nd⟩
theorem SI.push {v:V}{d:D}{f rest:List Addr}(I:SI C F H σ ρ τ rest)(h:O C.K F H v d f)(h0:∀a∈f,C.H₀ a=none)(ap:∀a∈f,F a=none)(nd:(f++rest).Nodup):SI C F H σ ρ ((v,d)::τ) (f++rest):=by
 obtain⟨f1,g,t,s,o,q,h1,h2,h3⟩:=I.sl
 refine⟨⟨f1,g,f++t,s,.cons h o,?_,h1,fun a ha=>(z05.mp ha).elim (h0 a) (h2 a),h3⟩,nd,fun a ha=>(z05.mp ha).elim (ap a) (I.ap a),I.fh,I.f0,I.fn,I.kp,I.dm,I.pr⟩
 refine(q.append_left f).trans ?_
 rw[z79]
 intro a
 simp only[z87]
 lia
theorem SI.cut (I:SI C F H σ ρ τ fp){i:Nat}{s:Option Sl}(hs:ρ[i]? = some s):∃x f0 g0 rest,σ[i]? = some x/\S1 C.K F H x s f0 g0/\fp.Perm (f0++(g0++rest))/\(∀a∈f0,C.H₀ a=none)/\(∀a∈g0,a∈C.A\/C.H₀ a=none)/\
  ∀{F' H':Hp} {x':Option V} {s':Option Sl} {f0' g0':List Addr},Qz F F'->Qz F' H'->(∀a∈rest,H' a=H a)->(∀b,H' b=none->H b=none)->(∀b o,C.H₀ b=some o->b∉C.A->H b=some o->H' b=some o)->(∀b o,F' b=some o->F b=some o\/Nw C.H₀ b o)->
   S1 C.K F' H' x' s' f0' g0'->(f0'++(g0'++rest)).Nodup->(∀a∈f0'++(g0'++rest),F' a=none)->(∀a∈f0',C.H₀ a=none)->(∀a∈g0',a∈C.A\/C.H₀ a=none)->(∀v,(i,v)∈C.QgL->x'=some v/\∃d,s'=some (.par d))->
   SI C F' H' (σ.set i x') (ρ.set i s') τ (f0'++(g0'++rest)):=by
 obtain⟨f,g,t,sl,o,q,h1,h2,h3⟩:=I.sl
 obtain⟨x,f0,g0,f1,f2,g1,g2,ex,s1,rfl,rfl,k⟩:=sl.cut hs
 have mv:∀(f0 g0:List Addr),(f0++(g0++(f1++f2++(g1++g2)++t))).Perm ((f1++(f0++f2))++((g1++(g0++g2))++t)):=fun f0 g0=>by
  rw[z79]
  intro a
  simp only[z87]
  lia
 refine⟨x,f0,g0,f1++f2++(g1++g2)++t,ex,s1,q.trans (mv f0 g0).symm,fun a ha=>h1 a (by simp[ha]),fun a ha=>h3 a (by simp[ha]),fun{F' H' x' s' f0' g0'} sf fh hk dm kp fn n1 nd ap w0 w1 pr=>?_⟩
 have z:=k sf (fun a ha=>hk a (z06 _ ha)) n1
 refine⟨⟨_,_,t,z,o.keep sf fun a ha=>hk a (z02 _ ha),mv f0' g0',fun a ha=>?_,h2,fun a ha=>?_⟩,nd,ap,fh,I.f0.trans sf,fun b ob e=>?_,fun b ob e n=>?_,fun b e=>I.dm b (dm b e),fun j v hj=>?_⟩
 ·simp only[z05] at ha
  rcases ha with z|z|z
  ·exact h1 a (by simp[z])
  ·exact w0 a z
  ·exact h1 a (by simp[z])
 ·simp only[z05] at ha
  rcases ha with z|z|z
  ·exact h3 a (by simp[z])
  ·exact w1 a z
  ·exact h3 a (by simp[z])
 ·rcases fn b ob e with z|z
  ·exact I.fn b ob z
  ·exact .inr z
 ·exact kp b ob e n (I.kp b ob e n)
 ·obtain⟨p1,d,p2⟩:=I.pr j v hj
  by_cases e:i=j
  ·subst e
   obtain⟨q1,d',q2⟩:=pr v hj
   have l1:i<σ.length:=(z26.mp p1).1
   have l2:i<ρ.length:=(z26.mp p2).1
   exact⟨by rw[z96 l1,q1],d',by rw[z96 l2,q2]⟩
  ·exact⟨by rw[z65 e];exact p1,d,by rw[z65 e];exact p2⟩
theorem QnA {p q:List Addr}(h:p.Perm q):jn F H p=jn F H q:=by
 funext b
 unfold jn
 by_cases hb:b∈p
 ·rw[if_pos hb,if_pos (h.mem_iff.mp hb)]
 ·rw[if_neg hb,if_neg fun z=>hb (h.mem_iff.mpr z)]
theorem SI.freeze {v:V}{d:D}(I:SI C F H σ ρ ((v,d)::τ) fp):∃F' rest,SI C F' H σ ρ τ rest/\Qz F F'/\R C.K F' v d/\jn F' H rest=jn F H fp:=by
 obtain⟨f,rest,o,p,J,h0,ap,nd⟩:=I.pop
 have dis:∀a∈rest,a∉f:=fun a ha hf=>(z09.mp nd).2.2 a hf a ha rfl
 have sf:Qz F (jn F H f):=Qjv ap
 refine⟨jn F H f,rest,J.step sf (Qap J.fh) (fun _ _=>rfl) (fun a ha=>(JG (dis a ha)).trans (J.ap a ha)) (fun b ob e=>?_) (fun b ob _ _ e=>e) (fun _ e=>e),sf,o.r sf fun a ha=>VS ha,?_⟩
 ·by_cases hb:b∈f
  ·exact .inr (.inl (h0 b hb))
  ·rw[JG hb] at e;exact .inl e
 ·funext b
  unfold jn
  by_cases hb:b∈rest
  ·rw[if_pos hb,if_pos (p.mem_iff.mpr (z02 _ hb))]
  ·rw[if_neg hb]
   by_cases hf:b∈f
   ·rw[if_pos hf,if_pos (p.mem_iff.mpr (z06 _ hf))]
   ·rw[if_neg hf,if_neg fun z=>(z05.mp (p.mem_iff.mp z)).elim hf hb]
theorem SI.drop (I:SI C F H σ ρ τ fp):∃fp',SI C F H σ ρ [] fp':=by
 induction τ generalizing fp with
 |nil=>exact⟨fp,I⟩
 |cons x τ ih=>
  obtain⟨f,rest,_,_,J,_⟩:=SI.pop (v:=x.1) (d:=x.2) I
  exact ih J
end
inductive Rs (α:Type) where
 |ok (a:α)
 |ex (c:Addr) (ρ:Rho)
 |no
def Rs.bind {α β:Type}:Rs α->(α->Rs β)->Rs β
 |.ok a,f=>f a
 |.ex c ρ,_=>.ex c ρ
 |.no,_=>.no
def Rs.of {α:Type}:Option α->Rs α
 |some a=>.ok a
 |none=>.no
abbrev ME:=Rho->Rs (D×Rho)
abbrev MT:=Rho->Rs (Bool×Rho)
abbrev MA:=Rho->Rs (List D×Rho)
abbrev XE:=L2.St->XK
def Run (C:Cn)(E:XE)(σ:L2.St){α:Type}(r:Rs α)(k:α->Prop):Prop:=match r with
 |.ok a=>k a
 |.ex c ρ=>∀F H fp,SI C F H σ ρ [] fp->E σ (.ref c) none H
 |.no=>False
section
variable {C:Cn}{E:XE}{σ:L2.St}{α β:Type}
theorem Run.mono {r:Rs α}{k k':α->Prop}(h:Run C E σ r k)(f:∀a,k a->k' a):Run C E σ r k':=by
 cases r with
 |ok a=>exact f a h
 |ex c ρ=>exact h
 |no=>exact h
theorem Run.split {r:Rs α}{f:α->Rs β}{k:β->Prop}(h:Run C E σ (r.bind f) k):Run C E σ r fun a=>Run C E σ (f a) k:=by
 cases r with
 |ok a=>exact h
 |ex c ρ=>exact h
 |no=>exact h
theorem Run.of {o:Option α}{k:α->Prop}(h:Run C E σ (Rs.of o) k):∃a,o=some a/\k a:=by
 cases o with
 |none=>exact h.elim
 |some a=>exact⟨a,rfl,h⟩
end
inductive Kd where
 |V|O|B|S (i:Nat)
def Kd.tk:Kd->L2.V->D->List (L2.V×D)->List (L2.V×D)
 |.O,v,d,τ=>(v,d)::τ
 |_,_,_,τ=>τ
def Kd.fc (C:Cn)(F H:Hp)(fp:List Addr)(σ:L2.St)(v:L2.V)(d:D):Kd->Prop
 |.V=>R C.K F v d
 |.B=>R C.K (jn F H fp) v d
 |.O=>True
 |.S i=>σ[i]? = some (some v)
structure Nx (p:Bool)(F H:Hp)(fp:List Addr)(F' H':Hp)(fp':List Addr):Prop where
 f:Qz F F'
 g:p=true->Qz (jn F H fp) (jn F' H' fp')
theorem Nx.refl {p:Bool}{F H:Hp}{fp:List Addr}:Nx p F H fp F H fp:=⟨Qz.refl _,fun _=>Qz.refl _⟩
theorem Nx.trans {p q:Bool}{F H F1 H1 F2 H2:Hp}{fp fp1 fp2:List Addr}(a:Nx p F H fp F1 H1 fp1)(b:Nx q F1 H1 fp1 F2 H2 fp2):Nx (p && q) F H fp F2 H2 fp2:=
 ⟨a.f.trans b.f,fun h=>(a.g (z66.mp h).1).trans (b.g (z66.mp h).2)⟩
theorem Nx.weak {p q:Bool}{F H F1 H1:Hp}{fp fp1:List Addr}(a:Nx p F H fp F1 H1 fp1)(h:q=true->p=true):Nx q F H fp F1 H1 fp1:=⟨a.f,fun z=>a.g (h z)⟩
def tX (k:Kd)(C:Cn)(p:Bool)(E:XE)(m:ME):TE:=fun σ H Q=>∃F ρ τ fp,SI C F H σ ρ τ fp/\Run C E σ (m ρ) fun r=>
 ∀F' H' fp' v,SI C F' H' σ r.2 (k.tk v r.1 τ) fp'->Nx p F H fp F' H' fp'->k.fc C F' H' fp' σ v r.1->Q v H'
def tT (C:Cn)(p:Bool)(E:XE)(m:MT):TT:=fun σ H Q=>∃F ρ τ fp,SI C F H σ ρ τ fp/\Run C E σ (m ρ) fun r=>
 ∀F' H' fp',SI C F' H' σ r.2 τ fp'->Nx p F H fp F' H' fp'->Q r.1 H'
def tkL:List Kd->List L2.V->List D->List (L2.V×D)->List (L2.V×D)
 |k::ks,v::vs,d::ds,τ=>tkL ks vs ds (k.tk v d τ)
 |_,_,_,τ=>τ
inductive FcL (C:Cn) (F H:Hp) (fp:List Addr) (σ:L2.St):List Kd->List L2.V->List D->Prop
 |nil:FcL C F H fp σ [] [] []
 |cons {k:Kd} {v:L2.V} {d:D} {ks:List Kd} {vs:List L2.V} {ds:List D} (h:k.fc C F H fp σ v d) (r:FcL C F H fp σ ks vs ds):FcL C F H fp σ (k::ks) (v::vs) (d::ds)
def tA (ks:List Kd)(C:Cn)(p:Bool)(E:XE)(m:MA):TA:=fun σ H Q=>∃F ρ τ fp,SI C F H σ ρ τ fp/\Run C E σ (m ρ) fun r=>
 ∀F' H' fp' vs,SI C F' H' σ r.2 (tkL ks vs r.1 τ) fp'->Nx p F H fp F' H' fp'->FcL C F' H' fp' σ ks vs r.1->Q vs H'
theorem Qv {X:Cx}{e:Expr}{t t':TE}(h:PE X e t)(k:∀σ H Q,t' σ H Q->t σ H Q):PE X e t':=fun pins s σ H Q I q=>h pins s σ H Q I (k _ _ _ q)
theorem Qes {X:Cx}{e:Expr}{t t':TT}(h:PT X e t)(k:∀σ H Q,t' σ H Q->t σ H Q):PT X e t':=fun pins s σ H Q I q=>h pins s σ H Q I (k _ _ _ q)
theorem Qjw {X:Cx}{e:List Expr}{t t':TA}(h:PA X e t)(k:∀σ H Q,t' σ H Q->t σ H Q):PA X e t':=fun pos pins s σ H Q I q=>h pos pins s σ H Q I (k _ _ _ q)
theorem Ju {X:Cx}{e:Stmt}{t t':TS}(h:PS X e t)(k:∀D σ H,t' D σ H->t D σ H):PS X e t':=fun pins s σ H D I q=>h pins s σ H D I (k _ _ _ q)
theorem Qcu {X:Cx}{e:List Stmt}{t t':TS}(h:PSs X e t)(k:∀D σ H,t' D σ H->t D σ H):PSs X e t':=fun pins s σ H D I q=>h pins s σ H D I (k _ _ _ q)
section
variable {X:Cx}{C:Cn}{E:XE}{p pa pb:Bool}{e a b:Expr}{m ma mb:ME}{pos:Pos}{k ka kb:Kd}
theorem R.tj {F H:Hp}{σ:L2.St}{ρ:Rho}{τ:List (V×D)}{fp:List Addr}{v:L2.V}{d:D}(I:SI C F H σ ρ τ fp)(h:R C.K F v d):R C.K (jn F H fp) v d:=h.same (Qjv I.ap)
theorem R.top {F H:Hp}{σ:L2.St}{ρ:Rho}{τ:List (V×D)}{fp:List Addr}{v:L2.V}{d:D}(I:SI C F H σ ρ τ fp)(h:R C.K (jn F H fp) v d):R C.K H v d:=h.same (Qap I.fh)
def mC (d:D):ME:=fun ρ=>.ok (d,ρ)
theorem QlG {d:D}{v:L2.V}(e:d.sc=some v){σ:L2.St}{H:Hp}{Q:VK}(h:tX .V C true E (mC d) σ H Q):tC v σ H Q:=by
 obtain⟨F,ρ,τ,fp,I,r⟩:=h
 exact r F H fp v I .refl (.sc e)
theorem Qg {i j pos}:PE X (.Constant (.int i) j pos) (tX .V C true E (mC (.int i))):=Qv Qo1 fun _ _ _ h=>QlG rfl h
theorem Qbw {b j pos}:PE X (.Constant (.bool b) j pos) (tX .V C true E (mC (.bl b))):=Qv Qr7 fun _ _ _ h=>QlG rfl h
theorem Qjx {x:Str}{d:D}{v:L2.V}{u:Value}{pos:Pos}(ed:d.sc=some v)(r:RelV v u)(hm:X.mg x=some u)(hg:Gl X x:=by rfl)(hd:(x == ("__debug__" : Str))=false:=by decide):PE X (.Name x pos) (tX .V C true E (mC d)):=Qv (QmV hg hm r hd) fun _ _ _ h=>QlG ed h
theorem VT {x:Str}{n:String}{pos:Pos}(hm:X.mg x=none)(hv:z71 x=some (.type n))(hg:Gl X x:=by rfl)(hn:x ≠ "__name__" := by decide)(hd:(x == ("__debug__" : Str))=false:=by decide):PE X (.Name x pos) (tX .V C true E (mC (.ty n))):=Qv (QmW (v:=.ty n) hg hm hv rfl hn hd) fun _ _ _ h=>QlG rfl h
def mB (i:Nat):ME:=fun ρ=>match ρ[i]? with
 |some (some (.frz d))=>.ok (d,ρ)
 |some (some (.own d))=>.ok (d,ρ)
 |some (some (.par d))=>.ok (d,ρ)
 |_=>.no
theorem QpR {i:Nat}{x:Str}{pos:Pos}(hN:X.N[i]? = some x)(hv:Vis X.env.scope x)(hd:(x == ("__debug__" : Str))=false:=by decide)(hcd:(x == ("__classdict__" : Str))=false:=by decide):PE X (.Name x pos) (tX .B C true E (mB i)):=Qv (Qar hN hv hd hcd) fun σ H Q ⟨F,ρ,τ,fp,I,r⟩=>by
 unfold mB at r
 cases es:ρ[i]? with
 |none=>rw[es] at r;exact r.elim
 |some s=>
  rw[es] at r
  obtain⟨y,f0,g0,rest,ey,s1,pm,_,_,_⟩:=I.cut es
  cases s1 with
  |non=>exact r.elim
  |frz h=>exact⟨_,ey,r F H fp _ I .refl (h.tj I)⟩
  |own h=>exact⟨_,ey,r F H fp _ I .refl (h.r (Qjv I.ap) fun a ha=>VS (pm.mem_iff.mpr (z06 _ ha)))⟩
  |par h=>exact⟨_,ey,r F H fp _ I .refl (h.r (Qjv I.ap) fun a ha=>VS (pm.mem_iff.mpr (z02 _ (z06 _ ha))))⟩
def mV (i:Nat):ME:=fun ρ=>match ρ[i]? with
 |some (some (.frz d))=>.ok (d,ρ)
 |some (some (.own d))=>.ok (d,ρ.set i (some (.frz d)))
 |_=>.no
theorem JS {α:Type}{l:List α}{i:Nat}{x:α}(h:l[i]? = some x):l.set i x=l:=by
 apply zh9
 intro j
 by_cases e:i=j
 ·subst e
  rw[z96 (z26.mp h).1,h]
 ·rw[z65 e]
theorem SI.QnB {F H:Hp}{σ:L2.St}{ρ:Rho}{τ:List (V×D)}{fp:List Addr}{i:Nat}{d:D}(I:SI C F H σ ρ τ fp)(es:ρ[i]? = some (some (.own d))) :
  ∃F' fp' v,σ[i]? = some (some v)/\SI C F' H σ (ρ.set i (some (.frz d))) τ fp'/\R C.K F' v d/\Qz F F'/\jn F' H fp'=jn F H fp:=by
 obtain⟨y,f0,g0,rest,ey,s1,pm,w0,w1,cl⟩:=I.cut es
 cases s1 with
 | @own v _ _ h=>
  have nd:=pm.nodup_iff.mp I.nd
  have ap:∀a∈f0,F a=none:=fun a ha=>I.ap a (pm.mem_iff.mpr (z06 _ ha))
  have dis:∀a∈rest,a∉f0:=fun a ha hf=>(z09.mp nd).2.2 a hf a ha rfl
  have sf:Qz F (TL.jn F H f0):=Qjv ap
  have rr:R C.K (TL.jn F H f0) v d:=h.r sf fun a ha=>VS ha
  have q:=cl (F':=TL.jn F H f0) (H':=H) (x':=some v) (s':=some (.frz d)) (f0':=[]) (g0':=[]) sf (Qap I.fh) (fun _ _=>rfl) (fun _ z=>z) (fun _ _ _ _ z=>z) (fun b o e=>by
   by_cases hb:b∈f0
   ·exact .inr (.inl (w0 b hb))
   ·rw[JG hb] at e;exact .inl e) (.frz rr) (z09.mp nd).2.1 (fun a ha=>(JG (dis a ha)).trans (I.ap a (pm.mem_iff.mpr (z02 _ ha)))) (fun _ z=>nomatch z) (fun _ z=>nomatch z) (fun v' hv=>by
    obtain⟨_,d',z⟩:=I.pr _ _ hv
    rw[es] at z;cases z)
  rw[JS ey] at q
  refine⟨_,_,v,ey,q,rr,sf,?_⟩
  funext b
  show TL.jn (TL.jn F H f0) H rest b=TL.jn F H fp b
  unfold TL.jn
  by_cases hb:b∈rest
  ·rw[if_pos hb,if_pos (pm.mem_iff.mpr (z02 _ hb))]
  ·rw[if_neg hb]
   by_cases hf:b∈f0
   ·rw[if_pos hf,if_pos (pm.mem_iff.mpr (z06 _ hf))]
   ·rw[if_neg hf,if_neg fun z=>(z05.mp (pm.mem_iff.mp z)).elim hf hb]
theorem QpS {i:Nat}{x:Str}{pos:Pos}(hN:X.N[i]? = some x)(hv:Vis X.env.scope x)(hd:(x == ("__debug__" : Str))=false:=by decide)(hcd:(x == ("__classdict__" : Str))=false:=by decide):PE X (.Name x pos) (tX .V C true E (mV i)):=Qv (Qar hN hv hd hcd) fun σ H Q ⟨F,ρ,τ,fp,I,r⟩=>by
 unfold mV at r
 cases es:ρ[i]? with
 |none=>rw[es] at r;exact r.elim
 |some s=>
  rw[es] at r
  cases s with
  |none=>exact r.elim
  |some s=>
   cases s with
   |frz d=>
    obtain⟨y,f0,g0,rest,ey,s1,_⟩:=I.cut es
    cases s1 with
    |frz h=>exact⟨_,ey,r F H fp _ I .refl h⟩
   |own d=>
    obtain⟨F',fp',v,ey,J,rr,sf,je⟩:=I.QnB es
    exact⟨v,ey,r F' H fp' v J ⟨sf,fun _=>by rw[je];exact Qz.refl _⟩ rr⟩
   |par d=>exact r.elim
def mO (i:Nat):ME:=fun ρ=>match ρ[i]? with
 |some (some (.own d))=>.ok (d,ρ.set i none)
 |_=>.no
theorem QpT {i:Nat}{x:Str}{pos:Pos}(hN:X.N[i]? = some x)(hv:Vis X.env.scope x)(hd:(x == ("__debug__" : Str))=false:=by decide)(hcd:(x == ("__classdict__" : Str))=false:=by decide):PE X (.Name x pos) (tX .O C true E (mO i)):=Qv (Qar hN hv hd hcd) fun σ H Q ⟨F,ρ,τ,fp,I,r⟩=>by
 unfold mO at r
 cases es:ρ[i]? with
 |none=>rw[es] at r;exact r.elim
 |some s=>
  rw[es] at r
  obtain⟨y,f0,g0,rest,ey,s1,pm,w0,w1,cl⟩:=I.cut es
  cases s1 with
  |non=>exact r.elim
  |frz h=>exact r.elim
  |par h=>exact r.elim
  | @own v d f h=>
   have nd:=pm.nodup_iff.mp I.nd
   have q:=cl (F':=F) (H':=H) (x':=some v) (s':=none) (f0':=[]) (g0':=[]) (Qz.refl _) I.fh (fun _ _=>rfl) (fun _ z=>z) (fun _ _ _ _ z=>z) (fun b o e=>.inl e) .non (z09.mp nd).2.1 (fun a ha=>I.ap a (pm.mem_iff.mpr (z02 _ ha))) (fun _ z=>nomatch z) (fun _ z=>nomatch z) (fun v' hv=>by
    obtain⟨_,d',z⟩:=I.pr _ _ hv
    rw[es] at z;cases z)
   rw[JS ey] at q
   have q2:=q.push h w0 (fun a ha=>I.ap a (pm.mem_iff.mpr (z06 _ ha))) nd
   refine⟨v,ey,r F H _ v q2 ⟨Qz.refl _,fun _=>?_⟩ z58⟩
   have e:TL.jn F H fp=TL.jn F H (f0++([]++([]++rest))):=QnA pm
   rw[e]
   exact Qz.refl _
theorem QbO (h:PE X e (tX .O C p E m)):PE X e (tX .V C p E m):=Qv h fun σ H Q ⟨F,ρ,τ,fp,I,r⟩=>
 ⟨F,ρ,τ,fp,I,r.mono fun a z F' H' fp' v I' n f=>by
  obtain⟨F2,rest,J,sf,rr,je⟩:=SI.freeze (show SI C F' H' σ a.2 ((v,a.1)::τ) fp' from I')
  exact z F2 H' rest v J ⟨n.f.trans sf,fun hp=>by rw[je];exact n.g hp⟩ rr⟩
def mI (m:ME):ME:=fun ρ=>(m ρ).bind fun r=>if r.1.imm=true then .ok r else .no
theorem YK (h:PE X e (tX .V C p E m)):PE X e (tX .O C p E (mI m)):=Qv h fun σ H Q ⟨F,ρ,τ,fp,I,r⟩=>
 ⟨F,ρ,τ,fp,I,r.split.mono fun a z F' H' fp' v I' n f=>by
  by_cases hi:a.1.imm=true
  ·rw[if_pos hi] at z
   have J:=SI.push (τ:=τ) I' (R.o (H:=H') f hi) (fun _ z=>nomatch z) (fun _ z=>nomatch z) (by simpa using I'.nd)
   exact z F' H' fp' v J n z58
  ·rw[if_neg hi] at z
   exact z.elim⟩
def OpD (K:z01)(r:R2)(g:D->D->Option D):Prop:=∀H v u d e res,R K H v d->R K H u e->g d e=some res->∃w,res.sc=some w/\∀Q:VK,Q w H->r v u H Q
def mOp (g:D->D->Option D)(ma mb:ME):ME:=fun ρ=>(ma ρ).bind fun r1=>(mb r1.2).bind fun r2=>Rs.of ((g r1.1 r2.1).map fun d=>(d,r2.2))
def Kd.on:Kd->Bool->Bool
 |.V,_=>true
 |.B,p=>p
 |.O,_=>false
 |.S _,_=>false
theorem Kd.stay {F H F1 H1:Hp}{σ:L2.St}{ρ:Rho}{τ':List (L2.V×D)}{fp fp1:List Addr}{v:L2.V}{d:D}{q:Bool}(ok:k.on q=true)(h:k.fc C F H fp σ v d)(n:Nx q F H fp F1 H1 fp1)(I:SI C F1 H1 σ ρ τ' fp1):R C.K (TL.jn F1 H1 fp1) v d:=by
 cases k with
 |V=>exact(R.same n.f h).tj I
 |B=>exact R.same (n.g ok) h
 |O=>cases ok
 |S i=>cases ok
theorem Kd.Vg {q:Bool}(ok:k.on q=true)(v:L2.V)(d:D)(τ:List (L2.V×D)):k.tk v d τ=τ:=by
 cases k with
 |V=>rfl
 |B=>rfl
 |O=>cases ok
 |S i=>cases ok
theorem Qjy {r:R2}{g:D->D->Option D}(hg:OpD C.K r g)(ok:ka.on pb=true)(ok2:kb.on true=true){σ:L2.St}{H:Hp}{Q:VK}(h:tX .V C (pa && pb) E (mOp g ma mb) σ H Q):tOp r (tX ka C pa E ma) (tX kb C pb E mb) σ H Q:=by
 obtain⟨F,ρ,τ,fp,I,h⟩:=h
 refine⟨F,ρ,τ,fp,I,h.split.mono fun r1 h1 F1 H1 fp1 v1 I1 n1 f1=>?_⟩
 rw[Kd.Vg ok] at I1
 refine⟨F1,r1.2,τ,fp1,I1,h1.split.mono fun r2 h2 F2 H2 fp2 v2 I2 n2 f2=>?_⟩
 rw[Kd.Vg ok2] at I2
 obtain⟨z,ez,h3⟩:=h2.of
 obtain⟨res,eg,rfl⟩:=z03.mp ez
 obtain⟨w,ew,hw⟩:=hg H2 v1 v2 _ _ _ (R.top I2 (Kd.stay ok f1 n2 I2)) (R.top I2 (Kd.stay ok2 f2 .refl I2)) eg
 exact hw _ (h3 F2 H2 fp2 w I2 (n1.trans n2) (.sc ew))
theorem Yq {op:Operator}{r:R2}{g:D->D->Option D}(ho:OpR X (binaryOp op) r)(hg:OpD C.K r g)(ha:PE X a (tX ka C pa E ma))(hb:PE X b (tX kb C pb E mb))(ok:ka.on pb=true:=by rfl)(ok2:kb.on true=true:=by rfl):PE X (.BinOp a op b pos) (tX .V C (pa && pb) E (mOp g ma mb)):=
 Qv (Qpe ho ha hb) fun _ _ _ h=>Qjy hg ok ok2 h
theorem QnC {op:CmpOp}{r:R2}{g:D->D->Option D}(ho:OpR X (compareOp op) r)(hg:OpD C.K r g)(ha:PE X a (tX ka C pa E ma))(hb:PE X b (tX kb C pb E mb))(hm:behindInMarks op b=false)(ok:ka.on pb=true:=by rfl)(ok2:kb.on true=true:=by rfl):PE X (.Compare a [op] [b] pos) (tX .V C (pa && pb) E (mOp g ma mb)):=
 Qv (Qm2 ho ha hb hm) fun _ _ _ h=>Qjy hg ok ok2 h
def asB:D->Option Bool
 |.bl b=>some b
 |_=>none
def QF (m:ME):MT:=fun ρ=>(m ρ).bind fun r=>Rs.of ((asB r.1).map fun b=>(b,r.2))
theorem Qet (ok:k.on true=true){σ:L2.St}{H:Hp}{Q:Bool->Hp->Prop}(h:tT C p E (QF m) σ H Q):Qm3 (tX k C p E m) σ H Q:=by
 obtain⟨F,ρ,τ,fp,I,h⟩:=h
 refine⟨F,ρ,τ,fp,I,h.split.mono fun r h F1 H1 fp1 v1 I1 n1 f1=>?_⟩
 rw[Kd.Vg ok] at I1
 obtain⟨z,ez,h3⟩:=h.of
 obtain⟨b,eb,rfl⟩:=z03.mp ez
 have e:r.1=.bl b:=by
  cases q:r.1<;>rw[q] at eb<;>cases eb
  rfl
 have rr:=Kd.stay ok f1 .refl I1
 rw[e] at rr
 exact⟨b,rr.QW rfl,h3 F1 H1 fp1 I1 n1⟩
theorem QT {op:CmpOp}{r:R2}{g:D->D->Option D}(ho:OpR X (compareOp op) r)(hg:OpD C.K r g)(ha:PE X a (tX ka C pa E ma))(hb:PE X b (tX kb C pb E mb))(hm:behindInMarks op b=false)(ok:ka.on pb=true:=by rfl)(ok2:kb.on true=true:=by rfl):PT X (.Compare a [op] [b] pos) (tT C (pa && pb) E (QF (mOp g ma mb))):=
 Qes (Qm4 ho ha hb hm) fun σ H Q h=>by
  have q:=Qet (k:=.V) rfl h
  exact Qjy hg ok ok2 q
theorem Jw (h:PE X e (tX k C p E m))(ok:k.on true=true:=by rfl)(he:∀whole,isTrue e X.env whole=(do let v ← whole;standAt e.pos;holding [v] (truthy v)):=by intro _;rfl):PT X e (tT C p E (QF m)):=
 Qes (Qo2 h he) fun _ _ _ h=>Qet ok h
def Qcj (m:MT):MT:=fun ρ=>(m ρ).bind fun r=>.ok (!r.1,r.2)
def QnD (m u:MT):MT:=fun ρ=>(m ρ).bind fun r=>if r.1=true then u r.2 else .ok (false,r.2)
def mOr (m u:MT):MT:=fun ρ=>(m ρ).bind fun r=>if r.1=true then .ok (true,r.2) else u r.2
variable {mt mu:MT}{rest:List Expr}
theorem JH (h:PT X e (tT C p E mt)):PT X (.UnaryOp .Not e pos) (tT C p E (Qcj mt)):=Qes (Qo5 h) fun σ H Q ⟨F,ρ,τ,fp,I,r⟩=>
 ⟨F,ρ,τ,fp,I,r.split⟩
theorem QcR (ha:PT X a (tT C pa E mt))(hb:PW X (.BoolOp .And (b::rest) pos) (tT C pb E mu)):PW X (.BoolOp .And (a::b::rest) pos) (tT C (pa && pb) E (QnD mt mu)):=fun whole pins s σ H Q J h=>
 Qo4 ha hb whole pins s σ H Q J (by
  obtain⟨F,ρ,τ,fp,I,r⟩:=h
  refine⟨F,ρ,τ,fp,I,r.split.mono fun r1 h1 F1 H1 fp1 I1 n1=>?_⟩
  by_cases c:r1.1=true
  ·rw[if_pos c] at h1 ⊢
   exact⟨F1,r1.2,τ,fp1,I1,h1.mono fun r2 h2 F2 H2 fp2 I2 n2=>h2 F2 H2 fp2 I2 (n1.trans n2)⟩
  ·rw[if_neg c] at h1 ⊢
   exact h1 F1 H1 fp1 I1 (n1.weak fun z=>(z66.mp z).1))
theorem Qbx (ha:PT X a (tT C pa E mt))(hb:PW X (.BoolOp .Or (b::rest) pos) (tT C pb E mu)):PW X (.BoolOp .Or (a::b::rest) pos) (tT C (pa && pb) E (mOr mt mu)):=fun whole pins s σ H Q J h=>
 Qr8 ha hb whole pins s σ H Q J (by
  obtain⟨F,ρ,τ,fp,I,r⟩:=h
  refine⟨F,ρ,τ,fp,I,r.split.mono fun r1 h1 F1 H1 fp1 I1 n1=>?_⟩
  by_cases c:r1.1=true
  ·rw[if_pos c] at h1 ⊢
   exact h1 F1 H1 fp1 I1 (n1.weak fun z=>(z66.mp z).1)
  ·rw[if_neg c] at h1 ⊢
   exact⟨F1,r1.2,τ,fp1,I1,h1.mono fun r2 h2 F2 H2 fp2 I2 n2=>h2 F2 H2 fp2 I2 (n1.trans n2)⟩)
theorem Qck {op:BoolOp}(ha:PT X a (tT C p E mt)):PW X (.BoolOp op [a] pos) (tT C p E mt):=by
 cases op with
 |And=>exact QmX ha
 |Or=>exact Qo3 ha
def QgM (ma mb:ME):ME:=fun ρ=>(ma ρ).bind fun r=>(Rs.of (asB r.1)).bind fun c=>if c=true then mb r.2 else .ok (.bl false,r.2)
def QnE (m:ME):ME:=fun ρ=>(m ρ).bind fun r=>Rs.of ((asB r.1).map fun b=>(.bl (!b),r.2))
theorem Qjz {d:D}{b:Bool}(h:asB d=some b):d=.bl b:=by
 cases d<;>cases h
 rfl
theorem QjA {op:BoolOp}(h:PE X a (tX k C p E m)):PE X (.BoolOp op [a] pos) (tX k C p E m):=Qo6 h
theorem QjB (ha:PE X a (tX ka C pa E ma))(hb:PE X (.BoolOp .And (b::rest) pos) (tX .V C pb E mb))(ok:ka.on true=true:=by rfl):PE X (.BoolOp .And (a::b::rest) pos) (tX .V C (pa && pb) E (QgM ma mb)):=Qv (Qo7 ha hb) fun σ H Q ⟨F,ρ,τ,fp,I,r⟩=>by
 refine⟨F,ρ,τ,fp,I,r.split.mono fun r1 h1 F1 H1 fp1 v1 I1 n1 f1=>?_⟩
 rw[Kd.Vg ok] at I1
 obtain⟨c,ec,h2⟩:=h1.split.of
 have rr:=Kd.stay ok f1 .refl I1
 rw[Qjz ec] at rr
 refine⟨c,rr.QW rfl,?_⟩
 by_cases hc:c=true
 ·rw[if_pos hc] at h2 ⊢
  exact⟨F1,r1.2,τ,fp1,I1,h2.mono fun r2 h3 F2 H2 fp2 v2 I2 n2 f2=>h3 F2 H2 fp2 v2 I2 (n1.trans n2) f2⟩
 ·rw[if_neg hc] at h2 ⊢
  exact h2 F1 H1 fp1 _ I1 (n1.weak fun z=>(z66.mp z).1) (.sc rfl)
theorem QsJ (ha:PE X a (tX ka C pa E ma))(ok:ka.on true=true:=by rfl):PE X (.UnaryOp .Not a pos) (tX .V C pa E (QnE ma)):=Qv (Qo8 ha) fun σ H Q ⟨F,ρ,τ,fp,I,r⟩=>by
 refine⟨F,ρ,τ,fp,I,r.split.mono fun r1 h1 F1 H1 fp1 v1 I1 n1 f1=>?_⟩
 rw[Kd.Vg ok] at I1
 obtain⟨z,ez,h3⟩:=h1.of
 obtain⟨b,eb,rfl⟩:=z03.mp ez
 have rr:=Kd.stay ok f1 .refl I1
 rw[Qjz eb] at rr
 exact⟨b,rr.QW rfl,h3 F1 H1 fp1 _ I1 n1 (.sc rfl)⟩
def QrU (mt:MT)(ma mb:ME):ME:=fun ρ=>(mt ρ).bind fun r=>if r.1=true then ma r.2 else mb r.2
theorem QpU {c:Expr}{pc:Bool}(hc:PT X c (tT C pc E mt))(ha:PE X a (tX k C pa E ma))(hb:PE X b (tX k C pb E mb)):PE X (.IfExp c a b pos) (tX k C (pc && (pa && pb)) E (QrU mt ma mb)):=Qv (Qlc hc ha hb) fun σ H Q ⟨F,ρ,τ,fp,I,r⟩=>by
 refine⟨F,ρ,τ,fp,I,r.split.mono fun r1 h1 F1 H1 fp1 I1 n1=>?_⟩
 by_cases cc:r1.1=true
 ·rw[if_pos cc] at h1 ⊢
  exact⟨F1,r1.2,τ,fp1,I1,h1.mono fun r2 h2 F2 H2 fp2 v2 I2 n2 f2=>h2 F2 H2 fp2 v2 I2 ((n1.trans n2).weak fun z=>by cases pc<;>cases pa<;>cases pb<;>simp_all) f2⟩
 ·rw[if_neg cc] at h1 ⊢
  exact⟨F1,r1.2,τ,fp1,I1,h1.mono fun r2 h2 F2 H2 fp2 v2 I2 n2 f2=>h2 F2 H2 fp2 v2 I2 ((n1.trans n2).weak fun z=>by cases pc<;>cases pa<;>cases pb<;>simp_all) f2⟩
end
section
variable {X:Cx}{C:Cn}{E:XE}{p pa pb:Bool}{e a b:Expr}{es:List Expr}{m ma mb:ME}{mr:MA}{pos:Pos}{k ka kb:Kd}{ks:List Kd}
def mS (i:Nat):ME:=fun ρ=>match ρ[i]? with
 |some (some (.own d))=>.ok (d,ρ)
 |some (some (.par d))=>.ok (d,ρ)
 |_=>.no
theorem QpV {i:Nat}{x:Str}{pos:Pos}(hN:X.N[i]? = some x)(hv:Vis X.env.scope x)(hd:(x == ("__debug__" : Str))=false:=by decide)(hcd:(x == ("__classdict__" : Str))=false:=by decide):PE X (.Name x pos) (tX (.S i) C true E (mS i)):=Qv (Qar hN hv hd hcd) fun σ H Q ⟨F,ρ,τ,fp,I,r⟩=>by
 unfold mS at r
 cases es:ρ[i]? with
 |none=>rw[es] at r;exact r.elim
 |some s=>
  rw[es] at r
  obtain⟨y,f0,g0,rest,ey,s1,_⟩:=I.cut es
  cases s1 with
  |non=>exact r.elim
  |frz h=>exact r.elim
  |own h=>exact⟨_,ey,r F H fp _ I .refl ey⟩
  |par h=>exact⟨_,ey,r F H fp _ I .refl ey⟩
def Kd.ona:Kd->Bool->Bool
 |.B,p=>p
 |_,_=>true
def Qr:MA:=fun ρ=>.ok ([],ρ)
def Qb (m:ME)(mr:MA):MA:=fun ρ=>(m ρ).bind fun r=>(mr r.2).bind fun q=>.ok (r.1::q.1,q.2)
theorem Qc:PA X [] (tA [] C true E Qr):=Qjw Qi6 fun σ H Q ⟨F,ρ,τ,fp,I,r⟩=>r F H fp [] I .refl .nil
theorem Kd.QpW {F H F1 H1:Hp}{fp fp1:List Addr}{σ:L2.St}{v:L2.V}{d:D}{q:Bool}(ok:k.ona q=true)(h:k.fc C F H fp σ v d)(n:Nx q F H fp F1 H1 fp1):k.fc C F1 H1 fp1 σ v d:=by
 cases k with
 |V=>exact R.same n.f h
 |B=>exact R.same (n.g ok) h
 |O=>exact z58
 |S i=>exact h
theorem Qa (ha:PE X e (tX k C pa E m))(hr:PA X es (tA ks C pb E mr))(ok:k.ona pb=true:=by rfl)(hs:starEach (e::es) X.env=(false,eval e X.env)::starEach es X.env:=by rfl):PA X (e::es) (tA (k::ks) C (pa && pb) E (Qb m mr)):=Qjw (Qgw ha hr hs) fun σ H Q ⟨F,ρ,τ,fp,I,r⟩=>
 ⟨F,ρ,τ,fp,I,r.split.mono fun r1 h1 F1 H1 fp1 v1 I1 n1 f1=>⟨F1,r1.2,_,fp1,I1,h1.split.mono fun r2 h2 F2 H2 fp2 vs I2 n2 f2=>
  h2 F2 H2 fp2 (v1::vs) I2 (n1.trans n2) (.cons (Kd.QpW ok f1 n2) f2)⟩⟩
def rdL:List Kd->Bool
 | []=>true
 |.V::r=>rdL r
 |.B::r=>rdL r
 |_=>false
def knL:List Kd->Bool
 | []=>true
 |.V::r=>knL r
 |_=>false
theorem Y0:∀{ks:List Kd} {vs:List L2.V} {ds:List D} {τ:List (L2.V×D)},rdL ks=true->tkL ks vs ds τ=τ
 | [],_,_,_,_=>by unfold tkL;rfl
 |.V::ks,[],_,_,_=>by unfold tkL;rfl
 |.V::ks,_::_,[],_,_=>by unfold tkL;rfl
 |.V::ks,v::vs,d::ds,τ,h=>by unfold tkL;exact Y0 (ks:=ks) h
 |.B::ks,[],_,_,_=>by unfold tkL;rfl
 |.B::ks,_::_,[],_,_=>by unfold tkL;rfl
 |.B::ks,v::vs,d::ds,τ,h=>by unfold tkL;exact Y0 (ks:=ks) h
 |.O::ks,_,_,_,h=>by cases h
 |.S i::ks,_,_,_,h=>by cases h
theorem FcL.rd {F H:Hp}{fp:List Addr}{σ:L2.St}{ρ:Rho}{τ:List (L2.V×D)}(I:SI C F H σ ρ τ fp){ks:List Kd}{vs:List L2.V}{ds:List D}(h:FcL C F H fp σ ks vs ds)(q:rdL ks=true):RL C.K (jn F H fp) vs ds:=by
 induction h with
 |nil=>exact .nil
 | @cons k _ _ _ _ _ h r ih=>
  cases k with
  |V=>exact .cons (R.tj I h) (ih q)
  |B=>exact .cons h (ih q)
  |O=>cases q
  |S _=>cases q
theorem FcL.kn {F H:Hp}{fp:List Addr}{σ:L2.St}{ks:List Kd}{vs:List L2.V}{ds:List D}(h:FcL C F H fp σ ks vs ds)(q:knL ks=true):RL C.K F vs ds:=by
 induction h with
 |nil=>exact .nil
 | @cons k _ _ _ _ _ h r ih=>
  cases k with
  |V=>exact .cons h (ih q)
  |B=>cases q
  |O=>cases q
  |S _=>cases q
theorem VU:∀{ks:List Kd},knL ks=true->rdL ks=true
 | [],_=>rfl
 |.V::ks,h=>VU (ks:=ks) h
 |.B::ks,h=>by cases h
 |.O::ks,h=>by cases h
 |.S i::ks,h=>by cases h
def CallD (K:z01)(r:List L2.V->Hp->VK->Prop)(g:List D->Option D):Prop:=∀H vs ds res,RL K H vs ds->g ds=some res->∃w,res.sc=some w/\∀Q:VK,Q w H->r vs H Q
def QJ (g:List D->Option D)(mr:MA):ME:=fun ρ=>(mr ρ).bind fun r=>Rs.of ((g r.1).map fun d=>(d,r.2))
theorem QpX {r:List L2.V->Hp->VK->Prop}{g:List D->Option D}(hg:CallD C.K r g)(ok:rdL ks=true){σ:L2.St}{H:Hp}{Q:VK}(h:tX .V C p E (QJ g mr) σ H Q):tCB r (tA ks C p E mr) σ H Q:=by
 obtain⟨F,ρ,τ,fp,I,h⟩:=h
 refine⟨F,ρ,τ,fp,I,h.split.mono fun r1 h1 F1 H1 fp1 vs I1 n1 f1=>?_⟩
 rw[Y0 ok] at I1
 obtain⟨z,ez,h3⟩:=h1.of
 obtain⟨res,eg,rfl⟩:=z03.mp ez
 obtain⟨w,ew,hw⟩:=hg H1 vs _ _ (RL.same (Qap I1.fh) (f1.rd I1 ok)) eg
 exact hw _ (h3 F1 H1 fp1 w I1 n1 (.sc ew))
theorem Qx {x:Str}{px:Pos}{id:String}{r:List L2.V->Hp->VK->Prop}{g:List D->Option D}(hc:QbR X (.builtin id) r)(hg:CallD C.K r g)(hm:X.mg x=none)(hv:z71 x=some (.builtin id))(ha:PA X (e::es) (tA ks C p E mr))(ok:rdL ks=true:=by rfl)(hgl:Gl X x:=by rfl)(hn:x ≠ "__name__" := by decide)(hdb:(x == ("__debug__" : Str))=false:=by decide)
  (he:starEach (e::es) X.env=(false,eval e X.env)::starEach es X.env:=by rfl) (hpl:(backTo pos (starEach es X.env)).any (·.1)=false:=by rfl):PE X (.Call (.Name x px) (e::es) [] pos) (tX .V C p E (QJ g mr)):=
 Qv (Qhi hc hgl hm hv ha hn hdb he hpl) fun _ _ _ h=>QpX hg ok h
theorem QdW {F H:Hp}{fp:List Addr}{q:Addr}{o:HO}{σ:L2.St}{ρ:Rho}{τ:List (L2.V×D)}(I:SI C F H σ ρ τ fp)(hq:H q=none):Qz (jn F H fp) (jn (upd F q o) (upd H q o) fp):=fun b ob e=>by
 by_cases hb:b∈fp
 ·rw[VS hb] at e ⊢;exact Qz.upd hq b ob e
 ·rw[JG hb] at e ⊢;exact Qz.upd (I.fh.free hq) b ob e
theorem QfB {F H:Hp}{fp:List Addr}{q:Addr}{o:HO}{σ:L2.St}{ρ:Rho}{τ:List (L2.V×D)}(I:SI C F H σ ρ τ fp)(hq:H q=none):Qz (jn F H fp) (jn F (upd H q o) ([q]++fp)):=fun b ob e=>by
 have fq:=I.fh.free hq
 have e':=Qap I.fh b ob e
 have nb:b≠q:=QL e' hq
 by_cases hb:b∈fp
 ·rw[VS (z02 _ hb),Qp nb];exact e'
 ·rw[JG hb] at e
  rw[JG (by simp[hb,nb])];exact e
theorem SI.newList {F H:Hp}{fp:List Addr}{q:Addr}{vs:List L2.V}{ds:List D}{σ:L2.St}{ρ:Rho}{τ:List (L2.V×D)}(I:SI C F H σ ρ τ fp)(hq:H q=none)(r:RL C.K F vs ds)(hi:D.Jo ds=true):SI C F (upd H q (.lst vs)) σ ρ ((.ref q,.lst ds)::τ) ([q]++fp):=by
 have J:=I.lay0 (o:=.lst vs) hq
 have nq:q∉fp:=fun z=>by
  obtain⟨o,e,_⟩:=I.mem q z
  rw[hq] at e;cases e
 refine J.push (f:=[q]) (.mt (t:=.lst) (show upd H q (.lst vs) q=some (.lst vs) from Qy) (RL.o r hi)) (fun a ha=>?_) (fun a ha=>?_) (z09.mpr ⟨by simp,I.nd,fun x hx y hy z=>?_⟩)
 ·rw[z25.mp ha];exact I.dm q hq
 ·rw[z25.mp ha];exact I.fh.free hq
 ·subst z;rw[z25.mp hx] at hy;exact nq hy
def QpY (mr:MA):ME:=fun ρ=>(mr ρ).bind fun r=>if r.1.length<=z15 then .ok (.lst r.1,r.2) else .no
def Qcv (mr:MA):ME:=fun ρ=>(mr ρ).bind fun r=>if r.1.length<=z15 then .ok (.tup r.1,r.2) else .no
def QcS (mr:MA):ME:=fun ρ=>(mr ρ).bind fun r=>if r.1.length<=z15 then(if D.Jo r.1=true then .ok (.lst r.1,r.2) else .no) else .no
theorem JI {x1:Nat}(h:PA X es (tA ks C p E mr))(ok:knL ks=true:=by rfl):PE X (.Tuple es x1 pos) (tX .V C p E (Qcv mr)):=Qv (Qmk h) fun σ H Q ⟨F,ρ,τ,fp,I,h⟩=>by
 refine⟨F,ρ,τ,fp,I,h.split.mono fun r1 h1 F1 H1 fp1 vs I1 n1 f1=>?_⟩
 rw[Y0 (VU ok)] at I1
 have rl:=f1.kn ok
 by_cases hz:r1.1.length<=z15
 ·rw[if_pos hz] at h1
  refine⟨by rw[rl.length];exact hz,fun q hq=>?_⟩
  have s:=Qz.upd (o:=HO.tup vs) (I1.fh.free hq)
  exact h1 _ _ fp1 _ (I1.lay hq) ((n1.trans (q:=true) ⟨s,fun _=>QdW I1 hq⟩).weak fun z=>by simp[z]) (.nd (t:=.tup) Qy (rl.same s))
 ·rw[if_neg hz] at h1;exact h1.elim
theorem QjC (h:PA X es (tA ks C p E mr))(ok:knL ks=true:=by rfl):PE X (.List es pos) (tX .V C p E (QpY mr)):=Qv (Qml h) fun σ H Q ⟨F,ρ,τ,fp,I,h⟩=>by
 refine⟨F,ρ,τ,fp,I,h.split.mono fun r1 h1 F1 H1 fp1 vs I1 n1 f1=>?_⟩
 rw[Y0 (VU ok)] at I1
 have rl:=f1.kn ok
 by_cases hz:r1.1.length<=z15
 ·rw[if_pos hz] at h1
  refine⟨by rw[rl.length];exact hz,fun q hq=>?_⟩
  have s:=Qz.upd (o:=HO.lst vs) (I1.fh.free hq)
  exact h1 _ _ fp1 _ (I1.lay hq) ((n1.trans (q:=true) ⟨s,fun _=>QdW I1 hq⟩).weak fun z=>by simp[z]) (.nd (t:=.lst) (.inl (.inl Qy)) (rl.same s))
 ·rw[if_neg hz] at h1;exact h1.elim
theorem Qby (h:PA X es (tA ks C p E mr))(ok:rdL ks=true:=by rfl):PE X (.List es pos) (tX .O C p E (QcS mr)):=Qv (Qml h) fun σ H Q ⟨F,ρ,τ,fp,I,h⟩=>by
 refine⟨F,ρ,τ,fp,I,h.split.mono fun r1 h1 F1 H1 fp1 vs I1 n1 f1=>?_⟩
 rw[Y0 ok] at I1
 have rl:=f1.rd I1 ok
 by_cases hz:r1.1.length<=z15
 ·rw[if_pos hz] at h1
  by_cases hi:D.Jo r1.1=true
  ·rw[if_pos hi] at h1
   refine⟨by rw[rl.length];exact hz,fun q hq=>?_⟩
   have rl':RL C.K F1 vs r1.1:=by
    have q:=RL.lo (L:=fp1) (fun b hb o e=>by
     rw[VS hb] at e
     obtain⟨o',e',z⟩:=I1.mem b hb
     rw[e] at e';cases e'
     exact z) rl hi
    refine q.same fun b o e=>?_
    by_cases hb:b∈fp1
    ·rw[Qir hb] at e;cases e
    ·rw[Qa4 hb,JG hb] at e;exact e
   exact h1 _ _ _ _ (I1.newList hq rl' hi) ((n1.trans (q:=true) ⟨Qz.refl _,fun _=>QfB I1 hq⟩).weak fun z=>by simp[z]) z58
  ·rw[if_neg hi] at h1;exact h1.elim
 ·rw[if_neg hz] at h1;exact h1.elim
theorem SI.loL {F H:Hp}{σ:L2.St}{ρ:Rho}{τ:List (L2.V×D)}{fp:List Addr}{vs:List L2.V}{ds:List D}(I:SI C F H σ ρ τ fp)(h:RL C.K (jn F H fp) vs ds)(hd:D.Jo ds=true):RL C.K F vs ds:=by
 have q:=RL.lo (L:=fp) (fun b hb o e=>by
  rw[VS hb] at e
  obtain⟨o',e',z⟩:=I.mem b hb
  rw[e] at e';cases e'
  exact z) h hd
 refine q.same fun b o e=>?_
 by_cases hb:b∈fp
 ·rw[Qir hb] at e;cases e
 ·rw[Qa4 hb,JG hb] at e;exact e
def Qis:List D->Option (List D)
 | [.nd .lst ds]=>some ds
 | [.nd .tup ds]=>some ds
 |_=>none
theorem QnF {ds ys:List D}(h:Qis ds=some ys):ds=[.nd .lst ys]\/ds=[.nd .tup ys]:=by
 unfold Qis at h
 split at h
 ·cases h;exact .inl rfl
 ·cases h;exact .inr rfl
 ·cases h
theorem R.inv {K:z01}{F:Hp}{v:L2.V}{t:Tag}{ds:List D}(r:R K F v (.nd t ds)):∃a vs,v=.ref a/\At K F a t vs/\RL K F vs ds:=by
 cases r with
 |sc e=>cases e
 |nd h r=>exact⟨_,_,rfl,h,r⟩
theorem RL.one {K:z01}{F:Hp}{vs:List L2.V}{d:D}(r:RL K F vs [d]):∃v,vs=[v]/\R K F v d:=by
 cases r with
 |cons h t=>cases t;exact⟨_,rfl,h⟩
theorem RL.two {K:z01}{F:Hp}{vs:List L2.V}{d e:D}(r:RL K F vs [d,e]):∃v u,vs=[v,u]/\R K F v d/\R K F u e:=by
 cases r with
 |cons h t=>obtain⟨u,rfl,h'⟩:=t.one;exact⟨_,_,rfl,h,h'⟩
theorem Qhw {K:z01}{H:Hp}{vs:List L2.V}{ds ys:List D}(r:RL K H vs ds)(g:Qis ds=some ys):∃q us,vs=[.ref q]/\(At K H q .lst us\/At K H q .tup us)/\RL K H us ys:=by
 rcases QnF g with rfl|rfl
 ·obtain⟨v,rfl,h⟩:=r.one
  obtain⟨a,us,rfl,h1,h2⟩:=h.inv
  exact⟨a,us,rfl,.inl h1,h2⟩
 ·obtain⟨v,rfl,h⟩:=r.one
  obtain⟨a,us,rfl,h1,h2⟩:=h.inv
  exact⟨a,us,rfl,.inr h1,h2⟩
theorem boot_list:z71 "list" = some (.type "list"):=by decide +kernel
theorem boot_tuple:z71 "tuple" = some (.type "tuple"):=by decide +kernel
def QcT (mr:MA):ME:=fun ρ=>(mr ρ).bind fun r=>(Rs.of (Qis r.1)).bind fun ds=>if D.Jo ds=true then .ok (.lst ds,r.2) else .no
theorem QcU {x:Str}{px:Pos}(hm:X.mg "list" = none)(hK:C.K=X.K)(ha:PA X [e] (tA ks C p E mr))(ok:rdL ks=true:=by rfl)(hgl:Gl X "list" := by rfl)(he:starEach [e] X.env=(false,eval e X.env)::starEach [] X.env:=by rfl)(hpl:(backTo pos (starEach [] X.env)).any (·.1)=false:=by rfl) :
  PE X (.Call (.Name "list" px) [e] [] pos) (tX .O C p E (QcT mr)):=Qv (Qfm Qfp hgl hm boot_list ha (by decide) (by decide) he hpl) fun σ H Q ⟨F,ρ,τ,fp,I,h⟩=>by
 refine⟨F,ρ,τ,fp,I,h.split.mono fun r1 h1 F1 H1 fp1 vs I1 n1 f1=>?_⟩
 rw[Y0 ok] at I1
 obtain⟨ds,eg,h2⟩:=h1.split.of
 by_cases hi:D.Jo ds=true
 ·rw[if_pos hi] at h2
  obtain⟨q,us,rfl,hs,r⟩:=Qhw (f1.rd I1 ok) eg
  have hs':SqL X.K H1 q us\/SqT X.K H1 q us:=by
   rw[← hK]
   exact hs.imp (fun z=>(At.same z (Qap I1.fh)).sql) fun z=>(At.same z (Qap I1.fh)).sqt
  refine⟨q,us,rfl,hs',fun l hl=>?_⟩
  exact h2 _ _ _ _ (I1.newList hl (I1.loL r hi) hi) ((n1.trans (q:=true) ⟨Qz.refl _,fun _=>QfB I1 hl⟩).weak fun z=>by simp[z]) z58
 ·rw[if_neg hi] at h2;exact h2.elim
def QfC (mr:MA):ME:=fun ρ=>(mr ρ).bind fun r=>(Rs.of (Qis r.1)).bind fun ds=>.ok (.tup ds,r.2)
theorem Qcw {px:Pos}(hm:X.mg "tuple" = none)(hK:C.K=X.K)(ha:PA X [e] (tA ks C p E mr))(ok:knL ks=true:=by rfl)(hgl:Gl X "tuple" := by rfl)(he:starEach [e] X.env=(false,eval e X.env)::starEach [] X.env:=by rfl)(hpl:(backTo pos (starEach [] X.env)).any (·.1)=false:=by rfl) :
  PE X (.Call (.Name "tuple" px) [e] [] pos) (tX .V C p E (QfC mr)):=Qv (Qfm Qeh hgl hm boot_tuple ha (by decide) (by decide) he hpl) fun σ H Q ⟨F,ρ,τ,fp,I,h⟩=>by
 refine⟨F,ρ,τ,fp,I,h.split.mono fun r1 h1 F1 H1 fp1 vs I1 n1 f1=>?_⟩
 rw[Y0 (VU ok)] at I1
 obtain⟨ds,eg,h2⟩:=h1.split.of
 obtain⟨q,us,rfl,hs,r⟩:=Qhw (f1.kn ok) eg
 refine⟨q,us,rfl,?_⟩
 rcases hs with hs|hs
 ·refine .inl ⟨by rw[← hK];exact(At.same hs I1.fh).sql,fun l hl=>?_⟩
  have s:=Qz.upd (o:=HO.tup us) (I1.fh.free hl)
  exact h2 _ _ fp1 _ (I1.lay hl) ((n1.trans (q:=true) ⟨s,fun _=>QdW I1 hl⟩).weak fun z=>by simp[z]) (.nd (t:=.tup) Qy (r.same s))
 ·exact .inr ⟨by rw[← hK];exact(At.same hs I1.fh).sqt,h2 F1 H1 fp1 _ I1 n1 (.nd (t:=.tup) hs r)⟩
def gIx:D->D->Option D
 |.nd .lst ds,.int i=>atI ds i
 |.nd .tup ds,.int i=>atI ds i
 |_,_=>none
theorem Qmw {K:z01}{F:Hp}{vs:List L2.V}{ds:List D}{i:Int}{d:D}(r:RL K F vs ds)(h:atI ds i=some d):∃v,atI vs i=some v/\R K F v d:=by
 unfold atI at h ⊢
 rw[r.length]
 cases q:ixN ds.length i with
 |none=>rw[q] at h;cases h
 |some j=>
  rw[q] at h
  obtain⟨v,e,rv⟩:=r.get (i:=j) h
  exact⟨v,e,rv⟩
theorem QpZ {d e x:D}(h:gIx d e=some x):∃ds i,(d=.nd .lst ds\/d=.nd .tup ds)/\e=.int i/\atI ds i=some x:=by
 unfold gIx at h
 split at h
 ·exact⟨_,_,.inl rfl,rfl,h⟩
 ·exact⟨_,_,.inr rfl,rfl,h⟩
 ·cases h
theorem Qp0 {K:z01}{F H:Hp}{v u:L2.V}{d e x:D}(hs:Qz F H)(r:R K F v d)(q:R K H u e)(g:gIx d e=some x):∃w,R K F w x/\∀Q:VK,Q w H->rIx K v u H Q:=by
 obtain⟨ds,i,hd,rfl,ha⟩:=QpZ g
 obtain rfl:u=.int i:=q.QW rfl
 rcases hd with rfl|rfl
 ·obtain⟨a,vs,rfl,h1,h2⟩:=r.inv
  obtain⟨w,ew,rw'⟩:=Qmw h2 ha
  exact⟨w,rw',fun Q hq=>.inl ⟨a,vs,i,w,rfl,rfl,(At.same h1 hs).sql,ew,hq⟩⟩
 ·obtain⟨a,vs,rfl,h1,h2⟩:=r.inv
  obtain⟨w,ew,rw'⟩:=Qmw h2 ha
  exact⟨w,rw',fun Q hq=>.inr (.inl ⟨a,vs,i,w,rfl,rfl,(At.same h1 hs).sqt,ew,hq⟩)⟩
theorem Qit (hK:C.K=X.K)(ha:PE X a (tX ka C pa E ma))(hb:PE X b (tX kb C pb E mb))(ok:ka.on pb=true:=by rfl)(ok2:kb.on true=true:=by rfl)(hs:Qgz b:=by intro _ _;rfl):PE X (.Subscript a b pos) (tX .B C (pa && pb) E (mOp gIx ma mb)):=Qv (QgA Qmm ha hb hs) fun σ H Q ⟨F,ρ,τ,fp,I,h⟩=>by
 refine⟨F,ρ,τ,fp,I,h.split.mono fun r1 h1 F1 H1 fp1 v1 I1 n1 f1=>?_⟩
 rw[Kd.Vg ok] at I1
 refine⟨F1,r1.2,τ,fp1,I1,h1.split.mono fun r2 h2 F2 H2 fp2 v2 I2 n2 f2=>?_⟩
 rw[Kd.Vg ok2] at I2
 obtain⟨z,ez,h3⟩:=h2.of
 obtain⟨res,eg,rfl⟩:=z03.mp ez
 obtain⟨w,rw',hw⟩:=Qp0 (Qap I2.fh) (Kd.stay ok f1 n2 I2) (R.top I2 (Kd.stay ok2 f2 .refl I2)) eg
 rw[← hK]
 exact hw _ (h3 F2 H2 fp2 w I2 (n1.trans n2) rw')
theorem QG (hK:C.K=X.K)(ha:PE X a (tX .V C pa E ma))(hb:PE X b (tX kb C pb E mb))(ok2:kb.on true=true:=by rfl)(hs:Qgz b:=by intro _ _;rfl):PE X (.Subscript a b pos) (tX .V C (pa && pb) E (mOp gIx ma mb)):=Qv (QgA Qmm ha hb hs) fun σ H Q ⟨F,ρ,τ,fp,I,h⟩=>by
 refine⟨F,ρ,τ,fp,I,h.split.mono fun r1 h1 F1 H1 fp1 v1 I1 n1 f1=>?_⟩
 refine⟨F1,r1.2,τ,fp1,I1,h1.split.mono fun r2 h2 F2 H2 fp2 v2 I2 n2 f2=>?_⟩
 rw[Kd.Vg ok2] at I2
 obtain⟨z,ez,h3⟩:=h2.of
 obtain⟨res,eg,rfl⟩:=z03.mp ez
 obtain⟨w,rw',hw⟩:=Qp0 I2.fh (R.same n2.f f1) (R.top I2 (Kd.stay ok2 f2 .refl I2)) eg
 rw[← hK]
 exact hw _ (h3 F2 H2 fp2 w I2 (n1.trans n2) rw')
end
inductive Fl where
 |nx|rt (d:D)|bk|ct
abbrev MS:=Rho->Rs (Fl×Rho)
def QfD (C:Cn)(E:XE){α:Type}(r:Rs α)(k:α->Prop):Prop:=match r with
 |.ok a=>k a
 |.ex c ρ=>∀F H σ fp,SI C F H σ ρ [] fp->E σ (.ref c) none H
 |.no=>False
section
variable {C:Cn}{E:XE}{σ:L2.St}{α β:Type}
theorem QfD.run {r:Rs α}{k:α->Prop}(h:QfD C E r k):Run C E σ r k:=by
 cases r with
 |ok a=>exact h
 |ex c ρ=>exact fun F H fp I=>h F H σ fp I
 |no=>exact h
theorem QfD.mono {r:Rs α}{k k':α->Prop}(h:QfD C E r k)(f:∀a,k a->k' a):QfD C E r k':=by
 cases r with
 |ok a=>exact f a h
 |ex c ρ=>exact h
 |no=>exact h
theorem QfD.split {r:Rs α}{f:α->Rs β}{k:β->Prop}(h:QfD C E (r.bind f) k):QfD C E r fun a=>QfD C E (f a) k:=by
 cases r with
 |ok a=>exact h
 |ex c ρ=>exact h
 |no=>exact h
theorem QfD.of {o:Option α}{k:α->Prop}(h:QfD C E (Rs.of o) k):∃a,o=some a/\k a:=by
 cases o with
 |none=>exact h.elim
 |some a=>exact⟨a,rfl,h⟩
end
def Out (rk:Kd)(C:Cn)(D:Ends)(F0:Hp)(f:Fl)(ρ:Rho):Prop:=match f with
 |.nx=>∀F H σ fp,Qz F0 F->SI C F H σ ρ [] fp->D.nx σ H
 |.rt d=>∀F H σ fp v,Qz F0 F->SI C F H σ ρ (rk.tk v d []) fp->rk.fc C F H fp σ v d->D.rt v H
 |.bk=>∀F H σ fp,Qz F0 F->SI C F H σ ρ [] fp->D.bk σ H
 |.ct=>∀F H σ fp,Qz F0 F->SI C F H σ ρ [] fp->D.ct σ H
theorem Out.mono {rk:Kd}{C:Cn}{D:Ends}{F0 F1:Hp}{f:Fl}{ρ:Rho}(s:Qz F0 F1)(h:Out rk C D F0 f ρ):Out rk C D F1 f ρ:=by
 cases f with
 |nx=>exact fun F H σ fp z=>h F H σ fp (s.trans z)
 |rt d=>exact fun F H σ fp v z=>h F H σ fp v (s.trans z)
 |bk=>exact fun F H σ fp z=>h F H σ fp (s.trans z)
 |ct=>exact fun F H σ fp z=>h F H σ fp (s.trans z)
def tS (rk:Kd)(C:Cn)(E:XE)(m:MS):TS:=fun D σ H=>∃F ρ fp,SI C F H σ ρ [] fp/\QfD C E (m ρ) fun r=>Out rk C D F r.1 r.2
section
variable {X:Cx}{C:Cn}{E:XE}{p:Bool}{e a b:Expr}{es:List Expr}{m mb:ME}{mr:MA}{mt:MT}{ms mu:MS}{pos:Pos}{k rk:Kd}{ks:List Kd}{st:Stmt}{rest:List Stmt}
def Jk:MS:=fun ρ=>.ok (.nx,ρ)
def QX (m u:MS):MS:=fun ρ=>(m ρ).bind fun r=>match r.1 with
 |.nx=>u r.2
 |f=>.ok (f,r.2)
theorem Js:PSs X [] (tS rk C E Jk):=Qcu QmY fun D σ H ⟨F,ρ,fp,I,h⟩=>h F H σ fp (Qz.refl F) I
theorem Qk (h1:PS X st (tS rk C E ms))(h2:PSs X rest (tS rk C E mu)):PSs X (st::rest) (tS rk C E (QX ms mu)):=Qcu (Qhf h1 h2) fun D σ H ⟨F,ρ,fp,I,h⟩=>by
 refine⟨F,ρ,fp,I,h.split.mono fun r hr=>?_⟩
 obtain⟨f,ρ1⟩:=r
 cases f with
 |nx=>exact fun F1 H1 σ1 fp1 s1 I1=>⟨F1,ρ1,fp1,I1,hr.mono fun q z=>z.mono s1⟩
 |rt d=>exact hr
 |bk=>exact hr
 |ct=>exact hr
theorem Qq (h1:PS X st (tS rk C E ms)):PSs X [st] (tS rk C E ms):=QiV h1
def Yb (m:ME):MS:=fun ρ=>(m ρ).bind fun r=>.ok (.rt r.1,r.2)
theorem QP (h:PE X e (tX rk C p E m)):PS X (.Return (some e) pos) (tS rk C E (Yb m)):=Ju (Qo9 h) fun D σ H ⟨F,ρ,fp,I,h⟩=>
 ⟨F,ρ,[],fp,I,h.split.run.mono fun r hr F1 H1 fp1 v I1 n1 f1=>hr F1 H1 σ fp1 v n1.f I1 f1⟩
def QbW (m:ME):MS:=fun ρ=>(m ρ).bind fun r=>.ok (.nx,r.2)
theorem Qau (h:PE X e (tX k C p E m))(ok:k.on true=true:=by rfl)(hs:swapsWith e none pos.line X.env=pure false:=by rfl):PS X (.Expr e pos) (tS rk C E (QbW m)):=Ju (Qeb h hs) fun D σ H ⟨F,ρ,fp,I,h⟩=>
 ⟨F,ρ,[],fp,I,h.split.run.mono fun r hr F1 H1 fp1 v I1 n1 f1=>by rw[Kd.Vg ok] at I1;exact hr F1 H1 σ fp1 n1.f I1⟩
def mIf (mt:MT)(m u:MS):MS:=fun ρ=>(mt ρ).bind fun r=>if r.1=true then m r.2 else u r.2
theorem VV {c:Expr}{sa sb:List Stmt}(hc:PT X c (tT C p E mt))(ha:PSs X sa (tS rk C E ms))(hb:PSs X sb (tS rk C E mu)):PS X (.If c sa sb pos) (tS rk C E (mIf mt ms mu)):=Ju (Qsd hc ha hb) fun D σ H ⟨F,ρ,fp,I,h⟩=>
 ⟨F,ρ,[],fp,I,h.split.run.mono fun r hr F1 H1 fp1 I1 n1=>by
  by_cases cc:r.1=true
  ·rw[if_pos cc] at hr ⊢;exact⟨F1,r.2,fp1,I1,hr.mono fun q z=>z.mono n1.f⟩
  ·rw[if_neg cc] at hr ⊢;exact⟨F1,r.2,fp1,I1,hr.mono fun q z=>z.mono n1.f⟩⟩
def Y1 (ρ:Rho)(i:Nat)(d:D):Option Rho:=match ρ[i]? with
 |some (some (.par _))=>none
 |some _=>some (ρ.set i (some (.frz d)))
 |none=>none
def Qmx (ρ:Rho)(i:Nat)(d:D):Option Rho:=match ρ[i]? with
 |some (some (.par _))=>none
 |some _=>some (ρ.set i (some (.own d)))
 |none=>none
theorem SI.Y1 {F H:Hp}{σ:L2.St}{ρ ρ':Rho}{τ:List (L2.V×D)}{fp:List Addr}{i:Nat}{v:L2.V}{d:D}(I:SI C F H σ ρ τ fp)(r:R C.K F v d)(h:Y1 ρ i d=some ρ'):∃fp',SI C F H (σ.set i (some v)) ρ' τ fp'/\∀a∈fp',a∈fp:=by
 unfold TL.Y1 at h
 cases es:ρ[i]? with
 |none=>rw[es] at h;cases h
 |some s=>
  rw[es] at h
  obtain⟨x,f0,g0,rest,ex,s1,pm,w0,w1,cl⟩:=I.cut es
  have nd:=pm.nodup_iff.mp I.nd
  have fin:(∀v',(i,v')∈C.QgL->False)->∃fp',SI C F H (σ.set i (some v)) (ρ.set i (some (.frz d))) τ fp'/\∀a∈fp',a∈fp:=fun np=>
   ⟨_,cl (x':=some v) (s':=some (.frz d)) (f0':=[]) (g0':=[]) (Qz.refl F) I.fh (fun _ _=>rfl) (fun _ z=>z) (fun _ _ _ _ z=>z) (fun _ _ z=>.inl z) (.frz r) (z09.mp (z09.mp nd).2.1).2.1 (fun a ha=>I.ap a (pm.mem_iff.mpr (by simp at ha;simp[ha]))) (fun _ z=>nomatch z) (fun _ z=>nomatch z) (fun v' hv=>(np v' hv).elim),fun a ha=>pm.mem_iff.mpr (by simp at ha;simp[ha])⟩
  have np:∀(s0:Option Sl),s=s0->(∀q,s0≠some (.par q))->∀v',(i,v')∈C.QgL->False:=fun s0 e0 n0 v' hv=>by
   obtain⟨_,q,z⟩:=I.pr _ _ hv
   rw[es] at z
   cases z
   exact n0 q e0.symm
  cases s with
  |none=>cases h;exact fin (np none rfl fun q z=>nomatch z)
  |some s=>
   cases s with
   |frz d0=>cases h;exact fin (np _ rfl fun q z=>by cases z)
   |own d0=>cases h;exact fin (np _ rfl fun q z=>by cases z)
   |par d0=>cases h
theorem SI.Qmx {F H:Hp}{σ:L2.St}{ρ ρ':Rho}{τ:List (L2.V×D)}{fp:List Addr}{i:Nat}{v:L2.V}{d:D}(I:SI C F H σ ρ ((v,d)::τ) fp)(h:Qmx ρ i d=some ρ'):∃fp',SI C F H (σ.set i (some v)) ρ' τ fp':=by
 obtain⟨f,QgN,o,pm0,J,h0,ap,nd0⟩:=I.pop
 unfold TL.Qmx at h
 cases es:ρ[i]? with
 |none=>rw[es] at h;cases h
 |some s=>
  rw[es] at h
  obtain⟨x,f0,g0,rest,ex,s1,pm,w0,w1,cl⟩:=J.cut es
  have nd:=pm.nodup_iff.mp J.nd
  have ndr:=(z09.mp (z09.mp nd).2.1).2.1
  have inr:∀a∈rest,a∈QgN:=fun a ha=>pm.mem_iff.mpr (by simp[ha])
  have fin:(∀v',(i,v')∈C.QgL->False)->∃fp',SI C F H (σ.set i (some v)) (ρ.set i (some (.own d))) τ fp':=fun np=>
   ⟨_,cl (x':=some v) (s':=some (.own d)) (f0':=f) (g0':=[]) (Qz.refl F) J.fh (fun _ _=>rfl) (fun _ z=>z) (fun _ _ _ _ z=>z) (fun _ _ z=>.inl z) (.own o) (z09.mpr ⟨(z09.mp nd0).1,ndr,fun a ha b hb z=>(z09.mp nd0).2.2 a ha b (inr b hb) z⟩) (fun a ha=>by
    rcases z05.mp ha with z|z
    ·exact ap a z
    ·exact J.ap a (inr a z)) h0 (fun _ z=>nomatch z) (fun v' hv=>(np v' hv).elim)⟩
  have np:∀(s0:Option Sl),s=s0->(∀q,s0≠some (.par q))->∀v',(i,v')∈C.QgL->False:=fun s0 e0 n0 v' hv=>by
   obtain⟨_,q,z⟩:=I.pr _ _ hv
   rw[es] at z
   cases z
   exact n0 q e0.symm
  cases s with
  |none=>cases h;exact fin (np none rfl fun q z=>nomatch z)
  |some s=>
   cases s with
   |frz d0=>cases h;exact fin (np _ rfl fun q z=>by cases z)
   |own d0=>cases h;exact fin (np _ rfl fun q z=>by cases z)
   |par d0=>cases h
def Ja (i:Nat)(m:ME):MS:=fun ρ=>(m ρ).bind fun r=>(Rs.of (Y1 r.2 i r.1)).bind fun ρ'=>.ok (.nx,ρ')
def Vh (i:Nat)(m:ME):MS:=fun ρ=>(m ρ).bind fun r=>(Rs.of (Qmx r.2 i r.1)).bind fun ρ'=>.ok (.nx,ρ')
theorem QgO {i:Nat}{D:Ends}{σ:L2.St}{H:Hp}(h:tS rk C E (Ja i m) D σ H):Qpa (tX .V C p E m) (VH i) D σ H:=by
 obtain⟨F,ρ,fp,I,h⟩:=h
 refine⟨F,ρ,[],fp,I,h.split.run.mono fun r hr F1 H1 fp1 v I1 n1 f1=>?_⟩
 obtain⟨ρ',e,h2⟩:=hr.split.of
 obtain⟨fp',J,_⟩:=SI.Y1 I1 f1 e
 exact h2 F1 H1 _ fp' n1.f J
theorem QjD {i:Nat}{D:Ends}{σ:L2.St}{H:Hp}(h:tS rk C E (Vh i m) D σ H):Qpa (tX .O C p E m) (VH i) D σ H:=by
 obtain⟨F,ρ,fp,I,h⟩:=h
 refine⟨F,ρ,[],fp,I,h.split.run.mono fun r hr F1 H1 fp1 v I1 n1 f1=>?_⟩
 obtain⟨ρ',e,h2⟩:=hr.split.of
 obtain⟨fp',J⟩:=SI.Qmx (τ:=[]) I1 e
 exact h2 F1 H1 _ fp' n1.f J
theorem QN {i:Nat}{x:Str}{pos':Pos}(hN:X.N.Nodup)(hi:X.N[i]? = some x)(hx:Loc X.env.scope x)(he:PE X e (tX .V C p E m))(hs:swapsWith e (some (.Name x pos')) pos.line X.env=pure false:=by rfl)(hf:X.fn x=true\/X.env.scope.names.lookup x=some .local:=by first|exact .inl rfl|exact .inr rfl|assumption) :
  PS X (.Assign [.Name x pos'] e pos) (tS rk C E (Ja i m)):=Ju (Qmi hN hi hx he hs hf) fun _ _ _ h=>QgO h
theorem Y2 {i:Nat}{x:Str}{pos':Pos}(hN:X.N.Nodup)(hi:X.N[i]? = some x)(hx:Loc X.env.scope x)(he:PE X e (tX .O C p E m))(hs:swapsWith e (some (.Name x pos')) pos.line X.env=pure false:=by rfl)(hf:X.fn x=true\/X.env.scope.names.lookup x=some .local:=by first|exact .inl rfl|exact .inr rfl|assumption) :
  PS X (.Assign [.Name x pos'] e pos) (tS rk C E (Vh i m)):=Ju (Qmi hN hi hx he hs hf) fun _ _ _ h=>QjD h
def GD (C:Cn)(g:TG)(tg:D->Rho->Option Rho):Prop:=∀F H σ ρ τ fp x d ρ',SI C F H σ ρ τ fp->R C.K F x d->tg d ρ=some ρ'->∀Q:L2.St->Hp->Prop,(∀σ' fp',SI C F H σ' ρ' τ fp'->(∀a∈fp',a∈fp)->Q σ' H)->g x σ H Q
theorem Ye {i:Nat}:GD C (VH i) (fun d ρ=>Y1 ρ i d):=fun F H σ ρ τ fp x d ρ' I r h Q hq=>by
 obtain⟨fp',J,s⟩:=SI.Y1 I r h
 exact hq _ fp' J s
def QdX (i j:Nat)(d:D)(ρ:Rho):Option Rho:=match d with
 |.nd .tup [x,y]=>(Y1 ρ i x).bind fun ρ1=>Y1 ρ1 j y
 |_=>none
theorem Qav {i j:Nat}(hK:C.K=X.K):GD C (Qm0 X.K 2 (QbQ (VH i) (QbQ (VH j) QmZ))) (QdX i j):=fun F H σ ρ τ fp v d ρ' I r h Q hq=>by
 unfold QdX at h
 split at h
 ·next x y=>
  obtain⟨a,vs,rfl,h1,h2⟩:=r.inv
  obtain⟨v1,v2,rfl,r1,r2⟩:=h2.two
  obtain⟨ρ1,e1,e2⟩:=z28.mp h
  obtain⟨fp1,J1,s1⟩:=SI.Y1 I r1 e1
  obtain⟨fp2,J2,s2⟩:=SI.Y1 J1 r2 e2
  refine⟨a,[v1,v2],rfl,by rw[← hK];exact(At.same h1 I.fh).sqt,rfl,v1,[v2],rfl,v2,[],rfl,rfl,?_⟩
  exact hq _ fp2 J2 (fun b hb=>s1 b (s2 b hb))
 ·cases h
structure ItD (K:z01)(F:Hp)(ds:List D)(J:It):Prop where
 go:∀{C:Cn} {F' H:Hp} {σ:L2.St} {ρ:Rho} {τ:List (L2.V×D)} {fp:List Addr} {i:Nat} {d:D},C.K=K->SI C F' H σ ρ τ fp->Qz F F'->ds[i]? = some d->J.go i H/\∀x H',J.yld i H x H'->∃F'',SI C F'' H' σ ρ τ fp/\Nx true F' H fp F'' H' fp/\R K F'' x d
 stop:∀{C:Cn} {F' H:Hp} {σ:L2.St} {ρ:Rho} {τ:List (L2.V×D)} {fp:List Addr},C.K=K->SI C F' H σ ρ τ fp->Qz F F'->J.stop ds.length H
def tI (C:Cn)(p:Bool)(E:XE)(mi:MA):TI:=fun σ H R=>∃F ρ τ fp,SI C F H σ ρ τ fp/\Run C E σ (mi ρ) fun r=>∀F' H' fp' J,SI C F' H' σ r.2 τ fp'->Nx p F H fp F' H' fp'->ItD C.K F' r.1 J->R J H'
theorem QgP {tg iter:Expr}{t t':TI}(h:PI X tg iter t)(k:∀σ H R,t' σ H R->t σ H R):PI X tg iter t':=fun pins s σ H R I q=>h pins s σ H R I (k _ _ _ q)
theorem QjE {K:z01}{F:Hp}{a:Addr}{kd:Bool}{vs:List L2.V}{ds:List D}(h:At K F a (if kd then .lst else .tup) vs)(r:RL K F vs ds):ItD K F ds (Itb kd K a):=by
 have up:∀{F' H:Hp},Qz F F'->Qz F' H->SqB kd K H a vs:=fun s1 s2=>by
  cases kd with
  |true=>exact(At.same (t:=.lst) h (s1.trans s2)).sql
  |false=>exact(At.same (t:=.tup) h (s1.trans s2)).sqt
 refine⟨fun{C F' H σ ρ τ fp i d} hk I s e=>?_,fun{C F' H σ ρ τ fp} hk I s=>?_⟩
 ·obtain⟨v,ev,rv⟩:=r.get e
  have q:=up s I.fh
  cases kd with
  |true=>exact⟨⟨vs,v,q,ev⟩,fun x H' ⟨e1,y⟩=>by
    subst e1
    have z:=y vs q
    rw[ev] at z;cases z
    exact⟨F',I,.refl,rv.same s⟩⟩
  |false=>exact⟨⟨vs,v,q,ev⟩,fun x H' ⟨e1,y⟩=>by
    subst e1
    have z:=y vs q
    rw[ev] at z;cases z
    exact⟨F',I,.refl,rv.same s⟩⟩
 ·have q:=up s I.fh
  have l:=r.length
  cases kd with
  |true=>exact⟨vs,q,by lia⟩
  |false=>exact⟨vs,q,by lia⟩
def JK (m:ME):MA:=fun ρ=>(m ρ).bind fun r=>(Rs.of (Qis [r.1])).bind fun ds=>.ok (ds,r.2)
theorem Q9 {tg l:Expr}(hK:C.K=X.K)(hl:PE X l (tX .V C p E m)):PI X tg l (tI C p E (JK m)):=QgP (Qpz hl) fun σ H RR ⟨F,ρ,τ,fp,I,h⟩=>by
 refine⟨F,ρ,τ,fp,I,h.split.mono fun r hr F1 H1 fp1 v I1 n1 f1=>?_⟩
 obtain⟨ds,eg,h2⟩:=hr.split.of
 obtain⟨q,us,eq,hs,rl⟩:=Qhw (.cons f1 .nil) eg
 cases eq
 rcases hs with hs|hs
 ·refine⟨q,true,rfl,⟨us,by rw[← hK];exact(At.same hs I1.fh).sql⟩,h2 F1 H1 fp1 _ I1 n1 ?_⟩
  rw[← hK]
  exact QjE (kd:=true) hs rl
 ·refine⟨q,false,rfl,⟨us,by rw[← hK];exact(At.same hs I1.fh).sqt⟩,h2 F1 H1 fp1 _ I1 n1 ?_⟩
  rw[← hK]
  exact QjE (kd:=false) hs rl
def QgQ:List D->Option Int
 | [.int i]=>if -(2 ^ 62)<=i/\i<2 ^ 62 then some i else none
 |_=>none
def Qcl (mr:MA):MA:=fun ρ=>(mr ρ).bind fun r=>(Rs.of (QgQ r.1)).bind fun n=>.ok ((z64 n.toNat).map fun j=>.int ((0:Int)+(j:Nat)),r.2)
theorem QnG {K:z01}{F:Hp}{lo:Int}{n:Nat}:ItD K F ((z64 n).map fun j=>.int (lo+(j:Nat))) (Itr lo n):=by
 refine⟨fun{C F' H σ ρ τ fp i d} hk I s e=>?_,fun{C F' H σ ρ τ fp} hk I s=>?_⟩
 ·rw[z18] at e
  obtain⟨j,ej,rfl⟩:=z03.mp e
  have hj:i<n/\j=i:=by
   rw[z26] at ej
   obtain⟨h1,h2⟩:=ej
   rw[zl6] at h2
   rw[z55] at h1
   exact⟨h1,h2.symm⟩
  refine⟨hj.1,fun x H' hz=>?_⟩
  obtain⟨e1,e2⟩:=hz
  subst e1 e2
  rw[hj.2]
  exact⟨F',I,.refl,.sc rfl⟩
 ·show n<=_
  rw[z00,z55]
  exact z27 _
theorem Qaw {tg e:Expr}{px:Pos}(hm:X.mg "range" = none)(ha:PA X [e] (tA ks C p E mr))(ok:rdL ks=true:=by rfl)(hg:Gl X "range" := by rfl)(hs:starEach [e] X.env=[(false,eval e X.env)]:=by rfl):PI X tg (.Call (.Name "range" px) [e] [] pos) (tI C p E (Qcl mr)):=QgP (QiY hg hm ha hs) fun σ H RR ⟨F,ρ,τ,fp,I,h⟩=>by
 refine⟨F,ρ,τ,fp,I,h.split.mono fun r hr F1 H1 fp1 vs I1 n1 f1=>?_⟩
 rw[Y0 ok] at I1
 obtain⟨n,eg,h2⟩:=hr.split.of
 have rl:=f1.rd I1 ok
 unfold QgQ at eg
 split at eg
 ·next i ed=>
  rw[ed] at rl
  obtain⟨v,rfl,rv⟩:=rl.one
  obtain rfl:=rv.QW (w:=.int i) rfl
  by_cases c : -(2 ^ 62)<=i/\i<2 ^ 62
  ·rw[if_pos c] at eg;cases eg
   exact⟨n,rfl,c.1,c.2,h2 F1 H1 fp1 _ I1 n1 QnG⟩
  ·rw[if_neg c] at eg;cases eg
 ·cases eg
def forL (tg:D->Rho->Option Rho)(mb:MS):List D->MS
 | []=>fun ρ=>.ok (.nx,ρ)
 |d::ds=>fun ρ=>(Rs.of (tg d ρ)).bind fun ρ1=>(mb ρ1).bind fun r=>match r.1 with
  |.nx=>forL tg mb ds r.2
  |.ct=>forL tg mb ds r.2
  |.bk=>.ok (.nx,r.2)
  |.rt d=>.ok (.rt d,r.2)
def QcV (mi:MA)(tg:D->Rho->Option Rho)(mb:MS):MS:=fun ρ=>(mi ρ).bind fun r=>forL tg mb r.1 r.2
theorem Vr {tg iter:Expr}{body:List Stmt}{mi:MA}{g:TG}{tgd:D->Rho->Option Rho}(hp:PassesOwn (model X.prog X.w) X.A X.env X.xe)(hc:X.calm=true)(hi:PI X tg iter (tI C p E mi))(hg:PG X tg g)(gd:GD C g tgd)(hb:PSs X body (tS rk C E ms))
  (hs:∀x,foldedSetIterable iter X.env x=pure x:=by intro _;rfl):PS X (.For tg iter body [] pos) (tS rk C E (QcV mi tgd ms)):=Ju (Qpd hp hc hi hg hb hs) fun D σ H ⟨F,ρ,fp,I,h⟩=>by
 refine⟨F,ρ,[],fp,I,h.split.run.mono fun r hr F1 H1 fp1 J I1 n1 it=>?_⟩
 refine⟨fun i m σ' H'=>m=r.1.length - i/\i<=r.1.length/\∃F' ρ' fp',SI C F' H' σ' ρ' [] fp'/\Qz F1 F'/\QfD C E (forL tgd ms (r.1.drop i) ρ') fun q=>Out rk C D F q.1 q.2,⟨r.1.length,by simp,zb4 _,F1,r.2,fp1,I1,Qz.refl _,by rw[zk3];exact hr⟩,?_⟩
 rintro i mm σ2 H2 ⟨rfl,hi2,F2,ρ2,fp2,I2,s2,k2⟩
 by_cases hlt:i<r.1.length
 ·obtain⟨d,ed⟩:∃d,r.1[i]? = some d:=⟨r.1[i],z04 hlt⟩
  obtain⟨g1,g2⟩:=it.go rfl I2 s2 ed
  have edr:r.1.drop i=d::r.1.drop (i+1):=by
   rw[z97 hlt]
   have:r.1[i]=d:=by rw[z04 hlt] at ed;exact z22 ed
   rw[this]
  rw[edr] at k2
  obtain⟨ρ3,e3,k3⟩:=k2.split.of
  refine .inr ⟨g1,fun σ' H'=>∃F' ρ' fp',SI C F' H' σ' ρ' [] fp'/\Qz F1 F'/\QfD C E (forL tgd ms (r.1.drop (i+1)) ρ') fun q=>Out rk C D F q.1 q.2,fun σ' H' z=>⟨_,by lia,rfl,hlt,z⟩,fun x H' y=>?_⟩
  obtain⟨F3,I3,n3,r3⟩:=g2 x H' y
  have s3:Qz F1 F3:=s2.trans n3.f
  refine gd F3 H' σ2 ρ2 [] fp2 x d ρ3 I3 r3 e3 _ fun σ' fp' I4 _=>⟨F3,ρ3,fp',I4,k3.split.mono fun q hq=>?_⟩
  obtain⟨f,ρ4⟩:=q
  have sF:Qz F F3:=n1.f.trans s3
  cases f with
  |nx=>exact fun F5 H5 σ5 fp5 s5 I5=>⟨F5,ρ4,fp5,I5,s3.trans s5,hq⟩
  |ct=>exact fun F5 H5 σ5 fp5 s5 I5=>⟨F5,ρ4,fp5,I5,s3.trans s5,hq⟩
  |bk=>exact fun F5 H5 σ5 fp5 s5 I5=>hq F5 H5 σ5 fp5 (sF.trans s5) I5
  |rt d=>exact fun F5 H5 σ5 fp5 v s5 I5 f5=>hq F5 H5 σ5 fp5 v (sF.trans s5) I5 f5
 ·have e:i=r.1.length:=by lia
  subst e
  rw[zn5] at k2
  exact .inl ⟨it.stop rfl I2 s2,k2 F2 H2 σ2 fp2 (n1.f.trans s2) I2⟩
def whl (mt:MT)(mb:MS):Nat->MS
 |0=>fun _=>.no
 |n+1=>fun ρ=>(mt ρ).bind fun r=>if r.1=true then(mb r.2).bind fun q=>match q.1 with
   |.nx=>whl mt mb n q.2
   |.ct=>whl mt mb n q.2
   |.bk=>.ok (.nx,q.2)
   |.rt d=>.ok (.rt d,q.2)
  else .ok (.nx,r.2)
def Qhx (n:Nat)(mt:MT)(mb:MS):MS:=whl mt mb n
theorem QjF {c:Expr}{body:List Stmt}{n:Nat}(hp:PassesOwn (model X.prog X.w) X.A X.env X.xe)(hc:PT X c (tT C p E mt))(hb:PSs X body (tS rk C E ms)):PS X (.While c body [] pos) (tS rk C E (Qhx n mt ms)):=Ju (Qld hp hc hb) fun D σ H ⟨F,ρ,fp,I,h⟩=>by
 refine⟨fun n σ' H'=>∃F' ρ' fp',SI C F' H' σ' ρ' [] fp'/\Qz F F'/\QfD C E (whl mt ms n ρ') fun q=>Out rk C D F q.1 q.2,⟨n,F,ρ,fp,I,Qz.refl F,h⟩,?_⟩
 rintro n σ2 H2 ⟨F2,ρ2,fp2,I2,s2,k2⟩
 cases n with
 |zero=>exact k2.elim
 |succ n=>
  refine⟨F2,ρ2,[],fp2,I2,k2.split.run.mono fun r hr F3 H3 fp3 I3 n3=>?_⟩
  by_cases cc:r.1=true
  ·rw[if_pos cc] at hr ⊢
   refine⟨fun σ' H'=>∃F' ρ' fp',SI C F' H' σ' ρ' [] fp'/\Qz F F'/\QfD C E (whl mt ms n ρ') fun q=>Out rk C D F q.1 q.2,fun σ' H' z=>⟨n,zo1 n,z⟩,F3,r.2,fp3,I3,hr.split.mono fun q hq=>?_⟩
   obtain⟨f,ρ4⟩:=q
   have sF:Qz F F3:=s2.trans n3.f
   cases f with
   |nx=>exact fun F5 H5 σ5 fp5 s5 I5=>⟨F5,ρ4,fp5,I5,sF.trans s5,hq⟩
   |ct=>exact fun F5 H5 σ5 fp5 s5 I5=>⟨F5,ρ4,fp5,I5,sF.trans s5,hq⟩
   |bk=>exact fun F5 H5 σ5 fp5 s5 I5=>hq F5 H5 σ5 fp5 (sF.trans s5) I5
   |rt d=>exact fun F5 H5 σ5 fp5 v s5 I5 f5=>hq F5 H5 σ5 fp5 v (sF.trans s5) I5 f5
  ·rw[if_neg cc] at hr ⊢
   exact hr F3 H3 σ2 fp3 (s2.trans n3.f) I3
end
def mkS (par:Bool)(d:D):Sl:=if par then .par d else .own d
def Qax (par:Bool)(ρ:Rho):List Nat->Option (List D)
 | []=>some []
 |i::is=>match ρ[i]? with
  |some (some (.own d))=>if par then none else(Qax par ρ is).map (d::·)
  |some (some (.par d))=>if par then(Qax par ρ is).map (d::·) else none
  |_=>none
def VW (par:Bool)(ρ:Rho):List Nat->List D->Rho
 |i::is,d::ds=>(VW par ρ is ds).set i (some (mkS par d))
 |_,_=>ρ
theorem QfE {par:Bool}{ρ:Rho}{i:Nat}{is:List Nat}{ds:List D}(h:Qax par ρ (i::is)=some ds):∃d r,ds=d::r/\ρ[i]? = some (some (mkS par d))/\Qax par ρ is=some r:=by
 unfold Qax at h
 split at h
 ·next d e=>
  cases par with
  |true=>cases h
  |false=>
   obtain⟨r,hr,rfl⟩:=z03.mp h
   exact⟨d,r,rfl,e,hr⟩
 ·next d e=>
  cases par with
  |false=>cases h
  |true=>
   obtain⟨r,hr,rfl⟩:=z03.mp h
   exact⟨d,r,rfl,e,hr⟩
 ·cases h
theorem Qhy {par:Bool}{ρ:Rho}{i:Nat}{s:Option Sl}:∀{is:List Nat},i∉is->Qax par (ρ.set i s) is=Qax par ρ is
 | [],_=>rfl
 |j::is,h=>by
  have n:i≠j:=fun e=>h (e▸z07)
  unfold Qax
  rw[z65 n,Qhy fun z=>h (z08 _ z)]
theorem Qhz {par:Bool}{ρ:Rho}{i:Nat}{s:Option Sl}:∀{is:List Nat} {ds:List D},i∉is->VW par (ρ.set i s) is ds=(VW par ρ is ds).set i s
 | [],_,_=>by unfold VW;rfl
 |j::is,[],_=>by unfold VW;rfl
 |j::is,d::ds,h=>by
  have n:i≠j:=fun e=>h (e▸z07)
  unfold VW
  rw[Qhz fun z=>h (z08 _ z),List.set_comm _ _ (fun e=>n e)]
theorem QhA {par:Bool}{ρ:Rho}{i:Nat}:∀{is:List Nat} {ds:List D},i∉is->(VW par ρ is ds)[i]? = ρ[i]?
 | [],_,_=>by unfold VW;rfl
 |j::is,[],_=>by unfold VW;rfl
 |j::is,d::ds,h=>by
  have n:j≠i:=fun e=>h (e▸z07)
  unfold VW
  rw[z65 n,QhA fun z=>h (z08 _ z)]
theorem QhB {par:Bool}{ρ:Rho}:∀{is:List Nat} {ds:List D},(VW par ρ is ds).length=ρ.length
 | [],_=>by unfold VW;rfl
 |j::is,[]=>by unfold VW;rfl
 |j::is,d::ds=>by unfold VW;rw[zb7,QhB]
inductive Sig (σ:L2.St):List Nat->List L2.V->Prop
 |nil:Sig σ [] []
 |cons {i:Nat} {v:L2.V} {is:List Nat} {vs:List L2.V} (h:σ[i]? = some (some v)) (r:Sig σ is vs):Sig σ (i::is) (v::vs)
def VX (C:Cn)(par:Bool)(a:Addr):Prop:=C.H₀ a=none\/(par=true/\a∈C.A)
section
variable {C:Cn}{F H:Hp}{σ:L2.St}{ρ:Rho}{τ:List (L2.V×D)}{fp:List Addr}{par:Bool}
theorem SI.QsK (I:SI C F H σ ρ τ fp):SI { C with QgL:=[]} F H σ ρ τ fp:=⟨I.sl,I.nd,I.ap,I.fh,I.f0,I.fn,I.kp,I.dm,fun _ _ z=>nomatch z⟩
theorem SI.Qp1 (hp:C.QgL=[]):∀{is:List Nat} {ρ:Rho} {fp:List Addr} {ds:List D},is.Nodup->SI C F H σ ρ τ fp->Qax par ρ is=some ds->∃vs f rest,Sig σ is vs/\OL C.K F H vs ds f/\fp.Perm (f++rest)/\(∀a∈f,VX C par a)/\
  ∀{F' H':Hp} {f':List Addr} {ds':List D},Qz F F'->Qz F' H'->(∀a∈rest,H' a=H a)->(∀b,H' b=none->H b=none)->(∀b o,C.H₀ b=some o->b∉C.A->H b=some o->H' b=some o)->(∀b o,F' b=some o->F b=some o\/Nw C.H₀ b o)->
   OL C.K F' H' vs ds' f'->(f'++rest).Nodup->(∀a∈f'++rest,F' a=none)->(∀a∈f',VX C par a)->SI C F' H' σ (VW par ρ is ds') τ (f'++rest)
 | [],ρ,fp,ds,_,I,h=>by
  cases h
  refine⟨[],[],fp,.nil,.nil,by simp,(fun _ z=>nomatch z),fun{F' H' f' ds'} sf fh hk dm kp fn ol nd ap fr=>?_⟩
  cases ol
  exact I.step sf fh hk (fun a ha=>ap a ha) fn kp dm
 |i::is,ρ,fp,ds,nd,I,h=>by
  obtain⟨ni,nd'⟩:=z72.mp nd
  obtain⟨d,r,rfl,es,hr⟩:=QfE h
  obtain⟨x,f0,g0,Qp2,ex,s1,pm,w0,w1,cl⟩:=I.cut es
  have ndp:=pm.nodup_iff.mp I.nd
  have QnH:∀v,(i,v)∈C.QgL->False:=fun v hv=>by rw[hp] at hv;exact nomatch hv
  obtain⟨v,fi,ev,hv,efi,wfi⟩:∃v fi,x=some v/\O C.K F H v d fi/\f0++g0=fi/\∀a∈fi,VX C par a:=by
   cases par with
   |false=>cases s1 with|own h=>exact⟨_,_,rfl,h,by simp,fun a ha=>.inl (w0 a ha)⟩
   |true=>cases s1 with|par h=>exact⟨_,_,rfl,h,rfl,fun a ha=>(w1 a ha).elim (fun z=>.inr ⟨rfl,z⟩) fun z=>.inl z⟩
  subst ev
  have QuF:Qp2.Nodup:=(z09.mp (z09.mp ndp).2.1).2.1
  have I1:=cl (x':=some v) (s':=none) (f0':=[]) (g0':=[]) (Qz.refl F) I.fh (fun _ _=>rfl) (fun _ z=>z) (fun _ _ _ _ z=>z) (fun _ _ z=>.inl z) .non QuF (fun a ha=>I.ap a (pm.mem_iff.mpr (by simp at ha;simp[ha]))) (fun _ z=>nomatch z) (fun _ z=>nomatch z) (fun v' hv'=>(QnH v' hv').elim)
  rw[JS ex] at I1
  obtain⟨vs,f2,QdC,sg,ol,pm2,w2,cl2⟩:=SI.Qp1 hp nd' I1 (by rw[Qhy ni];exact hr)
  have QuG:Qp2.Perm (f2++QdC):=pm2
  have pmf:fp.Perm ((fi++f2)++QdC):=by
   refine pm.trans ?_
   rw[← z20,efi,z20]
   exact QuG.append_left fi
  refine⟨v::vs,fi++f2,QdC,.cons ex sg,.cons hv ol,pmf,fun a ha=>(z05.mp ha).elim (wfi a) (w2 a),fun{F' H' f' ds'} sf fh hk dm kp fn ol' nd2 ap fr=>?_⟩
  cases ol' with
  | @cons _ d' _ Qp3 fa fb oa ob=>
   have nd3:(fa++(fb++QdC)).Nodup:=by rw[← z20];exact nd2
   have I2:=cl2 sf fh hk dm kp fn ob (z09.mp nd3).2.1 (fun a ha=>ap a (by rw[z20];exact z02 _ ha)) (fun a ha=>fr a (z02 _ ha))
   have li:i<ρ.length:=(z26.mp es).1
   have en:(VW par (ρ.set i none) is Qp3)[i]? = some none:=by rw[QhA ni,z96 li]
   obtain⟨x3,f3,g3,Qio,ex3,s3,pm3,_,_,cl3⟩:=I2.cut en
   cases s3
   have QsL:(fb++QdC).Perm Qio:=pm3
   have nd4:(fa++Qio).Nodup:=(QsL.append_left fa).nodup_iff.mp nd3
   have ap4:∀a∈fa++Qio,F' a=none:=fun a ha=>ap a (by
    rw[z20]
    rcases z05.mp ha with z|z
    ·exact z06 _ z
    ·exact z02 _ (QsL.mem_iff.mpr z))
   have eρ:(VW par (ρ.set i none) is Qp3).set i (some (mkS par d'))=VW par ρ (i::is) (d'::Qp3):=by
    rw[Qhz ni,List.set_set]
    rfl
   have pmx:(fa++Qio).Perm ((fa++fb)++QdC):=by rw[z20];exact QsL.symm.append_left fa
   have fra:∀a∈fa,VX C par a:=fun a ha=>fr a (z06 _ ha)
   rw[← eρ]
   cases par with
   |false=>
    have J:=cl3 (F':=F') (H':=H') (x':=some v) (s':=some (.own d')) (f0':=fa) (g0':=[]) (Qz.refl _) fh (fun _ _=>rfl) (fun _ z=>z) (fun _ _ _ _ z=>z) (fun _ _ z=>.inl z) (.own oa) nd4 ap4 (fun a ha=>(fra a ha).resolve_right fun z=>nomatch z.1) (fun _ z=>nomatch z) (fun v' hv'=>(QnH v' hv').elim)
    rw[JS ex] at J
    exact J.perm pmx
   |true=>
    have J:=cl3 (F':=F') (H':=H') (x':=some v) (s':=some (.par d')) (f0':=[]) (g0':=fa) (Qz.refl _) fh (fun _ _=>rfl) (fun _ z=>z) (fun _ _ _ _ z=>z) (fun _ _ z=>.inl z) (.par oa) nd4 ap4 (fun _ z=>nomatch z) (fun a ha=>(fra a ha).elim (fun z=>.inr z) fun z=>.inl z.2) (fun v' hv'=>(QnH v' hv').elim)
    rw[JS ex] at J
    exact J.perm pmx
theorem SI.lend {is:List Nat}{ds:List D}(nd:is.Nodup)(I:SI C F H σ ρ τ fp)(h:Qax par ρ is=some ds):∃vs f rest,Sig σ is vs/\OL C.K F H vs ds f/\fp.Perm (f++rest)/\(∀a∈f,VX C par a)/\
  ∀{F' H':Hp} {f':List Addr} {ds':List D},Qz F F'->Qz F' H'->(∀a∈rest,H' a=H a)->(∀b,H' b=none->H b=none)->(∀b o,C.H₀ b=some o->b∉C.A->H b=some o->H' b=some o)->(∀b o,F' b=some o->F b=some o\/Nw C.H₀ b o)->
   OL C.K F' H' vs ds' f'->(f'++rest).Nodup->(∀a∈f'++rest,F' a=none)->(∀a∈f',VX C par a)->SI C F' H' σ (VW par ρ is ds') τ (f'++rest):=by
 obtain⟨vs,f,rest,sg,ol,pm,w,cl⟩:=SI.Qp1 (C:={ C with QgL:=[]}) rfl nd I.QsK h
 refine⟨vs,f,rest,sg,ol,pm,w,fun{F' H' f' ds'} sf fh hk dm kp fn ol' nd2 ap fr=>?_⟩
 have J:=cl sf fh hk dm kp fn ol' nd2 ap fr
 refine⟨J.sl,J.nd,J.ap,J.fh,J.f0,J.fn,J.kp,J.dm,fun j v hj=>?_⟩
 obtain⟨p1,d,p2⟩:=I.pr j v hj
 refine⟨p1,?_⟩
 have len:ds'.length=is.length:=by
  have e1:vs.length=is.length:=by
   have:∀{is:List Nat} {vs:List L2.V},Sig σ is vs->vs.length=is.length:=by
    intro is vs s
    induction s with
    |nil=>rfl
    |cons _ _ ih=>rw[z24,z24,ih]
   exact this sg
  rw[← ol'.length,e1]
 have go:∀{is:List Nat} {ds ds':List D},is.Nodup->Qax par ρ is=some ds->ds'.length=is.length->∃d,(VW par ρ is ds')[j]? = some (some (.par d)):=by
  intro is
  induction is with
  |nil=>intro ds ds' _ _ _;unfold VW;exact⟨d,p2⟩
  |cons i is ih=>
   intro ds ds' nd h l
   obtain⟨ni,nd'⟩:=z72.mp nd
   obtain⟨d0,r,rfl,es,hr⟩:=QfE h
   cases ds' with
   |nil=>cases l
   |cons d' Qp3=>
    unfold VW
    by_cases e:i=j
    ·subst e
     have li:i<(VW par ρ is Qp3).length:=by rw[QhB];exact(z26.mp es).1
     rw[z96 li]
     rw[p2] at es
     cases par with
     |false=>cases es
     |true=>exact⟨d',rfl⟩
    ·rw[z65 e]
     exact ih nd' hr (by simpa using l)
 exact go nd h len
end
inductive Fr where
 |ok (r:D) (outs:List D)
 |ex (c:Addr)
 |no
inductive AL (K:z01) (F H:Hp):List Bool->List L2.V->List D->List Addr->Prop
 |nil:AL K F H [] [] [] []
 |val {v:L2.V} {d:D} {io:List Bool} {vs:List L2.V} {ds:List D} {fp:List Addr} (h:R K F v d) (r:AL K F H io vs ds fp):AL K F H (false::io) (v::vs) (d::ds) fp
 |io {v:L2.V} {d:D} {io:List Bool} {vs:List L2.V} {ds:List D} {f fp:List Addr} (h:O K F H v d f) (r:AL K F H io vs ds fp):AL K F H (true::io) (v::vs) (d::ds) (f++fp)
def ioV:List Bool->List L2.V->List L2.V
 |true::io,v::vs=>v::ioV io vs
 |false::io,_::vs=>ioV io vs
 |_,_=>[]
def RkF (rk:Kd)(K:z01)(F H:Hp)(v:L2.V)(d:D)(f:List Addr):Prop:=match rk with
 |.V=>R K F v d/\f=[]
 |.O=>O K F H v d f
 |_=>False
def spF (K:z01)(io:List Bool)(rk:Kd)(m:List D->Fr):Sp:=fun vs H Q E=>∃F ds fp,AL K F H io vs ds fp/\fp.Nodup/\(∀a∈fp,F a=none)/\Qz F H/\match m ds with
 |.ok r outs=>∀F' H' v fr fo,Qz F F'->Qz F' H'->(∀b o,F' b=some o->F b=some o\/Nw H b o)->(∀b o,H b=some o->b∉fp->H' b=some o)->(∀b,H' b=none->H b=none)->RkF rk K F' H' v r fr->OL K F' H' (ioV io vs) outs fo->
   (fr++fo).Nodup->(∀a∈fr++fo,F' a=none)->(∀a∈fr,H a=none)->(∀a∈fo,a∈fp\/H a=none)->Q v H'
 |.ex c=>∀H',(∀b o,H b=some o->b∉fp->H' b=some o)->(∀b,H' b=none->H b=none)->E (.ref c) none H'
 |.no=>False
theorem AL.len {K:z01}{F H:Hp}{io:List Bool}{vs:List L2.V}{ds:List D}{fp:List Addr}(h:AL K F H io vs ds fp):vs.length=io.length:=by
 induction h with
 |nil=>rfl
 |val _ _ ih=>rw[z24,z24,ih]
 |io _ _ ih=>rw[z24,z24,ih]
def kdOf:Option Nat->Kd
 |none=>.V
 |some i=>.S i
def QlH:List (Option Nat)->List D->List D->List D
 |none::as,d::ds,l=>d::QlH as ds l
 |some _::as,_::ds,x::l=>x::QlH as ds l
 |_,_,_=>[]
def JB (par:Bool)(as:List (Option Nat))(f:List D->Fr)(mr:MA):ME:=fun ρ=>(mr ρ).bind fun r=>(Rs.of (Qax par r.2 (as.filterMap id))).bind fun dis=>match f (QlH as r.1 dis) with
 |.ok d outs=>.ok (d,VW par r.2 (as.filterMap id) outs)
 |.ex c=>if(as.filterMap id).isEmpty=true then .ex c r.2 else .no
 |.no=>.no
def Qbz (X:Cx)(E:XE):Prop:=∀(pins:List (Addr×Obj)) (σ:L2.St) (H:Hp) (s:Shared) (e:Value) (s':Shared),Inv X pins σ H s->CXe X.prog X.w X.stack H s (E σ) e s'->X.xe e s'
def QhC (sp:Sp)(E:XE)(t:TA):TE:=fun σ H Q=>t σ H fun vs H1=>sp vs H1 Q (E σ)
section
variable {X:Cx}{C:Cn}{E:XE}{p pa:Bool}{e a b:Expr}{es:List Expr}{m:ME}{mr:MA}{pos:Pos}{rk:Kd}{ks:List Kd}{n:Nat}{ps:List Str}{sp:Sp}{x:Str}{px:Pos}{t:TA}
theorem QgR {f:Addr}{fd:FuncData}{pins:List (Addr×Obj)}{σ:L2.St}{H:Hp}{s:Shared}{Q:VK}{us:List Value}{vs:List L2.V}(F:JF X.prog X.w X.K X.mg X.base (CXe X.prog X.w) n f fd ps sp)(hr:Qao n X.A)(hb:Binds X.K fd ps [])(hx:Qbz X E)
  (I:Inv X pins σ H s) (r:Vals vs us) (h:sp vs H Q (E σ)):wpAny (model X.prog X.w) X.A (call (.ref f) us) (EP X pins σ Q) X.xe s:=by
 have hl:(us++[]).length=ps.length:=by rw[z53,← r.length];exact F.len _ _ _ _ h
 have hb':=hb s us I.kIn hl
 rw[z53] at hb'
 refine wpAny_call (zp6 (F.run X.A X.stack s H ⟨us,[]⟩ us vs Q (E σ) hr I.env0 hb' r h) fun r s' hq=>?_)
 cases r with
 |error e=>exact hx pins σ H s e s' I hq
 |ok fl=>
  cases fl with
  |ret u=>exact I.after hq
  |next=>exact zb6 hq
  |brk=>exact zb6 hq
  |cont=>exact zb6 hq
theorem QjG (D:Qi X.prog X.w X.K X.mg X.base n x ps sp)(hx:Qbz X E)(hr:Qao n X.A)(ha:PA X (e::es) t)(hg:Gl X x:=by rfl)
  (hdb:(x == ("__debug__" : Str))=false:=by decide) (he:starEach (e::es) X.env=(false,eval e X.env)::starEach es X.env:=by rfl) (hpl:(backTo pos (starEach es X.env)).any (·.1)=false:=by rfl) :
  PE X (.Call (.Name x px) (e::es) [] pos) (QhC sp E t):=by
 obtain⟨f,fd,F,hm,hk,hb⟩:=D.ex
 intro pins s σ H Q I h
 refine zf5 (Qgt I hg hm ?_ hdb)
 refine zk1 (h₀:=X.base) I.ok.mod.kin hk (thn (ha pos pins s σ H _ I h) fun us s1 hz=>?_) he hpl
 obtain⟨vs,H1,I1,r,q⟩:=hz
 refine⟨I1.kIn,?_⟩
 exact QgR F hr hb hx I1 r q
theorem QjH:∀{as:List (Option Nat)} {vs:List L2.V} {ds:List D} {τ:List (L2.V×D)},tkL (as.map kdOf) vs ds τ=τ
 | [],_,_,_=>by unfold tkL;rfl
 |none::as,[],_,_=>by unfold tkL;rfl
 |none::as,_::_,[],_=>by unfold tkL;rfl
 |none::as,v::vs,d::ds,τ=>by
  show tkL (Kd.V::as.map kdOf) (v::vs) (d::ds) τ=τ
  unfold tkL;exact QjH
 |some i::as,[],_,_=>by unfold tkL;rfl
 |some i::as,_::_,[],_=>by unfold tkL;rfl
 |some i::as,v::vs,d::ds,τ=>by
  show tkL (Kd.S i::as.map kdOf) (v::vs) (d::ds) τ=τ
  unfold tkL;exact QjH
theorem QsM {F H:Hp}{fp:List Addr}{σ:L2.St}:∀{as:List (Option Nat)} {vs:List L2.V} {ds:List D} {vi:List L2.V} {di:List D} {f:List Addr},FcL C F H fp σ (as.map kdOf) vs ds->Sig σ (as.filterMap id) vi->OL C.K F H vi di f->
  AL C.K F H (as.map (·.isSome)) vs (QlH as ds di) f/\ioV (as.map (·.isSome)) vs=vi:=by
 intro as
 induction as with
 |nil=>intro _ _ _ _ _ h1 h2 h3;cases h1;cases h2;cases h3;exact⟨.nil,rfl⟩
 |cons a as ih=>
  intro _ _ vi di f h1 sg ol
  cases a with
  |none=>
   have h1:FcL C F H fp σ (_::as.map kdOf) _ _:=h1
   cases h1 with
   |cons h r=>
    obtain⟨q1,q2⟩:=ih r sg ol
    exact⟨.val h q1,q2⟩
  |some i=>
   have h1:FcL C F H fp σ (_::as.map kdOf) _ _:=h1
   have sg2:Sig σ (i::as.filterMap id) vi:=sg
   cases h1 with
   |cons h r=>cases sg2 with
    |cons e sg3=>cases ol with
     |cons o ol=>
      obtain⟨q1,q2⟩:=ih r sg3 ol
      have ev:=z22 (z22 (Eq.trans (Eq.symm (show σ[i]? = some (some _) from h)) e))
      subst ev
      exact⟨.io o q1,congrArg _ q2⟩
theorem QlI {par:Bool}{as:List (Option Nat)}{f:List D->Fr}(nd:(as.filterMap id).Nodup)(hrk:rk=.V\/rk=.O)(hp:p=true->(as.filterMap id)=[]){σ:L2.St}{H:Hp}{Q:VK}(h:tX rk C (pa && p) E (JB par as f mr) σ H Q) :
  QhC (spF C.K (as.map (·.isSome)) rk f) E (tA (as.map kdOf) C pa E mr) σ H Q:=by
 obtain⟨F,ρ,τ,fp,I,h⟩:=h
 refine⟨F,ρ,τ,fp,I,h.split.mono fun r hr F1 H1 fp1 vs I1 n1 f1=>?_⟩
 rw[QjH] at I1
 obtain⟨dis,eg,h2⟩:=hr.split.of
 obtain⟨vi,fl,rest,sg,ol,pm,w,cl⟩:=I1.lend nd eg
 obtain⟨al,eio⟩:=QsM f1 sg ol
 have ndp:=pm.nodup_iff.mp I1.nd
 have inl:∀a∈fl,a∈fp1:=fun a ha=>pm.mem_iff.mpr (z06 _ ha)
 have inr:∀a∈rest,a∈fp1:=fun a ha=>pm.mem_iff.mpr (z02 _ ha)
 have QtX:∀a∈rest,a∉fl:=fun a ha hf=>(z09.mp ndp).2.2 a hf a ha rfl
 refine⟨F1,_,fl,al,(z09.mp ndp).1,fun a ha=>I1.ap a (inl a ha),I1.fh,?_⟩
 cases ef:f (QlH as r.1 dis) with
 |no=>rw[ef] at h2;exact h2
 |ex c=>
  rw[ef] at h2
  dsimp only at h2 ⊢
  intro H' kp' dm'
  by_cases hem:(as.filterMap id).isEmpty=true
  ·rw[if_pos hem] at h2
   have e0:as.filterMap id=[]:=by simpa using hem
   have ef0:fl=[]:=by
    rw[e0] at sg
    cases sg
    cases ol
    rfl
   subst ef0
   have J:SI C F1 H' σ r.2 τ fp1:=I1.step (Qz.refl _) (fun b o e=>kp' b o (I1.fh b o e) (by simp)) (fun a ha=>by
    obtain⟨o,e,_⟩:=I1.mem a ha
    rw[e,kp' a o e (by simp)]) I1.ap (fun _ _ z=>.inl z) (fun b o _ _ e=>kp' b o e (by simp)) dm'
   obtain⟨fp2,J2⟩:=J.drop
   exact h2 F1 H' fp2 J2
  ·rw[if_neg hem] at h2;exact h2.elim
 |ok d outs=>
  rw[ef] at h2
  dsimp only at h2 ⊢
  intro F' H' v fr fo sF fh' fn' kp' dm' rf ol' nd' ap' frn fon
  rw[eio] at ol'
  have hrest:∀a∈rest,H' a=H1 a:=fun a ha=>by
   obtain⟨o,e,_⟩:=I1.mem a (inr a ha)
   rw[e,kp' a o e (QtX a ha)]
  have QbX:∀a∈fp1,H1 a≠none:=fun a ha z=>by
   obtain⟨o,e,_⟩:=I1.mem a ha
   rw[z] at e;cases e
  have apr:∀a∈rest,F' a=none:=fun a ha=>by
   cases e:F' a with
   |none=>rfl
   |some o=>
    rcases fn' a o e with z|z
    ·rw[I1.ap a (inr a ha)] at z;cases z
    ·obtain⟨o2,e2,m2⟩:=I1.mem a (inr a ha)
     exact(z.not (QbX a (inr a ha)) (fh' a o e) ((hrest a ha).trans e2) m2).elim
  have QsN:=z09.mp nd'
  have QsO:∀a∈fo,a∉rest:=fun a ha hr=>by
   rcases fon a ha with z|z
   ·exact QtX a hr z
   ·exact QbX a (inr a hr) z
  have J:=cl sF fh' hrest dm' (fun b o e n z=>kp' b o z fun hb=>by
   rcases w b hb with y|y
   ·rw[y] at e;cases e
   ·exact n y.2) (fun b o e=>(fn' b o e).imp id fun z=>z.up fun y=>I1.dm b y) ol' (z09.mpr ⟨QsN.2.1,(z09.mp ndp).2.1,fun a ha b hb z=>QsO a ha (z▸hb)⟩) (fun a ha=>(z05.mp ha).elim (fun z=>ap' a (z02 _ z)) (apr a)) (fun a ha=>(fon a ha).elim (w a) fun z=>.inl (I1.dm a z))
  have nxt:∀{fp':List Addr},(∀a∈rest,a∈fp')->(∀a,F1 a≠none->a∉fp')->Nx (pa && p) F H fp F' H' fp':=fun{fp'} sub nin=>by
   refine n1.trans (q:=p) ⟨sF,fun hpp b o e=>?_⟩
   have ef0:fl=[]:=by
    rw[hp hpp] at sg
    cases sg
    cases ol
    rfl
   subst ef0
   by_cases hb:b∈fp1
   ·have hb':b∈rest:=by simpa using pm.mem_iff.mp hb
    rw[VS hb] at e
    rw[VS (sub b hb')]
    exact kp' b o e (by simp)
   ·rw[JG hb] at e
    rw[JG (nin b (by rw[e];simp))]
    exact sF b o e
  rcases hrk with rfl|rfl
  ·obtain⟨rv,rfl⟩:=rf
   refine h2 F' H' _ v J (nxt (fun a ha=>z02 _ ha) fun a hF hm=>?_) rv
   rcases z05.mp hm with z|z
   ·rw[Qz.free sF (ap' a z)] at hF;exact hF rfl
   ·rw[I1.ap a (inr a z)] at hF;exact hF rfl
  ·have QjI:(fr++(fo++rest)).Nodup:=z09.mpr ⟨QsN.1,J.nd,fun a ha b hb z=>by
    subst z
    rcases z05.mp hb with y|y
    ·exact QsN.2.2 a ha a y rfl
    ·exact QbX a (inr a y) (frn a ha)⟩
   refine h2 F' H' _ v (J.push rf (fun a ha=>I1.dm a (frn a ha)) (fun a ha=>ap' a (z06 _ ha)) QjI) (nxt (fun a ha=>z02 _ (z02 _ ha)) fun a hF hm=>?_) z58
   rcases z05.mp hm with z|z
   ·rw[Qz.free sF (ap' a (z06 _ z))] at hF;exact hF rfl
   ·rcases z05.mp z with z|z
    ·rw[Qz.free sF (ap' a (z02 _ z))] at hF;exact hF rfl
    ·rw[I1.ap a (inr a z)] at hF;exact hF rfl
theorem Qa8 {par:Bool}{as:List (Option Nat)}{f:List D->Fr}(D:Qi X.prog X.w X.K X.mg X.base n x ps (spF C.K (as.map (·.isSome)) rk f))(hx:Qbz X E)(hr:Qao n X.A)(ha:PA X (e::es) (tA (as.map kdOf) C pa E mr))(hrk:rk=.V\/rk=.O:=by first|exact .inl rfl|exact .inr rfl)(nd:(as.filterMap id).Nodup:=by decide)(hp:p=true->as.filterMap id=[]:=by decide)(hg:Gl X x:=by rfl)
  (hdb:(x == ("__debug__" : Str))=false:=by decide) (he:starEach (e::es) X.env=(false,eval e X.env)::starEach es X.env:=by rfl) (hpl:(backTo pos (starEach es X.env)).any (·.1)=false:=by rfl) :
  PE X (.Call (.Name x px) (e::es) [] pos) (tX rk C (pa && p) E (JB par as f mr)):=Qv (QjG D hx hr ha hg hdb he hpl) fun _ _ _ h=>QlI nd hrk hp h
theorem O.loB {K:z01}{F H:Hp}{L:List Addr}(hl:∀b∈L,∀o,F b=some o->Mbl o):(∀v d fp,O K F H v d fp->O K (lo F L) H v d fp)/\∀v d fp,OL K F H v d fp->OL K (lo F L) H v d fp:=
 O.ind .sc (fun m h q=>.im m (h.lo m hl) q) .mt .nil .cons
theorem O.lo {K:z01}{F H:Hp}{L:List Addr}(hl:∀b∈L,∀o,F b=some o->Mbl o){v:L2.V}{d:D}{fp:List Addr}(h:O K F H v d fp):O K (lo F L) H v d fp:=(O.loB hl).1 _ _ _ h
def Ql (rk:Kd)(f:List D->Fr)(mr:MA):ME:=fun ρ=>(mr ρ).bind fun r=>match f r.1 with
 |.ok d _=>match rk with
  |.V=>if d.imm=true then .ok (d,r.2) else .no
  |_=>.ok (d,r.2)
 |.ex c=>.ex c r.2
 |.no=>.no
theorem QnI {K:z01}{F H:Hp}:∀{vs:List L2.V} {ds:List D},RL K F vs ds->AL K F H (vs.map fun _=>false) vs ds []
 |_,_,.nil=>.nil
 |_,_,.cons h r=>.val h (QnI r)
theorem QfF {f:List D->Fr}{io:List Bool}(hio:io.all (!·)=true)(hl:io.length=ks.length)(hrk:rk=.V\/rk=.O)(ok:rdL ks=true){σ:L2.St}{H:Hp}{Q:VK}(h:tX rk C pa E (Ql rk f mr) σ H Q):QhC (spF C.K io rk f) E (tA ks C pa E mr) σ H Q:=by
 obtain⟨F,ρ,τ,fp,I,h⟩:=h
 refine⟨F,ρ,τ,fp,I,h.split.mono fun r hr F1 H1 fp1 vs I1 n1 f1=>?_⟩
 rw[Y0 ok] at I1
 have rl:=f1.rd I1 ok
 have hlen:vs.length=ks.length:=by
  have:∀{ks:List Kd} {vs:List L2.V} {ds:List D},FcL C F1 H1 fp1 σ ks vs ds->vs.length=ks.length:=by
   intro ks vs ds z
   induction z with
   |nil=>rfl
   |cons _ _ ih=>rw[z24,z24,ih]
  exact this f1
 have eio:io=vs.map fun _=>false:=by
  have:∀{io:List Bool} {n:Nat},io.all (!·)=true->io.length=n->io=za1 n false:=by
   intro io
   induction io with
   |nil=>intro n _ e;subst e;rfl
   |cons x io ih=>
    intro n h e
    subst e
    rw[zi6,z99] at h
    rw[z24,zt3,← ih h.2 rfl]
    have:x=false:=by simpa using h.1
    rw[this]
  rw[this hio (hl.trans hlen.symm)]
  exact(List.map_const' ..).symm
 have hmt:∀{F':Hp},Qz (jn F1 H1 fp1) F'->∀b∈fp1,∀o,F' b=some o->Mbl o:=fun{F'} s b hb o e=>by
  obtain⟨o',e',z⟩:=I1.mem b hb
  have q:=s b o' (by rw[VS hb];exact e')
  rw[e] at q;cases q
  exact z
 refine⟨jn F1 H1 fp1,r.1,[],by rw[eio];exact QnI rl,zf8,(fun _ z=>nomatch z),Qap I1.fh,?_⟩
 cases ef:f r.1 with
 |no=>rw[ef] at hr;exact hr
 |ex c=>
  rw[ef] at hr
  dsimp only at hr ⊢
  intro H' kp' dm'
  have J:SI C F1 H' σ r.2 τ fp1:=I1.step (Qz.refl _) (fun b o e=>kp' b o (I1.fh b o e) (by simp)) (fun a ha=>by
   obtain⟨o,e,_⟩:=I1.mem a ha
   rw[e,kp' a o e (by simp)]) I1.ap (fun _ _ z=>.inl z) (fun b o _ _ e=>kp' b o e (by simp)) dm'
  obtain⟨fp2,J2⟩:=J.drop
  exact hr F1 H' fp2 J2
 |ok d outs=>
  rw[ef] at hr
  dsimp only at hr ⊢
  intro F' H' v fr fo sF fh' fn' kp' dm' rf ol' nd' ap' frn fon
  have sN:Qz F1 (lo F' fp1):=fun b o e=>by
   have nb:b∉fp1:=fun z=>by rw[I1.ap b z] at e;cases e
   rw[Qa4 nb]
   exact sF b o (by rw[JG nb];exact e)
  have J:SI C (lo F' fp1) H' σ r.2 τ fp1:=by
   refine I1.step sN (lo_le.trans fh') (fun a ha=>?_) (fun a ha=>Qir ha) (fun b o e=>?_) (fun b o _ _ e=>kp' b o e (by simp)) dm'
   ·obtain⟨o,e,_⟩:=I1.mem a ha
    rw[e,kp' a o e (by simp)]
   ·have nb:b∉fp1:=fun z=>by rw[Qir z] at e;cases e
    rw[Qa4 nb] at e
    rcases fn' b o e with z|z
    ·rw[JG nb] at z;exact .inl z
    ·exact .inr (z.up fun y=>I1.dm b y)
  have Qp4:∀{fp':List Addr},(∀a∈fp1,a∈fp')->(∀a,F1 a≠none->a∉fp')->Nx pa F H fp (lo F' fp1) H' fp':=fun{fp'} sub nin=>by
   refine(n1.trans (q:=true) ⟨sN,fun _ b o e=>?_⟩).weak fun z=>by simp[z]
   by_cases hb:b∈fp1
   ·rw[VS hb] at e
    rw[VS (sub b hb)]
    exact kp' b o e (by simp)
   ·rw[JG hb] at e
    rw[JG (nin b (by rw[e];simp))]
    exact sN b o e
  have QbX:∀a∈fp1,H1 a≠none:=fun a ha z=>by
   obtain⟨o,e,_⟩:=I1.mem a ha
   rw[z] at e;cases e
  rcases hrk with rfl|rfl
  ·obtain⟨rv,rfl⟩:=rf
   dsimp only at hr
   by_cases hi:d.imm=true
   ·rw[if_pos hi] at hr
    exact hr _ H' fp1 v J (Qp4 (fun a ha=>ha) fun a hF hm=>hF (I1.ap a hm)) (R.lo (hmt sF) rv hi)
   ·rw[if_neg hi] at hr;exact hr.elim
  ·dsimp only at hr
   have QjI:(fr++fp1).Nodup:=z09.mpr ⟨(z09.mp nd').1,I1.nd,fun a ha b hb z=>by
    subst z;exact QbX a hb (frn a ha)⟩
   refine hr _ H' _ v (J.push (O.lo (hmt sF) rf) (fun a ha=>I1.dm a (frn a ha)) (fun a ha=>lo_le.free (ap' a (z06 _ ha))) QjI) (Qp4 (fun a ha=>z02 _ ha) fun a hF hm=>?_) z58
   rcases z05.mp hm with z|z
   ·exact hF (I1.fh.free (frn a z))
   ·exact hF (I1.ap a z)
theorem QO {io:List Bool}{f:List D->Fr}(D:Qi X.prog X.w X.K X.mg X.base n x ps (spF C.K io rk f))(hx:Qbz X E)(hr:Qao n X.A)(ha:PA X (e::es) (tA ks C pa E mr))(hio:io.all (!·)=true:=by rfl)(hl:io.length=ks.length:=by rfl)(hrk:rk=.V\/rk=.O:=by first|exact .inl rfl|exact .inr rfl)(ok:rdL ks=true:=by rfl)(hg:Gl X x:=by rfl)
  (hdb:(x == ("__debug__" : Str))=false:=by decide) (he:starEach (e::es) X.env=(false,eval e X.env)::starEach es X.env:=by rfl) (hpl:(backTo pos (starEach es X.env)).any (·.1)=false:=by rfl) :
  PE X (.Call (.Name x px) (e::es) [] pos) (tX rk C pa E (Ql rk f mr)):=Qv (QjG D hx hr ha hg hdb he hpl) fun _ _ _ h=>QfF hio hl hrk ok h
end
def slot0 (b:Bool)(d:D):Option Sl:=some (if b then .par d else .frz d)
def QlJ (io:List Bool)(n:Nat)(ds:List D):Rho:=zb9 slot0 io ds++za1 (n - io.length) none
def outs:List Bool->Rho->Option (List D)
 |true::io,some (.par d)::ρ=>(outs io ρ).map (d::·)
 |false::io,some (.par _)::ρ=>none
 |false::io,_::ρ=>outs io ρ
 | [],some (.par _)::ρ=>none
 | [],_::ρ=>outs [] ρ
 | [],[]=>some []
 |_,_=>none
def YD (io:List Bool)(n:Nat)(mb:MS)(ds:List D):Fr:=match mb (QlJ io n ds) with
 |.ok (.rt d,ρ)=>match outs io ρ with
  |some os=>.ok d os
  |none=>.no
 |.ok (.nx,ρ)=>match outs io ρ with
  |some os=>.ok .non os
  |none=>.no
 |.ex c _=>.ex c
 |_=>.no
def Jp:Nat->List Bool->List L2.V->List (Nat×L2.V)
 |j,true::io,v::vs=>(j,v)::Jp (j+1) io vs
 |j,false::io,_::vs=>Jp (j+1) io vs
 |_,_,_=>[]
section
variable {K:z01}{F H:Hp}
theorem QhD {N:List Str}{io:List Bool}{vs:List L2.V}{ds:List D}{fp:List Addr}{r:Nat}(al:AL K F H io vs ds fp):SL K F H (vs.map some++za1 r none) (zb9 slot0 io ds++za1 r none) [] fp:=by
 induction al with
 |nil=>
  induction r with
  |zero=>exact .nil
  |succ r ih=>exact .cons (f0:=[]) (g0:=[]) .non ih
 |val h al ih=>exact .cons (f0:=[]) (g0:=[]) (.frz h) ih
 |io h al ih=>exact .cons (f0:=[]) (.par h) ih
theorem QlK {io:List Bool}{vs:List L2.V}{ds:List D}{fp:List Addr}{j0 j:Nat}{v:L2.V}{r:Nat}(al:AL K F H io vs ds fp):(j,v)∈Jp j0 io vs->∃i,j=j0+i/\(vs.map some++za1 r (none:Option L2.V))[i]? = some (some v)/\∃d,(zb9 slot0 io ds++za1 r none)[i]? = some (some (.par d)):=by
 induction al generalizing j0 with
 |nil=>intro hm;unfold Jp at hm;exact nomatch hm
 |val h al ih=>
  intro hm
  unfold Jp at hm
  obtain⟨i,e,h1,d,h2⟩:=ih hm
  exact⟨i+1,by lia,h1,d,h2⟩
 | @io _ _ _ d0 _ _ _ h al ih=>
  intro hm
  unfold Jp at hm
  rcases z13.mp hm with e|hm
  ·cases e
   exact⟨0,rfl,rfl,_,rfl⟩
  ·obtain⟨i,e,h1,d,h2⟩:=ih hm
   exact⟨i+1,by lia,h1,d,h2⟩
theorem QjJ {io:List Bool}:∀{vs:List L2.V} {j0 j:Nat} {u:L2.V},(j,u)∈Jp j0 io vs->j0<=j:=by
 induction io with
 |nil=>intro vs j0 j u z;unfold Jp at z;exact nomatch z
 |cons b io ih=>
  intro vs j0 j u z
  cases vs with
  |nil=>cases b<;>(unfold Jp at z;exact nomatch z)
  |cons w vs=>
   cases b with
   |false=>unfold Jp at z;exact Nat.le_of_succ_le (ih z)
   |true=>
    unfold Jp at z
    rcases z13.mp z with e|z
    ·cases e;exact z27 _
    ·exact Nat.le_of_succ_le (ih z)
theorem QjK {b:Bool}{io:List Bool}{v:L2.V}{vs:List L2.V}{j0:Nat}{σ:L2.St}{x:Option L2.V}(hp:∀j u,(j,u)∈Jp j0 (b::io) (v::vs)->∃i,j=j0+i/\(x::σ)[i]? = some (some u))(j:Nat)(u:L2.V)(z:(j,u)∈Jp (j0+1) io vs):∃i,j=j0+1+i/\σ[i]? = some (some u):=by
 obtain⟨i,e,q⟩:=hp j u (by cases b<;>(unfold Jp;first|exact z|exact z08 _ z))
 have lb:=QjJ z
 cases i with
 |zero=>lia
 |succ i=>exact⟨i,by lia,q⟩
theorem QjL {σ:L2.St}{ρ:Rho}{f g:List Addr}(sl:SL K F H σ ρ f g):∀{io:List Bool} {vs:List L2.V} {os:List D} {j0:Nat},outs io ρ=some os->vs.length=io.length->(∀j v,(j,v)∈Jp j0 io vs->∃i,j=j0+i/\σ[i]? = some (some v))->OL K F H (ioV io vs) os g:=by
 induction sl with
 |nil=>
  intro io vs os j0 h l hp
  cases io with
  |nil=>
   cases vs with
   |nil=>unfold outs at h;cases h;unfold ioV;exact .nil
   |cons=>cases l
  |cons b io=>cases b<;>(unfold outs at h;cases h)
 |cons s r ih=>
  intro io vs os j0 h l hp
  cases io with
  |nil=>
   cases vs with
   |cons=>cases l
   |nil=>
    have hn:∀{σ:L2.St} (j:Nat) (v:L2.V),(j,v)∈Jp j0 [] []->∃i,j=j0+i/\σ[i]? = some (some v):=fun j v z=>by unfold Jp at z;exact nomatch z
    cases s with
    |par _=>unfold outs at h;cases h
    |non=>unfold outs at h;exact ih (vs:=[]) h rfl hn
    |frz _=>unfold outs at h;exact ih (vs:=[]) h rfl hn
    |own _=>unfold outs at h;exact ih (vs:=[]) h rfl hn
  |cons b io=>
   cases vs with
   |nil=>cases l
   |cons v vs=>
    have l':vs.length=io.length:=zl1 l
    have tl:=QjK hp
    cases b with
    |false=>
     unfold ioV
     cases s with
     |par _=>unfold outs at h;cases h
     |non=>unfold outs at h;exact ih h l' tl
     |frz _=>unfold outs at h;exact ih h l' tl
     |own _=>unfold outs at h;exact ih h l' tl
    |true=>
     obtain⟨i0,e0,q0⟩:=hp j0 v (by unfold Jp;exact z07)
     have:i0=0:=by lia
     subst this
     unfold ioV
     cases s with
     |non=>unfold outs at h;cases h
     |frz _=>unfold outs at h;cases h
     |own _=>unfold outs at h;cases h
     |par o=>
      unfold outs at h
      obtain⟨r',hr',rfl⟩:=z03.mp h
      have ev:v=_:=(z22 (z22 q0)).symm
      subst ev
      exact .cons o (ih hr' l' tl)
end
theorem fnT {P:Program}{w:World}{K:z01}{mg:Str->Option Value}{base:Heap}{x qual:Str}{st:Stmt}{f:Addr}{fd:FuncData}{N ps:List Str}{k:Nat}{io:List Bool}{rk:Kd}{mb:MS}(Fn:Fun K x qual st f fd)(S:Qs N ps (Qf st))(hio:io.length=ps.length)(hrk:rk=.V\/rk=.O)
  (hbody:∀(cdv:Value) (A:Around) (outer:List Env) (s:Shared) (H:Hp) (E:XK) (C:Cn),C.K=K->Qao k (A.deeper (zo3 qual (Qf st) s.heap.objs.size f cdv))->A.handled=none->
   PSs (Qib (CXe P w) P w K mg base N qual (Qf st) f cdv A outer s H E) (VR st) (tS rk C (fun _=>E) mb)):JF P w K mg base (CXe P w) (k+1) f fd ps (spF K io rk (YD io N.length mb)):=by
 refine Fn.okE S (fun vs H Q E h=>?_) (fun cdv A outer s H vs Q E hr hd h=>?_)
 ·obtain⟨F,ds,fp,al,_⟩:=h
  rw[al.len,hio]
 ·obtain⟨F,ds,fp,al,nd,ap,fh,h⟩:=h
  have hl:=al.len
  let C:Cn:=⟨K,H,F,fp,Jp 0 io vs⟩
  refine⟨_,hbody cdv A outer s H E C rfl hr hd,?_⟩
  have est:L2.start N vs=vs.map some++za1 (N.length - io.length) none:=by unfold L2.start;rw[hl]
  have I:SI C F H (L2.start N vs) (QlJ io N.length ds) [] fp:=by
   rw[est]
   refine⟨⟨[],fp,[],QhD (N:=N) al,.nil,by simp,(fun _ z=>nomatch z),(fun _ z=>nomatch z),fun a ha=>.inl ha⟩,nd,ap,fh,Qz.refl F,fun b o e=>.inl e,fun b o e _=>e,fun b e=>e,fun j v hj=>?_⟩
   obtain⟨i,e,h1,d,h2⟩:=QlK (r:=N.length - io.length) al hj
   have e':j=i:=by lia
   subst e'
   exact⟨h1,d,h2⟩
  refine⟨F,_,fp,I,?_⟩
  unfold YD at h
  -- what is handed back
  have fin:∀{os:List D} {ρ:Rho} {d:D} {F' H':Hp} {σ':L2.St} {fp':List Addr} {v:L2.V},outs io ρ=some os->SI C F' H' σ' ρ (rk.tk v d []) fp'->rk.fc C F' H' fp' σ' v d->(∀F' H' v fr fo,Qz F F'->Qz F' H'->(∀b o,F' b=some o->F b=some o\/Nw H b o)->(∀b o,H b=some o->b∉fp->H' b=some o)->(∀b,H' b=none->H b=none)->RkF rk K F' H' v d fr->OL K F' H' (ioV io vs) os fo->
    (fr++fo).Nodup->(∀a∈fr++fo,F' a=none)->(∀a∈fr,H a=none)->(∀a∈fo,a∈fp\/H a=none)->Q v H')->Q v H':=fun{os ρ d F' H' σ' fp' v} eo J fc q=>by
   obtain⟨f1,g1,t1,sl,ol,pm,w1,w2,w3⟩:=J.sl
   have og:=QjL (j0:=0) (vs:=vs) sl eo hl (fun j u hj=>⟨j,by lia,(J.pr j u hj).1⟩)
   have ndp:=pm.nodup_iff.mp J.nd
   have inn:∀a,a∈f1\/a∈g1\/a∈t1->a∈fp':=fun a z=>pm.mem_iff.mpr (by simpa using z)
   rcases hrk with rfl|rfl
   ·exact q F' H' v [] g1 J.f0 J.fh J.fn J.kp J.dm ⟨fc,rfl⟩ og (z09.mp (z09.mp ndp).2.1).1 (fun a ha=>J.ap a (inn a (.inr (.inl ha)))) (fun _ z=>nomatch z) w3
   ·cases ol with
    | @cons _ _ _ _ ta tb oa ob=>
     cases ob
     have e1:ta++[]=ta:=z53 ta
     refine q F' H' v ta g1 J.f0 J.fh J.fn J.kp J.dm oa og ?_ (fun a ha=>J.ap a (inn a (by rw[e1];exact(z05.mp ha).elim (fun z=>.inr (.inr z)) fun z=>.inr (.inl z)))) (fun a ha=>w2 a (by rw[e1];exact ha)) w3
     have n2:=(z09.mp ndp).2.1
     rw[e1] at n2
     exact(zc7).nodup_iff.mp n2
  cases eb:mb (QlJ io N.length ds) with
  |no=>rw[eb] at h;exact h.elim
  |ex c ρ=>
   rw[eb] at h
   exact fun F' H' σ' fp' J=>h H' J.kp J.dm
  |ok q=>
   obtain⟨fl,ρ⟩:=q
   rw[eb] at h
   cases fl with
   |bk=>exact h.elim
   |ct=>exact h.elim
   |nx=>
    dsimp only at h
    cases eo:outs io ρ with
    |none=>rw[eo] at h;exact h.elim
    |some os=>
     rw[eo] at h
     refine fun F' H' σ' fp' s' J=>?_
     rcases hrk with rfl|rfl
     ·exact fin (d:=.non) (v:=.non) eo J (.sc rfl) h
     ·exact fin (d:=.non) (v:=.non) eo (J.push (f:=[]) (.sc rfl) (fun _ z=>nomatch z) (fun _ z=>nomatch z) (by simpa using J.nd)) z58 h
   |rt d=>
    dsimp only at h
    cases eo:outs io ρ with
    |none=>rw[eo] at h;exact h.elim
    |some os=>
     rw[eo] at h
     exact fun F' H' σ' fp' v s' J fc=>fin eo J fc h
inductive Cp where
 |me|fz (i:Nat)|io (i:Nat)
def Cp.ix:Cp->Option Nat
 |.me=>none
 |.fz i=>some i
 |.io i=>some i
def Cp.is:Cp->Option Nat
 |.io i=>some i
 |_=>none
def QbP (ρ:Rho):List Cp->List D->Option Rho
 | [],_=>some []
 |.me::cs,di=>(QbP ρ cs di).map (none::·)
 |.fz i::cs,di=>match ρ[i]? with
  |some (some (.frz d))=>(QbP ρ cs di).map (some (.frz d)::·)
  |some none=>(QbP ρ cs di).map (none::·)
  |_=>none
 |.io _::cs,d::di=>(QbP ρ cs di).map (some (.par d)::·)
 |.io _::_,[]=>none
def ioB:List Cp->List Bool:=zg3 fun c=>match c with
 |.io _=>true
 |_=>false
def QbY (j:Nat)(tc:MT)(te:ME):List D->Rho->List D->Rs (List D×Rho)
 | [],ρ,acc=>.ok (acc,ρ)
 |d::ds,ρ,acc=>(Rs.of (Y1 ρ j d)).bind fun ρ0=>(tc ρ0).bind fun c=>if c.1=true then(te c.2).bind fun r=>if acc.length<z15 then QbY j tc te ds (r.2.set j none) (acc++[r.1]) else .no
  else QbY j tc te ds (c.2.set j none) acc
def Yn (par:Bool)(cs:List Cp)(j:Nat)(mi:MA)(tc:MT)(te:ME):ME:=fun ρ=>(mi ρ).bind fun r=>(Rs.of (Qax par r.2 (cs.filterMap Cp.is))).bind fun di=>(Rs.of (QbP r.2 cs di)).bind fun ρb=>
 match QbY j tc te r.1 ρb [] with
 |.ok q=>(Rs.of (outs (ioB cs) q.2)).bind fun os=>.ok (.lst q.1,VW par r.2 (cs.filterMap Cp.is) os)
 |_=>.no
abbrev EF:XE:=fun _ _ _ _=>False
theorem QbA {X:Cx}:Qbz X EF:=fun pins σ H s e s' I h=>by
 obtain⟨_,_,_,_,_,_,_,_,_,k⟩:=h
 exact k.elim
theorem Run.ef {C:Cn}{σ:L2.St}{α:Type}{r:Rs α}{a:α}{k:α->Prop}(e:r=.ok a)(h:k a):Run C EF σ r k:=by rw[e];exact h
section
variable {K:z01}{F H:Hp}
theorem Qp5 {vs:List L2.V}{ds:List D}{f:List Addr}(r:OL K F H vs ds f):∃f',OL K F H vs.reverse ds.reverse f'/\f.Perm f':=
 ((O.ind (P:=fun v d f=>O K F H v d f) (Q:=fun vs ds f=>OL K F H vs ds f/\∃f',OL K F H vs.reverse ds.reverse f'/\f.Perm f') .sc (fun m h q=>.im m h q.1) (fun h q=>.mt h q.1) ⟨.nil,[],.nil,.refl _⟩ (fun{_ _ _ _ f g} h q=>⟨.cons h q.1,by
  obtain⟨f',o,p⟩:=q.2
  refine⟨f'++(f++[]),by rw[zv3,zv3];exact o.app (.cons h .nil),?_⟩
  rw[z53]
  exact(zc7).trans (p.append_right f)⟩)).2 _ _ _ r).2
theorem QjM {α β:Type}:∀{l:List α} {m:List β},l.length=m.length->(l.zip m).map (·.1)=l
 | [],[],_=>rfl
 | [],_::_,h=>by cases h
 |_::_,[],h=>by cases h
 |a::l,b::m,h=>by rw[z89,z31,QjM (by simpa using h)]
theorem QjN {α β:Type}:∀{l:List α} {m:List β},l.length=m.length->(l.zip m).map (·.2)=m
 | [],[],_=>rfl
 | [],_::_,h=>by cases h
 |_::_,[],h=>by cases h
 |a::l,b::m,h=>by rw[z89,z31,QjN (by simpa using h)]
theorem QfG {C:Cn}{σ:L2.St}{ρ:Rho}{τ:List (L2.V×D)}{fp:List Addr}(I:SI C F H σ ρ τ fp)(hK:C.K=K):∀{cs:List Cp} {vi:List L2.V} {di:List D} {f:List Addr} {ρb:Rho},Sig σ (cs.filterMap Cp.is) vi->OL K F H vi di f->QbP ρ cs di=some ρb->SL K F H (JA (cs.map Cp.ix) σ) ρb [] f
 | [],_,_,_,_,.nil,.nil,h=>by unfold QbP at h;cases h;exact .nil
 |.me::cs,vi,di,f,ρb,sg,ol,h=>by
  unfold QbP at h
  obtain⟨r,hr,rfl⟩:=z03.mp h
  exact .cons (f0:=[]) (g0:=[]) .non (QfG I hK sg ol hr)
 |.fz i::cs,vi,di,f,ρb,sg,ol,h=>by
  unfold QbP at h
  split at h
  ·next d e=>
   obtain⟨r,hr,rfl⟩:=z03.mp h
   obtain⟨x,f0,g0,rest,ex,s1,_⟩:=I.cut e
   cases s1 with
   | @frz v _ hd=>
    have e2:JA ((Cp.fz i::cs).map Cp.ix) σ=some v::JA (cs.map Cp.ix) σ:=by
     unfold JA
     rw[z31,z31]
     show((some i).bind fun i=>(σ[i]?).join)::_=_
     rw[zf9,ex]
     rfl
    rw[e2]
    exact .cons (f0:=[]) (g0:=[]) (.frz (hK▸hd)) (QfG I hK sg ol hr)
  ·obtain⟨r,hr,rfl⟩:=z03.mp h
   exact .cons (f0:=[]) (g0:=[]) .non (QfG I hK sg ol hr)
  ·cases h
 |.io i::cs,_,_,_,ρb,.cons (v:=v) e sg,.cons o ol,h=>by
  unfold QbP at h
  obtain⟨r,hr,rfl⟩:=z03.mp h
  have e2:JA ((Cp.io i::cs).map Cp.ix) σ=some v::JA (cs.map Cp.ix) σ:=by
   unfold JA
   rw[z31,z31]
   show((some i).bind fun i=>(σ[i]?).join)::_=_
   rw[zf9,e]
   rfl
  rw[e2]
  exact .cons (f0:=[]) (.par o) (QfG I hK sg ol hr)
def vsB:List Cp->List L2.V->List L2.V
 |.io _::cs,v::vi=>v::vsB cs vi
 |.io _::cs,[]=>.non::vsB cs []
 |_::cs,vi=>.non::vsB cs vi
 | [],_=>[]
theorem QcW:∀{cs:List Cp} {vi:List L2.V},(vsB cs vi).length=(ioB cs).length
 | [],_=>by unfold vsB;rfl
 |.me::cs,vi=>by unfold vsB;rw[z24,QcW];rfl
 |.fz i::cs,vi=>by unfold vsB;rw[z24,QcW];rfl
 |.io i::cs,[]=>by unfold vsB;rw[z24,QcW];rfl
 |.io i::cs,v::vi=>by unfold vsB;rw[z24,QcW];rfl
theorem Qeu {σ:L2.St}:∀{cs:List Cp} {vi:List L2.V},Sig σ (cs.filterMap Cp.is) vi->ioV (ioB cs) (vsB cs vi)=vi
 | [],_,.nil=>rfl
 |.me::cs,vi,sg=>Qeu (cs:=cs) sg
 |.fz i::cs,vi,sg=>Qeu (cs:=cs) sg
 |.io i::cs,_,.cons e sg=>congrArg _ (Qeu (cs:=cs) sg)
theorem QjO {σ:L2.St}:∀{cs:List Cp} {vi:List L2.V} {j0 j:Nat} {v:L2.V},Sig σ (cs.filterMap Cp.is) vi->(j,v)∈Jp j0 (ioB cs) (vsB cs vi)->∃i,j=j0+i/\(JA (cs.map Cp.ix) σ)[i]? = some (some v)
 | [],_,j0,j,v,.nil,h=>by
  have:(j,v)∈([]:List (Nat×L2.V)):=h
  exact nomatch this
 |.me::cs,vi,j0,j,v,sg,h=>by
  obtain⟨i,e,q⟩:=QjO (cs:=cs) (j0:=j0+1) sg h
  exact⟨i+1,by lia,by unfold JA at q ⊢;simpa using q⟩
 |.fz _::cs,vi,j0,j,v,sg,h=>by
  obtain⟨i,e,q⟩:=QjO (cs:=cs) (j0:=j0+1) sg h
  exact⟨i+1,by lia,by unfold JA at q ⊢;simpa using q⟩
 |.io i0::cs,_,j0,j,v,.cons (v:=v0) e0 sg,h=>by
  rcases z13.mp (show(j,v)∈(j0,v0)::Jp (j0+1) (ioB cs) (vsB cs _) from h) with e|h
  ·cases e
   refine⟨0,rfl,?_⟩
   unfold JA
   rw[z31,z31]
   show some ((some i0).bind fun i=>(σ[i]?).join)=_
   rw[zf9,e0]
   rfl
  ·obtain⟨i,e,q⟩:=QjO (cs:=cs) (j0:=j0+1) sg h
   exact⟨i+1,by lia,by unfold JA at q ⊢;simpa using q⟩
theorem QdY {σ:L2.St}{ρ:Rho}:∀{cs:List Cp} {vi:List L2.V} {di:List D} {ρb:Rho} {j0 j:Nat} {v:L2.V},QbP ρ cs di=some ρb->(j,v)∈Jp j0 (ioB cs) (vsB cs vi)->∃i,j=j0+i/\∃d,ρb[i]? = some (some (.par d))
 | [],_,_,_,j0,j,v,_,h=>by
  have:(j,v)∈([]:List (Nat×L2.V)):=h
  exact nomatch this
 |.me::cs,vi,di,ρb,j0,j,v,hc,h=>by
  unfold QbP at hc
  obtain⟨r,hr,rfl⟩:=z03.mp hc
  obtain⟨i,e,d,q⟩:=QdY (σ:=σ) (cs:=cs) (vi:=vi) (j0:=j0+1) hr h
  exact⟨i+1,by lia,d,by simpa using q⟩
 |.fz i0::cs,vi,di,ρb,j0,j,v,hc,h=>by
  unfold QbP at hc
  split at hc
  ·obtain⟨r,hr,rfl⟩:=z03.mp hc
   obtain⟨i,e,d,q⟩:=QdY (σ:=σ) (cs:=cs) (vi:=vi) (j0:=j0+1) hr h
   exact⟨i+1,by lia,d,by simpa using q⟩
  ·obtain⟨r,hr,rfl⟩:=z03.mp hc
   obtain⟨i,e,d,q⟩:=QdY (σ:=σ) (cs:=cs) (vi:=vi) (j0:=j0+1) hr h
   exact⟨i+1,by lia,d,by simpa using q⟩
  ·cases hc
 |.io i0::cs,vi,[],ρb,j0,j,v,hc,h=>by unfold QbP at hc;cases hc
 |.io i0::cs,vi,d0::di,ρb,j0,j,v,hc,h=>by
  unfold QbP at hc
  obtain⟨r,hr,rfl⟩:=z03.mp hc
  cases vi with
  |nil=>
   rcases z13.mp (show(j,v)∈(j0,V.non)::Jp (j0+1) (ioB cs) (vsB cs []) from h) with e|h
   ·cases e;exact⟨0,rfl,d0,rfl⟩
   ·obtain⟨i,e,d,q⟩:=QdY (σ:=σ) (cs:=cs) (vi:=[]) (j0:=j0+1) hr h
    exact⟨i+1,by lia,d,by simpa using q⟩
  |cons v0 vi=>
   rcases z13.mp (show(j,v)∈(j0,v0)::Jp (j0+1) (ioB cs) (vsB cs vi) from h) with e|h
   ·cases e;exact⟨0,rfl,d0,rfl⟩
   ·obtain⟨i,e,d,q⟩:=QdY (σ:=σ) (cs:=cs) (vi:=vi) (j0:=j0+1) hr h
    exact⟨i+1,by lia,d,by simpa using q⟩
end
section
variable {X:Cx}{C:Cn}{E:XE}{p pa pc pe:Bool}{m me:ME}{mt:MT}{mi:MA}{pos:Pos}{k rk:Kd}{elt iter:Expr}{x:Str}{px:Pos}{ifs:List Expr}{scope:Scope}{N:List Str}{cs:List Cp}{j:Nat}{par:Bool}
theorem SI.clr {F H:Hp}{σ:L2.St}{ρ:Rho}{τ:List (L2.V×D)}{fp:List Addr}{y:Option L2.V}{x:L2.V}(I:SI C F H (σ.set j y) ρ τ fp)(hj:σ[j]? = some none)(np:∀v,(j,v)∉C.QgL):∃fp',SI C F H σ (ρ.set j none) τ fp':=by
 have lj:j<σ.length:=(z26.mp hj).1
 have lr:j<ρ.length:=by rw[← I.len,zb7];exact lj
 obtain⟨z,f0,g0,rest,ez,s1,pm,w0,w1,cl⟩:=I.cut (i:=j) (s:=ρ[j]) (z04 lr)
 have nd:=pm.nodup_iff.mp I.nd
 have q:=cl (x':=none) (s':=none) (f0':=[]) (g0':=[]) (Qz.refl F) I.fh (fun _ _=>rfl) (fun _ z=>z) (fun _ _ _ _ z=>z) (fun _ _ z=>.inl z) .non (z09.mp (z09.mp nd).2.1).2.1 (fun a ha=>I.ap a (pm.mem_iff.mpr (by simp at ha;simp[ha]))) (fun _ z=>nomatch z) (fun _ z=>nomatch z) (fun v hv=>(np v hv).elim)
 rw[List.set_set,JS hj] at q
 exact⟨_,q⟩
def exT (K:z01)(p:Bool)(m:MT):TT:=fun σ H Q=>∃Cb:Cn,Cb.K=K/\tT Cb p EF m σ H Q
def exX (k:Kd)(K:z01)(p:Bool)(m:ME):TE:=fun σ H Q=>∃Cb:Cn,Cb.K=K/\tX k Cb p EF m σ H Q
def QgS:MT:=fun ρ=>.ok (true,ρ)
theorem Qam {X:Cx}{K:z01}:PIf X [] (exT K true QgS):=fun pins s σ H Q I ⟨Cb,_,F,ρ,τ,fp,J,h⟩=>Qno pins s σ H Q I (h F H fp J .refl)
theorem QdZ {X:Cx}{K:z01}{c:Expr}(h:∀Cb:Cn,Cb.K=K->PT X c (tT Cb p EF mt)):PIf X [c] (exT K p mt):=fun pins s σ H Q I ⟨Cb,hk,q⟩=>Qnp (h Cb hk) pins s σ H Q I q
theorem Qaq {X:Cx}{K:z01}{e:Expr}(h:∀Cb:Cn,Cb.K=K->PE X e (tX k Cb p EF m)):PE X e (exX k K p m):=fun pins s σ H Q I ⟨Cb,hk,q⟩=>h Cb hk pins s σ H Q I q
structure ItC (C:Cn)(F:Hp)(ds:List D)(J:It):Prop where
 go:∀{F' H:Hp} {σ:L2.St} {ρ:Rho} {τ:List (L2.V×D)} {fp:List Addr} {i:Nat} {d:D},SI C F' H σ ρ τ fp->Qz F F'->ds[i]? = some d->J.go i H/\∀x H',J.yld i H x H'->∃F'',SI C F'' H' σ ρ τ fp/\Nx true F' H fp F'' H' fp/\R C.K F'' x d
 stop:∀{F' H:Hp} {σ:L2.St} {ρ:Rho} {τ:List (L2.V×D)} {fp:List Addr},SI C F' H σ ρ τ fp->Qz F F'->J.stop ds.length H
def Qan (tg:D->Rho->Option Rho)(cl:Rho->Rho)(tc:MT)(te:ME):List D->Rho->List D->Rs (List D×Rho)
 | [],ρ,acc=>.ok (acc,ρ)
 |d::ds,ρ,acc=>(Rs.of (tg d ρ)).bind fun ρ0=>(tc ρ0).bind fun c=>if c.1=true then(te c.2).bind fun r=>if acc.length<z15 then Qan tg cl tc te ds (cl r.2) (acc++[r.1]) else .no
  else Qan tg cl tc te ds (cl c.2) acc
def QsP (K:z01)(cs:List Cp)(blk:L2.St)(tg:D->Rho->Option Rho)(cl:Rho->Rho)(g:TG):Prop:=
 ∀{Cb:Cn} {F H:Hp} {ρ ρ':Rho} {τ:List (L2.V×D)} {fp:List Addr} {x:L2.V} {d:D},Cb.K=K->(∀k:Nat,cs[k]? = some Cp.me->∀v,(k,v)∉Cb.QgL)->SI Cb F H blk ρ τ fp->R Cb.K F x d->tg d ρ=some ρ'->
  ∃σ' fp',SI Cb F H σ' ρ' τ fp'/\Ext blk σ'/\(∀Q:L2.St->Hp->Prop,Q σ' H->g x blk H Q)/\∀{F'' H'':Hp} {ρ'':Rho} {τ'':List (L2.V×D)} {QuH:List Addr},SI Cb F'' H'' σ' ρ'' τ'' QuH->∃fp7,SI Cb F'' H'' blk (cl ρ'') τ'' fp7
def Qiu (par:Bool)(cs:List Cp)(tg:D->Rho->Option Rho)(cl:Rho->Rho)(mt:MT)(me:ME)(r:List D×Rho):Rs (D×Rho):=(Rs.of (Qax par r.2 (cs.filterMap Cp.is))).bind fun di=>(Rs.of (QbP r.2 cs di)).bind fun ρb=>
 match Qan tg cl mt me r.1 ρb [] with
 |.ok q=>(Rs.of (outs (ioB cs) q.2)).bind fun os=>.ok (.lst q.1,VW par r.2 (cs.filterMap Cp.is) os)
 |_=>.no
theorem QhE {tg:D->Rho->Option Rho}{cz:Rho->Rho}{g:TG}(hK:C.K=X.K)(nd:(cs.filterMap Cp.is).Nodup)(hp:p=true->cs.filterMap Cp.is=[]){σ:L2.St}{F H F1 H1:Hp}{ρ1:Rho}{τ:List (L2.V×D)}{fp fp1:List Addr}{ds0:List D}{J:It}{Q:VK}
  (tgk:QsP X.K cs (JA (cs.map Cp.ix) σ) tg cz g) (I1:SI C F1 H1 σ ρ1 τ fp1) (n1:Nx pa F H fp F1 H1 fp1) (its:∀Cb:Cn,Cb.K=C.K->Cb.H₀=H1->Cb.F₀=F1->(cs.filterMap Cp.is=[]->Cb.A=[])->ItC Cb F1 ds0 J)
  (hr:Run C E σ (Qiu par cs tg cz mt me (ds0,ρ1)) fun r=>∀F' H' fp' v,SI C F' H' σ r.2 (Kd.O.tk v r.1 τ) fp'->Nx (pa && p) F H fp F' H' fp'->Kd.O.fc C F' H' fp' σ v r.1->Q v H') :
  ∃W:Nat->Nat->List V->Hp->Prop,(∃m,W 0 m [] H1)/\∀i m ys H,W i m ys H->
   (J.stop i H/\∀D,H D=none->Q (.ref D) (upd H D (.lst ys)))\/
   (J.go i H/\∃N:List V->Hp->Prop,(∀ys' H',N ys' H'->∃m',m' < m/\W (i+1) m' ys' H')/\∀x H',J.yld i H x H'->
    g x (JA (cs.map Cp.ix) σ) H' fun τ' H1'=>Ext (JA (cs.map Cp.ix) σ) τ'/\exT X.K pc mt τ' H1' fun c H2=>if c=true then exX .O X.K pe me τ' H2 fun y H3=>ys.length<z15/\N (ys++[y]) H3 else N ys H2):=by
 unfold Qiu at hr
 dsimp only at hr
 obtain⟨di,eg,h2⟩:=hr.split.of
 obtain⟨ρb,eb,h3⟩:=h2.split.of
 obtain⟨vi,f,rest,sg,ol,pm,w,cl⟩:=I1.lend nd eg
 have ndp:=pm.nodup_iff.mp I1.nd
 have inl:∀a∈f,a∈fp1:=fun a ha=>pm.mem_iff.mpr (z06 _ ha)
 have inr:∀a∈rest,a∈fp1:=fun a ha=>pm.mem_iff.mpr (z02 _ ha)
 have dis:∀a∈rest,a∉f:=fun a ha hf=>(z09.mp ndp).2.2 a hf a ha rfl
 cases ec:Qan tg cz mt me ds0 ρb [] with
 |no=>rw[ec] at h3;exact h3.elim
 |ex c q=>rw[ec] at h3;exact h3.elim
 |ok q=>
  obtain⟨QnJ,ρF⟩:=q
  rw[ec] at h3
  obtain⟨os,eo,h4⟩:=h3.split.of
  let Cb:Cn:=⟨X.K,H1,F1,f,Jp 0 (ioB cs) (vsB cs vi)⟩
  have it:ItC Cb F1 ds0 J:=its Cb hK.symm rfl rfl fun q=>by
   rw[q] at sg
   cases sg
   cases ol
   rfl
  have IB:SI Cb F1 H1 (JA (cs.map Cp.ix) σ) ρb [] f:=by
   refine⟨⟨[],f,[],QfG I1 hK sg (hK▸ol) eb,.nil,by simp,(fun _ z=>nomatch z),(fun _ z=>nomatch z),fun a ha=>.inl ha⟩,(z09.mp ndp).1,fun a ha=>I1.ap a (inl a ha),I1.fh,Qz.refl _,fun b o e=>.inl e,fun b o e _=>e,fun b e=>e,fun i v hi=>?_⟩
   obtain⟨i1,e1,q1⟩:=QjO sg hi
   obtain⟨i2,e2,d2,q2⟩:=QdY (σ:=σ) eb hi
   have:i1=i:=by lia
   subst this
   have:i2=i1:=by lia
   subst this
   exact⟨q1,d2,q2⟩
  have hbk:∀k:Nat,cs[k]? = some Cp.me->(JA (cs.map Cp.ix) σ)[k]? = some none:=fun k hk=>by
   unfold JA
   rw[z18,z18,hk]
   rfl
  have npk:∀k:Nat,cs[k]? = some Cp.me->∀v,(k,v)∉Cb.QgL:=fun k hk v hv=>by
   obtain⟨i1,e1,q1⟩:=QjO sg hv
   have:i1=k:=by lia
   subst this
   rw[hbk i1 hk] at q1;cases q1
  refine⟨fun i mm ys H'=>mm=ds0.length - i/\i<=ds0.length/\∃F' ρ' acc fp',SI Cb F' H' (JA (cs.map Cp.ix) σ) ρ' ((ys.zip acc).reverse) fp'/\ys.length=acc.length/\Qz F1 F'/\Qan tg cz mt me (ds0.drop i) ρ' acc=.ok (QnJ,ρF),⟨ds0.length,by simp,zb4 _,F1,ρb,[],f,IB,rfl,Qz.refl _,by rw[zk3];exact ec⟩,?_⟩
  rintro i mm ys H2 ⟨rfl,hi2,F2,ρ2,acc,fp2,I2,lya,s2,k2⟩
  by_cases hlt:i<ds0.length
  ·obtain⟨d,ed⟩:∃d,ds0[i]? = some d:=⟨ds0[i],z04 hlt⟩
   obtain⟨g1,g2⟩:=it.go I2 s2 ed
   have edr:ds0.drop i=d::ds0.drop (i+1):=by
    rw[z97 hlt]
    have:ds0[i]=d:=by rw[z04 hlt] at ed;exact z22 ed
    rw[this]
   rw[edr] at k2
   unfold Qan at k2
   cases es:tg d ρ2 with
   |none=>rw[es] at k2;cases k2
   |some ρ3=>
    rw[es] at k2
    change (mt ρ3).bind _=_ at k2
    refine .inr ⟨g1,fun ys' H'=>∃F' ρ' acc fp',SI Cb F' H' (JA (cs.map Cp.ix) σ) ρ' ((ys'.zip acc).reverse) fp'/\ys'.length=acc.length/\Qz F1 F'/\Qan tg cz mt me (ds0.drop (i+1)) ρ' acc=.ok (QnJ,ρF),fun ys' H' z=>⟨_,by lia,rfl,hlt,z⟩,fun x0 H' y=>?_⟩
    obtain⟨F3,I3,n3,r3⟩:=g2 x0 H' y
    have s3:Qz F1 F3:=s2.trans n3.f
    obtain⟨σ',fp4,I4,ex,gq,clr⟩:=tgk (Cb:=Cb) rfl npk I3 r3 es
    refine gq _ ⟨ex,?_⟩
    cases et:mt ρ3 with
    |no=>rw[et] at k2;cases k2
    |ex c q=>rw[et] at k2;cases k2
    |ok q=>
     obtain⟨c,ρ5⟩:=q
     rw[et] at k2
     change (if c=true then _ else _)=_ at k2
     refine⟨Cb,rfl,F3,ρ3,_,fp4,I4,Run.ef et fun F5 H5 fp5 I5 n5=>?_⟩
     have s5:Qz F1 F5:=s3.trans n5.f
     change (if c=true then _ else _)
     by_cases hc:c=true
     ·rw[if_pos hc] at k2 ⊢
      cases ee:me ρ5 with
      |no=>rw[ee] at k2;cases k2
      |ex c q=>rw[ee] at k2;cases k2
      |ok q=>
       obtain⟨d6,ρ6⟩:=q
       rw[ee] at k2
       change (if acc.length<z15 then _ else _)=_ at k2
       refine⟨Cb,rfl,F5,ρ5,_,fp5,I5,Run.ef ee fun F6 H6 fp6 v6 I6 n6 _=>?_⟩
       by_cases hz:acc.length<z15
       ·rw[if_pos hz] at k2
        refine⟨by rw[lya];exact hz,?_⟩
        obtain⟨fp7,I7⟩:=clr I6
        refine⟨F6,_,acc++[d6],fp7,?_,by simp[lya],s5.trans n6.f,k2⟩
        have ez:((ys++[v6]).zip (acc++[d6])).reverse=(v6,d6)::(ys.zip acc).reverse:=by
         rw[List.zip_append lya,zk5]
         rfl
        rw[ez]
        exact I7
       ·rw[if_neg hz] at k2;cases k2
     ·rw[if_neg hc] at k2 ⊢
      obtain⟨fp7,I7⟩:=clr I5
      exact⟨F5,_,acc,fp7,I7,lya,s5,k2⟩
  ·have e:i=ds0.length:=by lia
   subst e
   rw[zn5] at k2
   unfold Qan at k2
   cases k2
   refine .inl ⟨it.stop I2 s2,fun Dd hD=>?_⟩
   obtain⟨f1,g1,t1,sl,ot,pm2,w1,w2,w3⟩:=I2.sl
   have og:=QjL (j0:=0) (vs:=vsB cs vi) sl eo QcW (fun i u hi=>⟨i,by lia,(I2.pr i u hi).1⟩)
   rw[Qeu sg] at og
   have ot':OL Cb.K F2 H2 ys.reverse QnJ.reverse t1:=by
    have e1:((ys.zip QnJ).reverse).map (·.1)=ys.reverse:=by rw[List.map_reverse,QjM lya]
    have e2:((ys.zip QnJ).reverse).map (·.2)=QnJ.reverse:=by rw[List.map_reverse,QjN lya]
    rw[e1,e2] at ot
    exact ot
   obtain⟨t2,oy,pt⟩:=Qp5 ot'
   rw[zt0,zt0] at oy
   have QsQ:=pm2.nodup_iff.mp I2.nd
   have inn:∀a,a∈f1\/a∈g1\/a∈t1->a∈fp2:=fun a z=>pm2.mem_iff.mpr (by simpa using z)
   have QlL:∀a∈fp2,H2 a≠none:=fun a ha z=>by
    obtain⟨o,e,_⟩:=I2.mem a ha
    rw[z] at e;cases e
   have QbX:∀a∈fp1,H1 a≠none:=fun a ha z=>by
    obtain⟨o,e,_⟩:=I1.mem a ha
    rw[z] at e;cases e
   have nD:∀a,H2 a≠none->a≠Dd:=fun a h z=>h (z▸hD)
   have hkeep:∀b o,H1 b=some o->b∉f->H2 b=some o:=fun b o e n=>I2.kp b o e n
   have H1D:H1 Dd=none:=I2.dm Dd hD
   have fD:F2 Dd=none:=I2.fh.free hD
   have sH:Qz H2 (upd H2 Dd (.lst ys)):=Qz.upd hD
   have og':OL C.K F2 (upd H2 Dd (.lst ys)) vi os g1:=by
    rw[hK]
    exact og.keep (Qz.refl _) fun a ha=>Qp (nD a (QlL a (inn a (.inr (.inl ha)))))
   have oy':OL C.K F2 (upd H2 Dd (.lst ys)) ys QnJ t2:=by
    rw[hK]
    exact oy.keep (Qz.refl _) fun a ha=>Qp (nD a (QlL a (inn a (.inr (.inr (pt.mem_iff.mpr ha))))))
   have QtY:∀a,(a∈g1\/a∈t1)->a∉rest:=fun a z hr=>by
    rcases z with z|z
    ·rcases w3 a z with y|y
     ·exact dis a hr y
     ·exact QbX a (inr a hr) y
    ·exact QbX a (inr a hr) (w2 a z)
   have ndg:g1.Nodup:=(z09.mp (z09.mp QsQ).2.1).1
   have ndt:t2.Nodup:=pt.nodup_iff.mp (z09.mp (z09.mp QsQ).2.1).2.1
   have QsR:∀a∈g1,a∉t2:=fun a ha hb=>(z09.mp (z09.mp QsQ).2.1).2.2 a ha a (pt.mem_iff.mpr hb) rfl
   have apr:∀a∈rest,F2 a=none:=fun a ha=>by
    cases e:F2 a with
    |none=>rfl
    |some o=>
     rcases I2.fn a o e with z|z
     ·exact absurd (show F1 a=some o from z) (by rw[I1.ap a (inr a ha)];simp)
     ·obtain⟨o2,e2,m2⟩:=I1.mem a (inr a ha)
      exact(z.not (show Cb.H₀ a≠none from QbX a (inr a ha)) (I2.fh a o e) (hkeep a o2 e2 (dis a ha)) m2).elim
   have JJ:=cl (F':=F2) (H':=upd H2 Dd (.lst ys)) s2 (I2.fh.trans sH) (fun a ha=>by
    obtain⟨o,e,_⟩:=I1.mem a (inr a ha)
    rw[e]
    exact sH a o (hkeep a o e (dis a ha))) (fun b e=>I2.dm b (sH.free e)) (fun b o e n z=>sH b o (hkeep b o z fun hb=>by
     rcases w b hb with y|y
     ·rw[y] at e;cases e
     ·exact n y.2)) (fun b o e=>(I2.fn b o e).imp id fun z=>z.up fun y=>I1.dm b y) og' (z09.mpr ⟨ndg,(z09.mp ndp).2.1,fun a ha b hb z=>QtY a (.inl ha) (z▸hb)⟩) (fun a ha=>(z05.mp ha).elim (fun z=>I2.ap a (inn a (.inr (.inl z)))) (apr a)) (fun a ha=>(w3 a ha).elim (w a) fun z=>.inl (I1.dm a z))
   have QjI:((Dd::t2)++(g1++rest)).Nodup:=by
    refine z09.mpr ⟨z72.mpr ⟨fun z=>QlL Dd (inn Dd (.inr (.inr (pt.mem_iff.mpr z)))) hD,ndt⟩,JJ.nd,fun a ha b hb z=>?_⟩
    subst z
    rcases z13.mp ha with rfl|ha
    ·rcases z05.mp hb with y|y
     ·exact QlL _ (inn _ (.inr (.inl y))) hD
     ·exact QbX _ (inr _ y) H1D
    ·rcases z05.mp hb with y|y
     ·exact QsR a y ha
     ·exact QtY a (.inr (pt.mem_iff.mpr ha)) y
   refine h4 F2 _ _ (.ref Dd) (JJ.push (.mt (t:=.lst) (show upd H2 Dd (.lst ys) Dd=some (.lst ys) from Qy) oy') (fun a ha=>?_) (fun a ha=>?_) QjI) (n1.trans (q:=p) ⟨s2,fun hpp b o e=>?_⟩) z58
   ·rcases z13.mp ha with rfl|ha
    ·exact I1.dm _ H1D
    ·exact I1.dm a (w2 a (pt.mem_iff.mpr ha))
   ·rcases z13.mp ha with rfl|ha
    ·exact fD
    ·exact I2.ap a (inn a (.inr (.inr (pt.mem_iff.mpr ha))))
   ·have ef0:f=[]:=by
     rw[hp hpp] at sg
     cases sg
     cases ol
     rfl
    subst ef0
    by_cases hb:b∈fp1
    ·have hb':b∈rest:=by simpa using pm.mem_iff.mp hb
     rw[VS hb] at e
     rw[VS (z02 _ (z02 _ hb'))]
     exact sH b o (hkeep b o e (by simp))
    ·rw[JG hb] at e
     have e2:=s2 b o e
     rw[JG]
     ·exact e2
     ·intro hm
      rcases z05.mp hm with y|y
      ·rcases z13.mp y with rfl|y
       ·rw[fD] at e2;cases e2
       ·rw[I2.ap b (inn b (.inr (.inr (pt.mem_iff.mpr y))))] at e2;cases e2
      ·rcases z05.mp y with y|y
       ·rw[I2.ap b (inn b (.inr (.inl y)))] at e2;cases e2
       ·rw[I1.ap b (inr b y)] at e;cases e
theorem Qev {j:Nat}{tc:MT}{te:ME}:∀{ds:List D} {ρ:Rho} {acc:List D},QbY j tc te ds ρ acc=Qan (fun d ρ=>Y1 ρ j d) (fun ρ=>ρ.set j none) tc te ds ρ acc
 | [],ρ,acc=>rfl
 |d::ds,ρ,acc=>by
  unfold QbY Qan
  congr 1;funext ρ0;congr 1;funext c
  split
  ·congr 1;funext r;split
   ·exact Qev
   ·rfl
  ·exact Qev
theorem QnK {ρ:Rho}:Yn par cs j mi mt me ρ=(mi ρ).bind (Qiu par cs (fun d ρ=>Y1 ρ j d) (fun ρ=>ρ.set j none) mt me):=by
 unfold Yn Qiu
 simp only[Qev]
theorem QnL {σ:L2.St}(hj:cs[j]? = some .me):QsP X.K cs (JA (cs.map Cp.ix) σ) (fun d ρ=>Y1 ρ j d) (fun ρ=>ρ.set j none) (VH j):=fun{Cb F H ρ ρ' τ fp x d} hK np I r e=>by
 have hb:(JA (cs.map Cp.ix) σ)[j]? = some none:=by
  unfold JA
  rw[z18,z18,hj]
  rfl
 obtain⟨fp',I2,_⟩:=SI.Y1 I r e
 refine⟨_,fp',I2,⟨zb7 ..,fun i u e=>?_⟩,fun Q q=>q,fun I3=>SI.clr (x:=x) I3 hb (np j hj)⟩
 by_cases q:j=i
 ·subst q;rw[hb] at e;cases e
 ·rw[z65 q];exact e
theorem QcX (hK:C.K=X.K)(hj:cs[j]? = some .me)(nd:(cs.filterMap Cp.is).Nodup)(hp:p=true->cs.filterMap Cp.is=[]){σ:L2.St}{H:Hp}{Q:VK}(h:tX .O C (pa && p) E (Yn par cs j mi mt me) σ H Q):Qft (tI C pa E mi) (cs.map Cp.ix) (VH j) (exT X.K pc mt) (exX .O X.K pe me) σ H Q:=by
 obtain⟨F,ρ,τ,fp,I,h⟩:=h
 rw[QnK] at h
 exact⟨F,ρ,τ,fp,I,h.split.mono fun r hr F1 H1 fp1 J I1 n1 it=>QhE hK nd hp (QnL hj) I1 n1 (fun Cb h1 _ _ _=>⟨fun I s e=>h1▸it.go h1 I s e,fun I s=>it.stop h1 I s⟩) hr⟩
theorem Y3 (hK:C.K=X.K)(hc:X.calm=true)(B:Blk X scope N (cs.map Cp.ix))(hjN:N[j]? = some x)(hj:cs[j]? = some .me)(hx:scope.names.lookup x=some .local)(hi:PI X (.Name x px) iter (tI C pa E mi))
  (ht:∀pins c s H ex,PIf (X.blk scope N pins c s H ex) ifs (exT X.K pc mt)) (he:∀pins c s H ex,PE (X.blk scope N pins c s H ex) elt (exX .O X.K pe me)) (nd:(cs.filterMap Cp.is).Nodup:=by decide) (hp:p=true->cs.filterMap Cp.is=[]:=by decide)
  (hs:∀x,foldedSetIterable iter X.env x=pure x:=by intro _;rfl):PE X (.ListComp elt [⟨.Name x px,iter,ifs,0⟩] scope pos) (tX .O C (pa && p) E (Yn par cs j mi mt me)):=
 Qv (Qhn hc B hi (fun _ _ _ _ _=>QA (i:=j) B.nd hjN (.inl (lookup_relabel_local hx)) (.inr (lookup_relabel_local hx))) ht he hs) fun _ _ _ h=>QcX hK hj nd hp h
theorem QjP {y:Str}{py spos:Pos}{i0:Nat}(hK:C.K=X.K)(hc:X.calm=true)(hXN:X.N.Nodup)(hi0:X.N[i0]? = some y)(hy:Loc X.env.scope y)(B:Blk X scope N (cs.map Cp.ix))(hjN:N[j]? = some x)(hj:cs[j]? = some .me)(hx:scope.names.lookup x=some .local)(hi:PI X (.Name x px) iter (tI C pa E mi))
  (ht:∀pins c s H ex,PIf (X.blk scope N pins c s H ex) ifs (exT X.K pc mt)) (he:∀pins c s H ex,PE (X.blk scope N pins c s H ex) elt (exX .O X.K pe me)) (nd:(cs.filterMap Cp.is).Nodup:=by decide)
  (hsw:swapsWith (.ListComp elt [⟨.Name x px,iter,ifs,0⟩] scope pos) (some (.Name y py)) spos.line X.env=pure true:=by rfl)
  (hf:X.fn y=true\/X.env.scope.names.lookup y=some .local:=by first|exact .inl rfl|exact .inr rfl|assumption)
  (hs:∀x,foldedSetIterable iter X.env x=pure x:=by intro _;rfl):PS X (.Assign [.Name y py] (.ListComp elt [⟨.Name x px,iter,ifs,0⟩] scope pos) spos) (tS rk C E (Vh i0 (Yn par cs j mi mt me))):=
 Ju (Qek hc hXN hi0 hy B hi (fun _ _ _ _ _=>QA (i:=j) B.nd hjN (.inl (lookup_relabel_local hx)) (.inr (lookup_relabel_local hx))) ht he hsw hf hs) fun D σ H h=>by
  have q:=QjD (p:=pa && false) h
  exact QcX (p:=false) hK hj nd (fun z=>nomatch z) q
end
instance {i j:Int}:Decidable (Qgo i j):=by unfold Qgo;infer_instance
instance {i j:Int}:Decidable (Qmj i j):=by unfold Qmj;infer_instance
instance {i j:Int}:Decidable (QdA i j):=by unfold QdA;infer_instance
def gI0 (f:Int->Int->D):D->D->Option D
 |.int i,.int j=>some (f i j)
 |_,_=>none
def gIc (c:Int->Int->Prop)[∀i j,Decidable (c i j)](f:Int->Int->D):D->D->Option D
 |.int i,.int j=>if c i j then some (f i j) else none
 |_,_=>none
section
variable {K:z01}
theorem QfH {f:Int->Int->D}{g:Int->Int->V}(h:∀i j,(f i j).sc=some (g i j)):OpD K (rI0 g) (gI0 f):=fun H v u d e res r q eg=>by
 unfold gI0 at eg
 split at eg
 ·next i j=>
  cases eg
  obtain rfl:=r.QW (w:=.int i) rfl
  obtain rfl:=q.QW (w:=.int j) rfl
  exact⟨_,h i j,fun Q hq=>⟨i,j,rfl,rfl,hq⟩⟩
 ·cases eg
theorem QlM {c:Int->Int->Prop}[∀i j,Decidable (c i j)]{f:Int->Int->D}{g:Int->Int->V}(h:∀i j,(f i j).sc=some (g i j)):OpD K (rI c g) (gIc c f):=fun H v u d e res r q eg=>by
 unfold gIc at eg
 split at eg
 ·next i j=>
  by_cases cc:c i j
  ·rw[if_pos cc] at eg;cases eg
   obtain rfl:=r.QW (w:=.int i) rfl
   obtain rfl:=q.QW (w:=.int j) rfl
   exact⟨_,h i j,fun Q hq=>⟨i,j,rfl,rfl,cc,hq⟩⟩
  ·rw[if_neg cc] at eg;cases eg
 ·cases eg
def Qca:=gI0 fun i j=>.int (i+j)
def Qhg:=gI0 fun i j=>.int (i - j)
def QjQ:=gIc Qgo fun i j=>.int (i * j)
def Qp6:=gIc QdA fun i j=>.int (i / j)
def Qmy:=gIc (fun _ j=>0<j) fun i j=>.int (i % j)
def QnM:=gIc Qmj fun i j=>.int (i ^ j.toNat)
def gLt:=gI0 fun i j=>.bl (decide (i<j))
def gLe:=gI0 fun i j=>.bl (decide (i<=j))
def gGt:=gI0 fun i j=>.bl (decide (j<i))
def gGe:=gI0 fun i j=>.bl (decide (j<=i))
theorem Qcx:OpD K (rI0 fun i j=>.int (i+j)) Qca:=QfH fun _ _=>rfl
theorem Qmz:OpD K (rI0 fun i j=>.int (i - j)) Qhg:=QfH fun _ _=>rfl
theorem QlN:OpD K (rI Qgo fun i j=>.int (i * j)) QjQ:=QlM fun _ _=>rfl
theorem QsS:OpD K (rI QdA fun i j=>.int (i / j)) Qp6:=QlM fun _ _=>rfl
theorem QoO:OpD K (rI (fun _ j=>0<j) fun i j=>.int (i % j)) Qmy:=QlM fun _ _=>rfl
theorem Qp7:OpD K (rI Qmj fun i j=>.int (i ^ j.toNat)) QnM:=QlM fun _ _=>rfl
theorem dLt:OpD K (rI0 fun i j=>.bl (decide (i<j))) gLt:=QfH fun _ _=>rfl
theorem dLe:OpD K (rI0 fun i j=>.bl (decide (i<=j))) gLe:=QfH fun _ _=>rfl
theorem dGt:OpD K (rI0 fun i j=>.bl (decide (j<i))) gGt:=QfH fun _ _=>rfl
end
def Qe8 (f:D->D->Option Bool):List D->List D->Option Bool
 |x::xs,y::ys=>(f x y).bind fun a=>(Qe8 f xs ys).map fun b=>a && b
 |_,_=>some true
def eqS (x y:V):Option Bool:=if(QoM x y && Qeg x && Qeg y)=true then some (decide (x=y)) else none
def QsT (f:D->D->Option Bool):D->D->Option Bool
 |.nd .lst xs,.nd .lst ys=>if xs.length=ys.length then Qe8 f xs ys else some false
 |.nd .tup xs,.nd .tup ys=>if xs.length=ys.length then Qe8 f xs ys else(Qe8 f xs ys).map fun _=>false
 |d,e=>d.sc.bind fun x=>e.sc.bind fun y=>eqS x y
def eqb:Nat->D->D->Option Bool
 |0=>fun _ _=>none
 |n+1=>QsT (eqb n)
theorem Qew {n:Nat}{d e:D}{b:Bool}(h:eqb (n+1) d e=some b) :
  (∃xs ys,d=.nd .lst xs/\e=.nd .lst ys/\((xs.length=ys.length/\Qe8 (eqb n) xs ys=some b)\/(xs.length≠ys.length/\b=false)))\/
  (∃xs ys c,d=.nd .tup xs/\e=.nd .tup ys/\Qe8 (eqb n) xs ys=some c/\b=(c && xs.length == ys.length))\/
  (∃x y,d.sc=some x/\e.sc=some y/\eqS x y=some b):=by
 replace h:QsT (eqb n) d e=some b:=h
 unfold QsT at h
 split at h
 ·next xs ys=>
  left
  refine⟨xs,ys,rfl,rfl,?_⟩
  by_cases c:xs.length=ys.length
  ·rw[if_pos c] at h;exact .inl ⟨c,h⟩
  ·rw[if_neg c] at h;cases h;exact .inr ⟨c,rfl⟩
 ·next xs ys=>
  right;left
  by_cases c:xs.length=ys.length
  ·rw[if_pos c] at h;exact⟨xs,ys,b,rfl,rfl,h,by simp[c]⟩
  ·rw[if_neg c] at h
   obtain⟨c',h1,h2⟩:=z03.mp h
   exact⟨xs,ys,c',rfl,rfl,h1,by simp[c,h2.symm]⟩
 ·right;right
  obtain⟨x,h1,h2⟩:=z28.mp h
  obtain⟨y,h3,h4⟩:=z28.mp h2
  exact⟨x,y,h1,h3,h4⟩
theorem QhF {f:D->D->Option Bool}:∀{xs ys:List D} {b:Bool},Qe8 f xs ys=some b->∃e:Nat->Bool,(∀j x y,xs[j]? = some x->ys[j]? = some y->f x y=some (e j))/\(z64 (min xs.length ys.length)).all e=b
 | [],ys,b,h=>by
  unfold Qe8 at h;cases h
  exact⟨fun _=>true,fun j x y h=>by simp at h,by simp⟩
 |x::xs,[],b,h=>by
  unfold Qe8 at h;cases h
  exact⟨fun _=>true,fun j x y _ h=>by simp at h,by simp⟩
 |x::xs,y::ys,b,h=>by
  unfold Qe8 at h
  obtain⟨a,h1,h2⟩:=z28.mp h
  obtain⟨c,h3,rfl⟩:=z03.mp h2
  obtain⟨e,k1,k2⟩:=QhF h3
  refine⟨fun j=>match j with|0=>a|j+1=>e j,fun j x' y' hx hy=>?_,?_⟩
  ·cases j with
   |zero=>simp at hx hy;subst hx hy;exact h1
   |succ j=>exact k1 j x' y' (by simpa using hx) (by simpa using hy)
  ·have em:min (x::xs).length (y::ys).length=min xs.length ys.length+1:=by simp
   rw[em,List.range_succ_eq_map,zi6,zh2,← k2]
   rfl
theorem RL.QtZ {K:z01}{F:Hp}{vs:List L2.V}{ds:List D}{i:Nat}{v:L2.V}(r:RL K F vs ds)(e:vs[i]? = some v):∃d,ds[i]? = some d/\R K F v d:=by
 induction i generalizing vs ds with
 |zero=>cases r with
  |nil=>simp at e
  |cons h r=>simp at e;subst e;exact⟨_,rfl,h⟩
 |succ i ih=>cases r with
  |nil=>simp at e
  |cons h r=>
   obtain⟨v,h1,h2⟩:=ih r (by simpa using e)
   exact⟨v,by simpa using h1,h2⟩
theorem QlO {x y:V}{b:Bool}(h:eqS x y=some b):QoM x y=true/\Qeg x=true/\Qeg y=true/\b=decide (x=y)/\eqV x y=decide (x=y):=by
 unfold eqS at h
 by_cases c:(QoM x y && Qeg x && Qeg y)=true
 ·rw[if_pos c] at h;cases h
  have c0:=c
  rw[z99,z99] at c
  refine⟨c.1.1,c.1.2,c.2,rfl,?_⟩
  cases x<;>cases y<;>first
   |rfl
   |(rw[Qgu];rfl)
   |(rw[QiZ];rfl)
   |(rw[Qgv];rfl)
   |(simp only[QoM,Qeg] at c;exact absurd c (by simp))
   |(simp[eqV];done)
 ·rw[if_neg c] at h;cases h
section
variable {X:Cx}{pins:List (Addr×Obj)}{σ:L2.St}{H:Hp}{s:Shared}
theorem Qex (I:Inv X pins σ H s):∀{n:Nat} {v:L2.V} {d e:D} {b:Bool},R X.K H v d->R X.K H v e->eqb n d e=some b->b=true
 |0,_,_,_,_,_,_,h=>by cases h
 |n+1,v,d,e,b,r,q,h=>by
  have key:∀{vs:List L2.V} {xs ys:List D} {c:Bool},RL X.K H vs xs->RL X.K H vs ys->Qe8 (eqb n) xs ys=some c->c=true:=by
   intro vs
   induction vs with
   |nil=>intro xs ys c h1 h2 h3;cases h1;cases h2;unfold Qe8 at h3;cases h3;rfl
   |cons v vs ih=>
    intro xs ys c h1 h2 h3
    cases h1 with
    |cons a1 b1=>
     cases h2 with
     |cons a2 b2=>
      unfold Qe8 at h3
      obtain⟨a,e1,e2⟩:=z28.mp h3
      obtain⟨c',e3,rfl⟩:=z03.mp e2
      rw[Qex I a1 a2 e1,ih b1 b2 e3]
      rfl
  rcases Qew h with⟨xs,ys,rfl,rfl,hh⟩|⟨xs,ys,c,rfl,rfl,hh,rfl⟩|⟨x,y,hx,hy,hh⟩
  ·obtain⟨a,vs,rfl,a1,l1⟩:=r.inv
   obtain⟨a',vs',e',a2,l2⟩:=q.inv
   cases e'
   have ev:=I.Qea a1.sql a2.sql
   subst ev
   rcases hh with⟨_,hh⟩|⟨hh,_⟩
   ·exact key l1 l2 hh
   ·exact absurd (by rw[← l1.length,← l2.length]) hh
  ·obtain⟨a,vs,rfl,a1,l1⟩:=r.inv
   obtain⟨a',vs',e',a2,l2⟩:=q.inv
   cases e'
   have ev:=I.QcG a1.sqt a2.sqt
   subst ev
   rw[key l1 l2 hh]
   simp[← l1.length,← l2.length]
  ·obtain⟨_,_,_,rfl,_⟩:=QlO hh
   have e1:=r.QW hx
   have e2:=q.QW hy
   exact decide_eq_true (e1.symm.trans e2)
theorem Qd0 (I:Inv X pins σ H s){n:Nat}{A:Around}(hu:A.units<cLine)(cmp:∀{v u:L2.V} {d e:D} {b:Bool} {p q:Value},R X.K H v d->R X.K H u e->RelV v p->RelV u q->eqb n d e=some b->zh5 A.in1 s p q b){a a':Addr}{vs us:List L2.V}{xs ys:List D}(l1:RL X.K H vs xs)(l2:RL X.K H us ys){c:Bool}(h:Qe8 (eqb n) xs ys=some c) :
  (SqL X.K H a vs->SqL X.K H a' us->xs.length=ys.length->zt9 A s (.ref a) (.ref a') c/\zq9 A s (.ref a) (.ref a') (!c))/\(SqT X.K H a vs->SqT X.K H a' us->zt9 A s (.ref a) (.ref a') (c && xs.length == ys.length)/\zq9 A s (.ref a) (.ref a') (!(c && xs.length == ys.length))):=by
 obtain⟨e,k1,k2⟩:=QhF h
 have key:∀{its its2:List Value},Vals vs its->Vals us its2->∀j (h1:j<its.toArray.size) (h2:j<its2.toArray.size),zh5 A.in1 s its.toArray[j] its2.toArray[j] (e j):=fun{its its2} rv rv2 j h1 h2=>by
  rw[z14] at h1 h2
  have z1:=rv.length
  have z2:=rv2.length
  obtain⟨v,hv⟩:∃v,vs[j]? = some v:=⟨vs[j]'(by lia),z04 _⟩
  obtain⟨w,hw⟩:∃v,us[j]? = some v:=⟨us[j]'(by lia),z04 _⟩
  obtain⟨p,hp,rp⟩:=rv.get hv
  obtain⟨q,hq,rq⟩:=rv2.get hw
  obtain⟨x,hx,rx⟩:=l1.QtZ hv
  obtain⟨y,hy,ry⟩:=l2.QtZ hw
  have q1:its.toArray[j]=p:=by
   rw[z04 h1] at hp
   simpa using z22 hp
  have q2:its2.toArray[j]=q:=by
   rw[z04 h2] at hq
   simpa using z22 hq
  rw[q1,q2]
  exact cmp rx ry rp rq (k1 j x y hx hy)
 have e1:=l1.length
 have e2:=l2.length
 refine⟨fun a1 a2 hl=>?_,fun a1 a2=>?_⟩
 ·obtain⟨its,rv,p,_⟩:=I.list a1
  obtain⟨its2,rv2,p2,_⟩:=I.list a2
  have z1:=rv.length
  have z2:=rv2.length
  have es:its.toArray.size=its2.toArray.size:=by rw[z14,z14];lia
  have ec:(z64 its.toArray.size).all e=c:=by
   rw[← k2,z14,← z1,e1]
   congr 2
   lia
  rw[← ec]
  exact⟨SeqAt.RcAt.lists p.isList p2.isList es hu (key rv rv2),SeqAt.RcNeAt.lists p.isList p2.isList es hu (key rv rv2)⟩
 ·obtain⟨its,rv,p,_⟩:=I.tuple a1
  obtain⟨its2,rv2,p2,_⟩:=I.tuple a2
  have z1:=rv.length
  have z2:=rv2.length
  have ec:((z64 (min its.toArray.size its2.toArray.size)).all e && its.toArray.size == its2.toArray.size)=(c && xs.length == ys.length):=by
   rw[← k2,z14,z14,← z1,← z2,e1,e2]
  rw[← ec]
  exact⟨zq5 p p2 hu (key rv rv2),SeqAt.RcNeAt.tuples p p2 hu (key rv rv2)⟩
theorem QjR (I:Inv X pins σ H s){A:Around}(hu:A.units<cLine){a a':Addr}{vs us:List L2.V}(a1:SqL X.K H a vs)(a2:SqL X.K H a' us)(hl:vs.length≠us.length):zt9 A s (.ref a) (.ref a') false/\zq9 A s (.ref a) (.ref a') true:=by
 obtain⟨its,rv,p,_⟩:=I.list a1
 obtain⟨its2,rv2,p2,_⟩:=I.list a2
 have z1:=rv.length
 have z2:=rv2.length
 have es:(its.toArray.size != its2.toArray.size)=true:=by rw[z14,z14];simp;lia
 exact⟨SeqAt.RcAt.lists_lengths p.isList p2.isList es hu,SeqAt.RcNeAt.lists_lengths p.isList p2.isList es hu⟩
theorem Qiv (I:Inv X pins σ H s):∀{n:Nat} {A:Around},A.units+n<cLine->∀{v u:L2.V} {d e:D} {b:Bool} {p q:Value},R X.K H v d->R X.K H u e->RelV v p->RelV u q->eqb n d e=some b->zh5 A s p q b
 |0,_,_,_,_,_,_,_,_,_,_,_,_,_,h=>by cases h
 |n+1,A,hu,v,u,d,e,b,p,q,r,r',rp,rq,h=>by
  have hA:A.in1.units+n<cLine:=by show A.units+1+n<cLine;lia
  have hu':A.units<cLine:=by lia
  rcases Qew h with⟨xs,ys,rfl,rfl,hh⟩|⟨xs,ys,c,rfl,rfl,hh,rfl⟩|⟨x,y,hx,hy,hh⟩
  ·obtain⟨a,vs,rfl,a1,l1⟩:=r.inv
   obtain⟨a',us,rfl,a2,l2⟩:=r'.inv
   cases rp;cases rq
   by_cases ea:a=a'
   ·subst ea
    rw[Qex I r r' h]
    exact zh6 _
   ·refine zj0 ea ?_
    rcases hh with⟨hl,hh⟩|⟨hl,rfl⟩
    ·exact((Qd0 I hu' (fun r1 r2 p1 p2 e1=>Qiv I hA r1 r2 p1 p2 e1) l1 l2 hh).1 a1.sql a2.sql hl).1
    ·exact(QjR I hu' a1.sql a2.sql (by rw[l1.length,l2.length];exact hl)).1
  ·obtain⟨a,vs,rfl,a1,l1⟩:=r.inv
   obtain⟨a',us,rfl,a2,l2⟩:=r'.inv
   cases rp;cases rq
   by_cases ea:a=a'
   ·subst ea
    rw[Qex I r r' h]
    exact zh6 _
   ·exact zj0 ea ((Qd0 I hu' (fun r1 r2 p1 p2 e1=>Qiv I hA r1 r2 p1 p2 e1) l1 l2 hh).2 a1.sqt a2.sqt).1
  ·obtain⟨_,f1,f2,rfl,ev⟩:=QlO hh
   obtain rfl:=r.QW hx
   obtain rfl:=r'.QW hy
   rw[← ev]
   exact Qpv rp rq f1 f2
end
def QoP (K:z01)(n:Nat)(f:Bool->Bool):R2:=fun x y H Q=>∃d e b,R K H x d/\R K H y e/\eqb n d e=some b/\Q (.bl (f b)) H
section
variable {X:Cx}
theorem VI {n:Nat}(hu:X.A.units+n<cLine):OpR X (compareOp .Eq) (QoP X.K n id):=by
 intro pins s σ H x y v u Q I rx ry h
 obtain⟨d,e,b,r,r',he,q⟩:=h
 cases n with
 |zero=>cases he
 |succ n=>
  have hA:X.A.in1.units+n<cLine:=by show X.A.units+1+n<cLine;lia
  have hu':X.A.units<cLine:=by lia
  rcases Qew he with⟨xs,ys,rfl,rfl,hh⟩|⟨xs,ys,c,rfl,rfl,hh,rfl⟩|⟨x',y',hx,hy,hh⟩
  ·obtain⟨a,vs,rfl,a1,l1⟩:=r.inv
   obtain⟨a',us,rfl,a2,l2⟩:=r'.inv
   cases rx;cases ry
   rcases hh with⟨hl,hh⟩|⟨hl,rfl⟩
   ·exact((Qd0 I hu' (fun r1 r2 p1 p2 e1=>Qiv I hA r1 r2 p1 p2 e1) l1 l2 hh).1 a1.sql a2.sql hl).1 _ _ _ _ ⟨.bl _,H,I,rfl,q⟩
   ·exact(QjR I hu' a1.sql a2.sql (by rw[l1.length,l2.length];exact hl)).1 _ _ _ _ ⟨.bl _,H,I,rfl,q⟩
  ·obtain⟨a,vs,rfl,a1,l1⟩:=r.inv
   obtain⟨a',us,rfl,a2,l2⟩:=r'.inv
   cases rx;cases ry
   exact((Qd0 I hu' (fun r1 r2 p1 p2 e1=>Qiv I hA r1 r2 p1 p2 e1) l1 l2 hh).2 a1.sqt a2.sqt).1 _ _ _ _ ⟨.bl _,H,I,rfl,q⟩
  ·obtain⟨sc,f1,f2,rfl,ev⟩:=QlO hh
   obtain rfl:=r.QW hx
   obtain rfl:=r'.QW hy
   exact Qlf pins s σ H x y v u Q I rx ry ⟨sc,q⟩
theorem VJ {n:Nat}(hu:X.A.units+n<cLine):OpR X (compareOp .NotEq) (QoP X.K n not):=by
 intro pins s σ H x y v u Q I rx ry h
 obtain⟨d,e,b,r,r',he,q⟩:=h
 cases n with
 |zero=>cases he
 |succ n=>
  have hA:X.A.in1.units+n<cLine:=by show X.A.units+1+n<cLine;lia
  have hu':X.A.units<cLine:=by lia
  rcases Qew he with⟨xs,ys,rfl,rfl,hh⟩|⟨xs,ys,c,rfl,rfl,hh,rfl⟩|⟨x',y',hx,hy,hh⟩
  ·obtain⟨a,vs,rfl,a1,l1⟩:=r.inv
   obtain⟨a',us,rfl,a2,l2⟩:=r'.inv
   cases rx;cases ry
   rcases hh with⟨hl,hh⟩|⟨hl,rfl⟩
   ·exact((Qd0 I hu' (fun r1 r2 p1 p2 e1=>Qiv I hA r1 r2 p1 p2 e1) l1 l2 hh).1 a1.sql a2.sql hl).2 _ _ _ _ ⟨.bl _,H,I,rfl,q⟩
   ·exact(QjR I hu' a1.sql a2.sql (by rw[l1.length,l2.length];exact hl)).2 _ _ _ _ ⟨.bl _,H,I,rfl,q⟩
  ·obtain⟨a,vs,rfl,a1,l1⟩:=r.inv
   obtain⟨a',us,rfl,a2,l2⟩:=r'.inv
   cases rx;cases ry
   exact((Qd0 I hu' (fun r1 r2 p1 p2 e1=>Qiv I hA r1 r2 p1 p2 e1) l1 l2 hh).2 a1.sqt a2.sqt).2 _ _ _ _ ⟨.bl _,H,I,rfl,q⟩
  ·obtain⟨sc,f1,f2,rfl,ev⟩:=QlO hh
   obtain rfl:=r.QW hx
   obtain rfl:=r'.QW hy
   exact Qsj pins s σ H x y v u Q I rx ry ⟨sc,q⟩
def inL (f:D->D->Option Bool)(x:D):List D->Option Bool
 | []=>some false
 |y::ys=>(f y x).bind fun a=>(inL f x ys).map fun b=>a || b
def inb (n:Nat):D->D->Option Bool
 |x,.nd .lst ys=>inL (eqb n) x ys
 |x,.nd .tup ys=>inL (eqb n) x ys
 |_,_=>none
end
def gEq (d e:D):Option D:=(eqb 30 d e).map .bl
def gNe (d e:D):Option D:=(eqb 30 d e).map fun b=>.bl (!b)
def gIn (d e:D):Option D:=(inb 30 d e).map .bl
section
variable {K:z01}
theorem dEq:OpD K (QoP K 30 id) gEq:=fun H v u d e res r q eg=>by
 obtain⟨b,hb,rfl⟩:=z03.mp eg
 exact⟨_,rfl,fun Q hq=>⟨d,e,b,r,q,hb,hq⟩⟩
theorem dNe:OpD K (QoP K 30 not) gNe:=fun H v u d e res r q eg=>by
 obtain⟨b,hb,rfl⟩:=z03.mp eg
 exact⟨_,rfl,fun Q hq=>⟨d,e,b,r,q,hb,hq⟩⟩
end
end TL
namespace TL
open PySem PySem.Spec L2
section
variable {X:Cx}{C:Cn}{E:XE}{p pa pb pc:Bool}{e a b c:Expr}{es:List Expr}{m ma mb mc:ME}{mr:MA}{pos:Pos}{k ka kb kc:Kd}{ks:List Kd}
def QrV:D->Option D
 |.int i=>some (.int (-i))
 |_=>none
def mUn (g:D->Option D)(m:ME):ME:=fun ρ=>(m ρ).bind fun r=>Rs.of ((g r.1).map fun d=>(d,r.2))
theorem Qp8 (ha:PE X a (tX ka C pa E ma))(ok:ka.on true=true:=by rfl):PE X (.UnaryOp .USub a pos) (tX .V C pa E (mUn QrV ma)):=Qv (Qsh Qpf ha) fun σ H Q ⟨F,ρ,τ,fp,I,h⟩=>by
 refine⟨F,ρ,τ,fp,I,h.split.mono fun r1 h1 F1 H1 fp1 v1 I1 n1 f1=>?_⟩
 rw[Kd.Vg ok] at I1
 obtain⟨z,ez,h3⟩:=h1.of
 obtain⟨res,eg,rfl⟩:=z03.mp ez
 have rr:=Kd.stay ok f1 .refl I1
 unfold QrV at eg
 split at eg
 ·next i ei=>
  cases eg
  rw[ei] at rr
  exact⟨i,rr.QW rfl,h3 F1 H1 fp1 _ I1 n1 (.sc rfl)⟩
 ·cases eg
def QbB (g g':D->D->Option D)(ma mb mc:ME):ME:=fun ρ=>(ma ρ).bind fun r1=>(mb r1.2).bind fun r2=>(Rs.of ((g r1.1 r2.1).bind asB)).bind fun q=>if q=true then(mc r2.2).bind fun r3=>Rs.of ((g' r2.1 r3.1).map fun d=>(d,r3.2)) else .ok (.bl false,r2.2)
theorem QfI {r r':R2}{g g':D->D->Option D}(hg:OpD C.K r g)(hg':OpD C.K r' g')(ok:ka.on pb=true)(ok2:kb.on pc=true)(QoQ:kb.on true=true)(ok3:kc.on true=true){σ:L2.St}{H:Hp}{Q:VK}(h:tX .V C (pa && (pb && pc)) E (QbB g g' ma mb mc) σ H Q):Qi2 r r' (tX ka C pa E ma) (tX kb C pb E mb) (tX kc C pc E mc) σ H Q:=by
 obtain⟨F,ρ,τ,fp,I,h⟩:=h
 refine⟨F,ρ,τ,fp,I,h.split.mono fun r1 h1 F1 H1 fp1 v1 I1 n1 f1=>?_⟩
 rw[Kd.Vg ok] at I1
 refine⟨F1,r1.2,τ,fp1,I1,h1.split.mono fun r2 h2 F2 H2 fp2 v2 I2 n2 f2=>?_⟩
 rw[Kd.Vg QoQ] at I2
 obtain⟨q,eq,h3⟩:=h2.split.of
 obtain⟨d,eg,eb⟩:=z28.mp eq
 obtain⟨w,ew,hw⟩:=hg H2 v1 v2 _ _ _ (R.top I2 (Kd.stay ok f1 n2 I2)) (R.top I2 (Kd.stay QoQ f2 .refl I2)) eg
 rw[Qjz eb] at ew
 cases ew
 refine hw _ ⟨q,rfl,?_⟩
 by_cases c:q=true
 ·rw[if_pos c] at h3 ⊢
  refine⟨F2,r2.2,τ,fp2,I2,h3.split.mono fun r3 h4 F3 H3 fp3 v3 I3 n3 f3=>?_⟩
  rw[Kd.Vg ok3] at I3
  obtain⟨z,ez,h5⟩:=h4.of
  obtain⟨res,eg',rfl⟩:=z03.mp ez
  obtain⟨w',ew',hw'⟩:=hg' H3 v2 v3 _ _ _ (R.top I3 (Kd.stay ok2 f2 n3 I3)) (R.top I3 (Kd.stay ok3 f3 .refl I3)) eg'
  exact hw' _ (h5 F3 H3 fp3 w' I3 (n1.trans (n2.trans n3)) (.sc ew'))
 ·rw[if_neg c] at h3 ⊢
  exact h3 F2 H2 fp2 _ I2 ((n1.trans n2).weak fun z=>by cases pa<;>cases pb<;>cases pc<;>simp_all) (.sc rfl)
theorem QjS {op op':CmpOp}{r r':R2}{g g':D->D->Option D}(ho:OpR X (compareOp op) r)(ho':OpR X (compareOp op') r')(hg:OpD C.K r g)(hg':OpD C.K r' g')(ha:PE X a (tX ka C pa E ma))(hb:PE X b (tX kb C pb E mb))(hc:PE X c (tX kc C pc E mc))(ok:ka.on pb=true:=by rfl)(ok2:kb.on pc=true:=by rfl)(QoQ:kb.on true=true:=by rfl)(ok3:kc.on true=true:=by rfl)
  (hm:lastMarks [op,op'] [b,c]=false:=by with_unfolding_all rfl):PE X (.Compare a [op,op'] [b,c] pos) (tX .V C (pa && (pb && pc)) E (QbB g g' ma mb mc)):=Qv (Qlg ho ho' ha hb hc hm) fun _ _ _ h=>QfI hg hg' ok ok2 QoQ ok3 h
theorem QhG {op op':CmpOp}{r r':R2}{g g':D->D->Option D}(ho:OpR X (compareOp op) r)(ho':OpR X (compareOp op') r')(hg:OpD C.K r g)(hg':OpD C.K r' g')(ha:PE X a (tX ka C pa E ma))(hb:PE X b (tX kb C pb E mb))(hc:PE X c (tX kc C pc E mc))(ok:ka.on pb=true:=by rfl)(ok2:kb.on pc=true:=by rfl)(QoQ:kb.on true=true:=by rfl)(ok3:kc.on true=true:=by rfl)
  (hm:lastMarks [op,op'] [b,c]=false:=by with_unfolding_all rfl):PT X (.Compare a [op,op'] [b,c] pos) (tT C (pa && (pb && pc)) E (QF (QbB g g' ma mb mc))):=Qes (Qlh ho ho' ha hb hc hm) fun _ _ _ h=>by
 have q:=Qet (k:=.V) rfl h
 exact QfI hg hg' ok ok2 QoQ ok3 q
def JT:List D->Option D
 | [.nd .lst ds]=>some (.int ds.length)
 | [.nd .tup ds]=>some (.int ds.length)
 | [.str s]=>if s.length<=z15 then some (.int s.length) else none
 |_=>none
theorem Qcb (hK:C.K=X.K):CallD C.K (fun xs H Q=>∃x n,xs=[x]/\QtM X.K x H n/\Q (.int (n:Nat)) H) JT:=fun H vs ds res r eg=>by
 unfold JT at eg
 split at eg
 ·obtain⟨v,rfl,h⟩:=r.one
  obtain⟨a,us,rfl,h1,h2⟩:=h.inv
  cases eg
  exact⟨_,rfl,fun Q hq=>⟨.ref a,_,rfl,.inl ⟨us,hK▸h1.sql,h2.length.symm⟩,hq⟩⟩
 ·obtain⟨v,rfl,h⟩:=r.one
  obtain⟨a,us,rfl,h1,h2⟩:=h.inv
  cases eg
  exact⟨_,rfl,fun Q hq=>⟨.ref a,_,rfl,.inr ⟨us,hK▸h1.sqt,h2.length.symm⟩,hq⟩⟩
 ·next s=>
  obtain⟨v,rfl,h⟩:=r.one
  obtain rfl:=h.QW (w:=.str s) rfl
  by_cases c:s.length<=z15
  ·rw[if_pos c] at eg;cases eg
   exact⟨_,rfl,fun Q hq=>⟨.str s,_,rfl,⟨c,rfl⟩,hq⟩⟩
  ·rw[if_neg c] at eg;cases eg
 ·cases eg
def gI2 (f:Int->Int->Int):List D->Option D
 | [.int i,.int j]=>some (.int (f i j))
 |_=>none
def QsU:=gI2 fun i j=>if j > i then j else i
def Qt0:=gI2 fun i j=>if j<i then j else i
theorem dI2 {K:z01}{f:Int->Int->Int}:CallD K (fun xs H Q=>∃i j,xs=[.int i,.int j]/\Q (.int (f i j)) H) (gI2 f):=fun H vs ds res r eg=>by
 unfold gI2 at eg
 split at eg
 ·next i j=>
  cases eg
  obtain⟨v,u,rfl,h1,h2⟩:=r.two
  obtain rfl:=h1.QW (w:=.int i) rfl
  obtain rfl:=h2.QW (w:=.int j) rfl
  exact⟨_,rfl,fun Q hq=>⟨i,j,rfl,hq⟩⟩
 ·cases eg
def QmA:List D->Option (List Bool)
 | []=>some []
 |.bl b::ds=>(QmA ds).map (b::·)
 |_=>none
def Qp9:List D->Option D
 | [.nd .lst ds]=>(QmA ds).map fun bs=>.bl (bs.all fun b=>b)
 |_=>none
theorem QhH {K:z01}{H:Hp}:∀{vs:List L2.V} {ds:List D} {bs:List Bool},RL K H vs ds->QmA ds=some bs->vs=bs.map V.bl
 |_,_,_,.nil,e=>by unfold QmA at e;cases e;rfl
 |_,_,_,.cons (d:=d) h r,e=>by
  cases d with
  |bl b=>
   unfold QmA at e
   obtain⟨bs,h1,rfl⟩:=z03.mp e
   rw[QhH r h1,h.QW (w:=.bl b) rfl]
   rfl
  |_=>cases e
theorem QuI (hK:C.K=X.K):CallD C.K (fun xs H Q=>∃(p:Addr) (bs:List Bool),xs=[.ref p]/\SqL X.K H p (bs.map V.bl)/\Q (.bl (bs.all fun b=>b)) H) Qp9:=fun H vs ds res r eg=>by
 unfold Qp9 at eg
 split at eg
 ·obtain⟨v,rfl,h⟩:=r.one
  obtain⟨a,us,rfl,h1,h2⟩:=h.inv
  obtain⟨bs,hb,rfl⟩:=z03.mp eg
  exact⟨_,rfl,fun Q hq=>⟨a,bs,rfl,by rw[← QhH h2 hb];exact hK▸h1.sql,hq⟩⟩
 ·cases eg
theorem boot_all:z71 "all" = some (.builtin "all"):=by decide +kernel
theorem QcY:z71 "max" = some (.builtin "max"):=by decide +kernel
theorem QcZ:z71 "min" = some (.builtin "min"):=by decide +kernel
theorem Vj:z71 "isinstance" = some (.builtin "isinstance"):=by decide +kernel
theorem QfJ:z71 "int" = some (.type "int"):=by decide +kernel
theorem Qd1:z71 "bool" = some (.type "bool"):=by decide +kernel
inductive Ty where
 |non|bool|int|str|list|tuple|dict
 deriving DecidableEq
def Ty.nm:Ty->String
 |.non => "NoneType" |.bool => "bool" |.int => "int" |.str => "str" |.list => "list" |.tuple => "tuple" |.dict => "dict"
def Ty.of:D->Option Ty
 |.int _=>some .int|.bl _=>some .bool|.non=>some .non|.str _=>some .str|.ty _=>none|.cls _=>none
 |.nd .lst _=>some .list|.nd .tup _=>some .tuple|.nd (.dT _) _=>some .dict|.nd (.dK _) _=>some .dict|.nd (.ins _ _) _=>none|.nd (.exc _) _=>none
def Ty.sub (t u:Ty):Bool:=t == u || (t == .bool && u == .int)
def Ty.byName (c:String):Option Ty:=if c = "int" then some .int else if c = "bool" then some .bool else if c = "str" then some .str else if c = "list" then some .list else if c = "tuple" then some .tuple else if c = "dict" then some .dict else none
theorem QfK {c:String}{u:Ty}(h:Ty.byName c=some u):c=u.nm/\u≠.non:=by
 unfold Ty.byName at h
 repeat' split at h
 all_goals first|(cases h;subst_vars;exact⟨rfl,by decide⟩)|cases h
theorem QjT (K:z01)(t u:Ty)(hu:u≠.non):zu7 K (.type t.nm) (.type u.nm)=some (t.sub u):=by
 cases t<;>cases u<;>first|exact absurd rfl hu|with_unfolding_all rfl
def Qqa (d:D)(c:String):Option Bool:=(Ty.of d).bind fun t=>(Ty.byName c).map fun u=>t.sub u
def Qqb:List D->Option (List String)
 | []=>some []
 |.ty c::r=>(Qqb r).map (c::·)
 |_=>none
def QfL (d:D):List String->Option Bool
 | []=>some false
 |c::r=>(Qqa d c).bind fun b=>if b=true then some true else QfL d r
def QfM:List D->Option D
 | [d,.ty c]=>(Qqa d c).map .bl
 | [d,.nd .tup ts]=>(Qqb ts).bind fun cs=>((Ty.of d).bind fun _=>QfL d cs).map .bl
 |_=>none
theorem QjU {pins:List (Addr×Obj)}{σ:L2.St}{H:Hp}{s:Shared}{x:L2.V}{u:Value}{d:D}{t:Ty}(I:Inv X pins σ H s)(rx:RelV x u)(r:R X.K H x d)(ht:Ty.of d=some t):∃Z:Heap->Prop,PySem.W.KitX X.K u (.type t.nm) Z/\Z s.heap/\u≠.builtin "__main__.__loader__#opaque" := by
 cases d with
 |int i=>cases ht;obtain rfl:=r.QW (w:=.int i) rfl;exact QdT I rx (.int i)
 |bl b=>cases ht;obtain rfl:=r.QW (w:=.bl b) rfl;exact QdT I rx (.bl b)
 |non=>cases ht;obtain rfl:=r.QW (w:=.non) rfl;exact QdT I rx .non
 |str z=>cases ht;obtain rfl:=r.QW (w:=.str z) rfl;exact QdT I rx (.str z)
 |ty n=>cases ht
 |cls n=>cases ht
 |nd tg ds=>
  obtain⟨a,vs,rfl,h1,h2⟩:=r.inv
  cases(show u=z44 a from rx)
  cases tg with
  |lst=>
   cases ht
   obtain⟨its,_,pl,_⟩:=I.list h1.sql
   obtain⟨o,n,e,c,_,_⟩:=pl
   exact⟨_,zk9,⟨o,e,c⟩,fun z=>nomatch z⟩
  |tup=>
   cases ht
   obtain⟨its,_,pl,_⟩:=I.tuple h1.sqt
   obtain⟨o,e,c,_⟩:=pl
   exact⟨_,zr6,⟨o,e,c⟩,fun z=>nomatch z⟩
  |ins _ _=>cases ht
  |exc _=>cases ht
  |dT ks=>cases ht;exact QdT I (show RelV (.ref a) (.ref a) from rfl) (.dT h1.2)
  |dK ks=>cases ht;exact QdT I (show RelV (.ref a) (.ref a) from rfl) (.dK h1.2)
theorem QfN {K:z01}{d:D}{t:Ty}(ht:Ty.of d=some t):∀{cs:List String} {b:Bool},QfL d cs=some b->zu8 K (.type t.nm) (cs.map Value.type)=some b
 | [],b,h=>by unfold QfL at h;cases h;rfl
 |c::r,b,h=>by
  unfold QfL at h
  obtain⟨b1,h1,h2⟩:=z28.mp h
  unfold Qqa at h1
  rw[ht] at h1
  obtain⟨u,hu,rfl⟩:=z03.mp h1
  obtain⟨rfl,hn⟩:=QfK hu
  have hk:=QjT K t u hn
  show(match zu7 K (.type t.nm) (.type u.nm) with|some true=>some true|some false=>zu8 K (.type t.nm) (r.map Value.type)|none=>none)=some b
  rw[hk]
  by_cases cc:t.sub u=true
  ·rw[if_pos cc] at h2;cases h2
   rw[cc]
  ·rw[if_neg cc] at h2
   rw[show t.sub u=false by simpa using cc]
   exact QfN ht h2
theorem QjV {K:z01}{H:Hp}:∀{vs:List L2.V} {ts:List D} {cs:List String},RL K H vs ts->Qqb ts=some cs->vs=cs.map V.ty
 |_,_,_,.nil,e=>by unfold Qqb at e;cases e;rfl
 |_,_,_,.cons (d:=d) h r,e=>by
  cases d with
  |ty b=>
   unfold Qqb at e
   obtain⟨bs,h1,rfl⟩:=z03.mp e
   rw[QjV r h1,h.QW (w:=.ty b) rfl]
   rfl
  |_=>cases e
def Qqc (K:z01):List L2.V->Hp->VK->Prop:=fun xs H Q=>∃ds b,RL K H xs ds/\QfM ds=some (.bl b)/\Q (.bl b) H
theorem QnN {d:D}{c:String}{b:Bool}(h:Qqa d c=some b):∃t u,Ty.of d=some t/\Ty.byName c=some u/\b=t.sub u:=by
 unfold Qqa at h
 obtain⟨t,h1,h2⟩:=z28.mp h
 obtain⟨u,h3,rfl⟩:=z03.mp h2
 exact⟨t,u,h1,h3,rfl⟩
theorem YL:QbR X (.builtin "isinstance") (Qqc X.K):=by
 intro pins s σ H xs us Q I r h
 obtain⟨ds,b,rl,hg,q⟩:=h
 unfold QfM at hg
 split at hg
 ·next d c=>
  obtain⟨b',hb,e⟩:=z03.mp hg
  cases e
  obtain⟨t,u,h1,h2,rfl⟩:=QnN hb
  obtain⟨x,y,rfl,rx,ry⟩:=rl.two
  obtain rfl:=ry.QW (w:=.ty c) rfl
  obtain⟨p,w',rfl,ru,rc⟩:=Vals.two r
  cases rc
  obtain⟨Z,k,z,ne⟩:=QjU I ru rx h1
  obtain⟨rfl,hn⟩:=QfK h2
  exact PySem.W.kia_one k I.kIn z (QjT _ t u hn) ne fun tk=>⟨.bl _,H,I.tok tk,rfl,q⟩
 ·next d ts=>
  obtain⟨cs,hc,hg⟩:=z28.mp hg
  obtain⟨b',hb,e⟩:=z03.mp hg
  cases e
  obtain⟨x,y,rfl,rx,ry⟩:=rl.two
  obtain⟨a,vs,rfl,h1,h2⟩:=ry.inv
  obtain⟨p,w',rfl,ru,rc⟩:=Vals.two r
  cases rc
  have ev:=QjV h2 hc
  subst ev
  obtain⟨its,rv,pl,_⟩:=I.tuple h1.sqt
  obtain⟨⟨cls,dd,data,sl⟩,g1,g2,n,g3⟩:=pl
  have e2:=Qjj rv
  subst e2
  simp only at g2 g3
  subst g2 g3
  cases ht:Ty.of d with
  |none=>rw[ht] at hb;cases hb
  |some t=>
   rw[ht] at hb
   obtain⟨Z,k,z,ne⟩:=QjU I ru rx ht
   exact PySem.W.kia_tup k I.kIn z g1 (QfN ht hb) ne fun tk=>⟨.bl _,H,I.tok tk,rfl,q⟩
 ·cases hg
theorem QmB (hK:C.K=X.K):CallD C.K (Qqc X.K) QfM:=fun H vs ds res r eg=>by
 have e:∃b,res=.bl b:=by
  unfold QfM at eg
  split at eg
  ·obtain⟨b,_,rfl⟩:=z03.mp eg;exact⟨b,rfl⟩
  ·obtain⟨cs,_,eg⟩:=z28.mp eg
   obtain⟨b,_,rfl⟩:=z03.mp eg;exact⟨b,rfl⟩
  ·cases eg
 obtain⟨b,rfl⟩:=e
 exact⟨_,rfl,fun Q hq=>⟨ds,b,hK▸r,eg,hq⟩⟩
def VY (ds:List D):List D:=ds.zipIdx.map fun x=>.tup [.int (x.2:Nat),x.1]
theorem QhI {K:z01}{F:Hp}{a:Addr}{kd:Bool}{vs:List L2.V}{ds:List D}(h:At K F a (if kd then .lst else .tup) vs)(r:RL K F vs ds):ItD K F (VY ds) (Itq kd K a):=by
 have up:∀{F' H:Hp},Qz F F'->Qz F' H->SqB kd K H a vs:=fun s1 s2=>by
  cases kd with
  |true=>exact(At.same (t:=.lst) h (s1.trans s2)).sql
  |false=>exact(At.same (t:=.tup) h (s1.trans s2)).sqt
 have get:∀{i:Nat} {d:D},(VY ds)[i]? = some d->∃x,ds[i]? = some x/\d=.tup [.int (i:Nat),x]:=fun{i d} e=>by
  unfold VY at e
  rw[z18] at e
  obtain⟨q,hq,rfl⟩:=z03.mp e
  rw[zj9] at hq
  obtain⟨x,hx,rfl⟩:=z03.mp hq
  exact⟨x,hx,by simp⟩
 refine⟨fun{C F' H σ ρ τ fp i d} hk I s e=>?_,fun{C F' H σ ρ τ fp} hk I s=>?_⟩
 ·obtain⟨x,hx,rfl⟩:=get e
  obtain⟨v,ev,rv⟩:=r.get hx
  have q:=up s I.fh
  have fin:∀{T:Addr} {y:L2.V},H T=none->y=v->∃F'',SI C F'' (upd H T (.tup [.int (i:Nat),y])) σ ρ τ fp/\Nx true F' H fp F'' (upd H T (.tup [.int (i:Nat),y])) fp/\R K F'' (.ref T) (.tup [.int (i:Nat),x]):=fun{T y} hT ey=>by
   subst ey
   have s2:=Qz.upd (o:=HO.tup [.int (i:Nat),y]) (I.fh.free hT)
   exact⟨_,I.lay hT,⟨s2,fun _=>QdW I hT⟩,.nd (t:=.tup) Qy (.cons (.sc rfl) (.cons (rv.same (s.trans s2)) .nil))⟩
  cases kd with
  |true=>exact⟨⟨vs,v,q,ev⟩,fun x0 H' ⟨T,y,hT,e1,e2,e3⟩=>by
    subst e1 e2
    have z:=e3 vs q
    rw[ev] at z
    exact fin hT (z22 z).symm⟩
  |false=>exact⟨⟨vs,v,q,ev⟩,fun x0 H' ⟨T,y,hT,e1,e2,e3⟩=>by
    subst e1 e2
    have z:=e3 vs q
    rw[ev] at z
    exact fin hT (z22 z).symm⟩
 ·have q:=up s I.fh
  have l:=r.length
  have l2:(VY ds).length=ds.length:=by unfold VY;rw[z00,ze2]
  cases kd with
  |true=>exact⟨vs,q,by lia⟩
  |false=>exact⟨vs,q,by lia⟩
def QnO (mr:MA):MA:=fun ρ=>(mr ρ).bind fun r=>(Rs.of (Qis r.1)).bind fun ds=>.ok (VY ds,r.2)
theorem QnP {es:List Expr}{k0:Nat}{tp px:Pos}(hm:X.mg "enumerate" = none)(hK:C.K=X.K)(ha:PA X [e] (tA ks C p E mr))(ok:knL ks=true:=by rfl)(hg:Gl X "enumerate" := by rfl)(hs:starEach [e] X.env=(false,eval e X.env)::starEach [] X.env:=by rfl)(hpl:(backTo pos (starEach [] X.env)).any (·.1)=false:=by rfl) :
  PI X (.Tuple es k0 tp) (.Call (.Name "enumerate" px) [e] [] pos) (tI C p E (QnO mr)):=QgP (Qlv hg hm ha hs hpl) fun σ H RR ⟨F,ρ,τ,fp,I,h⟩=>by
 refine⟨F,ρ,τ,fp,I,h.split.mono fun r hr F1 H1 fp1 vs I1 n1 f1=>?_⟩
 rw[Y0 (VU ok)] at I1
 obtain⟨ds,eg,h2⟩:=hr.split.of
 obtain⟨q,us,rfl,hs,rl⟩:=Qhw (f1.kn ok) eg
 rcases hs with hs|hs
 ·refine⟨q,true,rfl,⟨us,by rw[← hK];exact(At.same hs I1.fh).sql⟩,h2 F1 H1 fp1 _ I1 n1 ?_⟩
  rw[← hK]
  exact QhI (kd:=true) hs rl
 ·refine⟨q,false,rfl,⟨us,by rw[← hK];exact(At.same hs I1.fh).sqt⟩,h2 F1 H1 fp1 _ I1 n1 ?_⟩
  rw[← hK]
  exact QhI (kd:=false) hs rl
end
def QaZ (ρ:Rho)(i:Nat):Option (Bool×List D):=match ρ[i]? with
 |some (some (.own (.nd .lst ds)))=>some (false,ds)
 |some (some (.par (.nd .lst ds)))=>some (true,ds)
 |_=>none
theorem YS {ρ:Rho}{i:Nat}{q:Bool×List D}(h:QaZ ρ i=some q):ρ[i]? = some (some (mkS q.1 (.lst q.2))):=by
 unfold QaZ at h
 split at h
 ·next e=>cases h;exact e
 ·next e=>cases h;exact e
 ·cases h
section
variable {K:z01}{F H:Hp}
theorem OL.snoc {vs:List L2.V}{ds:List D}{f g:List Addr}{v:L2.V}{d:D}(o:OL K F H vs ds f)(h:O K F H v d g):OL K F H (vs++[v]) (ds++[d]) (f++g):=by
 have q:=o.app (.cons h .nil)
 rw[z53] at q
 exact q
theorem OL.setAt:∀{vs:List L2.V} {ds:List D} {f:List Addr} {j:Nat},OL K F H vs ds f->j<ds.length->∃f1 fj f2 v d,f=f1++(fj++f2)/\vs[j]? = some v/\ds[j]? = some d/\O K F H v d fj/\∀{F' H':Hp} {v':L2.V} {d':D} {g:List Addr},Qz F F'->(∀a∈f1++f2,H' a=H a)->O K F' H' v' d' g->OL K F' H' (vs.set j v') (ds.set j d') (f1++(g++f2))
 |_,_,_,j,.nil,h=>by simp at h
 |_,_,_,0,.cons (f:=f) (g:=g) a r,_=>⟨[],f,g,_,_,rfl,rfl,rfl,a,fun{F' H' v' d' g'} sf k o=>by
  show OL K F' H' (_::_) (_::_) (g'++g)
  exact .cons o (r.keep sf k)⟩
 |_,_,_,j+1,.cons (f:=f) (g:=g) a r,h=>by
  obtain⟨f1,fj,f2,v,d,rfl,e1,e2,o,k⟩:=OL.setAt r (j:=j) (by simpa using h)
  refine⟨f++f1,fj,f2,v,d,by simp[z20],by simpa using e1,by simpa using e2,o,fun{F' H' v' d' g'} sf kk o'=>?_⟩
  have q:=OL.cons (a.keep sf fun b hb=>kk b (by simp[hb])) (k sf (fun b hb=>kk b (by simp at hb ⊢;rcases hb with z|z<;>simp[z])) o')
  simpa[z20] using q
theorem O.QjW {v:L2.V}{ds:List D}{f:List Addr}(o:O K F H v (.nd .lst ds) f):∃a vs g,v=.ref a/\f=a::g/\H a=some (.lst vs)/\OL K F H vs ds g:=by
 cases o with
 |sc e=>cases e
 |im m h r=>cases m
 |mt h r=>exact⟨_,_,_,rfl,rfl,h,r⟩
end
section
variable {X:Cx}{C:Cn}{E:XE}{p pa pb:Bool}{e a b:Expr}{es:List Expr}{m mi:ME}{pos:Pos}{kb rk:Kd}{ks:List Kd}
theorem SI.Qc0 {F H:Hp}{σ:L2.St}{ρ:Rho}{τ:List (L2.V×D)}{fp:List Addr}{i:Nat}{par:Bool}{ds:List D}(I:SI C F H σ ρ τ fp)(es:ρ[i]? = some (some (mkS par (.lst ds)))):∃l vs f rest,σ[i]? = some (some (.ref l))/\H l=some (.lst vs)/\OL C.K F H vs ds f/\fp.Perm ((l::f)++rest)/\(∀b∈l::f,VX C par b)/\
  ∀{H':Hp} {vs':List L2.V} {ds':List D} {f':List Addr},H' l=some (.lst vs')->OL C.K F H' vs' ds' f'->(∀b,b∈rest->H' b=H b)->(∀b o,H b=some o->b∉l::f->H' b=some o)->(∀b,H' b=none->H b=none)->((l::f')++rest).Nodup->(∀b∈f',F b=none/\VX C par b)->SI C F H' σ (ρ.set i (some (mkS par (.lst ds')))) τ ((l::f')++rest):=by
 obtain⟨x,f0,g0,rest,ex,s1,pm,w0,w1,cl⟩:=I.cut es
 obtain⟨v,fi,ev,ho,efi,wfi⟩:∃v fi,x=some v/\O C.K F H v (.nd .lst ds) fi/\f0++g0=fi/\∀a∈fi,VX C par a:=by
  cases par with
  |false=>cases s1 with|own h=>exact⟨_,_,rfl,h,by simp,fun a ha=>.inl (w0 a ha)⟩
  |true=>cases s1 with|par h=>exact⟨_,_,rfl,h,rfl,fun a ha=>(w1 a ha).elim (fun z=>.inr ⟨rfl,z⟩) fun z=>.inl z⟩
 subst ev
 obtain⟨l,vs,g,rfl,rfl,hl,ol⟩:=ho.QjW
 have pm':fp.Perm ((l::g)++rest):=by
  rw[← efi,z20];exact pm
 have ndp:=pm'.nodup_iff.mp I.nd
 refine⟨l,vs,g,rest,ex,hl,ol,pm',wfi,fun{H' vs' ds' f'} hl' ol' hk kp dm nd fr=>?_⟩
 have hF:Qz F H':=fun b o e=>by
  refine kp b o (I.fh b o e) fun z=>?_
  have:=I.ap b (pm'.mem_iff.mpr (z06 _ z))
  rw[e] at this;cases this
 have nop:∀b,C.H₀ b≠none->b∉C.A->b∉l::g:=fun b h1 h2 z=>by
  rcases wfi b z with y|y
  ·exact h1 y
  ·exact h2 y.2
 have apn:∀b∈(l::f')++rest,F b=none:=fun b hb=>by
  rcases z05.mp hb with z|z
  ·rcases z13.mp z with rfl|z
   ·exact I.ap _ (pm'.mem_iff.mpr (by simp))
   ·exact(fr b z).1
  ·exact I.ap b (pm'.mem_iff.mpr (z02 _ z))
 have frn:∀b∈l::f',VX C par b:=fun b hb=>by
  rcases z13.mp hb with rfl|z
  ·exact wfi _ z07
  ·exact(fr b z).2
 have es':=es
 cases par with
 |false=>
  have J:=cl (F':=F) (H':=H') (x':=some (.ref l)) (s':=some (.own (.lst ds'))) (f0':=l::f') (g0':=[]) (Qz.refl F) hF hk dm (fun b o e n z=>kp b o z (nop b (by rw[e];simp) n)) (fun _ _ z=>.inl z) (.own (.mt (t:=.lst) hl' ol')) nd apn (fun b hb=>(frn b hb).resolve_right fun z=>nomatch z.1) (fun _ z=>nomatch z) (fun v hv=>by
   obtain⟨_,d',z⟩:=I.pr _ _ hv
   rw[es] at z;cases z)
  rw[JS ex] at J
  exact J
 |true=>
  have J:=cl (F':=F) (H':=H') (x':=some (.ref l)) (s':=some (.par (.lst ds'))) (f0':=[]) (g0':=l::f') (Qz.refl F) hF hk dm (fun b o e n z=>kp b o z (nop b (by rw[e];simp) n)) (fun _ _ z=>.inl z) (.par (.mt (t:=.lst) hl' ol')) nd apn (fun _ z=>nomatch z) (fun b hb=>(frn b hb).elim (fun z=>.inr z) fun z=>.inl z.2) (fun v hv=>⟨by
   obtain⟨z,_⟩:=I.pr _ _ hv
   rw[ex] at z;exact z22 z,_,rfl⟩)
  rw[JS ex] at J
  exact J
theorem SI.QfO {F H:Hp}{σ:L2.St}{ρ:Rho}{τ:List (L2.V×D)}{fp:List Addr}{i:Nat}{par:Bool}{ds:List D}(I:SI C F H σ ρ τ fp)(es:ρ[i]? = some (some (mkS par (.lst ds)))):∃l vs f rest,σ[i]? = some (some (.ref l))/\H l=some (.lst vs)/\OL C.K F H vs ds f/\fp.Perm ((l::f)++rest)/\(∀b∈l::f,VX C par b)/\
  ∀{vs':List L2.V} {ds':List D} {f':List Addr},OL C.K F H vs' ds' f'->((l::f')++rest).Nodup->(∀b∈f',F b=none/\VX C par b)->SI C F (upd H l (.lst vs')) σ (ρ.set i (some (mkS par (.lst ds')))) τ ((l::f')++rest):=by
 obtain⟨l,vs,f,rest,ex,hl,ol,pm,w,cl⟩:=I.Qc0 es
 have ndp:=pm.nodup_iff.mp I.nd
 refine⟨l,vs,f,rest,ex,hl,ol,pm,w,fun{vs' ds' f'} ol' nd fr=>?_⟩
 have nl:∀{b:Addr},b∈f'\/b∈rest->b≠l:=fun{b} hb z=>by
  subst z
  have:=(z72.mp (show(b::(f'++rest)).Nodup from nd)).1
  exact this (z05.mpr hb)
 refine cl Qy (ol'.keep (Qz.refl _) fun b hb=>Qp (nl (.inl hb))) (fun b hb=>Qp (nl (.inr hb))) (fun b o e n=>(Qp (by intro z;subst z;exact n z07)).trans e) (fun b e=>?_) nd fr
 by_cases hb:b=l
 ·subst hb;rw[Qy] at e;cases e
 ·rw[Qp hb] at e;exact e
def QlP (i:Nat)(m:ME):MS:=fun ρ=>(Rs.of (QaZ ρ i)).bind fun _=>(m ρ).bind fun r=>(Rs.of (QaZ r.2 i)).bind fun q=>if q.2.length<z15 then .ok (.nx,r.2.set i (some (mkS q.1 (.lst (q.2++[r.1]))))) else .no
theorem Qiw {i:Nat}{x:Str}{np apos cpos:Pos}(hK:C.K=X.K)(hN:X.N[i]? = some x)(hv:Vis X.env.scope x)(he:PE X e (tX .O C p E m))(hs:swapsWith (.Call (.Attribute (.Name x np) "append" apos) [e] [] cpos) none pos.line X.env=pure false:=by rfl)
  (hbase:attributeBase (.Name x np) "append" X.env (eval (.Name x np) X.env)=eval (.Name x np) X.env:=by rfl) (hfew:((backTo cpos (starEach [e] X.env)).all (fun x=>!x.1) && (backToKw cpos (keywordEach [] X.env)).all (fun x=>x.1.isSome) && decide ([e].length+([]:List Keyword).length+(if([]:List Keyword).isEmpty then 0 else 1)<30))=true:=by rfl)
  (hline:(apos.endLine == cpos.line)=true:=by rfl) (hst:starEach [e] X.env=(false,eval e X.env)::starEach [] X.env:=by rfl) (hplain:(backTo cpos (starEach [] X.env)).any (·.1)=false:=by rfl) (hd:(x == ("__debug__" : Str))=false:=by decide) (hcd:(x == ("__classdict__" : Str))=false:=by decide) :
  PS X (.Expr (.Call (.Attribute (.Name x np) "append" apos) [e] [] cpos) pos) (tS rk C E (QlP i m)):=
 Ju (Qeb (Qnk zd8 PySem.F.slot_list_append PySem.F.type_list_append Qje (Qar hN hv hd hcd) (Qgw he Qi6 hst) hbase hfew hline hst hplain) hs) fun D σ H ⟨F,ρ,fp,I,h⟩=>by
 obtain⟨q0,e0,h⟩:=h.split.of
 obtain⟨l0,vs0,f0,QgN,ex0,hl0,_⟩:=I.Qc0 (YS e0)
 refine⟨_,ex0,.inl ⟨rfl,vs0,SqL.of hl0⟩,F,ρ,[],fp,I,h.split.run.mono fun r hr F1 H1 fp1 v I1 n1 _=>?_⟩
 obtain⟨q,eq,h2⟩:=hr.split.of
 obtain⟨ft,QjX,ot,pmt,J,t0,tap,tnd⟩:=SI.pop (τ:=[]) I1
 obtain⟨l,vs,f,rest,ex,hl,ol,pm,w,cl⟩:=J.QfO (YS eq)
 have el:l=l0:=by rw[ex0] at ex;cases ex;rfl
 subst el
 by_cases hz:q.2.length<z15
 ·rw[if_pos hz] at h2
  have ndJ:=pm.nodup_iff.mp J.nd
  refine⟨l,vs,v,rfl,rfl,hl,by rw[ol.length];exact hz,?_⟩
  refine h2 F1 _ σ _ n1.f (cl (ol.snoc ot) ?_ fun b hb=>?_)
  ·have pp:(ft++((l::f)++rest)).Perm ((l::(f++ft))++rest):=by
    rw[z79]
    intro a
    simp only[z87,zg6]
    lia
   exact pp.nodup_iff.mp ((pm.append_left ft).nodup_iff.mp tnd)
  ·rcases z05.mp hb with z|z
   ·exact⟨J.ap b (pm.mem_iff.mpr (by simp[z])),w b (z08 _ z)⟩
   ·exact⟨tap b z,.inl (t0 b z)⟩
 ·rw[if_neg hz] at h2;exact h2.elim
def asL:D->Option (List D)
 |.nd .lst ds=>some ds
 |_=>none
theorem Qd2 {d:D}{ds:List D}(h:asL d=some ds):d=.nd .lst ds:=by
 unfold asL at h
 split at h
 ·cases h;rfl
 ·cases h
def asI:D->Option Int
 |.int i=>some i
 |_=>none
theorem QhJ {d:D}{i:Int}(h:asI d=some i):d=.int i:=by
 cases d<;>cases h
 rfl
def QrW (i:Nat)(m:ME):MS:=fun ρ=>(Rs.of (QaZ ρ i)).bind fun _=>(m ρ).bind fun r=>(Rs.of (QaZ r.2 i)).bind fun q=>(Rs.of (asL r.1)).bind fun ds=>if q.2.length+ds.length<=z15 then .ok (.nx,r.2.set i (some (mkS q.1 (.lst (q.2++ds))))) else .no
theorem QsV {i:Nat}{x:Str}{np apos cpos:Pos}(hK:C.K=X.K)(hN:X.N[i]? = some x)(hv:Vis X.env.scope x)(he:PE X e (tX .O C p E m))(hs:swapsWith (.Call (.Attribute (.Name x np) "extend" apos) [e] [] cpos) none pos.line X.env=pure false:=by rfl)
  (hbase:attributeBase (.Name x np) "extend" X.env (eval (.Name x np) X.env)=eval (.Name x np) X.env:=by rfl) (hfew:((backTo cpos (starEach [e] X.env)).all (fun x=>!x.1) && (backToKw cpos (keywordEach [] X.env)).all (fun x=>x.1.isSome) && decide ([e].length+([]:List Keyword).length+(if([]:List Keyword).isEmpty then 0 else 1)<30))=true:=by rfl)
  (hline:(apos.endLine == cpos.line)=true:=by rfl) (hst:starEach [e] X.env=(false,eval e X.env)::starEach [] X.env:=by rfl) (hplain:(backTo cpos (starEach [] X.env)).any (·.1)=false:=by rfl) (hd:(x == ("__debug__" : Str))=false:=by decide) (hcd:(x == ("__classdict__" : Str))=false:=by decide) :
  PS X (.Expr (.Call (.Attribute (.Name x np) "extend" apos) [e] [] cpos) pos) (tS rk C E (QrW i m)):=
 Ju (Qeb (Qnk zd8 PySem.F.slot_list_extend PySem.F.type_list_extend Qjf (Qar hN hv hd hcd) (Qgw he Qi6 hst) hbase hfew hline hst hplain) hs) fun D σ H ⟨F,ρ,fp,I,h⟩=>by
 obtain⟨q0,e0,h⟩:=h.split.of
 obtain⟨l0,vs0,f0,QgN,ex0,hl0,_⟩:=I.Qc0 (YS e0)
 refine⟨_,ex0,.inl ⟨rfl,vs0,SqL.of hl0⟩,F,ρ,[],fp,I,h.split.run.mono fun r hr F1 H1 fp1 v I1 n1 _=>?_⟩
 obtain⟨q,eq,h2⟩:=hr.split.of
 obtain⟨ft,QjX,ot,pmt,J,t0,tap,tnd⟩:=SI.pop (τ:=[]) I1
 obtain⟨l,vs,f,rest,ex,hl,ol,pm,w,cl⟩:=J.QfO (YS eq)
 have el:l=l0:=by rw[ex0] at ex;cases ex;rfl
 subst el
 obtain⟨d,ρ1⟩:=r
 dsimp only at h2 eq ot J
 obtain⟨ds,ed,h3⟩:=h2.split.of
 obtain rfl:=Qd2 ed
 ·by_cases hz:q.2.length+ds.length<=z15
  ·rw[if_pos hz] at h3
   obtain⟨bb,us,g,rfl,rfl,hb,ob⟩:=ot.QjW
   refine⟨l,bb,vs,us,rfl,rfl,hl,hb,by rw[ol.length,ob.length];exact hz,?_⟩
   refine h3 F1 _ σ _ n1.f (cl (ol.app ob) ?_ fun b hb=>?_)
   ·have QuJ:(g++QjX).Nodup:=(z72.mp (show(bb::(g++QjX)).Nodup from tnd)).2
    have pp:(g++((l::f)++rest)).Perm ((l::(f++g))++rest):=by
     rw[z79]
     intro a
     simp only[z87,zg6]
     lia
    exact pp.nodup_iff.mp ((pm.append_left g).nodup_iff.mp QuJ)
   ·rcases z05.mp hb with z|z
    ·exact⟨J.ap b (pm.mem_iff.mpr (by simp[z])),w b (z08 _ z)⟩
    ·exact⟨tap b (z08 _ z),.inl (t0 b (z08 _ z))⟩
  ·rw[if_neg hz] at h3;exact h3.elim
def QfP (i:Nat)(m mi:ME):MS:=fun ρ=>(m ρ).bind fun r=>(Rs.of (QaZ r.2 i)).bind fun _=>(mi r.2).bind fun s=>(Rs.of (QaZ s.2 i)).bind fun q=>(Rs.of ((asI s.1).bind fun n=>ixN q.2.length n)).bind fun j=>
 .ok (.nx,s.2.set i (some (mkS q.1 (.lst (q.2.set j r.1)))))
theorem QmC {n:Nat}{i:Int}{j:Nat}(h:ixN n i=some j):j<n:=by
 unfold ixN at h
 split at h
 ·split at h
  ·cases h;lia
  ·cases h
 ·split at h
  ·cases h;lia
  ·cases h
theorem QgT {i:Nat}{x:Str}{np spos:Pos}{ix:Expr}(hK:C.K=X.K)(hN:X.N[i]? = some x)(hv:Vis X.env.scope x)(he:PE X e (tX .O C pa E m))(hi:PE X ix (tX kb C pb E mi))(ok:kb.on true=true:=by rfl)
  (hs:swapsWithSole [.Subscript (.Name x np) ix spos] e pos.line X.env=pure false:=by rfl) (hw:swappedStores [.Subscript (.Name x np) ix spos] e X.env=pure none:=by rfl)
  (h1:(assignEach [.Subscript (.Name x np) ix spos] X.env).map (·.2)=[assign (.Subscript (.Name x np) ix spos) X.env]:=by rfl)
  (hg:PG X (.Subscript (.Name x np) ix spos) (L2.Qhg (QrP i) (tX kb C pb E mi) Qnj)) :
  PS X (.Assign [.Subscript (.Name x np) ix spos] e pos) (tS rk C E (QfP i m mi)):=
 Ju (QiW he hg hs hw h1) fun D σ H ⟨F,ρ,fp,I,h⟩=>by
 refine⟨F,ρ,[],fp,I,h.split.run.mono fun r hr F1 H1 fp1 v I1 n1 _=>?_⟩
 obtain⟨q0,e0,hr⟩:=hr.split.of
 obtain⟨l0,vs0,f0,QgN,ex0,hl0,_⟩:=SI.Qc0 I1 (YS e0)
 refine⟨_,ex0,F1,r.2,[(v,r.1)],fp1,I1,hr.split.run.mono fun s hs F2 H2 fp2 iv I2 n2 f2=>?_⟩
 rw[Kd.Vg ok] at I2
 obtain⟨q,eq,h2⟩:=hs.split.of
 obtain⟨j,ej,h3⟩:=h2.split.of
 obtain⟨n,en,ejn⟩:=z28.mp ej
 have riv:=Kd.stay ok f2 .refl I2
 rw[QhJ en] at riv
 obtain rfl:=riv.QW (w:=.int n) rfl
 obtain⟨ft,QjX,ot,pmt,J,t0,tap,tnd⟩:=SI.pop (τ:=[]) I2
 obtain⟨l,vs,f,rest,ex,hl,ol,pm,w,cl⟩:=J.QfO (YS eq)
 have el:l=l0:=by rw[ex0] at ex;cases ex;rfl
 subst el
 have lj:j<q.2.length:=QmC ejn
 obtain⟨f1,fj,f2',v0,d0,rfl,_,_,_,ks⟩:=ol.setAt lj
 refine⟨l,vs,n,j,rfl,rfl,hl,by rw[ol.length];exact ejn,?_⟩
 refine h3 F2 _ σ _ (n1.f.trans n2.f) (cl (ks (Qz.refl _) (fun _ _=>rfl) ot) ?_ fun b hb=>?_)
 ·have big:=(pm.append_left ft).nodup_iff.mp tnd
  have pp:(ft++((l::(f1++(fj++f2')))++rest)).Perm (fj++((l::(f1++(ft++f2')))++rest)):=by
   rw[z79]
   intro a
   simp only[z87,zg6]
   lia
  exact(z09.mp (pp.nodup_iff.mp big)).2.1
 ·simp only[z05] at hb
  rcases hb with z|z|z
  ·exact⟨J.ap b (pm.mem_iff.mpr (by simp[z])),w b (by simp[z])⟩
  ·exact⟨tap b z,.inl (t0 b z)⟩
  ·exact⟨J.ap b (pm.mem_iff.mpr (by simp[z])),w b (by simp[z])⟩
end
section
variable {X:Cx}{C:Cn}{E:XE}{p pa pb:Bool}{e a b c:Expr}{es:List Expr}{m ma mb mi:ME}{pos:Pos}{k rk:Kd}{ks:List Kd}
def QsW (K:z01):R2:=fun x y H Q=>∃l b xs zs,x=.ref l/\y=.ref b/\SqL K H l xs/\SqL K H b zs/\xs.length+zs.length<=z15/\∀p,H p=none->Q (.ref p) (upd H p (.lst (xs++zs)))
theorem QnQ:OpR X (binaryOp .Add) (QsW X.K):=by
 intro pins s σ H x y v u Q I rx ry h
 obtain⟨l,b,xs,zs,rfl,rfl,hH,hB,hz,q⟩:=h
 cases rx
 cases ry
 obtain⟨its,r,pl,z⟩:=I.list hH
 obtain⟨its2,r2,pl2,z2⟩:=I.list hB
 obtain⟨⟨cls,dd,data,sl⟩,n,ho,hc,hdd,hd⟩:=pl
 obtain⟨⟨cls2,dd2,data2,sl2⟩,n2,ho2,hc2,QvK,hd2⟩:=pl2
 cases hc;cases hd;cases hc2;cases hd2
 have hl:=r.length
 have hl2:=r2.length
 refine PySem.concat_meets ⟨_,ho,rfl⟩ ⟨_,ho2,rfl⟩ PySem.noFill_list_add PySem.seq_list_add PySem.F.slot_list_add PySem.F.entry_list_add (PySem.F.args_list_add_2 _ _) (PyProof.Rows.list_addW l b its.toArray its2.toArray n n2 dd dd2 sl sl2 (by rw[z14,z14];lia)) ⟨ho,ho2,?_⟩
 have ea:its.toArray++its2.toArray=(its++its2).toArray:=by simp
 rw[ea]
 exact⟨.ref _,_,I.Quu (t':=s.toks) (r.append r2) (by rw[z16];lia),rfl,q _ I.fresh⟩
def QlQ (ma mb:ME):ME:=fun ρ=>(ma ρ).bind fun r1=>(mb r1.2).bind fun r2=>(Rs.of (asL r1.1)).bind fun xs=>(Rs.of (asL r2.1)).bind fun ys=>if xs.length+ys.length<=z15 then .ok (.lst (xs++ys),r2.2) else .no
def Qqd (ma mb:ME):ME:=fun ρ=>(ma ρ).bind fun r1=>(mb r1.2).bind fun r2=>(Rs.of (asL r1.1)).bind fun xs=>(Rs.of (asL r2.1)).bind fun ys=>if xs.length+ys.length<=z15 then(if D.Jo (xs++ys)=true then .ok (.lst (xs++ys),r2.2) else .no) else .no
theorem Qqe (hK:C.K=X.K)(ha:PE X a (tX .V C pa E ma))(hb:PE X b (tX .V C pb E mb)):PE X (.BinOp a .Add b pos) (tX .V C (pa && pb) E (QlQ ma mb)):=Qv (Qpe QnQ ha hb) fun σ H Q ⟨F,ρ,τ,fp,I,h⟩=>by
 refine⟨F,ρ,τ,fp,I,h.split.mono fun r1 h1 F1 H1 fp1 v1 I1 n1 f1=>?_⟩
 refine⟨F1,r1.2,τ,fp1,I1,h1.split.mono fun r2 h2 F2 H2 fp2 v2 I2 n2 f2=>?_⟩
 obtain⟨xs,e1,h3⟩:=h2.split.of
 obtain⟨ys,e2,h4⟩:=h3.split.of
 have g1:R C.K F2 v1 (.nd .lst xs):=by rw[← Qd2 e1];exact R.same n2.f f1
 have g2:R C.K F2 v2 (.nd .lst ys):=by rw[← Qd2 e2];exact f2
 obtain⟨l1,us,rfl,a1,rl1⟩:=g1.inv
 obtain⟨l2,ws,rfl,a2,rl2⟩:=g2.inv
 by_cases hz:xs.length+ys.length<=z15
 ·rw[if_pos hz] at h4
  refine⟨l1,l2,us,ws,rfl,rfl,hK▸At.same a1 I2.fh,hK▸At.same a2 I2.fh,by rw[rl1.length,rl2.length];exact hz,fun q hq=>?_⟩
  have s:=Qz.upd (o:=HO.lst (us++ws)) (I2.fh.free hq)
  exact h4 _ _ fp2 _ (I2.lay hq) (((n1.trans n2).trans (q:=true) ⟨s,fun _=>QdW I2 hq⟩).weak fun z=>by simpa using z) (.nd (t:=.lst) (.inl (.inl Qy)) ((rl1.app rl2).same s))
 ·rw[if_neg hz] at h4;exact h4.elim
abbrev MO:=Rho->Rs (Option Int×Rho)
def tO (C:Cn)(p:Bool)(E:XE)(m:MO):TO:=fun σ H Q=>∃F ρ τ fp,SI C F H σ ρ τ fp/\Run C E σ (m ρ) fun r=>∀F' H' fp',SI C F' H' σ r.2 τ fp'->Nx p F H fp F' H' fp'->Q r.1 H'
def QrX:MO:=fun ρ=>.ok (none,ρ)
def QrY (m:ME):MO:=fun ρ=>(m ρ).bind fun r=>(Rs.of (asI r.1)).bind fun i=>.ok (some i,r.2)
theorem QjY {e:Option Expr}{t t':TO}(h:PO X e t)(k:∀σ H Q,t' σ H Q->t σ H Q):PO X e t':=fun pins s σ H Q I q=>h pins s σ H Q I (k _ _ _ q)
theorem Qqf:PO X none (tO C true E QrX):=QjY Qng fun σ H Q ⟨F,ρ,τ,fp,I,h⟩=>h F H fp I .refl
theorem QjZ (h:PE X e (tX k C p E m))(ok:k.on true=true:=by rfl):PO X (some e) (tO C p E (QrY m)):=QjY (Qnh h) fun σ H Q ⟨F,ρ,τ,fp,I,h⟩=>by
 refine⟨F,ρ,τ,fp,I,h.split.mono fun r1 h1 F1 H1 fp1 v1 I1 n1 f1=>?_⟩
 rw[Kd.Vg ok] at I1
 obtain⟨i,ei,h2⟩:=h1.split.of
 have rr:=Kd.stay ok f1 .refl I1
 rw[QhJ ei] at rr
 exact⟨i,rr.QW rfl,h2 F1 H1 fp1 I1 n1⟩
def cutD {α:Type}(xs:List α)(lo hi:Option Int):List α:=(xs.drop (HT.sIx xs.length 0 lo)).take (HT.sIx xs.length xs.length hi - HT.sIx xs.length 0 lo)
theorem RL.drop {K:z01}{F:Hp}{vs:List L2.V}{ds:List D}(n:Nat)(r:RL K F vs ds):RL K F (vs.drop n) (ds.drop n):=by
 induction n generalizing vs ds with
 |zero=>exact r
 |succ n ih=>cases r with
  |nil=>exact .nil
  |cons _ r=>exact ih r
theorem RL.take {K:z01}{F:Hp}{vs:List L2.V}{ds:List D}(n:Nat)(r:RL K F vs ds):RL K F (vs.take n) (ds.take n):=by
 induction n generalizing vs ds with
 |zero=>exact .nil
 |succ n ih=>cases r with
  |nil=>exact .nil
  |cons h r=>exact .cons h (ih r)
theorem RL.cut {K:z01}{F:Hp}{vs:List L2.V}{ds:List D}{lo hi:Option Int}(r:RL K F vs ds):RL K F (Qni vs lo hi) (cutD ds lo hi):=by
 unfold Qni cutD
 rw[r.length]
 exact(r.drop _).take _
def QrZ (m:ME)(lo hi:MO):ME:=fun ρ=>(m ρ).bind fun r=>(lo r.2).bind fun l=>(hi l.2).bind fun h=>(Rs.of (asL r.1)).bind fun xs=>.ok (.lst (cutD xs l.1 h.1),h.2)
def Qr0 (m:ME)(lo hi:MO):ME:=fun ρ=>(m ρ).bind fun r=>(lo r.2).bind fun l=>(hi l.2).bind fun h=>(Rs.of (asL r.1)).bind fun xs=>if D.Jo (cutD xs l.1 h.1)=true then .ok (.lst (cutD xs l.1 h.1),h.2) else .no
variable {lo hi:Option Expr}{ml mh:MO}{p2:Pos}
theorem QsX (hK:C.K=X.K)(he:PE X e (tX .V C p E m))(hl:PO X lo (tO C pa E ml))(hu:PO X hi (tO C pb E mh)):PE X (.Subscript e (.Slice lo hi none p2) pos) (tX .V C (p && (pa && pb)) E (QrZ m ml mh)):=Qv (Qhk Qjd he hl hu) fun σ H Q ⟨F,ρ,τ,fp,I,h⟩=>by
 refine⟨F,ρ,τ,fp,I,h.split.mono fun r1 h1 F1 H1 fp1 v1 I1 n1 f1=>?_⟩
 refine⟨F1,r1.2,τ,fp1,I1,h1.split.mono fun r2 h2 F2 H2 fp2 I2 n2=>?_⟩
 refine⟨F2,r2.2,τ,fp2,I2,h2.split.mono fun r3 h3 F3 H3 fp3 I3 n3=>?_⟩
 obtain⟨xs,e1,h4⟩:=h3.split.of
 have g1:R C.K F3 v1 (.nd .lst xs):=by rw[← Qd2 e1];exact R.same (n2.f.trans n3.f) f1
 obtain⟨l1,us,rfl,a1,rl1⟩:=g1.inv
 refine⟨l1,us,rfl,by rw[← hK];exact(At.same a1 I3.fh).sql,fun q hq=>?_⟩
 have s:=Qz.upd (o:=HO.lst (Qni us r2.1 r3.1)) (I3.fh.free hq)
 exact h4 _ _ fp3 _ (I3.lay hq) (((n1.trans (n2.trans n3)).trans (q:=true) ⟨s,fun _=>QdW I3 hq⟩).weak fun z=>by simpa using z) (.nd (t:=.lst) (.inl (.inl Qy)) (rl1.cut.same s))
theorem QsY (hK:C.K=X.K)(he:PE X e (tX k C p E m))(hl:PO X lo (tO C pa E ml))(hu:PO X hi (tO C pb E mh))(ok:k.on (pa && pb)=true:=by rfl):PE X (.Subscript e (.Slice lo hi none p2) pos) (tX .O C (p && (pa && pb)) E (Qr0 m ml mh)):=Qv (Qhk Qjd he hl hu) fun σ H Q ⟨F,ρ,τ,fp,I,h⟩=>by
 refine⟨F,ρ,τ,fp,I,h.split.mono fun r1 h1 F1 H1 fp1 v1 I1 n1 f1=>?_⟩
 rw[Kd.Vg ok] at I1
 refine⟨F1,r1.2,τ,fp1,I1,h1.split.mono fun r2 h2 F2 H2 fp2 I2 n2=>?_⟩
 refine⟨F2,r2.2,τ,fp2,I2,h2.split.mono fun r3 h3 F3 H3 fp3 I3 n3=>?_⟩
 obtain⟨xs,e1,h4⟩:=h3.split.of
 have g1:R C.K (jn F3 H3 fp3) v1 (.nd .lst xs):=by rw[← Qd2 e1];exact Kd.stay ok f1 (n2.trans n3) I3
 obtain⟨l1,us,rfl,a1,rl1⟩:=g1.inv
 refine⟨l1,us,rfl,by rw[← hK];exact(At.same a1 (Qap I3.fh)).sql,fun q hq=>?_⟩
 by_cases hi:D.Jo (cutD xs r2.1 r3.1)=true
 ·rw[if_pos hi] at h4
  exact h4 _ _ _ _ (I3.newList hq (I3.loL rl1.cut hi) hi) (((n1.trans (n2.trans n3)).trans (q:=true) ⟨Qz.refl _,fun _=>QfB I3 hq⟩).weak fun z=>by simpa using z) z58
 ·rw[if_neg hi] at h4;exact h4.elim
def QuK:D->Option Key
 |.int i=>some (.inl i)
 |.str s=>some (.inr s)
 |_=>none
def Qqg:List D->Option (List Key)
 | []=>some []
 |d::ds=>(QuK d).bind fun k=>(Qqg ds).map (k::·)
def Qqh:D->Option (List Key)
 |.nd .tup ds=>Qqg ds
 |_=>none
theorem Qj0 {K:z01}{F:Hp}:∀{vs:List L2.V} {ds:List D} {ks:List Key},RL K F vs ds->Qqg ds=some ks->vs=ks.map kV
 |_,_,_,.nil,e=>by unfold Qqg at e;cases e;rfl
 |_,_,_,.cons (d:=d) h r,e=>by
  unfold Qqg at e
  obtain⟨k,h1,h2⟩:=z28.mp e
  obtain⟨ks,h3,rfl⟩:=z03.mp h2
  rw[z31,← Qj0 r h3]
  cases d with
  |int i=>cases h1;rw[h.QW (w:=.int i) rfl];rfl
  |str z=>cases h1;rw[h.QW (w:=.str z) rfl];rfl
  |_=>cases h1
theorem QmD {K:z01}{F:Hp}{v:L2.V}{d:D}{ks:List Key}(r:R K F v d)(e:Qqh d=some ks):∃b,v=.ref b/\F b=some (.tup (ks.map kV)):=by
 unfold Qqh at e
 split at e
 ·obtain⟨a,vs,rfl,h1,h2⟩:=r.inv
  have ev:=Qj0 h2 e
  subst ev
  exact⟨a,rfl,h1⟩
 ·cases e
def Qqi:ME:=fun ρ=>.ok (.nd (.dT []) [],ρ)
theorem QnR:PE X (.Dict [] [] pos) (tX .O C true E Qqi):=Qv Qll fun σ H Q ⟨F,ρ,τ,fp,I,h⟩=>fun q hq=>by
 have J:=I.lay0 (o:=.dT []) hq
 have nq:q∉fp:=fun z=>by
  obtain⟨o,e,_⟩:=I.mem q z
  rw[hq] at e;cases e
 refine h F _ _ (.ref q) (J.push (f:=[q]) (.mt (t:=.dT []) (vs:=[]) ⟨rfl,Qy⟩ .nil) (fun a ha=>?_) (fun a ha=>?_) (z09.mpr ⟨by simp,I.nd,fun x hx y hy z=>?_⟩)) ⟨Qz.refl _,fun _=>QfB I hq⟩ z58
 ·rw[z25.mp ha];exact I.dm q hq
 ·rw[z25.mp ha];exact I.fh.free hq
 ·subst z;rw[z25.mp hx] at hy;exact nq hy
def QmE (ρ:Rho)(i:Nat):Option (Bool×List (List Key)×List D):=match ρ[i]? with
 |some (some (.own (.nd (.dT ks) ds)))=>some (false,ks,ds)
 |some (some (.par (.nd (.dT ks) ds)))=>some (true,ks,ds)
 |_=>none
theorem Qj1 {ρ:Rho}{i:Nat}{q:Bool×List (List Key)×List D}(h:QmE ρ i=some q):ρ[i]? = some (some (mkS q.1 (.nd (.dT q.2.1) q.2.2))):=by
 unfold QmE at h
 split at h
 ·next e=>cases h;exact e
 ·next e=>cases h;exact e
 ·cases h
def putD {κ:Type}[DecidableEq κ](ks:List κ)(ds:List D)(k:κ)(d:D):List κ×List D:=if(ks.any fun x=>decide (x=k))=true then(ks,zb9 (fun x y=>if x=k then d else y) ks ds) else(ks++[k],ds++[d])
theorem QgU {κ:Type}[DecidableEq κ]{k:κ}:∀{ks:List κ} {vs:List V},ks.length=vs.length->((ks.zip vs).any fun kv=>decide (kv.1=k))=ks.any fun x=>decide (x=k)
 | [],[],_=>rfl
 | [],_::_,h=>by cases h
 |_::_,[],h=>by cases h
 |x::ks,v::vs,h=>by rw[z89,ze5,ze5,QgU (by simpa using h)]
theorem QhK {κ:Type}[DecidableEq κ]{k:κ}{v:V}:∀{ks:List κ} {vs:List V},ks.length=vs.length->(ks.zip vs).map (fun kv=>if kv.1=k then(kv.1,v) else kv)=ks.zip (zb9 (fun x y=>if x=k then v else y) ks vs)
 | [],[],_=>rfl
 | [],_::_,h=>by cases h
 |_::_,[],h=>by cases h
 |x::ks,y::vs,h=>by
  rw[z89,z31,za7,z89,QhK (by simpa using h)]
  by_cases e:x=k
  ·simp[e]
  ·simp[e]
theorem QgV {κ:Type}[DecidableEq κ]{K:z01}{F:Hp}{k:κ}{v:L2.V}{d:D}(hv:R K F v d):∀{ks:List κ} {vs:List L2.V} {ds:List D},RL K F vs ds->RL K F (zb9 (fun x y=>if x=k then v else y) ks vs) (zb9 (fun x y=>if x=k then d else y) ks ds)
 | [],_,_,.nil=>.nil
 | [],_,_,.cons _ _=>.nil
 |_::_,_,_,.nil=>.nil
 |x::ks,_,_,.cons h r=>by
  rw[za7,za7]
  by_cases e:x=k
  ·rw[if_pos e,if_pos e];exact .cons hv (QgV hv r)
  ·rw[if_neg e,if_neg e];exact .cons h (QgV hv r)
theorem QfQ {κ:Type}[DecidableEq κ]{k:κ}{d:D}(hd:d.imm=true):∀{ks:List κ} {ds:List D},D.Jo ds=true->D.Jo (zb9 (fun x y=>if x=k then d else y) ks ds)=true
 | [],_,_=>rfl
 |_::_,[],_=>rfl
 |x::ks,y::ds,h=>by
  obtain⟨h1,h2⟩:=YJ h
  rw[za7,D.Jo,z99]
  refine⟨?_,QfQ hd h2⟩
  by_cases e:x=k
  ·rw[if_pos e];exact hd
  ·rw[if_neg e];exact h1
theorem OL.rl {K:z01}{F H:Hp}{vs:List L2.V}{ds:List D}{f:List Addr}(o:OL K F H vs ds f)(hi:D.Jo ds=true):RL K F vs ds:=by
 have e:=o.QrT hi
 subst e
 exact o.r (Qz.refl F) (fun _ z=>nomatch z)
theorem SI.Qqj {F H:Hp}{σ:L2.St}{ρ:Rho}{τ:List (L2.V×D)}{fp:List Addr}{i:Nat}{par:Bool}{t:Tag}{ds:List D}(I:SI C F H σ ρ τ fp)(mt:t.mut=true)(es:ρ[i]? = some (some (mkS par (.nd t ds)))):∃l vs f rest,σ[i]? = some (some (.ref l))/\Mt H l t vs/\OL C.K F H vs ds f/\fp.Perm ((l::f)++rest)/\(∀b∈l::f,VX C par b)/\
  ∀{o:HO} {t':Tag} {vs':List L2.V} {ds':List D} {f':List Addr},Mt (upd H l o) l t' vs'->OL C.K F H vs' ds' f'->((l::f')++rest).Nodup->(∀b∈f',F b=none/\VX C par b)->SI C F (upd H l o) σ (ρ.set i (some (mkS par (.nd t' ds')))) τ ((l::f')++rest):=by
 obtain⟨x,f0,g0,rest,ex,s1,pm,w0,w1,cl⟩:=I.cut es
 obtain⟨v,fi,ev,ho,efi,wfi⟩:∃v fi,x=some v/\O C.K F H v (.nd t ds) fi/\f0++g0=fi/\∀a∈fi,VX C par a:=by
  cases par with
  |false=>cases s1 with|own h=>exact⟨_,_,rfl,h,by simp,fun a ha=>.inl (w0 a ha)⟩
  |true=>cases s1 with|par h=>exact⟨_,_,rfl,h,rfl,fun a ha=>(w1 a ha).elim (fun z=>.inr ⟨rfl,z⟩) fun z=>.inl z⟩
 subst ev
 cases ho with
 |sc e=>cases e
 |im m h r=>rw[mt] at m;cases m
 | @mt l _ vs _ g hl ol=>
  have pm':fp.Perm ((l::g)++rest):=by rw[← efi,z20];exact pm
  have ndp:=pm'.nodup_iff.mp I.nd
  refine⟨l,vs,g,rest,ex,hl,ol,pm',wfi,fun{o t' vs' ds' f'} hl' ol' nd fr=>?_⟩
  have nl:∀{b:Addr},b∈f'\/b∈rest->b≠l:=fun{b} hb z=>by
   subst z
   have:=(z72.mp (show(b::(f'++rest)).Nodup from nd)).1
   exact this (z05.mpr hb)
  have kp:∀b o',H b=some o'->b∉l::g->upd H l o b=some o':=fun b o' e n=>(Qp (by intro z;subst z;exact n z07)).trans e
  have dm:∀b,upd H l o b=none->H b=none:=fun b e=>by
   by_cases hb:b=l
   ·subst hb;rw[Qy] at e;cases e
   ·rw[Qp hb] at e;exact e
  have hF:Qz F (upd H l o):=fun b o' e=>by
   refine kp b o' (I.fh b o' e) fun z=>?_
   have:=I.ap b (pm'.mem_iff.mpr (z06 _ z))
   rw[e] at this;cases this
  have nop:∀b,C.H₀ b≠none->b∉C.A->b∉l::g:=fun b h1 h2 z=>by
   rcases wfi b z with y|y
   ·exact h1 y
   ·exact h2 y.2
  have apn:∀b∈(l::f')++rest,F b=none:=fun b hb=>by
   rcases z05.mp hb with z|z
   ·rcases z13.mp z with rfl|z
    ·exact I.ap _ (pm'.mem_iff.mpr (by simp))
    ·exact(fr b z).1
   ·exact I.ap b (pm'.mem_iff.mpr (z02 _ z))
  have frn:∀b∈l::f',VX C par b:=fun b hb=>by
   rcases z13.mp hb with rfl|z
   ·exact wfi _ z07
   ·exact(fr b z).2
  have on:=ol'.keep (Qz.refl _) (H':=upd H l o) fun b hb=>Qp (nl (.inl hb))
  cases par with
  |false=>
   have J:=cl (F':=F) (H':=upd H l o) (x':=some (.ref l)) (s':=some (.own (.nd t' ds'))) (f0':=l::f') (g0':=[]) (Qz.refl F) hF (fun b hb=>Qp (nl (.inr hb))) dm (fun b o' e n z=>kp b o' z (nop b (by rw[e];simp) n)) (fun _ _ z=>.inl z) (.own (.mt hl' on)) nd apn (fun b hb=>(frn b hb).resolve_right fun z=>nomatch z.1) (fun _ z=>nomatch z) (fun v hv=>by
    obtain⟨_,d',z⟩:=I.pr _ _ hv
    rw[es] at z;cases z)
   rw[JS ex] at J
   exact J
  |true=>
   have J:=cl (F':=F) (H':=upd H l o) (x':=some (.ref l)) (s':=some (.par (.nd t' ds'))) (f0':=[]) (g0':=l::f') (Qz.refl F) hF (fun b hb=>Qp (nl (.inr hb))) dm (fun b o' e n z=>kp b o' z (nop b (by rw[e];simp) n)) (fun _ _ z=>.inl z) (.par (.mt hl' on)) nd apn (fun _ z=>nomatch z) (fun b hb=>(frn b hb).elim (fun z=>.inr z) fun z=>.inl z.2) (fun v hv=>⟨by
    obtain⟨z,_⟩:=I.pr _ _ hv
    rw[ex] at z;exact z22 z,_,rfl⟩)
   rw[JS ex] at J
   exact J
def QlR (i:Nat)(mv mk:ME):MS:=fun ρ=>(mv ρ).bind fun r=>(Rs.of (QmE r.2 i)).bind fun _=>(mk r.2).bind fun s=>(Rs.of (QmE s.2 i)).bind fun q=>(Rs.of (Qqh s.1)).bind fun k=>
 if q.2.1.length<z15 then(if(r.1.imm && D.Jo q.2.2)=true then .ok (.nx,s.2.set i (some (mkS q.1 (.nd (.dT (putD q.2.1 q.2.2 k r.1).1) (putD q.2.1 q.2.2 k r.1).2)))) else .no) else .no
theorem Qqk {i:Nat}{x:Str}{np spos:Pos}{ix:Expr}(hu:X.A.units+1<cLine)(hN:X.N[i]? = some x)(hv:Vis X.env.scope x)(he:PE X e (tX .V C pa E m))(hi:PE X ix (tX .V C pb E mi))(hs:swapsWith e (some (.Subscript (.Name x np) ix spos)) pos.line X.env=pure false:=by rfl)(hd:(x == ("__debug__" : Str))=false:=by decide)(hcd:(x == ("__classdict__" : Str))=false:=by decide) :
  PS X (.Assign [.Subscript (.Name x np) ix spos] e pos) (tS rk C E (QlR i m mi)):=Ju (Qnd hu (Qar hN hv hd hcd) hi he hs) fun DD σ H ⟨F,ρ,fp,I,h⟩=>by
 refine⟨F,ρ,[],fp,I,h.split.run.mono fun r hr F1 H1 fp1 v I1 n1 f1=>?_⟩
 obtain⟨q0,e0,hr⟩:=hr.split.of
 obtain⟨l0,vs0,g0,QgN,ex0,hl0,_⟩:=SI.Qqj I1 rfl (Qj1 e0)
 refine⟨_,ex0,F1,r.2,[],fp1,I1,hr.split.run.mono fun s hs F2 H2 fp2 kv I2 n2 f2=>?_⟩
 obtain⟨q,eq,h2⟩:=hs.split.of
 obtain⟨key,ek,h3⟩:=h2.split.of
 obtain⟨l,vs,f,rest,ex,hl,ol,pm,w,cl⟩:=SI.Qqj I2 rfl (Qj1 eq)
 have el:l=l0:=by rw[ex0] at ex;cases ex;rfl
 subst el
 by_cases hz:q.2.1.length<z15
 ·rw[if_pos hz] at h3
  by_cases hi:(r.1.imm && D.Jo q.2.2)=true
  ·rw[if_pos hi] at h3
   obtain⟨i1,i2⟩:=z66.mp hi
   obtain⟨bb,rfl,hb⟩:=QmD f2 ek
   have rl:=ol.rl i2
   have rv:R C.K F2 v r.1:=R.same n2.f f1
   have ef:f=[]:=ol.QrT i2
   subst ef
   have lv:q.2.1.length=vs.length:=hl.1
   have hkv:(q.2.1.zip vs).length<z15:=by rw[List.length_zip,← lv,Nat.min_self];exact hz
   refine⟨l,_,rfl,Qpm.t hl.2 (I2.fh _ _ hb) hkv,?_⟩
   have fin:∀{vs':List L2.V},putK (q.2.1.zip vs) key v=(putD q.2.1 q.2.2 key r.1).1.zip vs'->(putD q.2.1 q.2.2 key r.1).1.length=vs'.length->RL C.K F2 vs' (putD q.2.1 q.2.2 key r.1).2->D.Jo (putD q.2.1 q.2.2 key r.1).2=true->DD.nx σ (upd H2 l (.dT (putK (q.2.1.zip vs) key v))):=fun{vs'} e1 e2 r' hi'=>by
    rw[e1]
    exact h3 F2 _ σ _ (n1.f.trans n2.f) (cl (t':=.dT _) (vs':=vs') ⟨e2,Qy⟩ (r'.o hi') (pm.nodup_iff.mp I2.nd) (fun _ z=>nomatch z))
   unfold putD at fin
   by_cases c:(q.2.1.any fun x=>decide (x=key))=true
   ·rw[if_pos c] at fin
    refine fin (vs':=zb9 (fun x y=>if x=key then v else y) q.2.1 vs) ?_ (by rw[List.length_zipWith,← lv,Nat.min_self]) (QgV rv rl) (QfQ i1 i2)
    unfold putK
    rw[QgU lv,if_pos c,QhK lv]
   ·rw[if_neg c] at fin
    refine fin (vs':=vs++[v]) ?_ (by simp[lv]) (rl.app (.cons rv .nil)) (QlF i2 (QcQ fun d hd=>by rw[z25.mp hd];exact i1))
    unfold putK
    rw[QgU lv,if_neg c,List.zip_append lv]
    rfl
  ·rw[if_neg hi] at h3;exact h3.elim
 ·rw[if_neg hz] at h3;exact h3.elim
end
section
variable {P:Program}{w:World}{K:z01}{mg:Str->Option Value}{base:Heap}{N:List Str}{qual:Str}{scope:Scope}{f:Addr}{cd:Value}{A:Around}{outer:List Env}{s:Shared}{H:Hp}{E:XK}
theorem Qj:Qbz (Qib (CXe P w) P w K mg base N qual scope f cd A outer s H E) (fun _=>E):=fun pins σ H1 s1 e s' I h=>Qsv pins σ H1 s1 e s' I h
end
section
variable {X:Cx}{C:Cn}{E:XE}
variable {e:Expr}{es:List Expr}{mr:MA}{p:Bool}{pos:Pos}{ks:List Kd}
def QbC:List Kd->List D->Rho->Option (List D×Rho)
 | [],_,ρ=>some ([],ρ)
 |.O::ks,d::ds,ρ=>(QbC ks ds ρ).map fun q=>(d::q.1,q.2)
 |.S i::ks,_::ds,ρ=>(QbC ks ds ρ).bind fun q=>match q.2[i]? with
  |some (some (.own d))=>some (d::q.1,q.2.set i none)
  |_=>none
 |_,_,_=>none
theorem SI.QnS {F H:Hp}{σ:L2.St}{ρ:Rho}{τ:List (L2.V×D)}{fp:List Addr}{i:Nat}{d:D}(I:SI C F H σ ρ τ fp)(es:ρ[i]? = some (some (.own d))):∃v f rest,σ[i]? = some (some v)/\O C.K F H v d f/\fp.Perm (f++rest)/\SI C F H σ (ρ.set i none) τ rest/\(∀a∈f,C.H₀ a=none)/\(∀a∈f,F a=none):=by
 obtain⟨y,f0,g0,rest,ey,s1,pm,w0,w1,cl⟩:=I.cut es
 cases s1 with
 | @own v _ f h=>
  have nd:=pm.nodup_iff.mp I.nd
  have q:=cl (F':=F) (H':=H) (x':=some v) (s':=none) (f0':=[]) (g0':=[]) (Qz.refl _) I.fh (fun _ _=>rfl) (fun _ z=>z) (fun _ _ _ _ z=>z) (fun b o e=>.inl e) .non (z09.mp nd).2.1 (fun a ha=>I.ap a (pm.mem_iff.mpr (z02 _ ha))) (fun _ z=>nomatch z) (fun _ z=>nomatch z) (fun v' hv=>by
   obtain⟨_,d',z⟩:=I.pr _ _ hv
   rw[es] at z;cases z)
  rw[JS ey] at q
  exact⟨v,f0,_,ey,h,pm,q,w0,fun a ha=>I.ap a (pm.mem_iff.mpr (z06 _ ha))⟩
theorem collect {F H:Hp}{σ:L2.St}:∀{ks:List Kd} {vs:List L2.V} {ds ds':List D} {ρ ρ':Rho} {τ:List (L2.V×D)} {fp fp0:List Addr},FcL C F H fp0 σ ks vs ds->SI C F H σ ρ (tkL ks vs ds τ) fp->QbC ks ds ρ=some (ds',ρ')->∃f rest,OL C.K F H vs ds' f/\fp.Perm (f++rest)/\SI C F H σ ρ' τ rest/\(∀a∈f,C.H₀ a=none)/\(∀a∈f,F a=none)
 | [],_,_,ds',ρ,ρ',τ,fp,fp0,.nil,I,h=>by
  unfold QbC at h
  cases h
  unfold tkL at I
  exact⟨[],fp,.nil,.refl _,I,(fun _ z=>nomatch z),fun _ z=>nomatch z⟩
 |.O::ks,_,_,ds',ρ,ρ',τ,fp,fp0,.cons (v:=v) (d:=d) h0 r,I,h=>by
  unfold QbC at h
  obtain⟨q,hq,e⟩:=z03.mp h
  cases e
  unfold tkL at I
  obtain⟨f,rest,ol,pm,J,w1,w2⟩:=collect r I (show QbC ks _ ρ=some (q.1,q.2) from hq)
  obtain⟨g,QdC,og,pm2,J2,g1,g2,_⟩:=SI.pop (τ:=τ) (v:=v) (d:=d) J
  refine⟨g++f,QdC,.cons og ol,?_,J2,fun a ha=>(z05.mp ha).elim (g1 a) (w1 a),fun a ha=>(z05.mp ha).elim (g2 a) (w2 a)⟩
  refine pm.trans ((pm2.append_left f).trans ?_)
  rw[z79]
  intro a
  simp only[z87]
  lia
 |.S i::ks,_,_,ds',ρ,ρ',τ,fp,fp0,.cons (v:=v) (d:=d) h0 r,I,h=>by
  unfold QbC at h
  obtain⟨q,hq,e⟩:=z28.mp h
  unfold tkL at I
  obtain⟨f,rest,ol,pm,J,w1,w2⟩:=collect r I (show QbC ks _ ρ=some (q.1,q.2) from hq)
  split at e
  ·next d0 ed=>
   cases e
   obtain⟨v',g,QdC,ev,og,pm2,J2,g1,g2⟩:=SI.QnS (τ:=τ) J ed
   have:v'=v:=z22 (z22 (ev.symm.trans h0))
   subst this
   refine⟨g++f,QdC,.cons og ol,?_,J2,fun a ha=>(z05.mp ha).elim (g1 a) (w1 a),fun a ha=>(z05.mp ha).elim (g2 a) (w2 a)⟩
   refine pm.trans ((pm2.append_left f).trans ?_)
   rw[z79]
   intro a
   simp only[z87]
   lia
  ·cases e
 |.V::ks,_,_,ds',ρ,ρ',τ,fp,fp0,.cons h0 r,I,h=>by unfold QbC at h;cases h
 |.B::ks,_,_,ds',ρ,ρ',τ,fp,fp0,.cons h0 r,I,h=>by unfold QbC at h;cases h
def QnT (ks:List Kd)(mr:MA):ME:=fun ρ=>(mr ρ).bind fun r=>(Rs.of (QbC ks r.1 r.2)).bind fun q=>if q.1.length<=z15 then .ok (.tup q.1,q.2) else .no
theorem Qql {x1:Nat}(h:PA X es (tA ks C p E mr)):PE X (.Tuple es x1 pos) (tX .O C false E (QnT ks mr)):=Qv (Qmk h) fun σ H Q ⟨F,ρ,τ,fp,I,h⟩=>by
 refine⟨F,ρ,τ,fp,I,h.split.mono fun r1 h1 F1 H1 fp1 vs I1 n1 f1=>?_⟩
 obtain⟨q,eq,h2⟩:=h1.split.of
 obtain⟨f,rest,ol,pm,J,w1,w2⟩:=collect f1 I1 (show QbC ks r1.1 r1.2=some (q.1,q.2) from eq)
 by_cases hz:q.1.length<=z15
 ·rw[if_pos hz] at h2
  refine⟨by rw[ol.length];exact hz,fun t ht=>?_⟩
  have J2:=J.lay (o:=.tup vs) ht
  have nd:=pm.nodup_iff.mp I1.nd
  have s:=Qz.upd (o:=HO.tup vs) (I1.fh.free ht)
  have nt:∀a∈f,a≠t:=fun a ha=>by
   obtain⟨o,e,_⟩:=ol.mem a ha
   exact QL e ht
  have ol2:=ol.keep s (H':=upd H1 t (.tup vs)) fun a ha=>Qp (nt a ha)
  exact h2 _ _ _ (.ref t) (J2.push (.im (t:=.tup) rfl Qy ol2) w1 (fun a ha=>by rw[Qp (nt a ha)];exact w2 a ha) nd) ⟨n1.f.trans s,fun z=>nomatch z⟩ z58
 ·rw[if_neg hz] at h2;exact h2.elim
end
section
variable {X:Cx}{C:Cn}{E:XE}{p pa pb pc:Bool}{e a b c ixa ixb:Expr}{es:List Expr}{m ma mb mi:ME}{pos:Pos}{k ka kb rk:Kd}{ks:List Kd}
theorem SI.Qqm {F H:Hp}{σ:L2.St}{ρ:Rho}{τ:List (L2.V×D)}{fp:List Addr}{i n:Nat}{par:Bool}{ds xs:List D}(I:SI C F H σ ρ τ fp)(es:ρ[i]? = some (some (mkS par (.lst ds))))(hx:ds[n]? = some (.nd .lst xs)):∃l vs l2 us f1 g f2 rest,σ[i]? = some (some (.ref l))/\H l=some (.lst vs)/\vs.length=ds.length/\vs[n]? = some (.ref l2)/\H l2=some (.lst us)/\OL C.K F H us xs g/\fp.Perm ((l::(f1++((l2::g)++f2)))++rest)/\(∀b∈g,VX C par b)/\
  ∀{us':List L2.V} {xs':List D} {g':List Addr},OL C.K F H us' xs' g'->((l::(f1++((l2::g')++f2)))++rest).Nodup->(∀b∈g',F b=none/\VX C par b)->SI C F (upd H l2 (.lst us')) σ (ρ.set i (some (mkS par (.lst (ds.set n (.lst xs')))))) τ ((l::(f1++((l2::g')++f2)))++rest):=by
 obtain⟨l,vs,f,rest,ex,hl,ol,pm,w,cl⟩:=I.Qc0 es
 have ln:n<ds.length:=(z26.mp hx).1
 obtain⟨f1,fj,f2,v0,d0,rfl,e1,e2,oj,ks⟩:=ol.setAt ln
 rw[hx] at e2
 cases e2
 obtain⟨l2,us,g,rfl,rfl,hl2,og⟩:=oj.QjW
 refine⟨l,vs,l2,us,f1,g,f2,rest,ex,hl,ol.length,e1,hl2,og,pm,fun b hb=>w b (by simp[hb]),fun{us' xs' g'} og' nd fr=>?_⟩
 have nd1:(l2::(l::(f1++(g'++f2))++rest)).Nodup:=by
  have pp:((l::(f1++((l2::g')++f2)))++rest).Perm (l2::(l::(f1++(g'++f2))++rest)):=by
   rw[z79]
   intro a
   simp only[z87,zg6]
   lia
  exact pp.nodup_iff.mp nd
 have nl:∀{b:Addr},b=l\/b∈f1\/b∈g'\/b∈f2\/b∈rest->b≠l2:=fun{b} hb z=>by
  subst z
  exact(z72.mp nd1).1 (by simp only[z05,z13];rcases hb with z|z|z|z|z<;>simp[z])
 have QuL:O C.K F (upd H l2 (.lst us')) (.ref l2) (.lst xs') (l2::g'):=.mt (t:=.lst) (show upd H l2 (.lst us') l2=some (.lst us') from Qy) (og'.keep (Qz.refl _) fun b hb=>Qp (nl (.inr (.inr (.inl hb)))))
 have oln:=ks (Qz.refl F) (H':=upd H l2 (.lst us')) (fun b hb=>Qp (nl (by rcases z05.mp hb with z|z;exact .inr (.inl z);exact .inr (.inr (.inr (.inl z)))))) QuL
 rw[JS e1] at oln
 refine cl (vs':=vs) ((Qp (nl (.inl rfl))).trans hl) oln (fun b hb=>Qp (nl (.inr (.inr (.inr (.inr hb)))))) (fun b o e n'=>(Qp (by intro z;subst z;exact n' (by simp))).trans e) (fun b e=>?_) nd fun b hb=>?_
 ·by_cases hb:b=l2
  ·subst hb;rw[Qy] at e;cases e
  ·rw[Qp hb] at e;exact e
 ·simp only[z05,z13] at hb
  have inn:∀{b:Addr},b∈l::(f1++((l2::g)++f2))->F b=none/\VX C par b:=fun{b} z=>⟨I.ap b (pm.mem_iff.mpr (z06 _ z)),w b z⟩
  rcases hb with z|(z|z)|z
  ·exact inn (by simp[z])
  ·exact inn (by simp[z])
  ·exact fr b z
  ·exact inn (by simp[z])
def VZ (i:Nat)(m mi mj:ME):MS:=fun ρ=>(m ρ).bind fun r=>(Rs.of (QaZ r.2 i)).bind fun _=>(mi r.2).bind fun s=>(Rs.of (QaZ s.2 i)).bind fun q=>(Rs.of ((asI s.1).bind fun n=>ixN q.2.length n)).bind fun n=>(Rs.of ((q.2[n]?).bind asL)).bind fun _=>
 (mj s.2).bind fun t=>(Rs.of (QaZ t.2 i)).bind fun q'=>(Rs.of ((q'.2[n]?).bind asL)).bind fun xs=>(Rs.of ((asI t.1).bind fun k=>ixN xs.length k)).bind fun k=>.ok (.nx,t.2.set i (some (mkS q'.1 (.lst (q'.2.set n (.lst (xs.set k r.1)))))))
theorem Qj2 {ds xs:List D}{n:Nat}(h:(ds[n]?).bind asL=some xs):ds[n]? = some (.nd .lst xs):=by
 obtain⟨d,e1,e2⟩:=z28.mp h
 rw[e1,Qd2 e2]
theorem QbD {i:Nat}{x:Str}{np sp1 sp2:Pos}(hK:C.K=X.K)(he:PE X e (tX .O C pa E m))
  (hs:swapsWithSole [.Subscript (.Subscript (.Name x np) ixa sp1) ixb sp2] e pos.line X.env=pure false:=by rfl) (hw:swappedStores [.Subscript (.Subscript (.Name x np) ixa sp1) ixb sp2] e X.env=pure none:=by rfl)
  (h1:(assignEach [.Subscript (.Subscript (.Name x np) ixa sp1) ixb sp2] X.env).map (·.2)=[assign (.Subscript (.Subscript (.Name x np) ixa sp1) ixb sp2) X.env]:=by rfl)
  (hg:PG X (.Subscript (.Subscript (.Name x np) ixa sp1) ixb sp2) (L2.Qhg (tOp (Qsq X.K) (QrP i) (tX ka C pb E ma)) (tX kb C true E mb) Qnj)) (ok:ka.on true=true:=by rfl) (ok2:kb.on true=true:=by rfl) :
  PS X (.Assign [.Subscript (.Subscript (.Name x np) ixa sp1) ixb sp2] e pos) (tS rk C E (VZ i m ma mb)):=
 Ju (QiW he hg hs hw h1) fun DD σ H ⟨F,ρ,fp,I,h⟩=>by
 refine⟨F,ρ,[],fp,I,h.split.run.mono fun r hr F1 H1 fp1 v I1 n1 _=>?_⟩
 obtain⟨q0,e0,hr⟩:=hr.split.of
 obtain⟨l0,vs0,f0,QgN,ex0,hl0,_⟩:=SI.Qc0 I1 (YS e0)
 refine⟨_,ex0,F1,r.2,[(v,r.1)],fp1,I1,hr.split.run.mono fun s hs F2 H2 fp2 iv I2 n2 f2=>?_⟩
 rw[Kd.Vg ok] at I2
 obtain⟨q,eq,h2⟩:=hs.split.of
 obtain⟨n,ej,h3⟩:=h2.split.of
 obtain⟨nn,en,ejn⟩:=z28.mp ej
 have riv:=Kd.stay ok f2 .refl I2
 rw[QhJ en] at riv
 obtain rfl:=riv.QW (w:=.int nn) rfl
 obtain⟨xs0,exs,h3⟩:=h3.split.of
 obtain⟨l,vs,l2,us,f1',g',f2',rest',ex,hl,lv,hv2,hl2,_,pm2,_⟩:=I2.Qqm (YS eq) (Qj2 exs)
 have el:l=l0:=by rw[ex0] at ex;cases ex;rfl
 subst el
 have atv:atI vs nn=some (.ref l2):=by unfold atI;rw[lv,ejn];exact hv2
 refine⟨l,vs,nn,_,rfl,rfl,SqL.of hl,atv,F2,s.2,[(v,r.1)],fp2,I2,h3.split.run.mono fun t ht F3 H3 fp3 jv I3 n3 f3=>?_⟩
 rw[Kd.Vg ok2] at I3
 obtain⟨q',eq',h4⟩:=ht.split.of
 obtain⟨xs,QuM,h5⟩:=h4.split.of
 obtain⟨k,ek,h6⟩:=h5.split.of
 obtain⟨kk,ekk,ekn⟩:=z28.mp ek
 have rjv:=Kd.stay ok2 f3 .refl I3
 rw[QhJ ekk] at rjv
 obtain rfl:=rjv.QW (w:=.int kk) rfl
 obtain⟨ft,QjX,ot,pmt,J,t0,tap,tnd⟩:=SI.pop (τ:=[]) I3
 obtain⟨l',vs',l2',us',f1,g,f2,rest,ex',hl',lv',Qt1,hl2',og,pm,wg,cl⟩:=J.Qqm (YS eq') (Qj2 QuM)
 have el:l'=l:=by rw[ex0] at ex';cases ex';rfl
 subst el
 -- the outer list is the same
 have same:H3 l'=some (.lst vs):=by
  have z:=n3.g rfl l' (.lst vs) (by rw[VS (pm2.mem_iff.mpr (by simp))];exact hl)
  exact Qap I3.fh l' _ z
 have evs:vs'=vs:=by rw[hl'] at same;cases same;rfl
 subst evs
 have el2:l2'=l2:=by rw[hv2] at Qt1;cases Qt1;rfl
 subst el2
 have lk:=QmC ekn
 obtain⟨g1,gk,g2,v0,d0,rfl,_,_,_,ks⟩:=og.setAt lk
 refine⟨l2',us',kk,k,rfl,rfl,hl2',by rw[og.length];exact ekn,?_⟩
 refine h6 F3 _ σ _ ((n1.f.trans n2.f).trans n3.f) (cl (ks (Qz.refl _) (fun _ _=>rfl) ot) ?_ fun b hb=>?_)
 ·have big:=(pm.append_left ft).nodup_iff.mp tnd
  have pp:(ft++((l'::(f1++((l2'::(g1++(gk++g2)))++f2)))++rest)).Perm (gk++((l'::(f1++((l2'::(g1++(ft++g2)))++f2)))++rest)):=by
   rw[z79]
   intro a
   simp only[z87,zg6]
   lia
  exact(z09.mp (pp.nodup_iff.mp big)).2.1
 ·simp only[z05] at hb
  rcases hb with z|z|z
  ·exact⟨J.ap b (pm.mem_iff.mpr (by simp[z])),wg b (by simp[z])⟩
  ·exact⟨tap b z,.inl (t0 b z)⟩
  ·exact⟨J.ap b (pm.mem_iff.mpr (by simp[z])),wg b (by simp[z])⟩
theorem Qcc {A:Around}{k:Nat}(hr:Qao k A):A.units+30<cLine:=by have:=hr.units;lia
theorem Qix (hK:C.K=X.K):OpD C.K (QoP X.K 30 id) gEq:=by rw[hK];exact dEq
theorem Qiy (hK:C.K=X.K):OpD C.K (QoP X.K 30 not) gNe:=by rw[hK];exact dNe
theorem xb (i:Nat){x:Str}{pos:Pos}(hN:X.N[i]? = some x:=by rfl)(hv:Vis X.env.scope x:=by first|exact z30 rfl|exact z59 (z30 rfl)|exact z59 (z59 rfl))(hd:(x == ("__debug__" : Str))=false:=by decide)(hcd:(x == ("__classdict__" : Str))=false:=by decide):PE X (.Name x pos) (tX .B C true E (mB i)):=QpR hN hv hd hcd
theorem xv (i:Nat){x:Str}{pos:Pos}(hN:X.N[i]? = some x:=by rfl)(hv:Vis X.env.scope x:=by first|exact z30 rfl|exact z59 (z30 rfl)|exact z59 (z59 rfl))(hd:(x == ("__debug__" : Str))=false:=by decide)(hcd:(x == ("__classdict__" : Str))=false:=by decide):PE X (.Name x pos) (tX .V C true E (mV i)):=QpS hN hv hd hcd
theorem xo (i:Nat){x:Str}{pos:Pos}(hN:X.N[i]? = some x:=by rfl)(hv:Vis X.env.scope x:=by first|exact z30 rfl|exact z59 (z30 rfl)|exact z59 (z59 rfl))(hd:(x == ("__debug__" : Str))=false:=by decide)(hcd:(x == ("__classdict__" : Str))=false:=by decide):PE X (.Name x pos) (tX .O C true E (mO i)):=QpT hN hv hd hcd
theorem xs (i:Nat){x:Str}{pos:Pos}(hN:X.N[i]? = some x:=by rfl)(hv:Vis X.env.scope x:=by first|exact z30 rfl|exact z59 (z30 rfl)|exact z59 (z59 rfl))(hd:(x == ("__debug__" : Str))=false:=by decide)(hcd:(x == ("__classdict__" : Str))=false:=by decide):PE X (.Name x pos) (tX (.S i) C true E (mS i)):=QpV hN hv hd hcd
theorem spk {P:Program}{w:World}{K:z01}{mg:Str->Option Value}{base:Heap}{n:Nat}{x:Str}{ps:List Str}{io:List Bool}{f:List D->Fr}(D:Qi P w K mg base n x ps (spF K io rk f))(hC:C.K=K):Qi P w K mg base n x ps (spF C.K io rk f):=by rw[hC];exact D
def Qiz (i:Nat)(m:ME):MS:=Ja i m
theorem Qj3 {elt iter:Expr}{x y:Str}{px py pos spos:Pos}{ifs:List Expr}{scope:Scope}{N:List Str}{cs:List Cp}{j i0:Nat}{par:Bool}{mi:MA}{mt:MT}{me:ME}{pc pe:Bool}(hK:C.K=X.K)(hc:X.calm=true)(hXN:X.N.Nodup)(hi0:X.N[i0]? = some y)(hy:Loc X.env.scope y)(B:Blk X scope N (cs.map Cp.ix))(hjN:N[j]? = some x)(hj:cs[j]? = some .me)(hx:scope.names.lookup x=some .local)(hi:PI X (.Name x px) iter (tI C pa E mi))
  (ht:∀pins c s H ex,PIf (X.blk scope N pins c s H ex) ifs (exT X.K pc mt)) (he:∀pins c s H ex,PE (X.blk scope N pins c s H ex) elt (exX .O X.K pe me)) (nd:(cs.filterMap Cp.is).Nodup:=by decide)
  (hsw:swapsWith (.ListComp elt [⟨.Name x px,iter,ifs,0⟩] scope pos) (some (.Name y py)) spos.line X.env=pure true:=by rfl)
  (hf:X.fn y=true\/X.env.scope.names.lookup y=some .local:=by first|exact .inl rfl|exact .inr rfl|assumption)
  (hs:∀x,foldedSetIterable iter X.env x=pure x:=by intro _;rfl):PS X (.Assign [.Name y py] (.ListComp elt [⟨.Name x px,iter,ifs,0⟩] scope pos) spos) (tS rk C E (Qiz i0 (Yn par cs j mi mt me))):=
 Ju (Qek hc hXN hi0 hy B hi (fun _ _ _ _ _=>QA (i:=j) B.nd hjN (.inl (lookup_relabel_local hx)) (.inr (lookup_relabel_local hx))) ht he hsw hf hs) fun D σ H h=>by
  have q:=QgO (p:=pa && false) h
  refine QcX (p:=false) (par:=par) hK hj nd (fun z=>nomatch z) ?_
  obtain⟨F,ρ,τ,fp,I,r⟩:=q
  exact⟨F,ρ,τ,fp,I,r.mono fun a z F' H' fp' v I' n f=>by
   obtain⟨F2,rest,J,sf,rr,je⟩:=SI.freeze (show SI C F' H' σ a.2 ((v,a.1)::τ) fp' from I')
   exact z F2 H' rest v J ⟨n.f.trans sf,fun hp=>by rw[je];exact n.g hp⟩ rr⟩
end
section
variable {k:Kd}{n:Nat}
def Qt2 (i:Int)(n:Nat):List D:=(z64 n).map fun k=>.int (i+(k:Nat))
end
def W {α:Type}(r:Rs α)(k:α->Prop):Prop:=∃a,r=.ok a/\k a
section
variable {α β:Type}{k:α->Prop}
theorem YR {a:α}:W (.ok a) k↔k a:=⟨fun⟨b,e,h⟩=>by cases e;exact h,fun h=>⟨a,rfl,h⟩⟩
theorem Qn {x:Rs β}{f:β->Rs α}:W (x.bind f) k↔W x fun a=>W (f a) k:=by
 cases x with
 |ok a=>exact⟨fun h=>⟨a,rfl,h⟩,fun⟨b,e,h⟩=>by cases e;exact h⟩
 |ex c ρ=>exact⟨fun⟨_,e,_⟩=>(nomatch e),fun⟨_,e,_⟩=>(nomatch e)⟩
 |no=>exact⟨fun⟨_,e,_⟩=>(nomatch e),fun⟨_,e,_⟩=>(nomatch e)⟩
theorem QsZ {a:α}:W (Rs.of (some a)) k↔k a:=YR
theorem QfR {c:Prop}[Decidable c]{x y:Rs α}(h1:c->W x k)(h2:¬c->W y k):W (if c then x else y) k:=by
 by_cases h:c
 ·rw[if_pos h];exact h1 h
 ·rw[if_neg h];exact h2 h
theorem W.mono {r:Rs α}{k':α->Prop}(h:W r k)(m:∀a,k a->k' a):W r k':=by obtain⟨a,e,h⟩:=h;exact⟨a,e,m a h⟩
theorem W.eq {r:Rs α}{a:α}(h:W r fun b=>b=a):r=.ok a:=by obtain⟨b,e,rfl⟩:=h;exact e
end
def FW (r:Fr)(P:D->List D->Prop):Prop:=∃d os,r=.ok d os/\P d os
theorem Jq {io:List Bool}{n:Nat}{mb:MS}{ds:List D}{P:D->List D->Prop}(h:W (mb (QlJ io n ds)) fun q=>∃d os,q.1=.rt d/\outs io q.2=some os/\P d os):FW (YD io n mb ds) P:=by
 obtain⟨⟨f,ρ⟩,e,d,os,rfl,ho,p⟩:=h
 refine⟨d,os,?_,p⟩
 unfold YD
 rw[e]
 dsimp only at ho ⊢
 rw[ho]
theorem Qey {io:List Bool}{n:Nat}{mb:MS}{ds:List D}{P:D->List D->Prop}(h:W (mb (QlJ io n ds)) fun q=>∃os,q.1=.nx/\outs io q.2=some os/\P .non os):FW (YD io n mb ds) P:=by
 obtain⟨⟨f,ρ⟩,e,os,rfl,ho,p⟩:=h
 refine⟨.non,os,?_,p⟩
 unfold YD
 rw[e]
 dsimp only at ho ⊢
 rw[ho]
theorem QnU {rk:Kd}{f:List D->Fr}{mr:MA}{ρ ρ1:Rho}{args:List D}{P:D->List D->Prop}{k:D×Rho->Prop}(h1:mr ρ=.ok (args,ρ1))(h3:FW (f args) P)(h4:∀d os,P d os->(rk=.V->d.imm=true)/\k (d,ρ1)):W (Ql rk f mr ρ) k:=by
 obtain⟨d,os,e,p⟩:=h3
 refine⟨_,?_,(h4 d os p).2⟩
 unfold Ql
 rw[h1]
 show(match f args with|.ok d _=>_|.ex c=>_|.no=>_)=_
 rw[e]
 cases rk with
 |V=>show(if d.imm=true then _ else _)=_;rw[if_pos ((h4 d os p).1 rfl)]
 |O=>rfl
 |B=>rfl
 |S i=>rfl
theorem JC {m u:MS}{ρ:Rho}{k:Fl×Rho->Prop}(J:Rho->Prop)(h1:W (m ρ) fun r=>r.1=.nx/\J r.2)(h2:∀ρ,J ρ->W (u ρ) k):W (QX m u ρ) k:=by
 obtain⟨⟨f,ρ1⟩,e,e2,hj⟩:=h1
 obtain⟨a,e3,h3⟩:=h2 ρ1 hj
 refine⟨a,?_,h3⟩
 have e2':f=.nx:=e2
 subst e2'
 unfold QX
 rw[e]
 exact e3
theorem QnV {mr:MA}{ρ ρ1:Rho}{n:Int}(h:mr ρ=.ok ([.int n],ρ1))(b1 : -(2 ^ 62)<=n)(b2:n<2 ^ 62):Qcl mr ρ=.ok ((z64 n.toNat).map fun j=>.int ((0:Int)+(j:Nat)),ρ1):=by
 unfold Qcl
 rw[h]
 have e:QgQ [.int n]=some n:=if_pos ⟨b1,b2⟩
 show((Rs.of (QgQ [.int n])).bind _)=_
 rw[e]
 rfl
inductive Fa2 (P:D->D->Prop):List D->List D->Prop
 |nil:Fa2 P [] []
 |cons {x y:D} {xs ys:List D} (h:P x y) (r:Fa2 P xs ys):Fa2 P (x::xs) (y::ys)
theorem Fa2.length {P:D->D->Prop}:∀{xs ys:List D},Fa2 P xs ys->ys.length=xs.length
 |_,_,.nil=>rfl
 |_,_,.cons _ r=>by simp[r.length]
theorem Qj4 {j:Nat}{tc:MT}{te:ME}{Inv:Rho->Prop}{Pd:D->D->Prop}:∀{ds:List D} {ρ:Rho} {acc:List D},(∀d∈ds,∀ρ,Inv ρ->∃ρ0,Y1 ρ j d=some ρ0/\W (tc ρ0) fun c=>c.1=true/\W (te c.2) fun r=>Inv (r.2.set j none)/\Pd d r.1)->Inv ρ->acc.length+ds.length<=z15->
  W (QbY j tc te ds ρ acc) fun q=>Inv q.2/\∃ys,q.1=acc++ys/\Fa2 Pd ds ys
 | [],ρ,acc,h,i,l=>YR.mpr ⟨i,[],by simp,.nil⟩
 |d::ds,ρ,acc,h,i,l=>by
  obtain⟨ρ0,e0,h1⟩:=h d z07 ρ i
  unfold QbY
  rw[e0]
  refine Qn.mpr (QsZ.mpr (Qn.mpr (h1.mono fun c hz=>?_)))
  obtain⟨hc,h2⟩:=hz
  rw[if_pos hc]
  refine Qn.mpr (h2.mono fun r hz=>?_)
  obtain⟨h3,h4⟩:=hz
  rw[if_pos (by simp at l;lia)]
  refine(Qj4 (acc:=acc++[r.1]) (fun d' hd'=>h d' (z08 _ hd')) h3 (by simp at l ⊢;lia)).mono fun q ⟨h5,ys,e,f⟩=>⟨h5,r.1::ys,by rw[e];simp,.cons h4 f⟩
theorem Qqn {par:Bool}{cs:List Cp}{j:Nat}{mi:MA}{tc:MT}{te:ME}{ρ ρ1 ρb:Rho}{ds di:List D}{k:D×Rho->Prop}{Inv:Rho->Prop}{Pd:D->D->Prop}(h1:mi ρ=.ok (ds,ρ1))(h2:Qax par ρ1 (cs.filterMap Cp.is)=some di)(h3:QbP ρ1 cs di=some ρb)
  (hs:∀d∈ds,∀ρ,Inv ρ->∃ρ0,Y1 ρ j d=some ρ0/\W (tc ρ0) fun c=>c.1=true/\W (te c.2) fun r=>Inv (r.2.set j none)/\Pd d r.1) (i:Inv ρb) (l:ds.length<=z15)
  (hk:∀ys ρ2,Inv ρ2->Fa2 Pd ds ys->∃os,outs (ioB cs) ρ2=some os/\k (.lst ys,VW par ρ1 (cs.filterMap Cp.is) os)):W (Yn par cs j mi tc te ρ) k:=by
 obtain⟨⟨q1,q2⟩,e,h4,ys,eq,h5⟩:=Qj4 (acc:=[]) hs i (by simpa using l)
 have eq':ys=q1:=eq.symm
 subst eq'
 obtain⟨os,ho,h6⟩:=hk ys q2 h4 h5
 refine⟨_,?_,h6⟩
 unfold Yn
 rw[h1]
 show((Rs.of (Qax par ρ1 (cs.filterMap Cp.is))).bind _)=_
 rw[h2]
 show((Rs.of (QbP ρ1 cs di)).bind _)=_
 rw[h3]
 show(match QbY j tc te ds ρb [] with|.ok q=>_|_=>_)=_
 rw[e]
 show((Rs.of (outs (ioB cs) q2)).bind _)=_
 rw[ho]
 rfl
theorem QbZ {j:Nat}{tc:MT}{te:ME}{f:D->Bool}{g:D->D}{ρ:Rho}:∀{ds:List D} {acc:List D},(∀d∈ds,∃ρ0,Y1 ρ j d=some ρ0/\tc ρ0=.ok (f d,ρ0)/\(f d=true->te ρ0=.ok (g d,ρ0))/\ρ0.set j none=ρ)->acc.length+ds.length<=z15->
  QbY j tc te ds ρ acc=.ok (acc++(ds.filter f).map g,ρ)
 | [],acc,h,l=>by simp[QbY]
 |d::ds,acc,h,l=>by
  obtain⟨ρ0,e0,e1,e2,e3⟩:=h d z07
  unfold QbY
  rw[e0]
  show((tc ρ0).bind _)=_
  rw[e1]
  by_cases hf:f d=true
  ·show(if f d=true then _ else _)=_
   rw[if_pos hf,e2 hf]
   show(if acc.length<z15 then _ else _)=_
   rw[if_pos (by simp at l;lia),e3,QbZ (fun d' hd'=>h d' (z08 _ hd')) (by simp at l ⊢;lia),z80,if_pos hf]
   simp
  ·show(if f d=true then _ else _)=_
   rw[if_neg hf,e3,QbZ (fun d' hd'=>h d' (z08 _ hd')) (by simp at l ⊢;lia),z80,if_neg hf]
theorem QfS {par:Bool}{cs:List Cp}{j:Nat}{mi:MA}{tc:MT}{te:ME}{ρ ρ1 ρb:Rho}{ds di os:List D}{f:D->Bool}{g:D->D}(h1:mi ρ=.ok (ds,ρ1))(h2:Qax par ρ1 (cs.filterMap Cp.is)=some di)(h3:QbP ρ1 cs di=some ρb)
  (hs:∀d∈ds,∃ρ0,Y1 ρb j d=some ρ0/\tc ρ0=.ok (f d,ρ0)/\(f d=true->te ρ0=.ok (g d,ρ0))/\ρ0.set j none=ρb) (l:ds.length<=z15) (ho:outs (ioB cs) ρb=some os) (hp:VW par ρ1 (cs.filterMap Cp.is) os=ρ1):Yn par cs j mi tc te ρ=.ok (.lst ((ds.filter f).map g),ρ1):=by
 unfold Yn
 rw[h1]
 show((Rs.of (Qax par ρ1 (cs.filterMap Cp.is))).bind _)=_
 rw[h2]
 show((Rs.of (QbP ρ1 cs di)).bind _)=_
 rw[h3]
 show(match QbY j tc te ds ρb [] with|.ok q=>_|_=>_)=_
 rw[QbZ hs (by simpa using l)]
 show((Rs.of (outs (ioB cs) ρb)).bind _)=_
 rw[ho]
 show Rs.ok _=_
 rw[hp]
 simp
theorem comp_map {par:Bool}{cs:List Cp}{j:Nat}{mi:MA}{te:ME}{ρ ρ1 ρb:Rho}{ds di os:List D}{g:D->D}(h1:mi ρ=.ok (ds,ρ1))(h2:Qax par ρ1 (cs.filterMap Cp.is)=some di)(h3:QbP ρ1 cs di=some ρb)
  (hs:∀d∈ds,∃ρ0,Y1 ρb j d=some ρ0/\te ρ0=.ok (g d,ρ0)/\ρ0.set j none=ρb) (l:ds.length<=z15) (ho:outs (ioB cs) ρb=some os) (hp:VW par ρ1 (cs.filterMap Cp.is) os=ρ1):Yn par cs j mi QgS te ρ=.ok (.lst (ds.map g),ρ1):=by
 rw[QfS (f:=fun _=>true) (g:=g) h1 h2 h3 (fun d hd=>by obtain⟨ρ0,e1,e2,e3⟩:=hs d hd;exact⟨ρ0,e1,rfl,fun _=>e2,e3⟩) l ho hp,zt5.mpr fun _ _=>rfl]
theorem QmF {tg:D->Rho->Option Rho}{mb:MS}{k:Fl×Rho->Prop}(Inv:Nat->Rho->Prop){ds:List D}(step:∀i d ρ,ds[i]? = some d->Inv i ρ->∃ρ1,tg d ρ=some ρ1/\W (mb ρ1) fun r=>r.1=.nx/\Inv (i+1) r.2) :
  ∀(n i:Nat) (ρ:Rho),ds.length - i=n->i<=ds.length->Inv i ρ->(∀ρ',Inv ds.length ρ'->k (.nx,ρ'))->W (forL tg mb (ds.drop i) ρ) k
 |0,i,ρ,hn,hi,h,hk=>by
  have:i=ds.length:=by lia
  subst this
  rw[zn5]
  exact YR.mpr (hk _ h)
 |n+1,i,ρ,hn,hi,h,hk=>by
  have hlt:i<ds.length:=by lia
  rw[z97 hlt]
  obtain⟨ρ1,e1,h1⟩:=step i ds[i] ρ (z04 hlt) h
  unfold forL
  rw[e1]
  refine Qn.mpr (QsZ.mpr (Qn.mpr (h1.mono fun r hz=>?_)))
  obtain⟨e2,h2⟩:=hz
  rw[e2]
  exact QmF Inv step n (i+1) r.2 (by lia) (by lia) h2 hk
theorem Qez {a b:Int}:gEq (.int a) (.int b)=some (.bl (decide (a=b))):=by
 show(eqS (.int a) (.int b)).map D.bl=_
 unfold eqS
 rw[if_pos (by rfl)]
 show some _=some _
 congr 2
 by_cases h:a=b<;>simp[h]
theorem Qj5 {a b:Int}:gNe (.int a) (.int b)=some (.bl (decide (a≠b))):=by
 have:=Qez (a:=a) (b:=b)
 unfold gEq at this
 unfold gNe
 cases h:eqb 30 (.int a) (.int b) with
 |none=>rw[h] at this;cases this
 |some c=>
  rw[h] at this
  cases this
  show some _=some _
  by_cases h:a=b<;>simp[h]
theorem QuN {a b c:Int}:gIn (.int a) (.nd .tup [.int b,.int c])=some (.bl (decide (b=a\/c=a))):=by
 have h1:=Qez (a:=b) (b:=a)
 have h2:=Qez (a:=c) (b:=a)
 obtain⟨x,e1,e1'⟩:=z03.mp h1
 obtain⟨y,e2,e2'⟩:=z03.mp h2
 show((inL (eqb 30) (.int a) [.int b,.int c])).map D.bl=_
 unfold inL inL inL
 rw[e1,e2]
 cases e1';cases e2'
 show some _=some _
 by_cases q:b=a<;>by_cases r:c=a<;>simp[q,r]
theorem Fa2.all {P:D->Prop}:∀{xs ys:List D},Fa2 (fun _ y=>P y) xs ys->∀y∈ys,P y
 |_,_,.nil,_,h=>nomatch h
 |_,_,.cons h r,y,hy=>by
  rcases z13.mp hy with rfl|hy
  ·exact h
  ·exact r.all y hy
section
variable {s:Option Sl}{ρ ρ1 ρ2:Rho}{k:D×Rho->Prop}{kt:Bool×Rho->Prop}{ka:List D×Rho->Prop}{ko:Option Int×Rho->Prop}{kf:Fl×Rho->Prop}{a b m u:ME}{mt mu:MT}{mr:MA}{ms mv:MS}{d x y:D}{xs ys:List D}{i:Nat}{g:D->D->Option D}{c:Bool}{lo hi:MO}
def vK (o:Option (Option Sl))(i:Nat)(ρ:Rho):Rs (D×Rho):=match o with
 |some (some (.frz d))=>.ok (d,ρ)
 |some (some (.own d))=>.ok (d,ρ.set i (some (.frz d)))
 |_=>.no
theorem Qqo:vK (some (some (.frz d))) i ρ=.ok (d,ρ):=rfl
theorem Qqp:vK (some (some (.own d))) i ρ=.ok (d,ρ.set i (some (.frz d))):=rfl
theorem w_V:W (mV i (s::ρ)) k↔W (vK ((s::ρ)[i]?) i (s::ρ)) k:=Iff.rfl
def bK (o:Option (Option Sl))(ρ:Rho):Rs (D×Rho):=match o with
 |some (some (.frz d))=>.ok (d,ρ)
 |some (some (.own d))=>.ok (d,ρ)
 |some (some (.par d))=>.ok (d,ρ)
 |_=>.no
theorem Qqq:bK (some (some (.frz d))) ρ=.ok (d,ρ):=rfl
theorem Qqr:bK (some (some (.own d))) ρ=.ok (d,ρ):=rfl
theorem Qqs:bK (some (some (.par d))) ρ=.ok (d,ρ):=rfl
theorem w_B:W (mB i (s::ρ)) k↔W (bK ((s::ρ)[i]?) (s::ρ)) k:=Iff.rfl
def oK (o:Option (Option Sl))(i:Nat)(ρ:Rho):Rs (D×Rho):=match o with
 |some (some (.own d))=>.ok (d,ρ.set i none)
 |_=>.no
theorem Qqt:oK (some (some (.own d))) i ρ=.ok (d,ρ.set i none):=rfl
theorem w_O:W (mO i (s::ρ)) k↔W (oK ((s::ρ)[i]?) i (s::ρ)) k:=Iff.rfl
def sK (o:Option (Option Sl))(ρ:Rho):Rs (D×Rho):=match o with
 |some (some (.own d))=>.ok (d,ρ)
 |some (some (.par d))=>.ok (d,ρ)
 |_=>.no
theorem Qqu:sK (some (some (.own d))) ρ=.ok (d,ρ):=rfl
theorem Qqv:sK (some (some (.par d))) ρ=.ok (d,ρ):=rfl
theorem w_S:W (mS i (s::ρ)) k↔W (sK ((s::ρ)[i]?) (s::ρ)) k:=Iff.rfl
theorem w_C:W (mC d (s::ρ)) k↔k (d,s::ρ):=YR
def iK (r:D×Rho):Rs (D×Rho):=if r.1.imm=true then .ok r else .no
theorem Qs0:iK (d,ρ)=if d.imm=true then .ok (d,ρ) else .no:=rfl
theorem w_I:W (mI m (s::ρ)) k↔W (m (s::ρ)) fun r=>W (iK r) k:=Qn
def opK (g:D->D->Option D)(r1 r2:D×Rho):Rs (D×Rho):=Rs.of ((g r1.1 r2.1).map fun d=>(d,r2.2))
theorem Qqw:opK g (x,ρ1) (y,ρ2)=Rs.of ((g x y).map fun d=>(d,ρ2)):=rfl
theorem QuO:W (mOp g a b (s::ρ)) k↔W (a (s::ρ)) fun r1=>W (b r1.2) fun r2=>W (opK g r1 r2) k:=by simp only[mOp,Qn,opK]
def tK (r:D×Rho):Rs (Bool×Rho):=Rs.of ((asB r.1).map fun b=>(b,r.2))
theorem Qs1:tK (.bl c,ρ)=.ok (c,ρ):=rfl
theorem Qqx:W (QF m (s::ρ)) kt↔W (m (s::ρ)) fun r=>W (tK r) kt:=Qn
def nK (r:Bool×Rho):Rs (Bool×Rho):=.ok (!r.1,r.2)
theorem Qs2:nK (c,ρ)=.ok (!c,ρ):=rfl
theorem Qs3:W (Qcj mt (s::ρ)) kt↔W (mt (s::ρ)) fun r=>W (nK r) kt:=Qn
def anK (u:MT)(r:Bool×Rho):Rs (Bool×Rho):=if r.1=true then u r.2 else .ok (false,r.2)
theorem Qqy:anK mu (c,ρ)=if c=true then mu ρ else .ok (false,ρ):=rfl
theorem Qs4:W (QnD mt mu (s::ρ)) kt↔W (mt (s::ρ)) fun r=>W (anK mu r) kt:=Qn
def orK (u:MT)(r:Bool×Rho):Rs (Bool×Rho):=if r.1=true then .ok (true,r.2) else u r.2
theorem Qqz:orK mu (c,ρ)=if c=true then .ok (true,ρ) else mu ρ:=rfl
theorem QuP:W (mOr mt mu (s::ρ)) kt↔W (mt (s::ρ)) fun r=>W (orK mu r) kt:=Qn
def feK (a b:ME)(r:Bool×Rho):Rs (D×Rho):=if r.1=true then a r.2 else b r.2
theorem QqA:feK a b (c,ρ)=if c=true then a ρ else b ρ:=rfl
theorem Qs5:W (QrU mt a b (s::ρ)) k↔W (mt (s::ρ)) fun r=>W (feK a b r) k:=Qn
theorem Qs6:W (Qr (s::ρ)) ka↔ka ([],s::ρ):=YR
def coK (r:D×Rho)(q:List D×Rho):Rs (List D×Rho):=.ok (r.1::q.1,q.2)
theorem QqB:coK (d,ρ1) (xs,ρ2)=.ok (d::xs,ρ2):=rfl
theorem QqC:W (Qb m mr (s::ρ)) ka↔W (m (s::ρ)) fun r=>W (mr r.2) fun q=>W (coK r q) ka:=by simp only[Qb,Qn,coK]
def cbK (g:List D->Option D)(r:List D×Rho):Rs (D×Rho):=Rs.of ((g r.1).map fun d=>(d,r.2))
theorem QqD {g:List D->Option D}:cbK g (xs,ρ)=Rs.of ((g xs).map fun d=>(d,ρ)):=rfl
theorem QnW {g:List D->Option D}:W (QJ g mr (s::ρ)) k↔W (mr (s::ρ)) fun r=>W (cbK g r) k:=Qn
def lsK (r:List D×Rho):Rs (D×Rho):=if r.1.length<=z15 then .ok (.lst r.1,r.2) else .no
theorem QqE:lsK (xs,ρ)=if xs.length<=z15 then .ok (.lst xs,ρ) else .no:=rfl
theorem Qs7:W (QpY mr (s::ρ)) k↔W (mr (s::ρ)) fun r=>W (lsK r) k:=Qn
def tuK (r:List D×Rho):Rs (D×Rho):=if r.1.length<=z15 then .ok (.tup r.1,r.2) else .no
theorem QqF:tuK (xs,ρ)=if xs.length<=z15 then .ok (.tup xs,ρ) else .no:=rfl
theorem Qs8:W (Qcv mr (s::ρ)) k↔W (mr (s::ρ)) fun r=>W (tuK r) k:=Qn
def loK (r:List D×Rho):Rs (D×Rho):=if r.1.length<=z15 then(if D.Jo r.1=true then .ok (.lst r.1,r.2) else .no) else .no
theorem QqG:loK (xs,ρ)=if xs.length<=z15 then(if D.Jo xs=true then .ok (.lst xs,ρ) else .no) else .no:=rfl
theorem QqH:W (QcS mr (s::ρ)) k↔W (mr (s::ρ)) fun r=>W (loK r) k:=Qn
def liK (r:List D×Rho):Rs (D×Rho):=(Rs.of (Qis r.1)).bind fun ds=>if D.Jo ds=true then .ok (.lst ds,r.2) else .no
theorem QqI:liK ([.nd .lst xs],ρ)=if D.Jo xs=true then .ok (.lst xs,ρ) else .no:=rfl
theorem QnX:W (QcT mr (s::ρ)) k↔W (mr (s::ρ)) fun r=>W (liK r) k:=Qn
theorem QqJ:W (Jk (s::ρ)) kf↔kf (.nx,s::ρ):=YR
def sqK (u:MS)(r:Fl×Rho):Rs (Fl×Rho):=match r.1 with
 |.nx=>u r.2
 |f=>.ok (f,r.2)
theorem QqK:sqK mv (.nx,ρ)=mv ρ:=rfl
theorem QqL:sqK mv (.rt d,ρ)=.ok (.rt d,ρ):=rfl
theorem Qs9:W (QX ms mv (s::ρ)) kf↔W (ms (s::ρ)) fun r=>W (sqK mv r) kf:=Qn
def rtK (r:D×Rho):Rs (Fl×Rho):=.ok (.rt r.1,r.2)
theorem QqM:rtK (d,ρ)=.ok (.rt d,ρ):=rfl
theorem Qta:W (Yb m (s::ρ)) kf↔W (m (s::ρ)) fun r=>W (rtK r) kf:=Qn
def ifK (a b:MS)(r:Bool×Rho):Rs (Fl×Rho):=if r.1=true then a r.2 else b r.2
theorem QqN:ifK ms mv (c,ρ)=if c=true then ms ρ else mv ρ:=rfl
theorem QuQ:W (mIf mt ms mv (s::ρ)) kf↔W (mt (s::ρ)) fun r=>W (ifK ms mv r) kf:=Qn
def svK (i:Nat)(r:D×Rho):Rs (Fl×Rho):=(Rs.of (Y1 r.2 i r.1)).bind fun ρ'=>.ok (.nx,ρ')
theorem QqO:svK i (d,ρ)=(Rs.of (Y1 ρ i d)).bind fun ρ'=>.ok (.nx,ρ'):=rfl
theorem QqP:W (Ja i m (s::ρ)) kf↔W (m (s::ρ)) fun r=>W (svK i r) kf:=Qn
theorem QqQ:W (Qiz i m (s::ρ)) kf↔W (m (s::ρ)) fun r=>W (svK i r) kf:=Qn
def soK (i:Nat)(r:D×Rho):Rs (Fl×Rho):=(Rs.of (Qmx r.2 i r.1)).bind fun ρ'=>.ok (.nx,ρ')
theorem QqR:soK i (d,ρ)=(Rs.of (Qmx ρ i d)).bind fun ρ'=>.ok (.nx,ρ'):=rfl
theorem QqS:W (Vh i m (s::ρ)) kf↔W (m (s::ρ)) fun r=>W (soK i r) kf:=Qn
def unK (g:D->Option D)(r:D×Rho):Rs (D×Rho):=Rs.of ((g r.1).map fun d=>(d,r.2))
theorem QqT {g:D->Option D}:unK g (d,ρ)=Rs.of ((g d).map fun d=>(d,ρ)):=rfl
theorem QuR {g:D->Option D}:W (mUn g m (s::ρ)) k↔W (m (s::ρ)) fun r=>W (unK g r) k:=Qn
def ixK (i:Nat)(m:ME)(r:D×Rho):Rs (Fl×Rho):=(Rs.of (QaZ r.2 i)).bind fun _=>(m r.2).bind fun s=>(Rs.of (QaZ s.2 i)).bind fun q=>(Rs.of ((asI s.1).bind fun n=>ixN q.2.length n)).bind fun j=>
 .ok (.nx,s.2.set i (some (mkS q.1 (.lst (q.2.set j r.1)))))
def Qtb (i:Nat)(d:D)(t:D×Rho):Rs (Fl×Rho):=(Rs.of (QaZ t.2 i)).bind fun q=>(Rs.of ((asI t.1).bind fun n=>ixN q.2.length n)).bind fun j=>
 .ok (.nx,t.2.set i (some (mkS q.1 (.lst (q.2.set j d)))))
theorem QnY:Qtb i d (x,ρ)=(Rs.of (QaZ ρ i)).bind fun q=>(Rs.of ((asI x).bind fun n=>ixN q.2.length n)).bind fun j=>.ok (.nx,ρ.set i (some (mkS q.1 (.lst (q.2.set j d))))):=rfl
theorem QqU:W (ixK i m (d,s::ρ)) kf↔W (Rs.of (QaZ (s::ρ) i)) fun _=>W (m (s::ρ)) fun t=>W (Qtb i d t) kf:=by simp only[ixK,Qn,Qtb]
theorem QnZ:W (QfP i a m (s::ρ)) kf↔W (a (s::ρ)) fun r=>W (ixK i m r) kf:=Qn
def apK (i:Nat)(r:D×Rho):Rs (Fl×Rho):=(Rs.of (QaZ r.2 i)).bind fun q=>if q.2.length<z15 then .ok (.nx,r.2.set i (some (mkS q.1 (.lst (q.2++[r.1]))))) else .no
theorem QqV:apK i (d,ρ)=(Rs.of (QaZ ρ i)).bind fun q=>if q.2.length<z15 then .ok (.nx,ρ.set i (some (mkS q.1 (.lst (q.2++[d]))))) else .no:=rfl
theorem Qtc:W (QlP i m (s::ρ)) kf↔W (Rs.of (QaZ (s::ρ) i)) fun _=>W (m (s::ρ)) fun r=>W (apK i r) kf:=by simp only[QlP,Qn,apK]
theorem QqW:W (QrX (s::ρ)) ko↔ko (none,s::ρ):=YR
def prK (r:D×Rho):Rs (Option Int×Rho):=(Rs.of (asI r.1)).bind fun i=>.ok (some i,r.2)
theorem QmG {j:Int}:prK (.int j,ρ)=.ok (some j,ρ):=rfl
theorem QqX:W (QrY m (s::ρ)) ko↔W (m (s::ρ)) fun r=>W (prK r) ko:=Qn
def slK (r:D×Rho)(l h:Option Int×Rho):Rs (D×Rho):=(Rs.of (asL r.1)).bind fun xs=>.ok (.lst (cutD xs l.1 h.1),h.2)
theorem QqY {l h:Option Int}:slK (.nd .lst xs,ρ) (l,ρ1) (h,ρ2)=.ok (.lst (cutD xs l h),ρ2):=rfl
theorem Qtd:W (QrZ m lo hi (s::ρ)) k↔W (m (s::ρ)) fun r=>W (lo r.2) fun l=>W (hi l.2) fun h=>W (slK r l h) k:=by simp only[QrZ,Qn,slK]
def skK (r:D×Rho)(l h:Option Int×Rho):Rs (D×Rho):=(Rs.of (asL r.1)).bind fun xs=>if D.Jo (cutD xs l.1 h.1)=true then .ok (.lst (cutD xs l.1 h.1),h.2) else .no
theorem QqZ {l h:Option Int}:skK (.nd .lst xs,ρ) (l,ρ1) (h,ρ2)=if D.Jo (cutD xs l h)=true then .ok (.lst (cutD xs l h),ρ2) else .no:=rfl
theorem Qte:W (Qr0 m lo hi (s::ρ)) k↔W (m (s::ρ)) fun r=>W (lo r.2) fun l=>W (hi l.2) fun h=>W (skK r l h) k:=by simp only[Qr0,Qn,skK]
def ctK (r1 r2:D×Rho):Rs (D×Rho):=(Rs.of (asL r1.1)).bind fun xs=>(Rs.of (asL r2.1)).bind fun ys=>if xs.length+ys.length<=z15 then .ok (.lst (xs++ys),r2.2) else .no
theorem Qq0:ctK (.nd .lst xs,ρ1) (.nd .lst ys,ρ2)=if xs.length+ys.length<=z15 then .ok (.lst (xs++ys),ρ2) else .no:=rfl
theorem Qq1:W (QlQ a b (s::ρ)) k↔W (a (s::ρ)) fun r1=>W (b r1.2) fun r2=>W (ctK r1 r2) k:=by simp only[QlQ,Qn,ctK]
def cuK (r1 r2:D×Rho):Rs (D×Rho):=(Rs.of (asL r1.1)).bind fun xs=>(Rs.of (asL r2.1)).bind fun ys=>if xs.length+ys.length<=z15 then(if D.Jo (xs++ys)=true then .ok (.lst (xs++ys),r2.2) else .no) else .no
theorem Qq2:cuK (.nd .lst xs,ρ1) (.nd .lst ys,ρ2)=if xs.length+ys.length<=z15 then(if D.Jo (xs++ys)=true then .ok (.lst (xs++ys),ρ2) else .no) else .no:=rfl
theorem Qq3:W (Qqd a b (s::ρ)) k↔W (a (s::ρ)) fun r1=>W (b r1.2) fun r2=>W (cuK r1 r2) k:=by simp only[Qqd,Qn,cuK]
def avK (b:ME)(r:D×Rho):Rs (D×Rho):=(Rs.of (asB r.1)).bind fun c=>if c=true then b r.2 else .ok (.bl false,r.2)
theorem Qq4:avK b (.bl c,ρ)=if c=true then b ρ else .ok (.bl false,ρ):=rfl
theorem Qq5:W (QgM a b (s::ρ)) k↔W (a (s::ρ)) fun r=>W (avK b r) k:=Qn
def chK (g g':D->D->Option D)(mc:ME)(r1 r2:D×Rho):Rs (D×Rho):=(Rs.of ((g r1.1 r2.1).bind asB)).bind fun q=>if q=true then(mc r2.2).bind fun r3=>Rs.of ((g' r2.1 r3.1).map fun d=>(d,r3.2)) else .ok (.bl false,r2.2)
theorem Qq6 {g':D->D->Option D}:chK g g' u (x,ρ1) (y,ρ2)=(Rs.of ((g x y).bind asB)).bind fun q=>if q=true then(u ρ2).bind fun r3=>Rs.of ((g' y r3.1).map fun d=>(d,r3.2)) else .ok (.bl false,ρ2):=rfl
theorem Qn0 {g':D->D->Option D}:W (QbB g g' a b u (s::ρ)) k↔W (a (s::ρ)) fun r1=>W (b r1.2) fun r2=>W (chK g g' u r1 r2) k:=by simp only[QbB,Qn,chK]
end
section
variable {os:List D}{d:D}{ρ ρ1:Rho}
theorem YT {rk:Kd}{f:List D->Fr}{mr:MA}{args:List D}(h1:mr ρ=.ok (args,ρ1))(h2:f args=.ok d os)(h3:rk=.V->d.imm=true):Ql rk f mr ρ=.ok (d,ρ1):=by
 have:=QnU (rk:=rk) (k:=fun r=>r=(d,ρ1)) (P:=fun d' _=>d'=d) h1 ⟨d,os,h2,rfl⟩ fun d' os' e=>⟨fun z=>e▸h3 z,by rw[e]⟩
 exact this.eq
end
theorem Qlf {g:D->D->Option D}{a b:ME}{ρ ρ1 ρ2:Rho}{x y d:D}(h1:a ρ=.ok (x,ρ1))(h2:b ρ1=.ok (y,ρ2))(hg:g x y=some d):mOp g a b ρ=.ok (d,ρ2):=by
 unfold mOp;rw[h1]
 show((b ρ1).bind _)=_
 rw[h2]
 show Rs.of ((g x y).map _)=_
 rw[hg];rfl
theorem Yr {m:ME}{mr:MA}{ρ ρ1 ρ2:Rho}{d:D}{ds:List D}(h1:m ρ=.ok (d,ρ1))(h2:mr ρ1=.ok (ds,ρ2)):Qb m mr ρ=.ok (d::ds,ρ2):=by
 unfold Qb;rw[h1]
 show((mr ρ1).bind _)=_
 rw[h2];rfl
theorem Qc1 {m:ME}{ρ ρ1:Rho}{b:Bool}(h:m ρ=.ok (.bl b,ρ1)):QF m ρ=.ok (b,ρ1):=by unfold QF;rw[h];rfl
theorem not_eq {m:MT}{ρ ρ1:Rho}{b:Bool}(h:m ρ=.ok (b,ρ1)):Qcj m ρ=.ok (!b,ρ1):=by unfold Qcj;rw[h];rfl
theorem or_eq {m u:MT}{ρ ρ1 ρ2:Rho}{b c:Bool}(h:m ρ=.ok (b,ρ1))(h2:b=false->u ρ1=.ok (c,ρ2))(h3:b=true->ρ2=ρ1):mOr m u ρ=.ok (b || c,ρ2):=by
 unfold mOr;rw[h]
 cases b with
 |true=>rw[h3 rfl];rfl
 |false=>show u ρ1=_;rw[h2 rfl];rfl
theorem Qn1 {bs:List Bool}:Qp9 [.lst (bs.map .bl)]=some (.bl (bs.all fun b=>b)):=by
 have:QmA (bs.map .bl)=some bs:=by
  induction bs with
  |nil=>rfl
  |cons b bs ih=>rw[z31,QmA,ih];rfl
 show(QmA (bs.map .bl)).map _=_
 rw[this];rfl
def pl (q:Int×Int):D:=.tup [.int q.1,.int q.2]
section
variable {e:Expr}
theorem R.int {K:z01}{F:Hp}{v:L2.V}{z:Int}(r:R K F v (.int z)):v=.int z:=by
 cases r with|sc e=>cases e;rfl
end
section
variable {X:Cx}{C:Cn}{E:XE}{rk:Kd}
def QfT:MS:=fun _=>.no
theorem Qc2 {st:Stmt}:PS X st (tS rk C E QfT):=fun pins s σ H D I ⟨F,ρ,fp,_,h⟩=>h.elim
end
section
variable {s:Option Sl}{ρ ρ1:Rho}{k:D×Rho->Prop}{ka:List D×Rho->Prop}{kf:Fl×Rho->Prop}{m:ME}{mr:MA}{d x:D}{xs:List D}{i:Nat}{c:Bool}
def clK (rk:Kd)(f:List D->Fr)(r:List D×Rho):Rs (D×Rho):=match f r.1 with
 |.ok d _=>match rk with
  |.V=>if d.imm=true then .ok (d,r.2) else .no
  |_=>.ok (d,r.2)
 |.ex c=>.ex c r.2
 |.no=>.no
theorem Qn2 {rk:Kd}{f:List D->Fr}:W (Ql rk f mr (s::ρ)) k↔W (mr (s::ρ)) fun r=>W (clK rk f r) k:=Qn
theorem Q5 {f:List D->Fr}{os:List D}(h:f xs=.ok d os):W (clK .V f (xs,ρ)) k↔d.imm=true/\k (d,ρ):=by
 show W (match f xs with|.ok d _=>_|.ex c=>_|.no=>_) k↔_
 rw[h]
 show W (if d.imm=true then _ else _) k↔_
 by_cases hd:d.imm=true
 ·rw[if_pos hd];exact⟨fun z=>⟨hd,YR.mp z⟩,fun z=>YR.mpr z.2⟩
 ·rw[if_neg hd];exact⟨fun⟨_,e,_⟩=>(nomatch e),fun z=>absurd z.1 hd⟩
theorem V0 {f:List D->Fr}{os:List D}(h:f xs=.ok d os):W (clK .O f (xs,ρ)) k↔k (d,ρ):=by
 show W (match f xs with|.ok d _=>_|.ex c=>_|.no=>_) k↔_
 rw[h];exact YR
def tvK (r:List D×Rho):Rs (D×Rho):=(Rs.of (Qis r.1)).bind fun ds=>.ok (.tup ds,r.2)
theorem Qn3:tvK ([.nd .lst xs],ρ)=.ok (.tup xs,ρ):=rfl
theorem Qn4:tvK ([.nd .tup xs],ρ)=.ok (.tup xs,ρ):=rfl
theorem Qq7:W (QfC mr (s::ρ)) k↔W (mr (s::ρ)) fun r=>W (tvK r) k:=Qn
def exK (i:Nat)(r:D×Rho):Rs (Fl×Rho):=(Rs.of (QaZ r.2 i)).bind fun q=>(Rs.of (asL r.1)).bind fun ds=>if q.2.length+ds.length<=z15 then .ok (.nx,r.2.set i (some (mkS q.1 (.lst (q.2++ds))))) else .no
theorem Qq8:exK i (d,ρ)=(Rs.of (QaZ ρ i)).bind fun q=>(Rs.of (asL d)).bind fun ds=>if q.2.length+ds.length<=z15 then .ok (.nx,ρ.set i (some (mkS q.1 (.lst (q.2++ds))))) else .no:=rfl
theorem Qtf:W (QrW i m (s::ρ)) kf↔W (Rs.of (QaZ (s::ρ) i)) fun _=>W (m (s::ρ)) fun r=>W (exK i r) kf:=by simp only[QrW,Qn,exK]
def cK (par:Bool)(as:List (Option Nat))(f:List D->Fr)(r:List D×Rho):Rs (D×Rho):=(Rs.of (Qax par r.2 (as.filterMap id))).bind fun dis=>match f (QlH as r.1 dis) with
 |.ok d outs=>.ok (d,VW par r.2 (as.filterMap id) outs)
 |.ex c=>if(as.filterMap id).isEmpty=true then .ex c r.2 else .no
 |.no=>.no
theorem Qq9 {par:Bool}{as:List (Option Nat)}{f:List D->Fr}:W (JB par as f mr (s::ρ)) k↔W (mr (s::ρ)) fun r=>W (cK par as f r) k:=Qn
theorem Qra {par:Bool}{as:List (Option Nat)}{f:List D->Fr}{args dis:List D}{P:D->List D->Prop}(h2:Qax par ρ (as.filterMap id)=some dis)(h3:FW (f (QlH as args dis)) P)(h4:∀d os,P d os->k (d,VW par ρ (as.filterMap id) os)):W (cK par as f (args,ρ)) k:=by
 obtain⟨d,os,e,p⟩:=h3
 refine⟨_,?_,h4 d os p⟩
 unfold cK
 rw[h2]
 show(match f (QlH as args dis) with|.ok d outs=>_|.ex c=>_|.no=>_)=_
 rw[e]
theorem QgW {par:Bool}{i:Nat}{f:List D->Fr}{p0 p:D}{P:D->List D->Prop}(hi:ρ[i]? = some (some (mkS par p)))(h3:FW (f [p]) P)(h4:∀d os,P d os->∃q,os=[q]/\k (d,ρ.set i (some (mkS par q)))):W (cK par [some i] f ([p0],ρ)) k:=by
 refine Qra (dis:=[p]) ?_ h3 fun d os h=>?_
 ·show Qax par ρ [i]=_
  unfold Qax Qax;rw[hi];cases par<;>rfl
 ·obtain⟨q,rfl,h5⟩:=h4 d os h;exact h5
theorem Vs {par:Bool}{i:Nat}{f:List D->Fr}{p0 p x:D}{P:D->List D->Prop}(hi:ρ[i]? = some (some (mkS par p)))(h3:FW (f [p,x]) P)(h4:∀d os,P d os->∃q,os=[q]/\k (d,ρ.set i (some (mkS par q)))):W (cK par [some i,none] f ([p0,x],ρ)) k:=by
 refine Qra (dis:=[p]) ?_ h3 fun d os h=>?_
 ·show Qax par ρ [i]=_
  unfold Qax Qax;rw[hi];cases par<;>rfl
 ·obtain⟨q,rfl,h5⟩:=h4 d os h;exact h5
theorem Qj6 {rk:Kd}{f:List D->Fr}{P:D->List D->Prop}(h3:FW (f xs) P)(h4:∀d os,P d os->(rk=.V->d.imm=true)/\k (d,ρ)):W (clK rk f (xs,ρ)) k:=by
 obtain⟨d,os,e,p⟩:=h3
 refine⟨_,?_,(h4 d os p).2⟩
 unfold clK
 dsimp only
 rw[e]
 cases rk with
 |V=>show(if d.imm=true then _ else _)=_;rw[if_pos ((h4 d os p).1 rfl)]
 |O=>rfl
 |B=>rfl
 |S i=>rfl
def flK (tg:D->Rho->Option Rho)(mb:MS)(r:List D×Rho):Rs (Fl×Rho):=forL tg mb r.1 r.2
theorem Qtg {mi:MA}{tg:D->Rho->Option Rho}{mb:MS}:W (QcV mi tg mb (s::ρ)) kf↔W (mi (s::ρ)) fun r=>W (flK tg mb r) kf:=Qn
theorem Vi {tg:D->Rho->Option Rho}{mb:MS}{ds:List D}(Inv:Nat->Rho->Prop)(i:Inv 0 ρ)(step:∀i d ρ,ds[i]? = some d->Inv i ρ->∃ρ1,tg d ρ=some ρ1/\W (mb ρ1) fun r=>r.1=.nx/\Inv (i+1) r.2)
  (hk:∀ρ',Inv ds.length ρ'->kf (.nx,ρ')):W (flK tg mb (ds,ρ)) kf:=by
 have:=QmF Inv step ds.length 0 ρ (by simp) (zb4 _) i hk
 rw[zk3] at this
 exact this
def fnK (tg:D->Rho->Option Rho)(mb:MS)(ds:List D)(r:Fl×Rho):Rs (Fl×Rho):=match r.1 with
  |.nx=>forL tg mb ds r.2
  |.ct=>forL tg mb ds r.2
  |.bk=>.ok (.nx,r.2)
  |.rt d=>.ok (.rt d,r.2)
theorem Qrb {tg:D->Rho->Option Rho}{mb:MS}:fnK tg mb xs (.nx,ρ)=flK tg mb (xs,ρ):=rfl
theorem Qrc {tg:D->Rho->Option Rho}{mb:MS}:fnK tg mb xs (.rt d,ρ)=.ok (.rt d,ρ):=rfl
def rgK (r:List D×Rho):Rs (List D×Rho):=(Rs.of (QgQ r.1)).bind fun n=>.ok ((z64 n.toNat).map fun j=>.int ((0:Int)+(j:Nat)),r.2)
theorem Qrd {n:Int}:rgK ([.int n],ρ)=if -4611686018427387904<=n/\n<4611686018427387904 then .ok ((z64 n.toNat).map fun j=>.int ((0:Int)+(j:Nat)),ρ) else .no:=by
 have e:(2:Int) ^ 62=4611686018427387904:=by decide
 show(Rs.of (if -(2 ^ 62)<=n/\n<2 ^ 62 then some n else none)).bind _=_
 rw[e]
 split<;>rfl
theorem Qn5:liK ([.nd .tup xs],ρ)=if D.Jo xs=true then .ok (.lst xs,ρ) else .no:=rfl
theorem Qre:W (Qcl mr (s::ρ)) ka↔W (mr (s::ρ)) fun r=>W (rgK r) ka:=Qn
def siK (r:D×Rho):Rs (List D×Rho):=(Rs.of (Qis [r.1])).bind fun ds=>.ok (ds,r.2)
theorem Qn6:siK (.nd .lst xs,ρ)=.ok (xs,ρ):=rfl
theorem Qn7:siK (.nd .tup xs,ρ)=.ok (xs,ρ):=rfl
theorem Qrf:W (JK m (s::ρ)) ka↔W (m (s::ρ)) fun r=>W (siK r) ka:=Qn
def enK (r:List D×Rho):Rs (List D×Rho):=(Rs.of (Qis r.1)).bind fun ds=>.ok (VY ds,r.2)
theorem Qn8:enK ([.nd .lst xs],ρ)=.ok (VY xs,ρ):=rfl
theorem Qn9:enK ([.nd .tup xs],ρ)=.ok (VY xs,ρ):=rfl
theorem Qrg:W (QnO mr (s::ρ)) ka↔W (mr (s::ρ)) fun r=>W (enK r) ka:=Qn
def cmK (par:Bool)(cs:List Cp)(j:Nat)(tc:MT)(te:ME)(r:List D×Rho):Rs (D×Rho):=(Rs.of (Qax par r.2 (cs.filterMap Cp.is))).bind fun di=>(Rs.of (QbP r.2 cs di)).bind fun ρb=>
 match QbY j tc te r.1 ρb [] with
 |.ok q=>(Rs.of (outs (ioB cs) q.2)).bind fun os=>.ok (.lst q.1,VW par r.2 (cs.filterMap Cp.is) os)
 |_=>.no
theorem Qrh {par:Bool}{cs:List Cp}{j:Nat}{mi:MA}{tc:MT}{te:ME}:W (Yn par cs j mi tc te (s::ρ)) k↔W (mi (s::ρ)) fun r=>W (cmK par cs j tc te r) k:=Qn
theorem Qj7 {par:Bool}{cs:List Cp}{j:Nat}{tc:MT}{te:ME}{ρb:Rho}{ds di os:List D}{f:D->Bool}{g:D->D}(h2:Qax par ρ (cs.filterMap Cp.is)=some di)(h3:QbP ρ cs di=some ρb)
  (hs:∀d∈ds,∃ρ0,Y1 ρb j d=some ρ0/\tc ρ0=.ok (f d,ρ0)/\(f d=true->te ρ0=.ok (g d,ρ0))/\ρ0.set j none=ρb) (l:ds.length<=z15) (ho:outs (ioB cs) ρb=some os) (hp:VW par ρ (cs.filterMap Cp.is) os=ρ) (hk:k (.lst ((ds.filter f).map g),ρ)):W (cmK par cs j tc te (ds,ρ)) k:=by
 have:=QfS (par:=par) (cs:=cs) (j:=j) (mi:=fun ρ=>.ok (ds,ρ)) (ρ:=ρ) rfl h2 h3 hs l ho hp
 exact⟨_,this,hk⟩
theorem Qc3 {par:Bool}{cs:List Cp}{j:Nat}{te:ME}{ρb:Rho}{ds di os:List D}{g:D->D}(h2:Qax par ρ (cs.filterMap Cp.is)=some di)(h3:QbP ρ cs di=some ρb)
  (hs:∀d∈ds,∃ρ0,Y1 ρb j d=some ρ0/\te ρ0=.ok (g d,ρ0)/\ρ0.set j none=ρb) (l:ds.length<=z15) (ho:outs (ioB cs) ρb=some os) (hp:VW par ρ (cs.filterMap Cp.is) os=ρ) (hk:k (.lst (ds.map g),ρ)):W (cmK par cs j QgS te (ds,ρ)) k:=by
 have:=comp_map (par:=par) (cs:=cs) (j:=j) (mi:=fun ρ=>.ok (ds,ρ)) (ρ:=ρ) rfl h2 h3 hs l ho hp
 exact⟨_,this,hk⟩
theorem Qc4 {f:D->D->Option Bool}:∀{ds:List D},(∀d∈ds,f d d=some true)->Qe8 f ds ds=some true
 | [],_=>rfl
 |d::ds,h=>by
  rw[Qe8,h d z07,Qc4 fun x hx=>h x (z08 _ hx)];rfl
def D.pln:Nat->D->Bool
 |0,_=>false
 |n+1,.nd .lst ds=>ds.all (D.pln n)
 |n+1,.nd .tup ds=>ds.all (D.pln n)
 |_+1,.int _=>true
 |_+1,.str _=>true
 |_+1,.bl _=>true
 |_+1,.non=>true
 |_,_=>false
theorem Qcy:∀(n:Nat) (d:D),d.pln n=true->eqb n d d=some true
 |0,_,h=>by rw[D.pln] at h;cases h
 |n+1,.nd .lst ds,h=>by
  show(if ds.length=ds.length then Qe8 (eqb n) ds ds else _)=_
  rw[if_pos rfl]
  exact Qc4 fun d hd=>Qcy n d (z74.mp h d hd)
 |n+1,.nd .tup ds,h=>by
  show(if ds.length=ds.length then Qe8 (eqb n) ds ds else _)=_
  rw[if_pos rfl]
  exact Qc4 fun d hd=>Qcy n d (z74.mp h d hd)
 |n+1,.int i,_=>by show eqS (V.int i) (V.int i)=_;unfold eqS;rw[if_pos (by rfl)];simp
 |n+1,.str i,_=>by show eqS (V.str i) (V.str i)=_;unfold eqS;rw[if_pos (by rfl)];simp
 |n+1,.bl i,_=>by show eqS (V.bl i) (V.bl i)=_;unfold eqS;rw[if_pos (by cases i<;>rfl)];simp
 |n+1,.non,_=>by show eqS (V.non) (V.non)=_;unfold eqS;rw[if_pos (by rfl)];simp
 |n+1,.nd (.ins _ _) _,h=>by simp[D.pln] at h
 |n+1,.nd (.dT _) _,h=>by simp[D.pln] at h
 |n+1,.nd (.dK _) _,h=>by simp[D.pln] at h
 |n+1,.nd (.exc _) _,h=>by simp[D.pln] at h
 |n+1,.ty _,h=>by simp[D.pln] at h
 |n+1,.cls _,h=>by simp[D.pln] at h
theorem QlS {d:D}(h:d.pln 30=true):gEq d d=some (.bl true):=by
 show(eqb 30 d d).map _=_
 rw[Qcy 30 d h];rfl
theorem QhL {d:D}(h:d.pln 30=true):gNe d d=some (.bl false):=by
 show(eqb 30 d d).map _=_
 rw[Qcy 30 d h];rfl
end
section
variable {X:Cx}{C:Cn}{E:XE}{p pa pb:Bool}{o e a c:Expr}{es:List Expr}{m mo:ME}{mr:MA}{pos apos:Pos}{ka rk:Kd}{ks:List Kd}{n:Nat}{ps:List Str}{sp:Sp}{x nm f:Str}{t:TA}{ta:TE}{k:Addr}
def Qj8:List Str->List D->Str->Option D
 |n::ns,d::ds,f=>if(f == n)=true then some d else Qj8 ns ds f
 |_,_,_=>none
theorem QhM {K:z01}{F:Hp}:∀{ns:List Str} {vs:List L2.V} {ds:List D} {f:Str} {d:D},RL K F vs ds->Qj8 ns ds f=some d->∃v,(ns.zip vs).lookup f=some v/\R K F v d
 | [],_,_,_,_,_,h=>by cases h
 |_::_,_,_,_,_,.nil,h=>by cases h
 |n::ns,v::vs,d::ds,f,y,.cons r q,h=>by
  rw[z89,z73]
  rw[Qj8] at h
  by_cases e:(f == n)=true
  ·rw[if_pos e] at h;cases h
   rw[e];exact⟨v,rfl,r⟩
  ·rw[if_neg e] at h
   obtain⟨w,h1,h2⟩:=QhM q h
   have e':(f == n)=false:=by simpa using e
   rw[e'];exact⟨w,h1,h2⟩
def Qj9 (k:Addr)(f:Str):D->Option D
 |.nd (.ins k' ns) ds=>if k'=k then Qj8 ns ds f else none
 |_=>none
theorem Qoa {K:z01}{F:Hp}{v:L2.V}{d y:D}(r:R K F v d)(g:Qj9 k f d=some y):∃a dx fs w,v=.ref a/\F a=some (.ins k dx fs)/\fs.lookup f=some w/\R K F w y:=by
 unfold Qj9 at g
 split at g
 ·split at g
  ·rename_i hk
   subst hk
   obtain⟨a,vs,rfl,⟨hl,dx,ha,_⟩,rl⟩:=r.inv
   obtain⟨w,hw,rw'⟩:=QhM rl g
   exact⟨a,dx,_,w,rfl,ha,hw,rw'⟩
  ·cases g
 ·cases g
theorem Qd3 (c:Cls X.K k)(na:Qa3 X.K k f)(he:PE X e (tX .V C p E m))(hb:attributeBase e f X.env (eval e X.env)=eval e X.env:=by rfl):PE X (.Attribute e f pos) (tX .V C p E (mUn (Qj9 k f) m)):=Qv (Qpg he hb) fun σ H Q ⟨F,ρ,τ,fp,I,h⟩=>
 ⟨F,ρ,τ,fp,I,h.split.mono fun r1 h1 F1 H1 fp1 v I1 n1 f1=>by
  obtain⟨z,ez,h3⟩:=h1.of
  obtain⟨res,eg,rfl⟩:=z03.mp ez
  obtain⟨a,dx,fs,w,rfl,ha,hw,rw'⟩:=Qoa f1 eg
  exact⟨a,k,dx,fs,w,rfl,I1.fh _ _ ha,c,na,hw,h3 F1 H1 fp1 w I1 n1 rw'⟩⟩
def Qka (C:Addr)(m:Str)(sp:Sp)(E:XE)(ta:TE)(t:TA):TE:=fun σ H Q=>ta σ H fun x H1=>∃a dx fs,x=.ref a/\H1 a=some (.ins C dx fs)/\fs.lookup m=none/\
 t σ H1 fun vs H2=>sp (x::vs) H2 Q (E σ)
theorem Qth {pl:Sem Bool}(he:PE X o ta)(c:Cls X.K k)(D:QI X.prog X.w X.K X.mg X.base k n nm ps sp)(hx:Qbz X E)(hr:Qao n X.A)(ha:PA X (e::es) t)
  (hst:starEach (e::es) X.env=(false,eval e X.env)::starEach es X.env:=by rfl) (hpl:(backTo pos (starEach es X.env)).any (·.1)=false:=by rfl)
  (ht:eval (.Call (.Attribute o nm apos) (e::es) [] pos) X.env=(do
   let ov ← eval o X.env
   standAt apos.atName
   let (f,first) ← holding [ov] (getMethod ov nm pl)
   callWith pos f first (backTo pos (starEach (e::es) X.env)) (backToKw pos (keywordEach [] X.env))):=by rfl) :
  PE X (.Call (.Attribute o nm apos) (e::es) [] pos) (Qka k nm sp E ta t):=by
 obtain⟨f,fd,F,hm,hb⟩:=D.ex
 intro pins s σ H Q I h
 refine zq3 (pl:=pl) (thn (he pins s σ H _ I h) fun u s1 hz=>?_) ht
 obtain⟨x,H1,I1,rx,a,dx,fs,ex,ea,l,q⟩:=hz
 subst ex
 obtain rfl:u=z44 a:=rx
 refine QdR I1 ea c hm l ?_
 refine zk1 (first:=[.ref a]) (h₀:=X.base) I.ok.mod.kin hm.kp (thn (ha pos pins s1 σ H1 _ I1 q) fun us s2 hz=>?_) hst hpl
 obtain⟨vs,H2,I2,r,q2⟩:=hz
 refine⟨I2.kIn,?_⟩
 exact QgR (us:=.ref a::us) (vs:=.ref a::vs) F hr hb hx I2 (.cons rfl r) q2
theorem Qri {pl:Sem Bool}(he:PE X o ta)(c:Cls X.K k)(D:QI X.prog X.w X.K X.mg X.base k n nm ps sp)(hx:Qbz X E)(hr:Qao n X.A)
  (ht:eval (.Call (.Attribute o nm apos) [] [] pos) X.env=(do
   let ov ← eval o X.env
   standAt apos.atName
   let (f,first) ← holding [ov] (getMethod ov nm pl)
   callWith pos f first (backTo pos (starEach [] X.env)) (backToKw pos (keywordEach [] X.env))):=by rfl) :
  PE X (.Call (.Attribute o nm apos) [] [] pos) (Qka k nm sp E ta Qsk):=by
 obtain⟨f,fd,F,hm,hb⟩:=D.ex
 intro pins s σ H Q I h
 refine zq3 (pl:=pl) (thn (he pins s σ H _ I h) fun u s1 hz=>?_) ht
 obtain⟨x,H1,I1,rx,a,dx,fs,ex,ea,l,q⟩:=hz
 subst ex
 obtain rfl:u=z44 a:=rx
 refine QdR I1 ea c hm l ?_
 exact PySem.W.callWith_K0 (first:=[.ref a]) I1.kIn hm.kp (QgR (us:=[.ref a]) (vs:=[.ref a]) F hr hb hx I1 (.cons rfl .nil) q)
def QfU (k:Addr)(nm:Str):D->Bool
 |.nd (.ins k' ns) _=>decide (k'=k) && ns.all (fun n=>!(nm == n))
 |_=>false
theorem QlT {K:z01}{F:Hp}{v:L2.V}{d:D}(r:R K F v d)(g:QfU k nm d=true):∃a dx fs,v=.ref a/\F a=some (.ins k dx fs)/\fs.lookup nm=none:=by
 unfold QfU at g
 split at g
 ·rename_i k' ns ds
  obtain⟨g1,g2⟩:=z66.mp g
  have hk:k'=k:=of_decide_eq_true g1
  subst hk
  obtain⟨a,vs,rfl,⟨hl,dx,ha,_⟩,rl⟩:=r.inv
  refine⟨a,dx,_,rfl,ha,?_⟩
  clear ha hl rl g g1 r
  induction ns generalizing vs with
  |nil=>rfl
  |cons n ns ih=>
   obtain⟨h1,h2⟩:=z66.mp (show((!(nm == n)) && ns.all (fun n=>!(nm == n)))=true from g2)
   cases vs with
   |nil=>rfl
   |cons v vs=>
    rw[z89,z73]
    have:(nm == n)=false:=by simpa using h1
    rw[this]
    exact ih h2 vs
 ·cases g
def Qc5 (k:Addr)(nm:Str)(m:ME):ME:=fun ρ=>(m ρ).bind fun r=>if QfU k nm r.1=true then .ok r else .no
theorem QhN {f:List D->Fr}{io:List Bool}(hio:(false::io).all (!·)=true)(hl:io.length=ks.length)(hrk:rk=.V\/rk=.O)(ok:rdL (ka::ks)=true)(oka:ka.ona pb=true){σ:L2.St}{H:Hp}{Q:VK}(h:tX rk C (pa && pb) E (Ql rk f (Qb (Qc5 k nm mo) mr)) σ H Q) :
  Qka k nm (spF C.K (false::io) rk f) E (tX ka C pa E mo) (tA ks C pb E mr) σ H Q:=by
 have q:=QfF (ks:=ka::ks) (pa:=pa && pb) hio (by rw[z24,z24,hl]) hrk ok h
 obtain⟨F,ρ,τ,fp,I,h⟩:=q
 refine⟨F,ρ,τ,fp,I,?_⟩
 have h':Run C E σ ((Qc5 k nm mo ρ).bind fun r=>(mr r.2).bind fun q=>.ok (r.1::q.1,q.2)) _:=h
 have h2:Run C E σ ((mo ρ).bind fun r=>if QfU k nm r.1=true then .ok r else .no) _:=h'.split
 refine h2.split.mono fun r0 h3 F1 H1 fp1 v I1 n1 f1=>?_
 by_cases hk:QfU k nm r0.1=true
 ·rw[if_pos hk] at h3
  have okr:ka.on true=true:=by
   cases ka with
   |V=>rfl
   |B=>rfl
   |O=>cases ok
   |S i=>cases ok
  have I1':=I1
  rw[Kd.Vg okr] at I1'
  obtain⟨a,dx,fs,rfl,ha,hf⟩:=QlT (R.top I1' (Kd.stay okr f1 .refl I1')) hk
  refine⟨a,dx,fs,rfl,ha,hf,F1,r0.2,τ,fp1,I1',h3.split.mono fun r2 h4 F2 H2 fp2 vs I2 n2 f2=>?_⟩
  have I2':SI C F2 H2 σ r2.2 (tkL (ka::ks) (.ref a::vs) (r0.1::r2.1) τ) fp2:=by
   show SI C F2 H2 σ r2.2 (tkL ks vs r2.1 (ka.tk (.ref a) r0.1 τ)) fp2
   rw[Kd.Vg okr];exact I2
  exact h4 F2 H2 fp2 (.ref a::vs) I2' (n1.trans n2) (.cons (Kd.QpW oka f1 n2) f2)
 ·rw[if_neg hk] at h3;exact h3.elim
theorem x_m {pl:Sem Bool}{f:List D->Fr}{io:List Bool}(D:QI X.prog X.w X.K X.mg X.base k n nm ps (spF C.K (false::io) rk f))(c:Cls X.K k)(hx:Qbz X E)(hr:Qao n X.A)(ho:PE X o (tX ka C pa E mo))(ha:PA X (e::es) (tA ks C pb E mr))(hio:(false::io).all (!·)=true:=by rfl)(hl:io.length=ks.length:=by rfl)(hrk:rk=.V\/rk=.O:=by first|exact .inl rfl|exact .inr rfl)(ok:rdL (ka::ks)=true:=by rfl)(oka:ka.ona pb=true:=by rfl)
  (hst:starEach (e::es) X.env=(false,eval e X.env)::starEach es X.env:=by rfl) (hpl:(backTo pos (starEach es X.env)).any (·.1)=false:=by rfl)
  (ht:eval (.Call (.Attribute o nm apos) (e::es) [] pos) X.env=(do
   let ov ← eval o X.env
   standAt apos.atName
   let (f,first) ← holding [ov] (getMethod ov nm pl)
   callWith pos f first (backTo pos (starEach (e::es) X.env)) (backToKw pos (keywordEach [] X.env))):=by rfl) :
  PE X (.Call (.Attribute o nm apos) (e::es) [] pos) (tX rk C (pa && pb) E (Ql rk f (Qb (Qc5 k nm mo) mr))):=Qv (Qth (pl:=pl) ho c D hx hr ha hst hpl ht) fun _ _ _ h=>QhN hio hl hrk ok oka h
theorem Qob {σ:L2.St}{H:Hp}{Q:List L2.V->Hp->Prop}(h:tA [] C true E Qr σ H Q):Qsk σ H Q:=by
 obtain⟨F,ρ,τ,fp,I,h⟩:=h
 exact h F H fp [] I .refl .nil
theorem QoR {pl:Sem Bool}{f:List D->Fr}(D:QI X.prog X.w X.K X.mg X.base k n nm ps (spF C.K [false] rk f))(c:Cls X.K k)(hx:Qbz X E)(hr:Qao n X.A)(ho:PE X o (tX ka C pa E mo))(hrk:rk=.V\/rk=.O:=by first|exact .inl rfl|exact .inr rfl)(ok:rdL [ka]=true:=by rfl)(oka:ka.ona true=true:=by rfl)
  (ht:eval (.Call (.Attribute o nm apos) [] [] pos) X.env=(do
   let ov ← eval o X.env
   standAt apos.atName
   let (f,first) ← holding [ov] (getMethod ov nm pl)
   callWith pos f first (backTo pos (starEach [] X.env)) (backToKw pos (keywordEach [] X.env))):=by rfl) :
  PE X (.Call (.Attribute o nm apos) [] [] pos) (tX rk C (pa && true) E (Ql rk f (Qb (Qc5 k nm mo) Qr))):=Qv (Qri (pl:=pl) ho c D hx hr ht) fun σ H Q h=>by
 have q:=QhN (io:=[]) (ks:=[]) (pb:=true) rfl rfl hrk ok oka h
 obtain⟨F,ρ,τ,fp,I,q⟩:=q
 exact⟨F,ρ,τ,fp,I,q.mono fun r z F1 H1 fp1 v I1 n1 f1=>by
  obtain⟨a,dx,fs,h1,h2,h3,h4⟩:=z F1 H1 fp1 v I1 n1 f1
  exact⟨a,dx,fs,h1,h2,h3,Qob h4⟩⟩
end
def spI (K:z01)(k:Addr)(m:Addr->D->Fr):Sp:=fun vs H Q E=>∃x dx v,vs=[.ref x,v]/\H x=some (.ins k dx [])/\H dx=some (.own x)/\∃F d,R K F v d/\Qz F H/\F x=none/\match m x d with
 |.ok r _=>∀F' H' ns us ds,r=.nd (.ins k ns) ds->Qz F F'->Qz F' H'->F' x=none->(∀b o,F' b=some o->F b=some o\/Nw H b o)->(∀b o,b≠x->H b=some o->H' b=some o)->(∀b,H' b=none->H b=none)->RL K F' us ds->ns.length=us.length->H' x=some (.ins k dx (ns.zip us))->Q .non H'
 |.ex c=>∀H',(∀b o,b≠x->H b=some o->H' b=some o)->(∀b,H' b=none->H b=none)->E (.ref c) none H'
 |.no=>False
open Classical in
noncomputable def QmH (f:Addr->D->Fr)(d:D):Fr:=if ∀x,f x d=f 0 d then f 0 d else .no
theorem Qoc {f:Addr->D->Fr}{d:D}{r:Fr}(h:∀x,f x d=r):QmH f d=r:=by
 unfold QmH
 rw[if_pos fun x=>(h x).trans (h 0).symm]
 exact h 0
theorem Qkb {f:Addr->D->Fr}{d:D}(h:QmH f d≠.no):∀x,f x d=QmH f d:=by
 unfold QmH at h ⊢
 by_cases c:∀x,f x d=f 0 d
 ·rw[if_pos c];exact c
 ·rw[if_neg c] at h;exact absurd rfl h
def Qt3:List D->Option D
 | [d]=>some d
 |_=>none
def QiA (k:Addr):D->Bool
 |.nd (.ins k' ns) ds=>decide (k'=k) && ns.length == ds.length
 |_=>false
noncomputable def Qkc (k:Addr)(f:Addr->D->Fr)(mr:MA):ME:=fun ρ=>(mr ρ).bind fun r=>(Rs.of (Qt3 r.1)).bind fun d=>match QmH f d with
 |.ok i _=>if(QiA k i && i.imm)=true then .ok (i,r.2) else .no
 |.ex c=>.ex c r.2
 |.no=>.no
def QmI (k:Addr)(sp:Sp)(E:XE)(t:TA):TE:=fun σ H Q=>t σ H fun vs H1=>∀x dx,H1 x=none->H1 dx=none->dx≠x->
 sp (.ref x::vs) (upd (upd H1 dx (.own x)) x (.ins k dx [])) (fun v H2=>v=.non/\Q (.ref x) H2) (E σ)
section
variable {X:Cx}{C:Cn}{E:XE}{pa:Bool}{o e a b c:Expr}{es:List Expr}{mr:MA}{pos px:Pos}{ks:List Kd}{n:Nat}{ps:List Str}{sp:Sp}{x f:Str}{t:TA}{k:Addr}
theorem Qkd {f:Addr}{fd:FuncData}{pins:List (Addr×Obj)}{σ:L2.St}{H:Hp}{s:Shared}{Q:VK}{us:List Value}{vs:List L2.V}(M:Mk X.K k f)(F:JF X.prog X.w X.K X.mg X.base (CXe X.prog X.w) n f fd ps sp)(hr:Qao (n+1) X.A)(hb:Binds X.K fd ps [])
  (hx:Qbz X E) (I:Inv X pins σ H s) (r:Vals vs us)
  (h:∀x dx,H x=none->H dx=none->dx≠x->sp (.ref x::vs) (upd (upd H dx (.own x)) x (.ins k dx [])) (fun v H2=>v=.non/\Q (.ref x) H2) (E σ)) :
  wpAny (model X.prog X.w) X.A (call (.ref k) us) (EP X pins σ Q) X.xe s:=by
 have hq:=h (s.heap.objs.size+1) s.heap.objs.size (I.hok.fresh (zf7 _)) (I.hok.fresh (z27 _)) (z52 (zo1 _))
 have I2:=Inv.made (C:=k) I
 have r2:Vals (L2.V.ref (s.heap.objs.size+1)::vs) (z44 (s.heap.objs.size+1)::us):=.cons rfl r
 have hl:(z44 (s.heap.objs.size+1)::us++[]).length=ps.length:=by
  have e:=r2.length
  rw[F.len _ _ _ _ hq] at e
  rw[z53]
  exact e.symm
 have hb':=hb _ (z44 (s.heap.objs.size+1)::us) I2.kIn hl
 rw[z53] at hb'
 refine wpAny_call (Qlj (f:=f) I.kIn M.makes M.init (beq_iff_eq.mp M.fn) (zp6 (F.run _ X.stack _ _ ⟨z44 (s.heap.objs.size+1)::us,[]⟩ (z44 (s.heap.objs.size+1)::us) _ _ (E σ) (hr.make k us []) (I2.env0.make k us []) hb' r2 hq) fun r s' hq'=>?_))
 cases r with
 |error e=>exact hx pins σ _ _ e s' I2 hq'
 |ok fl=>
  cases fl with
  |ret u=>
   obtain⟨v,H',I3,rv,ev,q3⟩:=I2.after hq'
   subst ev
   exact⟨rv,⟨L2.V.ref (s.heap.objs.size+1),H',I3,rfl,q3⟩⟩
  |next=>exact zb6 hq'
  |brk=>exact zb6 hq'
  |cont=>exact zb6 hq'
theorem Qod (D:QaT X.prog X.w X.K X.mg X.base k n x ps sp)(hx:Qbz X E)(hr:Qao (n+1) X.A)(ha:PA X (e::es) t)(hg:Gl X x:=by rfl)
  (hdb:(x == ("__debug__" : Str))=false:=by decide) (he:starEach (e::es) X.env=(false,eval e X.env)::starEach es X.env:=by rfl) (hpl:(backTo pos (starEach es X.env)).any (·.1)=false:=by rfl) :
  PE X (.Call (.Name x px) (e::es) [] pos) (QmI k sp E t):=by
 obtain⟨f,fd,F,M,hm,hb⟩:=D.ex
 intro pins s σ H Q I h
 refine zf5 (Qgt I hg hm ?_ hdb)
 refine zk1 (h₀:=X.base) I.ok.mod.kin M.kp (thn (ha pos pins s σ H _ I h) fun us s1 hz=>?_) he hpl
 obtain⟨vs,H1,I1,r,q⟩:=hz
 refine⟨I1.kIn,?_⟩
 exact Qkd M F hr hb hx I1 r q
theorem QlU {f:Addr->D->Fr}(ok:rdL ks=true){σ:L2.St}{H:Hp}{Q:VK}(h:tX .V C pa E (Qkc k f mr) σ H Q):QmI k (spI C.K k f) E (tA ks C pa E mr) σ H Q:=by
 obtain⟨F,ρ,τ,fp,I,h⟩:=h
 refine⟨F,ρ,τ,fp,I,h.split.mono fun r hr F1 H1 fp1 vs I1 n1 f1=>?_⟩
 rw[Y0 ok] at I1
 have rl:=f1.rd I1 ok
 obtain⟨d,ed,h2⟩:=hr.split.of
 have e1:r.1=[d]:=by
  unfold Qt3 at ed
  split at ed
  ·rename_i q;cases ed;exact q
  ·cases ed
 rw[e1] at rl
 obtain⟨v,rfl,rv⟩:=rl.one
 intro x dx hx hdx ne
 have up:Qz H1 (upd (upd H1 dx (.own x)) x (.ins k dx [])):=(Qz.upd hdx).trans (Qz.upd (by rw[Qp (zd4 ne)];exact hx))
 have kx:∀b o,H1 b=some o->b≠x/\b≠dx:=fun b o e=>⟨QL e hx,QL e hdx⟩
 have up0:∀b,upd (upd H1 dx (.own x)) x (.ins k dx []) b=none->H1 b=none:=fun b e=>up.free e
 refine⟨x,dx,v,rfl,Qy,by rw[Qp ne,Qy],jn F1 H1 fp1,d,rv,(Qap I1.fh).trans up,(Qap I1.fh).free hx,?_⟩
 have hmt:∀{F':Hp},Qz (jn F1 H1 fp1) F'->∀b∈fp1,∀o,F' b=some o->Mbl o:=fun{F'} s b hb o e=>by
  obtain⟨o',e',z⟩:=I1.mem b hb
  have q:=s b o' (by rw[VS hb];exact e')
  rw[e] at q;cases q
  exact z
 cases ef:QmH f d with
 |no=>rw[ef] at h2;exact h2.elim
 |ex c=>
  rw[ef] at h2
  rw[Qkb (f:=f) (d:=d) (by rw[ef];exact fun z=>nomatch z) x,ef]
  dsimp only at h2 ⊢
  intro H' kp' dm'
  have kp1:∀b o,H1 b=some o->H' b=some o:=fun b o e=>kp' b o (kx b o e).1 (up b o e)
  have J:SI C F1 H' σ r.2 τ fp1:=I1.step (Qz.refl _) (fun b o e=>kp1 b o (I1.fh b o e)) (fun a ha=>by
   obtain⟨o,e,_⟩:=I1.mem a ha
   rw[e,kp1 a o e]) I1.ap (fun _ _ z=>.inl z) (fun b o _ _ e=>kp1 b o e) (fun b e=>up0 b (dm' b e))
  obtain⟨fp2,J2⟩:=J.drop
  exact h2 F1 H' fp2 J2
 |ok i os=>
  rw[ef] at h2
  rw[Qkb (f:=f) (d:=d) (by rw[ef];exact fun z=>nomatch z) x,ef]
  dsimp only at h2 ⊢
  intro F' H' ns us ds er sF fh' fx fn' kp' dm' rl' hlen hx'
  subst er
  refine⟨rfl,?_⟩
  by_cases ci:(QiA k (.nd (.ins k ns) ds) && (D.nd (.ins k ns) ds).imm)=true
  ·rw[if_pos ci] at h2
   obtain⟨_,im⟩:=z66.mp ci
   have kp1:∀b o,H1 b=some o->H' b=some o:=fun b o e=>kp' b o (kx b o e).1 (up b o e)
   have Qt4:H' dx=some (.own x):=kp' dx _ ne (by rw[Qp ne,Qy])
   have sN:Qz F1 (lo F' fp1):=fun b o e=>by
    have nb:b∉fp1:=fun z=>by rw[I1.ap b z] at e;cases e
    rw[Qa4 nb]
    exact sF b o (by rw[JG nb];exact e)
   have nx:∀a∈fp1,a≠x/\a≠dx:=fun a ha=>by
    obtain⟨o,e,_⟩:=I1.mem a ha
    exact kx a o e
   let G:Hp:=upd (upd (lo F' fp1) dx (.own x)) x (.ins k dx (ns.zip us))
   have sG:Qz (lo F' fp1) G:=fun b o e=>by
    have e2:F' b=some o:=lo_le b o e
    have nb:b≠x:=fun z=>by subst z;rw[fx] at e2;cases e2
    show upd (upd (lo F' fp1) dx (.own x)) x _ b=_
    rw[Qp nb]
    by_cases hd:b=dx
    ·subst hd
     rw[Qy]
     have:=fh' b o e2
     rw[Qt4] at this
     exact this
    ·rw[Qp hd];exact e
   have GH:Qz G H':=fun b o e=>by
    have e:upd (upd (lo F' fp1) dx (.own x)) x (.ins k dx (ns.zip us)) b=some o:=e
    by_cases hb:b=x
    ·subst hb;rw[Qy] at e;rw[hx'];exact e
    ·rw[Qp hb] at e
     by_cases hd:b=dx
     ·subst hd;rw[Qy] at e;rw[Qt4];exact e
     ·rw[Qp hd] at e;exact fh' b o (lo_le b o e)
   have J:SI C G H' σ r.2 τ fp1:=by
    refine I1.step (sN.trans sG) GH (fun a ha=>?_) (fun a ha=>?_) (fun b o e=>?_) (fun b o _ _ e=>kp1 b o e) (fun b e=>up0 b (dm' b e))
    ·obtain⟨o,e,_⟩:=I1.mem a ha
     rw[e,kp1 a o e]
    ·show upd (upd (lo F' fp1) dx (.own x)) x _ a=none
     rw[Qp (nx a ha).1,Qp (nx a ha).2];exact Qir ha
    ·have e:upd (upd (lo F' fp1) dx (.own x)) x (.ins k dx (ns.zip us)) b=some o:=e
     by_cases hb:b=x
     ·subst hb;exact .inr (.inl (I1.dm _ hx))
     ·rw[Qp hb] at e
      by_cases hd:b=dx
      ·subst hd;exact .inr (.inl (I1.dm _ hdx))
      ·rw[Qp hd] at e
       have nb:b∉fp1:=fun z=>by rw[Qir z] at e;cases e
       rw[Qa4 nb] at e
       rcases fn' b o e with z|z
       ·rw[JG nb] at z;exact .inl z
       ·exact .inr (z.up fun y=>I1.dm b (up0 b y))
   have rd:R C.K G (.ref x) (.nd (.ins k ns) ds):=by
    refine .nd (t:=.ins k ns) ⟨hlen,dx,Qy,?_⟩ ((RL.lo (hmt sF) rl' (QcP im).2).same sG)
    show upd (upd (lo F' fp1) dx (.own x)) x _ dx=_
    rw[Qp ne,Qy]
   refine h2 G H' fp1 (.ref x) J ((n1.trans (q:=true) ⟨sN.trans sG,fun _ b o e=>?_⟩).weak fun z=>by simp[z]) rd
   by_cases hb:b∈fp1
   ·rw[VS hb] at e
    rw[VS hb]
    exact kp1 b o e
   ·rw[JG hb] at e
    rw[JG hb]
    exact(sN.trans sG) b o e
  ·rw[if_neg ci] at h2;exact h2.elim
theorem QlV {f:Addr->D->Fr}(D:QaT X.prog X.w X.K X.mg X.base k n x ps (spI C.K k f))(hx:Qbz X E)(hr:Qao (n+1) X.A)(ha:PA X (e::es) (tA ks C pa E mr))(ok:rdL ks=true:=by rfl)(hg:Gl X x:=by rfl)
  (hdb:(x == ("__debug__" : Str))=false:=by decide) (he:starEach (e::es) X.env=(false,eval e X.env)::starEach es X.env:=by rfl) (hpl:(backTo pos (starEach es X.env)).any (·.1)=false:=by rfl) :
  PE X (.Call (.Name x px) (e::es) [] pos) (tX .V C pa E (Qkc k f mr)):=Qv (Qod D hx hr ha hg hdb he hpl) fun _ _ _ h=>QlU ok h
end
def selfAt:Option (Option Sl)->Option Addr
 |some (some (.frz (.cls y)))=>some y
 |_=>none
def Qd4 (x:Addr)(ρ:Rho):Bool:=decide (selfAt ρ[0]? = some x)
theorem Qke {x:Addr}{ρ:Rho}(h:Qd4 x ρ=true):ρ[0]? = some (some (.frz (.cls x))):=by
 have h:selfAt ρ[0]? = some x:=of_decide_eq_true h
 unfold selfAt at h
 split at h
 ·next e=>rw[e,z22 h]
 ·cases h
def Qr1 (k:Addr)(n:Nat)(f:Str)(me:ME)(x:Addr)(d:D):Fr:=match me (QlJ [false,false] n [.cls x,d]) with
 |.ok (r,ρ)=>if Qd4 x ρ=true then .ok (.nd (.ins k [f]) [r]) [] else .no
 |.ex c _=>.ex c
 |.no=>.no
def Qkf (ms:MS)(me:ME):ME:=fun ρ=>(ms ρ).bind fun r=>match r.1 with
 |.nx=>me r.2
 |_=>.no
def Qr2 (C:Cn)(E:XE)(f:Str)(x:Addr)(me:ME):TS:=fun D σ H=>∃F ρ fp,SI C F H σ ρ [] fp/\QfD C E (me ρ) fun r=>Qd4 x r.2=true/\∀F' H' σ' fp' v,Qz F F'->SI C F' H' σ' r.2 [] fp'->R C.K F' v r.1->∃k dx,H' x=some (.ins k dx [])/\Cls C.K k/\Qa3 C.K k f/\D.nx σ' (upd H' x (.ins k dx [(f,v)]))
section
variable {X:Cx}{C:Cn}{E:XE}{p:Bool}{e:Expr}{me:ME}{ms:MS}{pos p1 p2:Pos}{f:Str}{x:Addr}{st:Stmt}{rest:List Stmt}
theorem Qti (hK:C.K=X.K)(hN:X.N[0]? = some ("self" : Str))(hv:Vis X.env.scope "self")(he:PE X e (tX .V C p E me))(hs:swapsWith e (some (.Attribute (.Name "self" p1) f p2)) pos.line X.env=pure false:=by rfl):PSs X [.Assign [.Attribute (.Name "self" p1) f p2] e pos] (Qr2 C E f x me):=
 Qcu (QiV (Qph (Qar hN hv (by decide) (by decide)) he hs)) fun D σ H ⟨F,ρ,fp,I,h⟩=>by
  refine⟨F,ρ,[],fp,I,h.run.mono fun r ⟨h1,h2⟩ F1 H1 fp1 v I1 n1 f1=>?_⟩
  have e0:=Qke h1
  obtain⟨y,f0,g0,rest,ey,s1,_⟩:=I1.cut e0
  cases s1 with
  |frz hr=>
   obtain rfl:=hr.QW (w:=.ref x) rfl
   obtain⟨k,dx,a1,a2,a3,a4⟩:=h2 F1 H1 σ fp1 v n1.f I1 f1
   exact⟨_,ey,x,k,dx,[],rfl,a1,hK▸a2,hK▸a3,by decide,a4⟩
theorem QmJ (h1:PS X st (tS .V C E ms))(h2:PSs X rest (Qr2 C E f x me)):PSs X (st::rest) (Qr2 C E f x (Qkf ms me)):=Qcu (Qhf h1 h2) fun D σ H ⟨F,ρ,fp,I,h⟩=>by
 refine⟨F,ρ,fp,I,h.split.mono fun r hr=>?_⟩
 obtain⟨fl,ρ1⟩:=r
 cases fl with
 |nx=>exact fun F1 H1 σ1 fp1 s1 I1=>⟨F1,ρ1,fp1,I1,hr.mono fun q z=>⟨z.1,fun F' H' σ' fp' v s2=>z.2 F' H' σ' fp' v (s1.trans s2)⟩⟩
 |rt d=>exact hr.elim
 |bk=>exact hr.elim
 |ct=>exact hr.elim
end
theorem fnI {P:Program}{w:World}{K:z01}{mg:Str->Option Value}{base:Heap}{x qual y fl:Str}{st:Stmt}{f k:Addr}{fd:FuncData}{N:List Str}{n:Nat}{me:ME}(Fn:Fun K x qual st f fd)(S:Qs N ["self",y] (Qf st))(c:Cls K k)(na:Qa3 K k fl)
  (hbody:∀(cdv:Value) (A:Around) (outer:List Env) (s:Shared) (H:Hp) (E:XK) (C:Cn) (x:Addr),C.K=K->Qao n (A.deeper (zo3 qual (Qf st) s.heap.objs.size f cdv))->A.handled=none->
   PSs (Qib (CXe P w) P w K mg base N qual (Qf st) f cdv A outer s H E) (VR st) (Qr2 C (fun _=>E) fl x me)):JF P w K mg base (CXe P w) (n+1) f fd ["self",y] (spI K k (Qr1 k N.length fl me)):=by
 refine Fn.okE S (fun vs H Q E h=>?_) (fun cdv A outer s H vs Q E hr hd h=>?_)
 ·obtain⟨_,_,_,rfl,_⟩:=h;rfl
 ·obtain⟨x,dx,v,rfl,hx,hdx,F,d,rv,fh,fx,h⟩:=h
  let C:Cn:=⟨K,H,F,[],[]⟩
  refine⟨_,hbody cdv A outer s H E C x rfl hr hd,?_⟩
  have al:AL K F H [false,false] [.ref x,v] [.cls x,d] []:=.val (.sc rfl) (.val rv .nil)
  have I:SI C F H (L2.start N [.ref x,v]) (QlJ [false,false] N.length [.cls x,d]) [] []:=by
   refine⟨⟨[],[],[],QhD (N:=N) (r:=N.length - 2) al,.nil,.refl _,(fun _ z=>nomatch z),(fun _ z=>nomatch z),(fun _ z=>nomatch z)⟩,zf8,(fun _ z=>nomatch z),fh,Qz.refl F,fun b o e=>.inl e,fun b o e _=>e,fun b e=>e,fun j v hj=>nomatch hj⟩
  refine⟨F,_,[],I,?_⟩
  unfold Qr1 at h
  cases em:me (QlJ [false,false] N.length [.cls x,d]) with
  |no=>rw[em] at h;exact h.elim
  |ex c ρ=>
   rw[em] at h
   exact fun F' H' σ' fp' J=>h H' (fun b o _ e=>J.kp b o e (by simp[C])) J.dm
  |ok q=>
   obtain⟨r,ρ⟩:=q
   rw[em] at h
   dsimp only at h
   by_cases hs:Qd4 x ρ=true
   ·rw[if_pos hs] at h
    refine⟨hs,fun F' H' σ' fp' u s' J ru=>?_⟩
    have hx':H' x=some (.ins k dx []):=J.kp x _ hx (by simp[C])
    refine⟨k,dx,hx',c,na,?_⟩
    have fx':F' x=none:=by
     cases e:F' x with
     |none=>rfl
     |some o=>
      rcases J.fn x o e with z|z
      ·have z:F x=some o:=z
       rw[fx] at z;cases z
      ·rcases z with z|z
       ·have z:H x=none:=z
        rw[hx] at z;cases z
       ·have e3:=J.fh x o e
        rw[hx'] at e3;cases e3;exact z.elim
    refine h F' _ [fl] [u] [r] rfl J.f0 (fun b o e=>?_) fx' J.fn (fun b o hb e=>?_) (fun b e=>?_) (.cons ru .nil) rfl Qy
    ·by_cases hb:b=x
     ·subst hb;rw[fx'] at e;cases e
     ·rw[Qp hb];exact J.fh b o e
    ·rw[Qp hb];exact J.kp b o e (by simp[C])
    ·by_cases hb:b=x
     ·subst hb;rw[Qy] at e;cases e
     ·rw[Qp hb] at e;exact J.dm b e
   ·rw[if_neg hs] at h;exact h.elim
section
variable {X:Cx}{C:Cn}{E:XE}{p pa:Bool}{o e a b c:Expr}{es:List Expr}{m:ME}{mr:MA}{pos apos cpos px np:Pos}{rk:Kd}{ks:List Kd}{n:Nat}{ps:List Str}{x f:Str}{t:TA}
def Qr3 (i:Nat):ME:=fun ρ=>(Rs.of (QaZ ρ i)).bind fun q=>(Rs.of (q.2[q.2.length - 1]?)).bind fun d=>if D.Jo q.2=true then .ok (d,ρ.set i (some (mkS q.1 (.lst q.2.dropLast)))) else .no
theorem RL.dropLast {K:z01}{F:Hp}{vs:List L2.V}{ds:List D}(r:RL K F vs ds):RL K F vs.dropLast ds.dropLast:=by
 rw[zs1,zs1,r.length]
 exact r.take _
theorem QeA {ds:List D}(h:D.Jo ds=true):D.Jo ds.dropLast=true:=QcQ fun d hd=>QaW h d (List.dropLast_subset _ hd)
theorem Qrj {i:Nat}(hN:X.N[i]? = some x)(hv:Vis X.env.scope x)(hbase:attributeBase (.Name x np) "pop" X.env (eval (.Name x np) X.env)=eval (.Name x np) X.env:=by rfl)(hline:(apos.endLine == cpos.line)=true:=by rfl)(hd:(x == ("__debug__" : Str))=false:=by decide)(hcd:(x == ("__classdict__" : Str))=false:=by decide) :
  PE X (.Call (.Attribute (.Name x np) "pop" apos) [] [] cpos) (tX .V C false E (Qr3 i)):=
 Qv (Qpw zd8 PySem.F.slot_list_pop PySem.F.type_list_pop Qpy (Qar hN hv hd hcd) hbase hline) fun σ H Q ⟨F,ρ,τ,fp,I,h⟩=>by
  obtain⟨q,eq,h⟩:=h.split.of
  obtain⟨d,ed,h⟩:=h.split.of
  obtain⟨l,vs,f,rest,ex,hl,ol,pm,w,cl⟩:=I.QfO (YS eq)
  by_cases hi:D.Jo q.2=true
  ·rw[if_pos hi] at h
   have rl:=ol.rl hi
   have ef:f=[]:=ol.QrT hi
   subst ef
   obtain⟨v,ev,rv⟩:=rl.get ed
   refine⟨_,ex,.inl ⟨rfl,vs,SqL.of hl⟩,l,vs,v,rfl,rfl,hl,by rw[rl.length];exact ev,?_⟩
   have J:=cl (f':=[]) (rl.dropLast.o (QeA hi)) (pm.nodup_iff.mp I.nd) (fun _ z=>nomatch z)
   exact h F _ _ v J ⟨Qz.refl _,fun z=>nomatch z⟩ rv
  ·rw[if_neg hi] at h;exact h.elim
def Qoe:L2.V->List L2.V->Hp->VK->Prop:=fun x vs H Q=>∃l xs i y,x=.ref l/\vs=[.int i,y]/\H l=some (.lst xs)/\0<=i/\i<=xs.length/\xs.length<z15/\Q .non (upd H l (.lst (xs.take i.toNat++y::xs.drop i.toNat)))
theorem Qkg:MtM X "list.insert" Qoe:=by
 intro pins s σ H x vs v us Q I rx rv h
 obtain⟨l,xs,i,y,rfl,rfl,hH,h0,h1,hz,q⟩:=h
 cases rx
 obtain⟨u,u2,rfl,⟨t,rfl⟩,ru⟩:=Vals.two rv
 obtain⟨z,its,n,r,hl,e⟩:=I.Qpx hH
 have hfit:Builtin.List.listFitsIndex i=true:=fitsIndex_both (by lia) (by rw[z36] at hz;lia)
 refine call_meets F.slot_list_insert ⟨_,e,rfl⟩ F.entry_list_insert (F.args_list_insert_3 _ _ _) (AutoSeq1.list_insert_list_int_val_1 l its.toArray n i t u2 (by rw[hfit];decide) (by rw[z14];lia)) ⟨e,?_⟩
 refine⟨.non,_,I.QrQ (its':=its.take i.toNat++u2::its.drop i.toNat) hH e ?_ ((r.take _).append (.cons ru (r.drop _))) ?_,rfl,q⟩
 ·have hk:(if i<0 then(i+(its.toArray.size:Int)).toNat else min i.toNat its.toArray.size)=i.toNat:=by
   rw[if_neg (by lia),z14];lia
  show(its.toArray.extract 0 (if i<0 then(i+(its.toArray.size:Int)).toNat else min i.toNat its.toArray.size)).push u2++its.toArray.extract (if i<0 then(i+(its.toArray.size:Int)).toNat else min i.toNat its.toArray.size)=_
  rw[hk]
  apply zn1.mp
  simp[List.extract_eq_take_drop,z84]
 ·simp only[z16,z49,z24,z85];lia
def Qtj:List D->Option (Int×D)
 | [.int j,d]=>some (j,d)
 |_=>none
theorem Qof {ds:List D}{q:Int×D}(h:Qtj ds=some q):ds=[.int q.1,q.2]:=by
 unfold Qtj at h
 split at h
 ·cases h;rfl
 ·cases h
def Qrk (i:Nat)(mr:MA):MS:=fun ρ=>(Rs.of (QaZ ρ i)).bind fun _=>(mr ρ).bind fun r=>(Rs.of (Qtj r.1)).bind fun y=>(Rs.of (QaZ r.2 i)).bind fun q=>
 if 0<=y.1/\y.1<=q.2.length/\q.2.length<z15/\(D.Jo q.2 && y.2.imm)=true then .ok (.nx,r.2.set i (some (mkS q.1 (.lst (q.2.take y.1.toNat++y.2::q.2.drop y.1.toNat))))) else .no
theorem Qtk {i:Nat}(hN:X.N[i]? = some x)(hv:Vis X.env.scope x)(ha:PA X [a,e] (tA ks C p E mr))(ok:knL ks=true:=by rfl)(hs:swapsWith (.Call (.Attribute (.Name x np) "insert" apos) [a,e] [] cpos) none pos.line X.env=pure false:=by rfl)
  (hbase:attributeBase (.Name x np) "insert" X.env (eval (.Name x np) X.env)=eval (.Name x np) X.env:=by rfl) (hfew:((backTo cpos (starEach [a,e] X.env)).all (fun x=>!x.1) && (backToKw cpos (keywordEach [] X.env)).all (fun x=>x.1.isSome) && decide ([a,e].length+([]:List Keyword).length+(if([]:List Keyword).isEmpty then 0 else 1)<30))=true:=by rfl)
  (hline:(apos.endLine == cpos.line)=true:=by rfl) (hst:starEach [a,e] X.env=(false,eval a X.env)::starEach [e] X.env:=by rfl) (hplain:(backTo cpos (starEach [e] X.env)).any (·.1)=false:=by rfl) (hd:(x == ("__debug__" : Str))=false:=by decide) (hcd:(x == ("__classdict__" : Str))=false:=by decide) :
  PS X (.Expr (.Call (.Attribute (.Name x np) "insert" apos) [a,e] [] cpos) pos) (tS rk C E (Qrk i mr)):=
 Ju (Qeb (Qnk zd8 PySem.F.slot_list_insert PySem.F.type_list_insert Qkg (Qar hN hv hd hcd) ha hbase hfew hline hst hplain) hs) fun DD σ H ⟨F,ρ,fp,I,h⟩=>by
 obtain⟨q0,e0,h⟩:=h.split.of
 obtain⟨l0,vs0,f0,QgN,ex0,hl0,_⟩:=I.Qc0 (YS e0)
 refine⟨_,ex0,.inl ⟨rfl,vs0,SqL.of hl0⟩,F,ρ,[],fp,I,h.split.run.mono fun r hr F1 H1 fp1 vs1 I1 n1 f1=>?_⟩
 rw[Y0 (VU ok)] at I1
 have rl1:=f1.kn ok
 obtain⟨y,ey,h2⟩:=hr.split.of
 obtain⟨q,eq,h3⟩:=h2.split.of
 rw[Qof ey] at rl1
 obtain⟨u1,u2,rfl,ru1,ru2⟩:=rl1.two
 obtain rfl:=R.int ru1
 obtain⟨l,vs,f,rest,ex,hl,ol,pm,w,cl⟩:=I1.QfO (YS eq)
 have el:l=l0:=by rw[ex0] at ex;cases ex;rfl
 subst el
 by_cases hz:0<=y.1/\y.1<=q.2.length/\q.2.length<z15/\(D.Jo q.2 && y.2.imm)=true
 ·rw[if_pos hz] at h3
  obtain⟨z0,z1,z2,z3⟩:=hz
  obtain⟨i1,i2⟩:=z66.mp z3
  have rl:=ol.rl i1
  have ef:f=[]:=ol.QrT i1
  subst ef
  refine⟨l,vs,y.1,u2,rfl,rfl,hl,z0,by rw[rl.length];exact z1,by rw[rl.length];exact z2,?_⟩
  have rl':RL C.K F1 (vs.take y.1.toNat++u2::vs.drop y.1.toNat) (q.2.take y.1.toNat++y.2::q.2.drop y.1.toNat):=(rl.take _).app (.cons ru2 (rl.drop _))
  have im':D.Jo (q.2.take y.1.toNat++y.2::q.2.drop y.1.toNat)=true:=QcQ fun d hd=>by
   rcases z05.mp hd with hd|hd
   ·exact QaW i1 d (z90 hd)
   ·rcases z13.mp hd with rfl|hd
    ·exact i2
    ·exact QaW i1 d (zd2 hd)
  exact h3 F1 _ σ _ n1.f (cl (f':=[]) (rl'.o im') (pm.nodup_iff.mp I1.nd) (fun _ z=>nomatch z))
 ·rw[if_neg hz] at h3;exact h3.elim
def Qtl (tg:D->Rho->Option Rho)(m:ME):MS:=fun ρ=>(m ρ).bind fun r=>(Rs.of (tg r.1 r.2)).bind fun ρ'=>.ok (.nx,ρ')
theorem Qtm {tge:Expr}{g:TG}{tg:D->Rho->Option Rho}(hg:PG X tge g)(gd:GD C g tg)(he:PE X e (tX .V C p E m))(hs:swapsWithSole [tge] e pos.line X.env=pure false:=by rfl)(hw:swappedStores [tge] e X.env=pure none:=by rfl)(h1:(assignEach [tge] X.env).map (·.2)=[assign tge X.env]:=by rfl) :
  PS X (.Assign [tge] e pos) (tS rk C E (Qtl tg m)):=Ju (QiW he hg hs hw h1) fun D σ H ⟨F,ρ,fp,I,h⟩=>by
 refine⟨F,ρ,[],fp,I,h.split.run.mono fun r hr F1 H1 fp1 v I1 n1 f1=>?_⟩
 obtain⟨ρ',e1,h2⟩:=hr.split.of
 exact gd F1 H1 σ r.2 [] fp1 v r.1 ρ' I1 f1 e1 _ fun σ' fp' J _=>h2 F1 H1 σ' fp' n1.f J
def QfV (rk:Kd)(f:List D->Fr)(mr:MA):ME:=fun ρ=>(mr ρ).bind fun r=>match f r.1 with
 |.ok d _=>.ok (d,r.2)
 |.ex _=>.no
 |.no=>.no
theorem Qrl {v:L2.V}{d:D}{vs:List L2.V}{ds:List D}{τ:List (L2.V×D)}(ok:knL ks=true):tkL (.O::ks) (v::vs) (d::ds) τ=(v,d)::τ:=by
 show tkL ks vs ds ((v,d)::τ)=_
 exact Y0 (VU ok)
theorem Qkh {f:List D->Fr}{io:List Bool}(hio:io.all (!·)=true)(hl:io.length=ks.length)(hrk:rk=.V\/rk=.O)(ok:knL ks=true){σ:L2.St}{H:Hp}{Q:VK}(h:tX rk C (pa && false) E (QfV rk f mr) σ H Q):QhC (spF C.K (true::io) rk f) E (tA (.O::ks) C pa E mr) σ H Q:=by
 obtain⟨F,ρ,τ,fp,I,h⟩:=h
 refine⟨F,ρ,τ,fp,I,h.split.mono fun r hr F1 H1 fp1 vs I1 n1 f1=>?_⟩
 obtain⟨dr,ρ1⟩:=r
 cases f1 with
 | @cons _ v d _ vs ds _ f2=>
  have I1':SI C F1 H1 σ ρ1 ((v,d)::τ) fp1:=by
   have:=I1
   rw[Qrl ok] at this
   exact this
  obtain⟨fl,rest,ov,pm,J,z1,z2,nd⟩:=I1'.pop
  have rl:=f2.kn ok
  have hlen:vs.length=ks.length:=by
   have:∀{ks:List Kd} {vs:List L2.V} {ds:List D},FcL C F1 H1 fp1 σ ks vs ds->vs.length=ks.length:=by
    intro ks vs ds z
    induction z with
    |nil=>rfl
    |cons _ _ ih=>rw[z24,z24,ih]
   exact this f2
  have eio:io=vs.map fun _=>false:=by
   have:∀{io:List Bool} {n:Nat},io.all (!·)=true->io.length=n->io=za1 n false:=by
    intro io
    induction io with
    |nil=>intro n _ e;subst e;rfl
    |cons x io ih=>
     intro n h e
     subst e
     rw[zi6,z99] at h
     rw[z24,zt3,← ih h.2 rfl]
     have:x=false:=by simpa using h.1
     rw[this]
   rw[this hio (hl.trans hlen.symm)]
   exact(List.map_const' ..).symm
  have al:AL C.K F1 H1 (true::io) (v::vs) (d::ds) fl:=by
   have:=AL.io (K:=C.K) (F:=F1) (H:=H1) ov (QnI (H:=H1) rl)
   rw[z53,← eio] at this
   exact this
  have dis:∀a∈rest,a∉fl:=fun a ha hf=>(z09.mp nd).2.2 a hf a ha rfl
  refine⟨F1,_,fl,al,(z09.mp nd).1,z2,J.fh,?_⟩
  cases ef:f (d::ds) with
  |no=>rw[ef] at hr;exact hr.elim
  |ex c=>rw[ef] at hr;exact hr.elim
  |ok res outs=>
   rw[ef] at hr
   dsimp only at hr ⊢
   intro F' H' u fr fo sF fh' fn' kp' dm' rf ol' nd' ap' frn fon
   have hrest:∀a∈rest,H' a=H1 a:=fun a ha=>by
    obtain⟨o,e,_⟩:=J.mem a ha
    rw[e,kp' a o e (dis a ha)]
   have QbX:∀a∈rest,H1 a≠none:=fun a ha z=>by
    obtain⟨o,e,_⟩:=J.mem a ha
    rw[z] at e;cases e
   have apr:∀a∈rest,F' a=none:=fun a ha=>by
    cases e:F' a with
    |none=>rfl
    |some o=>
     rcases fn' a o e with z|z
     ·rw[J.ap a ha] at z;cases z
     ·obtain⟨o2,e2,m2⟩:=J.mem a ha
      exact(z.not (QbX a ha) (fh' a o e) ((hrest a ha).trans e2) m2).elim
   have J':SI C F' H' σ ρ1 τ rest:=J.step sF fh' hrest apr (fun b o e=>(fn' b o e).imp id fun z=>z.up fun y=>J.dm b y) (fun b o e0 n e=>kp' b o e fun hb=>by rw[z1 b hb] at e0;cases e0) dm'
   have nxt:∀{fp':List Addr},Nx (pa && false) F H fp F' H' fp':=fun{fp'}=>⟨n1.f.trans sF,fun z=>by simp at z⟩
   rcases hrk with rfl|rfl
   ·obtain⟨rv,rfl⟩:=rf
    exact hr F' H' _ u J' nxt rv
   ·refine hr F' H' _ u (J'.push rf (fun a ha=>J.dm a (frn a ha)) (fun a ha=>ap' a (z06 _ ha)) (z09.mpr ⟨(z09.mp nd').1,J'.nd,fun a ha b hb z=>by subst z;exact QbX a hb (frn a ha)⟩)) nxt z58
theorem Qtn {f:List D->Fr}{io:List Bool}(D:Qi X.prog X.w X.K X.mg X.base n x ps (spF C.K (true::io) rk f))(hx:Qbz X E)(hr:Qao n X.A)(ha:PA X (e::es) (tA (.O::ks) C pa E mr))(hio:io.all (!·)=true:=by rfl)(hl:io.length=ks.length:=by rfl)(hrk:rk=.V\/rk=.O:=by first|exact .inl rfl|exact .inr rfl)(ok:knL ks=true:=by rfl)(hg:Gl X x:=by rfl)
  (hdb:(x == ("__debug__" : Str))=false:=by decide) (he:starEach (e::es) X.env=(false,eval e X.env)::starEach es X.env:=by rfl) (hpl:(backTo pos (starEach es X.env)).any (·.1)=false:=by rfl) :
  PE X (.Call (.Name x px) (e::es) [] pos) (tX rk C (pa && false) E (QfV rk f mr)):=Qv (QjG D hx hr ha hg hdb he hpl) fun _ _ _ h=>Qkh hio hl hrk ok h
end
end TL
namespace TL
open PySem PySem.Spec L2 PyProof.Rows
def Qki:List Int->Int
 | []=>0
 |n::r=>r.foldl (fun m x=>if m<x then x else m) n
def VL:List Int->Int
 | []=>0
 |n::r=>r.foldl (fun m x=>if x<m then x else m) n
theorem QhO:∀(r:List Int) (n:Int),(r.foldl (fun m x=>if m<x then x else m) n∈n::r)/\∀a∈n::r,a<=r.foldl (fun m x=>if m<x then x else m) n
 | [],n=>⟨z07,fun a ha=>by rw[z25.mp ha];exact zd9 _⟩
 |x::r,n=>by
  obtain⟨h1,h2⟩:=QhO r (if n<x then x else n)
  rw[ze3]
  refine⟨?_,fun a ha=>?_⟩
  ·rcases z13.mp h1 with h|h
   ·rw[h];split<;>simp
   ·simp[h]
  ·have h0:=h2 _ z07
   rcases z13.mp ha with rfl|ha
   ·refine z93 ?_ h0;split<;>lia
   ·rcases z13.mp ha with rfl|ha
    ·refine z93 ?_ h0;split<;>lia
    ·exact h2 a (z08 _ ha)
theorem QhP:∀(r:List Int) (n:Int),(r.foldl (fun m x=>if x<m then x else m) n∈n::r)/\∀a∈n::r,r.foldl (fun m x=>if x<m then x else m) n<=a
 | [],n=>⟨z07,fun a ha=>by rw[z25.mp ha];exact zd9 _⟩
 |x::r,n=>by
  obtain⟨h1,h2⟩:=QhP r (if x<n then x else n)
  rw[ze3]
  refine⟨?_,fun a ha=>?_⟩
  ·rcases z13.mp h1 with h|h
   ·rw[h];split<;>simp
   ·simp[h]
  ·have h0:=h2 _ z07
   rcases z13.mp ha with rfl|ha
   ·refine z93 h0 ?_;split<;>lia
   ·rcases z13.mp ha with rfl|ha
    ·refine z93 h0 ?_;split<;>lia
    ·exact h2 a (z08 _ ha)
theorem QfW {ns:List Int}(h:ns≠[]):Qki ns∈ns/\∀a∈ns,a<=Qki ns:=by
 cases ns with
 |nil=>exact absurd rfl h
 |cons n r=>exact QhO r n
theorem Qc6 {ns:List Int}(h:ns≠[]):VL ns∈ns/\∀a∈ns,VL ns<=a:=by
 cases ns with
 |nil=>exact absurd rfl h
 |cons n r=>exact QhP r n
section
variable {X:Cx}{C:Cn}
theorem Qkj (hc:X.calm=true):QbR X (.builtin "max") (fun xs H Q=>∃(p:Addr) (ns:List Int),xs=[.ref p]/\SqL X.K H p (ns.map L2.V.int)/\ns≠[]/\Q (.int (Qki ns)) H):=by
 intro pins s σ H xs us Q I r h
 obtain⟨p,ns,rfl,hp,hne,q⟩:=h
 obtain⟨u,rfl,ru⟩:=vals1 r
 cases ru
 obtain⟨its,rv,pl,hz⟩:=I.list hp
 have hi:IntsAre its ns:=intsAre_of rv
 obtain⟨zs,e⟩:=hi.allInts.items
 have hns:ns=zs.toList.map (·.1):=by rw[← hi.numsOf,← nums_intItems,← e]
 have hsz:0<zs.size:=by
  have:ns.length≠0:=by simpa using hne
  rw[hns,z00,z78] at this;lia
 have hl:=pl.isList
 rw[e] at hl
 refine max_intList (I.ok.hd hc) hl hsz fun v h' tk hv hk=>?_
 obtain⟨t,rfl⟩:=intItems_at hv
 obtain⟨h1,h2⟩:=argBest_gt (numAt zs) (zs.size - 1)
 have em:numAt zs (argBest (fun i j=>decide (numAt zs i > numAt zs j)) (zs.size - 1))=Qki ns:=by
  obtain⟨b1,b2⟩:=QfW hne
  refine zp3 (b2 _ ?_) ?_
  ·rw[hns,numAt_eq];exact getD_mem (by rw[z00,z78];lia)
  ·rw[hns] at b1
   obtain⟨j,hj,ej⟩:=mem_getD b1
   rw[z00,z78] at hj
   rw[← hns] at ej
   have e2:numAt zs j=Qki ns:=by rw[numAt_eq,← hns];exact ej
   rw[← e2];exact h2 j (by lia)
 rw[em]
 exact⟨.int (Qki ns),H,I.kept (t':=tk) hk,⟨_,rfl⟩,q⟩
theorem QfX (hc:X.calm=true):QbR X (.builtin "min") (fun xs H Q=>∃(p:Addr) (ns:List Int),xs=[.ref p]/\SqL X.K H p (ns.map L2.V.int)/\ns≠[]/\Q (.int (VL ns)) H):=by
 intro pins s σ H xs us Q I r h
 obtain⟨p,ns,rfl,hp,hne,q⟩:=h
 obtain⟨u,rfl,ru⟩:=vals1 r
 cases ru
 obtain⟨its,rv,pl,hz⟩:=I.list hp
 have hi:IntsAre its ns:=intsAre_of rv
 obtain⟨zs,e⟩:=hi.allInts.items
 have hns:ns=zs.toList.map (·.1):=by rw[← hi.numsOf,← nums_intItems,← e]
 have hsz:0<zs.size:=by
  have:ns.length≠0:=by simpa using hne
  rw[hns,z00,z78] at this;lia
 have hl:=pl.isList
 rw[e] at hl
 refine min_intList (I.ok.hd hc) hl hsz fun v h' tk hv hk=>?_
 obtain⟨t,rfl⟩:=intItems_at hv
 obtain⟨h1,h2⟩:=argBest_lt (numAt zs) (zs.size - 1)
 have em:numAt zs (argBest (fun i j=>decide (numAt zs i<numAt zs j)) (zs.size - 1))=VL ns:=by
  obtain⟨b1,b2⟩:=Qc6 hne
  refine zp3 ?_ (b2 _ ?_)
  ·rw[hns] at b1
   obtain⟨j,hj,ej⟩:=mem_getD b1
   rw[z00,z78] at hj
   rw[← hns] at ej
   have e2:numAt zs j=VL ns:=by rw[numAt_eq,← hns];exact ej
   rw[← e2];exact h2 j (by lia)
  ·rw[hns,numAt_eq];exact getD_mem (by rw[z00,z78];lia)
 rw[em]
 exact⟨.int (VL ns),H,I.kept (t':=tk) hk,⟨_,rfl⟩,q⟩
def QhQ:List D->Option (List Int)
 | []=>some []
 |.int i::r=>(QhQ r).map (i::·)
 |_=>none
theorem QgX {K:z01}{F:Hp}:∀{vs:List L2.V} {ds:List D} {ns:List Int},RL K F vs ds->QhQ ds=some ns->vs=ns.map L2.V.int
 |_,_,_,.nil,h=>by cases h;rfl
 |_,_,_,.cons (d:=d) r q,h=>by
  cases d with
  |int s=>
   obtain⟨ys,e,rfl⟩:=z03.mp (show(QhQ _).map (s::·)=some _ from h)
   rw[R.int r,QgX q e];rfl
  |_=>cases h
theorem QaX:∀{ns:List Int},QhQ (ns.map .int)=some ns
 | []=>rfl
 |n::ns=>by rw[z31,QhQ,QaX];rfl
def Qkk:List D->Option D
 | [.nd .lst ds]=>(QhQ ds).bind fun ns=>if ns=[] then none else some (.int (Qki ns))
 |_=>none
def QiB:List D->Option D
 | [.nd .lst ds]=>(QhQ ds).bind fun ns=>if ns=[] then none else some (.int (VL ns))
 |_=>none
theorem Qto (hK:C.K=X.K):CallD C.K (fun xs H Q=>∃(p:Addr) (ns:List Int),xs=[.ref p]/\SqL X.K H p (ns.map L2.V.int)/\ns≠[]/\Q (.int (Qki ns)) H) Qkk:=fun H vs ds res r eg=>by
 unfold Qkk at eg
 split at eg
 ·obtain⟨ns,e1,e2⟩:=z28.mp eg
  split at e2
  ·cases e2
  ·rename_i hne
   cases e2
   obtain⟨v,rfl,r1⟩:=r.one
   obtain⟨a,us,rfl,ha,rl⟩:=r1.inv
   refine⟨_,rfl,fun Q h=>⟨a,ns,rfl,?_,hne,h⟩⟩
   rw[← QgX rl e1,← hK];exact ha
 ·cases eg
theorem Qrm (hK:C.K=X.K):CallD C.K (fun xs H Q=>∃(p:Addr) (ns:List Int),xs=[.ref p]/\SqL X.K H p (ns.map L2.V.int)/\ns≠[]/\Q (.int (VL ns)) H) QiB:=fun H vs ds res r eg=>by
 unfold QiB at eg
 split at eg
 ·obtain⟨ns,e1,e2⟩:=z28.mp eg
  split at e2
  ·cases e2
  ·rename_i hne
   cases e2
   obtain⟨v,rfl,r1⟩:=r.one
   obtain⟨a,us,rfl,ha,rl⟩:=r1.inv
   refine⟨_,rfl,fun Q h=>⟨a,ns,rfl,?_,hne,h⟩⟩
   rw[← QgX rl e1,← hK];exact ha
 ·cases eg
end
end TL
namespace TL
open PySem PySem.Spec L2 L2.Srt
section
variable {α:Type}{lt:α->α->Bool}
def QoS (lt:α->α->Bool)(x:α):List α->List α
 | []=>[x]
 |y::ys=>if lt x y=true then x::y::ys else y::QoS lt x ys
def QhR (lt:α->α->Bool):List α->List α
 | []=>[]
 |x::xs=>QoS lt x (QhR lt xs)
theorem Qc7 (x:α):∀ys:List α,(QoS lt x ys).Perm (x::ys)
 | []=>.refl _
 |y::ys=>by
  unfold QoS
  split
  ·exact .refl _
  ·exact((Qc7 x ys).cons y).trans (.swap x y ys)
theorem VM:∀xs:List α,(QhR lt xs).Perm xs
 | []=>.refl _
 |x::xs=>(Qc7 x _).trans ((VM xs).cons x)
theorem Qkl (L:Lin lt){x:α}:∀{ys:List α},ys.Pairwise (fun a b=>lt a b=true)->x∉ys->(QoS lt x ys).Pairwise (fun a b=>lt a b=true)
 | [],_,_=>List.pairwise_singleton _ _
 |y::ys,h,hn=>by
  unfold QoS
  obtain⟨h1,h2⟩:=z77.mp h
  split
  ·rename_i hl
   exact z77.mpr ⟨fun a ha=>by
    rcases z13.mp ha with rfl|ha
    ·exact hl
    ·exact L.tr _ _ _ hl (h1 a ha),h⟩
  ·rename_i hl
   have hyx:lt y x=true:=L.tot _ _ (fun e=>hn (e▸z07)) (by simpa using hl)
   refine z77.mpr ⟨fun a ha=>?_,Qkl L h2 fun hm=>hn (z08 _ hm)⟩
   rcases z13.mp ((Qc7 x ys).mem_iff.mp ha) with rfl|ha
   ·exact hyx
   ·exact h1 a ha
theorem QgY (L:Lin lt):∀{xs:List α},xs.Nodup->(QhR lt xs).Pairwise (fun a b=>lt a b=true)
 | [],_=>.nil
 |x::xs,h=>by
  obtain⟨h1,h2⟩:=z72.mp h
  exact Qkl L (QgY L h2) fun hm=>h1 ((VM xs).mem_iff.mp hm)
theorem Qkm (L:Lin lt):∀{xs ys:List α},xs.Pairwise (fun a b=>lt a b=true)->ys.Pairwise (fun a b=>lt a b=true)->xs.Perm ys->xs=ys
 | [],ys,_,_,p=>(List.nil_perm.mp p).symm
 |x::xs,[],_,_,p=>absurd p.length_eq (by simp)
 |x::xs,y::ys,h,h',p=>by
  obtain⟨a1,a2⟩:=z77.mp h
  obtain⟨b1,b2⟩:=z77.mp h'
  have e:x=y:=by
   rcases z13.mp (p.mem_iff.mp (z07 (a:=x) (l:=xs))) with e|hx
   ·exact e
   ·rcases z13.mp (p.mem_iff.mpr (z07 (a:=y) (l:=ys))) with e|hy
    ·exact e.symm
    ·have z1:=b1 x hx
     have z2:=a1 y hy
     have:=L.tr _ _ _ z1 z2
     rw[L.irr] at this;cases this
  subst e
  rw[Qkm L a2 b2 (p.cons_inv)]
end
def npD (x:NP):D:=.tup [.int x.1,pl x.2]
def pnD (x:PN):D:=.tup [pl x.1,.int x.2]
def Qog:D->Option NP
 |.nd .tup [.int n,.nd .tup [.int a,.int b]]=>some (n,(a,b))
 |_=>none
theorem QgZ {d:D}{x:NP}(h:Qog d=some x):d=npD x:=by
 unfold Qog at h
 split at h
 ·cases h;rfl
 ·cases h
def npL:List D->Option (List NP)
 | []=>some []
 |d::ds=>(Qog d).bind fun x=>(npL ds).map (x::·)
theorem QmK:∀{ds:List D} {xs:List NP},npL ds=some xs->ds=xs.map npD
 | [],_,h=>by cases h;rfl
 |d::ds,xs,h=>by
  obtain⟨x,e1,e2⟩:=z28.mp (show(Qog d).bind _=some xs from h)
  obtain⟨ys,e3,rfl⟩:=z03.mp e2
  rw[QgZ e1,QmK e3];rfl
theorem Qkn:∀{xs:List NP},npL (xs.map npD)=some xs
 | []=>rfl
 |x::xs=>by rw[z31,npL,Qkn];rfl
theorem Qtp {K:z01}{F:Hp}{v:L2.V}{q:Int×Int}(r:R K F v (pl q)):∃a,v=.ref a/\F a=some (.tup [.int q.1,.int q.2]):=by
 obtain⟨a,vs,rfl,h1,h2⟩:=r.inv
 obtain⟨v1,v2,rfl,r1,r2⟩:=h2.two
 rw[R.int r1,R.int r2] at h1
 exact⟨a,rfl,h1⟩
theorem Qko {K:z01}{F:Hp}{v:L2.V}{x:NP}(r:R K F v (npD x)):∃a,v=.ref a/\PT1 K F a x:=by
 obtain⟨a,vs,rfl,h1,h2⟩:=r.inv
 obtain⟨v1,v2,rfl,r1,r2⟩:=h2.two
 obtain⟨b,rfl,hb⟩:=Qtp r2
 rw[R.int r1] at h1
 exact⟨a,rfl,b,SqT.of h1,SqT.of hb⟩
theorem Qkp {K:z01}{F:Hp}:∀{vs:List L2.V} {xs:List NP},RL K F vs (xs.map npD)->∃qs:List Addr,vs=qs.map L2.V.ref/\Paired (PT1 K F) qs xs
 |_,[],.nil=>⟨[],rfl,.nil⟩
 |_,x::xs,.cons r t=>by
  obtain⟨a,rfl,h⟩:=Qko r
  obtain⟨qs,rfl,p⟩:=Qkp t
  exact⟨a::qs,rfl,.cons h p⟩
theorem Qc8:∀xs:List NP,D.Jo (xs.map npD)=true
 | []=>rfl
 |x::xs=>by rw[z31];show(true && D.Jo (xs.map npD))=true;rw[Qc8 xs];rfl
theorem Qkq:∀xs:List PN,D.Jo (xs.map pnD)=true
 | []=>rfl
 |x::xs=>by rw[z31];show(true && D.Jo (xs.map pnD))=true;rw[Qkq xs];rfl
section
variable {X:Cx}{C:Cn}{E:XE}{p:Bool}{o e a b:Expr}{m:ME}{mr:MA}{pos px:Pos}{ks:List Kd}{x:Str}
def Qtq:D->D->Option D
 |x,y=>(Qog x).bind fun a=>(Qog y).map fun b=>.bl (VQ a b)
def Qt5 (K:z01):R2:=fun x y H Q=>∃a b q r,x=.ref q/\y=.ref r/\PT1 K H q a/\PT1 K H r b/\Q (.bl (VQ a b)) H
theorem Qrn (hu:X.A.units+1<cLine):OpR X (compareOp .Lt) (Qt5 X.K):=by
 intro pins s σ H x y v u Q I rx ry h
 obtain⟨a,b,q,r,rfl,rfl,ha,hb,k⟩:=h
 cases rx
 cases ry
 exact QsI hu (Qju I ha) (Qju I hb) ⟨.bl (VQ a b),H,I,rfl,k⟩
theorem QuS (hK:C.K=X.K):OpD C.K (Qt5 X.K) Qtq:=fun H v u d e res r q eg=>by
 obtain⟨a,e1,e2⟩:=z28.mp (show(Qog d).bind _=some res from eg)
 obtain⟨b,e3,rfl⟩:=z03.mp e2
 rw[QgZ e1] at r
 rw[QgZ e3] at q
 obtain⟨q1,rfl,h1⟩:=Qko r
 obtain⟨q2,rfl,h2⟩:=Qko q
 exact⟨_,rfl,fun Q h=>⟨a,b,q1,q2,rfl,rfl,hK▸h1,hK▸h2,h⟩⟩
def Qg0:List D->Option (List NP)
 | [.nd .lst ds]=>(npL ds).bind fun ps=>if ps.Nodup/\ps.length<=4000 then some (QhR VQ ps) else none
 |_=>none
def Qkr (mr:MA):ME:=fun ρ=>(mr ρ).bind fun r=>(Rs.of (Qg0 r.1)).bind fun ps=>.ok (.lst (ps.map npD),r.2)
theorem QlW (hu:X.A.units+3<cLine)(hK:C.K=X.K)(hm:X.mg x=none)(hv:z71 x=some (.builtin "sorted"))(ha:PA X [e] (tA ks C p E mr))(ok:rdL ks=true:=by rfl)(hgl:Gl X x:=by rfl)(hn:x ≠ "__name__" := by decide)(hdb:(x == ("__debug__" : Str))=false:=by decide)
  (he:starEach [e] X.env=(false,eval e X.env)::starEach [] X.env:=by rfl) (hpl:(backTo pos (starEach [] X.env)).any (·.1)=false:=by rfl):PE X (.Call (.Name x px) [e] [] pos) (tX .O C p E (Qkr mr)):=
 Qv (Qhi (QfA hu) hgl hm hv ha hn hdb he hpl) fun σ H Q ⟨F,ρ,τ,fp,I,h⟩=>by
  refine⟨F,ρ,τ,fp,I,h.split.mono fun r1 h1 F1 H1 fp1 vs I1 n1 f1=>?_⟩
  rw[Y0 ok] at I1
  have rl:=f1.rd I1 ok
  obtain⟨ps',e1,h2⟩:=h1.split.of
  obtain⟨dr,ρ1⟩:=r1
  dsimp only at e1 rl h2
  unfold Qg0 at e1
  split at e1
  ·rename_i ds
   obtain⟨ps,e2,e3⟩:=z28.mp e1
   split at e3
   ·rename_i cnd
    cases e3
    rw[QmK e2] at rl
    obtain⟨v,rfl,r1⟩:=rl.one
    obtain⟨a,us,rfl,h3,h4⟩:=r1.inv
    have rlF:=I1.loL h4 (Qc8 ps)
    obtain⟨qs,rfl,pr⟩:=Qkp h4
    have up:∀{q:Addr} {y:NP},PT1 C.K (jn F1 H1 fp1) q y->PT1 X.K H1 q y:=fun{q y} ⟨r,z1,z2⟩=>by
     have s:=Qap I1.fh (fp:=fp1)
     rw[← hK]
     exact⟨r,z1.imp (fun z=>z.imp (fun z=>s _ _ z) fun⟨o,z⟩=>⟨o,s _ _ z⟩) id,z2.imp (fun z=>z.imp (fun z=>s _ _ z) fun⟨o,z⟩=>⟨o,s _ _ z⟩) id⟩
    refine⟨a,qs,ps,rfl,?_,Paired.imp' (fun _ _ z=>up z) pr,cnd.1,cnd.2,fun l is hl pm pw=>?_⟩
    ·rw[← hK];exact(At.same h3 (Qap I1.fh)).sql
    ·have ilt:∀i∈is,i<ps.length:=fun i hi=>za2.mp (pm.mem_iff.mp hi)
     have eq:is.map (fun i=>ps.getD i (0,(0,0)))=QhR VQ ps:=by
      refine Qkm Qbv pw (QgY Qbv cnd.1) ?_
      have z:=pm.map fun i=>ps.getD i (0,(0,0))
      rw[range_getD] at z
      exact z.trans (VM ps).symm
     have rl':∀js:List Nat,(∀i∈js,i<ps.length)->RL C.K F1 ((js.map fun i=>qs.getD i 0).map L2.V.ref) ((js.map fun i=>ps.getD i (0,(0,0))).map npD):=by
      intro js
      induction js with
      |nil=>intro _;exact .nil
      |cons i js ih=>
       intro hj
       have hi:=hj i z07
       obtain⟨v,ev,rv⟩:=rlF.get (show(ps.map npD)[i]? = some (npD (ps.getD i (0,(0,0)))) by rw[z18,z04 hi,z12,z04 hi];rfl)
       have ev':v=.ref (qs.getD i 0):=by
        rw[z18] at ev
        obtain⟨q,eq,rfl⟩:=z03.mp ev
        rw[z12,eq];rfl
       subst ev'
       exact .cons rv (ih fun j h=>hj j (z08 _ h))
     have rr:=rl' is ilt
     rw[eq] at rr
     exact h2 _ _ _ _ (I1.newList hl rr (Qc8 _)) ((n1.trans (q:=true) ⟨Qz.refl _,fun _=>QfB I1 hl⟩).weak fun z=>by simp[z]) z58
   ·cases e3
  ·cases e1
def QuT:List Key->Option (Int×Int)
 | [.inl a,.inl b]=>some (a,b)
 |_=>none
def QmL:List (List Key)->List D->Option (List PN)
 | [],[]=>some []
 |k::ks,.int n::ds=>(QuT k).bind fun q=>(QmL ks ds).map ((q,n)::·)
 |_,_=>none
def Qks:D->Option (List PN)
 |.nd (.dT ks) ds=>QmL ks ds
 |_=>none
def Qro (m:ME):ME:=fun ρ=>(m ρ).bind fun r=>(Rs.of (Qks r.1)).bind fun ps=>if ps.length<=4000 then .ok (.lst ((QhR QtU ps).map pnD),r.2) else .no
end
end TL
namespace TL
open PySem PySem.Spec L2
section
variable {C:Cn}{rk:Kd}
theorem Qe9 {P:Program}{w:World}{K:z01}{mg:Str->Option Value}{base:Heap}{k:Addr}{n:Nat}{x:Str}{ps:List Str}{io:List Bool}{f:List D->Fr}(D:QI P w K mg base k n x ps (spF K io rk f))(hC:C.K=K):QI P w K mg base k n x ps (spF C.K io rk f):=by rw[hC];exact D
theorem Qr4 {P:Program}{w:World}{K:z01}{mg:Str->Option Value}{base:Heap}{k:Addr}{n:Nat}{x:Str}{ps:List Str}{f:Addr->D->Fr}(D:QaT P w K mg base k n x ps (spI K k f))(hC:C.K=K):QaT P w K mg base k n x ps (spI C.K k f):=by rw[hC];exact D
theorem hu3 {A:Around}{k:Nat}(hr:Qao k A):A.units+3<cLine:=by have:=hr.units;lia
theorem QfY:z71 "sorted" = some (.builtin "sorted"):=by decide +kernel
end
def Qtr (m:ME):MA:=fun ρ=>(m ρ).bind fun r=>(Rs.of (Qis [r.1])).bind fun ds=>if D.Jo ds=true then .ok (ds,r.2) else .no
def Qa5 (tc:MT)(te:ME):List D->Rho->List D->Rs (List D×Rho)
 | [],ρ,acc=>.ok (acc,ρ)
 |d::ds,ρ,acc=>(Rs.of (QdX 0 1 d ρ)).bind fun ρ0=>(tc ρ0).bind fun c=>if c.1=true then(te c.2).bind fun r=>if acc.length<z15 then Qa5 tc te ds ((r.2.set 1 none).set 0 none) (acc++[r.1]) else .no
  else Qa5 tc te ds ((c.2.set 1 none).set 0 none) acc
def Qcd (par:Bool)(cs:List Cp)(mi:MA)(tc:MT)(te:ME):ME:=fun ρ=>(mi ρ).bind fun r=>(Rs.of (Qax par r.2 (cs.filterMap Cp.is))).bind fun di=>(Rs.of (QbP r.2 cs di)).bind fun ρb=>
 match Qa5 tc te r.1 ρb [] with
 |.ok q=>(Rs.of (outs (ioB cs) q.2)).bind fun os=>.ok (.lst q.1,VW par r.2 (cs.filterMap Cp.is) os)
 |_=>.no
theorem Qoh {X:Cx}{C:Cn}{F H:Hp}{σ:L2.St}{ρ ρ':Rho}{τ:List (L2.V×D)}{fp:List Addr}{x:L2.V}{d:D}(hK:C.K=X.K)(I:SI C F H σ ρ τ fp)(r:R X.K F x d)(h:QdX 0 1 d ρ=some ρ') :
  ∃v1 v2 fp',SI C F H ((σ.set 0 (some v1)).set 1 (some v2)) ρ' τ fp'/\∀Q:L2.St->Hp->Prop,Q ((σ.set 0 (some v1)).set 1 (some v2)) H->Qm0 X.K 2 (QbQ (VH 0) (QbQ (VH 1) QmZ)) x σ H Q:=by
 unfold QdX at h
 split at h
 ·next a b=>
  rw[← hK] at r
  obtain⟨q,vs,rfl,h1,h2⟩:=r.inv
  obtain⟨v1,v2,rfl,r1,r2⟩:=h2.two
  obtain⟨ρ1,e1,e2⟩:=z28.mp h
  obtain⟨fp1,J1,s1⟩:=SI.Y1 I r1 e1
  obtain⟨fp2,J2,s2⟩:=SI.Y1 J1 r2 e2
  exact⟨v1,v2,fp2,J2,fun Q hq=>⟨q,[v1,v2],rfl,by rw[← hK];exact(At.same h1 I.fh).sqt,rfl,v1,[v2],rfl,v2,[],rfl,rfl,hq⟩⟩
 ·cases h
theorem ext2 {σ:L2.St}{y0 y1:Option L2.V}(h0:σ[0]? = some none)(h1:σ[1]? = some none):Ext σ ((σ.set 0 y0).set 1 y1):=by
 refine⟨by rw[zb7,zb7],fun i v e=>?_⟩
 have n0:i≠0:=fun z=>by subst z;rw[h0] at e;cases e
 have n1:i≠1:=fun z=>by subst z;rw[h1] at e;cases e
 rw[z65 (zd4 n1),z65 (zd4 n0)]
 exact e
theorem QuU {C:Cn}{F H:Hp}{σ:L2.St}{ρ:Rho}{τ:List (L2.V×D)}{fp:List Addr}{v1 v2:L2.V}(I:SI C F H ((σ.set 0 (some v1)).set 1 (some v2)) ρ τ fp)(h0:σ[0]? = some none)(h1:σ[1]? = some none)(n0:∀v,(0,v)∉C.QgL)(n1:∀v,(1,v)∉C.QgL):∃fp',SI C F H σ ((ρ.set 1 none).set 0 none) τ fp':=by
 obtain⟨fp1,J⟩:=SI.clr (j:=1) (x:=v2) I (by rw[z65 (by decide)];exact h1) n1
 exact SI.clr (j:=0) (x:=v1) J h0 n0
section
variable {X:Cx}{C:Cn}{E:XE}{p pa pc pe:Bool}{me:ME}{mt:MT}{mi:MA}{pos:Pos}{k rk:Kd}{elt iter:Expr}{x:Str}{ifs:List Expr}{scope:Scope}{N:List Str}{cs:List Cp}{par:Bool}
theorem Qc9 {tc:MT}{te:ME}:∀{ds:List D} {ρ:Rho} {acc:List D},Qa5 tc te ds ρ acc=Qan (QdX 0 1) (fun ρ=>(ρ.set 1 none).set 0 none) tc te ds ρ acc
 | [],ρ,acc=>rfl
 |d::ds,ρ,acc=>by
  unfold Qa5 Qan
  congr 1;funext ρ0;congr 1;funext c
  split
  ·congr 1;funext r;split
   ·exact Qc9
   ·rfl
  ·exact Qc9
theorem QlX {ρ:Rho}:Qcd par cs mi mt me ρ=(mi ρ).bind (Qiu par cs (QdX 0 1) (fun ρ=>(ρ.set 1 none).set 0 none) mt me):=by
 unfold Qcd Qiu
 simp only[Qc9]<;>rfl
theorem Qoi {σ:L2.St}(hj:cs[0]? = some .me)(hj1:cs[1]? = some .me):QsP X.K cs (JA (cs.map Cp.ix) σ) (QdX 0 1) (fun ρ=>(ρ.set 1 none).set 0 none) (Qm0 X.K 2 (QbQ (VH 0) (QbQ (VH 1) QmZ))):=fun{Cb F H ρ ρ' τ fp x d} hK np I r e=>by
 have hb:∀k:Nat,cs[k]? = some Cp.me->(JA (cs.map Cp.ix) σ)[k]? = some none:=fun k hk=>by
  unfold JA
  rw[z18,z18,hk]
  rfl
 obtain⟨v1,v2,fp4,I4,gq⟩:=Qoh (C:=Cb) hK I (by rw[← hK];exact r) e
 exact⟨_,fp4,I4,ext2 (hb 0 hj) (hb 1 hj1),gq,fun I3=>QuU I3 (hb 0 hj) (hb 1 hj1) (np 0 hj) (np 1 hj1)⟩
theorem QfZ (hK:C.K=X.K)(hj:cs[0]? = some .me)(hj1:cs[1]? = some .me)(nd:(cs.filterMap Cp.is).Nodup)(hp:p=true->cs.filterMap Cp.is=[]){σ:L2.St}{H:Hp}{Q:VK}(h:tX .O C (pa && p) E (Qcd par cs mi mt me) σ H Q):Qft (tI C pa E mi) (cs.map Cp.ix) (Qm0 X.K 2 (QbQ (VH 0) (QbQ (VH 1) QmZ))) (exT X.K pc mt) (exX .O X.K pe me) σ H Q:=by
 obtain⟨F,ρ,τ,fp,I,h⟩:=h
 rw[QlX] at h
 exact⟨F,ρ,τ,fp,I,h.split.mono fun r hr F1 H1 fp1 J I1 n1 it=>QhE hK nd hp (Qoi hj hj1) I1 n1 (fun Cb h1 _ _ _=>⟨fun I s e=>h1▸it.go h1 I s e,fun I s=>it.stop h1 I s⟩) hr⟩
theorem QlY {tg:Expr}(hK:C.K=X.K)(hc:X.calm=true)(B:Blk X scope N (cs.map Cp.ix))(hj:cs[0]? = some .me)(hj1:cs[1]? = some .me)(hi:PI X tg iter (tI C pa E mi))(hg:∀pins c s H ex,PG (X.blk scope N pins c s H ex) tg (Qm0 X.K 2 (QbQ (VH 0) (QbQ (VH 1) QmZ))))
  (ht:∀pins c s H ex,PIf (X.blk scope N pins c s H ex) ifs (exT X.K pc mt)) (he:∀pins c s H ex,PE (X.blk scope N pins c s H ex) elt (exX .O X.K pe me)) (nd:(cs.filterMap Cp.is).Nodup:=by decide) (hp:p=true->cs.filterMap Cp.is=[]:=by decide)
  (hs:∀x,foldedSetIterable iter X.env x=pure x:=by intro _;rfl):PE X (.ListComp elt [⟨tg,iter,ifs,0⟩] scope pos) (tX .O C (pa && p) E (Qcd par cs mi mt me)):=
 Qv (Qhn hc B hi hg ht he hs) fun _ _ _ h=>QfZ hK hj hj1 nd hp h
theorem QlZ {tg:Expr}{y:Str}{py spos:Pos}{i0:Nat}(hK:C.K=X.K)(hc:X.calm=true)(hXN:X.N.Nodup)(hi0:X.N[i0]? = some y)(hy:Loc X.env.scope y)(B:Blk X scope N (cs.map Cp.ix))(hj:cs[0]? = some .me)(hj1:cs[1]? = some .me)(hi:PI X tg iter (tI C pa E mi))(hg:∀pins c s H ex,PG (X.blk scope N pins c s H ex) tg (Qm0 X.K 2 (QbQ (VH 0) (QbQ (VH 1) QmZ))))
  (ht:∀pins c s H ex,PIf (X.blk scope N pins c s H ex) ifs (exT X.K pc mt)) (he:∀pins c s H ex,PE (X.blk scope N pins c s H ex) elt (exX .O X.K pe me)) (nd:(cs.filterMap Cp.is).Nodup:=by decide)
  (hsw:swapsWith (.ListComp elt [⟨tg,iter,ifs,0⟩] scope pos) (some (.Name y py)) spos.line X.env=pure true:=by rfl)
  (hf:X.fn y=true\/X.env.scope.names.lookup y=some .local:=by first|exact .inl rfl|exact .inr rfl|assumption)
  (hs:∀x,foldedSetIterable iter X.env x=pure x:=by intro _;rfl):PS X (.Assign [.Name y py] (.ListComp elt [⟨tg,iter,ifs,0⟩] scope pos) spos) (tS rk C E (Qiz i0 (Qcd par cs mi mt me))):=
 Ju (Qek hc hXN hi0 hy B hi hg ht he hsw hf hs) fun D σ H h=>by
  have q:=QgO (p:=pa && false) h
  refine QfZ (p:=false) (par:=par) hK hj hj1 nd (fun z=>nomatch z) ?_
  obtain⟨F,ρ,τ,fp,I,r⟩:=q
  exact⟨F,ρ,τ,fp,I,r.mono fun a z F' H' fp' v I' n f=>by
   obtain⟨F2,rest,J,sf,rr,je⟩:=SI.freeze (show SI C F' H' σ a.2 ((v,a.1)::τ) fp' from I')
   exact z F2 H' rest v J ⟨n.f.trans sf,fun hp=>by rw[je];exact n.g hp⟩ rr⟩
end
def Qkt:List (List Key)->List D->List Key->Option D
 |k::ks,d::ds,q=>if k=q then some d else Qkt ks ds q
 |_,_,_=>none
theorem Qku {K:z01}{F:Hp}:∀{ks:List (List Key)} {vs:List L2.V} {ds:List D} {q:List Key},RL K F vs ds->(∀d,Qkt ks ds q=some d->∃v,Qic (ks.zip vs) q=some v/\R K F v d)/\(Qkt ks ds q=none->ks.length=vs.length->Qic (ks.zip vs) q=none)
 | [],_,_,q,h=>⟨(fun d e=>by cases h<;>cases e),fun _ _=>rfl⟩
 |k::ks,_,_,q,.nil=>⟨(fun d e=>by cases e),fun _ l=>by cases l⟩
 |k::ks,v::vs,d::ds,q,.cons r h=>by
  obtain⟨i1,i2⟩:=Qku (ks:=ks) (q:=q) h
  rw[z89]
  by_cases e:k=q
  ·subst e
   refine⟨fun d' e'=>?_,fun e'=>?_⟩
   ·rw[Qkt,if_pos rfl] at e';cases e'
    exact⟨v,Qcq rfl,r⟩
   ·rw[Qkt,if_pos rfl] at e';cases e'
  ·refine⟨fun d' e'=>?_,fun e' l=>?_⟩
   ·rw[Qkt,if_neg e] at e'
    rw[Qbu e]
    exact i1 d' e'
   ·rw[Qkt,if_neg e] at e'
    rw[Qbu e]
    exact i2 e' (by simpa using l)
def Qr5:D->Option (List (List Key)×List D)
 |.nd (.dT ks) ds=>some (ks,ds)
 |_=>none
theorem Qkv {d:D}{q:List (List Key)×List D}(h:Qr5 d=some q):d=.nd (.dT q.1) q.2:=by
 unfold Qr5 at h
 split at h
 ·cases h;rfl
 ·cases h
def Qt6 (q:List (List Key)×List D)(y x:D):Option D:=(Qqh y).bind fun k=>match Qkt q.1 q.2 k with
 |some d=>if d.imm=true then some d else none
 |none=>some x
def QiC (md my mx:ME):ME:=fun ρ=>(md ρ).bind fun r1=>(Rs.of (Qr5 r1.1)).bind fun q=>(my r1.2).bind fun r2=>(mx r2.2).bind fun r3=>Rs.of ((Qt6 q r2.1 r3.1).map fun d=>(d,r3.2))
section
variable {X:Cx}{C:Cn}{E:XE}{pa:Bool}{o e f:Expr}{ma mb mc:ME}{apos cpos:Pos}{ka kb:Kd}
theorem Qkw (hu:X.A.units+1<cLine)(ho:PE X o (tX ka C pa E ma))(he:PE X e (tX kb C true E mb))(hf:PE X f (tX .V C true E mc))(ok:ka.on true=true:=by rfl)(ok2:kb.on true=true:=by rfl)(m:M2 X o "get" apos e f cpos:=by exact⟨rfl,rfl,rfl,rfl⟩) :
  PE X (.Call (.Attribute o "get" apos) [e,f] [] cpos) (tX .V C pa E (QiC ma mb mc)):=Qv (Qlm hu ho he hf m) fun σ H Q ⟨F,ρ,τ,fp,I,h⟩=>by
 refine⟨F,ρ,τ,fp,I,h.split.mono fun r1 h1 F1 H1 fp1 v1 I1 n1 f1=>?_⟩
 rw[Kd.Vg ok] at I1
 obtain⟨q,eq,h1⟩:=h1.split.of
 have g1:=Kd.stay ok f1 .refl I1
 rw[Qkv eq] at g1
 obtain⟨a,us,rfl,at1,rl1⟩:=g1.inv
 refine⟨a,rfl,.inr ⟨q.1.zip us,.inl (Qap I1.fh _ _ at1.2)⟩,F1,r1.2,τ,fp1,I1,h1.split.mono fun r2 h2 F2 H2 fp2 v2 I2 n2 f2=>?_⟩
 rw[Kd.Vg ok2] at I2
 refine⟨F2,r2.2,τ,fp2,I2,h2.split.mono fun r3 h3 F3 H3 fp3 v3 I3 n3 f3=>?_⟩
 obtain⟨z,ez,h4⟩:=h3.of
 obtain⟨res,eg,rfl⟩:=z03.mp ez
 have n23:Nx true F1 H1 fp1 F3 H3 fp3:=n2.trans n3
 have gd:=Kd.stay ok f1 n23 I3
 rw[Qkv eq] at gd
 have gy:=Kd.stay ok2 f2 n3 I3
 obtain⟨a',us',ea,at3,rl3⟩:=gd.inv
 cases ea
 obtain⟨k,ek,e2⟩:=z28.mp (show(Qqh r2.1).bind _=some res from eg)
 obtain⟨bb,rfl,hb⟩:=QmD gy ek
 have dg:=Qpl.t (Qap I3.fh _ _ at3.2) (Qap I3.fh _ _ hb)
 obtain⟨w1,w2⟩:=Qku (ks:=q.1) (q:=k) rl3
 refine⟨_,dg,?_⟩
 cases ev:Qkt q.1 q.2 k with
 |some d=>
  rw[ev] at e2
  obtain⟨v,ev1,rv⟩:=w1 d ev
  rw[ev1]
  by_cases hi:d.imm=true
  ·have e2:(if d.imm=true then some d else none)=some res:=e2
   rw[if_pos hi] at e2
   cases e2
   have:=I3.loL (.cons rv .nil) (by show(D.imm _ && true)=true;rw[hi];rfl)
   cases this with
   |cons r _=>exact h4 F3 H3 fp3 v I3 ((n1.trans n23).weak fun z=>by simp[z]) r
  ·have e2:(if d.imm=true then some d else none)=some res:=e2
   rw[if_neg hi] at e2;cases e2
 |none=>
  rw[ev] at e2
  have e2:some r3.1=some res:=e2
  cases e2
  rw[w2 ev at3.1]
  exact h4 F3 H3 fp3 v3 I3 ((n1.trans n23).weak fun z=>by simp[z]) f3
end
end TL
namespace TL
open PySem PySem.Spec L2 PyProof.Rows
section
variable {m:ME}{mr:MA}
def Qrp (mr:MA):ME:=fun ρ=>(mr ρ).bind fun r=>(Rs.of (QgQ r.1)).bind fun n=>if n.toNat<=2 ^ 24 then .ok (.lst (Qt2 0 n.toNat),r.2) else .no
def Qts (m:ME):ME:=fun ρ=>(m ρ).bind fun r=>(Rs.of (asL r.1)).bind fun xs=>if D.Jo xs.reverse=true then .ok (.lst xs.reverse,r.2) else .no
end
end TL
namespace TL
open PySem PySem.Spec L2 L2.Srt
section
variable {s:Option Sl}{ρ ρ1 ρ2:Rho}{k:D×Rho->Prop}{kf:Fl×Rho->Prop}{a b m:ME}{mt:MT}{mr:MA}{mb:MS}{d x y:D}{xs ys:List D}{i:Nat}{c:Bool}
theorem YE {α:Type}{r:Rs α}{x:α}:W r (fun a=>a=x)↔r=.ok x:=⟨fun⟨a,e,h⟩=>by rw[e,h],fun h=>⟨x,h,rfl⟩⟩
theorem JL {r:Fr}{d:D}{os:List D}(h:FW r fun a b=>a=d/\b=os):r=.ok d os:=by obtain⟨a,b,e,rfl,rfl⟩:=h;exact e
theorem Qrq:W (QbW m (s::ρ)) kf↔W (m (s::ρ)) fun r=>kf (.nx,r.2):=by
 show W ((m (s::ρ)).bind fun r=>.ok (.nx,r.2)) kf↔_
 simp only[Qn,YR]
def nvK (r:D×Rho):Rs (D×Rho):=Rs.of ((asB r.1).map fun b=>(.bl (!b),r.2))
theorem Qrr:nvK (.bl c,ρ)=.ok (.bl (!c),ρ):=rfl
theorem Qrs:W (QnE m (s::ρ)) k↔W (m (s::ρ)) fun r=>W (nvK r) k:=Qn
theorem Qtt {tg:D->Rho->Option Rho}:W (Qtl tg m (s::ρ)) kf↔W (m (s::ρ)) fun r=>W (Rs.of (tg r.1 r.2)) fun ρ'=>kf (.nx,ρ'):=by
 show W ((m (s::ρ)).bind fun r=>(Rs.of (tg r.1 r.2)).bind fun ρ'=>.ok (.nx,ρ')) kf↔_
 simp only[Qn,YR]
theorem Qoj {i j:Nat}:QdX i j (.nd .tup [x,y]) ρ=(Y1 ρ i x).bind fun ρ1=>Y1 ρ1 j y:=rfl
def Qt7 (k:Addr)(nm:Str)(r:D×Rho):Rs (D×Rho):=if QfU k nm r.1=true then .ok r else .no
theorem Qok {a:Addr}{nm:Str}:Qt7 a nm (d,ρ)=if QfU a nm d=true then .ok (d,ρ) else .no:=rfl
theorem Qtu {a:Addr}{nm:Str}:W (Qc5 a nm m (s::ρ)) k↔W (m (s::ρ)) fun r=>W (Qt7 a nm r) k:=Qn
theorem Qrt {a:Addr}{f:Str}:Qj9 a f (.nd (.ins a [f]) [d])=some d:=by
 show(if a=a then Qj8 [f] [d] f else none)=_
 rw[if_pos rfl]
 show(if(f == f)=true then some d else _)=_
 rw[if_pos (by simp)]
theorem Qtv {par:Bool}(hi:ρ[i]? = some (some (mkS par (.lst (xs++[d])))))(hm:D.Jo (xs++[d])=true)(h:k (d,ρ.set i (some (mkS par (.lst xs))))):W (Qr3 i ρ) k:=by
 have e1:QaZ ρ i=some (par,xs++[d]):=by unfold QaZ;rw[hi];cases par<;>rfl
 refine⟨_,?_,h⟩
 unfold Qr3
 rw[e1]
 show((Rs.of ((xs++[d])[(xs++[d]).length - 1]?)).bind fun y=>if D.Jo (xs++[d])=true then .ok (y,ρ.set i (some (mkS par (.lst (xs++[d]).dropLast)))) else .no)=_
 have e2:(xs++[d])[(xs++[d]).length - 1]? = some d:=by simp
 rw[e2]
 show(if D.Jo (xs++[d])=true then Rs.ok (d,ρ.set i (some (mkS par (.lst (xs++[d]).dropLast)))) else .no)=_
 rw[if_pos hm,List.dropLast_concat]
theorem Qtw {par:Bool}{n:Int}(hi:ρ[i]? = some (some (mkS par (.lst xs))))(hr:mr ρ=.ok ([.int n,d],ρ))(h0:0<=n)(h1:n<=xs.length)(h2:xs.length<z15)(hm:(D.Jo xs && d.imm)=true)(h:kf (.nx,ρ.set i (some (mkS par (.lst (xs.take n.toNat++d::xs.drop n.toNat)))))):W (Qrk i mr ρ) kf:=by
 have e1:QaZ ρ i=some (par,xs):=by unfold QaZ;rw[hi];cases par<;>rfl
 refine⟨_,?_,h⟩
 unfold Qrk
 rw[e1,hr]
 show((Rs.of (QaZ ρ i)).bind fun q=>if 0<=n/\n<=q.2.length/\q.2.length<z15/\(D.Jo q.2 && d.imm)=true then Rs.ok (Fl.nx,ρ.set i (some (mkS q.1 (.lst (q.2.take n.toNat++d::q.2.drop n.toNat))))) else .no)=_
 rw[e1]
 show(if 0<=n/\n<=xs.length/\xs.length<z15/\(D.Jo xs && d.imm)=true then Rs.ok (Fl.nx,ρ.set i (some (mkS par (.lst (xs.take n.toNat++d::xs.drop n.toNat))))) else .no)=_
 rw[if_pos ⟨h0,h1,h2,hm⟩]
theorem QhS {par:Bool}{n j:Int}{mi mj:ME}{p q:Nat}{ρ1:Rho}(hi:ρ1[i]? = some (some (mkS par (.lst ys))))(hv:m ρ=.ok (d,ρ1))(h1:mi ρ1=.ok (.int n,ρ1))(h2:mj ρ1=.ok (.int j,ρ1))(e1:ixN ys.length n=some p)(e2:ys[p]? = some (.lst xs))(e3:ixN xs.length j=some q)
  (h:kf (.nx,ρ1.set i (some (mkS par (.lst (ys.set p (.lst (xs.set q d)))))))):W (VZ i m mi mj ρ) kf:=by
 have el:QaZ ρ1 i=some (par,ys):=by unfold QaZ;rw[hi];cases par<;>rfl
 refine⟨_,?_,h⟩
 unfold VZ
 simp only[hv,h1,h2,el,e1,e2,e3,Rs.bind,Rs.of,asI,asL,zf9]
theorem Qcz {par:Bool}{n j:Int}{mi mj:ME}{p q:Nat}(hi:ρ[i]? = some (some (mkS par (.lst ys))))(hv:m ρ=.ok (d,ρ))(h1:mi ρ=.ok (.int n,ρ))(h2:mj ρ=.ok (.int j,ρ))(e1:ixN ys.length n=some p)(e2:ys[p]? = some (.lst xs))(e3:ixN xs.length j=some q)
  (h:kf (.nx,ρ.set i (some (mkS par (.lst (ys.set p (.lst (xs.set q d)))))))):W (VZ i m mi mj ρ) kf:=QhS hi hv h1 h2 e1 e2 e3 h
theorem Qkx {N n:Nat}(Inv:Nat->Rho->Prop)(step:∀n ρ,Inv n ρ->W (mt ρ) fun c=>(c.1=true->W (mb c.2) fun r=>r.1=.nx/\∃n',n' < n/\Inv n' r.2)/\(c.1=false->kf (.nx,c.2)))(h:Inv n ρ)(hn:n<N):W (Qhx N mt mb ρ) kf:=by
 show W (whl mt mb N ρ) kf
 induction N generalizing n ρ with
 |zero=>lia
 |succ N ih=>
  obtain⟨⟨c,ρ1⟩,e,h1,h2⟩:=step n ρ h
  unfold whl
  rw[e]
  show W (if c=true then _ else _) kf
  cases c with
  |false=>rw[if_neg (by decide)];exact YR.mpr (h2 rfl)
  |true=>
   rw[if_pos rfl]
   obtain⟨⟨f,ρ2⟩,e2,e3,n',hn',hi⟩:=h1 rfl
   have e3:f=.nx:=e3
   subst e3
   rw[e2]
   exact ih hi (by lia)
theorem Qol {rk:Kd}{f:List D->Fr}{os:List D}(h:mr ρ=.ok (xs,ρ1))(hf:f xs=.ok d os):QfV rk f mr ρ=.ok (d,ρ1):=by
 unfold QfV;rw[h];show(match f xs with|.ok d _=>_|.ex _=>_|.no=>_)=_;rw[hf]
theorem Ql0 {a:Addr}{f:Addr->D->Fr}(h:mr ρ=.ok ([x],ρ1))(hf:∀y,f y x=.ok d [])(hi:(QiA a d && d.imm)=true):Qkc a f mr ρ=.ok (d,ρ1):=by
 unfold Qkc;rw[h]
 show(match QmH f x with|.ok i _=>_|.ex c=>_|.no=>_)=_
 rw[Qoc hf]
 show(if(QiA a d && d.imm)=true then Rs.ok (d,ρ1) else .no)=_
 rw[if_pos hi]
def QuV (r:D×Rho):Rs (D×Rho):=(Rs.of (Qks r.1)).bind fun ps=>if ps.length<=4000 then .ok (.lst ((QhR QtU ps).map pnD),r.2) else .no
theorem Qom:W (Qro m (s::ρ)) k↔W (m (s::ρ)) fun r=>W (QuV r) k:=Qn
def Qt8 (r:List D×Rho):Rs (D×Rho):=(Rs.of (Qg0 r.1)).bind fun ps=>.ok (.lst (ps.map npD),r.2)
theorem Qon:W (Qkr mr (s::ρ)) k↔W (mr (s::ρ)) fun r=>W (Qt8 r) k:=Qn
theorem Qoo {ps:List NP}(h:ps.Nodup)(hl:ps.length<=4000):Qt8 ([.lst (ps.map npD)],ρ)=.ok (.lst ((QhR VQ ps).map npD),ρ):=by
 show(Rs.of ((npL (ps.map npD)).bind fun ps=>if ps.Nodup/\ps.length<=4000 then some (QhR VQ ps) else none)).bind _=_
 rw[Qkn]
 show(Rs.of (if ps.Nodup/\ps.length<=4000 then some (QhR VQ ps) else none)).bind _=_
 rw[if_pos ⟨h,hl⟩];rfl
end
def sbK (r:D×Rho):Rs (List D×Rho):=(Rs.of (Qis [r.1])).bind fun ds=>if D.Jo ds=true then .ok (ds,r.2) else .no
theorem Qru {m:ME}{s:Option Sl}{ρ:Rho}{ka:List D×Rho->Prop}:W (Qtr m (s::ρ)) ka↔W (m (s::ρ)) fun r=>W (sbK r) ka:=Qn
theorem QuW {xs:List D}{i:Int}:gIx (.nd .lst xs) (.int i)=atI xs i:=rfl
theorem QuX {xs:List D}{i:Int}:gIx (.nd .tup xs) (.int i)=atI xs i:=rfl
theorem Qtx {xs:List D}:JT [.nd .lst xs]=some (.int xs.length):=rfl
theorem Qty {xs:List D}:JT [.nd .tup xs]=some (.int xs.length):=rfl
def atL (L:List (List Int))(p:Int×Int):Int:=(L.getD p.1.toNat []).getD p.2.toNat 0
def Qce (L:List (List Int))(p:Int×Int)(v:Int):List (List Int):=L.set p.1.toNat ((L.getD p.1.toNat []).set p.2.toNat v)
structure Rc (h w:Nat)(L:List (List Int)):Prop where
 hi:L.length=h
 wi:∀r∈L,r.length=w
def inR (h w:Nat)(p:Int×Int):Prop:=0<=p.1/\p.1<h/\0<=p.2/\p.2<w
instance {h w:Nat} {p:Int×Int}:Decidable (inR h w p):=inferInstanceAs (Decidable (_/\_/\_/\_))
def rwI (r:List Int):D:=.lst (r.map .int)
def rD (L:List (List Int)):D:=.lst (L.map rwI)
def tuI (r:List Int):D:=.tup (r.map .int)
def tuD (L:List (List Int)):D:=.tup (L.map tuI)
theorem Qay {n:Nat}{i:Int}(h0:0<=i)(h1:i<n):ixN n i=some i.toNat:=by
 unfold ixN
 simp only[h0,h1]
 simp
theorem Qb0 {α:Type}(f:α->D)(d:α){xs:List α}{i:Int}(h0:0<=i)(h1:i<xs.length):atI (xs.map f) i=some (f (xs.getD i.toNat d)):=by
 unfold atI
 rw[z00,Qay h0 h1]
 show(xs.map f)[i.toNat]? = _
 have:i.toNat<xs.length:=by lia
 rw[z18,z04 this,z12,z04 this];rfl
theorem Rc.row {h w:Nat}{L:List (List Int)}(r:Rc h w L){i:Int}(h0:0<=i)(h1:i<h):(L.getD i.toNat []).length=w:=by
 have:i.toNat<L.length:=by rw[r.hi];lia
 rw[z12,z04 this]
 exact r.wi _ (z91 this)
theorem YU {h w:Nat}{L:List (List Int)}(r:Rc h w L){i:Int}(h0:0<=i)(h1:i<h):gIx (rD L) (.int i)=some (rwI (L.getD i.toNat [])):=Qb0 rwI [] h0 (by rw[r.hi];exact h1)
theorem Qop {h w:Nat}{L:List (List Int)}(r:Rc h w L){i:Int}(h0:0<=i)(h1:i<h):gIx (tuD L) (.int i)=some (tuI (L.getD i.toNat [])):=Qb0 tuI [] h0 (by rw[r.hi];exact h1)
theorem Qtz {l:List Int}{j:Int}(h0:0<=j)(h1:j<l.length):gIx (rwI l) (.int j)=some (.int (l.getD j.toNat 0)):=Qb0 D.int 0 h0 h1
theorem QtA {l:List Int}{j:Int}(h0:0<=j)(h1:j<l.length):gIx (tuI l) (.int j)=some (.int (l.getD j.toNat 0)):=Qb0 D.int 0 h0 h1
theorem Qaz {h w:Nat}{L:List (List Int)}(r:Rc h w L){p:Int×Int}(hp:inR h w p):gIx (rwI (L.getD p.1.toNat [])) (.int p.2)=some (.int (atL L p)):=Qtz hp.2.2.1 (by rw[r.row hp.1 hp.2.1];exact hp.2.2.2)
theorem Qrv {h w:Nat}{L:List (List Int)}(r:Rc h w L){p:Int×Int}(hp:inR h w p):gIx (tuI (L.getD p.1.toNat [])) (.int p.2)=some (.int (atL L p)):=QtA hp.2.2.1 (by rw[r.row hp.1 hp.2.1];exact hp.2.2.2)
theorem Rc.set {h w:Nat}{L:List (List Int)}(r:Rc h w L){p:Int×Int}(hp:inR h w p){v:Int}:Rc h w (Qce L p v):=by
 refine⟨by unfold Qce;rw[zb7];exact r.hi,fun l hl=>?_⟩
 rcases zh4 hl with hl|rfl
 ·exact r.wi _ hl
 ·rw[zb7];exact r.row hp.1 hp.2.1
theorem Qg1 {h w:Nat}{L:List (List Int)}(r:Rc h w L){p q:Int×Int}(hp:inR h w p)(hq:inR h w q){v:Int}:atL (Qce L p v) q=if q=p then v else atL L q:=by
 obtain⟨a,b⟩:=p
 obtain⟨c,d⟩:=q
 obtain⟨p1,p2,p3,p4⟩:=hp
 obtain⟨q1,q2,q3,q4⟩:=hq
 have hl:=r.row p1 p2
 have e1:=r.hi
 dsimp only at p1 p2 p3 p4 q1 q2 q3 q4 hl
 unfold atL Qce
 dsimp only
 simp only[z12,zv6] at hl ⊢
 by_cases h1:a=c
 ·subst h1
  rw[if_pos rfl,if_pos (by lia)]
  simp only[z98,zv6]
  by_cases h2:b=d
  ·subst h2
   rw[if_pos rfl,if_pos (by lia),if_pos rfl];rfl
  ·rw[if_neg (by lia),if_neg (by intro z;exact h2 (by rw[zk2] at z;exact z.2.symm))]
 ·rw[if_neg (by lia),if_neg (by intro z;exact h1 (by rw[zk2] at z;exact z.1.symm))]
theorem QmM {h w:Nat}{L:List (List Int)}(r:Rc h w L){p:Int×Int}(hp:inR h w p){v:Int}:(L.map rwI).set p.1.toNat (.lst (((L.getD p.1.toNat []).map D.int).set p.2.toNat (.int v)))=(Qce L p v).map rwI:=by
 unfold Qce
 rw[zm9]
 show _=(L.map rwI).set p.1.toNat (D.lst (((L.getD p.1.toNat []).set p.2.toNat v).map D.int))
 rw[zm9]
theorem Vk:∀(l:List Int),D.Jo (l.map .int)=true
 | []=>rfl
 |_::l=>Vk l
def arL (p:Int×Int):List (Int×Int):=[(p.1 - 1,p.2),(p.1,p.2 - 1),(p.1,p.2+1),(p.1+1,p.2)]
def okN (h w:Nat)(F:List (List Int))(p:Int×Int):Bool:=decide (inR h w p) && !decide (atL F p=0)
def nbL (h w:Nat)(F:List (List Int))(p:Int×Int):List (Int×Int):=(arL p).filter (okN h w F)
section
variable {h w:Nat}{F R R' R0:List (List Int)}{e y:NP}{wt wt' wt0:List NP}{ns:List (Int×Int)}{u v p:Int×Int}{least:Int}{dn:Int×Int->Bool}
theorem Vl (k:okN h w F p=true):inR h w p/\atL F p≠0:=by
 unfold okN at k
 simpa using k
theorem Qf0 (k:v∈nbL h w F p):okN h w F v=true:=(z63.mp k).2
def Nn (h w:Nat)(F:List (List Int)):Prop:=∀p,inR h w p->0<=atL F p
theorem Qky (p:Int×Int):(nbL h w F p).length<=4:=za9 _ _
theorem QtB (k:VQ e y=true):e.1<=y.1:=by
 unfold VQ at k
 simp at k
 lia
structure Gv (h w:Nat)(F:List (List Int))(e:NP)(R0:List (List Int))(wt0:List NP)(ns:List (Int×Int))(R:List (List Int))(wt:List NP):Prop where
 rc:Rc h w R
 up:∀p,inR h w p->atL R0 p<=atL R p
 ch:∀p,inR h w p->atL R p=atL R0 p\/(p∈ns/\atL R p=e.1 - atL F p/\(atL R p,p)∈wt)
 ge:∀p∈ns,inR h w p->e.1 - atL F p<=atL R p
 pw:wt.Pairwise (fun a b=>VQ a b=true)
 i1:∀x∈wt,okN h w F x.2=true/\x.1<=atL R x.2
 sb:∀x∈wt0,x∈wt
 nw:∀x∈wt,x∈wt0\/(x.1=e.1 - atL F x.2/\atL R0 x.2<x.1/\x.2∈ns)
 ln:wt.length<=wt0.length+ns.length
theorem Gv.start (rc:Rc h w R)(pw:wt.Pairwise (fun a b=>VQ a b=true))(i1:∀x∈wt,okN h w F x.2=true/\x.1<=atL R x.2):Gv h w F e R wt [] R wt:=
 ⟨rc,fun _ _=>zd9 _,fun _ _=>.inl rfl,(fun _ z=>nomatch z),pw,i1,fun _ z=>z,fun _ z=>.inl z,by simp⟩
theorem Gv.skip (g:Gv h w F e R0 wt0 ns R wt)(k:¬ e.1 - atL F v > atL R v):Gv h w F e R0 wt0 (ns++[v]) R wt where
 rc:=g.rc
 up:=g.up
 ch:=fun p hp=>(g.ch p hp).imp id fun⟨a,b⟩=>⟨z06 _ a,b⟩
 ge:=fun p hp ip=>by
  rcases z05.mp hp with hp|hp
  ·exact g.ge p hp ip
  ·rw[z25.mp hp];lia
 pw:=g.pw
 i1:=g.i1
 sb:=g.sb
 nw:=fun x hx=>(g.nw x hx).imp id fun⟨a,b,c⟩=>⟨a,b,z06 _ c⟩
 ln:=by have:=g.ln;rw[z16];lia
theorem Gv.put (g:Gv h w F e R0 wt0 ns R wt)(hv:okN h w F v=true)(k:e.1 - atL F v > atL R v)(hw:wt'.Perm ((e.1 - atL F v,v)::wt))(pw:wt'.Pairwise (fun a b=>VQ a b=true)):Gv h w F e R0 wt0 (ns++[v]) (Qce R v (e.1 - atL F v)) wt':=by
 have iv:=(Vl hv).1
 have as:∀p,inR h w p->atL (Qce R v (e.1 - atL F v)) p=if p=v then e.1 - atL F v else atL R p:=fun p hp=>Qg1 g.rc iv hp
 have up1:∀p,inR h w p->atL R p<=atL (Qce R v (e.1 - atL F v)) p:=fun p hp=>by
  rw[as p hp]
  split
  ·rename_i e;subst e;lia
  ·exact zd9 _
 refine⟨g.rc.set iv,fun p hp=>z93 (g.up p hp) (up1 p hp),fun p hp=>?_,fun p hp ip=>?_,pw,fun x hx=>?_,fun x hx=>hw.mem_iff.mpr (z08 _ (g.sb x hx)),fun x hx=>?_,?_⟩
 ·rw[as p hp]
  split
  ·rename_i e1
   subst e1
   exact .inr ⟨z02 _ z07,rfl,hw.mem_iff.mpr z07⟩
  ·exact(g.ch p hp).imp id fun⟨a,b,c⟩=>⟨z06 _ a,b,hw.mem_iff.mpr (z08 _ c)⟩
 ·rcases z05.mp hp with hp|hp
  ·exact z93 (g.ge p hp ip) (up1 p ip)
  ·rw[z25.mp hp,as v iv,if_pos rfl];exact zd9 _
 ·rcases z13.mp (hw.mem_iff.mp hx) with rfl|hx
  ·exact⟨hv,by rw[as v iv,if_pos rfl];exact zd9 _⟩
  ·exact⟨(g.i1 x hx).1,z93 (g.i1 x hx).2 (up1 _ (Vl (g.i1 x hx).1).1)⟩
 ·rcases z13.mp (hw.mem_iff.mp hx) with rfl|hx
  ·exact .inr ⟨rfl,by have:=g.up v iv;dsimp only;lia,z02 _ z07⟩
  ·exact(g.nw x hx).imp id fun⟨a,b,c⟩=>⟨a,b,z06 _ c⟩
 ·have:=g.ln
  rw[hw.length_eq,z16]
  simp
  lia
structure Jv (h w:Nat)(F R0:List (List Int))(least:Int)(dn:Int×Int->Bool)(R:List (List Int))(wt:List NP):Prop where
 rc:Rc h w R
 pw:wt.Pairwise (fun a b=>VQ a b=true)
 i1:∀x∈wt,okN h w F x.2=true/\x.1<=atL R x.2
 up:∀p,inR h w p->atL R0 p<=atL R p
 i2:∀u,okN h w F u=true->least<atL R u->(atL R u,u)∈wt\/dn u=true
 d1:∀u,dn u=true->okN h w F u=true/\(∀v∈nbL h w F u,atL R u - atL F v<=atL R v)/\(∀x∈wt,x.1<=atL R u)/\(atL R u,u)∉wt
 so:∀p,inR h w p->atL R p=atL R0 p\/∃u,dn u=true/\p∈nbL h w F u/\atL R p=atL R u - atL F p
theorem Jv.stale (j:Jv h w F R0 least dn R (wt++[e]))(ne:atL R e.2≠e.1):Jv h w F R0 least dn R wt where
 rc:=j.rc
 pw:=(z35.mp j.pw).1
 i1:=fun x hx=>j.i1 x (z06 _ hx)
 up:=j.up
 i2:=fun u hu hl=>(j.i2 u hu hl).imp (fun hm=>by
  rcases z05.mp hm with hm|hm
  ·exact hm
  ·have q:=z25.mp hm
   rw[← q] at ne
   exact absurd rfl ne) id
 d1:=fun u hu=>by
  obtain⟨a,b,c,d⟩:=j.d1 u hu
  exact⟨a,b,fun x hx=>c x (z06 _ hx),fun hm=>d (z06 _ hm)⟩
 so:=j.so
theorem Jv.give (hF:Nn h w F)(j:Jv h w F R0 least dn R (wt++[e]))(eq:atL R e.2=e.1)(g:Gv h w F e R wt (nbL h w F e.2) R' wt') :
  Jv h w F R0 least (fun p=>dn p || decide (p=e.2)) R' wt'/\dn e.2=false/\okN h w F e.2=true:=by
 obtain⟨pw1,_,pw3⟩:=z35.mp j.pw
 have le:∀x∈wt,x.1<=e.1:=fun x hx=>QtB (pw3 x hx e z07)
 have ne:e∉wt:=fun hm=>by have:=pw3 e hm e z07;rw[Qbv.irr] at this;cases this
 have oke:okN h w F e.2=true:=(j.i1 e (z02 _ z07)).1
 have ie:=(Vl oke).1
 have nd:dn e.2=false:=by
  cases q:dn e.2 with
  |false=>rfl
  |true=>exact absurd (by rw[eq];exact z02 _ z07) (j.d1 _ q).2.2.2
 have lo:∀v,v∈nbL h w F e.2->0<=atL F v:=fun v hv=>hF v (Vl (Qf0 hv)).1
 -- high cells stay
 have st:∀u,inR h w u->e.1<=atL R u->atL R' u=atL R u:=fun u iu hu=>by
  rcases g.ch u iu with q|⟨a,b,c⟩
  ·exact q
  ·have:=lo u a
   have:=g.up u iu
   lia
 have dhi:∀u,dn u=true->e.1<=atL R u:=fun u hu=>(j.d1 u hu).2.2.1 e (z02 _ z07)
 have din:∀u,dn u=true->inR h w u:=fun u hu=>(Vl (j.d1 u hu).1).1
 have ste:atL R' e.2=e.1:=by rw[st e.2 ie (by lia),eq]
 have wle:∀x∈wt',x.1<=e.1:=fun x hx=>by
  rcases g.nw x hx with q|⟨a,b,c⟩
  ·exact le x q
  ·have:=lo _ c;lia
 refine⟨⟨g.rc,g.pw,g.i1,fun p hp=>z93 (j.up p hp) (g.up p hp),fun u hu hl=>?_,fun u hu=>?_,fun p hp=>?_⟩,nd,oke⟩
 ·have iu:=(Vl hu).1
  rcases g.ch u iu with q|⟨a,b,c⟩
  ·rw[q] at hl ⊢
   rcases j.i2 u hu hl with hm|hd
   ·rcases z05.mp hm with hm|hm
    ·exact .inl (g.sb _ hm)
    ·have q2:=z25.mp hm
     exact .inr (by rw[← q2];simp)
   ·exact .inr (by rw[hd];rfl)
  ·exact .inl c
 ·rcases zt7.mp hu with hu|hu
  ·obtain⟨a,b,c,d⟩:=j.d1 u hu
   have eu:=st u (din u hu) (dhi u hu)
   rw[eu]
   refine⟨a,fun v hv=>z93 (b v hv) (g.up v (Vl (Qf0 hv)).1),fun x hx=>z93 (wle x hx) (dhi u hu),fun hm=>?_⟩
   rcases g.nw _ hm with q|⟨a1,b1,c1⟩
   ·exact d (z06 _ q)
   ·dsimp only at b1;lia
  ·have hu:u=e.2:=of_decide_eq_true hu
   subst hu
   rw[ste]
   refine⟨oke,fun v hv=>g.ge v hv (Vl (Qf0 hv)).1,wle,fun hm=>?_⟩
   rcases g.nw _ hm with q|⟨a1,b1,c1⟩
   ·exact ne q
   ·dsimp only at b1;lia
 ·rcases g.ch p hp with q|⟨a,b,c⟩
  ·rw[q]
   rcases j.so p hp with q2|⟨u,hu,hn,hv⟩
   ·exact .inl q2
   ·exact .inr ⟨u,by rw[hu];rfl,hn,by rw[st u (din u hu) (dhi u hu)];exact hv⟩
  ·exact .inr ⟨e.2,by simp,a,by rw[ste];exact b⟩
theorem Jv.fin (hF:Nn h w F)(hl:∀p,inR h w p->least<=atL R0 p)(j:Jv h w F R0 least dn R []):∀u,okN h w F u=true->∀v∈nbL h w F u,atL R u - atL F v<=atL R v:=fun u hu v hv=>by
 by_cases q:least<atL R u
 ·rcases j.i2 u hu q with hm|hd
  ·cases hm
  ·exact(j.d1 u hd).2.1 v hv
 ·have iv:=(Vl (Qf0 hv)).1
  have:=j.up v iv
  have:=hl v iv
  have:=hF v iv
  lia
def Qda (ps:List (Int×Int))(dn:Int×Int->Bool):Nat:=(ps.filter fun p=>!dn p).length
theorem Ql1 (ps:List (Int×Int))(dn:Int×Int->Bool):Qda ps dn<=ps.length:=za9 _ _
theorem QiD {ps:List (Int×Int)}:Qda ps (fun p=>dn p || decide (p=u))<=Qda ps dn:=by
 unfold Qda
 induction ps with
 |nil=>exact z27 _
 |cons a ps ih=>
  rw[z80,z80]
  cases qd:dn a with
  |true=>simpa[qd] using ih
  |false=>
   by_cases q:a=u
   ·simp[q,qd];simp at ih;lia
   ·simpa[q,qd] using ih
theorem QeB:∀{ps:List (Int×Int)},u∈ps->dn u=false->Qda ps (fun p=>dn p || decide (p=u))+1<=Qda ps dn
 |a::ps,hm,hd=>by
  by_cases q:a=u
  ·subst q
   have:=QiD (dn:=dn) (u:=a) (ps:=ps)
   unfold Qda at this ⊢
   rw[z80,z80]
   simp[hd]
   simpa using this
  ·have hm:u∈ps:=(z13.mp hm).resolve_left (fun z=>q z.symm)
   have ih:=QeB hm hd
   unfold Qda at ih ⊢
   rw[z80,z80]
   cases qd:dn a with
   |true=>simpa[qd] using ih
   |false=>simpa[q,qd] using ih
end
end TL
namespace TL
open PySem PySem.Spec L2
section
variable {s:Option Sl}{ρ:Rho}{k:D×Rho->Prop}{m:ME}{mr:MA}
def QtC (par:Bool)(cs:List Cp)(tc:MT)(te:ME)(r:List D×Rho):Rs (D×Rho):=(Rs.of (Qax par r.2 (cs.filterMap Cp.is))).bind fun di=>(Rs.of (QbP r.2 cs di)).bind fun ρb=>
 match Qa5 tc te r.1 ρb [] with
 |.ok q=>(Rs.of (outs (ioB cs) q.2)).bind fun os=>.ok (.lst q.1,VW par r.2 (cs.filterMap Cp.is) os)
 |_=>.no
theorem Qoq {par:Bool}{cs:List Cp}{mi:MA}{tc:MT}{te:ME}:W (Qcd par cs mi tc te (s::ρ)) k↔W (mi (s::ρ)) fun r=>W (QtC par cs tc te r) k:=Qn
theorem Qa9 {tc:MT}{te:ME}{f:D->Bool}{g:D->D}{ρ:Rho}:∀{ds:List D} {acc:List D},(∀d∈ds,∃ρ0,QdX 0 1 d ρ=some ρ0/\tc ρ0=.ok (f d,ρ0)/\(f d=true->te ρ0=.ok (g d,ρ0))/\(ρ0.set 1 none).set 0 none=ρ)->acc.length+ds.length<=z15->
  Qa5 tc te ds ρ acc=.ok (acc++(ds.filter f).map g,ρ)
 | [],acc,h,l=>by simp[Qa5]
 |d::ds,acc,h,l=>by
  obtain⟨ρ0,e0,e1,e2,e3⟩:=h d z07
  unfold Qa5
  rw[e0]
  show(tc ρ0).bind _=_
  rw[e1]
  show(if f d=true then _ else _)=_
  by_cases hf:f d=true
  ·rw[if_pos hf,e2 hf]
   show(if acc.length<z15 then _ else _)=_
   rw[if_pos (by simp at l;lia),e3,Qa9 (fun d' hd'=>h d' (z08 _ hd')) (by simp at l ⊢;lia),z80,if_pos hf]
   simp
  ·rw[if_neg hf,e3,Qa9 (fun d' hd'=>h d' (z08 _ hd')) (by simp at l ⊢;lia),z80,if_neg hf]
theorem QmN {par:Bool}{cs:List Cp}{tc:MT}{te:ME}{ρb:Rho}{ds di os:List D}{f:D->Bool}{g:D->D}(h2:Qax par ρ (cs.filterMap Cp.is)=some di)(h3:QbP ρ cs di=some ρb)
  (hs:∀d∈ds,∃ρ0,QdX 0 1 d ρb=some ρ0/\tc ρ0=.ok (f d,ρ0)/\(f d=true->te ρ0=.ok (g d,ρ0))/\(ρ0.set 1 none).set 0 none=ρb) (l:ds.length<=z15) (ho:outs (ioB cs) ρb=some os) (hp:VW par ρ (cs.filterMap Cp.is) os=ρ) (hk:k (.lst ((ds.filter f).map g),ρ)):W (QtC par cs tc te (ds,ρ)) k:=by
 refine⟨_,?_,hk⟩
 unfold QtC
 show(Rs.of (Qax par ρ _)).bind _=_
 rw[h2]
 show(Rs.of (QbP ρ cs di)).bind _=_
 rw[h3]
 show(match Qa5 tc te ds ρb [] with|.ok q=>_|_=>_)=_
 rw[Qa9 hs (by simpa using l)]
 show(Rs.of (outs (ioB cs) ρb)).bind _=_
 rw[ho]
 show Rs.ok (D.lst _,VW par ρ (cs.filterMap Cp.is) os)=_
 rw[hp,zo5]
def rvK (r:D×Rho):Rs (D×Rho):=(Rs.of (asL r.1)).bind fun xs=>if D.Jo xs.reverse=true then .ok (.lst xs.reverse,r.2) else .no
theorem Qrw {xs:List D}:rvK (.nd .lst xs,ρ)=if D.Jo xs.reverse=true then .ok (.lst xs.reverse,ρ) else .no:=rfl
theorem Qrx:W (Qts m (s::ρ)) k↔W (m (s::ρ)) fun r=>W (rvK r) k:=Qn
def lrK (r:List D×Rho):Rs (D×Rho):=(Rs.of (QgQ r.1)).bind fun n=>if n.toNat<=2 ^ 24 then .ok (.lst (Qt2 0 n.toNat),r.2) else .no
theorem Qor:W (Qrp mr (s::ρ)) k↔W (mr (s::ρ)) fun r=>W (lrK r) k:=Qn
def tpK (ks:List Kd)(r:List D×Rho):Rs (D×Rho):=(Rs.of (QbC ks r.1 r.2)).bind fun q=>if q.1.length<=z15 then .ok (.tup q.1,q.2) else .no
theorem Qry {ks:List Kd}:W (QnT ks mr (s::ρ)) k↔W (mr (s::ρ)) fun r=>W (tpK ks r) k:=Qn
theorem Qrz {ks:List Kd}{r:List D×Rho}{q:List D×Rho}(h:QbC ks r.1 r.2=some q)(hl:q.1.length<=z15):tpK ks r=.ok (.tup q.1,q.2):=by
 unfold tpK
 rw[h]
 show(if q.1.length<=z15 then _ else _)=_
 rw[if_pos hl]
theorem Qos {md my mx:ME}{ks:List (List Key)}{ds:List D}{y x d:D}{ρ:Rho}(h1:md ρ=.ok (.nd (.dT ks) ds,ρ))(h2:my ρ=.ok (y,ρ))(h3:mx ρ=.ok (x,ρ))(h4:Qt6 (ks,ds) y x=some d):QiC md my mx ρ=.ok (d,ρ):=by
 unfold QiC
 have e1:Qr5 (.nd (.dT ks) ds)=some (ks,ds):=rfl
 simp only[h1,h2,h3,h4,e1,Rs.bind,Rs.of,zv0]
def pD:D->Int×Int
 |.nd .tup [.int a,.int b]=>(a,b)
 |_=>(0,0)
def l2t:D->D
 |.nd .lst xs=>.tup xs
 |d=>d
def t2l:D->D
 |.nd .tup xs=>.lst xs
 |d=>d
def Qt9:D->D
 |.nd .lst xs=>.int (VL ((QhQ xs).getD []))
 |d=>d
end
end TL
namespace G35
open PySem PySem.Spec L2 TL
structure Z where
 K:z01
 Qh:Addr
 QhT:Tok
 V1:Tok
noncomputable section
def Qd5 (z:Z):MS:=(Yb (QgM (QJ QfM (Qb (mV 0) (Qb (mC (.ty "int")) Qr))) (QnE (QJ QfM (Qb (mV 0) (Qb (mC (.ty "bool")) Qr))))))
def YY (z:Z):List D->Fr:=YD [false] 1 (Qd5 z)
def Qdb (z:Z):MS:=(Yb (QJ QfM (Qb (mV 0) (Qb (Qcv (Qb (mC (.ty "list")) (Qb (mC (.ty "tuple")) Qr))) Qr))))
def Jd (z:Z):List D->Fr:=YD [false] 1 (Qdb z)
def QaA (z:Z):MS:=(Yb (QJ JT (Qb (mUn (Qj9 z.Qh "losses") (mV 0)) Qr)))
def J5 (z:Z):List D->Fr:=YD [false] 1 (QaA z)
def QaB (z:Z):MS:=(Yb (QJ JT (Qb (mOp gIx (mUn (Qj9 z.Qh "losses") (mV 0)) (mC (.int 0))) Qr)))
def J6 (z:Z):List D->Fr:=YD [false] 1 (QaB z)
def QaC (z:Z):MS:=(Yb (Yn false [.me] 0 (JK (mUn (Qj9 z.Qh "losses") (mV 0))) QgS (QcT (Qb (mV 0) Qr))))
def YM (z:Z):List D->Fr:=YD [false] 1 (QaC z)
def Y4 (z:Z):MS:=(Yb (mOp gEq (mOp gIx (mOp gIx (mUn (Qj9 z.Qh "losses") (mV 0)) (mOp gIx (mV 1) (mC (.int 0)))) (mOp gIx (mV 1) (mC (.int 1)))) (mC (.int 0))))
def Q6 (z:Z):List D->Fr:=YD [false,false] 2 (Y4 z)
def QhU (z:Z):MS:=(QX (Ja 1 (mOp gIx (mV 0) (mC (.int 0))))
  (QX (Ja 2 (mOp gIx (mV 0) (mC (.int 1))))
  (Yb (QcS (Qb (Qcv (Qb (mOp TL.Qhg (mV 1) (mC (.int 1))) (Qb (mV 2) Qr))) (Qb (Qcv (Qb (mV 1) (Qb (mOp TL.Qhg (mV 2) (mC (.int 1))) Qr))) (Qb (Qcv (Qb (mV 1) (Qb (mOp Qca (mV 2) (mC (.int 1))) Qr))) (Qb (Qcv (Qb (mOp Qca (mV 1) (mC (.int 1))) (Qb (mV 2) Qr))) Qr))))))))
def QbE (z:Z):List D->Fr:=YD [false] 3 (QhU z)
def V2 (z:Z):MS:=(QX (Vh 1 (QcS Qr))
  (QX (QcV (QnO (Qb (mV 0) Qr)) (QdX 2 3) (QrW 1 (Yn false [.me,.fz 2] 0 (Qcl (Qb (QJ JT (Qb (mV 3) Qr)) Qr)) QgS (mI (Qcv (Qb (mV 1) (Qb (mV 0) Qr)))))))
  (Yb (mO 1))))
def JV (z:Z):List D->Fr:=YD [false] 4 (V2 z)
def Ys (z:Z):MS:=(QX (Ja 2 (mC (.int 0)))
  (QX (Ja 3 (QJ JT (Qb (mB 0) Qr)))
  (QX (Qhx 1000000 (QF (mOp gLt (mV 2) (mV 3))) (QX (Ja 4 (mOp Qp6 (mOp Qca (mV 2) (mV 3)) (mC (.int 2))))
  (mIf (QF (mOp Qtq (mOp gIx (mB 0) (mV 4)) (mV 1))) (Ja 2 (mOp Qca (mV 4) (mC (.int 1)))) (Ja 3 (mV 4)))))
  (Qrk 0 (Qb (mV 2) (Qb (mV 1) Qr))))))
def Q3 (z:Z):List D->Fr:=YD [true,false] 5 (Ys z)
def Qba (z:Z):MS:=(Yb (mOp gIx (mOp gIx (mV 0) (mOp gIx (mV 1) (mC (.int 0)))) (mOp gIx (mV 1) (mC (.int 1)))))
def Q7 (z:Z):List D->Fr:=YD [false,false] 2 (Qba z)
def V3 (z:Z):MS:=(Yb (QrU (QF (mOp gLt (mV 1) (QJ JT (Qb (mV 0) Qr)))) (mOp gIx (mV 0) (mV 1)) (mC (.int 0))))
def Y5 (z:Z):List D->Fr:=YD [false,false] 2 (V3 z)
def Qbb (z:Z):MS:=(QX (Ja 1 (mC (.int 0)))
  (QX (QcV (Qcl (Qb (mC (.int 12)) Qr)) (fun d ρ=>Y1 ρ 2 d) (QX (Ja 3 (mOp Qmy (mOp Qca (mOp Qca (mOp Qca (mOp QjQ (mOp Qmy (mV 0) (mC (.int 2147483629))) (mC (.int 48271))) (mOp QjQ (mOp QjQ (mV 2) (mV 2)) (mC (.int 7919)))) (mOp QjQ (mC (.int 31)) (mV 2))) (mC (.int 1))) (mC (.int 2147483647))))
  (Ja 1 (mOp Qca (mOp QjQ (mV 1) (mC (.int 2147483587))) (mOp Qmy (mOp Qca (mOp Qca (mOp QjQ (mV 3) (mV 3)) (mOp QjQ (mC (.int 40693)) (mV 3))) (mV 2)) (mC (.int 2147483587)))))))
  (Yb (mV 1))))
def Jx (z:Z):List D->Fr:=YD [false] 4 (Qbb z)
def V4 (z:Z):MS:=(QX (Vh 3 (QcS Qr))
  (QX (QcV (JK (QpY (Qb (Qcv (Qb (mOp TL.Qhg (mV 1) (mC (.int 1))) (Qb (mV 2) Qr))) (Qb (Qcv (Qb (mV 1) (Qb (mOp TL.Qhg (mV 2) (mC (.int 1))) Qr))) (Qb (Qcv (Qb (mV 1) (Qb (mOp Qca (mV 2) (mC (.int 1))) Qr))) (Qb (Qcv (Qb (mOp Qca (mV 1) (mC (.int 1))) (Qb (mV 2) Qr))) Qr)))))) (QdX 4 5) (mIf (QnD (QF (QbB gLe gLt (mC (.int 0)) (mV 4) (QJ JT (Qb (mV 0) Qr)))) (QnD (QF (QbB gLe gLt (mC (.int 0)) (mV 5) (QJ JT (Qb (mOp gIx (mV 0) (mC (.int 0))) Qr)))) (QF (mOp gGt (mOp gIx (mOp gIx (mV 0) (mV 4)) (mV 5)) (mC (.int 0)))))) (QlP 3 (mI (Qcv (Qb (mV 4) (Qb (mV 5) Qr))))) Jk))
  (Yb (mO 3))))
def Yf (z:Z):List D->Fr:=YD [false,false,false] 6 (V4 z)
def V5 (z:Z):MS:=(QX (Ja 1 (QJ JT (Qb (mOp gIx (mV 0) (mC (.int 0))) Qr)))
  (Yb (Yn false [.me,.fz 1] 0 (Qcl (Qb (mOp QjQ (QJ JT (Qb (mV 0) Qr)) (mV 1)) Qr)) QgS (mI (Qcv (Qb (mOp Qp6 (mV 0) (mV 1)) (Qb (mOp Qmy (mV 0) (mV 1)) Qr)))))))
def Q0 (z:Z):List D->Fr:=YD [false] 2 (V5 z)
def Y6 (z:Z):MS:=(QX (mIf (mOr (Qcj (QF (QJ QfM (Qb (mV 1) (Qb (mC (.ty "list")) Qr))))) (QF (mOp gNe (QJ JT (Qb (mV 1) Qr)) (QJ JT (Qb (mV 0) Qr))))) (Yb (mC (.bl false))) Jk)
  (QX (QcV (JK (mV 1)) (fun d ρ=>Y1 ρ 2 d) (QX (mIf (mOr (Qcj (QF (QJ QfM (Qb (mV 2) (Qb (mC (.ty "list")) Qr))))) (QF (mOp gNe (QJ JT (Qb (mV 2) Qr)) (QJ JT (Qb (mOp gIx (mV 0) (mC (.int 0))) Qr))))) (Yb (mC (.bl false))) Jk)
  (mIf (QF (mOp gNe (Yn false [.me] 0 (JK (mV 2)) (mOr (Qcj (QF (QJ QfM (Qb (mV 0) (Qb (mC (.ty "int")) Qr))))) (QF (QJ QfM (Qb (mV 0) (Qb (mC (.ty "bool")) Qr))))) (mI (mV 0))) (QpY Qr))) (Yb (mC (.bl false))) Jk)))
  (Yb (mC (.bl true)))))
def Jy (z:Z):List D->Fr:=YD [false,false] 3 (Y6 z)
def Qf1 (z:Z):MS:=(Yb (QgM (Ql .V (Jd z) (Qb (mV 0) Qr)) (mOp gEq (QJ JT (Qb (mV 0) Qr)) (mC (.int 2)))))
def VN (z:Z):List D->Fr:=YD [false] 1 (Qf1 z)
def Vt (z:Z):MS:=(Yb (Ql .O (JV z) (Qb (mUn (Qj9 z.Qh "losses") (mV 0)) Qr)))
def JM (z:Z):List D->Fr:=YD [false] 1 (Vt z)
def Qbc (z:Z):MS:=(Yb (QgM (Ql .V (YY z) (Qb (mV 0) Qr)) (QbB gLe gLt (mC (.int 0)) (mV 0) (mV 1))))
def JW (z:Z):List D->Fr:=YD [false,false] 2 (Qbc z)
def Qb1 (z:Z):MS:=(Yb (QgM (Ql .V (Jd z) (Qb (mV 0) Qr)) (QbB gLe gLe (mC (.int 1)) (QJ JT (Qb (mV 0) Qr)) (mC (.int 30)))))
def J7 (z:Z):List D->Fr:=YD [false] 1 (Qb1 z)
def Y7 (z:Z):MS:=(mIf (Qcj (QF (QJ Qp9 (Qb (Yn false [.me] 0 (JK (mV 0)) QgS (mI (Ql .V (YY z) (Qb (mV 0) Qr)))) Qr)))) QfT Jk)
def Jz (z:Z):List D->Fr:=YD [false] 1 (Y7 z)
def QhV (z:Z):MS:=(QX (Ja 3 (mOp gIx (mV 2) (mC (.int 0))))
  (mIf (Qcj (QF (Ql .V (Q6 z) (Qb (Qc5 z.Qh "is_wall" (mV 0)) (Qb (mV 3) Qr))))) (VZ 1 (mI (QJ QsU (Qb (mOp gIx (mV 2) (mC (.int 1))) (Qb (Ql .V (Q7 z) (Qb (mB 1) (Qb (mV 3) Qr))) Qr)))) (mOp gIx (mV 3) (mC (.int 0))) (mOp gIx (mV 3) (mC (.int 1)))) Jk))
def Qdc (z:Z):List D->Fr:=YD [false,true,false] 4 (QhV z)
def QeC (z:Z):MS:=(Yb (Yn false [.me,.fz 0,.fz 1] 0 (JK (Ql .O (JV z) (Qb (mV 0) Qr))) (QF (mOp gNe (Ql .V (Q7 z) (Qb (mV 1) (Qb (mV 0) Qr))) (Ql .V (Q7 z) (Qb (mV 2) (Qb (mV 0) Qr))))) (mI (mV 0))))
def QbF (z:Z):List D->Fr:=YD [false,false] 2 (QeC z)
def QaD (z:Z):MS:=(QX (Ja 2 (Ql .V (Y5 z) (Qb (mV 0) (Qb (mV 1) Qr))))
  (QX (mIf (QF (mOp gLt (mV 2) (mOp QnM (mC (.int 10)) (mC (.int 18))))) (Yb (QcS (Qb (Ql .V (Jx z) (Qb (mOp Qca (mV 2) (mOp QjQ (mC (.int 101)) (mV 1))) Qr)) (Qb (mV 1) Qr)))) Jk)
  (Yb (QcS (Qb (mV 2) (Qb (mV 1) Qr))))))
def Jb (z:Z):List D->Fr:=YD [false,false] 3 (QaD z)
def Qbd (z:Z):MS:=(QX (mIf (QF (mOp gEq (mOp gIx (mB 0) (mC (.int 0))) (mC (.int 0)))) (QX (QfP 0 (mI (mOp Qca (mOp gIx (mB 0) (mC (.int 1))) (mC (.int 64)))) (mC (.int 1)))
  (QfP 0 (mI (Ql .V (Jx z) (Qb (mOp gIx (mB 0) (mC (.int 1))) Qr))) (mC (.int 0)))) Jk)
  (QX (Ja 2 (mOp Qmy (mOp gIx (mB 0) (mC (.int 0))) (mV 1)))
  (QX (QfP 0 (mI (mOp Qp6 (mOp gIx (mB 0) (mC (.int 0))) (mV 1))) (mC (.int 0)))
  (Yb (mV 2)))))
def Qu (z:Z):List D->Fr:=YD [true,false] 3 (Qbd z)
def QaE (z:Z):MS:=(QX (mIf (mOr (Qcj (QF (QJ QfM (Qb (mV 3) (Qb (mC (.ty "tuple")) Qr))))) (mOr (QF (mOp gNe (QJ JT (Qb (mV 3) Qr)) (mC (.int 2)))) (Qcj (QF (Ql .V (Jy z) (Qb (mV 0) (Qb (mOp gIx (mV 3) (mC (.int 0))) Qr))))))) (Yb (mC (.bl false))) Jk)
  (QX (Vh 4 Qqi)
  (QX (QcV (JK (mV 2)) (QdX 5 6) (QlR 4 (QJ QsU (Qb (mV 6) (Qb (QiC (mB 4) (QfC (Qb (mV 5) Qr)) (mV 6)) Qr))) (QfC (Qb (mV 5) Qr))))
  (QX (Qtl (QdX 7 8) (mV 3))
  (QX (QcV (JK (Ql .O (Q0 z) (Qb (mV 0) Qr))) (QdX 9 10) (QX (Ja 11 (mOp gIx (mOp gIx (mV 1) (mV 9)) (mV 10)))
  (QX (mIf (QF (mOp gGt (mOp gIx (mOp gIx (mV 0) (mV 9)) (mV 10)) (mC (.int 0)))) (QX (Qiz 12 (Qcd false [.me,.me,.fz 7,.fz 0,.fz 9,.fz 10] (JK (Ql .O (Yf z) (Qb (mV 0) (Qb (mV 9) (Qb (mV 10) Qr))))) QgS (mI (mOp TL.Qhg (mOp gIx (mOp gIx (mV 2) (mV 0)) (mV 1)) (mOp gIx (mOp gIx (mV 3) (mV 4)) (mV 5))))))
  (Ja 11 (QJ Qkk (Qb (QlQ (QpY (Qb (mV 11) (Qb (QiC (mB 4) (Qcv (Qb (mV 9) (Qb (mV 10) Qr))) (mV 11)) Qr))) (mV 12)) Qr)))) Jk)
  (mIf (QF (mOp gNe (mOp gIx (mOp gIx (mV 7) (mV 9)) (mV 10)) (mV 11))) (Yb (mC (.bl false))) Jk))))
  (Yb (mOp gEq (mV 8) (Qcd false [.me,.me,.fz 7,.fz 1] (JK (Ql .O (Q0 z) (Qb (mV 0) Qr))) (QF (mOp gNe (mOp gIx (mOp gIx (mV 2) (mV 0)) (mV 1)) (mOp gIx (mOp gIx (mV 3) (mV 0)) (mV 1)))) (mI (Qcv (Qb (mV 0) (Qb (mV 1) Qr))))))))))))
def Jh (z:Z):List D->Fr:=YD [false,false,false,false] 13 (QaE z)
def JE (z:Z):MS:=(QX (Vh 2 (Yn false [.me] 0 (JK (mV 1)) QgS (QcT (Qb (mV 0) Qr))))
  (QX (QcV (JK (Ql .O (Q0 z) (Qb (mV 0) Qr))) (QdX 3 4) (mIf (QF (mOp gEq (mOp gIx (mOp gIx (mV 0) (mV 3)) (mV 4)) (mC (.int 0)))) (VZ 2 (mI (mC (.int 0))) (mV 3) (mV 4)) Jk))
  (Yb (mO 2))))
def QS (z:Z):List D->Fr:=YD [false,false] 5 (JE z)
def Qbe (z:Z):MS:=(QX (mIf (Qcj (QF (Ql .V (VN z) (Qb (mV 1) Qr)))) (Yb (mC (.bl false))) Jk)
  (Yb (QgM (Ql .V (JW z) (Qb (mOp gIx (mV 1) (mC (.int 0))) (Qb (Ql .V (J5 z) (Qb (Qc5 z.Qh "high" (mV 0)) Qr)) Qr))) (Ql .V (JW z) (Qb (mOp gIx (mV 1) (mC (.int 1))) (Qb (Ql .V (J6 z) (Qb (Qc5 z.Qh "wide" (mV 0)) Qr)) Qr))))))
def Yt (z:Z):List D->Fr:=YD [false,false] 2 (Qbe z)
def Vu (z:Z):MS:=(QX (mIf (Qcj (QF (Ql .V (J7 z) (Qb (mV 0) Qr)))) (Yb (mC (.bl false))) Jk)
  (QX (QcV (JK (mV 0)) (fun d ρ=>Y1 ρ 1 d) (mIf (mOr (Qcj (QF (Ql .V (J7 z) (Qb (mV 1) Qr)))) (QF (mOp gNe (QJ JT (Qb (mV 1) Qr)) (QJ JT (Qb (mOp gIx (mV 0) (mC (.int 0))) Qr))))) (Yb (mC (.bl false))) Jk))
  (Yb (mC (.bl true)))))
def JN (z:Z):List D->Fr:=YD [false] 2 (Vu z)
def Qdd (z:Z):MS:=(Yb (Ql .V (JW z) (Qb (mV 0) (Qb (mOp QnM (mC (.int 10)) (mC (.int 60))) Qr))))
def QaF (z:Z):List D->Fr:=YD [false] 1 (Qdd z)
def QaG (z:Z):MS:=(QX (mIf (mOr (Qcj (QF (Ql .V (Jd z) (Qb (mV 1) Qr)))) (QF (mOp gNe (QJ JT (Qb (mV 1) Qr)) (Ql .V (J5 z) (Qb (Qc5 z.Qh "high" (mV 0)) Qr))))) QfT Jk)
  (QcV (JK (mV 1)) (fun d ρ=>Y1 ρ 2 d) (QX (mIf (mOr (Qcj (QF (Ql .V (Jd z) (Qb (mV 2) Qr)))) (QF (mOp gNe (QJ JT (Qb (mV 2) Qr)) (Ql .V (J6 z) (Qb (Qc5 z.Qh "wide" (mV 0)) Qr))))) QfT Jk)
  (QbW (Ql .V (Jz z) (Qb (mV 2) Qr))))))
def YN (z:Z):List D->Fr:=YD [false,false] 3 (QaG z)
def QeD (z:Z):MS:=(QX (Ja 2 (QJ QiB (Qb (Yn false [.me] 0 (JK (mV 1)) QgS (mI (QJ QiB (Qb (mV 0) Qr)))) Qr)))
  (QX (Qiz 3 (Yn false [.me,.fz 0] 0 (JK (Ql .O (JM z) (Qb (Qc5 z.Qh "places" (mV 0)) Qr))) (Qcj (QF (Ql .V (Q6 z) (Qb (Qc5 z.Qh "is_wall" (mV 1)) (Qb (mV 0) Qr))))) (mI (mV 0))))
  (Yb (Qkr (Qb (Yn false [.me,.fz 1,.fz 2] 0 (JK (mV 3)) (QF (mOp gGt (Ql .V (Q7 z) (Qb (mV 1) (Qb (mV 0) Qr))) (mV 2))) (mI (Qcv (Qb (Ql .V (Q7 z) (Qb (mV 1) (Qb (mV 0) Qr))) (Qb (mV 0) Qr))))) Qr)))))
def QbG (z:Z):List D->Fr:=YD [false,false] 4 (QeD z)
def V6 (z:Z):MS:=(QX (mIf (QF (mOp gEq (JB true [some 0,none] (Qu z) (Qb (mS 0) (Qb (mC (.int 4)) Qr))) (mC (.int 0)))) (Yb (JB true [some 0,none] (Qu z) (Qb (mS 0) (Qb (mOp QnM (mC (.int 10)) (mC (.int 60))) Qr)))) Jk)
  (Yb (JB true [some 0,none] (Qu z) (Qb (mS 0) (Qb (mC (.int 30)) Qr)))))
def Jc (z:Z):List D->Fr:=YD [true] 1 (V6 z)
def Qbf (z:Z):MS:=(QX (Ja 1 (JB true [some 0,none] (Qu z) (Qb (mS 0) (Qb (mC (.int 9)) Qr))))
  (QX (mIf (QF (mOp gLt (mV 1) (mC (.int 2)))) (Yb (mC (.int 0))) Jk)
  (QX (mIf (QF (mOp gLt (mV 1) (mC (.int 6)))) (Yb (mC (.int 1))) Jk)
  (QX (mIf (QF (mOp gEq (mV 1) (mC (.int 6)))) (Yb (mOp Qca (mC (.int 2)) (JB true [some 0,none] (Qu z) (Qb (mS 0) (Qb (mC (.int 4)) Qr))))) Jk)
  (QX (mIf (QF (mOp gEq (mV 1) (mC (.int 7)))) (Yb (mOp Qca (mC (.int 1)) (JB true [some 0,none] (Qu z) (Qb (mS 0) (Qb (mC (.int 60)) Qr))))) Jk)
  (Yb (mOp Qca (mC (.int 1)) (JB true [some 0,none] (Qu z) (Qb (mS 0) (Qb (mOp TL.Qhg (mOp QnM (mC (.int 10)) (mC (.int 60))) (mC (.int 1))) Qr))))))))))
def JX (z:Z):List D->Fr:=YD [true] 2 (Qbf z)
def Qbg (z:Z):MS:=(QX (mIf (QF (mOp gEq (JB true [some 0,none] (Qu z) (Qb (mS 0) (Qb (mC (.int 8)) Qr))) (mC (.int 0)))) (Yb (mOp Qca (mC (.int 1)) (JB true [some 0,none] (Qu z) (Qb (mS 0) (Qb (mC (.int 30)) Qr))))) Jk)
  (Yb (mOp Qca (mC (.int 1)) (JB true [some 0,none] (Qu z) (Qb (mS 0) (Qb (mC (.int 6)) Qr))))))
def Yu (z:Z):List D->Fr:=YD [true] 1 (Qbg z)
def JY (z:Z):MS:=(mIf (Qcj (QF (Ql .V (Yt z) (Qb (Qc5 z.Qh "has" (mV 0)) (Qb (mV 1) Qr))))) QfT Jk)
def QC (z:Z):List D->Fr:=YD [false,false] 2 (JY z)
def Vv (z:Z):MS:=(QcV (JK (mV 0)) (fun d ρ=>Y1 ρ 1 d) (mIf (Qcj (QF (Ql .V (QaF z) (Qb (mV 1) Qr)))) QfT Jk))
def JO (z:Z):List D->Fr:=YD [false] 2 (Vv z)
def V7 (z:Z):MS:=(QX (Vh 2 (Ql .O (Jb z) (Qb (mV 0) (Qb (mV 1) Qr))))
  (QX (Ja 3 (JB false [some 2] (Yu z) (Qb (mS 2) Qr)))
  (QX (Ja 4 (JB false [some 2] (Yu z) (Qb (mS 2) Qr)))
  (QX (Vh 5 (QcS Qr))
  (QX (QcV (Qcl (Qb (mV 3) Qr)) (fun d ρ=>Y1 ρ 6 d) (QX (Vh 7 (Ql .O (Jb z) (Qb (mV 0) (Qb (mOp Qca (mOp Qca (mV 1) (mC (.int 1))) (mV 6)) Qr))))
  (QlP 5 (Yn false [.me,.io 7] 0 (Qcl (Qb (mV 4) Qr)) QgS (mI (JB true [some 1] (JX z) (Qb (mS 1) Qr)))))))
  (Yb (mO 5)))))))
def Yg (z:Z):List D->Fr:=YD [false,false] 8 (V7 z)
def Vw (z:Z):MS:=(QX (Vh 3 (QcS Qr))
  (QX (QcV (Qcl (Qb (QJ JT (Qb (mV 2) Qr)) Qr)) (fun d ρ=>Y1 ρ 4 d) (QX (Vh 5 (Ql .O (Jb z) (Qb (mV 0) (Qb (mOp Qca (mV 1) (mV 4)) Qr))))
  (QX (Vh 6 (QcS Qr))
  (QX (QcV (JK (mOp gIx (mV 2) (mV 4))) (fun d ρ=>Y1 ρ 7 d) (QX (Ja 8 (JB false [some 5,none] (Qu z) (Qb (mS 5) (Qb (mC (.int 3)) Qr))))
  (QlP 6 (QrU (QnD (QF (mOp gGt (mV 7) (mC (.int 0)))) (QF (mOp gGt (mV 8) (mC (.int 0))))) (mI (JB false [some 5] (Jc z) (Qb (mS 5) Qr))) (mI (mC (.int 0)))))))
  (QlP 3 (mO 6))))))
  (Yb (mO 3))))
def JP (z:Z):List D->Fr:=YD [false,false,false] 9 (Vw z)
def V8 (z:Z):MS:=(QX (Vh 2 (QcS Qr))
  (QX (QcV (Qcl (Qb (JB true [some 0,none] (Qu z) (Qb (mS 0) (Qb (mC (.int 7)) Qr))) Qr)) (fun d ρ=>Y1 ρ 3 d) (QX (Ja 4 (JB true [some 0,none] (Qu z) (Qb (mS 0) (Qb (QJ JT (Qb (mV 1) Qr)) Qr))))
  (QX (Ja 5 (JB true [some 0,none] (Qu z) (Qb (mS 0) (Qb (QJ JT (Qb (mOp gIx (mV 1) (mC (.int 0))) Qr)) Qr))))
  (QX (Ja 6 (JB true [some 0,none] (Qu z) (Qb (mS 0) (Qb (mC (.int 5)) Qr))))
  (QX (Ja 7 (JB true [some 0] (Jc z) (Qb (mS 0) Qr)))
  (QX (mIf (QF (mOp gEq (mV 6) (mC (.int 0)))) (Ja 7 (mUn QrV (mV 7))) (mIf (QF (mOp gEq (mV 6) (mC (.int 1)))) (Ja 7 (QJ Qt0 (Qb (mOp Qca (mOp gIx (mOp gIx (mV 1) (mV 4)) (mV 5)) (mOp Qmy (mV 7) (mC (.int 3)))) (Qb (mOp TL.Qhg (mOp QnM (mC (.int 10)) (mC (.int 60))) (mC (.int 1))) Qr)))) Jk))
  (QlP 2 (mI (Qcv (Qb (Qcv (Qb (mV 4) (Qb (mV 5) Qr))) (Qb (mV 7) Qr)))))))))))
  (Yb (mO 2))))
def Yh (z:Z):List D->Fr:=YD [true,false] 8 (V8 z)
def Vx (z:Z):MS:=(QX (Vh 2 (Yn false [.me] 0 (JK (mV 1)) QgS (QcT (Qb (mV 0) Qr))))
  (QX (QcV (Qcl (Qb (mOp Qca (mC (.int 1)) (JB true [some 0,none] (Qu z) (Qb (mS 0) (Qb (mC (.int 3)) Qr)))) Qr)) (fun d ρ=>Y1 ρ 3 d) (QX (Ja 4 (JB true [some 0,none] (Qu z) (Qb (mS 0) (Qb (QJ JT (Qb (mV 1) Qr)) Qr))))
  (QX (Ja 5 (JB true [some 0,none] (Qu z) (Qb (mS 0) (Qb (QJ JT (Qb (mOp gIx (mV 1) (mC (.int 0))) Qr)) Qr))))
  (VZ 2 (mI (JB true [some 0] (JX z) (Qb (mS 0) Qr))) (mV 4) (mV 5)))))
  (Yb (mO 2))))
def JQ (z:Z):List D->Fr:=YD [true,false] 6 (Vx z)
def YO (z:Z):ME:=(Qkf (mIf (Qcj (QF (Ql .V (JN z) (Qb (mV 1) Qr)))) QfT Jk)
  (Qkf (QcV (JK (mV 1)) (fun d ρ=>Y1 ρ 2 d) (QbW (Ql .V (JO z) (Qb (mV 2) Qr))))
  (QfC (Qb (Yn false [.me] 0 (JK (mV 1)) QgS (mI (QfC (Qb (mV 0) Qr)))) Qr))))
def QU (z:Z):Addr->D->Fr:=Qr1 z.Qh 3 "losses" (YO z)
def QaH (z:Z):MS:=(QX (QbW (Ql .V (QC z) (Qb (Qc5 z.Qh "check_place" (mV 0)) (Qb (mV 1) Qr))))
  (Yb (mOp gIx (mOp gIx (mUn (Qj9 z.Qh "losses") (mV 0)) (mOp gIx (mV 1) (mC (.int 0)))) (mOp gIx (mV 1) (mC (.int 1))))))
def YQ (z:Z):List D->Fr:=YD [false,false] 2 (QaH z)
def Vy (z:Z):MS:=(QX (QbW (Ql .V (QC z) (Qb (Qc5 z.Qh "check_place" (mV 0)) (Qb (mV 1) Qr))))
  (Yb (Yn false [.me,.fz 0] 0 (JK (JB false [none] (QbE z) (Qb (mV 1) Qr))) (QnD (QF (Ql .V (Yt z) (Qb (Qc5 z.Qh "has" (mV 1)) (Qb (mV 0) Qr)))) (Qcj (QF (Ql .V (Q6 z) (Qb (Qc5 z.Qh "is_wall" (mV 1)) (Qb (mV 0) Qr)))))) (mI (mV 0)))))
def JR (z:Z):List D->Fr:=YD [false,false] 2 (Vy z)
def V9 (z:Z):MS:=(QX (mIf (Qcj (QF (Ql .V (VN z) (Qb (mV 1) Qr)))) QfT Jk)
  (QbW (Ql .V (QC z) (Qb (Qc5 z.Qh "check_place" (mV 0)) (Qb (mOp gIx (mV 1) (mC (.int 0))) Qr)))))
def Yi (z:Z):List D->Fr:=YD [false,false] 2 (V9 z)
def Qkz (z:Z):MS:=(QcV (JK (Ql .O (JR z) (Qb (Qc5 z.Qh "beside" (mV 0)) (Qb (mOp gIx (mV 3) (mC (.int 1))) Qr)))) (fun d ρ=>Y1 ρ 4 d) (QX (Ja 5 (mOp TL.Qhg (mOp gIx (mV 3) (mC (.int 0))) (Ql .V (YQ z) (Qb (Qc5 z.Qh "loss" (mV 0)) (Qb (mV 4) Qr)))))
  (mIf (QF (mOp gGt (mV 5) (Ql .V (Q7 z) (Qb (mB 1) (Qb (mV 4) Qr))))) (QX (VZ 1 (mI (mV 5)) (mOp gIx (mV 4) (mC (.int 0))) (mOp gIx (mV 4) (mC (.int 1))))
  (QbW (JB true [some 2,none] (Q3 z) (Qb (mS 2) (Qb (Qcv (Qb (mV 5) (Qb (mV 4) Qr))) Qr))))) Jk)))
def Qf2 (z:Z):List D->Fr:=YD [false,true,true,false] 6 (Qkz z)
def Yv (z:Z):MS:=(QX (QbW (Ql .V (QC z) (Qb (Qc5 z.Qh "check_place" (mV 0)) (Qb (mV 1) Qr))))
  (QX (Vh 3 (Ql .O (YM z) (Qb (Qc5 z.Qh "rows" (mV 0)) Qr)))
  (QX (VZ 3 (mI (mV 2)) (mOp gIx (mV 1) (mC (.int 0))) (mOp gIx (mV 1) (mC (.int 1))))
  (Yb (Qkc z.Qh (QU z) (Qb (mB 3) Qr))))))
def Q4 (z:Z):List D->Fr:=YD [false,false,false] 4 (Yv z)
def QeE (z:Z):MS:=(QX (Vh 3 (Yn false [.me] 0 (JK (mV 1)) QgS (QcT (Qb (mV 0) Qr))))
  (QX (QcV (JK (mV 2)) (fun d ρ=>Y1 ρ 4 d) (QbW (JB false [none,some 3,none] (Qdc z) (Qb (mV 0) (Qb (mS 3) (Qb (mV 4) Qr))))))
  (QX (Vh 5 (Ql .O (QbG z) (Qb (mV 0) (Qb (mB 3) Qr))))
  (QX (Qhx 1000000 (QF (mOp gGt (QJ JT (Qb (mB 5) Qr)) (mC (.int 0)))) (QX (Ja 6 (Qr3 5))
  (mIf (QF (mOp gEq (Ql .V (Q7 z) (Qb (mB 3) (Qb (mOp gIx (mV 6) (mC (.int 1))) Qr))) (mOp gIx (mV 6) (mC (.int 0))))) (QbW (JB false [none,some 3,some 5,none] (Qf2 z) (Qb (mV 0) (Qb (mS 3) (Qb (mS 5) (Qb (mV 6) Qr)))))) Jk)))
  (Yb (mO 3))))))
def QbH (z:Z):List D->Fr:=YD [false,false,false] 7 (QeE z)
def QeF (z:Z):MS:=(QX (QbW (Ql .V (YN z) (Qb (mV 0) (Qb (mV 1) Qr))))
  (QX (QcV (JK (mV 2)) (fun d ρ=>Y1 ρ 3 d) (QbW (Ql .V (Yi z) (Qb (mV 0) (Qb (mV 3) Qr)))))
  (QX (Vh 4 (Ql .O (QbH z) (Qb (mV 0) (Qb (mV 1) (Qb (mV 2) Qr)))))
  (Yb (QnT [.S 4,.O] (Qb (mS 4) (Qb (Ql .O (QbF z) (Qb (mV 1) (Qb (mB 4) Qr))) Qr)))))))
def Jl (z:Z):List D->Fr:=YD [false,false,false] 5 (QeF z)
def Qot (z:Z):MS:=(QX (Qiz 1 (Yn false [.me] 0 (JK (QrZ (Ql .O (Yg z) (Qb (mV 0) (Qb (mC (.int 0)) Qr))) QrX (QrY (mC (.int 20))))) QgS (Qr0 (mV 0) QrX (QrY (mC (.int 20))))))
  (QX (Vh 2 (Ql .O (Jb z) (Qb (mV 0) (Qb (mC (.int 62)) Qr))))
  (QX (Ja 3 (JB false [some 2,none] (JQ z) (Qb (mS 2) (Qb (mV 1) Qr))))
  (QX (Ja 4 (Ql .O (QS z) (Qb (mV 3) (Qb (Ql .O (JP z) (Qb (mV 0) (Qb (mC (.int 31)) (Qb (mV 1) Qr)))) Qr))))
  (QX (Ja 5 (QfV .O (Yh z) (Qb (Ql .O (Jb z) (Qb (mV 0) (Qb (mC (.int 61)) Qr))) (Qb (mV 4) Qr))))
  (QX (Ja 6 (Qkc z.Qh (QU z) (Qb (mV 1) Qr)))
  (QX (Ja 7 (Ql .O (Jl z) (Qb (mV 6) (Qb (mV 4) (Qb (mV 5) Qr)))))
  (QX (mIf (Qcj (QF (Ql .V (Jh z) (Qb (mV 1) (Qb (mV 4) (Qb (mV 5) (Qb (mV 7) Qr))))))) (Yb (mC (.bl false))) Jk)
  (QX (Ja 8 (Qkc z.Qh (QU z) (Qb (mV 3) Qr)))
  (QX (mIf (QF (mOp gGt (JB false [some 2,none] (Qu z) (Qb (mS 2) (Qb (mC (.int 4)) Qr))) (mC (.int 0)))) (QX (Ja 8 (mV 6))
  (QcV (JK (Ql .O (Q0 z) (Qb (mV 1) Qr))) (QdX 9 10) (mIf (QF (mOp gNe (mOp gIx (mOp gIx (mV 3) (mV 9)) (mV 10)) (mOp gIx (mOp gIx (mV 1) (mV 9)) (mV 10)))) (Ja 8 (Ql .V (Q4 z) (Qb (Qc5 z.Qh "with_loss" (mV 8)) (Qb (Qcv (Qb (mV 9) (Qb (mV 10) Qr))) (Qb (mOp gIx (mOp gIx (mV 3) (mV 9)) (mV 10)) Qr))))) Jk))) Jk)
  (QX (Vh 11 (QcT (Qb (mV 5) Qr)))
  (QX (QcV (JK (Ql .O (Q0 z) (Qb (mV 1) Qr))) (QdX 9 10) (mIf (QnD (QF (mOp gEq (mOp gIx (mOp gIx (mV 1) (mV 9)) (mV 10)) (mC (.int 0)))) (QF (mOp gGt (mOp gIx (mOp gIx (mV 3) (mV 9)) (mV 10)) (mC (.int 0))))) (QlP 11 (mI (Qcv (Qb (Qcv (Qb (mV 9) (Qb (mV 10) Qr))) (Qb (JB false [some 2] (Jc z) (Qb (mS 2) Qr)) Qr))))) Jk))
  (QX (mIf (Qcj (QF (Ql .V (Jh z) (Qb (mV 3) (Qb (mV 4) (Qb (mB 11) (Qb (Ql .O (Jl z) (Qb (mV 8) (Qb (mV 4) (Qb (mB 11) Qr)))) Qr))))))) (Yb (mC (.bl false))) Jk)
  (QX (mIf (Qcj (QF (Ql .V (Jh z) (Qb (mV 3) (Qb (mV 4) (Qb (mV 5) (Qb (Ql .O (Jl z) (Qb (mV 8) (Qb (mV 4) (Qb (mV 5) Qr)))) Qr))))))) (Yb (mC (.bl false))) Jk)
  (QX (mIf (mOr (QF (mOp gNe (Ql .O (Jl z) (Qb (mV 6) (Qb (mV 4) (Qb (mV 5) Qr)))) (mV 7))) (QF (mOp gNe (Ql .O (Jl z) (Qb (Qkc z.Qh (QU z) (Qb (mV 1) Qr)) (Qb (mV 4) (Qb (mV 5) Qr)))) (mV 7)))) (Yb (mC (.bl false))) Jk)
  (QX (Ja 12 (Ql .O (QS z) (Qb (mV 3) (Qb (mOp gIx (mV 7) (mC (.int 0))) Qr))))
  (Yb (Ql .V (Jh z) (Qb (mV 3) (Qb (mV 12) (Qb (mV 5) (Qb (Ql .O (Jl z) (Qb (mV 8) (Qb (mV 12) (Qb (mV 5) Qr)))) Qr))))))))))))))))))))))
def Ql2 (z:Z):List D->Fr:=YD [false] 13 (Qot z)
end
def top (i:Nat):Stmt:=PySem.Challenge.pw_glowcells_k35_two_floors.main.body.getD i (.Pass ⟨0,0,0,0⟩)
structure Txt (mg:Str->Option Value):Prop where
 QuY:mg "all" = none
 bool:mg "bool" = none
 enumerate:mg "enumerate" = none
 int_:mg "int" = none
 isinstance:mg "isinstance" = none
 len:mg "len" = none
 Qf3:mg "list" = none
 QtD:mg "max" = none
 QtE:mg "min" = none
 range:mg "range" = none
 sorted:mg "sorted" = none
 tuple:mg "tuple" = none
structure Con (mg:Str->Option Value)(z:Z):Prop where
 Qde:mg "Floor" = some (.ref z.Qh)
 Qf4:mg "MOST" = some (.int 30 z.QhT)
 Y8:mg "WALL_LOSS" = some (.int 0 z.V1)
 QK:Cls z.K z.Qh
 QD:Qa3 z.K z.Qh "losses"
 dummy:True
section
variable (P:Program)(w:World)(mg:Str->Option Value)(base:Heap)(z:Z)
abbrev Qd6:=Qi P w z.K mg base 1 "is_whole" ["value"] (spF z.K [false] .V (YY z))
abbrev Qbh:=Qi P w z.K mg base 1 "is_listed" ["value"] (spF z.K [false] .V (Jd z))
abbrev Qcf:=QI P w z.K mg base z.Qh 1 "high" ["self"] (spF z.K [false] .V (J5 z))
abbrev Qcg:=QI P w z.K mg base z.Qh 1 "wide" ["self"] (spF z.K [false] .V (J6 z))
abbrev Qf5:=QI P w z.K mg base z.Qh 1 "rows" ["self"] (spF z.K [false] .O (YM z))
abbrev Y9:=QI P w z.K mg base z.Qh 1 "is_wall" ["self","place"] (spF z.K [false,false] .V (Q6 z))
abbrev Ql3:=Qi P w z.K mg base 1 "around" ["place"] (spF z.K [false] .O (QbE z))
abbrev Qdf:=Qi P w z.K mg base 1 "places_of" ["rows"] (spF z.K [false] .O (JV z))
abbrev Qb2:=Qi P w z.K mg base 1 "insert_in_order" ["waiting","entry"] (spF z.K [true,false] .V (Q3 z))
abbrev Va:=Qi P w z.K mg base 1 "number_at" ["rows","place"] (spF z.K [false,false] .V (Q7 z))
abbrev Qg2:=Qi P w z.K mg base 1 "_law_cell" ["_law_script","_law_k"] (spF z.K [false,false] .V (Y5 z))
abbrev Qdg:=Qi P w z.K mg base 1 "_law_rich" ["_law_cell_here"] (spF z.K [false] .V (Jx z))
abbrev QeG:=Qi P w z.K mg base 1 "_law_beside" ["_law_losses_here","_law_r","_law_c"] (spF z.K [false,false,false] .O (Yf z))
abbrev Qaa:=Qi P w z.K mg base 1 "_law_places" ["_law_losses_here"] (spF z.K [false] .O (Q0 z))
abbrev Qdh:=Qi P w z.K mg base 1 "_law_are_rows" ["_law_losses_here","_law_rows"] (spF z.K [false,false] .V (Jy z))
abbrev Qf6:=Qi P w z.K mg base 2 "is_pair" ["value"] (spF z.K [false] .V (VN z))
abbrev QdD:=QI P w z.K mg base z.Qh 2 "places" ["self"] (spF z.K [false] .O (JM z))
abbrev Qdi:=Qi P w z.K mg base 2 "is_within" ["value","end"] (spF z.K [false,false] .V (JW z))
abbrev QiE:=Qi P w z.K mg base 2 "is_sized" ["listed"] (spF z.K [false] .V (J7 z))
abbrev Qdj:=Qi P w z.K mg base 2 "check_numbers" ["row"] (spF z.K [false] .V (Jz z))
abbrev QrA:=Qi P w z.K mg base 2 "lift" ["floor","rows","start"] (spF z.K [false,true,false] .V (Qdc z))
abbrev Ql4:=Qi P w z.K mg base 2 "unlike" ["before","behind"] (spF z.K [false,false] .O (QbF z))
abbrev QaI:=Qi P w z.K mg base 2 "_law_purse" ["_law_script","_law_k"] (spF z.K [false,false] .O (Jb z))
abbrev JZ:=Qi P w z.K mg base 2 "_law_take" ["_law_purse_here","_law_many"] (spF z.K [true,false] .V (Qu z))
abbrev Qf7:=Qi P w z.K mg base 2 "_law_right" ["_law_losses_here","_law_rows","_law_starts_here","_law_told"] (spF z.K [false,false,false,false] .V (Jh z))
abbrev Qa0:=Qi P w z.K mg base 2 "_law_dark_at_shuts" ["_law_losses_here","_law_rows"] (spF z.K [false,false] .O (QS z))
abbrev Qdk:=QI P w z.K mg base z.Qh 3 "has" ["self","place"] (spF z.K [false,false] .V (Yt z))
abbrev QdE:=Qi P w z.K mg base 3 "is_rectangle" ["rows"] (spF z.K [false] .V (JN z))
abbrev QkA:=Qi P w z.K mg base 3 "is_loss" ["value"] (spF z.K [false] .V (QaF z))
abbrev Qf8:=Qi P w z.K mg base 3 "check_rows" ["floor","rows"] (spF z.K [false,false] .V (YN z))
abbrev Ql5:=Qi P w z.K mg base 3 "givers" ["floor","rows"] (spF z.K [false,false] .O (QbG z))
abbrev Qab:=Qi P w z.K mg base 3 "_law_number" ["_law_purse_here"] (spF z.K [true] .V (Jc z))
abbrev Qdl:=Qi P w z.K mg base 3 "_law_loss" ["_law_purse_here"] (spF z.K [true] .V (JX z))
abbrev Qg3:=Qi P w z.K mg base 3 "_law_size" ["_law_purse_here"] (spF z.K [true] .V (Yu z))
abbrev Jm:=QI P w z.K mg base z.Qh 4 "check_place" ["self","place"] (spF z.K [false,false] .V (QC z))
abbrev QdF:=Qi P w z.K mg base 4 "check_losses" ["row"] (spF z.K [false] .V (JO z))
abbrev QeH:=Qi P w z.K mg base 4 "_law_losses" ["_law_script","_law_start"] (spF z.K [false,false] .O (Yg z))
abbrev QdG:=Qi P w z.K mg base 4 "_law_numbers" ["_law_script","_law_start","_law_losses_here"] (spF z.K [false,false,false] .O (JP z))
abbrev QeI:=Qi P w z.K mg base 4 "_law_starts" ["_law_purse_here","_law_rows"] (spF z.K [true,false] .O (Yh z))
abbrev QdH:=Qi P w z.K mg base 4 "_law_changed" ["_law_purse_here","_law_losses_here"] (spF z.K [true,false] .O (JQ z))
abbrev Qch:=QaT P w z.K mg base z.Qh 5 "Floor" ["self","rows"] (spI z.K z.Qh (QU z))
abbrev Qf9:=QI P w z.K mg base z.Qh 5 "loss" ["self","place"] (spF z.K [false,false] .V (YQ z))
abbrev QdI:=QI P w z.K mg base z.Qh 5 "beside" ["self","place"] (spF z.K [false,false] .O (JR z))
abbrev QeJ:=Qi P w z.K mg base 5 "check_start" ["floor","start"] (spF z.K [false,false] .V (Yi z))
abbrev QrB:=Qi P w z.K mg base 6 "give" ["floor","rows","waiting","entry"] (spF z.K [false,true,true,false] .V (Qf2 z))
abbrev Qb3:=QI P w z.K mg base z.Qh 7 "with_loss" ["self","place","loss"] (spF z.K [false,false,false] .V (Q4 z))
abbrev Ql6:=Qi P w z.K mg base 7 "spread" ["floor","rows","starts"] (spF z.K [false,false,false] .O (QbH z))
abbrev Ql7:=Qi P w z.K mg base 8 "raised" ["floor","rows","starts"] (spF z.K [false,false,false] .O (Jl z))
end
section
variable {P:Program}{w:World}{mg:Str->Option Value}{base:Heap}{z:Z}{f:Addr}{fd:FuncData}(T:Txt mg)(con:Con mg z)
include T con
local macro_rules
 | `(~~~$x)=>`(⟨rfl,rfl,rfl,by decide +kernel,rfl,by decide +kernel,by decide +kernel⟩)
local macro_rules
 | `($x^^^$y)=>`(Qao.mono $x (by decide))
abbrev Qb4:Stmt:=top 7
theorem Qg4 (F:Fun z.K "is_whole" "is_whole" Qb4 f fd)  : JF P w z.K mg base (CXe P w) 1 f fd ["value"] (spF z.K [false] .V (YY z)):=by
 have S:Qs ["value"] ["value"] (Qf Qb4):= ~~~0
 refine fnT F S rfl (.inl rfl) fun cdv A outer s H E C hC hr hd=>?_
 unfold Qd5
 exact(Qq (QP (QjB (Qx YL (QmB hC) T.isinstance Vj (Qa (xv 0) (Qa (VT T.int_ QfJ) Qc))) (QjA (QsJ (Qx YL (QmB hC) T.isinstance Vj (Qa (xv 0) (Qa (VT T.bool Qd1) Qc))))))))
abbrev Qbi:Stmt:=top 8
theorem Qga (F:Fun z.K "is_listed" "is_listed" Qbi f fd)  : JF P w z.K mg base (CXe P w) 1 f fd ["value"] (spF z.K [false] .V (Jd z)):=by
 have S:Qs ["value"] ["value"] (Qf Qbi):= ~~~0
 refine fnT F S rfl (.inl rfl) fun cdv A outer s H E C hC hr hd=>?_
 unfold Qdb
 exact(Qq (QP (Qx YL (QmB hC) T.isinstance Vj (Qa (xv 0) (Qa (JI (Qa (VT T.Qf3 TL.boot_list) (Qa (VT T.tuple TL.boot_tuple) Qc))) Qc)))))
abbrev QaJ:Stmt:=inClass (top 13) 1
theorem QeK (F:Fun z.K "high" "Floor.high" QaJ f fd)  : JF P w z.K mg base (CXe P w) 1 f fd ["self"] (spF z.K [false] .V (J5 z)):=by
 have S:Qs ["self"] ["self"] (Qf QaJ):= ~~~0
 refine fnT F S rfl (.inl rfl) fun cdv A outer s H E C hC hr hd=>?_
 unfold QaA
 exact(Qq (QP (Qx QH (Qcb hC) T.len z41 (Qa (Qd3 con.QK con.QD (xv 0)) Qc))))
abbrev QaK:Stmt:=inClass (top 13) 2
theorem QeL (F:Fun z.K "wide" "Floor.wide" QaK f fd)  : JF P w z.K mg base (CXe P w) 1 f fd ["self"] (spF z.K [false] .V (J6 z)):=by
 have S:Qs ["self"] ["self"] (Qf QaK):= ~~~0
 refine fnT F S rfl (.inl rfl) fun cdv A outer s H E C hC hr hd=>?_
 unfold QaB
 exact(Qq (QP (Qx QH (Qcb hC) T.len z41 (Qa (QG hC (Qd3 con.QK con.QD (xv 0)) Qg) Qc))))
abbrev QaL:Stmt:=inClass (top 13) 3
theorem QeM (F:Fun z.K "rows" "Floor.rows" QaL f fd)  : JF P w z.K mg base (CXe P w) 1 f fd ["self"] (spF z.K [false] .O (YM z)):=by
 have S:Qs ["self"] ["self"] (Qf QaL):= ~~~0
 refine fnT F S rfl (.inr rfl) fun cdv A outer s H E C hC hr hd=>?_
 unfold QaC
 exact(Qq (QP (Y3 (p:=true) (par:=false) (cs:=[.me]) (N:=["row"]) (j:=0) hC rfl Blk.of rfl rfl rfl (Q9 hC (Qd3 con.QK con.QD (xv 0))) (fun _ _ _ _ _=>Qam) (fun _ _ _ _ _=>Qaq fun Cb hb=>(QcU (x := "") T.Qf3 hb (Qa (xv 0) Qc))))))
abbrev Vb:Stmt:=inClass (top 13) 8
theorem Qcm (F:Fun z.K "is_wall" "Floor.is_wall" Vb f fd)  : JF P w z.K mg base (CXe P w) 1 f fd ["self","place"] (spF z.K [false,false] .V (Q6 z)):=by
 have S:Qs ["self","place"] ["self","place"] (Qf Vb):= ~~~0
 refine fnT F S rfl (.inl rfl) fun cdv A outer s H E C hC hr hd=>?_
 unfold Y4
 exact(Qq (QP (QnC (VI (Qcc hr)) (Qix hC) (QG hC (QG hC (Qd3 con.QK con.QD (xv 0)) (QG hC (xv 1) Qg)) (QG hC (xv 1) Qg)) (Qjx (d:=.int 0) rfl ⟨_,rfl⟩ con.Y8) (QM _))))
abbrev QeN:Stmt:=top 14
theorem QkB (F:Fun z.K "around" "around" QeN f fd)  : JF P w z.K mg base (CXe P w) 1 f fd ["place"] (spF z.K [false] .O (QbE z)):=by
 have S:Qs ["place","row","column"] ["place"] (Qf QeN):= ~~~0
 refine fnT F S rfl (.inr rfl) fun cdv A outer s H E C hC hr hd=>?_
 unfold QhU
 exact(Qk (QN (i:=1) S.nd rfl (z30 rfl) (QG hC (xv 0) Qg))
  (Qk (QN (i:=2) S.nd rfl (z30 rfl) (QG hC (xv 0) Qg))
  (Qq (QP (Qby (Qa (JI (Qa (Yq Qb8 Qmz (xv 1) Qg) (Qa (xv 2) Qc))) (Qa (JI (Qa (xv 1) (Qa (Yq Qb8 Qmz (xv 2) Qg) Qc))) (Qa (JI (Qa (xv 1) (Qa (Yq Jt Qcx (xv 2) Qg) Qc))) (Qa (JI (Qa (Yq Jt Qcx (xv 1) Qg) (Qa (xv 2) Qc))) Qc)))))))))
abbrev Qac:Stmt:=top 15
theorem Qgb (F:Fun z.K "places_of" "places_of" Qac f fd)  : JF P w z.K mg base (CXe P w) 1 f fd ["rows"] (spF z.K [false] .O (JV z)):=by
 have S:Qs ["rows","places","number","row"] ["rows"] (Qf Qac):= ~~~0
 refine fnT F S rfl (.inr rfl) fun cdv A outer s H E C hC hr hd=>?_
 have hown:=@Qej P w z.K mg base ["rows","places","number","row"] "places_of" (Qf Qac) f cdv A outer s H E
 unfold V2
 exact(Qk (Y2 (i:=1) S.nd rfl (z30 rfl) (Qby Qc))
  (Qk (Vr hown rfl (QnP T.enumerate hC (Qa (xv 0) Qc)) (Qa2 rfl (QZ (QA (i:=2) S.nd rfl (z59 rfl)) (QZ (QA (i:=3) S.nd rfl (z30 rfl)) Vq))) (Qav hC) (Qq (QsV (i:=1) hC rfl (by first|exact z30 rfl|exact z59 (z30 rfl)|exact z59 (z59 rfl)) (Y3 (p:=true) (par:=false) (cs:=[.me,.fz 2]) (N:=["column","number"]) (j:=0) hC rfl Blk.of rfl rfl rfl (Qaw T.range (Qa (Qx QH (Qcb hC) T.len z41 (Qa (xv 3) Qc)) Qc)) (fun _ _ _ _ _=>Qam) (fun _ _ _ _ _=>Qaq fun Cb hb=>(YK (JI (Qa (xv 1) (Qa (xv 0) Qc)))))))))
  (Qq (QP (xo 1)))))
abbrev JD:Stmt:=top 30
theorem QbI (F:Fun z.K "insert_in_order" "insert_in_order" JD f fd)  : JF P w z.K mg base (CXe P w) 1 f fd ["waiting","entry"] (spF z.K [true,false] .V (Q3 z)):=by
 have S:Qs ["waiting","entry","low","high","middle"] ["waiting","entry"] (Qf JD):= ~~~0
 refine fnT F S rfl (.inl rfl) fun cdv A outer s H E C hC hr hd=>?_
 have hown:=@Qej P w z.K mg base ["waiting","entry","low","high","middle"] "insert_in_order" (Qf JD) f cdv A outer s H E
 unfold Ys
 exact(Qk (QN (i:=2) S.nd rfl (z30 rfl) Qg)
  (Qk (QN (i:=3) S.nd rfl (z30 rfl) (Qx QH (Qcb hC) T.len z41 (Qa (xb 0) Qc)))
  (Qk (QjF (n:=1000000) hown (QT Qff dLt (xv 2) (xv 3) (QM _)) (Qk (QN (i:=4) S.nd rfl (z30 rfl) (Yq Qei QsS (Yq Jt Qcx (xv 2) (xv 3)) Qg))
  (Qq (VV (QT (Qrn (Qlq hr)) (QuS hC) (Qit hC (xb 0) (xv 4)) (xv 1) (QM _)) (Qq (QN (i:=2) S.nd rfl (z30 rfl) (Yq Jt Qcx (xv 4) Qg))) (Qq (QN (i:=3) S.nd rfl (z30 rfl) (xv 4)))))))
  (Qq (Qtk (i:=0) rfl (by first|exact z30 rfl|exact z59 (z30 rfl)|exact z59 (z59 rfl)) (Qa (xv 2) (Qa (xv 1) Qc)))))))
abbrev Qbj:Stmt:=top 31
theorem Qgc (F:Fun z.K "number_at" "number_at" Qbj f fd)  : JF P w z.K mg base (CXe P w) 1 f fd ["rows","place"] (spF z.K [false,false] .V (Q7 z)):=by
 have S:Qs ["rows","place"] ["rows","place"] (Qf Qbj):= ~~~0
 refine fnT F S rfl (.inl rfl) fun cdv A outer s H E C hC hr hd=>?_
 unfold Qba
 exact(Qq (QP (QG hC (QG hC (xv 0) (QG hC (xv 1) Qg)) (QG hC (xv 1) Qg))))
abbrev Qbk:Stmt:=top 34
theorem Qgd (F:Fun z.K "_law_cell" "_law_cell" Qbk f fd)  : JF P w z.K mg base (CXe P w) 1 f fd ["_law_script","_law_k"] (spF z.K [false,false] .V (Y5 z)):=by
 have S:Qs ["_law_script","_law_k"] ["_law_script","_law_k"] (Qf Qbk):= ~~~0
 refine fnT F S rfl (.inl rfl) fun cdv A outer s H E C hC hr hd=>?_
 unfold V3
 exact(Qq (QP (QpU (QT Qff dLt (xv 1) (Qx QH (Qcb hC) T.len z41 (Qa (xv 0) Qc)) (QM _)) (QG hC (xv 0) (xv 1)) Qg)))
abbrev Qad:Stmt:=top 35
theorem Qge (F:Fun z.K "_law_rich" "_law_rich" Qad f fd)  : JF P w z.K mg base (CXe P w) 1 f fd ["_law_cell_here"] (spF z.K [false] .V (Jx z)):=by
 have S:Qs ["_law_cell_here","_law_number_here","_law_k","_law_mixed"] ["_law_cell_here"] (Qf Qad):= ~~~0
 refine fnT F S rfl (.inl rfl) fun cdv A outer s H E C hC hr hd=>?_
 have hown:=@Qej P w z.K mg base ["_law_cell_here","_law_number_here","_law_k","_law_mixed"] "_law_rich" (Qf Qad) f cdv A outer s H E
 unfold Qbb
 exact(Qk (QN (i:=1) S.nd rfl (z30 rfl) Qg)
  (Qk (Vr hown rfl (Qaw T.range (Qa Qg Qc)) (QA (i:=2) S.nd rfl (z30 rfl)) Ye (Qk (QN (i:=3) S.nd rfl (z30 rfl) (Yq QdQ QoO (Yq Jt Qcx (Yq Jt Qcx (Yq Jt Qcx (Yq Qbt QlN (Yq QdQ QoO (xv 0) Qg) Qg) (Yq Qbt QlN (Yq Qbt QlN (xv 2) (xv 2)) Qg)) (Yq Qbt QlN Qg (xv 2))) Qg) Qg))
  (Qq (QN (i:=1) S.nd rfl (z30 rfl) (Yq Jt Qcx (Yq Qbt QlN (xv 1) Qg) (Yq QdQ QoO (Yq Jt Qcx (Yq Jt Qcx (Yq Qbt QlN (xv 3) (xv 3)) (Yq Qbt QlN Qg (xv 3))) (xv 2)) Qg))))))
  (Qq (QP (xv 1)))))
abbrev YV:Stmt:=top 44
theorem QdJ (F:Fun z.K "_law_beside" "_law_beside" YV f fd)  : JF P w z.K mg base (CXe P w) 1 f fd ["_law_losses_here","_law_r","_law_c"] (spF z.K [false,false,false] .O (Yf z)):=by
 have S:Qs ["_law_losses_here","_law_r","_law_c","_law_found","_law_a","_law_b"] ["_law_losses_here","_law_r","_law_c"] (Qf YV):= ~~~0
 refine fnT F S rfl (.inr rfl) fun cdv A outer s H E C hC hr hd=>?_
 have hown:=@Qej P w z.K mg base ["_law_losses_here","_law_r","_law_c","_law_found","_law_a","_law_b"] "_law_beside" (Qf YV) f cdv A outer s H E
 unfold V4
 exact(Qk (Y2 (i:=3) S.nd rfl (z30 rfl) (Qby Qc))
  (Qk (Vr hown rfl (Q9 hC (QjC (Qa (JI (Qa (Yq Qb8 Qmz (xv 1) Qg) (Qa (xv 2) Qc))) (Qa (JI (Qa (xv 1) (Qa (Yq Qb8 Qmz (xv 2) Qg) Qc))) (Qa (JI (Qa (xv 1) (Qa (Yq Jt Qcx (xv 2) Qg) Qc))) (Qa (JI (Qa (Yq Jt Qcx (xv 1) Qg) (Qa (xv 2) Qc))) Qc)))))) (Qa2 rfl (QZ (QA (i:=4) S.nd rfl (z30 rfl)) (QZ (QA (i:=5) S.nd rfl (z30 rfl)) Vq))) (Qav hC) (Qq (VV (PW.pt (QcR (QhG Qi1 Qff dLe dLt Qg (xv 4) (Qx QH (Qcb hC) T.len z41 (Qa (xv 0) Qc))) (QcR (QhG Qi1 Qff dLe dLt Qg (xv 5) (Qx QH (Qcb hC) T.len z41 (Qa (QG hC (xv 0) Qg) Qc))) (Qck (QT Qec dGt (QG hC (QG hC (xv 0) (xv 4)) (xv 5)) Qg (QM _)))))) (Qq (Qiw (i:=3) hC rfl (by first|exact z30 rfl|exact z59 (z30 rfl)|exact z59 (z59 rfl)) (YK (JI (Qa (xv 4) (Qa (xv 5) Qc)))))) Js)))
  (Qq (QP (xo 3)))))
abbrev Qae:Stmt:=top 45
theorem QdK (F:Fun z.K "_law_places" "_law_places" Qae f fd)  : JF P w z.K mg base (CXe P w) 1 f fd ["_law_losses_here"] (spF z.K [false] .O (Q0 z)):=by
 have S:Qs ["_law_losses_here","_law_wide"] ["_law_losses_here"] (Qf Qae):= ~~~0
 refine fnT F S rfl (.inr rfl) fun cdv A outer s H E C hC hr hd=>?_
 unfold V5
 exact(Qk (QN (i:=1) S.nd rfl (z59 rfl) (Qx QH (Qcb hC) T.len z41 (Qa (QG hC (xv 0) Qg) Qc)))
  (Qq (QP (Y3 (p:=true) (par:=false) (cs:=[.me,.fz 1]) (N:=["_law_k","_law_wide"]) (j:=0) hC rfl Blk.of rfl rfl rfl (Qaw T.range (Qa (Yq Qbt QlN (Qx QH (Qcb hC) T.len z41 (Qa (xv 0) Qc)) (xv 1)) Qc)) (fun _ _ _ _ _=>Qam) (fun _ _ _ _ _=>Qaq fun Cb hb=>(YK (JI (Qa (Yq Qei QsS (xv 0) (xv 1)) (Qa (Yq QdQ QoO (xv 0) (xv 1)) Qc)))))))))
abbrev Yj:Stmt:=top 46
theorem Qcn (F:Fun z.K "_law_are_rows" "_law_are_rows" Yj f fd)  : JF P w z.K mg base (CXe P w) 1 f fd ["_law_losses_here","_law_rows"] (spF z.K [false,false] .V (Jy z)):=by
 have S:Qs ["_law_losses_here","_law_rows","_law_row"] ["_law_losses_here","_law_rows"] (Qf Yj):= ~~~0
 refine fnT F S rfl (.inl rfl) fun cdv A outer s H E C hC hr hd=>?_
 have hown:=@Qej P w z.K mg base ["_law_losses_here","_law_rows","_law_row"] "_law_are_rows" (Qf Yj) f cdv A outer s H E
 unfold Y6
 exact(Qk (VV (PW.pt (Qbx (JH (Jw (Qx YL (QmB hC) T.isinstance Vj (Qa (xv 1) (Qa (VT T.Qf3 TL.boot_list) Qc))))) (Qck (QT (VJ (Qcc hr)) (Qiy hC) (Qx QH (Qcb hC) T.len z41 (Qa (xv 1) Qc)) (Qx QH (Qcb hC) T.len z41 (Qa (xv 0) Qc)) (QM _))))) (Qq (QP Qbw)) Js)
  (Qk (Vr hown rfl (Q9 hC (xv 1)) (QA (i:=2) S.nd rfl (z30 rfl)) Ye (Qk (VV (PW.pt (Qbx (JH (Jw (Qx YL (QmB hC) T.isinstance Vj (Qa (xv 2) (Qa (VT T.Qf3 TL.boot_list) Qc))))) (Qck (QT (VJ (Qcc hr)) (Qiy hC) (Qx QH (Qcb hC) T.len z41 (Qa (xv 2) Qc)) (Qx QH (Qcb hC) T.len z41 (Qa (QG hC (xv 0) Qg) Qc)) (QM _))))) (Qq (QP Qbw)) Js)
  (Qq (VV (QT (VJ (Qcc hr)) (Qiy hC) (QbO (Y3 (p:=true) (par:=false) (cs:=[.me]) (N:=["_law_number_here"]) (j:=0) hC rfl Blk.of rfl rfl rfl (Q9 hC (xv 2)) (fun _ _ _ _ _=>QdZ fun Cb hb=>(PW.pt (Qbx (JH (Jw (Qx YL (QmB hb) T.isinstance Vj (Qa (xv 0) (Qa (VT T.int_ QfJ) Qc))))) (Qck (Jw (Qx YL (QmB hb) T.isinstance Vj (Qa (xv 0) (Qa (VT T.bool Qd1) Qc)))))))) (fun _ _ _ _ _=>Qaq fun Cb hb=>(YK (xv 0))))) (QjC Qc) (QM _)) (Qq (QP Qbw)) Js))))
  (Qq (QP Qbw))))
abbrev Qdm:Stmt:=top 9
theorem QiF (F:Fun z.K "is_pair" "is_pair" Qdm f fd)(Je:Qbh P w mg base z):JF P w z.K mg base (CXe P w) 2 f fd ["value"] (spF z.K [false] .V (VN z)):=by
 have S:Qs ["value"] ["value"] (Qf Qdm):= ~~~0
 refine fnT F S rfl (.inl rfl) fun cdv A outer s H E C hC hr hd=>?_
 unfold Qf1
 exact(Qq (QP (QjB (QO (spk Je hC) Qj (hr^^^0) (Qa (xv 0) Qc)) (QjA (QnC (VI (Qcc hr)) (Qix hC) (Qx QH (Qcb hC) T.len z41 (Qa (xv 0) Qc)) Qg (QM _))))))
abbrev Vz:Stmt:=inClass (top 13) 7
theorem Qdn (F:Fun z.K "places" "Floor.places" Vz f fd)(Yw:Qdf P w mg base z):JF P w z.K mg base (CXe P w) 2 f fd ["self"] (spF z.K [false] .O (JM z)):=by
 have S:Qs ["self"] ["self"] (Qf Vz):= ~~~0
 refine fnT F S rfl (.inr rfl) fun cdv A outer s H E C hC hr hd=>?_
 unfold Vt
 exact(Qq (QP (QO (spk Yw hC) Qj (hr^^^0) (Qa (Qd3 con.QK con.QD (xv 0)) Qc))))
abbrev Qbl:Stmt:=top 16
theorem Qgf (F:Fun z.K "is_within" "is_within" Qbl f fd)(YZ:Qd6 P w mg base z):JF P w z.K mg base (CXe P w) 2 f fd ["value","end"] (spF z.K [false,false] .V (JW z)):=by
 have S:Qs ["value","end"] ["value","end"] (Qf Qbl):= ~~~0
 refine fnT F S rfl (.inl rfl) fun cdv A outer s H E C hC hr hd=>?_
 unfold Qbc
 exact(Qq (QP (QjB (QO (spk YZ hC) Qj (hr^^^0) (Qa (xv 0) Qc)) (QjA (QjS Qi1 Qff dLe dLt Qg (xv 0) (xv 1))))))
abbrev Qb5:Stmt:=top 18
theorem Qg5 (F:Fun z.K "is_sized" "is_sized" Qb5 f fd)(Je:Qbh P w mg base z):JF P w z.K mg base (CXe P w) 2 f fd ["listed"] (spF z.K [false] .V (J7 z)):=by
 have S:Qs ["listed"] ["listed"] (Qf Qb5):= ~~~0
 refine fnT F S rfl (.inl rfl) fun cdv A outer s H E C hC hr hd=>?_
 unfold Qb1
 exact(Qq (QP (QjB (QO (spk Je hC) Qj (hr^^^0) (Qa (xv 0) Qc)) (QjA (QjS Qi1 Qi1 dLe dLe Qg (Qx QH (Qcb hC) T.len z41 (Qa (xv 0) Qc)) (Qjx (d:=.int 30) rfl ⟨_,rfl⟩ con.Qf4))))))
abbrev Vc:Stmt:=top 24
theorem Qco (F:Fun z.K "check_numbers" "check_numbers" Vc f fd)(YZ:Qd6 P w mg base z):JF P w z.K mg base (CXe P w) 2 f fd ["row"] (spF z.K [false] .V (Jz z)):=by
 have S:Qs ["row"] ["row"] (Qf Vc):= ~~~0
 refine fnT F S rfl (.inl rfl) fun cdv A outer s H E C hC hr hd=>?_
 unfold Y7
 exact(Qq (VV (JH (Jw (Qx (QdB rfl) (QuI hC) T.QuY boot_all (Qa (QbO (Y3 (p:=true) (par:=false) (cs:=[.me]) (N:=["value"]) (j:=0) hC rfl Blk.of rfl rfl rfl (Q9 hC (xv 0)) (fun _ _ _ _ _=>Qam) (fun _ _ _ _ _=>Qaq fun Cb hb=>(YK (QO (spk YZ hb) QbA (hr^^^0) (Qa (xv 0) Qc)))))) Qc)))) (Qq Qc2) Js))
abbrev QkC:Stmt:=top 27
theorem Qou (F:Fun z.K "lift" "lift" QkC f fd)(QQ:Y9 P w mg base z)(QE:Va P w mg base z):JF P w z.K mg base (CXe P w) 2 f fd ["floor","rows","start"] (spF z.K [false,true,false] .V (Qdc z)):=by
 have S:Qs ["floor","rows","start","place"] ["floor","rows","start"] (Qf QkC):= ~~~0
 refine fnT F S rfl (.inl rfl) fun cdv A outer s H E C hC hr hd=>?_
 unfold QhV
 exact(Qk (QN (i:=3) S.nd rfl (z30 rfl) (QG hC (xv 2) Qg))
  (Qq (VV (JH (Jw (x_m (Qe9 QQ hC) con.QK Qj (hr^^^0) (xv 0) (Qa (xv 3) Qc)))) (Qq (QbD (i:=1) hC (YK (Qx (Qfh rfl) dI2 T.QtD QcY (Qa (QG hC (xv 2) Qg) (Qa (QO (spk QE hC) Qj (hr^^^0) (Qa (xb 1) (Qa (xv 3) Qc))) Qc)))) (hg:=Qb7 (QgA QbS (pv 1) (QG hC (xv 3) Qg) (fun _ _=>rfl)) (QG hC (xv 3) Qg) set_list))) Js)))
abbrev QeO:Stmt:=top 32
theorem QkD (F:Fun z.K "unlike" "unlike" QeO f fd)(Yw:Qdf P w mg base z)(QE:Va P w mg base z):JF P w z.K mg base (CXe P w) 2 f fd ["before","behind"] (spF z.K [false,false] .O (QbF z)):=by
 have S:Qs ["before","behind"] ["before","behind"] (Qf QeO):= ~~~0
 refine fnT F S rfl (.inr rfl) fun cdv A outer s H E C hC hr hd=>?_
 unfold QeC
 exact(Qq (QP (Y3 (p:=true) (par:=false) (cs:=[.me,.fz 0,.fz 1]) (N:=["place","before","behind"]) (j:=0) hC rfl Blk.of rfl rfl rfl (Q9 hC (QbO (QO (spk Yw hC) Qj (hr^^^0) (Qa (xv 0) Qc)))) (fun _ _ _ _ _=>QdZ fun Cb hb=>(QT (VJ (Qcc hr)) (Qiy hb) (QO (spk QE hb) QbA (hr^^^0) (Qa (xv 1) (Qa (xv 0) Qc))) (QO (spk QE hb) QbA (hr^^^0) (Qa (xv 2) (Qa (xv 0) Qc))) (QM _))) (fun _ _ _ _ _=>Qaq fun Cb hb=>(YK (xv 0))))))
abbrev QaM:Stmt:=top 36
theorem QeP (F:Fun z.K "_law_purse" "_law_purse" QaM f fd)(Qbm:Qg2 P w mg base z)(Yx:Qdg P w mg base z):JF P w z.K mg base (CXe P w) 2 f fd ["_law_script","_law_k"] (spF z.K [false,false] .O (Jb z)):=by
 have S:Qs ["_law_script","_law_k","_law_cell_here"] ["_law_script","_law_k"] (Qf QaM):= ~~~0
 refine fnT F S rfl (.inr rfl) fun cdv A outer s H E C hC hr hd=>?_
 unfold QaD
 exact(Qk (QN (i:=2) S.nd rfl (z30 rfl) (QO (spk Qbm hC) Qj (hr^^^0) (Qa (xv 0) (Qa (xv 1) Qc))))
  (Qk (VV (QT Qff dLt (xv 2) (Yq Qfe Qp7 Qg Qg) (QM _)) (Qq (QP (Qby (Qa (QO (spk Yx hC) Qj (hr^^^0) (Qa (Yq Jt Qcx (xv 2) (Yq Qbt QlN Qg (xv 1))) Qc)) (Qa (xv 1) Qc))))) Js)
  (Qq (QP (Qby (Qa (xv 2) (Qa (xv 1) Qc)))))))
abbrev Qbn:Stmt:=top 37
theorem Qgg (F:Fun z.K "_law_take" "_law_take" Qbn f fd)(Yx:Qdg P w mg base z):JF P w z.K mg base (CXe P w) 2 f fd ["_law_purse_here","_law_many"] (spF z.K [true,false] .V (Qu z)):=by
 have S:Qs ["_law_purse_here","_law_many","_law_found"] ["_law_purse_here","_law_many"] (Qf Qbn):= ~~~0
 refine fnT F S rfl (.inl rfl) fun cdv A outer s H E C hC hr hd=>?_
 unfold Qbd
 exact(Qk (VV (QT (VI (Qcc hr)) (Qix hC) (Qit hC (xb 0) Qg) Qg (QM _)) (Qk (QgT (i:=0) hC rfl (by first|exact z30 rfl|exact z59 (z30 rfl)|exact z59 (z59 rfl)) (YK (Yq Jt Qcx (Qit hC (xb 0) Qg) Qg)) Qg (hg:=Qb7 (pv 0) Qg set_list))
  (Qq (QgT (i:=0) hC rfl (by first|exact z30 rfl|exact z59 (z30 rfl)|exact z59 (z59 rfl)) (YK (QO (spk Yx hC) Qj (hr^^^0) (Qa (Qit hC (xb 0) Qg) Qc))) Qg (hg:=Qb7 (pv 0) Qg set_list)))) Js)
  (Qk (QN (i:=2) S.nd rfl (z30 rfl) (Yq QdQ QoO (Qit hC (xb 0) Qg) (xv 1)))
  (Qk (QgT (i:=0) hC rfl (by first|exact z30 rfl|exact z59 (z30 rfl)|exact z59 (z59 rfl)) (YK (Yq Qei QsS (Qit hC (xb 0) Qg) (xv 1))) Qg (hg:=Qb7 (pv 0) Qg set_list))
  (Qq (QP (xv 2))))))
abbrev Vm:Stmt:=top 47
theorem QeQ (F:Fun z.K "_law_right" "_law_right" Vm f fd)(Qaf:QeG P w mg base z)(QR:Qaa P w mg base z)(Vd:Qdh P w mg base z):JF P w z.K mg base (CXe P w) 2 f fd ["_law_losses_here","_law_rows","_law_starts_here","_law_told"] (spF z.K [false,false,false,false] .V (Jh z)):=by
 have S:Qs ["_law_losses_here","_law_rows","_law_starts_here","_law_told","_law_given","_law_place","_law_number_here","_law_found","_law_unlike","_law_r","_law_c","_law_right_here","_law_coming"] ["_law_losses_here","_law_rows","_law_starts_here","_law_told"] (Qf Vm):= ~~~0
 refine fnT F S rfl (.inl rfl) fun cdv A outer s H E C hC hr hd=>?_
 have hown:=@Qej P w z.K mg base ["_law_losses_here","_law_rows","_law_starts_here","_law_told","_law_given","_law_place","_law_number_here","_law_found","_law_unlike","_law_r","_law_c","_law_right_here","_law_coming"] "_law_right" (Qf Vm) f cdv A outer s H E
 unfold QaE
 exact(Qk (VV (PW.pt (Qbx (JH (Jw (Qx YL (QmB hC) T.isinstance Vj (Qa (xv 3) (Qa (VT T.tuple TL.boot_tuple) Qc))))) (Qbx (QT (VJ (Qcc hr)) (Qiy hC) (Qx QH (Qcb hC) T.len z41 (Qa (xv 3) Qc)) Qg (QM _)) (Qck (JH (Jw (QO (spk Vd hC) Qj (hr^^^0) (Qa (xv 0) (Qa (QG hC (xv 3) Qg) Qc))))))))) (Qq (QP Qbw)) Js)
  (Qk (Y2 (i:=4) S.nd rfl (z30 rfl) QnR)
  (Qk (Vr hown rfl (Q9 hC (xv 2)) (Qa2 rfl (QZ (QA (i:=5) S.nd rfl (z30 rfl)) (QZ (QA (i:=6) S.nd rfl (z30 rfl)) Vq))) (Qav hC) (Qq (Qqk (i:=4) (Qlq hr) rfl (by first|exact z30 rfl|exact z59 (z30 rfl)|exact z59 (z59 rfl)) (Qx (Qfh rfl) dI2 T.QtD QcY (Qa (xv 6) (Qa (Qkw (Qlq hr) (xb 4) (Qcw T.tuple hC (Qa (xv 5) Qc)) (xv 6)) Qc))) (Qcw T.tuple hC (Qa (xv 5) Qc)))))
  (Qk (Qtm (Qa2 rfl (QZ (QA (i:=7) S.nd rfl (z59 rfl)) (QZ (QA (i:=8) S.nd rfl (z30 rfl)) Vq))) (Qav hC) (xv 3))
  (Qk (Vr hown rfl (Q9 hC (QbO (QO (spk QR hC) Qj (hr^^^0) (Qa (xv 0) Qc)))) (Qa2 rfl (QZ (QA (i:=9) S.nd rfl (z59 rfl)) (QZ (QA (i:=10) S.nd rfl (z59 rfl)) Vq))) (Qav hC) (Qk (QN (i:=11) S.nd rfl (z30 rfl) (QG hC (QG hC (xv 1) (xv 9)) (xv 10)))
  (Qk (VV (QT Qec dGt (QG hC (QG hC (xv 0) (xv 9)) (xv 10)) Qg (QM _)) (Qk (QlZ (i0:=12) (par:=false) (cs:=[.me,.me,.fz 7,.fz 0,.fz 9,.fz 10]) (N:=["_law_a","_law_b","_law_found","_law_losses_here","_law_r","_law_c"]) hC rfl S.nd rfl (z30 rfl) Blk.of rfl rfl (Q9 hC (QbO (QO (spk Qaf hC) Qj (hr^^^0) (Qa (xv 0) (Qa (xv 9) (Qa (xv 10) Qc)))))) (fun _ _ _ _ _=>Qa2 rfl (QZ (QA (i:=0) (show(["_law_a","_law_b","_law_found","_law_losses_here","_law_r","_law_c"]:List Str).Nodup by decide) rfl (by first|exact z30 rfl|exact z59 rfl)) (QZ (QA (i:=1) (show(["_law_a","_law_b","_law_found","_law_losses_here","_law_r","_law_c"]:List Str).Nodup by decide) rfl (by first|exact z30 rfl|exact z59 rfl)) Vq))) (fun _ _ _ _ _=>Qam) (fun _ _ _ _ _=>Qaq fun Cb hb=>(YK (Yq Qb8 Qmz (QG hb (QG hb (xv 2) (xv 0)) (xv 1)) (QG hb (QG hb (xv 3) (xv 4)) (xv 5))))))
  (Qq (QN (i:=11) S.nd rfl (z30 rfl) (Qx (Qkj rfl) (Qto hC) T.QtD QcY (Qa (Qqe hC (QjC (Qa (xv 11) (Qa (Qkw (Qlq hr) (xb 4) (JI (Qa (xv 9) (Qa (xv 10) Qc))) (xv 11)) Qc))) (xv 12)) Qc))))) Js)
  (Qq (VV (QT (VJ (Qcc hr)) (Qiy hC) (QG hC (QG hC (xv 7) (xv 9)) (xv 10)) (xv 11) (QM _)) (Qq (QP Qbw)) Js)))))
  (Qq (QP (QnC (VI (Qcc hr)) (Qix hC) (xv 8) (QbO (QlY (p:=true) (par:=false) (cs:=[.me,.me,.fz 7,.fz 1]) (N:=["_law_r","_law_c","_law_found","_law_rows"]) hC rfl Blk.of rfl rfl (Q9 hC (QbO (QO (spk QR hC) Qj (hr^^^0) (Qa (xv 0) Qc)))) (fun _ _ _ _ _=>Qa2 rfl (QZ (QA (i:=0) (show(["_law_r","_law_c","_law_found","_law_rows"]:List Str).Nodup by decide) rfl (by first|exact z30 rfl|exact z59 rfl)) (QZ (QA (i:=1) (show(["_law_r","_law_c","_law_found","_law_rows"]:List Str).Nodup by decide) rfl (by first|exact z30 rfl|exact z59 rfl)) Vq))) (fun _ _ _ _ _=>QdZ fun Cb hb=>(QT (VJ (Qcc hr)) (Qiy hb) (QG hb (QG hb (xv 2) (xv 0)) (xv 1)) (QG hb (QG hb (xv 3) (xv 0)) (xv 1)) (QM _))) (fun _ _ _ _ _=>Qaq fun Cb hb=>(YK (JI (Qa (xv 0) (Qa (xv 1) Qc))))))) (QM _)))))))))
abbrev Jf:Stmt:=top 49
theorem QaN (F:Fun z.K "_law_dark_at_shuts" "_law_dark_at_shuts" Jf f fd)(QR:Qaa P w mg base z):JF P w z.K mg base (CXe P w) 2 f fd ["_law_losses_here","_law_rows"] (spF z.K [false,false] .O (QS z)):=by
 have S:Qs ["_law_losses_here","_law_rows","_law_found","_law_r","_law_c"] ["_law_losses_here","_law_rows"] (Qf Jf):= ~~~0
 refine fnT F S rfl (.inr rfl) fun cdv A outer s H E C hC hr hd=>?_
 have hown:=@Qej P w z.K mg base ["_law_losses_here","_law_rows","_law_found","_law_r","_law_c"] "_law_dark_at_shuts" (Qf Jf) f cdv A outer s H E
 unfold JE
 exact(Qk (QjP (i0:=2) (par:=false) (cs:=[.me]) (N:=["_law_row"]) (j:=0) hC rfl S.nd rfl (z30 rfl) Blk.of rfl rfl rfl (Q9 hC (xv 1)) (fun _ _ _ _ _=>Qam) (fun _ _ _ _ _=>Qaq fun Cb hb=>(QcU (x := "") T.Qf3 hb (Qa (xv 0) Qc))))
  (Qk (Vr hown rfl (Q9 hC (QbO (QO (spk QR hC) Qj (hr^^^0) (Qa (xv 0) Qc)))) (Qa2 rfl (QZ (QA (i:=3) S.nd rfl (z30 rfl)) (QZ (QA (i:=4) S.nd rfl (z30 rfl)) Vq))) (Qav hC) (Qq (VV (QT (VI (Qcc hr)) (Qix hC) (QG hC (QG hC (xv 0) (xv 3)) (xv 4)) Qg (QM _)) (Qq (QbD (i:=2) hC (YK Qg) (hg:=Qb7 (QgA QbS (pv 2) (xv 3) (fun _ _=>rfl)) (xv 4) set_list))) Js)))
  (Qq (QP (xo 2)))))
abbrev Qbo:Stmt:=inClass (top 13) 9
theorem Qgh (F:Fun z.K "has" "Floor.has" Qbo f fd)(J8:Qcf P w mg base z)(J9:Qcg P w mg base z)(VO:Qf6 P w mg base z)(J0:Qdi P w mg base z):JF P w z.K mg base (CXe P w) 3 f fd ["self","place"] (spF z.K [false,false] .V (Yt z)):=by
 have S:Qs ["self","place"] ["self","place"] (Qf Qbo):= ~~~0
 refine fnT F S rfl (.inl rfl) fun cdv A outer s H E C hC hr hd=>?_
 unfold Qbe
 exact(Qk (VV (JH (Jw (QO (spk VO hC) Qj (hr^^^0) (Qa (xv 1) Qc)))) (Qq (QP Qbw)) Js)
  (Qq (QP (QjB (QO (spk J0 hC) Qj (hr^^^0) (Qa (QG hC (xv 1) Qg) (Qa (QoR (Qe9 J8 hC) con.QK Qj (hr^^^0) (xv 0)) Qc))) (QjA (QO (spk J0 hC) Qj (hr^^^0) (Qa (QG hC (xv 1) Qg) (Qa (QoR (Qe9 J9 hC) con.QK Qj (hr^^^0) (xv 0)) Qc))))))))
abbrev YF:Stmt:=top 17
theorem Qdo (F:Fun z.K "is_rectangle" "is_rectangle" YF f fd)(QaY:QiE P w mg base z):JF P w z.K mg base (CXe P w) 3 f fd ["rows"] (spF z.K [false] .V (JN z)):=by
 have S:Qs ["rows","row"] ["rows"] (Qf YF):= ~~~0
 refine fnT F S rfl (.inl rfl) fun cdv A outer s H E C hC hr hd=>?_
 have hown:=@Qej P w z.K mg base ["rows","row"] "is_rectangle" (Qf YF) f cdv A outer s H E
 unfold Vu
 exact(Qk (VV (JH (Jw (QO (spk QaY hC) Qj (hr^^^0) (Qa (xv 0) Qc)))) (Qq (QP Qbw)) Js)
  (Qk (Vr hown rfl (Q9 hC (xv 0)) (QA (i:=1) S.nd rfl (z30 rfl)) Ye (Qq (VV (PW.pt (Qbx (JH (Jw (QO (spk QaY hC) Qj (hr^^^0) (Qa (xv 1) Qc)))) (Qck (QT (VJ (Qcc hr)) (Qiy hC) (Qx QH (Qcb hC) T.len z41 (Qa (xv 1) Qc)) (Qx QH (Qcb hC) T.len z41 (Qa (QG hC (xv 0) Qg) Qc)) (QM _))))) (Qq (QP Qbw)) Js)))
  (Qq (QP Qbw))))
abbrev Qdp:Stmt:=top 20
theorem QiG (F:Fun z.K "is_loss" "is_loss" Qdp f fd)(J0:Qdi P w mg base z):JF P w z.K mg base (CXe P w) 3 f fd ["value"] (spF z.K [false] .V (QaF z)):=by
 have S:Qs ["value"] ["value"] (Qf Qdp):= ~~~0
 refine fnT F S rfl (.inl rfl) fun cdv A outer s H E C hC hr hd=>?_
 unfold Qdd
 exact(Qq (QP (QO (spk J0 hC) Qj (hr^^^0) (Qa (xv 0) (Qa (Yq Qfe Qp7 Qg Qg) Qc)))))
abbrev Vn:Stmt:=top 23
theorem QeR (F:Fun z.K "check_rows" "check_rows" Vn f fd)(Je:Qbh P w mg base z)(J8:Qcf P w mg base z)(J9:Qcg P w mg base z)(Ve:Qdj P w mg base z):JF P w z.K mg base (CXe P w) 3 f fd ["floor","rows"] (spF z.K [false,false] .V (YN z)):=by
 have S:Qs ["floor","rows","row"] ["floor","rows"] (Qf Vn):= ~~~0
 refine fnT F S rfl (.inl rfl) fun cdv A outer s H E C hC hr hd=>?_
 have hown:=@Qej P w z.K mg base ["floor","rows","row"] "check_rows" (Qf Vn) f cdv A outer s H E
 unfold QaG
 exact(Qk (VV (PW.pt (Qbx (JH (Jw (QO (spk Je hC) Qj (hr^^^0) (Qa (xv 1) Qc)))) (Qck (QT (VJ (Qcc hr)) (Qiy hC) (Qx QH (Qcb hC) T.len z41 (Qa (xv 1) Qc)) (QoR (Qe9 J8 hC) con.QK Qj (hr^^^0) (xv 0)) (QM _))))) (Qq Qc2) Js)
  (Qq (Vr hown rfl (Q9 hC (xv 1)) (QA (i:=2) S.nd rfl (z30 rfl)) Ye (Qk (VV (PW.pt (Qbx (JH (Jw (QO (spk Je hC) Qj (hr^^^0) (Qa (xv 2) Qc)))) (Qck (QT (VJ (Qcc hr)) (Qiy hC) (Qx QH (Qcb hC) T.len z41 (Qa (xv 2) Qc)) (QoR (Qe9 J9 hC) con.QK Qj (hr^^^0) (xv 0)) (QM _))))) (Qq Qc2) Js)
  (Qq (Qau (QO (spk Ve hC) Qj (hr^^^0) (Qa (xv 2) Qc))))))))
abbrev QeS:Stmt:=top 28
theorem QkE (F:Fun z.K "givers" "givers" QeS f fd)(QQ:Y9 P w mg base z)(QE:Va P w mg base z)(VA:QdD P w mg base z):JF P w z.K mg base (CXe P w) 3 f fd ["floor","rows"] (spF z.K [false,false] .O (QbG z)):=by
 have S:Qs ["floor","rows","least","places"] ["floor","rows"] (Qf QeS):= ~~~0
 refine fnT F S rfl (.inr rfl) fun cdv A outer s H E C hC hr hd=>?_
 unfold QeD
 exact(Qk (QN (i:=2) S.nd rfl (z59 rfl) (Qx (QfX rfl) (Qrm hC) T.QtE QcZ (Qa (QbO (Y3 (p:=true) (par:=false) (cs:=[.me]) (N:=["row"]) (j:=0) hC rfl Blk.of rfl rfl rfl (Q9 hC (xv 1)) (fun _ _ _ _ _=>Qam) (fun _ _ _ _ _=>Qaq fun Cb hb=>(YK (Qx (QfX rfl) (Qrm hb) T.QtE QcZ (Qa (xv 0) Qc)))))) Qc)))
  (Qk (Qj3 (i0:=3) (par:=false) (cs:=[.me,.fz 0]) (N:=["place","floor"]) (j:=0) hC rfl S.nd rfl (z30 rfl) Blk.of rfl rfl rfl (Q9 hC (QbO (QoR (Qe9 VA hC) con.QK Qj (hr^^^0) (xv 0)))) (fun _ _ _ _ _=>QdZ fun Cb hb=>(JH (Jw (x_m (Qe9 QQ hb) con.QK QbA (hr^^^0) (xv 1) (Qa (xv 0) Qc))))) (fun _ _ _ _ _=>Qaq fun Cb hb=>(YK (xv 0))))
  (Qq (QP (QlW (hu3 hr) hC T.sorted QfY (Qa (QbO (Y3 (p:=true) (par:=false) (cs:=[.me,.fz 1,.fz 2]) (N:=["place","rows","least"]) (j:=0) hC rfl Blk.of rfl rfl rfl (Q9 hC (xv 3)) (fun _ _ _ _ _=>QdZ fun Cb hb=>(QT Qec dGt (QO (spk QE hb) QbA (hr^^^0) (Qa (xv 1) (Qa (xv 0) Qc))) (xv 2) (QM _))) (fun _ _ _ _ _=>Qaq fun Cb hb=>(YK (JI (Qa (QO (spk QE hb) QbA (hr^^^0) (Qa (xv 1) (Qa (xv 0) Qc))) (Qa (xv 0) Qc))))))) Qc))))))
abbrev Qag:Stmt:=top 38
theorem QdL (F:Fun z.K "_law_number" "_law_number" Qag f fd)(Qm:JZ P w mg base z):JF P w z.K mg base (CXe P w) 3 f fd ["_law_purse_here"] (spF z.K [true] .V (Jc z)):=by
 have S:Qs ["_law_purse_here"] ["_law_purse_here"] (Qf Qag):= ~~~0
 refine fnT F S rfl (.inl rfl) fun cdv A outer s H E C hC hr hd=>?_
 unfold V6
 exact(Qk (VV (QT (VI (Qcc hr)) (Qix hC) (Qa8 (par:=true) (as:=[some 0,none]) (p:=false) (spk Qm hC) Qj (hr^^^0) (Qa (xs 0) (Qa Qg Qc))) Qg (QM _)) (Qq (QP (Qa8 (par:=true) (as:=[some 0,none]) (p:=false) (spk Qm hC) Qj (hr^^^0) (Qa (xs 0) (Qa (Yq Qfe Qp7 Qg Qg) Qc))))) Js)
  (Qq (QP (Qa8 (par:=true) (as:=[some 0,none]) (p:=false) (spk Qm hC) Qj (hr^^^0) (Qa (xs 0) (Qa Qg Qc))))))
abbrev Qbp:Stmt:=top 39
theorem Qgi (F:Fun z.K "_law_loss" "_law_loss" Qbp f fd)(Qm:JZ P w mg base z):JF P w z.K mg base (CXe P w) 3 f fd ["_law_purse_here"] (spF z.K [true] .V (JX z)):=by
 have S:Qs ["_law_purse_here","_law_way"] ["_law_purse_here"] (Qf Qbp):= ~~~0
 refine fnT F S rfl (.inl rfl) fun cdv A outer s H E C hC hr hd=>?_
 unfold Qbf
 exact(Qk (QN (i:=1) S.nd rfl (z30 rfl) (Qa8 (par:=true) (as:=[some 0,none]) (p:=false) (spk Qm hC) Qj (hr^^^0) (Qa (xs 0) (Qa Qg Qc))))
  (Qk (VV (QT Qff dLt (xv 1) Qg (QM _)) (Qq (QP Qg)) Js)
  (Qk (VV (QT Qff dLt (xv 1) Qg (QM _)) (Qq (QP Qg)) Js)
  (Qk (VV (QT (VI (Qcc hr)) (Qix hC) (xv 1) Qg (QM _)) (Qq (QP (Yq Jt Qcx Qg (Qa8 (par:=true) (as:=[some 0,none]) (p:=false) (spk Qm hC) Qj (hr^^^0) (Qa (xs 0) (Qa Qg Qc)))))) Js)
  (Qk (VV (QT (VI (Qcc hr)) (Qix hC) (xv 1) Qg (QM _)) (Qq (QP (Yq Jt Qcx Qg (Qa8 (par:=true) (as:=[some 0,none]) (p:=false) (spk Qm hC) Qj (hr^^^0) (Qa (xs 0) (Qa Qg Qc)))))) Js)
  (Qq (QP (Yq Jt Qcx Qg (Qa8 (par:=true) (as:=[some 0,none]) (p:=false) (spk Qm hC) Qj (hr^^^0) (Qa (xs 0) (Qa (Yq Qb8 Qmz (Yq Qfe Qp7 Qg Qg) Qg) Qc)))))))))))
abbrev Qbq:Stmt:=top 40
theorem Qgj (F:Fun z.K "_law_size" "_law_size" Qbq f fd)(Qm:JZ P w mg base z):JF P w z.K mg base (CXe P w) 3 f fd ["_law_purse_here"] (spF z.K [true] .V (Yu z)):=by
 have S:Qs ["_law_purse_here"] ["_law_purse_here"] (Qf Qbq):= ~~~0
 refine fnT F S rfl (.inl rfl) fun cdv A outer s H E C hC hr hd=>?_
 unfold Qbg
 exact(Qk (VV (QT (VI (Qcc hr)) (Qix hC) (Qa8 (par:=true) (as:=[some 0,none]) (p:=false) (spk Qm hC) Qj (hr^^^0) (Qa (xs 0) (Qa Qg Qc))) Qg (QM _)) (Qq (QP (Yq Jt Qcx Qg (Qa8 (par:=true) (as:=[some 0,none]) (p:=false) (spk Qm hC) Qj (hr^^^0) (Qa (xs 0) (Qa Qg Qc)))))) Js)
  (Qq (QP (Yq Jt Qcx Qg (Qa8 (par:=true) (as:=[some 0,none]) (p:=false) (spk Qm hC) Qj (hr^^^0) (Qa (xs 0) (Qa Qg Qc)))))))
abbrev J3:Stmt:=inClass (top 13) 10
theorem Qa1 (F:Fun z.K "check_place" "Floor.check_place" J3 f fd)(Yy:Qdk P w mg base z):JF P w z.K mg base (CXe P w) 4 f fd ["self","place"] (spF z.K [false,false] .V (QC z)):=by
 have S:Qs ["self","place"] ["self","place"] (Qf J3):= ~~~0
 refine fnT F S rfl (.inl rfl) fun cdv A outer s H E C hC hr hd=>?_
 unfold JY
 exact(Qq (VV (JH (Jw (x_m (Qe9 Yy hC) con.QK Qj (hr^^^0) (xv 0) (Qa (xv 1) Qc)))) (Qq Qc2) Js))
abbrev YG:Stmt:=top 19
theorem Qdq (F:Fun z.K "check_losses" "check_losses" YG f fd)(Qdr:QkA P w mg base z):JF P w z.K mg base (CXe P w) 4 f fd ["row"] (spF z.K [false] .V (JO z)):=by
 have S:Qs ["row","value"] ["row"] (Qf YG):= ~~~0
 refine fnT F S rfl (.inl rfl) fun cdv A outer s H E C hC hr hd=>?_
 have hown:=@Qej P w z.K mg base ["row","value"] "check_losses" (Qf YG) f cdv A outer s H E
 unfold Vv
 exact(Qq (Vr hown rfl (Q9 hC (xv 0)) (QA (i:=1) S.nd rfl (z30 rfl)) Ye (Qq (VV (JH (Jw (QO (spk Qdr hC) Qj (hr^^^0) (Qa (xv 1) Qc)))) (Qq Qc2) Js))))
abbrev YW:Stmt:=top 41
theorem QdM (F:Fun z.K "_law_losses" "_law_losses" YW f fd)(QY:QaI P w mg base z)(Yz:Qdl P w mg base z)(Qah:Qg3 P w mg base z):JF P w z.K mg base (CXe P w) 4 f fd ["_law_script","_law_start"] (spF z.K [false,false] .O (Yg z)):=by
 have S:Qs ["_law_script","_law_start","_law_head","_law_high","_law_wide","_law_found","_law_r","_law_purse_here"] ["_law_script","_law_start"] (Qf YW):= ~~~0
 refine fnT F S rfl (.inr rfl) fun cdv A outer s H E C hC hr hd=>?_
 have hown:=@Qej P w z.K mg base ["_law_script","_law_start","_law_head","_law_high","_law_wide","_law_found","_law_r","_law_purse_here"] "_law_losses" (Qf YW) f cdv A outer s H E
 unfold V7
 exact(Qk (Y2 (i:=2) S.nd rfl (z30 rfl) (QO (spk QY hC) Qj (hr^^^0) (Qa (xv 0) (Qa (xv 1) Qc))))
  (Qk (QN (i:=3) S.nd rfl (z30 rfl) (Qa8 (par:=false) (as:=[some 2]) (p:=false) (spk Qah hC) Qj (hr^^^0) (Qa (xs 2) Qc)))
  (Qk (QN (i:=4) S.nd rfl (z30 rfl) (Qa8 (par:=false) (as:=[some 2]) (p:=false) (spk Qah hC) Qj (hr^^^0) (Qa (xs 2) Qc)))
  (Qk (Y2 (i:=5) S.nd rfl (z30 rfl) (Qby Qc))
  (Qk (Vr hown rfl (Qaw T.range (Qa (xv 3) Qc)) (QA (i:=6) S.nd rfl (z30 rfl)) Ye (Qk (Y2 (i:=7) S.nd rfl (z59 rfl) (QO (spk QY hC) Qj (hr^^^0) (Qa (xv 0) (Qa (Yq Jt Qcx (Yq Jt Qcx (xv 1) Qg) (xv 6)) Qc))))
  (Qq (Qiw (i:=5) hC rfl (by first|exact z30 rfl|exact z59 (z30 rfl)|exact z59 (z59 rfl)) (Y3 (p:=false) (par:=false) (cs:=[.me,.io 7]) (N:=["_law_c","_law_purse_here"]) (j:=0) hC rfl Blk.of rfl rfl rfl (Qaw T.range (Qa (xv 4) Qc)) (fun _ _ _ _ _=>Qam) (fun _ _ _ _ _=>Qaq fun Cb hb=>(YK (Qa8 (par:=true) (as:=[some 1]) (p:=false) (spk Yz hb) QbA (hr^^^0) (Qa (xs 1) Qc)))))))))
  (Qq (QP (xo 5))))))))
abbrev YH:Stmt:=top 42
theorem Qds (F:Fun z.K "_law_numbers" "_law_numbers" YH f fd)(QY:QaI P w mg base z)(Qm:JZ P w mg base z)(Q2:Qab P w mg base z):JF P w z.K mg base (CXe P w) 4 f fd ["_law_script","_law_start","_law_losses_here"] (spF z.K [false,false,false] .O (JP z)):=by
 have S:Qs ["_law_script","_law_start","_law_losses_here","_law_found","_law_r","_law_purse_here","_law_row","_law_loss_here","_law_lit"] ["_law_script","_law_start","_law_losses_here"] (Qf YH):= ~~~0
 refine fnT F S rfl (.inr rfl) fun cdv A outer s H E C hC hr hd=>?_
 have hown:=@Qej P w z.K mg base ["_law_script","_law_start","_law_losses_here","_law_found","_law_r","_law_purse_here","_law_row","_law_loss_here","_law_lit"] "_law_numbers" (Qf YH) f cdv A outer s H E
 unfold Vw
 exact(Qk (Y2 (i:=3) S.nd rfl (z30 rfl) (Qby Qc))
  (Qk (Vr hown rfl (Qaw T.range (Qa (Qx QH (Qcb hC) T.len z41 (Qa (xv 2) Qc)) Qc)) (QA (i:=4) S.nd rfl (z30 rfl)) Ye (Qk (Y2 (i:=5) S.nd rfl (z30 rfl) (QO (spk QY hC) Qj (hr^^^0) (Qa (xv 0) (Qa (Yq Jt Qcx (xv 1) (xv 4)) Qc))))
  (Qk (Y2 (i:=6) S.nd rfl (z30 rfl) (Qby Qc))
  (Qk (Vr hown rfl (Q9 hC (QG hC (xv 2) (xv 4))) (QA (i:=7) S.nd rfl (z30 rfl)) Ye (Qk (QN (i:=8) S.nd rfl (z30 rfl) (Qa8 (par:=false) (as:=[some 5,none]) (p:=false) (spk Qm hC) Qj (hr^^^0) (Qa (xs 5) (Qa Qg Qc))))
  (Qq (Qiw (i:=6) hC rfl (by first|exact z30 rfl|exact z59 (z30 rfl)|exact z59 (z59 rfl)) (QpU (PW.pt (QcR (QT Qec dGt (xv 7) Qg (QM _)) (Qck (QT Qec dGt (xv 8) Qg (QM _))))) (YK (Qa8 (par:=false) (as:=[some 5]) (p:=false) (spk Q2 hC) Qj (hr^^^0) (Qa (xs 5) Qc))) (YK Qg))))))
  (Qq (Qiw (i:=3) hC rfl (by first|exact z30 rfl|exact z59 (z30 rfl)|exact z59 (z59 rfl)) (xo 6)))))))
  (Qq (QP (xo 3)))))
abbrev YX:Stmt:=top 43
theorem QdN (F:Fun z.K "_law_starts" "_law_starts" YX f fd)(Qm:JZ P w mg base z)(Q2:Qab P w mg base z):JF P w z.K mg base (CXe P w) 4 f fd ["_law_purse_here","_law_rows"] (spF z.K [true,false] .O (Yh z)):=by
 have S:Qs ["_law_purse_here","_law_rows","_law_found","_law_k","_law_r","_law_c","_law_way","_law_number_here"] ["_law_purse_here","_law_rows"] (Qf YX):= ~~~0
 refine fnT F S rfl (.inr rfl) fun cdv A outer s H E C hC hr hd=>?_
 have hown:=@Qej P w z.K mg base ["_law_purse_here","_law_rows","_law_found","_law_k","_law_r","_law_c","_law_way","_law_number_here"] "_law_starts" (Qf YX) f cdv A outer s H E
 unfold V8
 exact(Qk (Y2 (i:=2) S.nd rfl (z30 rfl) (Qby Qc))
  (Qk (Vr hown rfl (Qaw T.range (Qa (Qa8 (par:=true) (as:=[some 0,none]) (p:=false) (spk Qm hC) Qj (hr^^^0) (Qa (xs 0) (Qa Qg Qc))) Qc)) (QA (i:=3) S.nd rfl (z30 rfl)) Ye (Qk (QN (i:=4) S.nd rfl (z30 rfl) (Qa8 (par:=true) (as:=[some 0,none]) (p:=false) (spk Qm hC) Qj (hr^^^0) (Qa (xs 0) (Qa (Qx QH (Qcb hC) T.len z41 (Qa (xv 1) Qc)) Qc))))
  (Qk (QN (i:=5) S.nd rfl (z30 rfl) (Qa8 (par:=true) (as:=[some 0,none]) (p:=false) (spk Qm hC) Qj (hr^^^0) (Qa (xs 0) (Qa (Qx QH (Qcb hC) T.len z41 (Qa (QG hC (xv 1) Qg) Qc)) Qc))))
  (Qk (QN (i:=6) S.nd rfl (z30 rfl) (Qa8 (par:=true) (as:=[some 0,none]) (p:=false) (spk Qm hC) Qj (hr^^^0) (Qa (xs 0) (Qa Qg Qc))))
  (Qk (QN (i:=7) S.nd rfl (z30 rfl) (Qa8 (par:=true) (as:=[some 0]) (p:=false) (spk Q2 hC) Qj (hr^^^0) (Qa (xs 0) Qc)))
  (Qk (VV (QT (VI (Qcc hr)) (Qix hC) (xv 6) Qg (QM _)) (Qq (QN (i:=7) S.nd rfl (z30 rfl) (Qp8 (xv 7)))) (Qq (VV (QT (VI (Qcc hr)) (Qix hC) (xv 6) Qg (QM _)) (Qq (QN (i:=7) S.nd rfl (z30 rfl) (Qx (Qi3 rfl) dI2 T.QtE QcZ (Qa (Yq Jt Qcx (QG hC (QG hC (xv 1) (xv 4)) (xv 5)) (Yq QdQ QoO (xv 7) Qg)) (Qa (Yq Qb8 Qmz (Yq Qfe Qp7 Qg Qg) Qg) Qc))))) Js)))
  (Qq (Qiw (i:=2) hC rfl (by first|exact z30 rfl|exact z59 (z30 rfl)|exact z59 (z59 rfl)) (YK (JI (Qa (JI (Qa (xv 4) (Qa (xv 5) Qc))) (Qa (xv 7) Qc))))))))))))
  (Qq (QP (xo 2)))))
abbrev YI:Stmt:=top 48
theorem Qdt (F:Fun z.K "_law_changed" "_law_changed" YI f fd)(Qm:JZ P w mg base z)(Yz:Qdl P w mg base z):JF P w z.K mg base (CXe P w) 4 f fd ["_law_purse_here","_law_losses_here"] (spF z.K [true,false] .O (JQ z)):=by
 have S:Qs ["_law_purse_here","_law_losses_here","_law_found","_law_k","_law_r","_law_c"] ["_law_purse_here","_law_losses_here"] (Qf YI):= ~~~0
 refine fnT F S rfl (.inr rfl) fun cdv A outer s H E C hC hr hd=>?_
 have hown:=@Qej P w z.K mg base ["_law_purse_here","_law_losses_here","_law_found","_law_k","_law_r","_law_c"] "_law_changed" (Qf YI) f cdv A outer s H E
 unfold Vx
 exact(Qk (QjP (i0:=2) (par:=false) (cs:=[.me]) (N:=["_law_row"]) (j:=0) hC rfl S.nd rfl (z30 rfl) Blk.of rfl rfl rfl (Q9 hC (xv 1)) (fun _ _ _ _ _=>Qam) (fun _ _ _ _ _=>Qaq fun Cb hb=>(QcU (x := "") T.Qf3 hb (Qa (xv 0) Qc))))
  (Qk (Vr hown rfl (Qaw T.range (Qa (Yq Jt Qcx Qg (Qa8 (par:=true) (as:=[some 0,none]) (p:=false) (spk Qm hC) Qj (hr^^^0) (Qa (xs 0) (Qa Qg Qc)))) Qc)) (QA (i:=3) S.nd rfl (z30 rfl)) Ye (Qk (QN (i:=4) S.nd rfl (z30 rfl) (Qa8 (par:=true) (as:=[some 0,none]) (p:=false) (spk Qm hC) Qj (hr^^^0) (Qa (xs 0) (Qa (Qx QH (Qcb hC) T.len z41 (Qa (xv 1) Qc)) Qc))))
  (Qk (QN (i:=5) S.nd rfl (z30 rfl) (Qa8 (par:=true) (as:=[some 0,none]) (p:=false) (spk Qm hC) Qj (hr^^^0) (Qa (xs 0) (Qa (Qx QH (Qcb hC) T.len z41 (Qa (QG hC (xv 1) Qg) Qc)) Qc))))
  (Qq (QbD (i:=2) hC (YK (Qa8 (par:=true) (as:=[some 0]) (p:=false) (spk Yz hC) Qj (hr^^^0) (Qa (xs 0) Qc))) (hg:=Qb7 (QgA QbS (pv 2) (xv 4) (fun _ _=>rfl)) (xv 5) set_list))))))
  (Qq (QP (xo 2)))))
abbrev Vo:Stmt:=inClass (top 13) 0
theorem QeT (F:Fun z.K "__init__" "Floor.__init__" Vo f fd)(VB:QdE P w mg base z)(VC:QdF P w mg base z):JF P w z.K mg base (CXe P w) 5 f fd ["self","rows"] (spI z.K z.Qh (QU z)):=by
 have S:Qs ["self","rows","row"] ["self","rows"] (Qf Vo):= ~~~0
 refine fnI F S con.QK con.QD fun cdv A outer s H E C x hC hr hd=>?_
 have hown:=@Qej P w z.K mg base ["self","rows","row"] "Floor.__init__" (Qf Vo) f cdv A outer s H E
 unfold YO
 exact(QmJ (VV (JH (Jw (QO (spk VB hC) Qj (hr^^^0) (Qa (xv 1) Qc)))) (Qq Qc2) Js)
  (QmJ (Vr hown rfl (Q9 hC (xv 1)) (QA (i:=2) S.nd rfl (z30 rfl)) Ye (Qq (Qau (QO (spk VC hC) Qj (hr^^^0) (Qa (xv 2) Qc)))))
  (Qti hC rfl (by first|exact z30 rfl|exact z59 (z30 rfl)|exact z59 (z59 rfl)) (Qcw T.tuple hC (Qa (QbO (Y3 (p:=true) (par:=false) (cs:=[.me]) (N:=["row"]) (j:=0) hC rfl Blk.of rfl rfl rfl (Q9 hC (xv 1)) (fun _ _ _ _ _=>Qam) (fun _ _ _ _ _=>Qaq fun Cb hb=>(YK (Qcw T.tuple hb (Qa (xv 0) Qc)))))) Qc)))))
abbrev QaO:Stmt:=inClass (top 13) 4
theorem QeU (F:Fun z.K "loss" "Floor.loss" QaO f fd)(Qt:Jm P w mg base z):JF P w z.K mg base (CXe P w) 5 f fd ["self","place"] (spF z.K [false,false] .V (YQ z)):=by
 have S:Qs ["self","place"] ["self","place"] (Qf QaO):= ~~~0
 refine fnT F S rfl (.inl rfl) fun cdv A outer s H E C hC hr hd=>?_
 unfold QaH
 exact(Qk (Qau (x_m (Qe9 Qt hC) con.QK Qj (hr^^^0) (xv 0) (Qa (xv 1) Qc)))
  (Qq (QP (QG hC (QG hC (Qd3 con.QK con.QD (xv 0)) (QG hC (xv 1) Qg)) (QG hC (xv 1) Qg)))))
abbrev VD:Stmt:=inClass (top 13) 5
theorem Qdu (F:Fun z.K "beside" "Floor.beside" VD f fd)(QQ:Y9 P w mg base z)(QeV:Ql3 P w mg base z)(Yy:Qdk P w mg base z)(Qt:Jm P w mg base z):JF P w z.K mg base (CXe P w) 5 f fd ["self","place"] (spF z.K [false,false] .O (JR z)):=by
 have S:Qs ["self","place"] ["self","place"] (Qf VD):= ~~~0
 refine fnT F S rfl (.inr rfl) fun cdv A outer s H E C hC hr hd=>?_
 unfold Vy
 exact(Qk (Qau (x_m (Qe9 Qt hC) con.QK Qj (hr^^^0) (xv 0) (Qa (xv 1) Qc)))
  (Qq (QP (Y3 (p:=true) (par:=false) (cs:=[.me,.fz 0]) (N:=["near","self"]) (j:=0) hC rfl Blk.of rfl rfl rfl (Q9 hC (QbO (Qa8 (par:=false) (as:=[none]) (p:=true) (spk QeV hC) Qj (hr^^^0) (Qa (xv 1) Qc)))) (fun _ _ _ _ _=>QdZ fun Cb hb=>(PW.pt (QcR (Jw (x_m (Qe9 Yy hb) con.QK QbA (hr^^^0) (xv 1) (Qa (xv 0) Qc))) (Qck (JH (Jw (x_m (Qe9 QQ hb) con.QK QbA (hr^^^0) (xv 1) (Qa (xv 0) Qc)))))))) (fun _ _ _ _ _=>Qaq fun Cb hb=>(YK (xv 0)))))))
abbrev Qai:Stmt:=top 25
theorem QdO (F:Fun z.K "check_start" "check_start" Qai f fd)(VO:Qf6 P w mg base z)(Qt:Jm P w mg base z):JF P w z.K mg base (CXe P w) 5 f fd ["floor","start"] (spF z.K [false,false] .V (Yi z)):=by
 have S:Qs ["floor","start"] ["floor","start"] (Qf Qai):= ~~~0
 refine fnT F S rfl (.inl rfl) fun cdv A outer s H E C hC hr hd=>?_
 unfold V9
 exact(Qk (VV (JH (Jw (QO (spk VO hC) Qj (hr^^^0) (Qa (xv 1) Qc)))) (Qq Qc2) Js)
  (Qq (Qau (x_m (Qe9 Qt hC) con.QK Qj (hr^^^0) (xv 0) (Qa (QG hC (xv 1) Qg) Qc)))))
abbrev QhW:Stmt:=top 29
theorem Qov (F:Fun z.K "give" "give" QhW f fd)(YA:Qb2 P w mg base z)(QE:Va P w mg base z)(QaP:Qf9 P w mg base z)(VE:QdI P w mg base z):JF P w z.K mg base (CXe P w) 6 f fd ["floor","rows","waiting","entry"] (spF z.K [false,true,true,false] .V (Qf2 z)):=by
 have S:Qs ["floor","rows","waiting","entry","near","number"] ["floor","rows","waiting","entry"] (Qf QhW):= ~~~0
 refine fnT F S rfl (.inl rfl) fun cdv A outer s H E C hC hr hd=>?_
 have hown:=@Qej P w z.K mg base ["floor","rows","waiting","entry","near","number"] "give" (Qf QhW) f cdv A outer s H E
 unfold Qkz
 exact(Qq (Vr hown rfl (Q9 hC (QbO (x_m (Qe9 VE hC) con.QK Qj (hr^^^0) (xv 0) (Qa (QG hC (xv 3) Qg) Qc)))) (QA (i:=4) S.nd rfl (z30 rfl)) Ye (Qk (QN (i:=5) S.nd rfl (z30 rfl) (Yq Qb8 Qmz (QG hC (xv 3) Qg) (x_m (Qe9 QaP hC) con.QK Qj (hr^^^0) (xv 0) (Qa (xv 4) Qc))))
  (Qq (VV (QT Qec dGt (xv 5) (QO (spk QE hC) Qj (hr^^^0) (Qa (xb 1) (Qa (xv 4) Qc))) (QM _)) (Qk (QbD (i:=1) hC (YK (xv 5)) (hg:=Qb7 (QgA QbS (pv 1) (QG hC (xv 4) Qg) (fun _ _=>rfl)) (QG hC (xv 4) Qg) set_list))
  (Qq (Qau (Qa8 (par:=true) (as:=[some 2,none]) (p:=false) (spk YA hC) Qj (hr^^^0) (Qa (xs 2) (Qa (JI (Qa (xv 5) (Qa (xv 4) Qc))) Qc)))))) Js)))))
abbrev YB:Stmt:=inClass (top 13) 6
theorem QbJ (F:Fun z.K "with_loss" "Floor.with_loss" YB f fd)(QaQ:Qf5 P w mg base z)(Qt:Jm P w mg base z)(Ji:Qch P w mg base z):JF P w z.K mg base (CXe P w) 7 f fd ["self","place","loss"] (spF z.K [false,false,false] .V (Q4 z)):=by
 have S:Qs ["self","place","loss","rows"] ["self","place","loss"] (Qf YB):= ~~~0
 refine fnT F S rfl (.inl rfl) fun cdv A outer s H E C hC hr hd=>?_
 unfold Yv
 exact(Qk (Qau (x_m (Qe9 Qt hC) con.QK Qj (hr^^^0) (xv 0) (Qa (xv 1) Qc)))
  (Qk (Y2 (i:=3) S.nd rfl (z30 rfl) (QoR (Qe9 QaQ hC) con.QK Qj (hr^^^0) (xv 0)))
  (Qk (QbD (i:=3) hC (YK (xv 2)) (hg:=Qb7 (QgA QbS (pv 3) (QG hC (xv 1) Qg) (fun _ _=>rfl)) (QG hC (xv 1) Qg) set_list))
  (Qq (QP (QlV (Qr4 Ji hC) Qj (hr^^^0) (Qa (xb 3) Qc)))))))
abbrev QcA:Stmt:=top 26
theorem QkF (F:Fun z.K "spread" "spread" QcA f fd)(QE:Va P w mg base z)(QkG:QrA P w mg base z)(QeW:Ql5 P w mg base z)(QkH:QrB P w mg base z):JF P w z.K mg base (CXe P w) 7 f fd ["floor","rows","starts"] (spF z.K [false,false,false] .O (QbH z)):=by
 have S:Qs ["floor","rows","starts","behind","start","waiting","entry"] ["floor","rows","starts"] (Qf QcA):= ~~~0
 refine fnT F S rfl (.inr rfl) fun cdv A outer s H E C hC hr hd=>?_
 have hown:=@Qej P w z.K mg base ["floor","rows","starts","behind","start","waiting","entry"] "spread" (Qf QcA) f cdv A outer s H E
 unfold QeE
 exact(Qk (QjP (i0:=3) (par:=false) (cs:=[.me]) (N:=["row"]) (j:=0) hC rfl S.nd rfl (z30 rfl) Blk.of rfl rfl rfl (Q9 hC (xv 1)) (fun _ _ _ _ _=>Qam) (fun _ _ _ _ _=>Qaq fun Cb hb=>(QcU (x := "") T.Qf3 hb (Qa (xv 0) Qc))))
  (Qk (Vr hown rfl (Q9 hC (xv 2)) (QA (i:=4) S.nd rfl (z30 rfl)) Ye (Qq (Qau (Qa8 (par:=false) (as:=[none,some 3,none]) (p:=false) (spk QkG hC) Qj (hr^^^0) (Qa (xv 0) (Qa (xs 3) (Qa (xv 4) Qc)))))))
  (Qk (Y2 (i:=5) S.nd rfl (z30 rfl) (QO (spk QeW hC) Qj (hr^^^0) (Qa (xv 0) (Qa (xb 3) Qc))))
  (Qk (QjF (n:=1000000) hown (QT Qec dGt (Qx QH (Qcb hC) T.len z41 (Qa (xb 5) Qc)) Qg (QM _)) (Qk (QN (i:=6) S.nd rfl (z30 rfl) (Qrj (i:=5) rfl (by first|exact z30 rfl|exact z59 (z30 rfl)|exact z59 (z59 rfl))))
  (Qq (VV (QT (VI (Qcc hr)) (Qix hC) (QO (spk QE hC) Qj (hr^^^0) (Qa (xb 3) (Qa (QG hC (xv 6) Qg) Qc))) (QG hC (xv 6) Qg) (QM _)) (Qq (Qau (Qa8 (par:=false) (as:=[none,some 3,some 5,none]) (p:=false) (spk QkH hC) Qj (hr^^^0) (Qa (xv 0) (Qa (xs 3) (Qa (xs 5) (Qa (xv 6) Qc))))))) Js))))
  (Qq (QP (xo 3)))))))
abbrev QcB:Stmt:=top 22
theorem QkI (F:Fun z.K "raised" "raised" QcB f fd)(QeX:Ql4 P w mg base z)(QaR:Qf8 P w mg base z)(Qaj:QeJ P w mg base z)(QeY:Ql6 P w mg base z):JF P w z.K mg base (CXe P w) 8 f fd ["floor","rows","starts"] (spF z.K [false,false,false] .O (Jl z)):=by
 have S:Qs ["floor","rows","starts","start","behind"] ["floor","rows","starts"] (Qf QcB):= ~~~0
 refine fnT F S rfl (.inr rfl) fun cdv A outer s H E C hC hr hd=>?_
 have hown:=@Qej P w z.K mg base ["floor","rows","starts","start","behind"] "raised" (Qf QcB) f cdv A outer s H E
 unfold QeF
 exact(Qk (Qau (QO (spk QaR hC) Qj (hr^^^0) (Qa (xv 0) (Qa (xv 1) Qc))))
  (Qk (Vr hown rfl (Q9 hC (xv 2)) (QA (i:=3) S.nd rfl (z30 rfl)) Ye (Qq (Qau (QO (spk Qaj hC) Qj (hr^^^0) (Qa (xv 0) (Qa (xv 3) Qc))))))
  (Qk (Y2 (i:=4) S.nd rfl (z30 rfl) (QO (spk QeY hC) Qj (hr^^^0) (Qa (xv 0) (Qa (xv 1) (Qa (xv 2) Qc)))))
  (Qq (QP (Qql (Qa (xs 4) (Qa (QO (spk QeX hC) Qj (hr^^^0) (Qa (xv 1) (Qa (xb 4) Qc))) Qc))))))))
abbrev Qg6:Stmt:=top 50
theorem QrC (F:Fun z.K "law" "law" Qg6 f fd)(QR:Qaa P w mg base z)(QY:QaI P w mg base z)(Qm:JZ P w mg base z)(Ya:Qf7 P w mg base z)(Jg:Qa0 P w mg base z)(Q2:Qab P w mg base z)(Qak:QeH P w mg base z)(VF:QdG P w mg base z)(Qal:QeI P w mg base z)(VG:QdH P w mg base z)(Ji:Qch P w mg base z)(YC:Qb3 P w mg base z)(Vp:Ql7 P w mg base z):JF P w z.K mg base (CXe P w) 9 f fd ["_law_script"] (spF z.K [false] .V (Ql2 z)):=by
 have S:Qs ["_law_script","_law_losses_here","_law_purse_here","_law_others","_law_rows","_law_starts_here","_law_floor","_law_told","_law_other","_law_r","_law_c","_law_more","_law_later"] ["_law_script"] (Qf Qg6):= ~~~0
 refine fnT F S rfl (.inl rfl) fun cdv A outer s H E C hC hr hd=>?_
 have hown:=@Qej P w z.K mg base ["_law_script","_law_losses_here","_law_purse_here","_law_others","_law_rows","_law_starts_here","_law_floor","_law_told","_law_other","_law_r","_law_c","_law_more","_law_later"] "law" (Qf Qg6) f cdv A outer s H E
 unfold Qot
 exact(Qk (Qj3 (i0:=1) (par:=false) (cs:=[.me]) (N:=["_law_row"]) (j:=0) hC rfl S.nd rfl (z30 rfl) Blk.of rfl rfl rfl (Q9 hC (QsX hC (QbO (QO (spk Qak hC) Qj (hr^^^0) (Qa (xv 0) (Qa Qg Qc)))) Qqf (QjZ Qg))) (fun _ _ _ _ _=>Qam) (fun _ _ _ _ _=>Qaq fun Cb hb=>(QsY hb (xv 0) Qqf (QjZ Qg))))
  (Qk (Y2 (i:=2) S.nd rfl (z30 rfl) (QO (spk QY hC) Qj (hr^^^0) (Qa (xv 0) (Qa Qg Qc))))
  (Qk (QN (i:=3) S.nd rfl (z30 rfl) (QbO (Qa8 (par:=false) (as:=[some 2,none]) (p:=false) (spk VG hC) Qj (hr^^^0) (Qa (xs 2) (Qa (xv 1) Qc)))))
  (Qk (QN (i:=4) S.nd rfl (z30 rfl) (QbO (QO (spk Jg hC) Qj (hr^^^0) (Qa (xv 3) (Qa (QbO (QO (spk VF hC) Qj (hr^^^0) (Qa (xv 0) (Qa Qg (Qa (xv 1) Qc))))) Qc)))))
  (Qk (QN (i:=5) S.nd rfl (z30 rfl) (QbO (Qtn (spk Qal hC) Qj (hr^^^0) (Qa (QO (spk QY hC) Qj (hr^^^0) (Qa (xv 0) (Qa Qg Qc))) (Qa (xv 4) Qc)))))
  (Qk (QN (i:=6) S.nd rfl (z30 rfl) (QlV (Qr4 Ji hC) Qj (hr^^^0) (Qa (xv 1) Qc)))
  (Qk (QN (i:=7) S.nd rfl (z30 rfl) (QbO (QO (spk Vp hC) Qj (hr^^^0) (Qa (xv 6) (Qa (xv 4) (Qa (xv 5) Qc))))))
  (Qk (VV (JH (Jw (QO (spk Ya hC) Qj (hr^^^0) (Qa (xv 1) (Qa (xv 4) (Qa (xv 5) (Qa (xv 7) Qc))))))) (Qq (QP Qbw)) Js)
  (Qk (QN (i:=8) S.nd rfl (z30 rfl) (QlV (Qr4 Ji hC) Qj (hr^^^0) (Qa (xv 3) Qc)))
  (Qk (VV (QT Qec dGt (Qa8 (par:=false) (as:=[some 2,none]) (p:=false) (spk Qm hC) Qj (hr^^^0) (Qa (xs 2) (Qa Qg Qc))) Qg (QM _)) (Qk (QN (i:=8) S.nd rfl (z30 rfl) (xv 6))
  (Qq (Vr hown rfl (Q9 hC (QbO (QO (spk QR hC) Qj (hr^^^0) (Qa (xv 1) Qc)))) (Qa2 rfl (QZ (QA (i:=9) S.nd rfl (z30 rfl)) (QZ (QA (i:=10) S.nd rfl (z30 rfl)) Vq))) (Qav hC) (Qq (VV (QT (VJ (Qcc hr)) (Qiy hC) (QG hC (QG hC (xv 3) (xv 9)) (xv 10)) (QG hC (QG hC (xv 1) (xv 9)) (xv 10)) (QM _)) (Qq (QN (i:=8) S.nd rfl (z30 rfl) (x_m (Qe9 YC hC) con.QK Qj (hr^^^0) (xv 8) (Qa (JI (Qa (xv 9) (Qa (xv 10) Qc))) (Qa (QG hC (QG hC (xv 3) (xv 9)) (xv 10)) Qc))))) Js))))) Js)
  (Qk (Y2 (i:=11) S.nd rfl (z30 rfl) (QcU (x := "") T.Qf3 hC (Qa (xv 5) Qc)))
  (Qk (Vr hown rfl (Q9 hC (QbO (QO (spk QR hC) Qj (hr^^^0) (Qa (xv 1) Qc)))) (Qa2 rfl (QZ (QA (i:=9) S.nd rfl (z30 rfl)) (QZ (QA (i:=10) S.nd rfl (z30 rfl)) Vq))) (Qav hC) (Qq (VV (PW.pt (QcR (QT (VI (Qcc hr)) (Qix hC) (QG hC (QG hC (xv 1) (xv 9)) (xv 10)) Qg (QM _)) (Qck (QT Qec dGt (QG hC (QG hC (xv 3) (xv 9)) (xv 10)) Qg (QM _))))) (Qq (Qiw (i:=11) hC rfl (by first|exact z30 rfl|exact z59 (z30 rfl)|exact z59 (z59 rfl)) (YK (JI (Qa (JI (Qa (xv 9) (Qa (xv 10) Qc))) (Qa (Qa8 (par:=false) (as:=[some 2]) (p:=false) (spk Q2 hC) Qj (hr^^^0) (Qa (xs 2) Qc)) Qc)))))) Js)))
  (Qk (VV (JH (Jw (QO (spk Ya hC) Qj (hr^^^0) (Qa (xv 3) (Qa (xv 4) (Qa (xb 11) (Qa (QbO (QO (spk Vp hC) Qj (hr^^^0) (Qa (xv 8) (Qa (xv 4) (Qa (xb 11) Qc))))) Qc))))))) (Qq (QP Qbw)) Js)
  (Qk (VV (JH (Jw (QO (spk Ya hC) Qj (hr^^^0) (Qa (xv 3) (Qa (xv 4) (Qa (xv 5) (Qa (QbO (QO (spk Vp hC) Qj (hr^^^0) (Qa (xv 8) (Qa (xv 4) (Qa (xv 5) Qc))))) Qc))))))) (Qq (QP Qbw)) Js)
  (Qk (VV (PW.pt (Qbx (QT (VJ (Qcc hr)) (Qiy hC) (QbO (QO (spk Vp hC) Qj (hr^^^0) (Qa (xv 6) (Qa (xv 4) (Qa (xv 5) Qc))))) (xv 7) (QM _)) (Qck (QT (VJ (Qcc hr)) (Qiy hC) (QbO (QO (spk Vp hC) Qj (hr^^^0) (Qa (QlV (Qr4 Ji hC) Qj (hr^^^0) (Qa (xv 1) Qc)) (Qa (xv 4) (Qa (xv 5) Qc))))) (xv 7) (QM _))))) (Qq (QP Qbw)) Js)
  (Qk (QN (i:=12) S.nd rfl (z30 rfl) (QbO (QO (spk Jg hC) Qj (hr^^^0) (Qa (xv 3) (Qa (QG hC (xv 7) Qg) Qc)))))
  (Qq (QP (QO (spk Ya hC) Qj (hr^^^0) (Qa (xv 3) (Qa (xv 12) (Qa (xv 5) (Qa (QbO (QO (spk Vp hC) Qj (hr^^^0) (Qa (xv 8) (Qa (xv 12) (Qa (xv 5) Qc))))) Qc)))))))))))))))))))))))
end
end G35
open PySem PySem.Spec L2 L2.Srt TL
local macro_rules
 | `(~~~$x)=>`(some (TL.Sl.frz $x))
local macro_rules
 | `(tactic| simp? only[$xs,*])=>`(tactic| simp only[w_S,Qqu,Qqv,Qqo,Qqp,w_V,Qqq,Qqr,Qqs,w_B,Qqt,w_O,w_C,Qs0,w_I,Qqw,QuO,Qs1,Qqx,Qs2,Qs3,Qqy,Qs4,Qqz,QuP,QqA,Qs5,Qs6,QqB,QqC,QqD,QnW,QqE,Qs7,QqF,Qs8,QqG,QqH,QqI,QnX,QqJ,QqK,QqL,Qs9,QqM,Qta,QqN,QuQ,QqO,QqP,QqQ,QqR,QqS,QqT,QuR,QnY,QqU,QnZ,QqV,Qtc,Qq0,Qq1,Qq2,Qq3,Qq4,Qq5,Qq6,Qn0,YR,Qn,Int.reduceEq,QsZ,Y1,Qmx,QrV,QaZ,mkS,asB,asI,asL,QuW,QuX,atI,ixN,Qca,TL.Qhg,QjQ,Qp6,Qmy,QnM,gLt,gLe,gGt,gGe,gI0,gIc,Qez,Qj5,QsU,Qt0,gI2,Qtx,Qty,QlJ,slot0,za7,List.zipWith_nil_left,List.zipWith_nil_right,za1,List.cons_append,zo5,z53,z24,zo6,List.getElem?_cons_zero,zi5,List.getElem?_nil,List.set_cons_zero,List.set_cons_succ,List.set_nil,zv0,Option.map_none,zf9,Option.bind_none,Nat.reduceAdd,Nat.reduceSub,ze7,if_true,if_false,Nat.reduceLT,Nat.reduceLeDiff,Int.reduceLT,Int.reduceLE,za3,Int.reduceToNat,Int.toNat_one,Int.cast_ofNat_Int,Cp.is,zc1,VW,Qax,QlH,outs,List.filterMap_cons_none,List.filterMap_cons_some,List.filterMap_nil,id,D.imm,D.Jo,Bool.true_and,zq7,Tag.mut,Bool.not_false,Bool.not_true,decide_eq_true_eq,Bool.decide_eq_true,Int.reduceNeg,z36,Nat.reducePow,QuN,z92,Nat.succ_eq_add_one,ite_true,ite_false,Bool.not_eq_true,decide_true,decide_false,Qn2,Qn3,Qn4,Qq7,Qq8,Qtf,z31,zn0,Qtg,Qrd,Qre,Qn6,Qn7,Qrf,Qn8,Qn9,Qrg,Qrh,Qrb,Qrc,Qn5,Qq9,Qrq,Qrr,Qrs,Qtt,Qoj,Qok,Qtu,Qrt,Qom,Qon,Qru,Qoq,Qrw,Qrx,Qor,Qry,$xs,*])
namespace G35
open PySem PySem.Spec L2 L2.Srt TL
variable {z:Z}
theorem Ws {m u:MS}{ρ:Rho}{k:Fl×Rho->Prop}(ρ0:Rho)(h1:W (m ρ) fun r=>r.1=.nx/\r.2=ρ0)(h2:W (u ρ0) k):W (QX m u ρ) k:=JC (fun ρ=>ρ=ρ0) h1 (by rintro _ rfl;exact h2)
def Pot (d:D):Prop:=∃v k:Int,d=.lst [.int v,.int k]
def isInt (d:D):Prop:=∃r:Int,d=.int r
abbrev QbK:Int:=10 ^ 60
theorem QrD {n i:Nat}{d:D}(h:((z64 n).map fun j=>D.int ((0:Int)+(j:Nat)))[i]? = some d):d=.int i/\i<n:=by
 rw[z18] at h
 obtain⟨a,e,rfl⟩:=z03.mp h
 obtain⟨h1,h2⟩:=z26.mp e
 rw[zl6] at h2
 rw[z55] at h1
 subst h2
 exact⟨by rw[zn6],h1⟩
theorem Qow (c:Int):FW (Jx z [.int c]) (fun d os=>os=[]/\isInt d):=by
 unfold Jx
 refine Jq ?_
 unfold Qbb
 simp? only[and_self]
 refine Vi (fun i ρ=>∃r s t,ρ=[~~~(.int c),~~~(.int r),s,t]/\(s=none\/∃d,s = ~~~d)/\(t=none\/∃d,t = ~~~d)) ⟨0,_,_,rfl,.inl rfl,.inl rfl⟩ ?_ ?_
 ·rintro i d ρ hd ⟨r,s,t,rfl,hs,ht⟩
  obtain⟨rfl,hi⟩:=QrD hd
  have hi':(i:Int)<12:=by have:(Int.toNat 12)=12:=rfl;lia
  refine⟨[~~~(.int c),~~~(.int r),~~~(.int i),t],?_,?_⟩
  ·rcases hs with rfl|⟨_,rfl⟩<;>rfl
  ·have g1:(0:Int)<2147483629:=by decide
   have g2:(0:Int)<2147483647:=by decide
   have g3:(0:Int)<2147483587:=by decide
   have c1:∀a:Int,Qgo a 48271:=fun a=>.inr (by decide)
   have c2:Qgo (i:Int) (i:Int):=.inl ⟨by lia,by lia⟩
   have c3:∀a:Int,Qgo a 7919:=fun a=>.inr (by decide)
   have c4:∀a:Int,Qgo 31 a:=fun a=>.inl (by decide)
   have c5:∀a:Int,Qgo a 2147483587:=fun a=>.inr (by decide)
   have c6:∀a:Int,Qgo 40693 a:=fun a=>.inl (by decide)
   have c7:∀a:Int,Qgo (a % 2147483647) (a % 2147483647):=fun a=>.inl ⟨by have:=zp4 a (show(2147483647:Int)≠0 by decide);lia,by have:=zl9 a g2;lia⟩
   rcases ht with rfl|⟨_,rfl⟩ <;>
   ·simp? only[g1,g2,g3,c1,c2,c3,c4,c5,c6,c7]
    exact⟨trivial,_,_,_,rfl,.inr ⟨_,rfl⟩,.inr ⟨_,rfl⟩⟩
 ·rintro ρ ⟨r,s,t,rfl,hs,ht⟩
  simp? only[]
  refine⟨_,[],rfl,?_,rfl,_,rfl⟩
  rcases hs with rfl|⟨_,rfl⟩<;>rcases ht with rfl|⟨_,rfl⟩<;>rfl
theorem QkJ (c:Int):∃r:Int,Jx z [.int c]=.ok (.int r) []:=by
 obtain⟨d,os,e,rfl,r,rfl⟩:=Qow (z:=z) c
 exact⟨r,e⟩
def spT (n:Int)(d:D)(os:List D):Prop:=∃r p,d=.int r/\os=[p]/\Pot p/\0<=r/\r<n
abbrev QrE:Int:=115792089237316195423570985008687907853269984665640564039457584007913129639936
theorem Jn {p:D}{n:Int}(hp:Pot p)(h0:0<n)(h1:n<QrE):FW (Qu z [p,.int n]) (spT n):=by
 obtain⟨v,k,rfl⟩:=hp
 unfold Qu
 refine Jq ?_
 unfold Qbd
 have cn:∀a,QdA a n:=fun a=>⟨h0,h1⟩
 by_cases hv:v=0
 ·subst hv
  obtain⟨r,er⟩:=QkJ (z:=z) (k+64)
  simp? only[Q5 er,cn,h0]
  exact⟨trivial,_,_,rfl,rfl,_,_,rfl,rfl,⟨_,_,rfl⟩,zp4 _ (by lia),zl9 _ h0⟩
 ·simp? only[hv,cn,h0]
  exact⟨_,_,rfl,rfl,_,_,rfl,rfl,⟨_,_,rfl⟩,zp4 _ (by lia),zl9 _ h0⟩
def spP (Q:D->Prop)(d:D)(os:List D):Prop:=∃p,os=[p]/\Pot p/\Q d
def Qgk (d:D):Prop:=∃r:Int,d=.int r/\0<=r/\r<QbK
theorem QtF:Qmj 10 60:=⟨by decide,by decide,by decide⟩
theorem Qdv {p:D}(hp:Pot p):FW (Jc z [p]) (spP Qgk):=by
 unfold Jc
 refine Jq ?_
 unfold V6
 simp? only[]
 refine Vs (p:=p) (P:=spT 4) rfl (Jn hp (by decide) (by decide)) fun _ _ ⟨r1,p1,e1,e2,hp1,_,_⟩=>⟨p1,e2,?_⟩;subst e1
 simp? only[]
 refine QfR (fun h=>?_) (fun h=>?_)
 ·simp? only[QtF]
  refine Vs (p:=p1) (P:=spT QbK) rfl (Jn hp1 (by decide) (by decide)) fun _ _ ⟨r3,p3,e1,e2,hp3,g0,g1⟩=>⟨p3,e2,?_⟩;subst e1
  simp? only[]
  exact⟨_,_,rfl,rfl,_,rfl,hp3,_,rfl,g0,g1⟩
 ·simp? only[]
  refine Vs (p:=p1) (P:=spT 30) rfl (Jn hp1 (by decide) (by decide)) fun _ _ ⟨r3,p3,e1,e2,hp3,g0,g1⟩=>⟨p3,e2,?_⟩;subst e1
  simp? only[]
  exact⟨_,_,rfl,rfl,_,rfl,hp3,_,rfl,g0,zb0 g1 (by decide)⟩
theorem QkK {p:D}(hp:Pot p):FW (JX z [p]) (spP Qgk):=by
 unfold JX
 refine Jq ?_
 unfold Qbf
 simp? only[]
 refine Vs (p:=p) (P:=spT 9) rfl (Jn hp (by decide) (by decide)) fun _ _ ⟨r1,p1,e1,e2,hp1,_,_⟩=>⟨p1,e2,?_⟩;subst e1
 simp? only[]
 refine QfR (fun h=>?_) (fun h=>?_)
 ·simp? only[]
  exact⟨_,_,rfl,rfl,_,rfl,hp1,_,rfl,by decide,by decide⟩
 simp? only[]
 refine QfR (fun h=>?_) (fun h=>?_)
 ·simp? only[]
  exact⟨_,_,rfl,rfl,_,rfl,hp1,_,rfl,by decide,by decide⟩
 simp? only[]
 refine QfR (fun h=>?_) (fun h=>?_)
 ·simp? only[]
  refine Vs (p:=p1) (P:=spT 4) rfl (Jn hp1 (by decide) (by decide)) fun _ _ ⟨r3,p3,e1,e2,hp3,g0,g1⟩=>⟨p3,e2,?_⟩;subst e1
  simp? only[]
  exact⟨_,_,rfl,rfl,_,rfl,hp3,_,rfl,by lia,zb0 (b:=10) (by lia) (by decide)⟩
 simp? only[]
 refine QfR (fun h=>?_) (fun h=>?_)
 ·simp? only[]
  refine Vs (p:=p1) (P:=spT 60) rfl (Jn hp1 (by decide) (by decide)) fun _ _ ⟨r3,p3,e1,e2,hp3,g0,g1⟩=>⟨p3,e2,?_⟩;subst e1
  simp? only[]
  exact⟨_,_,rfl,rfl,_,rfl,hp3,_,rfl,by lia,zb0 (b:=100) (by lia) (by decide)⟩
 ·simp? only[QtF]
  refine Vs (p:=p1) (P:=spT (QbK - 1)) rfl (Jn hp1 (by decide) (by decide)) fun _ _ ⟨r3,p3,e1,e2,hp3,g0,g1⟩=>⟨p3,e2,?_⟩;subst e1
  simp? only[]
  exact⟨_,_,rfl,rfl,_,rfl,hp3,_,rfl,by lia,by lia⟩
def script (xs:List Int):D:=.lst (xs.map .int)
def okL (L:List (List Int)):Prop:=∀r∈L,∀x∈r,0<=x/\x<QbK
variable {z:Z}
def flD (z:Z)(F:List (List Int)):D:=.nd (.ins z.Qh ["losses"]) [tuD F]
theorem Yk {F:List (List Int)}{nm:Str}(h:(nm == ("losses" : Str))=false):QfU z.Qh nm (flD z F)=true:=by
 show(decide (z.Qh=z.Qh) && (["losses"]:List Str).all (fun n=>!(nm == n)))=true
 simp[h]
theorem Qd7 {F:List (List Int)}:Qj9 z.Qh "losses" (flD z F)=some (tuD F):=Qrt
section
variable {h w:Nat}{F R:List (List Int)}{p:Int×Int}
theorem Qdw (r:Rc h w R)(hp:inR h w p):Q7 z [rD R,pl p]=.ok (.int (atL R p)) []:=JL (Jq (by
 unfold Qba
 simp? only[pl,YU r hp.1 hp.2.1,Qaz r hp]
 exact⟨_,_,rfl,rfl,rfl,rfl⟩))
theorem QeZ (r:Rc h w F)(hp:inR h w p):Q6 z [flD z F,pl p]=.ok (.bl (decide (atL F p=0))) []:=JL (Jq (by
 unfold Y4
 simp? only[pl,Qd7,Qop r hp.1 hp.2.1,Qrv r hp]
 exact⟨_,_,rfl,rfl,rfl,rfl⟩))
theorem QkL (r:Rc h w F):J5 z [flD z F]=.ok (.int h) []:=JL (Jq (by
 unfold QaA
 have e:JT [tuD F]=some (.int h):=by unfold tuD;simp[JT,r.hi]
 simp? only[Qd7,e]
 exact⟨_,_,rfl,rfl,rfl,rfl⟩))
theorem Qg7 (r:Rc h w F)(h1:1<=h):J6 z [flD z F]=.ok (.int w) []:=JL (Jq (by
 unfold QaB
 have e:JT [tuI (F.getD (0:Int).toNat [])]=some (.int w):=by
  have:=r.row (i:=0) (by decide) (by lia)
  unfold tuI
  simp only[JT,z00,this]
 simp only[za3] at e
 simp? only[Qd7,Qop r (i:=0) (by decide) (by lia),e]
 exact⟨_,_,rfl,rfl,rfl,rfl⟩))
theorem QhX {i:Int}:YY z [.int i]=.ok (.bl true) []:=rfl
theorem QiH {xs:List D}:Jd z [.nd .lst xs]=.ok (.bl true) []:=rfl
theorem QkM {a b:D}:VN z [.nd .tup [a,b]]=.ok (.bl true) []:=rfl
theorem Qdx {i n:Int}:JW z [.int i,.int n]=.ok (.bl (decide (0<=i/\i<n))) []:=JL (Jq (by
 unfold Qbc
 simp? only[Q5 QhX,true_and]
 by_cases h0:0<=i
 ·simp? only[h0,true_and]
  exact⟨_,_,rfl,rfl,rfl,rfl⟩
 ·simp? only[h0,false_and]
  exact⟨_,_,rfl,rfl,rfl,rfl⟩))
theorem QkN (r:Rc h w F)(h1:1<=h):Yt z [flD z F,pl p]=.ok (.bl (decide (inR h w p))) []:=JL (Jq (by
 unfold Qbe
 have i1:=Yk (z:=z) (F:=F) (nm := "high") (by decide)
 have i2:=Yk (z:=z) (F:=F) (nm := "wide") (by decide)
 simp? only[pl,Q5 QkM,true_and,i1,i2,Q5 (QkL r),Q5 (Qg7 r h1),Q5 Qdx]
 by_cases c:0<=p.1/\p.1<(h:Int)
 ·simp? only[c,and_self,i2,Q5 (Qg7 r h1),Q5 Qdx]
  have:decide (inR h w p)=decide (0<=p.2/\p.2<(w:Int)):=by unfold inR;simp[c]
  rw[this]
  exact⟨trivial,trivial,_,_,rfl,rfl,rfl,rfl⟩
 ·simp? only[c]
  have:decide (inR h w p)=false:=by unfold inR;apply decide_eq_false;intro q;exact c ⟨q.1,q.2.1⟩
  rw[this]
  exact⟨_,_,rfl,rfl,rfl,rfl⟩))
theorem QcC (r:Rc h w F)(h1:1<=h)(hp:inR h w p):QC z [flD z F,pl p]=.ok .non []:=JL (Qey (by
 unfold JY
 have i1:=Yk (z:=z) (F:=F) (nm := "has") (by decide)
 simp? only[i1,Q5 (QkN r h1),hp,true_and]
 exact⟨_,rfl,rfl⟩))
theorem Qox (r:Rc h w F)(h1:1<=h)(hp:inR h w p):YQ z [flD z F,pl p]=.ok (.int (atL F p)) []:=JL (Jq (by
 unfold QaH
 have i1:=Yk (z:=z) (F:=F) (nm := "check_place") (by decide)
 simp? only[i1,Q5 (QcC r h1 hp),true_and]
 simp? only[pl,Qd7,Qop r hp.1 hp.2.1,Qrv r hp]
 exact⟨_,_,rfl,rfl,rfl,rfl⟩))
theorem QkO:QbE z [pl p]=.ok (.lst ((arL p).map pl)) []:=rfl
theorem QkP (r:Rc h w F)(h1:1<=h)(hp:inR h w p):JR z [flD z F,pl p]=.ok (.lst ((nbL h w F p).map pl)) []:=JL (Jq (by
 unfold Vy
 have i1:=Yk (z:=z) (F:=F) (nm := "check_place") (by decide)
 have i2:=Yk (z:=z) (F:=F) (nm := "has") (by decide)
 have i3:=Yk (z:=z) (F:=F) (nm := "is_wall") (by decide)
 simp? only[i1,Q5 (QcC r h1 hp),true_and]
 refine Qra (dis:=[]) (P:=fun d os=>d=.lst ((arL p).map pl)/\os=[]) rfl ⟨_,_,QkO,rfl,rfl⟩ fun d os hz=>?_
 obtain⟨e1,e2⟩:=hz
 subst e1;subst e2
 simp? only[]
 refine Qj7 (f:=fun d=>okN h w F (pD d)) (g:=fun d=>d) (di:=[]) (ρb:=[none,~~~(flD z F)]) (os:=[]) rfl rfl ?_ (by rw[z36];simp[arL]) rfl rfl ?_
 ·intro d hd
  obtain⟨q,hq,rfl⟩:=z40.mp hd
  refine⟨[~~~(pl q),~~~(flD z F)],rfl,?_,fun _=>rfl,rfl⟩
  refine YE.mp ?_
  show W _ fun a=>a=(okN h w F q,_)
  by_cases c:inR h w q
  ·simp? only[i2,i3,Q5 (QkN r h1),c,true_and,Q5 (QeZ r c)]
   simp[okN,c]
  ·simp? only[i2,Q5 (QkN r h1),c,true_and]
   simp[okN,c]
 ·simp? only[]
  refine⟨_,_,rfl,rfl,?_,rfl⟩
  congr 1
  rw[ze1]
  ·rw[zg5];rfl
  ·intro _;rfl))
end
variable {z:Z}
section
variable {h w:Nat}{L:List (List Int)}
theorem QkQ {i:Int}(h0:0<=i)(h1:i<QbK):QaF z [.int i]=.ok (.bl true) []:=JL (Jq (by
 unfold Qdd
 have c3:Qmj 10 60:=⟨by decide,by decide,by decide⟩
 have e:(10:Int) ^ (60:Int).toNat=QbK:=by decide
 have e2:(10:Int) ^ 60=QbK:=rfl
 have e3:decide (0<=i/\i<QbK)=true:=decide_eq_true ⟨h0,h1⟩
 simp? only[c3,e,e2,Q5 Qdx,e3]
 exact⟨trivial,_,_,rfl,rfl,rfl,rfl⟩))
theorem QkR {l:List Int}(hl:∀x∈l,0<=x/\x<QbK):JO z [rwI l]=.ok .non []:=JL (Qey (by
 unfold Vv
 unfold rwI
 simp? only[]
 refine Vi (fun i ρ=>∃s,ρ=[~~~(.lst (l.map .int)),s]/\(s=none\/∃d,s = ~~~d)) ⟨_,rfl,.inl rfl⟩ ?_ ?_
 ·rintro i d ρ hd ⟨s,rfl,hs⟩
  refine⟨[~~~(.lst (l.map .int)),~~~d],?_,?_⟩
  ·rcases hs with rfl|⟨_,rfl⟩<;>rfl
  ·obtain⟨n,hn,rfl⟩:=z40.mp (z37 hd)
   obtain⟨a,b⟩:=hl n hn
   simp? only[Q5 (QkQ a b),true_and]
   exact⟨_,rfl,.inr ⟨_,rfl⟩⟩
 ·rintro ρ ⟨s,rfl,hs⟩
  refine⟨[],rfl,?_,trivial,rfl⟩
  rcases hs with rfl|⟨_,rfl⟩<;>rfl))
theorem QhY {xs:List D}(h1:1<=xs.length)(h2:xs.length<=30):J7 z [.nd .lst xs]=.ok (.bl true) []:=JL (Jq (by
 unfold Qb1
 have e1:(1:Int)<=xs.length:=by lia
 have e2:(xs.length:Int)<=30:=by lia
 simp? only[Q5 QiH,true_and,e1,e2]
 exact⟨_,_,rfl,rfl,rfl,rfl⟩))
theorem Qoy (r:Rc h w L)(h1:1<=h)(h2:h<=30)(w1:1<=w)(w2:w<=30):JN z [rD L]=.ok (.bl true) []:=JL (Jq (by
 unfold Vu
 have e1:J7 z [rD L]=.ok (.bl true) []:=QhY (by rw[z00,r.hi];exact h1) (by rw[z00,r.hi];exact h2)
 have e3:siK (rD L,[~~~(rD L),none])=.ok (L.map rwI,[~~~(rD L),none]):=rfl
 simp? only[Q5 e1,true_and,e3]
 refine Vi (fun i ρ=>∃s,ρ=[~~~(rD L),s]/\(s=none\/∃d,s = ~~~d)) ⟨_,rfl,.inl rfl⟩ ?_ ?_
 ·rintro i d ρ hd ⟨s,rfl,hs⟩
  refine⟨[~~~(rD L),~~~d],?_,?_⟩
  ·rcases hs with rfl|⟨_,rfl⟩<;>rfl
  ·obtain⟨l,hl,rfl⟩:=z40.mp (z37 hd)
   have el:=r.wi l hl
   have e2:J7 z [rwI l]=.ok (.bl true) []:=QhY (by rw[z00,el];exact w1) (by rw[z00,el];exact w2)
   have g1:JT [rwI l]=some (.int w):=by show some (D.int ((l.map D.int).length:Nat))=_;rw[z00,el]
   have g2:JT [rwI (L.getD (0:Int).toNat [])]=some (.int w):=by
    have:=r.row (i:=0) (by decide) (by lia)
    show some (D.int (((L.getD (0:Int).toNat []).map D.int).length:Nat))=_
    rw[z00,this]
   simp only[za3] at g2
   simp? only[Q5 e2,true_and,g1,g2,YU r (i:=0) (by decide) (by lia),Qj5]
   simp
   exact YR.mpr ⟨rfl,_,rfl,.inr ⟨_,rfl⟩⟩
 ·rintro ρ ⟨s,rfl,hs⟩
  simp? only[]
  refine⟨_,[],rfl,?_,rfl,rfl⟩
  rcases hs with rfl|⟨_,rfl⟩<;>rfl))
theorem QmO {s:Option Sl}{ρ:Rho}{ms:MS}{me:ME}{k:D×Rho->Prop}(h:W (ms (s::ρ)) fun r=>r.1=.nx/\W (me r.2) k):W (Qkf ms me (s::ρ)) k:=by
 obtain⟨⟨f,ρ1⟩,e,e1,h1⟩:=h
 have e1:f=.nx:=e1
 subst e1
 unfold Qkf
 rw[e]
 exact h1
theorem Qe0 {x:Addr}(r:Rc h w L)(h1:1<=h)(h2:h<=30)(w1:1<=w)(w2:w<=30)(ok:okL L):QU z x (rD L)=.ok (flD z L) []:=by
 have key:W (YO z [~~~(.cls x),~~~(rD L),none]) fun q=>q.1=tuD L/\∃s,q.2=[~~~(.cls x),~~~(rD L),s]:=by
  unfold YO
  refine QmO ?_
  simp? only[Q5 (Qoy (z:=z) r h1 h2 w1 w2),true_and]
  refine QmO ?_
  have e3:siK (rD L,[~~~(.cls x),~~~(rD L),none])=.ok (L.map rwI,[~~~(.cls x),~~~(rD L),none]):=rfl
  simp? only[e3]
  refine Vi (fun i ρ=>∃s,ρ=[~~~(.cls x),~~~(rD L),s]/\(s=none\/∃d,s = ~~~d)) ⟨_,rfl,.inl rfl⟩ ?_ ?_
  ·rintro i d ρ hd ⟨s,rfl,hs⟩
   refine⟨[~~~(.cls x),~~~(rD L),~~~d],?_,?_⟩
   ·rcases hs with rfl|⟨_,rfl⟩<;>rfl
   ·obtain⟨l,hl,rfl⟩:=z40.mp (z37 hd)
    simp? only[Q5 (QkR (z:=z) (ok l hl)),true_and]
    exact⟨_,rfl,.inr ⟨_,rfl⟩⟩
  ·rintro ρ ⟨s,rfl,hs⟩
   refine⟨rfl,?_⟩
   have e4:siK (rD L,[~~~(.cls x),~~~(rD L),s])=.ok (L.map rwI,[~~~(.cls x),~~~(rD L),s]):=rfl
   simp? only[e4]
   refine Qc3 (g:=l2t) (di:=[]) (ρb:=[none]) (os:=[]) rfl rfl ?_ (by rw[z36,z00,r.hi];lia) rfl rfl ?_
   ·intro d hd
    obtain⟨l,hl,rfl⟩:=z40.mp hd
    have e5:D.imm (.nd .tup (l.map D.int))=true:=Vk l
    have e6:tvK ([rwI l],[~~~(rwI l)])=.ok (.tup (l.map D.int),[~~~(rwI l)]):=rfl
    refine⟨[~~~(rwI l)],rfl,YE.mp ?_,rfl⟩
    simp? only[e6]
    show W (if D.imm (.nd .tup (l.map D.int))=true then _ else _) _
    rw[if_pos e5]
    exact YR.mpr rfl
   ·simp? only[]
    refine⟨?_,s,rfl⟩
    show D.tup _=D.tup _
    rw[z60];rfl
 obtain⟨⟨d,ρ⟩,e,e1,s,e2⟩:=key
 have e1:d=tuD L:=e1
 have e2:ρ=[~~~(.cls x),~~~(rD L),s]:=e2
 subst e1;subst e2
 unfold QU Qr1
 show(match YO z [~~~(.cls x),~~~(rD L),none] with|.ok (r,ρ)=>_|.ex c _=>_|.no=>_)=_
 rw[e]
 show(if Qd4 x _=true then _ else _)=_
 rw[if_pos (show Qd4 x [~~~(.cls x),~~~(rD L),s]=true from decide_eq_true rfl)]
 rfl
end
variable {z:Z}
def cel (w:Nat):Nat->List (Int×Int)
 |0=>[]
 |i+1=>cel w i++(z64 w).map fun b=>((i:Int),((b:Nat):Int))
section
variable {h w:Nat}{F R:List (List Int)}{p:Int×Int}
theorem Yl:∀{h:Nat},p∈cel w h↔inR h w p
 |0=>by
  unfold cel inR
  constructor
  ·intro h;cases h
  ·intro h;lia
 |h+1=>by
  unfold cel
  rw[z05,Yl,z40]
  unfold inR
  constructor
  ·rintro(⟨a,b,c,d⟩|⟨b,hb,rfl⟩)
   ·exact⟨a,by lia,c,d⟩
   ·have:=za2.mp hb
    dsimp only
    lia
  ·rintro⟨a,b,c,d⟩
   by_cases e:p.1<(h:Int)
   ·exact .inl ⟨a,e,c,d⟩
   ·refine .inr ⟨p.2.toNat,za2.mpr (by lia),?_⟩
    apply zo0
    ·dsimp only;lia
    ·dsimp only;lia
theorem Vf:∀{h:Nat},(cel w h).length=h * w
 |0=>by unfold cel;simp
 |h+1=>by unfold cel;rw[z16,Vf,z00,z55,Nat.succ_mul]
theorem QbL {α β:Type}{f:α->β}(hf:∀a b,f a=f b->a=b):∀{l:List α},l.Nodup->(l.map f).Nodup
 | [],_=>zf8
 |a::l,h=>by
  obtain⟨h1,h2⟩:=z72.mp h
  rw[z31]
  refine z72.mpr ⟨fun hm=>?_,QbL hf h2⟩
  obtain⟨b,hb,e⟩:=z40.mp hm
  rw[hf _ _ e] at hb
  exact h1 hb
theorem Qdy:∀{h:Nat},(cel w h).Nodup
 |0=>zf8
 |h+1=>by
  unfold cel
  refine z09.mpr ⟨Qdy,QbL (fun a b e=>?_) List.nodup_range,fun a ha b hb e=>?_⟩
  ·rw[zk2] at e;lia
  ·subst e
   have h1:=(Yl.mp ha).2.1
   obtain⟨c,_,rfl⟩:=z40.mp hb
   dsimp only at h1
   lia
theorem Qg8 (r:Rc h w F)(hh:h<=30)(hw:w<=30):JV z [tuD F]=.ok (.lst ((cel w h).map pl)) []:=JL (Jq (by
 unfold V2
 have e3:enK ([tuD F],[~~~(tuD F),some (.own (.lst [])),none,none])=.ok (VY (F.map tuI),[~~~(tuD F),some (.own (.lst [])),none,none]):=rfl
 simp? only[e3]
 refine Vi (fun i ρ=>∃s t,ρ=[~~~(tuD F),some (.own (.lst ((cel w i).map pl))),s,t]/\(s=none\/∃d,s = ~~~d)/\(t=none\/∃d,t = ~~~d)) ⟨_,_,rfl,.inl rfl,.inl rfl⟩ ?_ ?_
 ·rintro i d ρ hd ⟨s,t,rfl,hs,ht⟩
  have hd':∃l,l∈F/\d=.tup [.int i,tuI l]:=by
   unfold VY at hd
   rw[z18,zj9,z18] at hd
   cases q:F[i]? with
   |none=>rw[q] at hd;cases hd
   |some l=>
    rw[q] at hd
    simp at hd
    exact⟨l,z37 q,hd.symm⟩
  obtain⟨l,hl,rfl⟩:=hd'
  have el:=r.wi l hl
  refine⟨[~~~(tuD F),some (.own (.lst ((cel w i).map pl))),~~~(.int i),~~~(tuI l)],?_,?_⟩
  ·rcases hs with rfl|⟨_,rfl⟩<;>rcases ht with rfl|⟨_,rfl⟩<;>rfl
  ·have g1:JT [tuI l]=some (.int w):=by show some (D.int ((l.map D.int).length:Nat))=_;rw[z00,el]
   have b1:(-4611686018427387904:Int)<=w/\(w:Int)<4611686018427387904:=by lia
   simp? only[g1,b1,and_self,z82]
   refine Qc3 (g:=fun d=>.tup [.int i,d]) (di:=[]) (ρb:=[none,~~~(.int i)]) (os:=[]) rfl rfl ?_ (by rw[z36,z00,z55];lia) rfl rfl ?_
   ·intro d hd
    obtain⟨n,hn,rfl⟩:=z40.mp hd
    exact⟨[~~~(.int (0+(n:Nat))),~~~(.int i)],rfl,YE.mp (by simp? only[]),rfl⟩
   ·have hi:i<h:=by
     have:=(z26.mp hd).1
     unfold VY at this
     rw[z00,ze2,z00,r.hi] at this
     exact this
    have hc:(cel w i).length<=900:=by rw[Vf];exact z62 (zc6 (by lia) hw) (by decide:30 * 30<=900)
    have hz:(zg3 pl (cel w i)).length+(zg3 (fun d=>D.tup [D.int ↑i,d]) (zg3 (fun j=>D.int (0 + ↑j)) (z64 w))).length<=16777216:=by
     simp;lia
    simp? only[]
    rw[if_pos (by simpa using hz)]
    refine YR.mpr ⟨rfl,~~~(.int i),~~~(tuI l),?_,.inr ⟨_,rfl⟩,.inr ⟨_,rfl⟩⟩
    rw[cel,z68,z60,z60]
    have:∀(n:Nat),((fun d=>D.tup [D.int ↑i,d])∘fun(j:Nat)=>D.int (0 + ↑j)) n=(pl∘fun(b:Nat)=>((i:Int),(b:Int))) n:=fun n=>by
     show D.tup [D.int i,D.int (0+(n:Int))]=D.tup [D.int i,D.int n]
     rw[zn6]
    rw[show((fun d=>D.tup [D.int ↑i,d])∘fun(j:Nat)=>D.int (0 + ↑j))=(pl∘fun(b:Nat)=>((i:Int),(b:Int))) from funext this]
 ·rintro ρ ⟨s,t,rfl,hs,ht⟩
  have e:(VY (F.map tuI)).length=h:=by unfold VY;rw[z00,ze2,z00,r.hi]
  rw[e]
  simp? only[]
  refine⟨_,[],rfl,?_,rfl,rfl⟩
  rcases hs with rfl|⟨_,rfl⟩<;>rcases ht with rfl|⟨_,rfl⟩<;>rfl))
theorem Qgl (r:Rc h w F)(hh:h<=30)(hw:w<=30):JV z [rD F]=.ok (.lst ((cel w h).map pl)) []:=JL (Jq (by
 unfold V2
 have e3:enK ([rD F],[~~~(rD F),some (.own (.lst [])),none,none])=.ok (VY (F.map rwI),[~~~(rD F),some (.own (.lst [])),none,none]):=rfl
 simp? only[e3]
 refine Vi (fun i ρ=>∃s t,ρ=[~~~(rD F),some (.own (.lst ((cel w i).map pl))),s,t]/\(s=none\/∃d,s = ~~~d)/\(t=none\/∃d,t = ~~~d)) ⟨_,_,rfl,.inl rfl,.inl rfl⟩ ?_ ?_
 ·rintro i d ρ hd ⟨s,t,rfl,hs,ht⟩
  have hd':∃l,l∈F/\d=.tup [.int i,rwI l]:=by
   unfold VY at hd
   rw[z18,zj9,z18] at hd
   cases q:F[i]? with
   |none=>rw[q] at hd;cases hd
   |some l=>
    rw[q] at hd
    simp at hd
    exact⟨l,z37 q,hd.symm⟩
  obtain⟨l,hl,rfl⟩:=hd'
  have el:=r.wi l hl
  refine⟨[~~~(rD F),some (.own (.lst ((cel w i).map pl))),~~~(.int i),~~~(rwI l)],?_,?_⟩
  ·rcases hs with rfl|⟨_,rfl⟩<;>rcases ht with rfl|⟨_,rfl⟩<;>rfl
  ·have g1:JT [rwI l]=some (.int w):=by show some (D.int ((l.map D.int).length:Nat))=_;rw[z00,el]
   have b1:(-4611686018427387904:Int)<=w/\(w:Int)<4611686018427387904:=by lia
   simp? only[g1,b1,and_self,z82]
   refine Qc3 (g:=fun d=>.tup [.int i,d]) (di:=[]) (ρb:=[none,~~~(.int i)]) (os:=[]) rfl rfl ?_ (by rw[z36,z00,z55];lia) rfl rfl ?_
   ·intro d hd
    obtain⟨n,hn,rfl⟩:=z40.mp hd
    exact⟨[~~~(.int (0+(n:Nat))),~~~(.int i)],rfl,YE.mp (by simp? only[]),rfl⟩
   ·have hi:i<h:=by
     have:=(z26.mp hd).1
     unfold VY at this
     rw[z00,ze2,z00,r.hi] at this
     exact this
    have hc:(cel w i).length<=900:=by rw[Vf];exact z62 (zc6 (by lia) hw) (by decide:30 * 30<=900)
    have hz:(zg3 pl (cel w i)).length+(zg3 (fun d=>D.tup [D.int ↑i,d]) (zg3 (fun j=>D.int (0 + ↑j)) (z64 w))).length<=16777216:=by
     simp;lia
    simp? only[]
    rw[if_pos (by simpa using hz)]
    refine YR.mpr ⟨rfl,~~~(.int i),~~~(rwI l),?_,.inr ⟨_,rfl⟩,.inr ⟨_,rfl⟩⟩
    rw[cel,z68,z60,z60]
    have:∀(n:Nat),((fun d=>D.tup [D.int ↑i,d])∘fun(j:Nat)=>D.int (0 + ↑j)) n=(pl∘fun(b:Nat)=>((i:Int),(b:Int))) n:=fun n=>by
     show D.tup [D.int i,D.int (0+(n:Int))]=D.tup [D.int i,D.int n]
     rw[zn6]
    rw[show((fun d=>D.tup [D.int ↑i,d])∘fun(j:Nat)=>D.int (0 + ↑j))=(pl∘fun(b:Nat)=>((i:Int),(b:Int))) from funext this]
 ·rintro ρ ⟨s,t,rfl,hs,ht⟩
  have e:(VY (F.map rwI)).length=h:=by unfold VY;rw[z00,ze2,z00,r.hi]
  rw[e]
  simp? only[]
  refine⟨_,[],rfl,?_,rfl,rfl⟩
  rcases hs with rfl|⟨_,rfl⟩<;>rcases ht with rfl|⟨_,rfl⟩<;>rfl))
theorem places_eq (r:Rc h w F)(hh:h<=30)(hw:w<=30):JM z [flD z F]=.ok (.lst ((cel w h).map pl)) []:=JL (Jq (by
 unfold Vt
 simp? only[Qd7,V0 (Qg8 r hh hw)]
 exact⟨_,_,rfl,rfl,rfl,rfl⟩))
theorem QrF (r:Rc h w R)(hh:1<=h)(hw:1<=w)(hp:inR h w p):VL (R.map VL)<=atL R p:=by
 have hne:R.map VL≠[]:=fun e=>by have:=congrArg zd7 e;rw[z00,r.hi] at this;simp at this;lia
 have hl:p.1.toNat<R.length:=by rw[r.hi];have:=hp.1;have:=hp.2.1;lia
 have e:R.getD p.1.toNat []=R[p.1.toNat]:=by rw[z12,z04 hl];rfl
 have hm:R.getD p.1.toNat []∈R:=by rw[e];exact z91 hl
 have hr:=r.wi _ hm
 have hk:p.2.toNat<(R.getD p.1.toNat []).length:=by rw[hr];have:=hp.2.2.1;have:=hp.2.2.2;lia
 have QuZ:R.getD p.1.toNat []≠[]:=fun e=>by rw[e] at hr;simp at hr;lia
 have hm2:atL R p∈R.getD p.1.toNat []:=by unfold atL;rw[z12 (l:=R.getD p.1.toNat []),z04 hk];exact z91 hk
 exact z93 ((Qc6 hne).2 _ (z40.mpr ⟨_,hm,rfl⟩)) ((Qc6 QuZ).2 _ hm2)
def gvL (h w:Nat)(F R:List (List Int))(least:Int):List NP:=(((cel w h).filter (okN h w F)).filter fun p=>decide (atL R p > least)).map fun p=>(atL R p,p)
theorem QrG {q:Int×Int}:D.imm (pl q)=true:=rfl
theorem QkS (rf:Rc h w F)(r:Rc h w R)(h1:1<=h)(hh:h<=30)(w1:1<=w)(hw:w<=30)(h64:(gvL h w F R (VL (R.map VL))).length<=4000):QbG z [flD z F,rD R]=.ok (.lst ((QhR VQ (gvL h w F R (VL (R.map VL)))).map npD)) []:=JL (Jq (by
 unfold QeD
 have hz:h * w<=900:=z62 (zc6 hh hw) (by decide)
 have e3:siK (rD R,[~~~(flD z F),~~~(rD R),none,none])=.ok (R.map rwI,[~~~(flD z F),~~~(rD R),none,none]):=rfl
 simp? only[e3]
 refine Qc3 (g:=Qt9) (di:=[]) (ρb:=[none]) (os:=[]) rfl rfl ?_ (by rw[z36,z00,r.hi];lia) rfl rfl ?_
 ·intro d hd
  obtain⟨l,hl,rfl⟩:=z40.mp hd
  have hne:l≠[]:=fun e=>by have:=r.wi l hl;rw[e] at this;simp at this;lia
  have e5:QiB [rwI l]=some (.int (VL l)):=by
   show(QhQ (l.map D.int)).bind _=_
   rw[QaX]
   show(if l=[] then none else some (D.int (VL l)))=_
   rw[if_neg hne]
  refine⟨[~~~(rwI l)],rfl,YE.mp ?_,rfl⟩
  have e6:VL ((QhQ (l.map D.int)).getD [])=VL l:=by rw[QaX];rfl
  simp? only[e5]
  show(D.int (VL l),_)=(D.int (VL ((QhQ (l.map D.int)).getD [])),_)
  rw[e6]
 have e7:(R.map rwI).map (Qt9)=(R.map VL).map D.int:=by
  rw[z60,z60]
  refine z86 fun l _=>?_
  show D.int (VL ((QhQ (l.map D.int)).getD []))=D.int (VL l)
  rw[QaX];rfl
 rw[e7]
 have hne:R.map VL≠[]:=fun e=>by have:=congrArg zd7 e;rw[z00,r.hi] at this;simp at this;lia
 have e8:QiB [.nd .lst ((R.map VL).map D.int)]=some (.int (VL (R.map VL))):=by
  show(QhQ ((R.map VL).map D.int)).bind _=_
  rw[QaX]
  show(if R.map VL=[] then none else some (D.int (VL (R.map VL))))=_
  rw[if_neg hne]
 have i1:=Yk (z:=z) (F:=F) (nm := "places") (by decide)
 have i2:=Yk (z:=z) (F:=F) (nm := "is_wall") (by decide)
 generalize VL (R.map VL)=least at *
 simp? only[e8,i1,V0 (places_eq rf hh hw)]
 refine Qj7 (f:=fun d=>okN h w F (pD d)) (g:=fun d=>d) (di:=[]) (ρb:=[none,~~~(flD z F)]) (os:=[]) rfl rfl ?_ (by rw[z36,z00,Vf];lia) rfl rfl ?_
 ·intro d hd
  obtain⟨q,hq,rfl⟩:=z40.mp hd
  have c:=Yl.mp hq
  refine⟨[~~~(pl q),~~~(flD z F)],rfl,?_,fun _=>rfl,rfl⟩
  refine YE.mp ?_
  show W _ fun a=>a=(okN h w F q,_)
  simp? only[i2,Q5 (QeZ rf c),true_and]
  simp[okN,c]
 have e9:(((cel w h).map pl).filter (fun d=>okN h w F (pD d))).map (fun d=>d)=((cel w h).filter (okN h w F)).map pl:=by
  rw[ze1 (fun _=>rfl),zg5];rfl
 rw[e9]
 simp? only[]
 refine Qj7 (f:=fun d=>decide (atL R (pD d) > least)) (g:=fun d=>npD (atL R (pD d),(pD d))) (di:=[]) (ρb:=[none,~~~(rD R),~~~(.int least)]) (os:=[]) rfl rfl ?_ (by rw[z36,z00];have:=za9 (okN h w F) (cel w h);rw[Vf] at this;lia) rfl rfl ?_
 ·intro d hd
  obtain⟨q,hq,rfl⟩:=z40.mp hd
  have c:=Yl.mp (z63.mp hq).1
  refine⟨[~~~(pl q),~~~(rD R),~~~(.int least)],rfl,YE.mp ?_,fun _=>YE.mp ?_,rfl⟩
  ·simp? only[Q5 (Qdw r c),true_and]
   rfl
  ·simp? only[Q5 (Qdw r c),true_and,QrG]
   rfl
 have eA:((((cel w h).filter (okN h w F)).map pl).filter (fun d=>decide (atL R (pD d) > least))).map (fun d=>npD (atL R (pD d),(pD d)))=((((cel w h).filter (okN h w F)).filter fun p=>decide (atL R p > least)).map fun p=>(atL R p,p)).map npD:=by
  rw[zg5,z60,z60];rfl
 rw[eA]
 have nd:((((cel w h).filter (okN h w F)).filter fun p=>decide (atL R p > least)).map fun p=>(atL R p,p)).Nodup:=QbL (fun a b e=>(zj6 e).2) ((Qdy.filter _).filter _)
 have ln:((((cel w h).filter (okN h w F)).filter fun p=>decide (atL R p > least)).map fun p=>(atL R p,p)).length<=4000:=h64
 simp? only[Qoo nd ln]
 exact⟨_,_,rfl,rfl,rfl,rfl⟩))
end
variable {z:Z}
section
variable {h w:Nat}{F R:List (List Int)}{p:Int×Int}{wt:List NP}{e:NP}
abbrev Pw (wt:List NP):Prop:=wt.Pairwise (fun a b=>VQ a b=true)
def isIn (wt:List NP)(e:NP)(d:D)(os:List D):Prop:=d=.non/\∃wt',os=[.lst (wt'.map npD)]/\wt'.Perm (e::wt)/\Pw wt'
theorem QkT (pw:Pw wt)(ne:e∉wt)(hl:wt.length<6000):FW (Q3 z [.lst (wt.map npD),npD e]) (isIn wt e):=Qey (by
 unfold Ys
 simp? only[]
 refine Qkx (fun n ρ=>∃(lo hi:Nat) (s:Option Sl),ρ=[some (.par (.lst (wt.map npD))),~~~(npD e),~~~(.int lo),~~~(.int hi),s]/\(s=none\/∃d,s = ~~~d)/\lo<=hi/\hi<=wt.length/\n=hi - lo/\
  (∀j (hj:j<wt.length),j<lo->VQ wt[j] e=true)/\(∀j (hj:j<wt.length),hi<=j->VQ e wt[j]=true)) (n:=wt.length) ?_ ?_ (by lia)
 ·rintro n ρ ⟨lo,hi,s,rfl,hs,h1,h2,rfl,h3,h4⟩
  refine⟨(decide ((lo:Int)<hi),[some (.par (.lst (wt.map npD))),~~~(npD e),~~~(.int lo),~~~(.int hi),s]),YE.mp (by simp? only[]),?_⟩
  by_cases c:(lo:Int)<(hi:Int)
  ·refine⟨fun _=>?_,fun q=>absurd c (of_decide_eq_false q)⟩
   dsimp only
   have c2:QdA ((lo:Int)+hi) 2:=⟨by decide,by decide⟩
   have em:((lo:Int)+hi) / 2=((lo+hi) / 2:Nat):=by lia
   have hm:(lo+hi) / 2<wt.length:=by lia
   have eg:atI (wt.map npD) (((lo+hi) / 2:Nat):Int)=some (npD wt[(lo+hi) / 2]):=by
    rw[Qb0 npD (0,(0,0)) (by lia) (by lia)]
    congr 2
    rw[z82,z12,z04 (by lia)]
    rfl
   have el:Qtq (npD wt[(lo+hi) / 2]) (npD e)=some (.bl (VQ wt[(lo+hi) / 2] e)):=rfl
   refine JC (fun ρ=>ρ=[some (.par (.lst (wt.map npD))),~~~(npD e),~~~(.int lo),~~~(.int hi),~~~(.int (((lo+hi) / 2:Nat)))]) ?_ ?_
   ·rcases hs with rfl|⟨_,rfl⟩<;>simp? only[c2,em]<;>exact⟨trivial,trivial⟩
   ·rintro ρ rfl
    refine Qn.mpr ⟨(VQ wt[(lo+hi) / 2] e,[some (.par (.lst (wt.map npD))),~~~(npD e),~~~(.int lo),~~~(.int hi),~~~(.int (((lo+hi) / 2:Nat)))]),YE.mp (by simp only[atI,ixN] at eg;simp? only[eg,el]),?_⟩
    dsimp only
    cases q:VQ wt[(lo+hi) / 2] e with
    |true=>
     simp? only[]
     refine⟨trivial,hi - ((lo+hi) / 2+1),?_,(lo+hi) / 2+1,hi,~~~(.int (((lo+hi) / 2:Nat))),?_,.inr ⟨_,rfl⟩,by lia,h2,rfl,fun j hj hl=>?_,h4⟩
     ·lia
     ·rfl
     ·by_cases e1:j=(lo+hi) / 2
      ·subst e1;exact q
      ·exact Qbv.tr _ _ _ (zb1.mp pw j ((lo+hi) / 2) hj hm (by lia)) q
    |false=>
     simp? only[]
     have q2:VQ e wt[(lo+hi) / 2]=true:=Qbv.tot _ _ (fun z=>ne (z▸z91 hm)) q
     refine⟨trivial,_,?_,lo,(lo+hi) / 2,_,rfl,.inr ⟨_,rfl⟩,by lia,by lia,rfl,h3,fun j hj hl=>?_⟩
     ·lia
     ·by_cases e1:j=(lo+hi) / 2
      ·subst e1;exact q2
      ·exact Qbv.tr _ _ _ q2 (zb1.mp pw ((lo+hi) / 2) j hm hj (by lia))
  ·refine⟨fun q=>absurd (of_decide_eq_true q) c,fun _=>?_⟩
   have ee:hi=lo:=by lia
   subst ee
   show W (Qrk 0 _ _) _
   refine Qtw (par:=true) (xs:=wt.map npD) (n:=(hi:Nat)) (d:=npD e) rfl (YE.mp (by simp? only[])) (by lia) (by rw[z00];lia) (by rw[z00,z36];lia) ?_ ?_
   ·rw[Qc8];rfl
   ·refine⟨[.lst ((wt.take hi++e::wt.drop hi).map npD)],rfl,?_,rfl,wt.take hi++e::wt.drop hi,rfl,?_,?_⟩
    ·rw[z68,z31,zl5,List.map_drop,z82]
     rcases hs with rfl|⟨_,rfl⟩<;>rfl
    ·refine List.perm_middle.trans (List.Perm.cons _ ?_)
     rw[z47]
    ·refine z35.mpr ⟨pw.sublist (zh8 _ _),z77.mpr ⟨fun x hx=>?_,pw.sublist (zm2 _ _)⟩,fun a ha b hb=>?_⟩
     ·obtain⟨j,hj,rfl⟩:=za6 hx
      rw[zm1]
      rw[z85] at hj
      exact h4 _ (by lia) (by lia)
     ·obtain⟨j,hj,rfl⟩:=za6 ha
      rw[z49] at hj
      rw[zv5]
      have aj:=h3 j (by lia) (by lia)
      rcases z13.mp hb with rfl|hb
      ·exact aj
      ·obtain⟨i,hi',rfl⟩:=za6 hb
       rw[z85] at hi'
       rw[zm1]
       exact Qbv.tr _ _ _ aj (h4 _ (by lia) (by lia))
 ·exact⟨0,wt.length,none,by simp,.inl rfl,by lia,z27 _,by lia,fun j hj h=>absurd h (by lia),fun j hj h=>absurd h (by lia)⟩)
def lft (R:List (List Int))(x:PN):List (List Int):=Qce R x.1 (if atL R x.1 > x.2 then atL R x.1 else x.2)
theorem Qoz {s:Int}(rf:Rc h w F)(r:Rc h w R)(h1:1<=h)(hp:okN h w F p=true):Qdc z [flD z F,rD R,pnD (p,s)]=.ok .non [rD (lft R (p,s))]:=JL (Qey (by
 unfold QhV
 obtain⟨ip,nw⟩:=Vl hp
 have i2:=Yk (z:=z) (F:=F) (nm := "is_wall") (by decide)
 refine Ws [~~~(flD z F),some (.par (rD R)),~~~(pnD (p,s)),~~~(pl p)] ?_ ?_
 ·simp? only[pnD]
  exact⟨trivial,trivial⟩
 refine Qn.mpr ⟨(true,[~~~(flD z F),some (.par (rD R)),~~~(pnD (p,s)),~~~(pl p)]),YE.mp ?_,?_⟩
 ·simp? only[i2,Q5 (QeZ rf ip),true_and,nw]
 dsimp only
 rw[if_pos rfl]
 refine Qcz (par:=true) (ys:=R.map rwI) (xs:=(R.getD p.1.toNat []).map D.int) (d:=.int (if atL R p > s then atL R p else s)) (n:=p.1) (j:=p.2) (p:=p.1.toNat) (q:=p.2.toNat) rfl (YE.mp ?_) (YE.mp ?_) (YE.mp ?_) ?_ ?_ ?_ ?_
 ·simp? only[pnD,Q5 (Qdw r ip),true_and]
 ·simp? only[pl]
 ·simp? only[pl]
 ·exact Qay ip.1 (by rw[z00,r.hi];exact ip.2.1)
 ·have hl:p.1.toNat<R.length:=by rw[r.hi];have:=ip.1;have:=ip.2.1;lia
  rw[z18,z12,z04 hl];rfl
 ·exact Qay ip.2.2.1 (by rw[z00,r.row ip.1 ip.2.1];exact ip.2.2.2)
 ·refine⟨_,rfl,rfl,rfl,?_⟩
  rw[QmM r ip];rfl))
theorem QkU {s:Int}(rf:Rc h w F)(ip:inR h w p)(hp:okN h w F p=false):Qdc z [flD z F,rD R,pnD (p,s)]=.ok .non [rD R]:=JL (Qey (by
 unfold QhV
 have nw:atL F p=0:=by
  unfold okN at hp
  rw[decide_eq_true ip,Bool.true_and] at hp
  simpa using hp
 have i2:=Yk (z:=z) (F:=F) (nm := "is_wall") (by decide)
 refine Ws [~~~(flD z F),some (.par (rD R)),~~~(pnD (p,s)),~~~(pl p)] ?_ ?_
 ·simp? only[pnD]
  exact⟨trivial,trivial⟩
 refine Qn.mpr ⟨(false,[~~~(flD z F),some (.par (rD R)),~~~(pnD (p,s)),~~~(pl p)]),YE.mp ?_,?_⟩
 ·simp? only[i2,Q5 (QeZ rf ip),true_and,nw]
 dsimp only
 rw[if_neg z32]
 exact YR.mpr ⟨_,rfl,rfl,rfl,rfl⟩))
def Qua (h w:Nat)(F:List (List Int))(e:NP)(R:List (List Int))(wt:List NP)(d:D)(os:List D):Prop:=d=.non/\∃R' wt',os=[rD R',.lst (wt'.map npD)]/\Gv h w F e R wt (nbL h w F e.2) R' wt'
def frO (s:Option Sl):Prop:=s=none\/∃d,s = ~~~d
theorem QoA (rf:Rc h w F)(r:Rc h w R)(h1:1<=h)(pw:Pw wt)(i1:∀x∈wt,okN h w F x.2=true/\x.1<=atL R x.2)(hl:wt.length<=5500)(ie:inR h w e.2):FW (Qf2 z [flD z F,rD R,.lst (wt.map npD),npD e]) (Qua h w F e R wt):=Qey (by
 unfold Qkz
 have i2:=Yk (z:=z) (F:=F) (nm := "beside") (by decide)
 have i3:=Yk (z:=z) (F:=F) (nm := "loss") (by decide)
 simp? only[npD,i2,V0 (QkP rf h1 ie)]
 refine Vi (fun i ρ=>∃R' wt' s t,ρ=[~~~(flD z F),some (.par (rD R')),some (.par (.lst (wt'.map npD))),~~~(npD e),s,t]/\frO s/\frO t/\Gv h w F e R wt ((nbL h w F e.2).take i) R' wt') ⟨R,wt,none,none,rfl,.inl rfl,.inl rfl,by rw[zh3];exact Gv.start r pw i1⟩ ?_ ?_
 ·rintro i d ρ hd ⟨R',wt',s,t,rfl,hs,ht,g⟩
  rw[z18] at hd
  obtain⟨v,hv,rfl⟩:=z03.mp hd
  have okv:=Qf0 (z37 hv)
  have iv:=(Vl okv).1
  have et:(nbL h w F e.2).take (i+1)=(nbL h w F e.2).take i++[v]:=by rw[zf2,hv];rfl
  rw[et]
  refine⟨[~~~(flD z F),some (.par (rD R')),some (.par (.lst (wt'.map npD))),~~~(npD e),~~~(pl v),t],?_,?_⟩
  ·rcases hs with rfl|⟨_,rfl⟩<;>rfl
  refine Ws [~~~(flD z F),some (.par (rD R')),some (.par (.lst (wt'.map npD))),~~~(npD e),~~~(pl v),~~~(.int (e.1 - atL F v))] ?_ ?_
  ·rcases ht with rfl|⟨_,rfl⟩<;>simp? only[npD,i3,Q5 (Qox rf h1 iv),true_and]
  refine Qn.mpr ⟨(decide (e.1 - atL F v > atL R' v),[~~~(flD z F),some (.par (rD R')),some (.par (.lst (wt'.map npD))),~~~(npD e),~~~(pl v),~~~(.int (e.1 - atL F v))]),YE.mp ?_,?_⟩
  ·simp? only[Q5 (Qdw g.rc iv),true_and]
  dsimp only
  by_cases c:e.1 - atL F v > atL R' v
  ·rw[decide_eq_true c,if_pos rfl]
   refine Ws [~~~(flD z F),some (.par (rD (Qce R' v (e.1 - atL F v)))),some (.par (.lst (wt'.map npD))),~~~(npD e),~~~(pl v),~~~(.int (e.1 - atL F v))] ?_ ?_
   ·refine Qcz (par:=true) (ys:=R'.map rwI) (xs:=(R'.getD v.1.toNat []).map D.int) (d:=.int (e.1 - atL F v)) (n:=v.1) (j:=v.2) (p:=v.1.toNat) (q:=v.2.toNat) rfl (YE.mp ?_) (YE.mp ?_) (YE.mp ?_) ?_ ?_ ?_ ?_
    ·simp? only[]
    ·simp? only[pl]
    ·simp? only[pl]
    ·exact Qay iv.1 (by rw[z00,g.rc.hi];exact iv.2.1)
    ·have hl:v.1.toNat<R'.length:=by rw[g.rc.hi];have:=iv.1;have:=iv.2.1;lia
     rw[z18,z12,z04 hl];rfl
    ·exact Qay iv.2.2.1 (by rw[z00,g.rc.row iv.1 iv.2.1];exact iv.2.2.2)
    ·refine⟨rfl,?_⟩
     show[_,some (Sl.par (D.lst _)),_,_,_,_]=_
     rw[QmM g.rc iv];rfl
   have hn:(e.1 - atL F v,v)∉wt':=fun hm=>by have:=(g.i1 _ hm).2;dsimp only at this;lia
   have hln:wt'.length<6000:=by
    have:=g.ln
    have:=Qky (h:=h) (w:=w) (F:=F) e.2
    rw[z49] at *
    lia
   have hin:=QkT (z:=z) g.pw hn hln
   have en:npD (e.1 - atL F v,v)=.tup [.int (e.1 - atL F v),pl v]:=rfl
   rw[en] at hin
   simp? only[]
   refine Vs (par:=true) (i:=2) (p:=.lst (wt'.map npD)) (x:=.tup [.int (e.1 - atL F v),pl v]) (f:=Q3 z) rfl hin ?_
   rintro d os ⟨e1,wt2,e2,pm,pw2⟩
   refine⟨.lst (wt2.map npD),e2,?_⟩
   exact⟨trivial,Qce R' v (e.1 - atL F v),wt2,~~~(pl v),~~~(.int (e.1 - atL F v)),rfl,.inr ⟨_,rfl⟩,.inr ⟨_,rfl⟩,g.put okv c pm pw2⟩
  ·rw[decide_eq_false c,if_neg (by decide)]
   exact YR.mpr ⟨rfl,R',wt',_,_,rfl,.inr ⟨_,rfl⟩,.inr ⟨_,rfl⟩,g.skip c⟩
 ·rintro ρ ⟨R',wt',s,t,rfl,hs,ht,g⟩
  rw[z00,zg0] at g
  refine⟨[rD R',.lst (wt'.map npD)],rfl,?_,rfl,R',wt',rfl,g⟩
  rcases hs with rfl|⟨_,rfl⟩<;>rcases ht with rfl|⟨_,rfl⟩<;>rfl)
end
variable {z:Z}
section
variable {h w:Nat}{F R N:List (List Int)}{p:Int×Int}{wt:List NP}{e:NP}{ls:List PN}
theorem QhZ (r:Rc h w R){x:PN}(hp:inR h w x.1):Rc h w (lft R x):=r.set hp
theorem QkV (r:Rc h w R){x:PN}(hp:inR h w x.1){q:Int×Int}(hq:inR h w q):atL (lft R x) q=if q=x.1 then(if atL R x.1 > x.2 then atL R x.1 else x.2) else atL R q:=Qg1 r hp hq
theorem Qg9:∀{ls:List PN} {R:List (List Int)},Rc h w R->(∀x∈ls,inR h w x.1)->Rc h w (ls.foldl lft R)
 | [],_,r,_=>r
 |x::ls,R,r,hl=>Qg9 (ls:=ls) (R:=lft R x) (QhZ r (hl x z07)) fun y hy=>hl y (z08 _ hy)
theorem Qha:∀{ls:List PN} {R:List (List Int)},Rc h w R->(∀x∈ls,inR h w x.1)->∀q,inR h w q->atL R q<=atL (ls.foldl lft R) q
 | [],_,_,_,_,_=>zd9 _
 |x::ls,R,r,hl,q,hq=>by
  refine z93 ?_ (Qha (QhZ r (hl x z07)) (fun y hy=>hl y (z08 _ hy)) q hq)
  rw[QkV r (hl x z07) hq]
  split
  ·rename_i e;subst e;split<;>lia
  ·exact zd9 _
theorem Qdz:∀{ls:List PN} {R:List (List Int)},Rc h w R->(∀x∈ls,inR h w x.1)->∀x∈ls,x.2<=atL (ls.foldl lft R) x.1
 |y::ls,R,r,hl,x,hx=>by
  have r1:=QhZ r (hl y z07)
  have hl1:∀y∈ls,inR h w y.1:=fun y hy=>hl y (z08 _ hy)
  rcases z13.mp hx with rfl|hx
  ·refine z93 ?_ (Qha r1 hl1 x.1 (hl x z07))
   rw[QkV r (hl x z07) (hl x z07),if_pos rfl]
   split<;>lia
  ·exact Qdz r1 hl1 x hx
structure QoT (h w:Nat)(F N:List (List Int))(ls:List PN)(R:List (List Int)):Prop where
 rc:Rc h w R
 up:∀q,inR h w q->atL (ls.foldl lft N) q<=atL R q
 cl:∀u,okN h w F u=true->∀v∈nbL h w F u,atL R u - atL F v<=atL R v
 so:∀q,inR h w q->atL R q=atL (ls.foldl lft N) q\/∃u,okN h w F u=true/\q∈nbL h w F u/\atL R q=atL R u - atL F q
theorem QrH {least:Int}{x:NP}(hx:x∈gvL h w F R least):okN h w F x.2=true/\x.1=atL R x.2:=by
 obtain⟨q,hq,rfl⟩:=z40.mp hx
 exact⟨(z63.mp (z63.mp hq).1).2,rfl⟩
theorem QtG {least:Int}{u:Int×Int}(hu:okN h w F u=true)(hl:least<atL R u):(atL R u,u)∈gvL h w F R least:=
 z40.mpr ⟨u,z63.mpr ⟨z63.mpr ⟨Yl.mpr (Vl hu).1,hu⟩,decide_eq_true hl⟩,rfl⟩
theorem QmP {least:Int}:(gvL h w F R least).length<=h * w:=by
 unfold gvL
 rw[z00]
 have a:=za9 (fun p=>decide (atL R p > least)) ((cel w h).filter (okN h w F))
 have b:=za9 (okN h w F) (cel w h)
 rw[Vf] at b
 lia
theorem Ql8 {least:Int}:(gvL h w F R least).Nodup:=QbL (fun a b e=>(zj6 e).2) ((Qdy.filter _).filter _)
theorem Ql9 (r:Rc h w R)(least:Int):Jv h w F R least (fun _=>false) R (QhR VQ (gvL h w F R least)) where
 rc:=r
 pw:=QgY Qbv Ql8
 i1:=fun x hx=>by obtain⟨a,b⟩:=QrH ((VM _).mem_iff.mp hx);exact⟨a,by lia⟩
 up:=fun _ _=>zd9 _
 i2:=fun u hu hl=>.inl ((VM _).mem_iff.mpr (QtG hu hl))
 d1:=fun u hu=>nomatch hu
 so:=fun _ _=>.inl rfl
def onF (h w:Nat)(F:List (List Int))(ls:List PN):List PN:=ls.filter fun x=>okN h w F x.1
theorem QkW (rf:Rc h w F)(nf:Nn h w F)(rn:Rc h w N)(h1:1<=h)(hh:h<=30)(w1:1<=w)(hw:w<=30)(hl':∀x∈ls,inR h w x.1):FW (QbH z [flD z F,rD N,.lst (ls.map pnD)]) (fun d os=>os=[]/\∃R,d=rD R/\QoT h w F N (onF h w F ls) R):=Jq (by
 unfold QeE
 have hz:h * w<=900:=z62 (zc6 hh hw) (by decide)
 refine Ws [~~~(flD z F),~~~(rD N),~~~(.lst (ls.map pnD)),some (.own (rD N)),none,none,none] ?_ ?_
 ·have e3:siK (rD N,[~~~(flD z F),~~~(rD N),~~~(.lst (ls.map pnD)),none,none,none,none])=.ok (N.map rwI,[~~~(flD z F),~~~(rD N),~~~(.lst (ls.map pnD)),none,none,none,none]):=rfl
  simp? only[e3]
  refine Qc3 (g:=fun d=>d) (di:=[]) (ρb:=[none]) (os:=[]) rfl rfl ?_ (by rw[z36,z00,rn.hi];lia) rfl rfl ?_
  ·intro d hd
   obtain⟨l,hl,rfl⟩:=z40.mp hd
   have e6:liK ([rwI l],[~~~(rwI l)])=.ok (rwI l,[~~~(rwI l)]):=by
    show(if D.Jo (l.map D.int)=true then _ else _)=_
    rw[if_pos (Vk l)];rfl
   refine⟨[~~~(rwI l)],rfl,YE.mp ?_,rfl⟩
   simp? only[e6]
  ·simp? only[]
   refine⟨trivial,?_⟩
   rw[ze1 (fun _=>rfl)];rfl
 refine JC (fun ρ=>∃s,frO s/\ρ=[~~~(flD z F),~~~(rD N),~~~(.lst (ls.map pnD)),some (.own (rD ((onF h w F ls).foldl lft N))),s,none,none]) ?_ ?_
 ·simp? only[]
  refine Vi (fun i ρ=>∃s,frO s/\ρ=[~~~(flD z F),~~~(rD N),~~~(.lst (ls.map pnD)),some (.own (rD ((onF h w F (ls.take i)).foldl lft N))),s,none,none]) ⟨none,.inl rfl,by rw[zh3];rfl⟩ ?_ ?_
  ·rintro i d ρ hd ⟨s,hs,rfl⟩
   rw[z18] at hd
   obtain⟨x,hx,rfl⟩:=z03.mp hd
   have hm:=z37 hx
   have ri:Rc h w ((onF h w F (ls.take i)).foldl lft N):=Qg9 rn fun y hy=>hl' y (z90 (z63.mp hy).1)
   refine⟨[~~~(flD z F),~~~(rD N),~~~(.lst (ls.map pnD)),some (.own (rD ((onF h w F (ls.take i)).foldl lft N))),~~~(pnD x),none,none],?_,?_⟩
   ·rcases hs with rfl|⟨_,rfl⟩<;>rfl
   simp? only[]
   have et:ls.take (i+1)=ls.take i++[x]:=by rw[zf2,hx];rfl
   have el:Qdc z [flD z F,rD ((onF h w F (ls.take i)).foldl lft N),pnD (x.1,x.2)]=.ok .non [rD ((onF h w F (ls.take (i+1))).foldl lft N)]:=by
    rw[et]
    unfold onF
    rw[zu2]
    cases c:okN h w F x.1 with
    |true=>
     rw[List.filter_cons_of_pos (by exact c),List.foldl_append]
     exact Qoz rf ri h1 c
    |false=>
     rw[List.filter_cons_of_neg (by rw[c];exact z32),List.filter_nil,z53]
     exact QkU rf (hl' x hm) c
   refine Qra (dis:=[rD ((onF h w F (ls.take i)).foldl lft N)]) (P:=fun d os=>d=.non/\os=[rD ((onF h w F (ls.take (i+1))).foldl lft N)]) rfl ⟨_,_,el,rfl,rfl⟩ ?_
   rintro d os ⟨_,rfl⟩
   exact⟨trivial,~~~(pnD x),.inr ⟨_,rfl⟩,rfl⟩
  ·rintro ρ ⟨s,hs,rfl⟩
   rw[z00,zg0]
   exact⟨rfl,s,hs,rfl⟩
 rintro ρ ⟨s,hs,rfl⟩
 have r0:Rc h w ((onF h w F ls).foldl lft N):=Qg9 rn fun y hy=>hl' y (z63.mp hy).1
 generalize e0:(onF h w F ls).foldl lft N=R0 at r0
 refine Ws [~~~(flD z F),~~~(rD N),~~~(.lst (ls.map pnD)),some (.own (rD R0)),s,some (.own (.lst ((QhR VQ (gvL h w F R0 (VL (R0.map VL)))).map npD))),none] ?_ ?_
 ·simp? only[V0 (QkS rf r0 h1 hh w1 hw (z62 QmP (by lia)))]
  exact⟨trivial,trivial⟩
 have hlow:∀q,inR h w q->VL (R0.map VL)<=atL R0 q:=fun q hq=>QrF r0 h1 w1 hq
 generalize VL (R0.map VL)=least at hlow
 refine JC (fun ρ=>∃R t dn,frO t/\Jv h w F R0 least dn R []/\ρ=[~~~(flD z F),~~~(rD N),~~~(.lst (ls.map pnD)),some (.own (rD R)),s,some (.own (.lst [])),t]) ?_ ?_
 ·refine Qkx (fun n ρ=>∃R wt t dn,frO t/\Jv h w F R0 least dn R wt/\wt.length+5 * Qda (cel w h) dn<=n/\n<=5500/\ρ=[~~~(flD z F),~~~(rD N),~~~(.lst (ls.map pnD)),some (.own (rD R)),s,some (.own (.lst (wt.map npD))),t]) (n:=5450) ?_ ?_ (by decide)
  ·rintro n ρ ⟨R,wt,t,dn,ht,j,hn,hn4,rfl⟩
   refine⟨(decide ((wt.length:Int) > 0),[~~~(flD z F),~~~(rD N),~~~(.lst (ls.map pnD)),some (.own (rD R)),s,some (.own (.lst (wt.map npD))),t]),YE.mp (by simp? only[z00]),?_⟩
   dsimp only
   rcases List.eq_nil_or_concat wt with rfl|⟨wt0,e,rfl⟩
   ·exact⟨fun q=>absurd q (by simp),fun _=>⟨rfl,R,t,dn,ht,j,rfl⟩⟩
   refine⟨fun _=>?_,fun q=>absurd q (by simp)⟩
   rw[List.concat_eq_append] at j hn ⊢
   refine Ws [~~~(flD z F),~~~(rD N),~~~(.lst (ls.map pnD)),some (.own (rD R)),s,some (.own (.lst (wt0.map npD))),~~~(npD e)] ?_ ?_
   ·refine Qn.mpr ?_
    refine Qtv (par:=false) (xs:=wt0.map npD) (d:=npD e) (by rw[z68];rfl) (by have:=Qc8 (wt0++[e]);rw[z68] at this;exact this) ?_
    rcases ht with rfl|⟨_,rfl⟩<;>exact YR.mpr ⟨rfl,rfl⟩
   have oke:=(j.i1 e (z02 _ z07)).1
   have ie:=(Vl oke).1
   refine Qn.mpr ⟨(decide (atL R e.2=e.1),[~~~(flD z F),~~~(rD N),~~~(.lst (ls.map pnD)),some (.own (rD R)),s,some (.own (.lst (wt0.map npD))),~~~(npD e)]),YE.mp ?_,?_⟩
   ·simp? only[npD,Q5 (Qdw j.rc ie),true_and]
   dsimp only
   rw[z16] at hn
   simp only[z24,zo6] at hn
   by_cases c:atL R e.2=e.1
   ·rw[decide_eq_true c,if_pos rfl]
    have pw0:=(z35.mp j.pw).1
    have hg:=QoA (z:=z) (e:=e) rf j.rc h1 pw0 (fun x hx=>j.i1 x (z06 _ hx)) (by lia) ie
    simp? only[]
    refine Qra (dis:=[rD R,.lst (wt0.map npD)]) (P:=Qua h w F e R wt0) rfl hg ?_
    rintro d os ⟨_,R',wt',rfl,g⟩
    obtain⟨j',nd,_⟩:=j.give nf c g
    refine⟨trivial,wt'.length+5 * Qda (cel w h) (fun p=>dn p || decide (p=e.2)),?_,R',wt',~~~(npD e),_,.inr ⟨_,rfl⟩,j',z27 _,?_,rfl⟩
    ·have a:=QeB (Yl.mpr ie) nd
     have b:=g.ln
     have c:=Qky (h:=h) (w:=w) (F:=F) e.2
     lia
    ·have a:=QeB (Yl.mpr ie) nd
     have b:=g.ln
     have c:=Qky (h:=h) (w:=w) (F:=F) e.2
     lia
   ·rw[decide_eq_false c,if_neg (by decide)]
    exact YR.mpr ⟨rfl,wt0.length+5 * Qda (cel w h) dn,by lia,R,wt0,~~~(npD e),dn,.inr ⟨_,rfl⟩,j.stale c,z27 _,by lia,rfl⟩
  ·refine⟨R0,QhR VQ (gvL h w F R0 least),none,fun _=>false,.inl rfl,Ql9 r0 least,?_,by decide,rfl⟩
   have a:=QmP (h:=h) (w:=w) (F:=F) (R:=R0) (least:=least)
   have b:=Ql1 (cel w h) (fun _=>false)
   rw[Vf] at b
   rw[(VM (lt:=VQ) (gvL h w F R0 least)).length_eq]
   lia
 rintro ρ ⟨R,t,dn,ht,j,rfl⟩
 simp? only[]
 refine⟨_,[],rfl,?_,rfl,R,rfl,?_⟩
 ·rcases hs with rfl|⟨_,rfl⟩<;>rcases ht with rfl|⟨_,rfl⟩<;>rfl
 ·subst e0
  refine⟨j.rc,j.up,j.fin nf hlow,fun q hq=>(j.so q hq).imp id fun⟨u,hu,hn,hv⟩=>⟨u,(j.d1 u hu).1,hn,hv⟩⟩)
end
variable {z:Z}
section
variable {h w:Nat}{F R N:List (List Int)}{p:Int×Int}{ls:List PN}
theorem QiI {l:List Int}(hl:l.length<=30):Jz z [rwI l]=.ok .non []:=JL (Qey (by
 unfold Y7
 refine Qn.mpr ⟨(false,[~~~(rwI l)]),YE.mp ?_,YR.mpr ⟨_,rfl,rfl,rfl,rfl⟩⟩
 have e3:siK (rwI l,[~~~(rwI l)])=.ok (l.map D.int,[~~~(rwI l)]):=rfl
 simp? only[e3]
 refine Qc3 (g:=fun _=>.bl true) (di:=[]) (ρb:=[none]) (os:=[]) rfl rfl ?_ (by rw[z36,z00];lia) rfl rfl ?_
 ·intro d hd
  obtain⟨i,hi,rfl⟩:=z40.mp hd
  exact⟨[~~~(.int i)],rfl,YE.mp (by simp? only[Q5 QhX,true_and]),rfl⟩
 ·have e4:Qp9 [.lst (zg3 (fun _=>D.bl true) (l.map D.int))]=some (.bl true):=by
   have e5:zg3 (fun _=>D.bl true) (l.map D.int)=(l.map fun _=>true).map D.bl:=by rw[z60,z60];rfl
   rw[e5,Qn1]
   congr 2
   rw[zh2]
   exact z74.mpr fun _ _=>rfl
  simp? only[e4]))
theorem Qma (rf:Rc h w F)(rn:Rc h w N)(h1:1<=h)(hw:w<=30):YN z [flD z F,rD N]=.ok .non []:=JL (Qey (by
 unfold QaG
 have i1:=Yk (z:=z) (F:=F) (nm := "high") (by decide)
 have i2:=Yk (z:=z) (F:=F) (nm := "wide") (by decide)
 have g1:JT [rD N]=some (.int h):=by unfold rD;simp[JT,rn.hi]
 refine Ws [~~~(flD z F),~~~(rD N),none] ?_ ?_
 ·refine Qn.mpr ⟨(false,[~~~(flD z F),~~~(rD N),none]),YE.mp ?_,YR.mpr ⟨rfl,rfl⟩⟩
  simp? only[i1,g1,Q5 (show Jd z [rD N]=.ok (.bl true) [] from rfl),Q5 (QkL rf),true_and,ne_eq,not_true_eq_false]
 have e3:siK (rD N,[~~~(flD z F),~~~(rD N),none])=.ok (N.map rwI,[~~~(flD z F),~~~(rD N),none]):=rfl
 simp? only[e3]
 refine Vi (fun i ρ=>∃s,frO s/\ρ=[~~~(flD z F),~~~(rD N),s]) ⟨none,.inl rfl,rfl⟩ ?_ ?_
 ·rintro i d ρ hd ⟨s,hs,rfl⟩
  rw[z18] at hd
  obtain⟨l,hl,rfl⟩:=z03.mp hd
  have el:=rn.wi l (z37 hl)
  have g2:JT [rwI l]=some (.int w):=by show some (D.int ((l.map D.int).length:Nat))=_;rw[z00,el]
  refine⟨[~~~(flD z F),~~~(rD N),~~~(rwI l)],?_,?_⟩
  ·rcases hs with rfl|⟨_,rfl⟩<;>rfl
  refine Ws [~~~(flD z F),~~~(rD N),~~~(rwI l)] ?_ ?_
  ·refine Qn.mpr ⟨(false,[~~~(flD z F),~~~(rD N),~~~(rwI l)]),YE.mp ?_,YR.mpr ⟨rfl,rfl⟩⟩
   simp? only[i2,g2,Q5 (show Jd z [rwI l]=.ok (.bl true) [] from rfl),Q5 (Qg7 rf h1),true_and,ne_eq,not_true_eq_false]
  simp? only[Q5 (QiI (z:=z) (l:=l) (by lia))]
  exact⟨trivial,trivial,_,.inr ⟨_,rfl⟩,rfl⟩
 ·rintro ρ ⟨s,hs,rfl⟩
  refine⟨[],rfl,?_,trivial,rfl⟩
  rcases hs with rfl|⟨_,rfl⟩<;>rfl))
theorem QkX {s:Int}(rf:Rc h w F)(h1:1<=h)(hp:inR h w p):Yi z [flD z F,pnD (p,s)]=.ok .non []:=JL (Qey (by
 unfold V9
 have i1:=Yk (z:=z) (F:=F) (nm := "check_place") (by decide)
 simp? only[pnD,Q5 (QkM (a:=pl p) (b:=.int s)),i1,Q5 (QcC rf h1 hp),true_and]
 exact⟨_,rfl,rfl⟩))
def unL (h w:Nat)(N R:List (List Int)):List (Int×Int):=(cel w h).filter fun p=>decide (atL N p≠atL R p)
theorem QkY (rn:Rc h w N)(r:Rc h w R)(hh:h<=30)(hw:w<=30):QbF z [rD N,rD R]=.ok (.lst ((unL h w N R).map pl)) []:=JL (Jq (by
 unfold QeC
 have hz:h * w<=900:=z62 (zc6 hh hw) (by decide)
 simp? only[V0 (Qgl rn hh hw)]
 refine Qj7 (f:=fun d=>decide (atL N (pD d)≠atL R (pD d))) (g:=fun d=>d) (di:=[]) (ρb:=[none,~~~(rD N),~~~(rD R)]) (os:=[]) rfl rfl ?_ (by rw[z36,z00,Vf];lia) rfl rfl ?_
 ·intro d hd
  obtain⟨q,hq,rfl⟩:=z40.mp hd
  have c:=Yl.mp hq
  refine⟨[~~~(pl q),~~~(rD N),~~~(rD R)],rfl,YE.mp ?_,fun _=>rfl,rfl⟩
  simp? only[Q5 (Qdw rn c),Q5 (Qdw r c),true_and]
  rfl
 have e9:(((cel w h).map pl).filter (fun d=>decide (atL N (pD d)≠atL R (pD d)))).map (fun d=>d)=(unL h w N R).map pl:=by
  rw[ze1 (fun _=>rfl),zg5];rfl
 rw[e9]
 simp? only[]
 exact⟨_,_,rfl,rfl,rfl,rfl⟩))
def Qu0 (h w:Nat)(F N:List (List Int))(ls:List PN)(d:D)(os:List D):Prop:=os=[]/\∃R,d=.tup [rD R,.lst ((unL h w N R).map pl)]/\QoT h w F N (onF h w F ls) R
theorem QbM (rf:Rc h w F)(nf:Nn h w F)(rn:Rc h w N)(h1:1<=h)(hh:h<=30)(w1:1<=w)(hw:w<=30)(hl:∀x∈ls,inR h w x.1) :
  FW (Jl z [flD z F,rD N,.lst (ls.map pnD)]) (Qu0 h w F N ls):=Jq (by
 unfold QeF
 refine Ws [~~~(flD z F),~~~(rD N),~~~(.lst (ls.map pnD)),none,none] ?_ ?_
 ·simp? only[Q5 (Qma (z:=z) rf rn h1 hw)]
  exact⟨trivial,trivial,trivial⟩
 refine JC (fun ρ=>∃s,frO s/\ρ=[~~~(flD z F),~~~(rD N),~~~(.lst (ls.map pnD)),s,none]) ?_ ?_
 ·simp? only[]
  refine Vi (fun i ρ=>∃s,frO s/\ρ=[~~~(flD z F),~~~(rD N),~~~(.lst (ls.map pnD)),s,none]) ⟨none,.inl rfl,rfl⟩ ?_ ?_
  ·rintro i d ρ hd ⟨s,hs,rfl⟩
   rw[z18] at hd
   obtain⟨x,hx,rfl⟩:=z03.mp hd
   have hm:=z37 hx
   refine⟨[~~~(flD z F),~~~(rD N),~~~(.lst (ls.map pnD)),~~~(pnD x),none],?_,?_⟩
   ·rcases hs with rfl|⟨_,rfl⟩<;>rfl
   simp? only[Q5 (QkX (z:=z) (s:=x.2) (p:=x.1) rf h1 (hl x hm))]
   exact⟨trivial,trivial,_,.inr ⟨_,rfl⟩,rfl⟩
  ·rintro ρ ⟨s,hs,rfl⟩
   exact⟨rfl,s,hs,rfl⟩
 rintro ρ ⟨s,hs,rfl⟩
 refine JC (fun ρ=>∃R,QoT h w F N (onF h w F ls) R/\ρ=[~~~(flD z F),~~~(rD N),~~~(.lst (ls.map pnD)),s,some (.own (rD R))]) ?_ ?_
 ·simp? only[]
  refine Qj6 (P:=fun d os=>os=[]/\∃R,d=rD R/\QoT h w F N (onF h w F ls) R) (QkW rf nf rn h1 hh w1 hw hl) fun d os hz=>?_
  obtain⟨e1,R,e2,sp⟩:=hz
  refine⟨(fun q=>nomatch q),?_⟩
  subst e2
  simp? only[]
  exact⟨trivial,R,sp,rfl⟩
 rintro ρ ⟨R,sp,rfl⟩
 simp? only[V0 (QkY (z:=z) rn sp.rc hh hw)]
 rw[Qrz (q:=([rD R,.lst ((unL h w N R).map pl)],[~~~(flD z F),~~~(rD N),~~~(.lst (ls.map pnD)),s,none])) rfl (by rw[z36];show(2:Nat)<=16777216;decide)]
 simp? only[]
 refine⟨_,[],rfl,?_,rfl,R,rfl,sp⟩
 rcases hs with rfl|⟨_,rfl⟩<;>rfl)
end
variable {z:Z}
theorem Qhb {a b:Int×Int}(e:Qer a=Qer b):a=b:=by
 have:=(zu3 e)
 exact zo0 (zq8 this.1) (zq8 (zu3 this.2).1)
def QdP (ls:List PN):D:=.nd (.dT (ls.map fun x=>Qer x.1)) (ls.map fun x=>.int x.2)
def Qbr:List PN->Int×Int->Option Int
 | [],_=>none
 |x::r,q=>if x.1=q then some x.2 else Qbr r q
def QmQ (ls:List PN)(q:Int×Int)(v:Int):List PN:=if(ls.any fun x=>decide (x.1=q))=true then ls.map (fun x=>if x.1=q then(x.1,v) else x) else ls++[(q,v)]
theorem Qh0:∀{ls:List PN} {q p:Int×Int} {v:Int},(ls.any fun x=>decide (x.1=q))=false->Qbr (ls++[(q,v)]) p=if p=q then some v else Qbr ls p
 | [],q,p,v,_=>by
  show(if q=p then some v else none)=_
  by_cases e:p=q
  ·rw[if_pos e,if_pos e.symm]
  ·rw[if_neg e,if_neg (zd4 e)];rfl
 |x::r,q,p,v,h=>by
  rw[ze5,Bool.or_eq_false_iff] at h
  rw[List.cons_append,Qbr,Qh0 h.2,Qbr]
  by_cases e:x.1=p
  ·rw[if_pos e,if_pos e,if_neg fun q'=>of_decide_eq_false h.1 (e.trans q')]
  ·rw[if_neg e,if_neg e]
theorem Qe1:∀{ls:List PN} {q p:Int×Int} {v:Int},(ls.any fun x=>decide (x.1=q))=true->Qbr (ls.map fun x=>if x.1=q then(x.1,v) else x) p=if p=q then some v else Qbr ls p
 | [],q,p,v,h=>by cases h
 |x::r,q,p,v,h=>by
  rw[z31]
  by_cases e:x.1=q
  ·rw[if_pos e,Qbr,Qbr]
   by_cases e2:x.1=p
   ·rw[if_pos e2,if_pos (e2.symm.trans e)]
   ·rw[if_neg e2,if_neg e2,if_neg fun k=>e2 (e.trans k.symm)]
    by_cases h':(r.any fun x=>decide (x.1=q))=true
    ·rw[Qe1 h',if_neg fun k=>e2 (e.trans k.symm)]
    ·rw[show(r.map fun x=>if x.1=q then(x.1,v) else x)=r from by
      refine(z86 fun y hy=>?_).trans (List.map_id r)
      rw[if_neg fun k=>h' (List.any_eq_true.mpr ⟨y,hy,decide_eq_true k⟩)];rfl]
  ·rw[if_neg e,Qbr,Qbr]
   have h':(r.any fun x=>decide (x.1=q))=true:=by
    rw[ze5,decide_eq_false e,Bool.false_or] at h;exact h
   by_cases e2:x.1=p
   ·rw[if_pos e2,if_pos e2,if_neg fun k=>e (e2.trans k)]
   ·rw[if_neg e2,if_neg e2,Qe1 h']
theorem Qmb {ls:List PN}{q p:Int×Int}{v:Int}:Qbr (QmQ ls q v) p=if p=q then some v else Qbr ls p:=by
 unfold QmQ
 by_cases h:(ls.any fun x=>decide (x.1=q))=true
 ·rw[if_pos h,Qe1 h]
 ·rw[if_neg h,Qh0 (zm3.mpr h)]
theorem QoB {ls:List PN}{q:Int×Int}:((ls.map fun x=>Qer x.1).any fun x=>decide (x=Qer q))=ls.any fun x=>decide (x.1=q):=by
 rw[List.any_map]
 congr 1
 funext x
 exact decide_eq_decide.mpr ⟨Qhb,fun e=>congrArg Qer e⟩
theorem QoC {ls:List PN}{q:Int×Int}{v:Int}:zb9 (fun x y=>if x=Qer q then D.int v else y) (ls.map fun x=>Qer x.1) (ls.map fun x=>D.int x.2)=(ls.map fun x=>if x.1=q then(x.1,v) else x).map fun x=>D.int x.2:=by
 induction ls with
 |nil=>rfl
 |cons x r ih=>
  rw[z31,z31,za7,ih,z31,z31]
  congr 1
  by_cases e:x.1=q
  ·rw[if_pos e,if_pos (by rw[e])]
  ·rw[if_neg e,if_neg fun k=>e (Qhb k)]
theorem QoD {ls:List PN}{q:Int×Int}{v:Int}:(ls.map fun x=>if x.1=q then(x.1,v) else x).map (fun x=>Qer x.1)=ls.map fun x=>Qer x.1:=by
 rw[z60]
 refine z86 fun x _=>?_
 show Qer (if x.1=q then(x.1,v) else x).1=_
 split<;>rfl
theorem Qmc (ls:List PN):D.Jo (ls.map fun x=>.int x.2)=true:=by
 induction ls with
 |nil=>rfl
 |cons x r ih=>rw[z31];exact z66.mpr ⟨rfl,ih⟩
theorem QoE {par:Bool}{i:Nat}{ρ:Rho}{mv mk:ME}{ls:List PN}{v:Int}{q:Int×Int}{kf:Fl×Rho->Prop}(hi:ρ[i]? = some (some (mkS par (QdP ls))))(h1:mv ρ=.ok (.int v,ρ))(h2:mk ρ=.ok (pl q,ρ))(hl:ls.length<z15)
  (h:kf (.nx,ρ.set i (some (mkS par (QdP (QmQ ls q v)))))):W (QlR i mv mk ρ) kf:=by
 have e1:QmE ρ i=some (par,ls.map (fun x=>Qer x.1),ls.map fun x=>.int x.2):=by unfold QmE;rw[hi];cases par<;>rfl
 refine⟨_,?_,h⟩
 unfold QlR
 rw[h1]
 show((Rs.of (QmE ρ i)).bind _)=_
 rw[e1]
 show((mk ρ).bind _)=_
 rw[h2]
 show((Rs.of (QmE ρ i)).bind _)=_
 rw[e1]
 show(if(ls.map fun x=>Qer x.1).length<z15 then(if((D.int v).imm && D.Jo (ls.map fun x=>.int x.2))=true then Rs.ok (Fl.nx,ρ.set i (some (mkS par (.nd (.dT (putD (ls.map fun x=>Qer x.1) (ls.map fun x=>.int x.2) (Qer q) (.int v)).1) (putD (ls.map fun x=>Qer x.1) (ls.map fun x=>.int x.2) (Qer q) (.int v)).2)))) else .no) else .no)=_
 rw[if_pos (by rw[z00];exact hl),if_pos (by rw[Qmc];rfl)]
 congr 4
 unfold putD QmQ QdP
 rw[QoB]
 by_cases hn:(ls.any fun x=>decide (x.1=q))=true
 ·rw[if_pos hn,if_pos hn]
  dsimp only
  rw[QoC,QoD]
 ·rw[if_neg hn,if_neg hn,z68,z68];rfl
theorem Qh1 {v:Int}:∀{ls:List PN} {q:Int×Int},(match Qkt (ls.map fun x=>Qer x.1) (ls.map fun x=>D.int x.2) (Qer q) with|some d=>if d.imm=true then some d else none|none=>some (.int v))=some (D.int ((Qbr ls q).getD v))
 | [],_=>rfl
 |x::r,q=>by
  rw[z31,z31,Qkt,Qbr]
  by_cases e:x.1=q
  ·rw[if_pos e,if_pos (by rw[e])];rfl
  ·rw[if_neg e,if_neg fun k=>e (Qhb k)];exact Qh1
theorem get_eq {md mk mv:ME}{ρ:Rho}{ls:List PN}{q:Int×Int}{v:Int}(h1:md ρ=.ok (QdP ls,ρ))(h2:mk ρ=.ok (pl q,ρ))(h3:mv ρ=.ok (.int v,ρ)):QiC md mk mv ρ=.ok (.int ((Qbr ls q).getD v),ρ):=
 Qos h1 h2 h3 Qh1
theorem QoF (xs:List Int)(k:Int)(hk:0<=k):∃c:Int,Y5 z [script xs,.int k]=.ok (.int c) []:=by
 by_cases h:k<xs.length
 ·refine⟨xs.getD k.toNat 0,JL (Jq ?_)⟩
  unfold V3
  have g1:JT [script xs]=some (.int xs.length):=by show some (D.int ((xs.map D.int).length:Nat))=_;rw[z00]
  have g2:atI (xs.map D.int) k=some (.int (xs.getD k.toNat 0)):=Qb0 D.int 0 hk (by lia)
  have g3:gIx (script xs) (.int k)=some (.int (xs.getD k.toNat 0)):=g2
  simp? only[g1,h,g3]
  exact⟨_,_,rfl,rfl,rfl,rfl⟩
 ·refine⟨0,JL (Jq ?_)⟩
  unfold V3
  have g1:JT [script xs]=some (.int xs.length):=by show some (D.int ((xs.map D.int).length:Nat))=_;rw[z00]
  simp? only[g1,h]
  exact⟨_,_,rfl,rfl,rfl,rfl⟩
theorem QbN (xs:List Int)(k:Int)(hk:0<=k):FW (Jb z [script xs,.int k]) (fun d os=>os=[]/\Pot d):=Jq (by
 unfold QaD
 obtain⟨c,ec⟩:=QoF (z:=z) xs k hk
 have c1:Qmj 10 18:=⟨by decide,by decide,by decide⟩
 have c2:Qgo 101 k:=.inl (by decide)
 simp? only[Q5 ec,c1]
 refine⟨trivial,?_⟩
 refine QfR (fun h=>?_) (fun h=>?_)
 ·obtain⟨r,er⟩:=QkJ (z:=z) (c+101 * k)
  simp? only[c2,Q5 er]
  exact⟨trivial,_,_,rfl,rfl,rfl,_,_,rfl⟩
 ·simp? only[]
  exact⟨_,_,rfl,rfl,rfl,_,_,rfl⟩)
section
variable {h w:Nat}{F:List (List Int)}
theorem Qgm (hw:1<=w):∀h:Nat,(z64 (h * w)).map (fun(j:Nat)=>(((j:Int) / w,(j:Int) % w):Int×Int))=cel w h
 |0=>by rw[Nat.zero_mul];rfl
 |h+1=>by
  rw[Nat.succ_mul,List.range_add,z68,Qgm hw h,cel]
  congr 1
  rw[z60]
  refine z86 fun k hk=>?_
  have hk:=za2.mp hk
  have e1:(((h * w+k:Nat):Int)) / w=h:=by
   have:(h * w+k) / w=h:=by rw[Nat.mul_comm,Nat.mul_add_div (by lia),Nat.div_eq_of_lt hk];rfl
   exact(Int.natCast_ediv _ _).symm.trans (congrArg _ this)
  have e2:(((h * w+k:Nat):Int)) % w=k:=by
   have:(h * w+k) % w=k:=by rw[Nat.mul_comm,Nat.mul_add_mod,Nat.mod_eq_of_lt hk]
   exact(Int.natCast_emod _ _).symm.trans (congrArg _ this)
  show((((h * w+k:Nat):Int)) / w,(((h * w+k:Nat):Int)) % w)=_
  rw[e1,e2]
theorem VP (r:Rc h w F)(h1:1<=h)(hh:h<=30)(w1:1<=w)(hw:w<=30):Q0 z [rD F]=.ok (.lst ((cel w h).map pl)) []:=JL (Jq (by
 unfold V5
 have hz:h * w<=900:=z62 (zc6 hh hw) (by decide)
 have g1:JT [rD F]=some (.int h):=by unfold rD;simp[JT,r.hi]
 have g2:JT [rwI (F.getD (0:Int).toNat [])]=some (.int w):=by
  have:=r.row (i:=0) (by decide) (by lia)
  unfold rwI
  simp only[JT,z00,this]
 simp only[za3] at g2
 have c1:Qgo h w:=.inl ⟨by lia,by lia⟩
 have em:(h:Int) * (w:Int)=((h * w:Nat):Int):=(Int.natCast_mul h w).symm
 have b1:(-4611686018427387904:Int)<=((h * w:Nat):Int)/\((h * w:Nat):Int)<4611686018427387904:=by lia
 simp? only[YU r (i:=0) (by decide) (by lia),g2,g1,c1,em,b1,and_self,z82]
 refine Qc3 (g:=fun d=>match d with|.int k=>.tup [.int (k / w),.int (k % w)]|_=>d) (di:=[]) (ρb:=[none,~~~(.int w)]) (os:=[]) rfl rfl ?_ (by rw[z36,z00,z55];lia) rfl rfl ?_
 ·intro d hd
  obtain⟨n,hn,rfl⟩:=z40.mp hd
  have c2:∀a,QdA a (w:Int):=fun a=>⟨by lia,by lia⟩
  have c3:(0:Int)<w:=by lia
  exact⟨[~~~(.int (0+(n:Nat))),~~~(.int w)],rfl,YE.mp (by simp? only[c2,c3]),rfl⟩
 ·have e:zg3 (fun d=>match d with|D.int k=>D.tup [.int (k / w),.int (k % w)]|_=>d) (zg3 (fun(j:Nat)=>D.int (0+(j:Int))) (z64 (h * w)))=(cel w h).map pl:=by
   rw[← Qgm w1 h,z60,z60]
   refine z86 fun k _=>?_
   show D.tup [.int ((0+(k:Int)) / w),.int ((0+(k:Int)) % w)]=D.tup [.int ((k:Int) / w),.int ((k:Int) % w)]
   rw[zn6]
  rw[e]
  simp? only[]
  exact⟨_,_,rfl,rfl,rfl,rfl⟩))
end
variable {z:Z}
section
variable {h w:Nat}{F N:List (List Int)}{p:Int×Int}{xs:List Int}{q:D}
theorem Qu1 {α:Type}{r:Rs α}{P k:α->Prop}(h:W r P)(hk:∀a,P a->k a):W r k:=let ⟨a,e,p⟩:=h;⟨a,e,hk a p⟩
theorem Qci {ρ:Rho}{i:Nat}{s:Option Sl}{d:D}(h:ρ[i]? = some s)(hs:frO s):Y1 ρ i d=some (ρ.set i (~~~d)):=by unfold Y1;rw[h];rcases hs with rfl|⟨_,rfl⟩<;>rfl
theorem QiJ {ρ:Rho}{i j:Nat}{s t:Option Sl}{x y:D}(h:ρ[i]? = some s)(hs:frO s)(h2:(ρ.set i (~~~x))[j]? = some t)(ht:frO t):QdX i j (.tup [x,y]) ρ=some ((ρ.set i (~~~x)).set j (~~~y)):=by
 show(Y1 ρ i x).bind _=_
 rw[Qci h hs];exact Qci h2 ht
def QtH (d:D)(os:List D):Prop:=∃n:Nat,∃q,d=.int n/\os=[q]/\Pot q/\1<=n/\n<=30
theorem QkZ (hq:Pot q):FW (Yu z [q]) QtH:=Jq (by
 unfold Qbg
 simp? only[]
 refine Vs (p:=q) (P:=spT 8) rfl (Jn hq (by decide) (by decide)) fun _ _ ⟨r1,q1,e1,e2,hq1,_,_⟩=>⟨q1,e2,?_⟩;subst e1
 simp? only[]
 refine QfR (fun h=>?_) (fun h=>?_)
 ·simp? only[]
  refine Vs (p:=q1) (P:=spT 30) rfl (Jn hq1 (by decide) (by decide)) fun _ _ ⟨r2,q2,e1,e2,hq2,g0,g1⟩=>⟨q2,e2,?_⟩;subst e1
  simp? only[]
  exact⟨_,_,rfl,rfl,(1+r2).toNat,q2,by rw[zu4 (by lia)],rfl,hq2,by lia,by lia⟩
 ·simp? only[]
  refine Vs (p:=q1) (P:=spT 6) rfl (Jn hq1 (by decide) (by decide)) fun _ _ ⟨r2,q2,e1,e2,hq2,g0,g1⟩=>⟨q2,e2,?_⟩;subst e1
  simp? only[]
  exact⟨_,_,rfl,rfl,(1+r2).toNat,q2,by rw[zu4 (by lia)],rfl,hq2,by lia,by lia⟩)
theorem Qh2:∀{r:List D},(∀x∈r,Qgk x)->∃l:List Int,r=l.map D.int/\∀x∈l,0<=x/\x<QbK
 | [],_=>⟨[],rfl,fun _ q=>nomatch q⟩
 |d::r,h=>by
  obtain⟨l,rfl,hl⟩:=Qh2 fun x hx=>h x (z08 _ hx)
  obtain⟨a,rfl,h0,h1⟩:=h d z07
  exact⟨a::l,rfl,fun x hx=>by
   rcases z13.mp hx with rfl|hx
   ·exact⟨h0,h1⟩
   ·exact hl x hx⟩
theorem QoG {l:List Int}(ok:okL F)(hl:∀x∈l,0<=x/\x<QbK):okL (F++[l]):=fun r hr=>by
 rcases z05.mp hr with hr|hr
 ·exact ok r hr
 ·rw[z25.mp hr];exact hl
theorem QmR {i:Nat}{l:List Int}(r:Rc i w F)(hl:l.length=w):Rc (i+1) w (F++[l]):=⟨by rw[z16,r.hi];rfl,fun x hx=>by
 rcases z05.mp hx with hx|hx
 ·exact r.wi x hx
 ·rw[z25.mp hx];exact hl⟩
theorem Ym {s:Option Sl}{ρ:Rho}(hs:frO s):outs [] (s::ρ)=outs [] ρ:=by rcases hs with rfl|⟨_,rfl⟩<;>rfl
def QrI (s:Option Sl):Prop:=s=none\/∃d,s=some (.own d)
def Qu2 (d:D)(os:List D):Prop:=os=[]/\∃(h w:Nat) (F:List (List Int)),d=rD F/\Rc h w F/\okL F/\1<=h/\h<=30/\1<=w/\w<=30
theorem QoH {s:Option Sl}{ρ:Rho}(hs:QrI s):outs [] (s::ρ)=outs [] ρ:=by rcases hs with rfl|⟨_,rfl⟩<;>rfl
theorem Qk0:FW (Yg z [script xs,.int 0]) Qu2:=Jq (by
 unfold V7
 refine JC (fun ρ=>∃q,Pot q/\ρ=[~~~(script xs),~~~(.int 0),some (.own q),none,none,none,none,none]) ?_ ?_
 ·simp? only[]
  refine Qj6 (P:=fun d os=>os=[]/\Pot d) (QbN xs 0 (by lia)) fun d os hz=>?_
  obtain⟨_,hq⟩:=hz
  refine⟨(fun q=>nomatch q),?_⟩
  simp? only[]
  exact⟨trivial,d,hq,rfl⟩
 rintro ρ ⟨q,hq,rfl⟩
 refine JC (fun ρ=>∃(h:Nat) (q:D),Pot q/\1<=h/\h<=30/\ρ=[~~~(script xs),~~~(.int 0),some (.own q),~~~(.int h),none,none,none,none]) ?_ ?_
 ·simp? only[]
  refine QgW (p:=q) (P:=QtH) rfl (QkZ hq) fun _ _ ⟨n,q1,e1,e2,hq1,g0,g1⟩=>⟨q1,e2,?_⟩;subst e1
  simp? only[]
  exact⟨trivial,n,q1,hq1,g0,g1,rfl⟩
 rintro ρ ⟨h,q,hq,h1,hh,rfl⟩
 refine JC (fun ρ=>∃(w:Nat) (q:D),1<=w/\w<=30/\ρ=[~~~(script xs),~~~(.int 0),some (.own q),~~~(.int h),~~~(.int w),none,none,none]) ?_ ?_
 ·simp? only[]
  refine QgW (p:=q) (P:=QtH) rfl (QkZ hq) fun _ _ ⟨n,q1,e1,e2,hq1,g0,g1⟩=>⟨q1,e2,?_⟩;subst e1
  simp? only[]
  exact⟨trivial,n,q1,g0,g1,rfl⟩
 rintro ρ ⟨w,q,w1,hw,rfl⟩
 refine Ws [~~~(script xs),~~~(.int 0),some (.own q),~~~(.int h),~~~(.int w),some (.own (rD [])),none,none] ?_ ?_
 ·exact YR.mpr ⟨rfl,rfl⟩
 refine JC (fun ρ=>∃F s6 s7,Rc h w F/\okL F/\frO s6/\QrI s7/\ρ=[~~~(script xs),~~~(.int 0),some (.own q),~~~(.int h),~~~(.int w),some (.own (rD F)),s6,s7]) ?_ ?_
 ·have b1:(-4611686018427387904:Int)<=h/\(h:Int)<4611686018427387904:=by lia
  simp? only[b1,and_self,z82]
  refine Vi (fun i ρ=>∃F s6 s7,Rc i w F/\okL F/\frO s6/\QrI s7/\ρ=[~~~(script xs),~~~(.int 0),some (.own q),~~~(.int h),~~~(.int w),some (.own (rD F)),s6,s7]) ⟨[],none,none,⟨rfl,fun _ h=>nomatch h⟩,fun _ h=>(nomatch h),.inl rfl,.inl rfl,rfl⟩ ?_ ?_
  ·rintro i d ρ hd ⟨F,s6,s7,rF,oF,h6,h7,rfl⟩
   rw[z18] at hd
   obtain⟨x,hx,rfl⟩:=z03.mp hd
   have hi:i<h:=by have:=(z26.mp hx).1;rwa[z55] at this
   refine⟨[~~~(script xs),~~~(.int 0),some (.own q),~~~(.int h),~~~(.int w),some (.own (rD F)),~~~(.int (0+(x:Int))),s7],?_,?_⟩
   ·exact Qci rfl h6
   refine JC (fun ρ=>∃q7,Pot q7/\ρ=[~~~(script xs),~~~(.int 0),some (.own q),~~~(.int h),~~~(.int w),some (.own (rD F)),~~~(.int (0+(x:Int))),some (.own q7)]) ?_ ?_
   ·rcases h7 with rfl|⟨_,rfl⟩ <;>
    ·simp? only[]
     refine Qj6 (P:=fun d os=>os=[]/\Pot d) (QbN xs _ (by lia)) fun d os hz=>?_
     obtain⟨_,hq⟩:=hz
     refine⟨(fun q=>nomatch q),?_⟩
     simp? only[]
     exact⟨trivial,d,hq,rfl⟩
   rintro ρ ⟨q7,hq7,rfl⟩
   refine Qn.mpr ⟨_,rfl,Qn.mpr ?_⟩
   refine Qqn (Inv:=fun ρ=>∃q,Pot q/\ρ=[none,some (.par q)]) (Pd:=fun _ y=>Qgk y) (di:=[q7]) (ρb:=[none,some (.par q7)]) (QnV (n:=w) rfl (by lia) (by lia)) rfl rfl ?_ ⟨q7,hq7,rfl⟩ ?_ ?_
   ·rintro d' hd' ρ' ⟨q',hq',rfl⟩
    refine⟨[~~~d',some (.par q')],rfl,YR.mpr ⟨rfl,?_⟩⟩
    simp? only[]
    refine QgW (p:=q') (P:=spP Qgk) rfl (QkK hq') fun d _ hz=>?_
    obtain⟨p2,e2,hp2,hd⟩:=hz
    refine⟨p2,e2,?_⟩
    obtain⟨r2,rfl,k0,k1⟩:=hd
    simp? only[]
    exact⟨⟨p2,hp2,rfl⟩,_,rfl,k0,k1⟩
   ·simp[z36];lia
   ·rintro ys ρ2 ⟨q2,hq2,rfl⟩ f
    obtain⟨l,rfl,hl⟩:=Qh2 f.all
    have ll:=f.length
    refine⟨[q2],rfl,?_⟩
    have hz:(F.map rwI).length<16777216:=by rw[z00,rF.hi];lia
    simp? only[rD,hz]
    refine⟨trivial,F++[l],~~~(.int (0+(x:Int))),some (.own q2),QmR rF (by simpa using ll),QoG oF hl,.inr ⟨_,rfl⟩,.inr ⟨_,rfl⟩,?_⟩
    rw[z68];rfl
  ·rintro ρ ⟨F,s6,s7,rF,oF,h6,h7,rfl⟩
   rw[z00,z55] at rF
   exact⟨rfl,F,s6,s7,rF,oF,h6,h7,rfl⟩
 rintro ρ ⟨F,s6,s7,rF,oF,h6,h7,rfl⟩
 simp? only[]
 refine⟨_,[],rfl,?_,rfl,h,w,F,rfl,rF,oF,h1,hh,w1,hw⟩
 rcases h6 with rfl|⟨_,rfl⟩<;>rcases h7 with rfl|⟨_,rfl⟩<;>rfl)
def Qub (h w:Nat)(d:D)(os:List D):Prop:=os=[]/\∃N,d=rD N/\Rc h w N
theorem QiK (rf:Rc h w F)(hh:h<=30)(hw:w<=30):FW (JP z [script xs,.int 31,rD F]) (Qub h w):=Jq (by
 unfold Vw
 refine Ws [~~~(script xs),~~~(.int 31),~~~(rD F),some (.own (rD [])),none,none,none,none,none] ?_ ?_
 ·exact YR.mpr ⟨rfl,rfl⟩
 refine JC (fun ρ=>∃N s4 s5 s7 s8,Rc h w N/\frO s4/\QrI s5/\frO s7/\frO s8/\ρ=[~~~(script xs),~~~(.int 31),~~~(rD F),some (.own (rD N)),s4,s5,none,s7,s8]) ?_ ?_
 ·have g1:JT [rD F]=some (.int h):=by unfold rD;simp[JT,rf.hi]
  have b1:(-4611686018427387904:Int)<=h/\(h:Int)<4611686018427387904:=by lia
  simp? only[g1,b1,and_self,z82]
  refine Vi (fun i ρ=>∃N s4 s5 s7 s8,Rc i w N/\frO s4/\QrI s5/\frO s7/\frO s8/\ρ=[~~~(script xs),~~~(.int 31),~~~(rD F),some (.own (rD N)),s4,s5,none,s7,s8]) ⟨[],none,none,none,none,⟨rfl,fun _ h=>nomatch h⟩,.inl rfl,.inl rfl,.inl rfl,.inl rfl,rfl⟩ ?_ ?_
  ·rintro i d ρ hd ⟨N,s4,s5,s7,s8,rN,h4,h5,h7,h8,rfl⟩
   rw[z18] at hd
   obtain⟨x,hx,rfl⟩:=z03.mp hd
   obtain⟨hi,ex⟩:=z26.mp hx
   rw[z55] at hi
   rw[zl6] at ex
   subst ex
   refine⟨[~~~(script xs),~~~(.int 31),~~~(rD F),some (.own (rD N)),~~~(.int (0+(i:Int))),s5,none,s7,s8],?_,?_⟩
   ·exact Qci rfl h4
   refine JC (fun ρ=>∃q5,Pot q5/\ρ=[~~~(script xs),~~~(.int 31),~~~(rD F),some (.own (rD N)),~~~(.int (0+(i:Int))),some (.own q5),none,s7,s8]) ?_ ?_
   ·rcases h5 with rfl|⟨_,rfl⟩ <;>
    ·simp? only[]
     refine Qj6 (P:=fun d os=>os=[]/\Pot d) (QbN xs _ (by lia)) fun d os hz=>?_
     obtain⟨_,hq⟩:=hz
     refine⟨(fun q=>nomatch q),?_⟩
     simp? only[]
     exact⟨trivial,d,hq,rfl⟩
   rintro ρ ⟨q5,hq5,rfl⟩
   refine Ws [~~~(script xs),~~~(.int 31),~~~(rD F),some (.own (rD N)),~~~(.int (0+(i:Int))),some (.own q5),some (.own (rwI [])),s7,s8] ?_ ?_
   ·exact YR.mpr ⟨rfl,rfl⟩
   refine JC (fun ρ=>∃q5 l s7 s8,l.length=w/\frO s7/\frO s8/\ρ=[~~~(script xs),~~~(.int 31),~~~(rD F),some (.own (rD N)),~~~(.int (0+(i:Int))),some (.own q5),some (.own (rwI l)),s7,s8]) ?_ ?_
   ·have e4:∀ρ,siK (rwI (F.getD (0+(i:Int)).toNat []),ρ)=.ok ((F.getD (0+(i:Int)).toNat []).map .int,ρ):=fun _=>rfl
    have ew:=rf.row (i:=0+(i:Int)) (by lia) (by lia)
    simp? only[YU rf (i:=0+(i:Int)) (by lia) (by lia),e4]
    refine Vi (fun j ρ=>∃q5 l s7 s8,Pot q5/\l.length=j/\frO s7/\frO s8/\ρ=[~~~(script xs),~~~(.int 31),~~~(rD F),some (.own (rD N)),~~~(.int (0+(i:Int))),some (.own q5),some (.own (rwI l)),s7,s8]) ⟨q5,[],s7,s8,hq5,rfl,h7,h8,rfl⟩ ?_ ?_
    ·rintro j d ρ hd ⟨q5,l,s7,s8,hq5,hl,h7,h8,rfl⟩
     have lj:=(z26.mp hd).1
     rw[z00,ew] at lj
     rw[z18] at hd
     obtain⟨x,hx,rfl⟩:=z03.mp hd
     refine⟨[~~~(script xs),~~~(.int 31),~~~(rD F),some (.own (rD N)),~~~(.int (0+(i:Int))),some (.own q5),some (.own (rwI l)),~~~(.int x),s8],?_,?_⟩
     ·exact Qci rfl h7
     refine JC (fun ρ=>∃q5 v,Pot q5/\ρ=[~~~(script xs),~~~(.int 31),~~~(rD F),some (.own (rD N)),~~~(.int (0+(i:Int))),some (.own q5),some (.own (rwI l)),~~~(.int x),~~~(.int v)]) ?_ ?_
     ·simp? only[]
      refine Vs (p:=q5) (P:=spT 3) rfl (Jn hq5 (by decide) (by decide)) fun _ _ ⟨r1,q1,e1,e2,hq1,_,_⟩=>⟨q1,e2,?_⟩;subst e1
      rcases h8 with rfl|⟨_,rfl⟩<;>simp? only[]<;>exact⟨trivial,q1,r1,hq1,rfl⟩
     rintro ρ ⟨q5,v,hq5,rfl⟩
     have hz:(l.map D.int).length<16777216:=by rw[z00,hl];lia
     refine Qn.mpr ⟨_,rfl,Qn.mpr ?_⟩
     refine Qu1 (P:=fun r=>∃q5 y,Pot q5/\r=(.int y,[~~~(script xs),~~~(.int 31),~~~(rD F),some (.own (rD N)),~~~(.int (0+(i:Int))),some (.own q5),some (.own (rwI l)),~~~(.int x),~~~(.int v)])) ?_ ?_
     ·by_cases c1:x > 0
      ·by_cases c2:v > 0
       ·simp? only[c1,c2]
        refine QgW (p:=q5) (P:=spP Qgk) rfl (Qdv hq5) fun d _ hz=>?_
        obtain⟨p2,e2,hp2,hd⟩:=hz
        refine⟨p2,e2,?_⟩
        obtain⟨r2,rfl,k0,k1⟩:=hd
        simp? only[]
        exact⟨p2,r2,hp2,rfl⟩
       ·simp? only[c1,c2]
        exact⟨q5,0,hq5,rfl⟩
      ·simp? only[c1]
       exact⟨q5,0,hq5,rfl⟩
     ·rintro _ ⟨q5,y,hq5,rfl⟩
      simp? only[rwI,hz]
      refine⟨trivial,q5,l++[y],~~~(.int x),~~~(.int v),hq5,by rw[z16,hl];rfl,.inr ⟨_,rfl⟩,.inr ⟨_,rfl⟩,?_⟩
      rw[z68];rfl
    ·rintro ρ ⟨q5,l,s7,s8,hq5,hl,h7,h8,rfl⟩
     rw[z00,ew] at hl
     exact⟨rfl,q5,l,s7,s8,hl,h7,h8,rfl⟩
   rintro ρ ⟨q5,l,s7,s8,hl,h7,h8,rfl⟩
   have hz:(N.map rwI).length<16777216:=by rw[z00,rN.hi];lia
   simp? only[rD,hz]
   refine⟨trivial,N++[l],~~~(.int (0+(i:Int))),some (.own q5),s7,s8,QmR rN hl,.inr ⟨_,rfl⟩,.inr ⟨_,rfl⟩,h7,h8,?_⟩
   rw[z68];rfl
  ·rintro ρ ⟨N,s4,s5,s7,s8,rN,h4,h5,h7,h8,rfl⟩
   rw[z00,z55] at rN
   exact⟨rfl,N,s4,s5,s7,s8,rN,h4,h5,h7,h8,rfl⟩
 rintro ρ ⟨N,s4,s5,s7,s8,rN,h4,h5,h7,h8,rfl⟩
 simp? only[]
 refine⟨_,[],rfl,?_,rfl,N,rfl,rN⟩
 show outs [] [s4,s5,none,s7,s8]=some []
 refine(Ym h4).trans ((QoH h5).trans ?_)
 show outs [] [s7,s8]=some []
 exact(Ym h7).trans (Ym h8))
end
variable {z:Z}
section
variable {h w:Nat}{N:List (List Int)}{p:Int×Int}{q:D}
def Qu3 (h w:Nat)(d:D)(os:List D):Prop:=∃(ls:List PN) (q:D),os=[q]/\d=.lst (ls.map pnD)/\ls.length<=6/\∀x∈ls,inR h w x.1
theorem Qk1 (rn:Rc h w N)(h1:1<=h)(hh:h<=30)(w1:1<=w)(hw:w<=30)(hq:Pot q):FW (Yh z [q,rD N]) (Qu3 h w):=Jq (by
 unfold V8
 refine Ws [some (.par q),~~~(rD N),some (.own (.lst [])),none,none,none,none,none] ?_ ?_
 ·exact YR.mpr ⟨rfl,rfl⟩
 have g1:JT [rD N]=some (.int h):=by unfold rD;simp[JT,rn.hi]
 have g2:JT [rwI (N.getD (0:Int).toNat [])]=some (.int w):=by
  have:=rn.row (i:=0) (by decide) (by lia)
  unfold rwI
  simp only[JT,z00,this]
 simp only[za3] at g2
 have g3:(0:Int)<3:=by decide
 have g4:∀a:Int,QdA a 3:=fun a=>⟨by decide,by decide⟩
 refine JC (fun ρ=>∃(q:D) (ls:List PN) (s3 s4 s5 s6 s7:Option Sl),frO s3/\frO s4/\frO s5/\frO s6/\frO s7/\ls.length<=6/\(∀x∈ls,inR h w x.1)/\ρ=[some (.par q),~~~(rD N),some (.own (.lst (ls.map pnD))),s3,s4,s5,s6,s7]) ?_ ?_
 ·simp? only[]
  refine Vs (p:=q) (P:=spT 7) rfl (Jn hq (by decide) (by decide)) fun _ _ ⟨r1,q1,e1,e2,hq1,k0,k1⟩=>⟨q1,e2,?_⟩;subst e1
  have b1:(-4611686018427387904:Int)<=r1/\(r1:Int)<4611686018427387904:=by lia
  simp? only[b1,and_self]
  refine Vi (fun i ρ=>∃(q:D) (ls:List PN) (s3 s4 s5 s6 s7:Option Sl),Pot q/\frO s3/\frO s4/\frO s5/\frO s6/\frO s7/\ls.length=i/\(∀x∈ls,inR h w x.1)/\ρ=[some (.par q),~~~(rD N),some (.own (.lst (ls.map pnD))),s3,s4,s5,s6,s7]) ⟨q1,[],none,none,none,none,none,hq1,.inl rfl,.inl rfl,.inl rfl,.inl rfl,.inl rfl,rfl,(fun _ h=>nomatch h),rfl⟩ ?_ ?_
  ·rintro i d ρ hd ⟨q,ls,s3,s4,s5,s6,s7,hq,h3,h4,h5,h6,h7,hi,hl,rfl⟩
   have li:=(z26.mp hd).1
   rw[z00,z55] at li
   rw[z18] at hd
   obtain⟨x,hx,rfl⟩:=z03.mp hd
   generalize (0+(x:Int))=y
   refine⟨[some (.par q),~~~(rD N),some (.own (.lst (ls.map pnD))),~~~(.int y),s4,s5,s6,s7],?_,?_⟩
   ·exact Qci rfl h3
   refine JC (fun ρ=>∃q,∃r:Int,Pot q/\0<=r/\r<h/\ρ=[some (.par q),~~~(rD N),some (.own (.lst (ls.map pnD))),~~~(.int y),~~~(.int r),s5,s6,s7]) ?_ ?_
   ·simp? only[g1]
    refine Vs (p:=q) (P:=spT h) rfl (Jn hq (by lia) (zb0 (b:=31) (by lia) (by decide))) fun _ _ ⟨r1,q1,e1,e2,hq1,k0,k1⟩=>⟨q1,e2,?_⟩;subst e1
    rcases h4 with rfl|⟨_,rfl⟩<;>simp? only[]<;>exact⟨trivial,q1,r1,hq1,k0,k1,rfl⟩
   rintro ρ ⟨q,r,hq,r0,r1,rfl⟩
   refine JC (fun ρ=>∃q,∃c:Int,Pot q/\0<=c/\c<w/\ρ=[some (.par q),~~~(rD N),some (.own (.lst (ls.map pnD))),~~~(.int y),~~~(.int r),~~~(.int c),s6,s7]) ?_ ?_
   ·simp? only[YU rn (i:=0) (by decide) (by lia),g2]
    refine Vs (p:=q) (P:=spT w) rfl (Jn hq (by lia) (zb0 (b:=31) (by lia) (by decide))) fun _ _ ⟨r1,q1,e1,e2,hq1,k0,k1⟩=>⟨q1,e2,?_⟩;subst e1
    rcases h5 with rfl|⟨_,rfl⟩<;>simp? only[]<;>exact⟨trivial,q1,r1,hq1,k0,k1,rfl⟩
   rintro ρ ⟨q,c,hq,c0,c1,rfl⟩
   have ip:inR h w (r,c):=⟨r0,r1,c0,c1⟩
   refine JC (fun ρ=>∃q,∃a:Int,Pot q/\ρ=[some (.par q),~~~(rD N),some (.own (.lst (ls.map pnD))),~~~(.int y),~~~(.int r),~~~(.int c),~~~(.int a),s7]) ?_ ?_
   ·simp? only[]
    refine Vs (p:=q) (P:=spT 5) rfl (Jn hq (by decide) (by decide)) fun _ _ ⟨r1,q1,e1,e2,hq1,k0,k1⟩=>⟨q1,e2,?_⟩;subst e1
    rcases h6 with rfl|⟨_,rfl⟩<;>simp? only[]<;>exact⟨trivial,q1,r1,hq1,rfl⟩
   rintro ρ ⟨q,a,hq,rfl⟩
   refine JC (fun ρ=>∃q,∃n:Int,Pot q/\ρ=[some (.par q),~~~(rD N),some (.own (.lst (ls.map pnD))),~~~(.int y),~~~(.int r),~~~(.int c),~~~(.int a),~~~(.int n)]) ?_ ?_
   ·simp? only[]
    refine QgW (p:=q) (P:=spP Qgk) rfl (Qdv hq) fun d _ hz=>?_
    obtain⟨p2,e2,hp2,hd⟩:=hz
    refine⟨p2,e2,?_⟩
    obtain⟨r2,rfl,k0,k1⟩:=hd
    rcases h7 with rfl|⟨_,rfl⟩<;>simp? only[]<;>exact⟨trivial,p2,r2,hp2,rfl⟩
   rintro ρ ⟨q,n,hq,rfl⟩
   refine JC (fun ρ=>∃n:Int,ρ=[some (.par q),~~~(rD N),some (.own (.lst (ls.map pnD))),~~~(.int y),~~~(.int r),~~~(.int c),~~~(.int a),~~~(.int n)]) ?_ ?_
   ·by_cases a0:a=0
    ·simp? only[a0]
     exact⟨trivial,_,rfl⟩
    by_cases a1:a=1
    ·simp? only[a1,YU rn r0 r1,Qaz rn ip,g3,g4,QtF]
     exact⟨trivial,_,rfl⟩
    simp? only[a0,a1]
    exact⟨trivial,n,rfl⟩
   rintro ρ ⟨n,rfl⟩
   have hz:(ls.map pnD).length<16777216:=by rw[z00,hi];lia
   simp? only[hz]
   refine⟨trivial,q,ls++[((r,c),n)],~~~(.int y),~~~(.int r),~~~(.int c),~~~(.int a),~~~(.int n),hq,.inr ⟨_,rfl⟩,.inr ⟨_,rfl⟩,.inr ⟨_,rfl⟩,.inr ⟨_,rfl⟩,.inr ⟨_,rfl⟩,by rw[z16,hi];rfl,fun x hx=>?_,?_⟩
   ·rcases z05.mp hx with hx|hx
    ·exact hl x hx
    ·rw[z25.mp hx];exact ip
   ·rw[z68];rfl
  ·rintro ρ ⟨q,ls,s3,s4,s5,s6,s7,hq,h3,h4,h5,h6,h7,hi,hl,rfl⟩
   rw[z00,z55] at hi
   exact⟨rfl,q,ls,s3,s4,s5,s6,s7,h3,h4,h5,h6,h7,by lia,hl,rfl⟩
 rintro ρ ⟨q,ls,s3,s4,s5,s6,s7,h3,h4,h5,h6,h7,hi,hl,rfl⟩
 simp? only[]
 refine⟨_,[q],rfl,?_,ls,q,rfl,rfl,hi,hl⟩
 show(outs [] [s3,s4,s5,s6,s7]).map (q::·)=_
 rw[Ym h3,Ym h4,Ym h5,Ym h6,Ym h7];rfl)
end
variable {z:Z}
section
variable {h w:Nat}{F R:List (List Int)}{p:Int×Int}{q:D}
theorem QiL (rf:Rc h w F)(nf:Nn h w F)(h1:1<=h):Yf z [rD F,.int p.1,.int p.2]=.ok (.lst ((nbL h w F p).map pl)) []:=JL (Jq (by
 unfold V4
 have gh:JT [rD F]=some (.int h):=by show some (D.int ((F.map rwI).length:Nat))=_;rw[z00,rf.hi]
 have er:=rf.row (i:=0) (by decide) (by lia)
 simp only[za3] at er
 have gw:JT [rwI (F.getD 0 [])]=some (.int w):=by show some (D.int (((F.getD 0 []).map D.int).length:Nat))=_;rw[z00,er]
 have ix0:=YU rf (i:=0) (by decide) (by lia)
 simp only[za3] at ix0
 simp? only[]
 refine Vi (ds:=(arL p).map pl) (fun i ρ=>∃s t,frO s/\frO t/\ρ=[~~~(rD F),~~~(.int p.1),~~~(.int p.2),some (.own (.lst ((((arL p).take i).filter (okN h w F)).map pl))),s,t]) ⟨none,none,.inl rfl,.inl rfl,rfl⟩ ?_ ?_
 ·rintro i d ρ hd ⟨s,t,hs,ht,rfl⟩
  rw[z18] at hd
  obtain⟨v,hv,rfl⟩:=z03.mp hd
  have et:(arL p).take (i+1)=(arL p).take i++[v]:=by rw[zf2,hv];rfl
  refine⟨[~~~(rD F),~~~(.int p.1),~~~(.int p.2),some (.own (.lst ((((arL p).take i).filter (okN h w F)).map pl))),~~~(.int v.1),~~~(.int v.2)],?_,?_⟩
  ·exact QiJ rfl hs rfl ht
  rw[et,zu2]
  refine Qn.mpr ⟨(okN h w F v,[~~~(rD F),~~~(.int p.1),~~~(.int p.2),some (.own (.lst ((((arL p).take i).filter (okN h w F)).map pl))),~~~(.int v.1),~~~(.int v.2)]),YE.mp ?_,?_⟩
  ·by_cases c1:0<=v.1
   ·by_cases c2:v.1<h
    ·by_cases c3:0<=v.2
     ·by_cases c4:v.2<w
      ·have iv:inR h w v:=⟨c1,c2,c3,c4⟩
       simp? only[gh,ix0,gw,c1,c2,c3,c4,YU rf c1 c2,Qaz rf iv]
       have:=nf v iv
       unfold okN
       by_cases q:atL F v=0
       ·simp[iv,q]
       ·have q2:0<atL F v:=by lia
        simp[iv,q,q2]
      ·have iv:¬ inR h w v:=fun q=>c4 q.2.2.2
       simp? only[gh,ix0,gw,c1,c2,c3,c4]
       simp[okN,iv]
     ·have iv:¬ inR h w v:=fun q=>c3 q.2.2.1
      simp? only[gh,c1,c2,c3]
      simp[okN,iv]
    ·have iv:¬ inR h w v:=fun q=>c2 q.2.1
     simp? only[gh,c1,c2]
     simp[okN,iv]
   ·have iv:¬ inR h w v:=fun q=>c1 q.1
    simp? only[c1]
    simp[okN,iv]
  ·dsimp only
   cases c:okN h w F v with
   |true=>
    rw[if_pos rfl]
    have hz:((((arL p).take i).filter (okN h w F)).map pl).length<16777216:=by
     rw[z00]
     have a:=za9 (okN h w F) ((arL p).take i)
     have b:=List.length_take_le i (arL p)
     have c:(arL p).length=4:=rfl
     have d:=List.length_take_le' i (arL p)
     lia
    simp? only[hz]
    refine⟨trivial,~~~(.int v.1),~~~(.int v.2),.inr ⟨_,rfl⟩,.inr ⟨_,rfl⟩,?_⟩
    rw[z80,if_pos c,z68]
    rfl
   |false=>
    rw[if_neg (by decide)]
    refine YR.mpr ⟨rfl,~~~(.int v.1),~~~(.int v.2),.inr ⟨_,rfl⟩,.inr ⟨_,rfl⟩,?_⟩
    rw[z80,if_neg (by rw[c];decide),List.filter_nil,z53]
 ·rintro ρ ⟨s,t,hs,ht,rfl⟩
  simp? only[]
  refine⟨_,[],rfl,?_,rfl,rfl⟩
  rcases hs with rfl|⟨_,rfl⟩<;>rcases ht with rfl|⟨_,rfl⟩<;>rfl))
theorem QiM (rf:Rc h w F)(r:Rc h w R)(h1:1<=h)(hw:w<=30):Jy z [rD F,rD R]=.ok (.bl true) []:=JL (Jq (by
 unfold Y6
 have gh:JT [rD F]=some (.int h):=by show some (D.int ((F.map rwI).length:Nat))=_;rw[z00,rf.hi]
 have gr:JT [rD R]=some (.int h):=by show some (D.int ((R.map rwI).length:Nat))=_;rw[z00,r.hi]
 have er:=rf.row (i:=0) (by decide) (by lia)
 simp only[za3] at er
 have gw:JT [rwI (F.getD 0 [])]=some (.int w):=by show some (D.int (((F.getD 0 []).map D.int).length:Nat))=_;rw[z00,er]
 have ix0:=YU rf (i:=0) (by decide) (by lia)
 simp only[za3] at ix0
 have i1:QfM [rD R,.ty "list"]=some (.bl true):=rfl
 refine Ws [~~~(rD F),~~~(rD R),none] ?_ ?_
 ·simp? only[i1,gh,gr]
  simp
  exact YR.mpr ⟨rfl,rfl⟩
 refine JC (fun ρ=>∃s,frO s/\ρ=[~~~(rD F),~~~(rD R),s]) ?_ ?_
 ·have e3:∀ρ,siK (rD R,ρ)=.ok (R.map rwI,ρ):=fun _=>rfl
  simp? only[e3]
  refine Vi (fun i ρ=>∃s,frO s/\ρ=[~~~(rD F),~~~(rD R),s]) ⟨none,.inl rfl,rfl⟩ ?_ ?_
  ·rintro i d ρ hd ⟨s,hs,rfl⟩
   rw[z18] at hd
   obtain⟨l,hl,rfl⟩:=z03.mp hd
   have el:=r.wi l (z37 hl)
   have gl:JT [rwI l]=some (.int w):=by show some (D.int ((l.map D.int).length:Nat))=_;rw[z00,el]
   have i2:QfM [rwI l,.ty "list"]=some (.bl true):=rfl
   refine⟨[~~~(rD F),~~~(rD R),~~~(rwI l)],?_,?_⟩
   ·exact Qci rfl hs
   refine Ws [~~~(rD F),~~~(rD R),~~~(rwI l)] ?_ ?_
   ·simp? only[i2,gl,ix0,gw]
    simp
    exact YR.mpr ⟨rfl,rfl⟩
   have e4:∀ρ,siK (rwI l,ρ)=.ok (l.map .int,ρ):=fun _=>rfl
   refine Qn.mpr ⟨(false,[~~~(rD F),~~~(rD R),~~~(rwI l)]),YE.mp ?_,?_⟩
   ·simp? only[e4]
    refine Qj7 (f:=fun _=>false) (g:=fun d=>d) (di:=[]) (ρb:=[none]) (os:=[]) rfl rfl ?_ (by rw[z36,z00,el];lia) rfl rfl ?_
    ·intro d hd
     obtain⟨x,hx,rfl⟩:=z40.mp hd
     have i3:QfM [.int x,.ty "int"]=some (.bl true):=rfl
     have i4:QfM [.int x,.ty "bool"]=some (.bl false):=rfl
     refine⟨[~~~(.int x)],rfl,YE.mp ?_,(fun z=>nomatch z),rfl⟩
     simp? only[i3,i4]
    ·have e5:(l.map D.int).filter (fun _=>false)=[]:=List.filter_eq_nil_iff.mpr fun _ _ z=>nomatch z
     rw[e5]
     have e6:gNe (.lst []) (.lst [])=some (.bl false):=rfl
     simp? only[e6]
   ·exact YR.mpr ⟨rfl,~~~(rwI l),.inr ⟨_,rfl⟩,rfl⟩
  ·rintro ρ ⟨s,hs,rfl⟩
   exact⟨rfl,s,hs,rfl⟩
 rintro ρ ⟨s,hs,rfl⟩
 simp? only[]
 refine⟨_,_,rfl,?_,rfl,rfl⟩
 rcases hs with rfl|⟨_,rfl⟩<;>rfl))
end
section
variable {h w:Nat}{F N R:List (List Int)}{p:Int×Int}{q:D}{ls G:List PN}
def Gd (ls G:List PN):Prop:=∀q,(∀x∈ls,x.1=q->∃v,Qbr G q=some v/\x.2<=v)/\∀v,Qbr G q=some v->(q,v)∈ls
theorem Gd.put (g:Gd ls G)(x:PN):Gd (ls++[x]) (QmQ G x.1 (if(Qbr G x.1).getD x.2 > x.2 then(Qbr G x.1).getD x.2 else x.2)):=fun q=>by
 obtain⟨g1,g2⟩:=g q
 rw[Qmb]
 by_cases e:q=x.1
 ·subst e
  rw[if_pos rfl]
  refine⟨fun y hy ey=>⟨_,rfl,?_⟩,fun v hv=>?_⟩
  ·rcases z05.mp hy with hy|hy
   ·obtain⟨v,e1,e2⟩:=g1 y hy ey
    rw[e1,z98]
    split<;>lia
   ·rw[z25.mp hy]
    split<;>lia
  ·rw[← z22 hv]
   cases c:Qbr G x.1 with
   |none=>
    rw[zi1,if_neg (by lia)]
    exact z02 _ z07
   |some u=>
    rw[z98]
    by_cases k:u > x.2
    ·rw[if_pos k];exact z06 _ (g2 u c)
    ·rw[if_neg k];exact z02 _ z07
 ·rw[if_neg e]
  refine⟨fun y hy ey=>?_,fun v hv=>z06 _ (g2 v hv)⟩
  rcases z05.mp hy with hy|hy
  ·exact g1 y hy ey
  ·rw[z25.mp hy] at ey;exact absurd ey.symm e
theorem Qk2:∀{ls:List PN} {R:List (List Int)},Rc h w R->(∀x∈ls,inR h w x.1)->∀q,inR h w q->atL (ls.foldl lft R) q=atL R q\/(q,atL (ls.foldl lft R) q)∈ls
 | [],_,_,_,_,_=>.inl rfl
 |x::ls,R,r,hl,q,hq=>by
  have hx:=hl x z07
  rcases Qk2 (QhZ r hx) (fun y hy=>hl y (z08 _ hy)) q hq with e|e
  ·rw[ze3,e,QkV r hx hq]
   by_cases c:q=x.1
   ·rw[if_pos c]
    by_cases k:atL R x.1 > x.2
    ·rw[if_pos k,c];exact .inl rfl
    ·rw[if_neg k,c];exact .inr z07
   ·rw[if_neg c];exact .inl rfl
  ·exact .inr (z08 _ e)
def Qd8 (h w:Nat)(F N R:List (List Int))(G:List PN)(p:Int×Int):Int:=if atL F p > 0 then Qki (atL N p::(Qbr G p).getD (atL N p)::(nbL h w F p).map fun q=>atL R q - atL F p) else atL N p
theorem QmS {u v:Int×Int}(hu:okN h w F u=true)(hv:v∈nbL h w F u):u∈nbL h w F v:=by
 refine z63.mpr ⟨?_,hu⟩
 have:=(z63.mp hv).1
 unfold arL at this ⊢
 simp only[z13,List.not_mem_nil,or_false] at this ⊢
 obtain⟨u1,u2⟩:=u
 obtain⟨v1,v2⟩:=v
 simp only[zk2] at this ⊢
 lia
theorem Qmd (nf:Nn h w F)(rn:Rc h w N)(hl:∀x∈ls,inR h w x.1)(g:Gd ls G)(sp:QoT h w F N (onF h w F ls) R)(hp:inR h w p):atL R p=Qd8 h w F N R G p:=by
 have hl':∀x∈onF h w F ls,inR h w x.1:=fun x hx=>hl x (z63.mp hx).1
 have nn:=nf p hp
 have up:=sp.up p hp
 have so:=sp.so p hp
 have lu:=Qha rn hl' p hp
 have ll:=Qk2 rn hl' p hp
 unfold Qd8
 by_cases c:atL F p > 0
 ·rw[if_pos c]
  have ok:okN h w F p=true:=by unfold okN;simp[hp];lia
  obtain⟨b1,b2⟩:=QfW (ns:=atL N p::(Qbr G p).getD (atL N p)::(nbL h w F p).map fun q=>atL R q - atL F p) (by simp)
  refine zp3 ?_ ?_
  ·refine b2 _ ?_
   rcases so with e|⟨u,hu,hn,e⟩
   ·rcases ll with e2|e2
    ·rw[e,e2];exact z07
    ·rw[← e] at e2
     obtain⟨e3,e4⟩:=z63.mp e2
     obtain⟨v,k1,k2⟩:=(g p).1 _ e3 rfl
     have k3:=(g p).2 v k1
     have:(p,v)∈onF h w F ls:=z63.mpr ⟨k3,ok⟩
     have k4:=Qdz rn hl' _ this
     have:v=atL R p:=by dsimp only at k2 k4;lia
     refine z08 _ (z13.mpr (.inl ?_))
     rw[k1,z98,this]
   ·refine z08 _ (z08 _ (z40.mpr ⟨u,QmS hu hn,e.symm⟩))
  ·rcases z13.mp b1 with e|e
   ·rw[e];lia
   ·rcases z13.mp e with e|e
    ·rw[e]
     cases k:Qbr G p with
     |none=>rw[zi1];lia
     |some v=>
      have k3:=(g p).2 v k
      have:(p,v)∈onF h w F ls:=z63.mpr ⟨k3,ok⟩
      have k4:=Qdz rn hl' _ this
      rw[z98]
      exact z93 k4 up
    ·obtain⟨u,hu,e⟩:=z40.mp e
     rw[← e]
     exact sp.cl u (Qf0 hu) p (QmS ok hu)
 ·rw[if_neg c]
  have z0:atL F p=0:=by lia
  have no:okN h w F p=false:=by unfold okN;simp[z0]
  rcases so with e|⟨u,hu,hn,e⟩
  ·rcases ll with e2|e2
   ·rw[e,e2]
   ·have:=(z63.mp e2).2
    rw[no] at this;cases this
  ·have:=Qf0 hn
   rw[no] at this;cases this
end
variable {z:Z}
section
variable {h w:Nat}{F N R:List (List Int)}{p:Int×Int}{q:D}{ls G:List PN}
def tD (h w:Nat)(N R:List (List Int)):D:=.tup [rD R,.lst ((unL h w N R).map pl)]
theorem max_eq {l:List Int}(h:l≠[]):Qkk [rwI l]=some (.int (Qki l)):=by
 cases l with
 |nil=>exact absurd rfl h
 |cons x l=>
  show(QhQ ((x::l).map D.int)).bind _=_
  rw[QaX]
  rfl
theorem QiN {l:List (Int×Int)}:(D.lst (l.map pl)).pln 30=true:=by
 show(l.map pl).all (D.pln 29)=true
 rw[zh2]
 exact z74.mpr fun _ _=>rfl
theorem Qme {v:Int}:(QmQ G p v).length<=G.length+1:=by
 unfold QmQ
 split
 ·rw[z00];lia
 ·rw[z16];exact z27 _
theorem QcD (rf:Rc h w F)(nf:Nn h w F)(rn:Rc h w N)(h1:1<=h)(hh:h<=30)(w1:1<=w)(hw:w<=30)(hn:ls.length<=2000)(hl:∀x∈ls,inR h w x.1)(sp:QoT h w F N (onF h w F ls) R):Jh z [rD F,rD N,.lst (ls.map pnD),tD h w N R]=.ok (.bl true) []:=JL (Jq (by
 unfold QaE
 have hz:h * w<=900:=z62 (zc6 hh hw) (by decide)
 refine Ws [~~~(rD F),~~~(rD N),~~~(.lst (ls.map pnD)),~~~(tD h w N R),none,none,none,none,none,none,none,none,none] ?_ ?_
 ·have i1:QfM [tD h w N R,.ty "tuple"]=some (.bl true):=rfl
  have i2:JT [tD h w N R]=some (.int 2):=rfl
  have i3:gIx (tD h w N R) (.int 0)=some (rD R):=rfl
  refine Qn.mpr ⟨(false,[~~~(rD F),~~~(rD N),~~~(.lst (ls.map pnD)),~~~(tD h w N R),none,none,none,none,none,none,none,none,none]),YE.mp ?_,YR.mpr ⟨rfl,rfl⟩⟩
  simp? only[i1,i2,i3,Q5 (QiM (z:=z) rf sp.rc h1 hw),true_and,ne_eq,not_true_eq_false]
 refine Ws [~~~(rD F),~~~(rD N),~~~(.lst (ls.map pnD)),~~~(tD h w N R),some (.own (QdP [])),none,none,none,none,none,none,none,none] ?_ ?_
 ·exact YR.mpr ⟨rfl,rfl⟩
 refine JC (fun ρ=>∃G s5 s6,frO s5/\frO s6/\Gd ls G/\ρ=[~~~(rD F),~~~(rD N),~~~(.lst (ls.map pnD)),~~~(tD h w N R),some (.own (QdP G)),s5,s6,none,none,none,none,none,none]) ?_ ?_
 ·have e2:∀ρ,siK (D.lst (ls.map pnD),ρ)=.ok (ls.map pnD,ρ):=fun _=>rfl
  simp? only[e2]
  refine Vi (fun i ρ=>∃G s5 s6,frO s5/\frO s6/\Gd (ls.take i) G/\G.length<=i/\ρ=[~~~(rD F),~~~(rD N),~~~(.lst (ls.map pnD)),~~~(tD h w N R),some (.own (QdP G)),s5,s6,none,none,none,none,none,none]) ⟨[],none,none,.inl rfl,.inl rfl,(fun q=>⟨(fun _ h=>nomatch h),(fun _ h=>nomatch h)⟩),z27 _,rfl⟩ ?_ ?_
  ·rintro i d ρ hd ⟨G,s5,s6,h5,h6,g,gl,rfl⟩
   rw[z18] at hd
   obtain⟨x,hx,rfl⟩:=z03.mp hd
   have li:=(z26.mp hx).1
   refine⟨[~~~(rD F),~~~(rD N),~~~(.lst (ls.map pnD)),~~~(tD h w N R),some (.own (QdP G)),~~~(pl x.1),~~~(.int x.2),none,none,none,none,none,none],?_,?_⟩
   ·exact QiJ rfl h5 rfl h6
   have ek:QfC (Qb (mV 5) Qr) [~~~(rD F),~~~(rD N),~~~(.lst (ls.map pnD)),~~~(tD h w N R),some (.own (QdP G)),~~~(pl x.1),~~~(.int x.2),none,none,none,none,none,none]=.ok (pl x.1,[~~~(rD F),~~~(rD N),~~~(.lst (ls.map pnD)),~~~(tD h w N R),some (.own (QdP G)),~~~(pl x.1),~~~(.int x.2),none,none,none,none,none,none]):=YE.mp (by simp? only[pl])
   have eg:=get_eq (md:=mB 4) (mk:=QfC (Qb (mV 5) Qr)) (mv:=mV 6) (ls:=G) (q:=x.1) (v:=x.2) (ρ:=[~~~(rD F),~~~(rD N),~~~(.lst (ls.map pnD)),~~~(tD h w N R),some (.own (QdP G)),~~~(pl x.1),~~~(.int x.2),none,none,none,none,none,none]) rfl ek rfl
   refine QoE (par:=false) (ls:=G) (q:=x.1) (v:=if(Qbr G x.1).getD x.2 > x.2 then(Qbr G x.1).getD x.2 else x.2) rfl (YE.mp ?_) ek (by rw[z36];lia) ?_
   ·simp? only[eg]
   ·have et:ls.take (i+1)=ls.take i++[x]:=by rw[zf2,hx];rfl
    refine⟨rfl,QmQ G x.1 (if(Qbr G x.1).getD x.2 > x.2 then(Qbr G x.1).getD x.2 else x.2),~~~(pl x.1),~~~(.int x.2),.inr ⟨_,rfl⟩,.inr ⟨_,rfl⟩,?_,z62 Qme (by lia),rfl⟩
    rw[et]
    exact g.put x
  ·rintro ρ ⟨G,s5,s6,h5,h6,g,_,rfl⟩
   rw[z00,zg0] at g
   exact⟨rfl,G,s5,s6,h5,h6,g,rfl⟩
 rintro ρ ⟨G,s5,s6,h5,h6,g,rfl⟩
 refine Ws [~~~(rD F),~~~(rD N),~~~(.lst (ls.map pnD)),~~~(tD h w N R),some (.own (QdP G)),s5,s6,~~~(rD R),~~~(.lst ((unL h w N R).map pl)),none,none,none,none] ?_ ?_
 ·exact Qn.mpr ⟨_,rfl,Qn.mpr ⟨_,rfl,YR.mpr ⟨rfl,rfl⟩⟩⟩
 refine JC (fun ρ=>∃s9 s10 s11 s12,frO s9/\frO s10/\frO s11/\frO s12/\ρ=[~~~(rD F),~~~(rD N),~~~(.lst (ls.map pnD)),~~~(tD h w N R),some (.own (QdP G)),s5,s6,~~~(rD R),~~~(.lst ((unL h w N R).map pl)),s9,s10,s11,s12]) ?_ ?_
 ·simp? only[V0 (VP rf h1 hh w1 hw)]
  refine Vi (fun i ρ=>∃s9 s10 s11 s12,frO s9/\frO s10/\frO s11/\frO s12/\ρ=[~~~(rD F),~~~(rD N),~~~(.lst (ls.map pnD)),~~~(tD h w N R),some (.own (QdP G)),s5,s6,~~~(rD R),~~~(.lst ((unL h w N R).map pl)),s9,s10,s11,s12]) ⟨none,none,none,none,.inl rfl,.inl rfl,.inl rfl,.inl rfl,rfl⟩ ?_ ?_
  ·rintro i d ρ hd ⟨s9,s10,s11,s12,h9,h10,h11,h12,rfl⟩
   rw[z18] at hd
   obtain⟨p,hp,rfl⟩:=z03.mp hd
   have ip:=Yl.mp (z37 hp)
   have ra:=Qmd nf rn hl g sp ip
   refine⟨[~~~(rD F),~~~(rD N),~~~(.lst (ls.map pnD)),~~~(tD h w N R),some (.own (QdP G)),s5,s6,~~~(rD R),~~~(.lst ((unL h w N R).map pl)),~~~(.int p.1),~~~(.int p.2),s11,s12],?_,?_⟩
   ·exact QiJ rfl h9 rfl h10
   refine Ws [~~~(rD F),~~~(rD N),~~~(.lst (ls.map pnD)),~~~(tD h w N R),some (.own (QdP G)),s5,s6,~~~(rD R),~~~(.lst ((unL h w N R).map pl)),~~~(.int p.1),~~~(.int p.2),~~~(.int (atL N p)),s12] ?_ ?_
   ·rcases h11 with rfl|⟨_,rfl⟩<;>simp? only[YU rn ip.1 ip.2.1,Qaz rn ip]<;>exact⟨trivial,trivial⟩
   refine JC (fun ρ=>∃s12,frO s12/\ρ=[~~~(rD F),~~~(rD N),~~~(.lst (ls.map pnD)),~~~(tD h w N R),some (.own (QdP G)),s5,s6,~~~(rD R),~~~(.lst ((unL h w N R).map pl)),~~~(.int p.1),~~~(.int p.2),~~~(.int (Qd8 h w F N R G p)),s12]) ?_ ?_
   ·unfold Qd8
    refine Qn.mpr ⟨(decide (atL F p > 0),[~~~(rD F),~~~(rD N),~~~(.lst (ls.map pnD)),~~~(tD h w N R),some (.own (QdP G)),s5,s6,~~~(rD R),~~~(.lst ((unL h w N R).map pl)),~~~(.int p.1),~~~(.int p.2),~~~(.int (atL N p)),s12]),YE.mp ?_,?_⟩
    ·simp? only[YU rf ip.1 ip.2.1,Qaz rf ip]
    dsimp only
    by_cases c:atL F p > 0
    ·rw[decide_eq_true c,if_pos rfl,if_pos c]
     refine Ws [~~~(rD F),~~~(rD N),~~~(.lst (ls.map pnD)),~~~(tD h w N R),some (.own (QdP G)),s5,s6,~~~(rD R),~~~(.lst ((unL h w N R).map pl)),~~~(.int p.1),~~~(.int p.2),~~~(.int (atL N p)),~~~(rwI ((nbL h w F p).map fun q=>atL R q - atL F p))] ?_ ?_
     ·simp? only[V0 (QiL (z:=z) (p:=p) rf nf h1)]
      refine QmN (f:=fun _=>true) (g:=fun d=>.int (atL R (pD d) - atL F p)) (di:=[]) (ρb:=[none,none,~~~(rD R),~~~(rD F),~~~(.int p.1),~~~(.int p.2)]) (os:=[]) rfl rfl ?_ (by rw[z36,z00];have:=Qky (h:=h) (w:=w) (F:=F) p;lia) rfl rfl ?_
      ·intro d hd
       obtain⟨q,hq,rfl⟩:=z40.mp hd
       have iq:=(Vl (Qf0 hq)).1
       refine⟨[~~~(.int q.1),~~~(.int q.2),~~~(rD R),~~~(rD F),~~~(.int p.1),~~~(.int p.2)],rfl,rfl,fun _=>YE.mp ?_,rfl⟩
       simp? only[YU sp.rc iq.1 iq.2.1,Qaz sp.rc iq,YU rf ip.1 ip.2.1,Qaz rf ip]
       rfl
      ·have e8:(((nbL h w F p).map pl).filter fun _=>true).map (fun d=>D.int (atL R (pD d) - atL F p))=((nbL h w F p).map fun q=>atL R q - atL F p).map D.int:=by
        rw[zt5.mpr fun _ _=>rfl,z60,z60];rfl
       rw[e8]
       rcases h12 with rfl|⟨_,rfl⟩<;>simp? only[]<;>exact⟨trivial,rfl⟩
     have eg:=get_eq (md:=mB 4) (mk:=Qcv (Qb (mV 9) (Qb (mV 10) Qr))) (mv:=mV 11) (ls:=G) (q:=p) (v:=atL N p) (ρ:=[~~~(rD F),~~~(rD N),~~~(.lst (ls.map pnD)),~~~(tD h w N R),some (.own (QdP G)),s5,s6,~~~(rD R),~~~(.lst ((unL h w N R).map pl)),~~~(.int p.1),~~~(.int p.2),~~~(.int (atL N p)),~~~(rwI ((nbL h w F p).map fun q=>atL R q - atL F p))]) rfl (YE.mp (by simp? only[];rfl)) rfl
     have e2:Qkk [.lst (.int (atL N p)::.int ((Qbr G p).getD (atL N p))::((nbL h w F p).map fun q=>atL R q - atL F p).map D.int)]=some (.int (Qki (atL N p::(Qbr G p).getD (atL N p)::(nbL h w F p).map fun q=>atL R q - atL F p))):=max_eq (l:=atL N p::(Qbr G p).getD (atL N p)::(nbL h w F p).map fun q=>atL R q - atL F p) (by simp)
     have e3:2+(((nbL h w F p).map fun q=>atL R q - atL F p).map D.int).length<=16777216:=by rw[z00,z00];have:=Qky (h:=h) (w:=w) (F:=F) p;lia
     simp only[rwI] at eg
     simp? only[eg,rwI,e3,e2]
     exact⟨trivial,_,.inr ⟨_,rfl⟩,rfl⟩
    ·rw[decide_eq_false c,if_neg (by decide),if_neg c]
     exact YR.mpr ⟨rfl,s12,h12,rfl⟩
   rintro ρ ⟨s12,h12,rfl⟩
   refine Qn.mpr ⟨(false,[~~~(rD F),~~~(rD N),~~~(.lst (ls.map pnD)),~~~(tD h w N R),some (.own (QdP G)),s5,s6,~~~(rD R),~~~(.lst ((unL h w N R).map pl)),~~~(.int p.1),~~~(.int p.2),~~~(.int (Qd8 h w F N R G p)),s12]),YE.mp ?_,YR.mpr ⟨rfl,~~~(.int p.1),~~~(.int p.2),~~~(.int (Qd8 h w F N R G p)),s12,.inr ⟨_,rfl⟩,.inr ⟨_,rfl⟩,.inr ⟨_,rfl⟩,h12,rfl⟩⟩
   simp? only[YU sp.rc ip.1 ip.2.1,Qaz sp.rc ip,ra,ne_eq,not_true_eq_false]
  ·rintro ρ ⟨s9,s10,s11,s12,h9,h10,h11,h12,rfl⟩
   exact⟨rfl,s9,s10,s11,s12,h9,h10,h11,h12,rfl⟩
 rintro ρ ⟨s9,s10,s11,s12,h9,h10,h11,h12,rfl⟩
 simp? only[V0 (VP rf h1 hh w1 hw)]
 refine QmN (f:=fun d=>decide (atL R (pD d)≠atL N (pD d))) (g:=fun d=>d) (di:=[]) (ρb:=[none,none,~~~(rD R),~~~(rD N)]) (os:=[]) rfl rfl ?_ (by rw[z36,z00,Vf];lia) rfl rfl ?_
 ·intro d hd
  obtain⟨p,hp,rfl⟩:=z40.mp hd
  have ip:=Yl.mp hp
  refine⟨[~~~(.int p.1),~~~(.int p.2),~~~(rD R),~~~(rD N)],rfl,YE.mp ?_,fun _=>YE.mp ?_,rfl⟩
  ·simp? only[YU sp.rc ip.1 ip.2.1,Qaz sp.rc ip,YU rn ip.1 ip.2.1,Qaz rn ip]
   rfl
  ·simp? only[]
   rfl
 have e9:(((cel w h).map pl).filter (fun d=>decide (atL R (pD d)≠atL N (pD d)))).map (fun d=>d)=(unL h w N R).map pl:=by
  rw[ze1 (fun _=>rfl),zg5]
  unfold unL
  congr 1
  refine List.filter_congr fun p _=>?_
  exact decide_eq_decide.mpr ⟨zd4,zd4⟩
 rw[e9]
 simp? only[QlS (QiN (l:=unL h w N R))]
 refine⟨_,[],rfl,?_,rfl,rfl⟩
 refine(Ym h5).trans ((Ym h6).trans ?_)
 show outs [] [s9,s10,s11,s12]=some []
 exact(Ym h9).trans ((Ym h10).trans ((Ym h11).trans (Ym h12)))))
end
variable {z:Z}
section
variable {h w:Nat}{F N:List (List Int)}{p:Int×Int}{xs:List Int}{q:D}{G:List PN}
theorem Qk3:∀(L:List (List Int)),D.Jo (L.map tuI)=true
 | []=>rfl
 |l::L=>by
  show(D.imm (tuI l) && D.Jo (L.map tuI))=true
  rw[Qk3 L,zq7]
  exact Vk l
theorem QmT {L:List (List Int)}:(flD z L).imm=true:=by
 show(D.imm (tuD L) && true)=true
 rw[zq7]
 exact Qk3 L
theorem Qh3 {L:List (List Int)}:(QiA z.Qh (flD z L) && (flD z L).imm)=true:=by
 have a:QiA z.Qh (flD z L)=true:=by show(decide (z.Qh=z.Qh) && _)=true;simp
 rw[a,QmT];rfl
theorem QoI (r:Rc h w F)(hh:h<=30):YM z [flD z F]=.ok (rD F) []:=JL (Jq (by
 unfold QaC
 have e3:siK (tuD F,[~~~(flD z F)])=.ok (F.map tuI,[~~~(flD z F)]):=rfl
 simp? only[Qd7,e3]
 refine Qc3 (g:=t2l) (di:=[]) (ρb:=[none]) (os:=[]) rfl rfl ?_ (by rw[z36,z00,r.hi];lia) rfl rfl ?_
 ·intro d hd
  obtain⟨l,hl,rfl⟩:=z40.mp hd
  have e6:liK ([tuI l],[~~~(tuI l)])=.ok (rwI l,[~~~(tuI l)]):=by
   show(if D.Jo (l.map D.int)=true then _ else _)=_
   rw[if_pos (Vk l)];rfl
  refine⟨[~~~(tuI l)],rfl,YE.mp ?_,rfl⟩
  simp? only[e6]
  rfl
 ·simp? only[]
  refine⟨_,_,rfl,rfl,?_,rfl⟩
  show D.lst _=D.lst _
  rw[z60];rfl))
theorem Qhc (ok:okL F){x:Int}(h0:0<=x)(h1:x<QbK):okL (Qce F p x):=by
 intro l hl y hy
 unfold Qce at hl
 rcases zh4 hl with hl|rfl
 ·exact ok l hl y hy
 ·rcases zh4 hy with hy|rfl
  ·rw[z12] at hy
   cases e:F[p.1.toNat]? with
   |none=>rw[e] at hy;exact nomatch hy
   |some l=>rw[e] at hy;exact ok l (z37 e) y hy
  ·exact⟨h0,h1⟩
theorem Qk4 (r:Rc h w F)(hp:inR h w p){x:Int}:(F.map rwI).set p.1.toNat (.lst (((F.getD p.1.toNat []).map D.int).set p.2.toNat (.int x)))=(Qce F p x).map rwI:=by
 unfold Qce
 rw[zm9]
 unfold rwI
 rw[zm9]
theorem Qk5 (r:Rc h w F)(hp:inR h w p):(F.map rwI)[p.1.toNat]? = some (.lst ((F.getD p.1.toNat []).map D.int)):=by
 have hl:p.1.toNat<F.length:=by rw[r.hi];have:=hp.1;have:=hp.2.1;lia
 rw[z18,z04 hl,z12,z04 hl];rfl
theorem Qmf {x:Int}(r:Rc h w F)(ok:okL F)(h1:1<=h)(hh:h<=30)(w1:1<=w)(hw:w<=30)(hp:inR h w p)(x0:0<=x)(x1:x<QbK):Q4 z [flD z F,pl p,.int x]=.ok (flD z (Qce F p x)) []:=JL (Jq (by
 unfold Yv
 have i1:=Yk (z:=z) (F:=F) (nm := "check_place") (by decide)
 have i2:=Yk (z:=z) (F:=F) (nm := "rows") (by decide)
 refine Ws [~~~(flD z F),~~~(pl p),~~~(.int x),none] ?_ ?_
 ·simp? only[i1,Q5 (QcC r h1 hp),true_and]
 refine Ws [~~~(flD z F),~~~(pl p),~~~(.int x),some (.own (rD F))] ?_ ?_
 ·simp? only[i2,V0 (QoI r hh)]
  exact⟨trivial,trivial⟩
 refine Ws [~~~(flD z F),~~~(pl p),~~~(.int x),some (.own (rD (Qce F p x)))] ?_ ?_
 ·refine Qcz (par:=false) (ys:=F.map rwI) (xs:=(F.getD p.1.toNat []).map D.int) (d:=.int x) (n:=p.1) (j:=p.2) rfl rfl rfl rfl (Qay hp.1 (by rw[z00,r.hi];exact hp.2.1)) (Qk5 r hp) (Qay hp.2.2.1 (by rw[z00,r.row hp.1 hp.2.1];exact hp.2.2.2)) ⟨rfl,?_⟩
  rw[Qk4 r hp];rfl
 have e5:Qkc z.Qh (QU z) (Qb (mB 3) Qr) [~~~(flD z F),~~~(pl p),~~~(.int x),some (.own (rD (Qce F p x)))]=.ok (flD z (Qce F p x),[~~~(flD z F),~~~(pl p),~~~(.int x),some (.own (rD (Qce F p x)))]):=
  Ql0 (x:=rD (Qce F p x)) (YE.mp (by simp? only[])) (fun y=>Qe0 (r.set hp) h1 hh w1 hw (Qhc ok x0 x1)) Qh3
 refine Qn.mpr ⟨_,e5,YR.mpr ⟨_,[],rfl,rfl,rfl,rfl⟩⟩))
def Quc (h w:Nat)(d:D)(os:List D):Prop:=∃(G:List (List Int)) (q:D),os=[q]/\Pot q/\d=rD G/\Rc h w G/\okL G
theorem QiO (rf:Rc h w F)(ok:okL F)(h1:1<=h)(hh:h<=30)(w1:1<=w)(hw:w<=30)(hq:Pot q):FW (JQ z [q,rD F]) (Quc h w):=Jq (by
 unfold Vx
 have g1:JT [rD F]=some (.int h):=by unfold rD;simp[JT,rf.hi]
 have g2:JT [rwI (F.getD (0:Int).toNat [])]=some (.int w):=by
  have:=rf.row (i:=0) (by decide) (by lia)
  unfold rwI
  simp only[JT,z00,this]
 simp only[za3] at g2
 refine Ws [some (.par q),~~~(rD F),some (.own (rD F)),none,none,none] ?_ ?_
 ·have e3:∀ρ,siK (rD F,ρ)=.ok (F.map rwI,ρ):=fun _=>rfl
  simp? only[e3]
  refine Qc3 (g:=fun d=>d) (di:=[]) (ρb:=[none]) (os:=[]) rfl rfl ?_ (by rw[z36,z00,rf.hi];lia) rfl rfl ?_
  ·intro d hd
   obtain⟨l,hl,rfl⟩:=z40.mp hd
   have e6:liK ([rwI l],[~~~(rwI l)])=.ok (rwI l,[~~~(rwI l)]):=by
    show(if D.Jo (l.map D.int)=true then _ else _)=_
    rw[if_pos (Vk l)];rfl
   refine⟨[~~~(rwI l)],rfl,YE.mp ?_,rfl⟩
   simp? only[e6]
  ·simp? only[]
   refine⟨trivial,?_⟩
   rw[ze1 (fun _=>rfl)];rfl
 refine JC (fun ρ=>∃(q:D) (G:List (List Int)) (s3 s4 s5:Option Sl),Pot q/\frO s3/\frO s4/\frO s5/\Rc h w G/\okL G/\ρ=[some (.par q),~~~(rD F),some (.own (rD G)),s3,s4,s5]) ?_ ?_
 ·simp? only[]
  refine Vs (p:=q) (P:=spT 3) rfl (Jn hq (by decide) (by decide)) fun _ _ ⟨r1,q1,e1,e2,hq1,k0,k1⟩=>⟨q1,e2,?_⟩;subst e1
  have b1:(-4611686018427387904:Int)<=1+r1/\(1+r1:Int)<4611686018427387904:=by lia
  simp? only[b1,and_self]
  refine Vi (fun i ρ=>∃(q:D) (G:List (List Int)) (s3 s4 s5:Option Sl),Pot q/\frO s3/\frO s4/\frO s5/\Rc h w G/\okL G/\ρ=[some (.par q),~~~(rD F),some (.own (rD G)),s3,s4,s5]) ⟨q1,F,none,none,none,hq1,.inl rfl,.inl rfl,.inl rfl,rf,ok,rfl⟩ ?_ ?_
  ·rintro i d ρ hd ⟨q,G,s3,s4,s5,hq,h3,h4,h5,rg,og,rfl⟩
   refine⟨[some (.par q),~~~(rD F),some (.own (rD G)),~~~d,s4,s5],?_,?_⟩
   ·exact Qci rfl h3
   refine JC (fun ρ=>∃(q:D) (r:Int),Pot q/\0<=r/\r<h/\ρ=[some (.par q),~~~(rD F),some (.own (rD G)),~~~d,~~~(.int r),s5]) ?_ ?_
   ·simp? only[g1]
    refine Vs (p:=q) (P:=spT h) rfl (Jn hq (by lia) (zb0 (b:=31) (by lia) (by decide))) fun _ _ ⟨r1,q1,e1,e2,hq1,k0,k1⟩=>⟨q1,e2,?_⟩;subst e1
    rcases h4 with rfl|⟨_,rfl⟩<;>simp? only[]<;>exact⟨trivial,q1,r1,hq1,k0,k1,rfl⟩
   rintro ρ ⟨q,r,hq,r0,r1,rfl⟩
   refine JC (fun ρ=>∃(q:D) (c:Int),Pot q/\0<=c/\c<w/\ρ=[some (.par q),~~~(rD F),some (.own (rD G)),~~~d,~~~(.int r),~~~(.int c)]) ?_ ?_
   ·simp? only[YU rf (i:=0) (by decide) (by lia),g2]
    refine Vs (p:=q) (P:=spT w) rfl (Jn hq (by lia) (zb0 (b:=31) (by lia) (by decide))) fun _ _ ⟨r1,q1,e1,e2,hq1,k0,k1⟩=>⟨q1,e2,?_⟩;subst e1
    rcases h5 with rfl|⟨_,rfl⟩<;>simp? only[]<;>exact⟨trivial,q1,r1,hq1,k0,k1,rfl⟩
   rintro ρ ⟨q,c,hq,c0,c1,rfl⟩
   have ip:inR h w (r,c):=⟨r0,r1,c0,c1⟩
   obtain⟨_,_,el,q2,rfl,hq2,x,rfl,x0,x1⟩:=QkK (z:=z) hq
   refine QhS (par:=false) (ρ1:=[some (.par q2),~~~(rD F),some (.own (rD G)),~~~d,~~~(.int r),~~~(.int c)]) (ys:=G.map rwI) (xs:=(G.getD r.toNat []).map D.int) (d:=.int x) (n:=r) (j:=c) rfl (YE.mp ?_) rfl rfl (Qay r0 (by rw[z00,rg.hi];exact r1)) (Qk5 rg ip) (Qay c0 (by rw[z00,rg.row r0 r1];exact c1)) ?_
   ·simp? only[]
    refine QgW (p:=q) (P:=fun d os=>d=.int x/\os=[q2]) rfl ⟨_,_,el,rfl,rfl⟩ fun d _ ⟨e1,e2⟩=>⟨q2,e2,?_⟩;subst e1
    simp? only[]
   ·refine⟨rfl,q2,Qce G (r,c) x,~~~d,~~~(.int r),~~~(.int c),hq2,.inr ⟨_,rfl⟩,.inr ⟨_,rfl⟩,.inr ⟨_,rfl⟩,rg.set ip,Qhc og x0 x1,?_⟩
    have:=Qk4 rg ip (x:=x)
    dsimp only at this
    rw[this];rfl
  ·rintro ρ ⟨q,G,s3,s4,s5,hq,h3,h4,h5,rg,og,rfl⟩
   exact⟨rfl,q,G,s3,s4,s5,hq,h3,h4,h5,rg,og,rfl⟩
 rintro ρ ⟨q,G,s3,s4,s5,hq,h3,h4,h5,rg,og,rfl⟩
 simp? only[]
 refine⟨_,[q],rfl,?_,G,q,rfl,hq,rfl,rg,og⟩
 rcases h3 with rfl|⟨_,rfl⟩<;>rcases h4 with rfl|⟨_,rfl⟩<;>rcases h5 with rfl|⟨_,rfl⟩<;>rfl)
theorem Qk6 (rf:Rc h w F)(rn:Rc h w N)(h1:1<=h)(hh:h<=30)(w1:1<=w)(hw:w<=30):FW (QS z [rD F,rD N]) (Qub h w):=Jq (by
 unfold JE
 refine Ws [~~~(rD F),~~~(rD N),some (.own (rD N)),none,none] ?_ ?_
 ·have e3:∀ρ,siK (rD N,ρ)=.ok (N.map rwI,ρ):=fun _=>rfl
  simp? only[e3]
  refine Qc3 (g:=fun d=>d) (di:=[]) (ρb:=[none]) (os:=[]) rfl rfl ?_ (by rw[z36,z00,rn.hi];lia) rfl rfl ?_
  ·intro d hd
   obtain⟨l,hl,rfl⟩:=z40.mp hd
   have e6:liK ([rwI l],[~~~(rwI l)])=.ok (rwI l,[~~~(rwI l)]):=by
    show(if D.Jo (l.map D.int)=true then _ else _)=_
    rw[if_pos (Vk l)];rfl
   refine⟨[~~~(rwI l)],rfl,YE.mp ?_,rfl⟩
   simp? only[e6]
  ·simp? only[]
   refine⟨trivial,?_⟩
   rw[ze1 (fun _=>rfl)];rfl
 refine JC (fun ρ=>∃(G:List (List Int)) (s3 s4:Option Sl),frO s3/\frO s4/\Rc h w G/\ρ=[~~~(rD F),~~~(rD N),some (.own (rD G)),s3,s4]) ?_ ?_
 ·simp? only[V0 (VP rf h1 hh w1 hw)]
  refine Vi (fun i ρ=>∃(G:List (List Int)) (s3 s4:Option Sl),frO s3/\frO s4/\Rc h w G/\ρ=[~~~(rD F),~~~(rD N),some (.own (rD G)),s3,s4]) ⟨N,none,none,.inl rfl,.inl rfl,rn,rfl⟩ ?_ ?_
  ·rintro i d ρ hd ⟨G,s3,s4,h3,h4,rg,rfl⟩
   rw[z18] at hd
   obtain⟨p,hp,rfl⟩:=z03.mp hd
   have ip:=Yl.mp (z37 hp)
   refine⟨[~~~(rD F),~~~(rD N),some (.own (rD G)),~~~(.int p.1),~~~(.int p.2)],?_,?_⟩
   ·exact QiJ rfl h3 rfl h4
   refine Qn.mpr ⟨(decide (atL F p=0),[~~~(rD F),~~~(rD N),some (.own (rD G)),~~~(.int p.1),~~~(.int p.2)]),YE.mp ?_,?_⟩
   ·simp? only[YU rf ip.1 ip.2.1,Qaz rf ip]
   dsimp only
   by_cases c:atL F p=0
   ·rw[decide_eq_true c,if_pos rfl]
    refine Qcz (par:=false) (ys:=G.map rwI) (xs:=(G.getD p.1.toNat []).map D.int) (d:=.int 0) (n:=p.1) (j:=p.2) rfl rfl rfl rfl (Qay ip.1 (by rw[z00,rg.hi];exact ip.2.1)) (Qk5 rg ip) (Qay ip.2.2.1 (by rw[z00,rg.row ip.1 ip.2.1];exact ip.2.2.2)) ⟨rfl,Qce G p 0,~~~(.int p.1),~~~(.int p.2),.inr ⟨_,rfl⟩,.inr ⟨_,rfl⟩,rg.set ip,?_⟩
    rw[Qk4 rg ip];rfl
   ·rw[decide_eq_false c,if_neg (by decide)]
    exact YR.mpr ⟨rfl,G,~~~(.int p.1),~~~(.int p.2),.inr ⟨_,rfl⟩,.inr ⟨_,rfl⟩,rg,rfl⟩
  ·rintro ρ ⟨G,s3,s4,h3,h4,rg,rfl⟩
   exact⟨rfl,G,s3,s4,h3,h4,rg,rfl⟩
 rintro ρ ⟨G,s3,s4,h3,h4,rg,rfl⟩
 simp? only[]
 refine⟨_,[],rfl,?_,rfl,G,rfl,rg⟩
 rcases h3 with rfl|⟨_,rfl⟩<;>rcases h4 with rfl|⟨_,rfl⟩<;>rfl)
theorem QrJ (ra:Rc h w F)(rb:Rc h w N)(e:∀p,inR h w p->atL F p=atL N p):F=N:=by
 apply zg2 (by rw[ra.hi,rb.hi])
 intro i i1 i2
 have hi:i<h:=by rw[← ra.hi];exact i1
 have wa:=ra.wi _ (z91 i1)
 have wb:=rb.wi _ (z91 i2)
 apply zg2 (by rw[wa,wb])
 intro j j1 j2
 have:=e (i,j) ⟨by lia,by lia,by lia,by lia⟩
 unfold atL at this
 simp only[z82,z12,z04 i1,z04 i2,z98,z04 j1,z04 j2] at this
 exact this
end
variable {z:Z}
section
variable {h w:Nat}{F N R:List (List Int)}{p:Int×Int}{xs:List Int}
theorem QoJ (r:Rc h w F)(ok:okL F)(hp:inR h w p):0<=atL F p/\atL F p<QbK:=by
 have hl:p.1.toNat<F.length:=by rw[r.hi];have:=hp.1;have:=hp.2.1;lia
 have wl:=r.wi _ (z91 hl)
 have hj:p.2.toNat<F[p.1.toNat].length:=by rw[wl];have:=hp.2.2.1;have:=hp.2.2.2;lia
 have:=ok _ (z91 hl) _ (z91 hj)
 unfold atL
 simp only[z12,z04 hl,z98,z04 hj]
 exact this
theorem QoK {α:Type}{l:List α}:cutD l none (some 20)=l.take 20:=by
 unfold cutD
 rw[HT.Qln,show(some (20:Int))=some ((20:Nat):Int) from rfl,HT.Qne,zk3,Nat.sub_zero]
 by_cases c:l.length<=20
 ·rw[Nat.min_eq_right c,zg0,z84 c]
 ·rw[zj8 (by lia)]
def c20 (d:D):D:=match d with
 |.nd .lst xs=>.lst (cutD xs none (some 20))
 |d=>d
theorem QoL (r:Rc h w F):Rc (min 20 h) (min 20 w) ((F.take 20).map (List.take 20)):=⟨by rw[z00,z49,r.hi],fun l hl=>by
 obtain⟨l',h',rfl⟩:=z40.mp hl
 rw[z49,r.wi l' (z90 h')]⟩
theorem Qmg (ok:okL F):okL ((F.take 20).map (List.take 20)):=fun l hl x hx=>by
 obtain⟨l',h',rfl⟩:=z40.mp hl
 exact ok l' (z90 h') x (z90 hx)
theorem QrK:(tD h w N R).pln 30=true:=by
 have a:(rD R).pln 29=true:=by
  show(R.map rwI).all (D.pln 28)=true
  rw[zh2]
  refine z74.mpr fun l _=>?_
  show(l.map D.int).all (D.pln 27)=true
  rw[zh2]
  exact z74.mpr fun _ _=>rfl
 have b:(D.lst ((unL h w N R).map pl)).pln 29=true:=by
  show((unL h w N R).map pl).all (D.pln 28)=true
  rw[zh2]
  exact z74.mpr fun _ _=>rfl
 show[rD R,.lst ((unL h w N R).map pl)].all (D.pln 29)=true
 rw[zi6,zi6,a,b];rfl
end
structure Zok (z:Z):Prop where
 dummy:True
theorem QrL (ns:List Int):FW (Ql2 z [script ns]) (fun d os=>d=.bl true/\os=[]):=Jq (by
 unfold Qot
 refine JC (fun ρ=>∃(h w:Nat) (F:List (List Int)),Rc h w F/\okL F/\1<=h/\h<=20/\1<=w/\w<=20/\ρ=[~~~(script ns),~~~(rD F),none,none,none,none,none,none,none,none,none,none,none]) ?_ ?_
 ·obtain⟨_,_,el,rfl,h,w,F,rfl,rf,ok,h1,hh,w1,hw⟩:=Qk0 (z:=z) (xs:=ns)
  have e3:rD F=.nd .lst (F.map rwI):=rfl
  have e4:∀ρ,siK (D.lst (cutD (F.map rwI) none (some 20)),ρ)=.ok (cutD (F.map rwI) none (some 20),ρ):=fun _=>rfl
  simp? only[V0 el,Qtd,QqX,QmG,QqW,e3,QqY,e4]
  rw[QoK,← zl5]
  refine Qc3 (g:=c20) (di:=[]) (ρb:=[none]) (os:=[]) rfl rfl ?_ (by rw[z36,z00,z49];lia) rfl rfl ?_
  ·intro d hd
   obtain⟨l,hl,rfl⟩:=z40.mp hd
   have e5:rwI l=.nd .lst (l.map D.int):=rfl
   have e6:D.Jo (cutD (l.map D.int) none (some 20))=true:=by rw[QoK,← zl5];exact Vk _
   refine⟨[~~~(rwI l)],rfl,YE.mp ?_,rfl⟩
   simp? only[Qte,QqX,QmG,QqW,e5,QqZ,e6]
   rfl
  ·have e7:((F.take 20).map rwI).map c20=((F.take 20).map (List.take 20)).map rwI:=by
    rw[z60,z60]
    refine z86 fun l _=>?_
    show D.lst (cutD (l.map D.int) none (some 20))=D.lst ((l.take 20).map D.int)
    rw[QoK,zl5]
   rw[e7]
   simp? only[]
   exact⟨trivial,min 20 h,min 20 w,_,QoL rf,Qmg ok,by lia,by lia,by lia,by lia,rfl⟩
 rintro ρ ⟨h,w,F,rf,okF,h1,hh,w1,hw,rfl⟩
 have hh:h<=30:=by lia
 have hw:w<=30:=by lia
 have nf:Nn h w F:=fun p hp=>(QoJ rf okF hp).1
 refine JC (fun ρ=>∃q,Pot q/\ρ=[~~~(script ns),~~~(rD F),some (.own q),none,none,none,none,none,none,none,none,none,none]) ?_ ?_
 ·simp? only[]
  refine Qj6 (QbN ns 62 (by decide)) fun d os hz=>?_
  obtain⟨_,hd⟩:=hz
  refine⟨(fun q=>nomatch q),?_⟩
  simp? only[]
  exact⟨trivial,d,hd,rfl⟩
 rintro ρ ⟨q,hq,rfl⟩
 refine JC (fun ρ=>∃(q:D) (G:List (List Int)),Pot q/\Rc h w G/\okL G/\ρ=[~~~(script ns),~~~(rD F),some (.own q),~~~(rD G),none,none,none,none,none,none,none,none,none]) ?_ ?_
 ·simp? only[]
  refine Vs (p:=q) (P:=Quc h w) rfl (QiO rf okF h1 hh w1 hw hq) fun d os hz=>?_
  obtain⟨G,q1,e1,hq1,e2,rg,og⟩:=hz
  refine⟨q1,e1,?_⟩
  subst e2
  simp? only[]
  exact⟨trivial,q1,G,hq1,rg,og,rfl⟩
 rintro ρ ⟨q,G,hq,rg,okG,rfl⟩
 have ng:Nn h w G:=fun p hp=>(QoJ rg okG hp).1
 obtain⟨_,_,en,rfl,N0,rfl,rN0⟩:=QiK (z:=z) (xs:=ns) rf hh hw
 obtain⟨_,_,ed,rfl,N,rfl,rN⟩:=Qk6 (z:=z) rg rN0 h1 hh w1 hw
 refine Ws [~~~(script ns),~~~(rD F),some (.own q),~~~(rD G),~~~(rD N),none,none,none,none,none,none,none,none] ?_ ?_
 ·simp? only[V0 en,V0 ed]
  exact⟨trivial,trivial⟩
 obtain⟨pd,_,ep,rfl,hpd⟩:=QbN (z:=z) ns 61 (by decide)
 obtain⟨_,_,es,ls,q',rfl,rfl,hln,hl⟩:=Qk1 (z:=z) rN h1 hh w1 hw hpd
 refine Ws [~~~(script ns),~~~(rD F),some (.own q),~~~(rD G),~~~(rD N),~~~(.lst (ls.map pnD)),none,none,none,none,none,none,none] ?_ ?_
 ·exact Qn.mpr ⟨_,Qol (ρ1:=[~~~(script ns),~~~(rD F),some (.own q),~~~(rD G),~~~(rD N),none,none,none,none,none,none,none,none]) (YE.mp (by simp? only[V0 ep])) es,YR.mpr ⟨rfl,rfl⟩⟩
 refine Ws [~~~(script ns),~~~(rD F),some (.own q),~~~(rD G),~~~(rD N),~~~(.lst (ls.map pnD)),~~~(flD z F),none,none,none,none,none,none] ?_ ?_
 ·exact Qn.mpr ⟨_,Ql0 (x:=rD F) (ρ1:=[~~~(script ns),~~~(rD F),some (.own q),~~~(rD G),~~~(rD N),~~~(.lst (ls.map pnD)),none,none,none,none,none,none,none]) (YE.mp (by simp? only[])) (fun y=>Qe0 rf h1 hh w1 hw okF) Qh3,YR.mpr ⟨rfl,rfl⟩⟩
 obtain⟨_,_,er,rfl,R,rfl,sp⟩:=QbM (z:=z) rf nf rN h1 hh w1 hw hl
 change _=Fr.ok (tD h w N R) [] at er
 refine Ws [~~~(script ns),~~~(rD F),some (.own q),~~~(rD G),~~~(rD N),~~~(.lst (ls.map pnD)),~~~(flD z F),~~~(tD h w N R),none,none,none,none,none] ?_ ?_
 ·simp? only[V0 er]
  exact⟨trivial,trivial⟩
 refine Ws [~~~(script ns),~~~(rD F),some (.own q),~~~(rD G),~~~(rD N),~~~(.lst (ls.map pnD)),~~~(flD z F),~~~(tD h w N R),none,none,none,none,none] ?_ ?_
 ·exact Qn.mpr ⟨_,not_eq (Qc1 (YT (args:=[rD F,rD N,.lst (ls.map pnD),tD h w N R]) rfl (QcD (z:=z) rf nf rN h1 hh w1 hw (by lia) hl sp) fun _=>rfl)),YR.mpr ⟨rfl,rfl⟩⟩
 refine Ws [~~~(script ns),~~~(rD F),some (.own q),~~~(rD G),~~~(rD N),~~~(.lst (ls.map pnD)),~~~(flD z F),~~~(tD h w N R),~~~(flD z G),none,none,none,none] ?_ ?_
 ·exact Qn.mpr ⟨_,Ql0 (x:=rD G) (ρ1:=[~~~(script ns),~~~(rD F),some (.own q),~~~(rD G),~~~(rD N),~~~(.lst (ls.map pnD)),~~~(flD z F),~~~(tD h w N R),none,none,none,none,none]) (YE.mp (by simp? only[])) (fun y=>Qe0 rg h1 hh w1 hw okG) Qh3,YR.mpr ⟨rfl,rfl⟩⟩
 refine JC (fun ρ=>∃(q:D) (s9 s10:Option Sl),Pot q/\frO s9/\frO s10/\ρ=[~~~(script ns),~~~(rD F),some (.own q),~~~(rD G),~~~(rD N),~~~(.lst (ls.map pnD)),~~~(flD z F),~~~(tD h w N R),~~~(flD z G),s9,s10,none,none]) ?_ ?_
 ·simp? only[]
  refine Vs (p:=q) (P:=spT 4) rfl (Jn hq (by decide) (by decide)) fun _ _ ⟨r1,q1,e1,e2,hq1,_,_⟩=>⟨q1,e2,?_⟩;subst e1
  simp? only[]
  refine QfR (fun _=>?_) (fun _=>?_)
  ·refine Ws [~~~(script ns),~~~(rD F),some (.own q1),~~~(rD G),~~~(rD N),~~~(.lst (ls.map pnD)),~~~(flD z F),~~~(tD h w N R),~~~(flD z F),none,none,none,none] ?_ ?_
   ·simp? only[]
    exact⟨trivial,trivial⟩
   simp? only[V0 (VP rf h1 hh w1 hw)]
   refine Vi (fun i ρ=>∃(H:List (List Int)) (s9 s10:Option Sl),frO s9/\frO s10/\Rc h w H/\okL H/\(∀p,inR h w p->(p∈(cel w h).take i->atL H p=atL G p)/\(p∉(cel w h).take i->atL H p=atL F p))/\ρ=[~~~(script ns),~~~(rD F),some (.own q1),~~~(rD G),~~~(rD N),~~~(.lst (ls.map pnD)),~~~(flD z F),~~~(tD h w N R),~~~(flD z H),s9,s10,none,none]) ⟨F,none,none,.inl rfl,.inl rfl,rf,okF,fun p _=>⟨(fun c=>by rw[zh3] at c;cases c),fun _=>rfl⟩,rfl⟩ ?_ ?_
   ·rintro i d ρ hd ⟨H,s9,s10,h9,h10,rH,okH,hH,rfl⟩
    rw[z18] at hd
    obtain⟨p,hp,rfl⟩:=z03.mp hd
    have ip:=Yl.mp (z37 hp)
    have et:(cel w h).take (i+1)=(cel w h).take i++[p]:=by rw[zf2,hp];rfl
    refine⟨[~~~(script ns),~~~(rD F),some (.own q1),~~~(rD G),~~~(rD N),~~~(.lst (ls.map pnD)),~~~(flD z F),~~~(tD h w N R),~~~(flD z H),~~~(.int p.1),~~~(.int p.2),none,none],?_,?_⟩
    ·exact QiJ rfl h9 rfl h10
    refine Qn.mpr ⟨(decide (atL G p≠atL F p),[~~~(script ns),~~~(rD F),some (.own q1),~~~(rD G),~~~(rD N),~~~(.lst (ls.map pnD)),~~~(flD z F),~~~(tD h w N R),~~~(flD z H),~~~(.int p.1),~~~(.int p.2),none,none]),YE.mp ?_,?_⟩
    ·simp? only[YU rg ip.1 ip.2.1,Qaz rg ip,YU rf ip.1 ip.2.1,Qaz rf ip]
    dsimp only
    by_cases c:atL G p≠atL F p
    ·rw[decide_eq_true c,if_pos rfl]
     have i1:=Yk (z:=z) (F:=H) (nm := "with_loss") (by decide)
     obtain⟨x0,x1⟩:=QoJ rg okG ip
     have ew:Q4 z [flD z H,.nd .tup [.int p.1,.int p.2],.int (atL G p)]=.ok (flD z (Qce H p (atL G p))) []:=Qmf (z:=z) rH okH h1 hh w1 hw ip x0 x1
     simp? only[i1,YU rg ip.1 ip.2.1,Qaz rg ip,Q5 ew,QmT,true_and]
     refine⟨Qce H p (atL G p),~~~(.int p.1),~~~(.int p.2),.inr ⟨_,rfl⟩,.inr ⟨_,rfl⟩,rH.set ip,Qhc okH x0 x1,fun u hu=>?_,rfl⟩
     rw[Qg1 rH ip hu,et]
     by_cases e:u=p
     ·subst e
      rw[if_pos rfl]
      exact⟨fun _=>rfl,fun k=>absurd (z02 _ z07) k⟩
     ·rw[if_neg e]
      refine⟨fun k=>(hH u hu).1 ?_,fun k=>(hH u hu).2 fun k'=>k (z06 _ k')⟩
      rcases z05.mp k with k|k
      ·exact k
      ·exact absurd (z25.mp k) e
    ·rw[decide_eq_false c,if_neg (by decide)]
     refine YR.mpr ⟨rfl,H,~~~(.int p.1),~~~(.int p.2),.inr ⟨_,rfl⟩,.inr ⟨_,rfl⟩,rH,okH,fun u hu=>?_,rfl⟩
     rw[et]
     have c':atL G p=atL F p:=Decidable.not_not.mp c
     refine⟨fun k=>?_,fun k=>(hH u hu).2 fun k'=>k (z06 _ k')⟩
     by_cases m:u∈(cel w h).take i
     ·exact(hH u hu).1 m
     ·rcases z05.mp k with k|k
      ·exact absurd k m
      ·have e:=z25.mp k
       subst e
       rw[(hH u hu).2 m,c']
   ·rintro ρ ⟨H,s9,s10,h9,h10,rH,okH,hH,rfl⟩
    have:H=G:=QrJ rH rg fun p hp=>(hH p hp).1 (by rw[z00,zg0];exact Yl.mpr hp)
    subst this
    exact⟨rfl,q1,s9,s10,hq1,h9,h10,rfl⟩
  ·exact YR.mpr ⟨rfl,q1,none,none,hq1,.inl rfl,.inl rfl,rfl⟩
 rintro ρ ⟨q,s9,s10,hq,h9,h10,rfl⟩
 refine Ws [~~~(script ns),~~~(rD F),some (.own q),~~~(rD G),~~~(rD N),~~~(.lst (ls.map pnD)),~~~(flD z F),~~~(tD h w N R),~~~(flD z G),s9,s10,some (.own (.lst (ls.map pnD))),none] ?_ ?_
 ·have e6:∀ρ,liK ([.lst (ls.map pnD)],ρ)=.ok (.lst (ls.map pnD),ρ):=fun ρ=>by
   show(if D.Jo (ls.map pnD)=true then _ else _)=_
   rw[if_pos (Qkq ls)]
  simp? only[e6]
  exact⟨trivial,trivial⟩
 refine JC (fun ρ=>∃(q:D) (ms:List PN) (s9 s10:Option Sl),frO s9/\frO s10/\ms.length<=2000/\(∀x∈ms,inR h w x.1)/\ρ=[~~~(script ns),~~~(rD F),some (.own q),~~~(rD G),~~~(rD N),~~~(.lst (ls.map pnD)),~~~(flD z F),~~~(tD h w N R),~~~(flD z G),s9,s10,some (.own (.lst (ms.map pnD))),none]) ?_ ?_
 ·simp? only[V0 (VP rf h1 hh w1 hw)]
  have hz:h * w<=900:=z62 (zc6 hh hw) (by decide)
  refine Vi (fun i ρ=>∃(q:D) (ms:List PN) (s9 s10:Option Sl),Pot q/\frO s9/\frO s10/\ms.length<=6+i/\(∀x∈ms,inR h w x.1)/\ρ=[~~~(script ns),~~~(rD F),some (.own q),~~~(rD G),~~~(rD N),~~~(.lst (ls.map pnD)),~~~(flD z F),~~~(tD h w N R),~~~(flD z G),s9,s10,some (.own (.lst (ms.map pnD))),none]) ⟨q,ls,s9,s10,hq,h9,h10,by lia,hl,rfl⟩ ?_ ?_
  ·rintro i d ρ hd ⟨q,ms,s9,s10,hq,h9,h10,hm,hml,rfl⟩
   have li:=(z26.mp hd).1
   rw[z00,Vf] at li
   rw[z18] at hd
   obtain⟨p,hp,rfl⟩:=z03.mp hd
   have ip:=Yl.mp (z37 hp)
   refine⟨[~~~(script ns),~~~(rD F),some (.own q),~~~(rD G),~~~(rD N),~~~(.lst (ls.map pnD)),~~~(flD z F),~~~(tD h w N R),~~~(flD z G),~~~(.int p.1),~~~(.int p.2),some (.own (.lst (ms.map pnD))),none],?_,?_⟩
   ·exact QiJ rfl h9 rfl h10
   refine Qn.mpr ⟨(decide (atL F p=0/\atL G p > 0),[~~~(script ns),~~~(rD F),some (.own q),~~~(rD G),~~~(rD N),~~~(.lst (ls.map pnD)),~~~(flD z F),~~~(tD h w N R),~~~(flD z G),~~~(.int p.1),~~~(.int p.2),some (.own (.lst (ms.map pnD))),none]),YE.mp ?_,?_⟩
   ·by_cases c:atL F p=0
    ·simp? only[YU rg ip.1 ip.2.1,Qaz rg ip,YU rf ip.1 ip.2.1,Qaz rf ip,c,true_and]
    ·simp? only[YU rf ip.1 ip.2.1,Qaz rf ip,c,false_and]
   dsimp only
   by_cases c:atL F p=0/\atL G p > 0
   ·rw[decide_eq_true c,if_pos rfl]
    have hz:(ms.map pnD).length<16777216:=by rw[z00];lia
    simp? only[]
    refine QgW (p:=q) (P:=spP Qgk) rfl (Qdv hq) fun d _ hz=>?_
    obtain⟨q2,e2,hq2,hd⟩:=hz
    refine⟨q2,e2,?_⟩
    obtain⟨x,rfl,_,_⟩:=hd
    simp? only[hz]
    refine⟨trivial,q2,ms++[(p,x)],~~~(.int p.1),~~~(.int p.2),hq2,.inr ⟨_,rfl⟩,.inr ⟨_,rfl⟩,by rw[z16];simp;lia,fun y hy=>?_,?_⟩
    ·rcases z05.mp hy with hy|hy
     ·exact hml y hy
     ·rw[z25.mp hy];exact ip
    ·rw[z68];rfl
   ·rw[decide_eq_false c,if_neg (by decide)]
    exact YR.mpr ⟨rfl,q,ms,~~~(.int p.1),~~~(.int p.2),hq,.inr ⟨_,rfl⟩,.inr ⟨_,rfl⟩,by lia,hml,rfl⟩
  ·rintro ρ ⟨q,ms,s9,s10,hq,h9,h10,hm,hml,rfl⟩
   rw[z00,Vf] at hm
   exact⟨rfl,q,ms,s9,s10,h9,h10,by lia,hml,rfl⟩
 rintro ρ ⟨q,ms,s9,s10,h9,h10,hm,hml,rfl⟩
 refine Ws [~~~(script ns),~~~(rD F),some (.own q),~~~(rD G),~~~(rD N),~~~(.lst (ls.map pnD)),~~~(flD z F),~~~(tD h w N R),~~~(flD z G),s9,s10,some (.own (.lst (ms.map pnD))),none] ?_ ?_
 ·obtain⟨_,_,er2,rfl,R2,rfl,sp2⟩:=QbM (z:=z) rg ng rN h1 hh w1 hw hml
  change _=Fr.ok (tD h w N R2) [] at er2
  have e2:Ql .O (Jl z) (Qb (mV 8) (Qb (mV 4) (Qb (mB 11) Qr))) [~~~(script ns),~~~(rD F),some (.own q),~~~(rD G),~~~(rD N),~~~(.lst (ls.map pnD)),~~~(flD z F),~~~(tD h w N R),~~~(flD z G),s9,s10,some (.own (.lst (ms.map pnD))),none]=.ok (tD h w N R2,[~~~(script ns),~~~(rD F),some (.own q),~~~(rD G),~~~(rD N),~~~(.lst (ls.map pnD)),~~~(flD z F),~~~(tD h w N R),~~~(flD z G),s9,s10,some (.own (.lst (ms.map pnD))),none]):=YT (args:=[flD z G,rD N,.lst (ms.map pnD)]) rfl er2 (fun q=>nomatch q)
  exact Qn.mpr ⟨_,not_eq (Qc1 (YT (args:=[rD G,rD N,.lst (ms.map pnD),tD h w N R2]) (Yr rfl (Yr rfl (Yr rfl (Yr e2 rfl)))) (QcD (z:=z) rg ng rN h1 hh w1 hw hm hml sp2) fun _=>rfl)),YR.mpr ⟨rfl,rfl⟩⟩
 refine Ws [~~~(script ns),~~~(rD F),some (.own q),~~~(rD G),~~~(rD N),~~~(.lst (ls.map pnD)),~~~(flD z F),~~~(tD h w N R),~~~(flD z G),s9,s10,some (.own (.lst (ms.map pnD))),none] ?_ ?_
 ·obtain⟨_,_,er2,rfl,R2,rfl,sp2⟩:=QbM (z:=z) rg ng rN h1 hh w1 hw hl
  change _=Fr.ok (tD h w N R2) [] at er2
  have e2:Ql .O (Jl z) (Qb (mV 8) (Qb (mV 4) (Qb (mV 5) Qr))) [~~~(script ns),~~~(rD F),some (.own q),~~~(rD G),~~~(rD N),~~~(.lst (ls.map pnD)),~~~(flD z F),~~~(tD h w N R),~~~(flD z G),s9,s10,some (.own (.lst (ms.map pnD))),none]=.ok (tD h w N R2,[~~~(script ns),~~~(rD F),some (.own q),~~~(rD G),~~~(rD N),~~~(.lst (ls.map pnD)),~~~(flD z F),~~~(tD h w N R),~~~(flD z G),s9,s10,some (.own (.lst (ms.map pnD))),none]):=YT (args:=[flD z G,rD N,.lst (ls.map pnD)]) rfl er2 (fun q=>nomatch q)
  exact Qn.mpr ⟨_,not_eq (Qc1 (YT (args:=[rD G,rD N,.lst (ls.map pnD),tD h w N R2]) (Yr rfl (Yr rfl (Yr rfl (Yr e2 rfl)))) (QcD (z:=z) rg ng rN h1 hh w1 hw (by lia) hl sp2) fun _=>rfl)),YR.mpr ⟨rfl,rfl⟩⟩
 refine Ws [~~~(script ns),~~~(rD F),some (.own q),~~~(rD G),~~~(rD N),~~~(.lst (ls.map pnD)),~~~(flD z F),~~~(tD h w N R),~~~(flD z G),s9,s10,some (.own (.lst (ms.map pnD))),none] ?_ ?_
 ·have e5:Qkc z.Qh (QU z) (Qb (mV 1) Qr) [~~~(script ns),~~~(rD F),some (.own q),~~~(rD G),~~~(rD N),~~~(.lst (ls.map pnD)),~~~(flD z F),~~~(tD h w N R),~~~(flD z G),s9,s10,some (.own (.lst (ms.map pnD))),none]=.ok (flD z F,[~~~(script ns),~~~(rD F),some (.own q),~~~(rD G),~~~(rD N),~~~(.lst (ls.map pnD)),~~~(flD z F),~~~(tD h w N R),~~~(flD z G),s9,s10,some (.own (.lst (ms.map pnD))),none]):=
   Ql0 (x:=rD F) (YE.mp (by simp? only[])) (fun y=>Qe0 rf h1 hh w1 hw okF) Qh3
  have e6:Ql .O (Jl z) (Qb (mV 6) (Qb (mV 4) (Qb (mV 5) Qr))) [~~~(script ns),~~~(rD F),some (.own q),~~~(rD G),~~~(rD N),~~~(.lst (ls.map pnD)),~~~(flD z F),~~~(tD h w N R),~~~(flD z G),s9,s10,some (.own (.lst (ms.map pnD))),none]=.ok (tD h w N R,[~~~(script ns),~~~(rD F),some (.own q),~~~(rD G),~~~(rD N),~~~(.lst (ls.map pnD)),~~~(flD z F),~~~(tD h w N R),~~~(flD z G),s9,s10,some (.own (.lst (ms.map pnD))),none]):=YT (args:=[flD z F,rD N,.lst (ls.map pnD)]) rfl er (fun q=>nomatch q)
  have e7:Ql .O (Jl z) (Qb (Qkc z.Qh (QU z) (Qb (mV 1) Qr)) (Qb (mV 4) (Qb (mV 5) Qr))) [~~~(script ns),~~~(rD F),some (.own q),~~~(rD G),~~~(rD N),~~~(.lst (ls.map pnD)),~~~(flD z F),~~~(tD h w N R),~~~(flD z G),s9,s10,some (.own (.lst (ms.map pnD))),none]=.ok (tD h w N R,[~~~(script ns),~~~(rD F),some (.own q),~~~(rD G),~~~(rD N),~~~(.lst (ls.map pnD)),~~~(flD z F),~~~(tD h w N R),~~~(flD z G),s9,s10,some (.own (.lst (ms.map pnD))),none]):=YT (args:=[flD z F,rD N,.lst (ls.map pnD)]) (Yr e5 rfl) er (fun q=>nomatch q)
  exact Qn.mpr ⟨_,or_eq (Qc1 (Qlf e6 rfl (QhL QrK))) (fun _=>Qc1 (Qlf e7 rfl (QhL QrK))) (fun q=>nomatch q),YR.mpr ⟨rfl,rfl⟩⟩
 obtain⟨_,_,ed2,rfl,N4,rfl,rN4⟩:=Qk6 (z:=z) rg sp.rc h1 hh w1 hw
 obtain⟨_,_,er4,rfl,R4,rfl,sp4⟩:=QbM (z:=z) rg ng rN4 h1 hh w1 hw hl
 change _=Fr.ok (tD h w N4 R4) [] at er4
 refine Ws [~~~(script ns),~~~(rD F),some (.own q),~~~(rD G),~~~(rD N),~~~(.lst (ls.map pnD)),~~~(flD z F),~~~(tD h w N R),~~~(flD z G),s9,s10,some (.own (.lst (ms.map pnD))),~~~(rD N4)] ?_ ?_
 ·have i3:gIx (tD h w N R) (.int 0)=some (rD R):=rfl
  simp? only[i3,V0 ed2]
  exact⟨trivial,trivial⟩
 have e2:Ql .O (Jl z) (Qb (mV 8) (Qb (mV 12) (Qb (mV 5) Qr))) [~~~(script ns),~~~(rD F),some (.own q),~~~(rD G),~~~(rD N),~~~(.lst (ls.map pnD)),~~~(flD z F),~~~(tD h w N R),~~~(flD z G),s9,s10,some (.own (.lst (ms.map pnD))),~~~(rD N4)]=.ok (tD h w N4 R4,[~~~(script ns),~~~(rD F),some (.own q),~~~(rD G),~~~(rD N),~~~(.lst (ls.map pnD)),~~~(flD z F),~~~(tD h w N R),~~~(flD z G),s9,s10,some (.own (.lst (ms.map pnD))),~~~(rD N4)]):=YT (args:=[flD z G,rD N4,.lst (ls.map pnD)]) rfl er4 (fun q=>nomatch q)
 refine Qn.mpr ⟨_,YT (args:=[rD G,rD N4,.lst (ls.map pnD),tD h w N4 R4]) (Yr rfl (Yr rfl (Yr rfl (Yr e2 rfl)))) (QcD (z:=z) rg ng rN4 h1 hh w1 hw (by lia) hl sp4) (fun _=>rfl),YR.mpr ⟨_,[],rfl,?_,rfl,rfl⟩⟩
 rcases h9 with rfl|⟨_,rfl⟩<;>rcases h10 with rfl|⟨_,rfl⟩<;>rfl)
theorem QrM (hz:Zok z)(ns:List Int):Ql2 z [script ns]=.ok (.bl true) []:=JL (QrL ns)
end G35
namespace G35
open PySem PySem.Spec L2 TL
def Qmh (K:z01):Sp:=fun vs H Q _=>∃(a:Addr) (ns:List Int),vs=[.ref a]/\SqL K H a (ns.map V.int)/\∀H',Q (.bl true) H'
theorem Qk7 {K:z01}{F:Hp}:∀(ns:List Int),RL K F (ns.map V.int) (ns.map D.int)
 | []=>.nil
 |a::l=>.cons (.sc rfl) (Qk7 l)
theorem QrN {z:Z}(hz:Zok z)(vs:List L2.V)(H:Hp)(Q:VK)(E:XK)(h:Qmh z.K vs H Q E):spF z.K [false] .V (Ql2 z) vs H Q E:=by
 obtain⟨a,ns,rfl,hs,hq⟩:=h
 refine⟨H,[script ns],[],.val (.nd (t:=.lst) hs (Qk7 ns)) .nil,zf8,(fun _ z=>nomatch z),Qz.refl H,?_⟩
 rw[QrM hz ns]
 intro F' H' v fr fo _ _ _ _ _ r _ _ _ _ _
 obtain rfl:=r.1.QW (w:=.bl true) rfl
 exact hq H'
theorem ar1 {P:List Value->Prop}(h:∀a0,P [a0]):∀us,us.length=1->P us:=fun us e=>by obtain⟨a,rfl⟩:=List.length_eq_one_iff.mp e;exact h a
theorem ar2 {P:List Value->Prop}(h:∀a0 a1,P [a0,a1]):∀us,us.length=2->P us:=fun us e=>by cases us with
 |nil=>cases e
 |cons a us=>exact ar1 (P:=fun t=>P (a::t)) (h a) us (zl1 e)
theorem ar3 {P:List Value->Prop}(h:∀a0 a1 a2,P [a0,a1,a2]):∀us,us.length=3->P us:=fun us e=>by cases us with
 |nil=>cases e
 |cons a us=>exact ar2 (P:=fun t=>P (a::t)) (h a) us (zl1 e)
theorem ar4 {P:List Value->Prop}(h:∀a0 a1 a2 a3,P [a0,a1,a2,a3]):∀us,us.length=4->P us:=fun us e=>by cases us with
 |nil=>cases e
 |cons a us=>exact ar3 (P:=fun t=>P (a::t)) (h a) us (zl1 e)
theorem all_mk {l:zm7}{w:World}{K:z01}{h:Heap}{mg:Str->Option Value}{QhT V1:Tok}{fa Qh f1 f2 f3 f4 f5 f6 f7 f8 f9 f10 f11 f12 f13 f14 f15 f16 f17 f18 f19 f20 f21 f22 f23 f24 f25 f26 f27 f28 f29 f30 f31 f32 f33 f34 f35 f36 f37 f38 f39 f40 f41 f42 f43 f44 f45 f46 f47 f48 f49:Addr}{fd1 fd2 fd3 fd4 fd5 fd6 fd7 fd8 fd9 Qu4 Qu5 Qu6 Qu7 Qu8 Qu9 Qva Qvb Qvc Qvd Qve Qvf Qvg Qvh Qvi Qvj Qvk Qvl Qvm Qvn Qvo Qvp Qvq Qvr Qvs Qvt Qvu Qvv Qvw Qvx Qvy Qvz QvA QvB QvC QvD QvE QvF QvG QvH:FuncData}(X:K.In h)(G:h.Ns z21 mg)(hfa:mg "law" = some (.ref fa))
  (a1:z23 K z21 "is_whole" = some (some (.ref f1)))
  (F1:Fun K "is_whole" "is_whole" Qb4 f1 fd1)
  (a2:z23 K z21 "is_listed" = some (some (.ref f2)))
  (F2:Fun K "is_listed" "is_listed" Qbi f2 fd2)
  (a3:z50 K (.ref Qh) "high" = some (some (.ref f3))) (i3:z88 K (.ref f3)=true)
  (F3:Fun K "high" "Floor.high" QaJ f3 fd3)
  (a4:z50 K (.ref Qh) "wide" = some (some (.ref f4))) (i4:z88 K (.ref f4)=true)
  (F4:Fun K "wide" "Floor.wide" QaK f4 fd4)
  (a5:z50 K (.ref Qh) "rows" = some (some (.ref f5))) (i5:z88 K (.ref f5)=true)
  (F5:Fun K "rows" "Floor.rows" QaL f5 fd5)
  (a6:z50 K (.ref Qh) "is_wall" = some (some (.ref f6))) (i6:z88 K (.ref f6)=true)
  (F6:Fun K "is_wall" "Floor.is_wall" Vb f6 fd6)
  (a7:z23 K z21 "around" = some (some (.ref f7)))
  (F7:Fun K "around" "around" QeN f7 fd7)
  (a8:z23 K z21 "places_of" = some (some (.ref f8)))
  (F8:Fun K "places_of" "places_of" Qac f8 fd8)
  (a9:z23 K z21 "insert_in_order" = some (some (.ref f9)))
  (F9:Fun K "insert_in_order" "insert_in_order" JD f9 fd9)
  (a10:z23 K z21 "number_at" = some (some (.ref f10)))
  (F10:Fun K "number_at" "number_at" Qbj f10 Qu4)
  (a11:z23 K z21 "_law_cell" = some (some (.ref f11)))
  (F11:Fun K "_law_cell" "_law_cell" Qbk f11 Qu5)
  (a12:z23 K z21 "_law_rich" = some (some (.ref f12)))
  (F12:Fun K "_law_rich" "_law_rich" Qad f12 Qu6)
  (a13:z23 K z21 "_law_beside" = some (some (.ref f13)))
  (F13:Fun K "_law_beside" "_law_beside" YV f13 Qu7)
  (a14:z23 K z21 "_law_places" = some (some (.ref f14)))
  (F14:Fun K "_law_places" "_law_places" Qae f14 Qu8)
  (a15:z23 K z21 "_law_are_rows" = some (some (.ref f15)))
  (F15:Fun K "_law_are_rows" "_law_are_rows" Yj f15 Qu9)
  (a16:z23 K z21 "is_pair" = some (some (.ref f16)))
  (F16:Fun K "is_pair" "is_pair" Qdm f16 Qva)
  (a17:z50 K (.ref Qh) "places" = some (some (.ref f17))) (i17:z88 K (.ref f17)=true)
  (F17:Fun K "places" "Floor.places" Vz f17 Qvb)
  (a18:z23 K z21 "is_within" = some (some (.ref f18)))
  (F18:Fun K "is_within" "is_within" Qbl f18 Qvc)
  (a19:z23 K z21 "is_sized" = some (some (.ref f19)))
  (F19:Fun K "is_sized" "is_sized" Qb5 f19 Qvd)
  (a20:z23 K z21 "check_numbers" = some (some (.ref f20)))
  (F20:Fun K "check_numbers" "check_numbers" Vc f20 Qve)
  (a21:z23 K z21 "lift" = some (some (.ref f21)))
  (F21:Fun K "lift" "lift" QkC f21 Qvf)
  (a22:z23 K z21 "unlike" = some (some (.ref f22)))
  (F22:Fun K "unlike" "unlike" QeO f22 Qvg)
  (a23:z23 K z21 "_law_purse" = some (some (.ref f23)))
  (F23:Fun K "_law_purse" "_law_purse" QaM f23 Qvh)
  (a24:z23 K z21 "_law_take" = some (some (.ref f24)))
  (F24:Fun K "_law_take" "_law_take" Qbn f24 Qvi)
  (a25:z23 K z21 "_law_right" = some (some (.ref f25)))
  (F25:Fun K "_law_right" "_law_right" Vm f25 Qvj)
  (a26:z23 K z21 "_law_dark_at_shuts" = some (some (.ref f26)))
  (F26:Fun K "_law_dark_at_shuts" "_law_dark_at_shuts" Jf f26 Qvk)
  (a27:z50 K (.ref Qh) "has" = some (some (.ref f27))) (i27:z88 K (.ref f27)=true)
  (F27:Fun K "has" "Floor.has" Qbo f27 Qvl)
  (a28:z23 K z21 "is_rectangle" = some (some (.ref f28)))
  (F28:Fun K "is_rectangle" "is_rectangle" YF f28 Qvm)
  (a29:z23 K z21 "is_loss" = some (some (.ref f29)))
  (F29:Fun K "is_loss" "is_loss" Qdp f29 Qvn)
  (a30:z23 K z21 "check_rows" = some (some (.ref f30)))
  (F30:Fun K "check_rows" "check_rows" Vn f30 Qvo)
  (a31:z23 K z21 "givers" = some (some (.ref f31)))
  (F31:Fun K "givers" "givers" QeS f31 Qvp)
  (a32:z23 K z21 "_law_number" = some (some (.ref f32)))
  (F32:Fun K "_law_number" "_law_number" Qag f32 Qvq)
  (a33:z23 K z21 "_law_loss" = some (some (.ref f33)))
  (F33:Fun K "_law_loss" "_law_loss" Qbp f33 Qvr)
  (a34:z23 K z21 "_law_size" = some (some (.ref f34)))
  (F34:Fun K "_law_size" "_law_size" Qbq f34 Qvs)
  (a35:z50 K (.ref Qh) "check_place" = some (some (.ref f35))) (i35:z88 K (.ref f35)=true)
  (F35:Fun K "check_place" "Floor.check_place" J3 f35 Qvt)
  (a36:z23 K z21 "check_losses" = some (some (.ref f36)))
  (F36:Fun K "check_losses" "check_losses" YG f36 Qvu)
  (a37:z23 K z21 "_law_losses" = some (some (.ref f37)))
  (F37:Fun K "_law_losses" "_law_losses" YW f37 Qvv)
  (a38:z23 K z21 "_law_numbers" = some (some (.ref f38)))
  (F38:Fun K "_law_numbers" "_law_numbers" YH f38 Qvw)
  (a39:z23 K z21 "_law_starts" = some (some (.ref f39)))
  (F39:Fun K "_law_starts" "_law_starts" YX f39 Qvx)
  (a40:z23 K z21 "_law_changed" = some (some (.ref f40)))
  (F40:Fun K "_law_changed" "_law_changed" YI f40 Qvy)
  (a41:z50 K (.ref Qh) "__init__" = some (some (.ref f41))) (i41:z88 K (.ref f41)=true)
  (F41:Fun K "__init__" "Floor.__init__" Vo f41 Qvz)
  (a42:z50 K (.ref Qh) "loss" = some (some (.ref f42))) (i42:z88 K (.ref f42)=true)
  (F42:Fun K "loss" "Floor.loss" QaO f42 QvA)
  (a43:z50 K (.ref Qh) "beside" = some (some (.ref f43))) (i43:z88 K (.ref f43)=true)
  (F43:Fun K "beside" "Floor.beside" VD f43 QvB)
  (a44:z23 K z21 "check_start" = some (some (.ref f44)))
  (F44:Fun K "check_start" "check_start" Qai f44 QvC)
  (a45:z23 K z21 "give" = some (some (.ref f45)))
  (F45:Fun K "give" "give" QhW f45 QvD)
  (a46:z50 K (.ref Qh) "with_loss" = some (some (.ref f46))) (i46:z88 K (.ref f46)=true)
  (F46:Fun K "with_loss" "Floor.with_loss" YB f46 QvE)
  (a47:z23 K z21 "spread" = some (some (.ref f47)))
  (F47:Fun K "spread" "spread" QcA f47 QvF)
  (a48:z23 K z21 "raised" = some (some (.ref f48)))
  (F48:Fun K "raised" "raised" QcB f48 QvG)
  (a49:z23 K z21 "law" = some (some (.ref f49)))
  (F49:Fun K "law" "law" Qg6 f49 QvH)
  (z0:z23 K z21 "all" = some none)
  (z1:z23 K z21 "bool" = some none)
  (z2:z23 K z21 "enumerate" = some none)
  (z3:z23 K z21 "int" = some none)
  (z4:z23 K z21 "isinstance" = some none)
  (z5:z23 K z21 "len" = some none)
  (z6:z23 K z21 "list" = some none)
  (z7:z23 K z21 "max" = some none)
  (z8:z23 K z21 "min" = some none)
  (z9:z23 K z21 "range" = some none)
  (z10:z23 K z21 "sorted" = some none)
  (z11:z23 K z21 "tuple" = some none)
  (Qde:z23 K z21 "Floor" = some (some (.ref Qh)))
  (Qe2:zf6 K Qh Str.empty=true) (Qe3:zh1 K Qh=true) (Qe4:zk7 K Qh=true) (Qe5:z50 K (.ref Qh) "__setattr__" = some (some (.builtin "object.__setattr__"))) (Qe6:zm6 K Qh=true) (Qe7:ze8 K (.ref Qh)=true)
  (QD:z50 K (.ref Qh) "losses" = some none)
  (Qf4:z23 K z21 "MOST" = some (some (.int 30 QhT)))
  (Y8:z23 K z21 "WALL_LOSS" = some (some (.int 0 V1)))
  :
  ∃fd:FuncData,(∀(s:Shared) (v:Value),BindsTo s fd ⟨[v],[]⟩ [("_law_script",v)])/\∀base:Heap,K.In base->base.Ns z21 mg->JF l.prog w K mg base (CXe l.prog w) 9 fa fd ["_law_script"] (Qmh K):=by
 have e:=hfa.symm.trans (z29 X G a49)
 cases e
 have T:Txt mg:=⟨z70 X G z0,z70 X G z1,z70 X G z2,z70 X G z3,z70 X G z4,z70 X G z5,z70 X G z6,z70 X G z7,z70 X G z8,z70 X G z9,z70 X G z10,z70 X G z11⟩
 let z:Z:=⟨K,Qh,QhT,V1⟩
 have con:Con mg z:=⟨z29 X G Qde,z29 X G Qf4,z29 X G Y8,⟨Qe2,Qe3,Qe4,Qe5⟩,QD,z58⟩
 have hz:Zok z:=⟨z58⟩
 have b1:=F1.binds (ps:=["value"]) fun _ _ _ _ _ _=>ar1 fun _=>rfl
 have b2:=F2.binds (ps:=["value"]) fun _ _ _ _ _ _=>ar1 fun _=>rfl
 have b3:=F3.binds (ps:=["self"]) fun _ _ _ _ _ _=>ar1 fun _=>rfl
 have b4:=F4.binds (ps:=["self"]) fun _ _ _ _ _ _=>ar1 fun _=>rfl
 have b5:=F5.binds (ps:=["self"]) fun _ _ _ _ _ _=>ar1 fun _=>rfl
 have b6:=F6.binds (ps:=["self","place"]) fun _ _ _ _ _ _=>ar2 fun _ _=>rfl
 have b7:=F7.binds (ps:=["place"]) fun _ _ _ _ _ _=>ar1 fun _=>rfl
 have b8:=F8.binds (ps:=["rows"]) fun _ _ _ _ _ _=>ar1 fun _=>rfl
 have b9:=F9.binds (ps:=["waiting","entry"]) fun _ _ _ _ _ _=>ar2 fun _ _=>rfl
 have b10:=F10.binds (ps:=["rows","place"]) fun _ _ _ _ _ _=>ar2 fun _ _=>rfl
 have b11:=F11.binds (ps:=["_law_script","_law_k"]) fun _ _ _ _ _ _=>ar2 fun _ _=>rfl
 have b12:=F12.binds (ps:=["_law_cell_here"]) fun _ _ _ _ _ _=>ar1 fun _=>rfl
 have b13:=F13.binds (ps:=["_law_losses_here","_law_r","_law_c"]) fun _ _ _ _ _ _=>ar3 fun _ _ _=>rfl
 have b14:=F14.binds (ps:=["_law_losses_here"]) fun _ _ _ _ _ _=>ar1 fun _=>rfl
 have b15:=F15.binds (ps:=["_law_losses_here","_law_rows"]) fun _ _ _ _ _ _=>ar2 fun _ _=>rfl
 have b16:=F16.binds (ps:=["value"]) fun _ _ _ _ _ _=>ar1 fun _=>rfl
 have b17:=F17.binds (ps:=["self"]) fun _ _ _ _ _ _=>ar1 fun _=>rfl
 have b18:=F18.binds (ps:=["value","end"]) fun _ _ _ _ _ _=>ar2 fun _ _=>rfl
 have b19:=F19.binds (ps:=["listed"]) fun _ _ _ _ _ _=>ar1 fun _=>rfl
 have b20:=F20.binds (ps:=["row"]) fun _ _ _ _ _ _=>ar1 fun _=>rfl
 have b21:=F21.binds (ps:=["floor","rows","start"]) fun _ _ _ _ _ _=>ar3 fun _ _ _=>rfl
 have b22:=F22.binds (ps:=["before","behind"]) fun _ _ _ _ _ _=>ar2 fun _ _=>rfl
 have b23:=F23.binds (ps:=["_law_script","_law_k"]) fun _ _ _ _ _ _=>ar2 fun _ _=>rfl
 have b24:=F24.binds (ps:=["_law_purse_here","_law_many"]) fun _ _ _ _ _ _=>ar2 fun _ _=>rfl
 have b25:=F25.binds (ps:=["_law_losses_here","_law_rows","_law_starts_here","_law_told"]) fun _ _ _ _ _ _=>ar4 fun _ _ _ _=>rfl
 have b26:=F26.binds (ps:=["_law_losses_here","_law_rows"]) fun _ _ _ _ _ _=>ar2 fun _ _=>rfl
 have b27:=F27.binds (ps:=["self","place"]) fun _ _ _ _ _ _=>ar2 fun _ _=>rfl
 have b28:=F28.binds (ps:=["rows"]) fun _ _ _ _ _ _=>ar1 fun _=>rfl
 have b29:=F29.binds (ps:=["value"]) fun _ _ _ _ _ _=>ar1 fun _=>rfl
 have b30:=F30.binds (ps:=["floor","rows"]) fun _ _ _ _ _ _=>ar2 fun _ _=>rfl
 have b31:=F31.binds (ps:=["floor","rows"]) fun _ _ _ _ _ _=>ar2 fun _ _=>rfl
 have b32:=F32.binds (ps:=["_law_purse_here"]) fun _ _ _ _ _ _=>ar1 fun _=>rfl
 have b33:=F33.binds (ps:=["_law_purse_here"]) fun _ _ _ _ _ _=>ar1 fun _=>rfl
 have b34:=F34.binds (ps:=["_law_purse_here"]) fun _ _ _ _ _ _=>ar1 fun _=>rfl
 have b35:=F35.binds (ps:=["self","place"]) fun _ _ _ _ _ _=>ar2 fun _ _=>rfl
 have b36:=F36.binds (ps:=["row"]) fun _ _ _ _ _ _=>ar1 fun _=>rfl
 have b37:=F37.binds (ps:=["_law_script","_law_start"]) fun _ _ _ _ _ _=>ar2 fun _ _=>rfl
 have b38:=F38.binds (ps:=["_law_script","_law_start","_law_losses_here"]) fun _ _ _ _ _ _=>ar3 fun _ _ _=>rfl
 have b39:=F39.binds (ps:=["_law_purse_here","_law_rows"]) fun _ _ _ _ _ _=>ar2 fun _ _=>rfl
 have b40:=F40.binds (ps:=["_law_purse_here","_law_losses_here"]) fun _ _ _ _ _ _=>ar2 fun _ _=>rfl
 have b41:=F41.binds (ps:=["self","rows"]) fun _ _ _ _ _ _=>ar2 fun _ _=>rfl
 have b42:=F42.binds (ps:=["self","place"]) fun _ _ _ _ _ _=>ar2 fun _ _=>rfl
 have b43:=F43.binds (ps:=["self","place"]) fun _ _ _ _ _ _=>ar2 fun _ _=>rfl
 have b44:=F44.binds (ps:=["floor","start"]) fun _ _ _ _ _ _=>ar2 fun _ _=>rfl
 have b45:=F45.binds (ps:=["floor","rows","waiting","entry"]) fun _ _ _ _ _ _=>ar4 fun _ _ _ _=>rfl
 have b46:=F46.binds (ps:=["self","place","loss"]) fun _ _ _ _ _ _=>ar3 fun _ _ _=>rfl
 have b47:=F47.binds (ps:=["floor","rows","starts"]) fun _ _ _ _ _ _=>ar3 fun _ _ _=>rfl
 have b48:=F48.binds (ps:=["floor","rows","starts"]) fun _ _ _ _ _ _=>ar3 fun _ _ _=>rfl
 obtain⟨_,_,kV,dc,pm,an,cd,ct,_,rfl,_⟩:=F49.ex
 refine⟨ze9 "law" "law" (QcM Qg6) (VR Qg6) (Qf Qg6) .none kV dc pm an cd ct,fun s v=>.of_eq rfl,fun base _ _=>?_⟩
 have YZ:Qi l.prog w z.K mg base 1 "is_whole" ["value"] (spF z.K [false] .V (YY z)):=⟨_,_,Qg4 T con F1 ,z29 X G a1,F1.kp,b1⟩
 have Je:Qi l.prog w z.K mg base 1 "is_listed" ["value"] (spF z.K [false] .V (Jd z)):=⟨_,_,Qga T con F2 ,z29 X G a2,F2.kp,b2⟩
 have J8:QI l.prog w z.K mg base z.Qh 1 "high" ["self"] (spF z.K [false] .V (J5 z)):=⟨_,_,QeK T con F3 ,⟨a3,i3,F3.kp⟩,b3⟩
 have J9:QI l.prog w z.K mg base z.Qh 1 "wide" ["self"] (spF z.K [false] .V (J6 z)):=⟨_,_,QeL T con F4 ,⟨a4,i4,F4.kp⟩,b4⟩
 have QaQ:QI l.prog w z.K mg base z.Qh 1 "rows" ["self"] (spF z.K [false] .O (YM z)):=⟨_,_,QeM T con F5 ,⟨a5,i5,F5.kp⟩,b5⟩
 have QQ:QI l.prog w z.K mg base z.Qh 1 "is_wall" ["self","place"] (spF z.K [false,false] .V (Q6 z)):=⟨_,_,Qcm T con F6 ,⟨a6,i6,F6.kp⟩,b6⟩
 have QeV:Qi l.prog w z.K mg base 1 "around" ["place"] (spF z.K [false] .O (QbE z)):=⟨_,_,QkB T con F7 ,z29 X G a7,F7.kp,b7⟩
 have Yw:Qi l.prog w z.K mg base 1 "places_of" ["rows"] (spF z.K [false] .O (JV z)):=⟨_,_,Qgb T con F8 ,z29 X G a8,F8.kp,b8⟩
 have YA:Qi l.prog w z.K mg base 1 "insert_in_order" ["waiting","entry"] (spF z.K [true,false] .V (Q3 z)):=⟨_,_,QbI T con F9 ,z29 X G a9,F9.kp,b9⟩
 have QE:Qi l.prog w z.K mg base 1 "number_at" ["rows","place"] (spF z.K [false,false] .V (Q7 z)):=⟨_,_,Qgc T con F10 ,z29 X G a10,F10.kp,b10⟩
 have Qbm:Qi l.prog w z.K mg base 1 "_law_cell" ["_law_script","_law_k"] (spF z.K [false,false] .V (Y5 z)):=⟨_,_,Qgd T con F11 ,z29 X G a11,F11.kp,b11⟩
 have Yx:Qi l.prog w z.K mg base 1 "_law_rich" ["_law_cell_here"] (spF z.K [false] .V (Jx z)):=⟨_,_,Qge T con F12 ,z29 X G a12,F12.kp,b12⟩
 have Qaf:Qi l.prog w z.K mg base 1 "_law_beside" ["_law_losses_here","_law_r","_law_c"] (spF z.K [false,false,false] .O (Yf z)):=⟨_,_,QdJ T con F13 ,z29 X G a13,F13.kp,b13⟩
 have QR:Qi l.prog w z.K mg base 1 "_law_places" ["_law_losses_here"] (spF z.K [false] .O (Q0 z)):=⟨_,_,QdK T con F14 ,z29 X G a14,F14.kp,b14⟩
 have Vd:Qi l.prog w z.K mg base 1 "_law_are_rows" ["_law_losses_here","_law_rows"] (spF z.K [false,false] .V (Jy z)):=⟨_,_,Qcn T con F15 ,z29 X G a15,F15.kp,b15⟩
 have VO:Qi l.prog w z.K mg base 2 "is_pair" ["value"] (spF z.K [false] .V (VN z)):=⟨_,_,QiF T con F16 Je,z29 X G a16,F16.kp,b16⟩
 have VA:QI l.prog w z.K mg base z.Qh 2 "places" ["self"] (spF z.K [false] .O (JM z)):=⟨_,_,Qdn T con F17 Yw,⟨a17,i17,F17.kp⟩,b17⟩
 have J0:Qi l.prog w z.K mg base 2 "is_within" ["value","end"] (spF z.K [false,false] .V (JW z)):=⟨_,_,Qgf T con F18 YZ,z29 X G a18,F18.kp,b18⟩
 have QaY:Qi l.prog w z.K mg base 2 "is_sized" ["listed"] (spF z.K [false] .V (J7 z)):=⟨_,_,Qg5 T con F19 Je,z29 X G a19,F19.kp,b19⟩
 have Ve:Qi l.prog w z.K mg base 2 "check_numbers" ["row"] (spF z.K [false] .V (Jz z)):=⟨_,_,Qco T con F20 YZ,z29 X G a20,F20.kp,b20⟩
 have QkG:Qi l.prog w z.K mg base 2 "lift" ["floor","rows","start"] (spF z.K [false,true,false] .V (Qdc z)):=⟨_,_,Qou T con F21 QQ QE,z29 X G a21,F21.kp,b21⟩
 have QeX:Qi l.prog w z.K mg base 2 "unlike" ["before","behind"] (spF z.K [false,false] .O (QbF z)):=⟨_,_,QkD T con F22 Yw QE,z29 X G a22,F22.kp,b22⟩
 have QY:Qi l.prog w z.K mg base 2 "_law_purse" ["_law_script","_law_k"] (spF z.K [false,false] .O (Jb z)):=⟨_,_,QeP T con F23 Qbm Yx,z29 X G a23,F23.kp,b23⟩
 have Qm:Qi l.prog w z.K mg base 2 "_law_take" ["_law_purse_here","_law_many"] (spF z.K [true,false] .V (Qu z)):=⟨_,_,Qgg T con F24 Yx,z29 X G a24,F24.kp,b24⟩
 have Ya:Qi l.prog w z.K mg base 2 "_law_right" ["_law_losses_here","_law_rows","_law_starts_here","_law_told"] (spF z.K [false,false,false,false] .V (Jh z)):=⟨_,_,QeQ T con F25 Qaf QR Vd,z29 X G a25,F25.kp,b25⟩
 have Jg:Qi l.prog w z.K mg base 2 "_law_dark_at_shuts" ["_law_losses_here","_law_rows"] (spF z.K [false,false] .O (QS z)):=⟨_,_,QaN T con F26 QR,z29 X G a26,F26.kp,b26⟩
 have Yy:QI l.prog w z.K mg base z.Qh 3 "has" ["self","place"] (spF z.K [false,false] .V (Yt z)):=⟨_,_,Qgh T con F27 J8 J9 VO J0,⟨a27,i27,F27.kp⟩,b27⟩
 have VB:Qi l.prog w z.K mg base 3 "is_rectangle" ["rows"] (spF z.K [false] .V (JN z)):=⟨_,_,Qdo T con F28 QaY,z29 X G a28,F28.kp,b28⟩
 have Qdr:Qi l.prog w z.K mg base 3 "is_loss" ["value"] (spF z.K [false] .V (QaF z)):=⟨_,_,QiG T con F29 J0,z29 X G a29,F29.kp,b29⟩
 have QaR:Qi l.prog w z.K mg base 3 "check_rows" ["floor","rows"] (spF z.K [false,false] .V (YN z)):=⟨_,_,QeR T con F30 Je J8 J9 Ve,z29 X G a30,F30.kp,b30⟩
 have QeW:Qi l.prog w z.K mg base 3 "givers" ["floor","rows"] (spF z.K [false,false] .O (QbG z)):=⟨_,_,QkE T con F31 QQ QE VA,z29 X G a31,F31.kp,b31⟩
 have Q2:Qi l.prog w z.K mg base 3 "_law_number" ["_law_purse_here"] (spF z.K [true] .V (Jc z)):=⟨_,_,QdL T con F32 Qm,z29 X G a32,F32.kp,b32⟩
 have Yz:Qi l.prog w z.K mg base 3 "_law_loss" ["_law_purse_here"] (spF z.K [true] .V (JX z)):=⟨_,_,Qgi T con F33 Qm,z29 X G a33,F33.kp,b33⟩
 have Qah:Qi l.prog w z.K mg base 3 "_law_size" ["_law_purse_here"] (spF z.K [true] .V (Yu z)):=⟨_,_,Qgj T con F34 Qm,z29 X G a34,F34.kp,b34⟩
 have Qt:QI l.prog w z.K mg base z.Qh 4 "check_place" ["self","place"] (spF z.K [false,false] .V (QC z)):=⟨_,_,Qa1 T con F35 Yy,⟨a35,i35,F35.kp⟩,b35⟩
 have VC:Qi l.prog w z.K mg base 4 "check_losses" ["row"] (spF z.K [false] .V (JO z)):=⟨_,_,Qdq T con F36 Qdr,z29 X G a36,F36.kp,b36⟩
 have Qak:Qi l.prog w z.K mg base 4 "_law_losses" ["_law_script","_law_start"] (spF z.K [false,false] .O (Yg z)):=⟨_,_,QdM T con F37 QY Yz Qah,z29 X G a37,F37.kp,b37⟩
 have VF:Qi l.prog w z.K mg base 4 "_law_numbers" ["_law_script","_law_start","_law_losses_here"] (spF z.K [false,false,false] .O (JP z)):=⟨_,_,Qds T con F38 QY Qm Q2,z29 X G a38,F38.kp,b38⟩
 have Qal:Qi l.prog w z.K mg base 4 "_law_starts" ["_law_purse_here","_law_rows"] (spF z.K [true,false] .O (Yh z)):=⟨_,_,QdN T con F39 Qm Q2,z29 X G a39,F39.kp,b39⟩
 have VG:Qi l.prog w z.K mg base 4 "_law_changed" ["_law_purse_here","_law_losses_here"] (spF z.K [true,false] .O (JQ z)):=⟨_,_,Qdt T con F40 Qm Yz,z29 X G a40,F40.kp,b40⟩
 have Ji:QaT l.prog w z.K mg base z.Qh 5 "Floor" ["self","rows"] (spI z.K z.Qh (QU z)):=⟨_,_,QeT T con F41 VB VC,⟨Qe6,a41,i41,Qe7⟩,z29 X G Qde,b41⟩
 have QaP:QI l.prog w z.K mg base z.Qh 5 "loss" ["self","place"] (spF z.K [false,false] .V (YQ z)):=⟨_,_,QeU T con F42 Qt,⟨a42,i42,F42.kp⟩,b42⟩
 have VE:QI l.prog w z.K mg base z.Qh 5 "beside" ["self","place"] (spF z.K [false,false] .O (JR z)):=⟨_,_,Qdu T con F43 QQ QeV Yy Qt,⟨a43,i43,F43.kp⟩,b43⟩
 have Qaj:Qi l.prog w z.K mg base 5 "check_start" ["floor","start"] (spF z.K [false,false] .V (Yi z)):=⟨_,_,QdO T con F44 VO Qt,z29 X G a44,F44.kp,b44⟩
 have QkH:Qi l.prog w z.K mg base 6 "give" ["floor","rows","waiting","entry"] (spF z.K [false,true,true,false] .V (Qf2 z)):=⟨_,_,Qov T con F45 YA QE QaP VE,z29 X G a45,F45.kp,b45⟩
 have YC:QI l.prog w z.K mg base z.Qh 7 "with_loss" ["self","place","loss"] (spF z.K [false,false,false] .V (Q4 z)):=⟨_,_,QbJ T con F46 QaQ Qt Ji,⟨a46,i46,F46.kp⟩,b46⟩
 have QeY:Qi l.prog w z.K mg base 7 "spread" ["floor","rows","starts"] (spF z.K [false,false,false] .O (QbH z)):=⟨_,_,QkF T con F47 QE QkG QeW QkH,z29 X G a47,F47.kp,b47⟩
 have Vp:Qi l.prog w z.K mg base 8 "raised" ["floor","rows","starts"] (spF z.K [false,false,false] .O (Jl z)):=⟨_,_,QkI T con F48 QeX QaR Qaj QeY,z29 X G a48,F48.kp,b48⟩
 exact(QrC T con F49 QR QY Qm Ya Jg Q2 Qak VF Qal VG Ji YC Vp).imp fun vs H Q E hh=>QrN hz vs H Q E hh
theorem walk {l:zm7}{q:Program}{loose:List Str}{XP:(Str->Option Value)->Heap->Prop}{YP:World->Heap->Prop}{d:DefRec}{K:Params->z01}(hn:l.most=some 63)(hdf:d.params.defaults=[])
  (hY:∀(w:World) (h:Heap),YP w h->(K w.params).In h)
  (F:∀(w:World) (mg:Str->Option Value) (fa:Addr) (h:Heap),(K w.params).In h->h.Ns z21 mg->mg d.name=some (.ref fa)->
   ∃fd:FuncData,(∀(s:Shared) (u:Value),BindsTo s fd ⟨[u],[]⟩ [("_law_script",u)])/\∀base:Heap,(K w.params).In base->base.Ns z21 mg->JF l.prog w (K w.params) mg base (CXe l.prog w) 9 fa fd ["_law_script"] (Qmh (K w.params))) :
  PySem.W.WalkO q loose XP YP l.row.toRowW d [] (fun f vs=>zu0 f vs):=
 L2.Qnn (n:=63) (k:=9) (x := "_law_script") (CX:=fun w=>CXe l.prog w) (sp:=fun w=>Qmh (K w.params)) hn (by decide) hdf ⟨rfl,by decide,by decide,rfl⟩ hY F (fun _ _ a ns hl _ hS=>⟨a,ns,rfl,hS,fun _=>rfl⟩) fun _ _ _ _ _ ⟨_,_,_,_,_,_,_,_,_,z⟩=>z
end G35
namespace PySem.W.Fast
def tw5329324386307151490:=()
def tw7716139382566374973:=()
def tw1269833689284780944:=()
def tw3024224173980043094:=()
def tw7109992289439230324:=()
def tw992914582537222668:=()
def tw18059315067123655402:=()
def tw8001629897190358929:=()
def tw2755104660032062776:=()
def tw5273554115521980112:=()
def tw13159146131944854715:=()
def tw1007257014494595755:=()
def tw4138816825466870793:=()
def tw17506431283050882035:=()
def tw10839891081895243880:=()
def tw13506535253358162095:=()
def tw11843375374141643409:=()
def tw5705265022425878999:=()
def tw125232429855512601:=()
def tw12463232049439227515:=()
def tw10693348909684840245:=()
def tw5145779070302194265:=()
def tw9243828180131767236:=()
def tw923752390095706993:=()
def tw16161880926130439190:=()
def tw3833488006134418019:=()
def tw13256976779695308812:=()
def tw3922487194727522941:=()
def tw2353727884354144608:=()
def tw9322705251368458801:=()
def tw15393339190996200476:=()
def tw159501526210160182:=()
def tw7369318589248814680:=()
def tw16198177863447916505:=()
def tw11138507573662896573:=()
def tw14685075835132978372:=()
def tw9698044641327371360:=()
def tw10118532671114347071:=()
def tw8040362597524633752:=()
def tw10010734323386943441:=()
def tw12840989974222189421:=()
def tw10668642576404114441:=()
def tw11273364026290349352:=()
def tw2093965714708217180:=()
def tw9388584023285690355:=()
def tw11055068561742153386:=()
def tw17822541927132148448:=()
def tw14601353802748899236:=()
def tw201076405393122558:=()
def tw2605900216297014929:=()
def tw10054744080595195224:=()
def tw17176622256639275262:=()
def tw15695769133946720781:=()
def tw4144458180498992760:=()
def tw8017176433582787269:=()
def tw12235994263773317419:=()
def tw4578455957701503943:=()
def tw8596559933782090208:=()
def tw8708790425448765170:=()
def tw16664682379326826659:=()
def tw6611278629172574494:=()
def tw7386494499482143759:=()
def tw16253576743207661459:=()
def tw5530810604131606338:=()
def tw8094435654231754722:=()
def tw15901273891753063871:=()
def tw15312592795317226522:=()
def tw1095947639806162196:=()
def tw10294121445113468542:=()
def tw13517710673630473969:=()
def tw1590385240081881238:=()
def tw2362444836892842908:=()
def tw7233512743419752428:=()
def tw11736677054446540137:=()
def tw3964030768963713393:=()
def tw1089003232208755787:=()
def tw18048148728485601825:=()
def tw2279114320224306088:=()
def tw14170478267218213853:=()
def tw722717366786220087:=()
def tw14565892767222614252:=()
def tw6306780413595610335:=()
def tw5172963652657911824:=()
def tw7507401814904990723:=()
def tw539586777974688604:=()
def tw501045673936222002:=()
def tw7167100761626053399:=()
def tw4320780429492996263:=()
def tw4159881321382469819:=()
def tw5745953006011505667:=()
def tw13933412949231295489:=()
def tw5644303173502892217:=()
def tw3926011766432394905:=()
def tw15149644231149586315:=()
def tw15665120486075101161:=()
def tw4584200713464508224:=()
def tw11303941433693295302:=()
def tw13598232467685984578:=()
def tw13907488419087459997:=()
def tw12344829440278462727:=()
def tw18384317788970255348:=()
def tw11790510661718960956:=()
def tw15682003528716622776:=()
def tw17462948536798271315:=()
def tw15880192954432262425:=()
def tw12084582367557511965:=()
def tw14954570568825740218:=()
def tw2298016045792498700:=()
def tw7401493145513981500:=()
def tw559424906334217199:=()
def tw6958940929969598482:=()
def tw6897317940940979484:=()
def tw16387783102523145086:=()
def tw4916372622247894326:=()
def tw6291583425394566487:=()
def tw7655079581957098975:=()
def tw3283601785786107721:=()
def tw6768859045502089316:=()
def tw1919715737366028307:=()
def tw4914573696785456648:=()
def tw4027487181659057478:=()
def tw5784496450360318055:=()
def tw13518193629764369022:=()
def tw7379044139275954635:=()
def tw1433843632041063713:=()
def tw10979167724382192242:=()
def tw9771605778604981080:=()
def tw4171261081959098117:=()
def tw2780108372275742685:=()
def tw11164815398129523523:=()
def tw14434386012566001535:=()
def tw15558583272464090506:=()
def tw11153539345443384355:=()
def tw13343862193741771175:=()
def tw1756845300985445997:=()
def tw4368094900486460439:=()
def tw7678029340656801565:=()
def tw10320017398264234017:=()
def tw65178844339417561:=()
def tw7266147757016706762:=()
def tw15473920448891692912:=()
def tw10278228177795585870:=()
def tw3757121377184225463:=()
def tw5104320459884722594:=()
def tw10201992308344491249:=()
def tw17175888928027336795:=()
def tw17741317385974667953:=()
def tw16986927504169652176:=()
def tw7560522192312147450:=()
def tw5310049343031049910:=()
def tw5519417080259839708:=()
def tw12478737024537176104:=()
def tw15436878771349386526:=()
def tw16648543656339268183:=()
def tw5720676635195436784:=()
def tw8363797930262945802:=()
def tw7201387211983131217:=()
def tw14537133437148763570:=()
def tw12531846078466655570:=()
def tw8878800248291575124:=()
def tw9816198226531469694:=()
def tw1428914757263279392:=()
def tw5985642708406142545:=()
def tw86364444368247252:=()
def tw13275526758615199925:=()
def tw12854526985265751832:=()
def tw1202968755358193518:=()
def tw6952248566545628026:=()
def tw654426196960163198:=()
def tw1943597857757436176:=()
def tw10403049141807448051:=()
def tw11805197964188653783:=()
def tw15511999653044357672:=()
def tw18021454508910573876:=()
def tw1154662557071491825:=()
def tw6258902773045622061:=()
def tw9658651814306599122:=()
def tw16642885571967006624:=()
def tw11786003785492297625:=()
def tw12123212021551468168:=()
def tw10255077255937181786:=()
def tw10430934180598124022:=()
def tw8099648088411333527:=()
def tw15143514512437756575:=()
def tw6259890833800652835:=()
def tw13526211793654752663:=()
def tw10995317169704989303:=()
def tw17638236047150077992:=()
def tw4235612233958755760:=()
def tw2041092757032797301:=()
def tw784758182360681128:=()
def tw1665787027072999558:=()
def tw12461652414816209189:=()
def tw7135196401824997341:=()
def tw5707021114617277903:=()
def tw17732356262843700074:=()
def tw4029748866071292070:=()
def tw1074421706635684853:=()
def tw14478136224391618027:=()
def tw1446152748393906616:=()
def tw1416849522535147136:=()
def tw7191278898619880279:=()
def tw1579829120127403132:=()
def tw5534220812204404857:=()
def tw16219673942817993554:=()
def tw13559976370788253297:=()
def tw16879019357926782438:=()
def tw16747503698105139442:=()
def tw8013224662030508177:=()
def tw13030608530307956374:=()
def tw2701093910173502457:=()
def tw1943901545172693439:=()
def tw13159709305074835895:=()
def tw7998710387483507317:=()
def tw18343544312058395146:=()
def tw18068924339442223873:=()
def tw13463393260325160702:=()
def tw8793130519524800120:=()
def tw16100202819165423217:=()
def tw1538908506683089671:=()
def tw6094431285943120142:=()
def tw12888720244423429068:=()
def tw2897574812310872861:=()
def tw14473364878938069441:=()
def tw16889172227143243452:=()
def tw7960089898151381592:=()
def tw13681234136421020737:=()
def tw4485285954615770072:=()
def tw14075871618937532549:=()
def tw3947893333424421710:=()
def tw12763252536108033135:=()
def tw11399669118626072278:=()
def tw1396849493471908259:=()
def tw13111148410206548512:=()
def tw12688519966873795986:=()
def tw16062159095368696509:=()
def tw2289681876735838254:=()
def tw14213235467646014144:=()
def tw16732289647046483396:=()
def tw13179747020848218638:=()
def tw1043006326607566666:=()
def tw4179308718884832227:=()
def tw1778946871547822484:=()
def tw3449190010229646165:=()
def tw12864349798482236748:=()
def tw12157469740869675303:=()
def tw9139361596477780593:=()
def tw9446203276161610380:=()
def tw16047905729648414370:=()
def tw6737391152491755676:=()
def tw16847839814631748858:=()
def tw18306557628276934417:=()
def tw6693554246757582303:=()
def tw5841102978781446115:=()
def tw8108511759263071008:=()
def tw7262479465493586413:=()
def tw15729402292747590330:=()
def tw8086612049417721961:=()
def tw9696473348383956036:=()
def tw16707877572296010688:=()
def tw3833061994648190669:=()
def tw9116497780930388940:=()
def tw4867019526657243478:=()
def tw15696768985181963901:=()
def tw11038425898927499741:=()
def tw15737621006458955729:=()
def tw15066987678177736496:=()
def tw10883842933262798340:=()
def tw14075650808509557876:=()
def tw4369359057768530594:=()
def tw15695809871193101532:=()
def tw1047515252294768644:=()
def tw908075814628030067:=()
def tw17044966077773184784:=()
def tw5056157025075909062:=()
def tw413372010308102363:=()
def tw3106464290254537337:=()
def tw4014488235961098973:=()
def tw4106211455989533612:=()
end PySem.W.Fast
open PySem PySem.W PyProof.Rows
set_option maxRecDepth 100000 in
set_option maxHeartbeats 0 in
theorem PySem.Challenge.cw_glowcells_k35_two_floors_holds : PySem.Challenge.rw_glowcells_k35_two_floors.Holds := by
 w_on;o_law;k_head;(case hw=>w_witness2)
 k_fill
 refine _root_.G35.walk (l:=PySem.Challenge.rw_glowcells_k35_two_floors) rfl rfl (fun w h Y=>PySem.W.kIn_of Y) ?F
 case F=>
  intro w mg fa h KX GG hmg
  refine' _root_.G35.all_mk KX GG hmg ?a1 ?F1 ?a2 ?F2 ?a3 ?i3 ?F3 ?a4 ?i4 ?F4 ?a5 ?i5 ?F5 ?a6 ?i6 ?F6 ?a7 ?F7 ?a8 ?F8 ?a9 ?F9 ?a10 ?F10 ?a11 ?F11 ?a12 ?F12 ?a13 ?F13 ?a14 ?F14 ?a15 ?F15 ?a16 ?F16 ?a17 ?i17 ?F17 ?a18 ?F18 ?a19 ?F19 ?a20 ?F20 ?a21 ?F21 ?a22 ?F22 ?a23 ?F23 ?a24 ?F24 ?a25 ?F25 ?a26 ?F26 ?a27 ?i27 ?F27 ?a28 ?F28 ?a29 ?F29 ?a30 ?F30 ?a31 ?F31 ?a32 ?F32 ?a33 ?F33 ?a34 ?F34 ?a35 ?i35 ?F35 ?a36 ?F36 ?a37 ?F37 ?a38 ?F38 ?a39 ?F39 ?a40 ?F40 ?a41 ?i41 ?F41 ?a42 ?i42 ?F42 ?a43 ?i43 ?F43 ?a44 ?F44 ?a45 ?F45 ?a46 ?i46 ?F46 ?a47 ?F47 ?a48 ?F48 ?a49 ?F49 ?z0 ?z1 ?z2 ?z3 ?z4 ?z5 ?z6 ?z7 ?z8 ?z9 ?z10 ?z11 ?Qde ?Qe2 ?Qe3 ?Qe4 ?Qe5 ?Qe6 ?Qe7 ?QD ?Qf4 ?Y8
  (case Qde=>k_is)
  (case a1=>k_is)
  (case F1=>exact L2.QB (by k_is) (by k_is) (by k_is))
  (case a2=>k_is)
  (case F2=>exact L2.QB (by k_is) (by k_is) (by k_is))
  (case a3=>k_is)
  (case i3=>k_is)
  (case F3=>exact L2.QB (by k_is) (by k_is) (by k_is))
  (case a4=>k_is)
  (case i4=>k_is)
  (case F4=>exact L2.QB (by k_is) (by k_is) (by k_is))
  (case a5=>k_is)
  (case i5=>k_is)
  (case F5=>exact L2.QB (by k_is) (by k_is) (by k_is))
  (case a6=>k_is)
  (case i6=>k_is)
  (case F6=>exact L2.QB (by k_is) (by k_is) (by k_is))
  (case a7=>k_is)
  (case F7=>exact L2.QB (by k_is) (by k_is) (by k_is))
  (case a8=>k_is)
  (case F8=>exact L2.QB (by k_is) (by k_is) (by k_is))
  (case a9=>k_is)
  (case F9=>exact L2.QB (by k_is) (by k_is) (by k_is))
  (case a10=>k_is)
  (case F10=>exact L2.QB (by k_is) (by k_is) (by k_is))
  (case a11=>k_is)
  (case F11=>exact L2.QB (by k_is) (by k_is) (by k_is))
  (case a12=>k_is)
  (case F12=>exact L2.QB (by k_is) (by k_is) (by k_is))
  (case a13=>k_is)
  (case F13=>exact L2.QB (by k_is) (by k_is) (by k_is))
  (case a14=>k_is)
  (case F14=>exact L2.QB (by k_is) (by k_is) (by k_is))
  (case a15=>k_is)
  (case F15=>exact L2.QB (by k_is) (by k_is) (by k_is))
  (case a16=>k_is)
  (case F16=>exact L2.QB (by k_is) (by k_is) (by k_is))
  (case a17=>k_is)
  (case i17=>k_is)
  (case F17=>exact L2.QB (by k_is) (by k_is) (by k_is))
  (case a18=>k_is)
  (case F18=>exact L2.QB (by k_is) (by k_is) (by k_is))
  (case a19=>k_is)
  (case F19=>exact L2.QB (by k_is) (by k_is) (by k_is))
  (case a20=>k_is)
  (case F20=>exact L2.QB (by k_is) (by k_is) (by k_is))
  (case a21=>k_is)
  (case F21=>exact L2.QB (by k_is) (by k_is) (by k_is))
  (case a22=>k_is)
  (case F22=>exact L2.QB (by k_is) (by k_is) (by k_is))
  (case a23=>k_is)
  (case F23=>exact L2.QB (by k_is) (by k_is) (by k_is))
  (case a24=>k_is)
  (case F24=>exact L2.QB (by k_is) (by k_is) (by k_is))
  (case a25=>k_is)
  (case F25=>exact L2.QB (by k_is) (by k_is) (by k_is))
  (case a26=>k_is)
  (case F26=>exact L2.QB (by k_is) (by k_is) (by k_is))
  (case a27=>k_is)
  (case i27=>k_is)
  (case F27=>exact L2.QB (by k_is) (by k_is) (by k_is))
  (case a28=>k_is)
  (case F28=>exact L2.QB (by k_is) (by k_is) (by k_is))
  (case a29=>k_is)
  (case F29=>exact L2.QB (by k_is) (by k_is) (by k_is))
  (case a30=>k_is)
  (case F30=>exact L2.QB (by k_is) (by k_is) (by k_is))
  (case a31=>k_is)
  (case F31=>exact L2.QB (by k_is) (by k_is) (by k_is))
  (case a32=>k_is)
  (case F32=>exact L2.QB (by k_is) (by k_is) (by k_is))
  (case a33=>k_is)
  (case F33=>exact L2.QB (by k_is) (by k_is) (by k_is))
  (case a34=>k_is)
  (case F34=>exact L2.QB (by k_is) (by k_is) (by k_is))
  (case a35=>k_is)
  (case i35=>k_is)
  (case F35=>exact L2.QB (by k_is) (by k_is) (by k_is))
  (case a36=>k_is)
  (case F36=>exact L2.QB (by k_is) (by k_is) (by k_is))
  (case a37=>k_is)
  (case F37=>exact L2.QB (by k_is) (by k_is) (by k_is))
  (case a38=>k_is)
  (case F38=>exact L2.QB (by k_is) (by k_is) (by k_is))
  (case a39=>k_is)
  (case F39=>exact L2.QB (by k_is) (by k_is) (by k_is))
  (case a40=>k_is)
  (case F40=>exact L2.QB (by k_is) (by k_is) (by k_is))
  (case a41=>k_is)
  (case i41=>k_is)
  (case F41=>exact L2.QB (by k_is) (by k_is) (by k_is))
  (case a42=>k_is)
  (case i42=>k_is)
  (case F42=>exact L2.QB (by k_is) (by k_is) (by k_is))
  (case a43=>k_is)
  (case i43=>k_is)
  (case F43=>exact L2.QB (by k_is) (by k_is) (by k_is))
  (case a44=>k_is)
  (case F44=>exact L2.QB (by k_is) (by k_is) (by k_is))
  (case a45=>k_is)
  (case F45=>exact L2.QB (by k_is) (by k_is) (by k_is))
  (case a46=>k_is)
  (case i46=>k_is)
  (case F46=>exact L2.QB (by k_is) (by k_is) (by k_is))
  (case a47=>k_is)
  (case F47=>exact L2.QB (by k_is) (by k_is) (by k_is))
  (case a48=>k_is)
  (case F48=>exact L2.QB (by k_is) (by k_is) (by k_is))
  (case a49=>k_is)
  (case F49=>exact L2.QB (by k_is) (by k_is) (by k_is))
  (case z0=>k_is)
  (case z1=>k_is)
  (case z2=>k_is)
  (case z3=>k_is)
  (case z4=>k_is)
  (case z5=>k_is)
  (case z6=>k_is)
  (case z7=>k_is)
  (case z8=>k_is)
  (case z9=>k_is)
  (case z10=>k_is)
  (case z11=>k_is)
  (case Qe2=>k_is)
  (case Qe3=>k_is)
  (case Qe4=>k_is)
  (case Qe5=>k_is)
  (case Qe6=>k_is)
  (case Qe7=>k_is)
  (case QD=>k_is)
  (case Qf4=>k_is)
  (case Y8=>k_is)
