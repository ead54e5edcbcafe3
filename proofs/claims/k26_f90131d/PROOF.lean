import PyProof.Rows.All
import Wide.All
import OpenK.AllK
import Wide.FinOn
import Lean
import PyProof.EqAt
import PyProof.EqKinds
import PyProof.TupleCall
import PyProof.DictKeyH
import PyProof.DictFindH
import PySem.Challenge.RW_signsmooth_k26_whole_determinant_by_fami
set_option genSizeOf false
set_option bootstrap.genMatcherCode false
set_option Elab.async false
set_option linter.all false
set_option maxRecDepth 100000
set_option exponentiation.threshold 4000
open List renaming length_map→Ei,getElem?_eq_getElem→El,mem_singleton→Em,range→Eo,mem_cons_of_mem→Ep,map_cons→Er,mem_cons_self→Es,getElem?_eq_some_iff→Ew,size_toArray→EA,getD_eq_getElem?_getD→EB,length_append→EC,take_of_length_le→ED,mem_cons→EE,getElem?_append_left→EI,mem_map→EL,mem_append_right→EM,length_range→EN,replicate→ER,length_cons→ET,map_map→EU,map_append→EW,append_assoc→EX,mem_range→EY,length_take→E1,getElem?_set_ne→E2,getElem?_map→E5,find?_cons→E6,all_eq_true→E9,map_congr_left→Fb,getElem?_set_self→Fc,getElem_mem→Fe,mem_append→Ff,getD→Fh,getElem?_append_right→Fi,lookup_cons→Fj,length_set→Fl,replicate_succ→Fo,ext_getElem→Fu,take_append_drop→Fw,sum_cons→Fy,range_succ→Fz,filter_append→FA,append_nil→FC,flatten_cons→FH,map_nil→FK,not_mem_nil→FR,mem_of_getElem?→FW,nodup_cons→F4,mem_of_mem_take→Ge,length_nil→Gg,foldl_append→Gh,all_map→Gk,getElem_of_mem→Gm,filter_cons_of_pos→Gn,filter_cons_of_neg→Gp,mem_append_left→GF,drop_zero→GJ,drop_eq_getElem_cons→GK,length_drop→GO,length_pos_iff→GR,filter_nil→GZ,drop_eq_nil_of_le→G5,filter_congr→G7,getElem?_eq_none→Hb,mem_flatMap→Hg,getElem_map→Hh,cons_append→Hi,perm_append_comm_assoc→Hm,mem_filter→Hn,length_reverse→Ho,getElem?_zip_eq_some→HC,extract_eq_drop_take→HD,reverse_cons→HI,mapM_toArray→HJ,length_eq_zero_iff→HQ,getElem?_replicate→HR,eraseIdx_cons_succ→HS,any_cons→HU,take_length→HZ,drop_length→Ia,range_succ_eq_map→Ic,find?_cons_of_pos→Ie,find?_cons_of_neg→Ig,perm_append_comm→Ik,of_mem_zip→Il,mem_iff_getElem?→Im,length_filter_le→Io,foldl_cons→Ip,any_map→Iq,mem_of_mem_drop→IC,getElem_reverse→ID,take_succ→IF,drop_drop→IG,filter_eq_self→II,filterMap_cons→IJ,map_singleton→IY,getElem_range→IZ,foldl_reverse→Ja,all_cons→Jb,nodup_append→Jf,flatMap_cons→Jg,filter_cons→Jo,any_eq_true→Jp,nil_append→Jy,length_eraseIdx_of_lt→JJ,pairwise_iff_getElem→JO,nodup_nil→JP,drop_take→JQ
open PySem.W renaming Frag→Ej,keepIn→FU,fnOf→FV,kia_one→Gu,codeIn→GC,nsIn→GI,mg_of→Hd,methodObj→IM,OpenLaw→Jj,cellsFrom_some→JL
open Nat renaming le_refl→Ek,lt_of_lt_of_le→EG,le_trans→EH,ne_of_lt→ES,lt_of_le_of_lt→EV,pow_le_pow_right→E8,mul_le_mul_right→Fd,zero_le→Fg,lt_irrefl→Fs,le_succ→Fv,lt_succ_of_lt→FI,not_lt_zero→FN,eq_zero_or_pos→FQ,succ_mul→F1,mul_succ→F2,lt_trans→F8,testBit_two_pow_of_ne→Gb,two_pow_pos→Gi,add_le_add_left→Gq,le_of_lt→Gy,pow_lt_pow_right→GH,testBit_two_pow_self→GY,log2_lt→G8,testBit_or→Ha,add_zero→He,mul_le_mul_left→Hs,min_eq_left→Ht,lt_or_ge→HB,lt_trichotomy→HN,exists_eq_add_of_le→HX,add_assoc→HY,min_eq_right→Ib,ne_of_gt→Iy,gcd_comm→Iz,eq_of_testBit_eq→IE,mul_le_mul→IH,pow_add→IS,sub_self→Jm,le_total→Jn,succ_ne_self→Js,succ_le_succ→Jt,lt_succ_self→Ju,le_add_right→Jv,mul_lt_mul_of_pos_left→JN,le_mul_of_pos_right→J5
open PySem.Heap renaming get?_push_of_some→En,lt_size→Ez,get?_push_size→EK,get?_update_other→FF,get?_push_ne→FZ,size_update→F5,size_push→Ga,SameBut→Ii
open Bool renaming false_ne_true→Eu,and_eq_true→Fp,false_eq_true→FD,eq_iff_iff→Hq,or_false→HV,or_true→Jk,or_eq_true→JA,not_true→JZ
open Int renaming toNat_natCast→Ey,gcd→EO,toNat_of_nonneg→FJ,eq_ofNat_of_zero_le→FY,fdiv_eq_ediv_of_nonneg→F7,natCast_nonneg→F9,gcd_dvd_right→Gj,fmod_eq_emod_of_nonneg→GG,mul_le_mul→GP,gcd_dvd_left→GS,mul_pos→GW,dvd_trans→Hl,le_refl→Hu,natAbs_natCast→HE,natAbs_mul→HG,mul_ediv_cancel_left→HP,fmod_nonneg_of_pos→Ih,mul_comm→IA,toNat_zero→IL,fmod_lt_of_pos→Jd,ofNat_le→Jq,natCast_pow→JK,natAbs_ediv_le_natAbs→JW,mul_nonneg→JX,mul_assoc→J6
open PySem.Value renaming ref→EF,int→FT,bool→FX,type→Gd,none→G2,builtin→IP,str→J2
open Rat renaming intCast_mul→EJ,add_zero→E7,one_mul→Fn,mul_zero→FL,mul_one→Gx,mul_assoc→GB,zero_mul→GX,mul_comm→Hc,intCast_add→Hr,zero_add→HA,add_assoc→HW,intCast_inj→Ir,natCast_eq_zero_iff→J1
open PyProof.Rows renaming callWith_type1→EZ,sortedAll_old→IQ,sortedAll_at→IV,lt_int→Jx
open Array renaming length_toList→E3,toList_append→F3,toList_push→Gf,getElem?_toList→G9,perm_iff_toList_perm→Hv,getElem?_eq_getElem→Hz,toList_extract→IB,toList→Jh,toList_setIfInBounds→JB,getElem?_eq_none→J0
open Option.some renaming inj→E4,injEq→Iw
open PySem.Obj renaming mapSeq→Fm
open PySem.Builtin.Tuple renaming tupleHashOf→Fq
open PySem.PyData renaming eqv→Ft,canLay0→GD,depth→G6,eqvAll→HH,canLayAll0→IT,depthAll→Jl
open PySem.NameKind renaming free→Fx,cell→FP
open Ne renaming symm→FE
open Or renaming inr→FG,inl→Gw
open Option renaming map_some→F0,getD_some→HM,isSome_map→IX,bind_some→Je,isSome_iff_exists→JI
open PySem.Calls renaming spliced_cons→F6,callWith_builtin→G1,spliced_nil→G4,evalArgs_plain→Iu,Name_function_global→Jw,call_function_entry→JF
open List.Perm renaming append_left→Gr,trans→Hf,append_right→Jz
open Function renaming comp→Gv
open True renaming intro→Gz
open PySem.Around renaming under_plainId→GA
open PySem renaming mem_of_lookup→GL,Env→Hk
open PySem.Builtin.List renaming listItems→GN,listTooLong→Hj
open ForInStep renaming yield→GQ
open False renaming elim→GU
open PySem.F renaming plainAttrs_list→GV,slot_dict_get→G3,args_tuple_add_2→Hw,entry_tuple_add→HF,slot_tuple_add→HL,slot_list_lt→IU,plainAttrs_dict→JD,args_dict_get_3→JE,entry_dict_get→JM,type_dict_get→JV,slot_range_iterator_next→JY,slot_list_reverse→J4
open Sum renaming inl→G0,inr→JC
open PySem.Builtin renaming bitNot→Ij,bitAnd→Jr,bitOr→JG
open PyProof.Rows.SortSt renaming mk'→IW
open PySem.PassesOwn renaming never→Jc
open Sum.inl renaming inj→Ji
open PySem.AutoSeq1 renaming sub_list_list→JH
open PySem.SeqAt.EqAt renaming str_int→JR,int_str→JS,int_int→JU
open PySem.IsRange renaming new→J3
namespace Hx
open PySem PySem.Spec PyProof.Rows
theorem kY:entryFor table "proto.unchain" = some Builtin.«proto.unchain»:=entryFor_of_tree (by kernel_rfl)
section
variable {prog:Program} {w:World} {A:Around} {E:Value->Shared->Prop} {s:Shared}
theorem pk {α:Type} {a h:Addr} {oa oh:Obj} {us vs:Array Value} {Q:α->Shared->Prop} (hh:A.handled=some (.ref h)) (hne:h ≠ a) (ha:s.heap.get? a=some oa) (hda:oa.data=.fields us) (hsz:2 < us.size)
   (ho:s.heap.get? h=some oh) (hd:oh.data=.fields vs) (h2:vs[2]?=some .none)
   (q:E (.ref a) { s with heap:=s.heap.update a (Obj.mapFields (·.setIfInBounds 2 (.ref h))) }):wpAny (model prog w) A (raiseNew (.ref a):Sem α) Q E s:=by
 unfold raiseNew; refine wpAny_bind (wpAny_handled ?_); rw [hh]
 dsimp only
 rw [if_pos (show (EF h != EF a)=true by simp [hne])]
 refine wpAny_bind (wpAny_holding (wpAny_runValue (codeAny_builtin kY ?_)))
 unfold Builtin.«proto.unchain»
 dsimp only
 refine wpAny_bind (wpAny_field ho hd h2 ?_)
 rw [if_pos (show (G2 == G2)=true by decide)]
 refine wpAny_pure ?_
 show wpAny _ A (do let _ <- updateField a 2 (.ref h); throw (EF a)) _ _ _
 unfold updateField
 refine wpAny_bind (wpAny_bind (wpAny_load ha ?_))
 rw [hda]
 dsimp only
 rw [if_pos hsz]
 exact wpAny_update ha (wpAny_throw q)
theorem rq {r h:Addr} {v left step:Int} {oh:Obj} {vs:Array Value} {Q:Option Value->Shared->Prop} (hh:A.handled=some (.ref h)) (ho:s.heap.get? h=some oh) (hd:oh.data=.fields vs) (h2:vs[2]?=some .none)
   (hr:IsRangeIter s.heap r v left step) (hl:left<=0) (k:∀ h',Heap.ExtBut r s.heap h'->Q none { s with heap:=h' }):wpAny (model prog w) A (pyNext (.ref r)) Q E s:=by
 have ty:s.TypeIs (.ref r) "range_iterator":=⟨_,hr,rfl⟩
 have hlt:=Ez ho
 have fl:∀ {α:Type} {B:Around} {F:Value->Shared->Prop} {R:α->Shared->Prop} (i:Nat) (y:Int) {f:Value->Sem α},(#[rawInt v,rawInt left,rawInt step]:Array Value)[i]?=some (rawInt y)->wpAny (model prog w) B (f (rawInt y)) R F s->wpAny (model prog w) B (field (.ref r) i >>= f) R F s:=by
   intro α B F R i y f e q
   exact wpAny_bind (wpAny_field hr rfl e q)
 unfold pyNext
 refine wpAny_bind (wpAny_attempt (wpAny_callSpecial?_slot (name:=Str.ofString "__next__") ty JY (wpAny_call_entry JY ty F.entry_range_iterator_next (fl 0 v rfl (fl 1 left rfl (fl 2 step rfl ?_))) (F.args_range_iterator_next_1 _))))
 show wpAny (model prog w) A.in1 (if left<=0 then _ else _) _ _ s
 rw [if_pos hl]
 refine wpAny_bind (wpAny_rule (wpAny_bind ?_))
 show wpAny _ _ (do let e <- newExc (.type "StopIteration") []; _) _ _ _
 refine wpAny_bind ?_
 simp only [newExc,newTuple]
 refine wpAny_bind (wpAny_newObj_type (wpAny_bind (m:=firstArgMember _ _) (wpAny_of_eq (a:=.none) (by first | rfl | (simp only [firstArgMember]; rfl)) (wpAny_newObj_type ?_ (by size_fits)))) (by size_fits))
 have hg:((s.heap.push { cls:=.type "tuple",data:=.seq ([]:List Value).toArray }).push { cls:=.type "StopIteration",data:=.fields (#[EF s.heap.objs.size,.none,.none,.none,.bool false,.none]++ownMembersOf (.type "StopIteration") []) }).get? (s.heap.push { cls:=.type "tuple",data:=.seq ([]:List Value).toArray }).objs.size
     = some { cls:=.type "StopIteration",data:=.fields (#[EF s.heap.objs.size,.none,.none,.none,.bool false,.none]++ownMembersOf (.type "StopIteration") []) }:=EK _ rfl
 refine pk (h:=h) (A:=A.in1) hh ?_ hg rfl (by rw [Array.size_append]; exact EG (by decide:2 < 6) (Jv _ _)) (En _ (En _ ho)) hd h2 ?_
 · intro z
   rw [Ga] at z
   exact absurd hlt (by rw [z]; exact Nat.not_lt.mpr (Fv _))
 have hu:=Heap.get?_update_self (Obj.mapFields (·.setIfInBounds 2 (.ref h))) hg rfl
 refine wpAny_bind (wpAny_isInstance (T:="StopIteration") (b:=true) ⟨_,hu,rfl⟩ isSubtype_stop ?_)
 refine wpAny_pure (k _ λb o hb e=>?_)
 have bl:=Ez e
 rw [FF _ _ (by intro z; rw [Ga] at z; exact absurd bl (by rw [<- z]; exact Nat.not_lt.mpr (Fv _)))]
 exact En _ (En _ e)
end
end Hx
set_option linter.all false
set_option maxRecDepth 100000
namespace L2
open PySem PySem.Spec PyProof.Rows
noncomputable abbrev Key:=Sum Int Str
noncomputable def lu:Key->Value->Bool
 | .inl k,v=>Value.isInt k v
 | .inr x,v=>Value.isStrOf x v
noncomputable def Eg (w:World):Key->Int
 | .inl k=>hashInt k
 | .inr x=>hashStr w x
theorem bf:∀ {k:Key} {v:Value},lu k v=true->(∃ i t,k=G0 i/\v=FT i t)\/(∃ x t,k=JC x/\v=J2 x t)
 | .inl i,v,h=>by
   obtain ⟨t,e⟩:=Value.isInt_shape (k:=i) (v:=v) h
   exact .inl ⟨i,t,rfl,e⟩
 | .inr x,v,h=>by
   obtain ⟨t,e⟩:=Value.isStrOf_shape (x:=x) (v:=v) h
   exact .inr ⟨x,t,rfl,e⟩
theorem uB (i:Int) (t:Tok):lu (.inl i) (.int i t)=true:=by simp [lu,Value.isInt]
theorem tR (x:Str) (t:Tok):lu (.inr x) (.str x t)=true:=by simp [lu,Value.isStrOf]
theorem BO (a b:Int):decide ((G0 a:Key)=G0 b)=(a == b):=by
 by_cases e:a=b
 · subst e; simp
 · have h:¬ (G0 a:Key)=G0 b:=λq=>e (Ji q)
   rw [decide_eq_false h]
   exact (beq_eq_false_iff_ne.mpr e).symm
theorem zX (a b:Str):decide ((JC a:Key)=JC b)=decide (a=b):=by
 by_cases e:a=b
 · subst e; simp
 · have h:¬ (JC a:Key)=JC b:=λq=>e (Sum.inr.inj q)
   rw [decide_eq_false h,decide_eq_false e]
theorem BP (a:Int) (b:Str):decide ((G0 a:Key)=JC b)=false:=decide_eq_false (λq=>nomatch q)
theorem BI (a:Str) (b:Int):decide ((JC a:Key)=G0 b)=false:=decide_eq_false (λq=>nomatch q)
noncomputable def bz (prog:Program) (w:World):PySem.KeyKind prog w Key where
 is:=lu
 hash:=Eg w
 inj:=λv a b ha hb=>by
   rcases bf ha with ⟨i,t,rfl,rfl⟩ | ⟨x,t,rfl,rfl⟩
   · rcases bf hb with ⟨j,u,rfl,e⟩ | ⟨y,u,rfl,e⟩
     · injection e with e1 _; rw [e1]
     · exact nomatch e
   · rcases bf hb with ⟨j,u,rfl,e⟩ | ⟨y,u,rfl,e⟩
     · exact nomatch e
     · injection e with e1 _; rw [e1]
 byValue:=λk v h=>by
   rcases bf h with ⟨i,t,rfl,rfl⟩ | ⟨x,t,rfl,rfl⟩ <;> rfl
 pyHash:=λhv h=>by
   rcases bf hv with ⟨i,t,rfl,rfl⟩ | ⟨x,t,rfl,rfl⟩
   · exact wpAny_pyHash_int h
   · exact wpAny_pyHash_str h
 eqBool:=λhu hv h=>by
   rcases bf hu with ⟨i,t,rfl,rfl⟩ | ⟨x,t,rfl,rfl⟩
   · rcases bf hv with ⟨j,u,rfl,rfl⟩ | ⟨y,u,rfl,rfl⟩
     · rw [BO] at h; exact wpAny_eqBool_int h
     · rw [BP] at h; exact JS i t y u _ _ _ _ h
   · rcases bf hv with ⟨j,u,rfl,rfl⟩ | ⟨y,u,rfl,rfl⟩
     · rw [BI] at h; exact JR x t j u _ _ _ _ h
     · rw [zX] at h; exact wpAny_eqBool_str h
 «strs»:=λk x t v h=>by
   rcases bf h with ⟨i,u,rfl,e⟩ | ⟨y,u,rfl,e⟩
   · exact nomatch e
   · injection e with e1 _
     subst e1
     cases v <;> rfl
theorem pC (prog:Program) (w:World) (i:Int) (t:Tok):(bz prog w).is (.inl i) (.int i t)=true:=uB i t
theorem pE (prog:Program) (w:World) (x:Str) (t:Tok):(bz prog w).is (.inr x) (.str x t)=true:=tR x t
inductive V where
 | non | bl (b:Bool) | int (i:Int) | str (x:Str) | byt (b:Array UInt8) | flt (b:UInt64) | ref (a:Addr) | ty (n:String)
 deriving DecidableEq
noncomputable def RelV:V->Value->Prop
 | .non,u=>u=G2
 | .bl b,u=>u=FX b
 | .int i,u=>∃ t,u=FT i t
 | .str x,u=>∃ t,u=J2 x t
 | .byt b,u=>∃ t,u=Value.bytes b t
 | .flt b,u=>∃ t,u=Value.float b t
 | .ref a,u=>u=EF a
 | .ty n,u=>u=Gd n
noncomputable abbrev Vals:List V->List Value->Prop:=Paired RelV
theorem Vals.length {xs:List V} {us:List Value} (r:Vals xs us):xs.length=us.length:=Paired.length r
theorem Vals.get:∀ {xs:List V} {us:List Value} {i:Nat} {x:V},Vals xs us->xs[i]?=some x->∃ u,us[i]?=some u/\RelV x u
 | _,_,_,_,.nil,e=>by simp at e
 | _,_,0,_,.cons r _,e=>by simp at e; subst e; exact ⟨_,rfl,r⟩
 | _,_,i + 1,x,.cons _ t,e=>by
   obtain ⟨u,h1,h2⟩:=Vals.get (i:=i) (x:=x) t (by simpa using e)
   exact ⟨u,by simpa using h1,h2⟩
theorem Vals.set {x:V} {u:Value} (r:RelV x u):∀ {xs:List V} {us:List Value} (i:Nat),Vals xs us->Vals (xs.set i x) (us.set i u)
 | _,_,_,.nil=>.nil
 | _,_,0,.cons _ t=>.cons r t
 | _,_,i + 1,.cons q t=>.cons q (Vals.set r i t)
theorem Vals.append:∀ {xs ys:List V} {us ws:List Value},Vals xs us->Vals ys ws->Vals (xs++ys) (us++ws)
 | _,_,_,_,.nil,s=>s
 | _,_,_,_,.cons r t,s=>.cons r (Vals.append t s)
theorem Vals.take:∀ {xs:List V} {us:List Value} (n:Nat),Vals xs us->Vals (xs.take n) (us.take n)
 | _,_,0,_=>.nil
 | _,_,_ + 1,.nil=>.nil
 | _,_,n + 1,.cons r t=>.cons r (Vals.take n t)
theorem Vals.drop:∀ {xs:List V} {us:List Value} (n:Nat),Vals xs us->Vals (xs.drop n) (us.drop n)
 | _,_,0,r=>r
 | _,_,_ + 1,.nil=>.nil
 | _,_,n + 1,.cons _ t=>Vals.drop n t
noncomputable def pM:Option V->Option Value->Prop
 | some v,some u=>RelV v u
 | none,none=>True
 | _,_=>False
noncomputable def KV {κ:Type}:List (κ × V)->List (κ × Value)->Prop:=Paired λ(p:κ × V) (q:κ × Value)=>p.1=q.1/\RelV p.2 q.2
noncomputable def kV:Key->V
 | .inl i=>.int i
 | .inr x=>.str x
inductive HO where
 | lst (xs:List V)
 | tup (xs:List V)
 | dK (kvs:List (Key × V)) | dT (kvs:List (List Key × V))
 | set (S:Int->Bool) (n:Nat)
 | ins (C dx:Addr) (fs:List (Str × V))
 | own (x:Addr)
 | xd (fs:List (Str × V))
 | met (f x:Addr)
 | rng (lo hi:Int)
 | frz (o:Obj) (u:HO)
 | tbl (ps:Array Value)
 | ext (φ:Heap->Prop)
noncomputable abbrev Hp:=Addr->Option HO
noncomputable def upd (H:Hp) (a:Addr) (o:HO):Hp:=λb=>if b=a then some o else H b
theorem aE {H:Hp} {a:Addr} {o:HO}:upd H a o a=some o:=by unfold upd; rw [if_pos rfl]
theorem aD {H:Hp} {a b:Addr} {o:HO} (h:b ≠ a):upd H a o b=H b:=by unfold upd; rw [if_neg h]
theorem aP {H:Hp} {a b:Addr} {o:HO} (h:H a=some o) (h':H b=none):a ≠ b:=by
 intro e; subst e; rw [h] at h'; cases h'
section
variable (P:Program) (w:World)
noncomputable def bh (H:Hp) (h:Heap) (a:Addr):HO->Prop
 | .lst xs=>xs.length<=sizeLine/\∃ (its:List Value) (n:Nat),Vals xs its/\h.get? a=some { cls:=.type "list",data:=.seq its.toArray n }
 | .tup xs=>xs.length<=sizeLine/\∃ its:List Value,Vals xs its/\IsTup h a its.toArray
 | .dK kvs=>kvs.length<=sizeLine/\(a == sysModules)=false/\∃ vs,KV kvs vs/\h.DictOf (bz P w) a vs
 | .dT kvs=>kvs.length<=sizeLine/\(a == sysModules)=false/\∃ xs:List (List Key × Addr × Value),
     Paired (λ(p:List Key × V) (q:List Key × Addr × Value)=>p.1=q.1/\H q.2.1=some (.tup (p.1.map kV))/\RelV p.2 q.2.2) kvs xs /\
     ∃ o es ep,h.get? a=some o/\o.ExactDict/\o.data=.dict es ep/\es.toList=xs.map (entryOfKey (tupleKind (bz P w)))/\(xs.map (·.1)).Nodup
 | .set S n=>h.SetOf (intKind P w) a S n
 | .ins C dx fs=>H dx=some (.own a)/\fs.length<=1000/\dx ≠ a/\h.get? a=some (PySem.W.instObj C dx) /\
     ∃ mA,h.Ns1 dx mA/\(∀ f,pM (fs.lookup f) (mA f))/\PySem.Within mA (fs.map (·.1))
 | .own _=>∃ o,h.get? a=some o
 | .xd fs=>∃ mA,h.Ns1 a mA/\∀ f,pM (fs.lookup f) (mA f)
 | .rng lo hi=>∃ t u v,h.get? a=some { cls:=.type "range",data:=.fields #[.int lo t,.int hi u,.int 1 v] }
 | .frz o u=>h.get? a=some o/\bh H h a u
 | .tbl ps=>h.get? a=some { cls:=.none,data:=.fields ps }
 | .met f x=>h.get? a=some (IM (.ref f) (.ref x))
 | .ext φ=>φ h/\(∃ o,h.get? a=some o)/\∀ h1 h2:Heap,φ h1->(∀ o,h1.get? a=some o->h2.get? a=some o)->φ h2
noncomputable def HOk (H:Hp) (h:Heap):Prop:=∀ a o,H a=some o->bh P w H h a o
end
section
variable {P:Program} {w:World} {H H':Hp} {h h':Heap} {a:Addr} {o:HO}
theorem bh.lt (x:bh P w H h a o):a < h.objs.size:=by
 cases o with
 | lst xs=>obtain ⟨_,_,_,_,e⟩:=x; exact Ez e
 | tup xs=>obtain ⟨_,_,_,p⟩:=x; exact p.lt
 | dK kvs=>obtain ⟨_,_,_,_,o,_,_,e,_⟩:=x; exact Ez e
 | dT kvs=>obtain ⟨_,_,_,_,o,_,_,e,_⟩:=x; exact Ez e
 | set S n=>obtain ⟨o,_,_,_,e,_⟩:=x; exact Ez e
 | ins C dx fs=>obtain ⟨_,_,_,e,_⟩:=x; exact Ez e
 | own y=>obtain ⟨_,e⟩:=x; exact Ez e
 | xd fs=>obtain ⟨_,⟨_,_,_,e,_⟩,_⟩:=x; exact Ez e
 | rng lo hi=>obtain ⟨_,_,_,e⟩:=x; exact Ez e
 | frz ob u=>obtain ⟨e,_⟩:=x; exact Ez e
 | tbl ps=>exact Ez (show h.get? a=some _ from x)
 | met f y=>exact Ez (show h.get? a=some _ from x)
 | ext φ=>obtain ⟨_,⟨_,e⟩,_⟩:=x; exact Ez e
theorem Paired.Cr {α β:Type} {F G:α->β->Prop}:∀ {l₁:List α} {l₂:List β},Paired F l₁ l₂->(∀ a b,F a b->G a b)->Paired G l₁ l₂
 | _,_,.nil,_=>.nil
 | _,_,.cons r t,f=>.cons (f _ _ r) (Paired.Cr t f)
theorem bh.jI (x:bh P w H h a o) (k:∀ b u,(b=a\/H b=some (.own a))->h.get? b=some u->h'.get? b=some u)
   (ho:∀ b,H b=some (.own a)->H' b=some (.own a)) (ht:∀ b xs,H b=some (.tup xs)->H' b=some (.tup xs)):bh P w H' h' a o:=by
 induction o with
 | lst xs=>obtain ⟨z,its,n,r,e⟩:=x; exact ⟨z,its,n,r,k _ _ (.inl rfl) e⟩
 | tup xs=>obtain ⟨z,its,r,ob,e,c⟩:=x; exact ⟨z,its,r,ob,k _ _ (.inl rfl) e,c⟩
 | dK kvs=>obtain ⟨z,y,vs,r,ob,es,ep,e,c⟩:=x; exact ⟨z,y,vs,r,ob,es,ep,k _ _ (.inl rfl) e,c⟩
 | dT kvs=>
   obtain ⟨z,y,xs,r,ob,es,ep,e,c⟩:=x
   exact ⟨z,y,xs,Paired.Cr r λp q z=>⟨z.1,ht _ _ z.2.1,z.2.2⟩,ob,es,ep,k _ _ (.inl rfl) e,c⟩
 | set S n=>obtain ⟨ob,es,ep,t,e,c⟩:=x; exact ⟨ob,es,ep,t,k _ _ (.inl rfl) e,c⟩
 | ins C dx fs=>
   obtain ⟨d,z,ne,e,mA,⟨od,es,ep,e2,c⟩,r⟩:=x
   exact ⟨ho _ d,z,ne,k _ _ (.inl rfl) e,mA,⟨od,es,ep,k _ _ (.inr d) e2,c⟩,r⟩
 | own y=>obtain ⟨ob,e⟩:=x; exact ⟨ob,k _ _ (.inl rfl) e⟩
 | xd fs=>obtain ⟨mA,⟨od,es,ep,e,c⟩,r⟩:=x; exact ⟨mA,⟨od,es,ep,k _ _ (.inl rfl) e,c⟩,r⟩
 | rng lo hi=>obtain ⟨t,u,v,e⟩:=x; exact ⟨t,u,v,k _ _ (.inl rfl) e⟩
 | frz ob u ih=>obtain ⟨e,q⟩:=x; exact ⟨k _ _ (.inl rfl) e,ih q⟩
 | tbl ps=>
   have e:h.get? a=some { cls:=.none,data:=.fields ps }:=x
   show h'.get? a=some { cls:=.none,data:=.fields ps }
   exact k a _ (.inl rfl) e
 | met f y=>
   have e:h.get? a=some (IM (.ref f) (.ref y)):=x
   show h'.get? a=some (IM (.ref f) (.ref y))
   exact k a _ (.inl rfl) e
 | ext φ=>obtain ⟨p,⟨o,e⟩,st⟩:=x; exact ⟨st _ _ p λo q=>k _ _ (.inl rfl) q,⟨o,k _ _ (.inl rfl) e⟩,st⟩
theorem HOk.lt (x:HOk P w H h) (e:H a=some o):a < h.objs.size:=(x a o e).lt
theorem HOk.fresh (x:HOk P w H h) (e:h.objs.size<=a):H a=none:=by
 cases q:H a with
 | none=>rfl
 | some u=>exact absurd (EG (x.lt q) e) (Fs _)
theorem HOk.kept (x:HOk P w H h) (k:∀ b u,h.get? b=some u->h'.get? b=some u):HOk P w H h':=λa o e=>
 (x a o e).jI (λb u _ q=>k b u q) (λ_ q=>q) λ_ _ q=>q
theorem HOk.laid (x:HOk P w H h) (k:∀ b u,h.get? b=some u->h'.get? b=some u) (hp:h.objs.size<=a) (new:bh P w (upd H a o) h' a o):HOk P w (upd H a o) h':=λb u e=>by
 have hn:=x.fresh hp
 by_cases hb:b=a
 · subst hb; rw [aE] at e; cases e; exact new
 · rw [aD hb] at e
   exact (x b u e).jI (λc v _ q=>k c v q) (λc q=>by rw [aD (aP q hn)]; exact q) λc xs q=>by rw [aD (aP q hn)]; exact q
end
noncomputable def Rd (H:Hp) (a:Addr) (u:HO):Prop:=H a=some u\/∃ o,H a=some (.frz o u)
theorem Rd.ok {P:Program} {w:World} {H:Hp} {h:Heap} {a:Addr} {u:HO} (r:Rd H a u) (x:HOk P w H h):bh P w H h a u:=by
 rcases r with r | ⟨o,r⟩
 · exact x a u r
 · obtain ⟨_,q⟩:=x a _ r
   exact q
noncomputable def Mut:Option HO->Prop
 | some (.lst _)=>True
 | some (.dK _)=>True
 | some (.dT _)=>True
 | some (.set _ _)=>True
 | some (.ins _ _ _)=>True
 | some (.ext _)=>True
 | _=>False
section
variable {P:Program} {w:World} {H:Hp} {h h':Heap} {x e:Addr} {o':HO}
theorem HOk.write (ok:HOk P w H h) (mu:Mut (H x)) (he:e=x\/H e=some (.own x)) (k:∀ b u,b ≠ e->h.get? b=some u->h'.get? b=some u) (heo:∃ u,h'.get? e=some u)
   (new:bh P w (upd H x o') h' x o'):HOk P w (upd H x o') h':=λb u q=>by
 have nown:∀ c y,H c=some (.own y)->c ≠ x:=λc y r z=>by subst z; rw [r] at mu; exact mu
 have ntup:∀ c xs,H c=some (.tup xs)->c ≠ x:=λc xs r z=>by subst z; rw [r] at mu; exact mu
 by_cases hb:b=x
 · subst hb; rw [aE] at q; cases q; exact new
 · rw [aD hb] at q
   by_cases hbe:b=e
   · have q':H b=some (.own x):=by
       rcases he with z | z
       · exact absurd (hbe.trans z) hb
       · rw [hbe]; exact z
     rw [q] at q'; cases q'
     obtain ⟨v,hv⟩:=heo
     exact ⟨v,by rw [hbe]; exact hv⟩
   · refine (ok b u q).jI (λc v hc r=>k c v ?_ r) (λc r=>by rw [aD (nown c b r)]; exact r) λc xs r=>by rw [aD (ntup c xs r)]; exact r
     rcases hc with rfl | hc
     · exact hbe
     · rintro rfl
       rcases he with z | z
       · exact nown c b hc z
       · rw [hc] at z; cases z; exact hb rfl
end
structure Un (fs ex:List Addr) (H H':Hp) (h h':Heap):Prop where
 keep:∀ b o,h.get? b=some o->H b=none->b ∉ fs->b ∉ ex->h'.get? b=some o
 slot:∀ b o,h.get? b=some o->H b=none->b ∈ fs->b ∉ ex->∃ sl,h'.get? b=some { o with slots:=sl }
 free:∀ b o,h.get? b=some o->H b=none->b ∉ ex->H' b=none
 there:∀ b o,h.get? b=some o->b ∉ ex->∃ o',h'.get? b=some o'
 tups:∀ b xs,H b=some (.tup xs)->H' b=some (.tup xs)
 frzs:∀ b o u,H b=some (.frz o u)->H' b=some (.frz o u)
 tbls:∀ b ps,H b=some (.tbl ps)->∃ more,H' b=some (.tbl (ps++more))
section
variable {fs fs' ex ex':List Addr} {H H1 H2:Hp} {h h1 h2 h':Heap} {a x e:Addr} {o:HO}
theorem Un.any (u:Un fs ex H H1 h h1) {b:Addr} {ob:Obj} (q:h.get? b=some ob) (n:H b=none) (hx:b ∉ ex):∃ sl,h1.get? b=some { ob with slots:=sl }:=by
 by_cases hb:b ∈ fs
 · exact u.slot b ob q n hb hx
 · exact ⟨ob.slots,u.keep b ob q n hb hx⟩
theorem Un.kept (k:∀ b u,h.get? b=some u->h'.get? b=some u):Un fs ex H H h h':=
 ⟨λb ob q _ _ _=>k b ob q,λb ob q _ _ _=>⟨ob.slots,k b ob q⟩,λ_ _ _ n _=>n,λb ob q _=>⟨ob,k b ob q⟩,λ_ _ q=>q,λ_ _ _ q=>q,λ_ ps q=>⟨#[],by rw [q]; simp⟩⟩
theorem Un.refl:Un fs ex H H h h:=Un.kept λ_ _ q=>q
theorem Un.laid (k:∀ b u,h.get? b=some u->h'.get? b=some u) (hp:h.objs.size<=a) (hn:H a=none):Un fs ex H (upd H a o) h h' where
 keep:=λb u q _ _ _=>k b u q
 slot:=λb u q _ _ _=>⟨u.slots,k b u q⟩
 free:=λb u q n _=>by rw [aD (ES (EG (Ez q) hp))]; exact n
 there:=λb u q _=>⟨u,k b u q⟩
 tups:=λb xs q=>by rw [aD (aP q hn)]; exact q
 frzs:=λb u xs q=>by rw [aD (aP q hn)]; exact q
 tbls:=λb ps q=>⟨#[],by rw [aD (aP q hn),q]; simp⟩
theorem Un.write (mu:Mut (H x)) (he:e=x\/H e=some (.own x)) (k:∀ b u,b ≠ e->h.get? b=some u->h'.get? b=some u) (heo:∃ u,h'.get? e=some u):Un fs ex H (upd H x o) h h':=by
 have hx:∀ b,H b=none->b ≠ x:=λb n z=>by subst z; rw [n] at mu; exact mu
 have hb:∀ b,H b=none->b ≠ e:=λb n z=>by
   subst z
   rcases he with r | r
   · exact hx b n r
   · rw [n] at r; cases r
 have hm:∀ b u,H b=some u->¬ Mut (some u)->b ≠ x:=λb u q nm z=>by subst z; rw [q] at mu; exact nm mu
 refine ⟨λb u q n _ _=>k b u (hb b n) q,λb u q n _ _=>⟨u.slots,k b u (hb b n) q⟩,λb u q n _=>by rw [aD (hx b n)]; exact n,λb u q _=>?_,
   λb xs q=>by rw [aD (hm b _ q λz=>z)]; exact q,λb u xs q=>by rw [aD (hm b _ q λz=>z)]; exact q,λb ps q=>⟨#[],by rw [aD (hm b _ q λz=>z),q]; simp⟩⟩
 by_cases hbe:b=e
 · subst hbe; exact heo
 · exact ⟨u,k b u hbe q⟩
end
noncomputable def trk (h:Heap) (H:Hp):List Addr:=(Eo h.objs.size).filter λa=>(H a).isSome
noncomputable def nq (h:Heap) (H:Hp):Heap:=PySem.W.hideAll h (trk h H)
theorem t5 (h:Heap) (H:Hp):(nq h H).objs.size=h.objs.size:=PySem.W.hideAll_size _ _
theorem wK {h:Heap} {H:Hp} {b:Addr} {o:Obj} (e:h.get? b=some o) (n:H b=none):(nq h H).get? b=some o:=
 PySem.W.hideAll_get _ e λhm=>by
   have q:(H b).isSome=true:=(Hn.mp hm).2
   rw [n] at q; simp at q
theorem xV {h:Heap} {H:Hp} {b:Addr} {o:Obj} (e:(nq h H).get? b=some o):h.get? b=some o/\H b=none:=by
 have e':h.get? b=some o:=PySem.W.of_hideAll (trk h H) e
 refine ⟨e',?_⟩
 cases q:H b with
 | none=>rfl
 | some x=>
   have hm:b ∈ trk h H:=Hn.mpr ⟨EY.mpr (Ez e'),by simp [q]⟩
   have z:(nq h H).get? b=none:=PySem.W.hideAll_none (trk h H) hm
   rw [z] at e; cases e
noncomputable def yh (g h:Heap) (L:Addr):List (Addr × Obj):=(Eo h.objs.size).filterMap λa=>if a=L\/(g.get? a).isSome=true then none else (h.get? a).map λo=>(a,o)
noncomputable def rest (g h:Heap) (L d:Addr):List (Addr × Obj):=(yh g h L).filter λp=>decide (p.1 ≠ d)
structure Mod (K:Ej) (mg:Str->Option Value) (base:Heap):Prop where
 kin:K.In base
 glob:base.Ns mainGlobals mg
 blt:∃ mb,base.Ns builtinsNs mb/\∀ x:Str,x ≠ "__name__" -> mb x=bootBuiltins x
 nolimit:base.NoLimit
structure Cx where
 prog:Program
 w:World
 K:Ej
 mg:Str->Option Value
 base:Heap
 A:Around
 N:List Str
 s₀:Shared
 H₀:Hp
 env:Env
 outer:List Env
 stack:List Env
 ex:List Addr
 fn:Str->Bool
 calm:Bool
 pn:List (Addr × Obj)
 xe:Value->Shared->Prop
noncomputable def frs (l:List Env):List Addr:=l.filterMap (·.frame)
noncomputable abbrev Cx.fs (X:Cx):List Addr:=frs X.outer
noncomputable def Vis (sc:Scope) (x:Str):Prop:=sc.names.lookup x=some .local\/sc.names.lookup x=some .cell\/sc.names.lookup x=some .free
noncomputable def Loc (sc:Scope) (x:Str):Prop:=sc.names.lookup x=some .local\/sc.names.lookup x=some .cell
noncomputable def Look (env:Env) (h:Heap) (m:Str->Option Value) (x:Str) (u:Value):Prop:=
 (env.kindOf x=some .local/\m x=some u)\/((env.kindOf x=some .cell\/env.kindOf x=some .free)/\∃ c,env.cells.lookup x=some c/\h.IsCell c (some u))
structure Cx.Ok (X:Cx):Prop where
 mod:Mod X.K X.mg X.base
 kind:X.env.scope.kind=.function
 glob:X.env.globals=mainGlobals
 blt:X.env.builtins=builtinsNs
 above:X.s₀.heap.objs.size<=X.env.locals
 inj:∀ x y c,X.env.cells.lookup x=some c->X.env.cells.lookup y=some c->x=y
 has:∀ x,(X.env.kindOf x=some .cell\/X.env.kindOf x=some .free)->∃ c,X.env.cells.lookup x=some c
 cab:∀ x c,X.fn x=true->X.env.cells.lookup x=some c->X.s₀.heap.objs.size<=c
 hd:X.calm=true->X.A.handled=none
 frames:X.A.frames=some X.stack
 stk:X.stack=X.outer\/(X.stack=X.env :: X.outer/\X.env.frame=some X.env.locals)
 exf:∀ b ∈ X.ex,b ≠ X.env.locals/\∀ x c,X.env.cells.lookup x=some c->c ≠ b
 bs:∀ b o,X.base.get? b=some o->X.s₀.heap.get? b=some o/\X.H₀ b=none
 bsz:X.base.objs.size<=X.s₀.heap.objs.size
 noex:∀ b o,X.base.get? b=some o->b ∉ X.ex
 exfs:∀ b ∈ X.ex,b ∉ X.fs
 jR:X.s₀.heap.FunFrames X.base X.outer
 frf:∀ b ∈ X.fs,X.H₀ b=none
structure Inv (X:Cx) (pins:List (Addr × Obj)) (σ:List (Option V)) (H:Hp) (s:Shared):Prop where
 ok:X.Ok
 os:s.os=X.s₀.os
 bare:AllBare s.gens
 base:Un X.fs X.ex X.H₀ H X.s₀.heap s.heap
 loc:∃ m,s.heap.Ns X.env.locals m/\∀ (i:Nat) (x:Str) (v:V),X.N[i]?=some x->σ[i]?=some (some v)->Vis X.env.scope x->∃ u,RelV v u/\Look X.env s.heap m x u
 cell:∀ x c,X.env.cells.lookup x=some c->∃ v,s.heap.IsCell c v
 free:H X.env.locals=none
 freeC:∀ x c,X.env.cells.lookup x=some c->H c=none
 pin:∀ p ∈ X.pn++pins,s.heap.get? p.1=some p.2/\H p.1=none/\p.1 ≠ X.env.locals/\p.1 ∉ X.fs/\∀ v,p.2.data ≠ .cell v
 hok:HOk X.prog X.w H s.heap
 len:σ.length=X.N.length
section
variable {X:Cx} {pins:List (Addr × Obj)} {σ:List (Option V)} {H H':Hp} {s:Shared} {h':Heap}
theorem Cx.Ok.D1 (ok:X.Ok) {b:Addr} {o:Obj} (e:X.base.get? b=some o):b ∉ X.fs:=λhb=>by
 have:=(ok.jR.mem hb).1
 rw [e] at this; cases this
theorem Inv.bs (I:Inv X pins σ H s):∀ b o,X.base.get? b=some o->s.heap.get? b=some o/\H b=none:=λb o e=>
 ⟨I.base.keep b o (I.ok.bs b o e).1 (I.ok.bs b o e).2 (I.ok.D1 e) (I.ok.noex b o e),I.base.free b o (I.ok.bs b o e).1 (I.ok.bs b o e).2 (I.ok.noex b o e)⟩
theorem Inv.bk (I:Inv X pins σ H s):∀ b o,X.base.get? b=some o->s.heap.get? b=some o:=λb o e=>(I.bs b o e).1
theorem Inv.mod (I:Inv X pins σ H s):Mod X.K X.mg X.base:=I.ok.mod
theorem Inv.kIn (I:Inv X pins σ H s):X.K.In s.heap:=I.ok.mod.kin.keeps I.bk
theorem Inv.lt (I:Inv X pins σ H s):X.env.locals < s.heap.objs.size:=let ⟨_,hn,_⟩:=I.loc; hn.lt
theorem Inv.sz (I:Inv X pins σ H s):X.s₀.heap.objs.size<=s.heap.objs.size:=EH I.ok.above (Gy I.lt)
theorem Inv.DY (I:Inv X pins σ H s) {a:Addr} (h:s.heap.objs.size<=a):a ∉ X.fs:=λhb=>by
 obtain ⟨_,o,ho,_⟩:=I.ok.jR.mem hb
 exact absurd (EG (Ez ho) (EH I.sz h)) (Fs _)
theorem Inv.cne (I:Inv X pins σ H s):∀ x c,X.env.cells.lookup x=some c->c ≠ X.env.locals:=λx c e z=>by
 obtain ⟨v,o,ho,hd⟩:=I.cell x c e
 obtain ⟨m,⟨o',es,ep,ho',hd',_⟩,_⟩:=I.loc
 rw [z,ho'] at ho; cases ho; rw [hd'] at hd; cases hd
theorem Inv.jR (I:Inv X pins σ H s):s.heap.FunFrames X.base X.outer:=by
 have all:∀ (l:List Env),(∀ b ∈ frs l,b ∈ X.fs)->X.s₀.heap.FunFrames X.base l->s.heap.FunFrames X.base l:=by
   intro l
   induction l with
   | nil=>intro _ _; trivial
   | cons env r ih=>
     intro hs hl
     obtain ⟨hk,⟨L,o,hf,hn,ho,hd⟩,hr⟩:=hl
     have hL:L ∈ X.fs:=hs L (by unfold frs; rw [IJ,hf]; exact Es)
     obtain ⟨sl,e⟩:=I.base.slot L o ho (I.ok.frf L hL) hL λz=>I.ok.exfs L z hL
     exact ⟨hk,⟨L,_,hf,hn,e,hd⟩,ih (λb hb=>hs b (by unfold frs; rw [IJ,hf]; exact Ep _ hb)) hr⟩
 exact all X.outer (λ_ hb=>hb) I.ok.jR
theorem Inv.stack (I:Inv X pins σ H s):s.heap.FunFrames X.base X.stack:=by
 rcases I.ok.stk with e | ⟨e,hf⟩
 · rw [e]; exact I.jR
 · rw [e]
   obtain ⟨m,hn,_⟩:=I.loc
   refine .cons (by rw [I.ok.kind]; decide) hf hn ?_ I.jR
   exact Heap.get?_none_of_le (EH I.ok.bsz I.ok.above)
theorem Inv.qv (I:Inv X pins σ H s):∀ b ∈ frs X.stack,b ∈ X.env.locals :: X.fs:=λb hb=>by
 rcases I.ok.stk with e | ⟨e,hf⟩
 · rw [e] at hb; exact Ep _ hb
 · rw [e] at hb
   unfold frs at hb
   rw [IJ,hf] at hb
   exact hb
theorem Inv.tK (I:Inv X pins σ H s):∀ b ∈ frs X.stack,H b=none:=λb hb=>by
 rcases EE.mp (I.qv b hb) with e | hb
 · rw [e]; exact I.free
 · obtain ⟨_,o,ho,_⟩:=I.ok.jR.mem hb
   exact I.base.free b o ho (I.ok.frf b hb) λz=>I.ok.exfs b z hb
theorem Inv.step {g':Array GenState} {t':Nat} {d':Drawn} {ch:List Addr} (I:Inv X pins σ H s)
   (hch:∀ b ∈ ch,(b ∈ X.ex\/X.s₀.heap.objs.size<=b)/\b ≠ X.env.locals/\(∀ x c,X.env.cells.lookup x=some c->c ≠ b)/\∀ p ∈ X.pn++pins,p.1 ≠ b)
   (keep:∀ b o,b ≠ X.env.locals->b ∉ X.fs->b ∉ ch->s.heap.get? b=some o->H b=none->h'.get? b=some o)
   (slot:∀ b o,b ≠ X.env.locals->b ∈ X.fs->b ∉ ch->s.heap.get? b=some o->H b=none->∃ sl,h'.get? b=some { o with slots:=sl }) (free:∀ b o,b ∉ ch->s.heap.get? b=some o->H b=none->H' b=none)
   (there:∀ b o,b ∉ ch->s.heap.get? b=some o->∃ o',h'.get? b=some o')
   (tups:∀ b xs,H b=some (.tup xs)->H' b=some (.tup xs)) (frzs:∀ b o u,H b=some (.frz o u)->H' b=some (.frz o u)) (tbls:∀ b ps,H b=some (.tbl ps)->∃ more,H' b=some (.tbl (ps++more)))
   (ns:∀ m,s.heap.Ns X.env.locals m->h'.Ns X.env.locals m) (hok:HOk X.prog X.w H' h') (hg:AllBare g') :
   Inv X pins σ H' { s with heap:=h',gens:=g',drawn:=d',toks:=t' }:=by
 have neL:∀ b o,X.s₀.heap.get? b=some o->b ≠ X.env.locals:=λb o e=>ES (EG (Ez e) I.ok.above)
 have neC:∀ b o,X.s₀.heap.get? b=some o->b ∉ X.ex->b ∉ ch:=λb o e hx hb=>by
   rcases (hch b hb).1 with z | z
   · exact hx z
   · exact absurd (EG (Ez e) z) (Fs _)
 have cellK:∀ x c,X.env.cells.lookup x=some c->∀ v,s.heap.IsCell c v->h'.IsCell c v:=λx c e v ⟨o,ho,hd⟩=>by
   have nch:c ∉ ch:=λz=>(hch c z).2.2.1 x c e rfl
   by_cases hc:c ∈ X.fs
   · obtain ⟨sl,q⟩:=slot c o (I.cne x c e) hc nch ho (I.freeC x c e)
     exact ⟨_,q,hd⟩
   · exact ⟨o,keep c o (I.cne x c e) hc nch ho (I.freeC x c e),hd⟩
 refine ⟨I.ok,I.os,hg,⟨λb o e n hb hx=>?_,λb o e n hb hx=>?_,λb o e n hx=>?_,λb o e hx=>?_,λb xs e=>tups b xs (I.base.tups b xs e),λb o xs e=>frzs b o xs (I.base.frzs b o xs e),λb ps e=>?_⟩,?_,λx c e=>?_,?_,λx c e=>?_,λp hp=>?_,hok,I.len⟩
 · exact keep b o (neL b o e) hb (neC b o e hx) (I.base.keep b o e n hb hx) (I.base.free b o e n hx)
 · obtain ⟨sl,e1⟩:=I.base.slot b o e n hb hx
   obtain ⟨sl',e2⟩:=slot b _ (neL b o e) hb (neC b o e hx) e1 (I.base.free b o e n hx)
   exact ⟨sl',e2⟩
 · obtain ⟨o',e1⟩:=I.base.there b o e hx
   exact free b o' (neC b o e hx) e1 (I.base.free b o e n hx)
 · obtain ⟨o',e1⟩:=I.base.there b o e hx
   exact there b o' (neC b o e hx) e1
 · obtain ⟨m1,e1⟩:=I.base.tbls b ps e
   obtain ⟨m2,e2⟩:=tbls b _ e1
   exact ⟨m1++m2,by rw [e2,Array.append_assoc]⟩
 · obtain ⟨m,hn,hl⟩:=I.loc
   refine ⟨m,ns m hn,λi x v e1 e2 e3=>?_⟩
   obtain ⟨u,r,l⟩:=hl i x v e1 e2 e3
   refine ⟨u,r,?_⟩
   rcases l with l | ⟨k,c,e,z⟩
   · exact .inl l
   · exact .inr ⟨k,c,e,cellK x c e _ z⟩
 · obtain ⟨v,z⟩:=I.cell x c e
   exact ⟨v,cellK x c e v z⟩
 · obtain ⟨m,⟨o,_,_,ho,_⟩,_⟩:=I.loc
   exact free _ o (λz=>(hch _ z).2.1 rfl) ho I.free
 · obtain ⟨v,o,ho,hd⟩:=I.cell x c e
   exact free c o (λz=>(hch c z).2.2.1 x c e rfl) ho (I.freeC x c e)
 · obtain ⟨e,n,ne,nf,d⟩:=I.pin p hp
   have nch:p.1 ∉ ch:=λz=>(hch p.1 z).2.2.2 p hp rfl
   exact ⟨keep p.1 p.2 ne nf nch e n,free p.1 p.2 nch e n,ne,nf,d⟩
theorem Inv.un {t':Nat} (I:Inv X pins σ H s) (u:Un X.fs [] H H' s.heap h') (hok:HOk X.prog X.w H' h'):Inv X pins σ H' { s with heap:=h',toks:=t' }:=by
 obtain ⟨m,⟨o,es,ep,ho,r⟩,_⟩:=id I.loc
 obtain ⟨sl,hL⟩:=u.any ho I.free (by simp)
 exact I.step (g':=s.gens) (d':=s.drawn) (ch:=[]) (λ_ z=>nomatch z) (λb o _ hb _ e n=>u.keep b o e n hb (by simp)) (λb o _ hb _ e n=>u.slot b o e n hb (by simp)) (λb o _ e n=>u.free b o e n (by simp)) (λb o _ e=>u.there b o e (by simp)) u.tups u.frzs u.tbls (λm' hm=>by
   obtain ⟨o',es',ep',ho',r'⟩:=hm
   rw [ho] at ho'; cases ho'
   exact ⟨_,es',ep',hL,r'⟩) hok I.bare
theorem Inv.call {g':Array GenState} {t':Nat} {d':Drawn} {ch:List Addr} (I:Inv X pins σ H s) (u:Un (frs X.stack) ch H H' s.heap h') (hok:HOk X.prog X.w H' h') (hg:AllBare g')
   (hch:∀ b ∈ ch,(b ∈ X.ex\/X.s₀.heap.objs.size<=b)/\b ≠ X.env.locals/\(∀ x c,X.env.cells.lookup x=some c->c ≠ b)/\∀ p ∈ X.pn++pins,p.1 ≠ b) :
   Inv X pins σ H' { s with heap:=h',gens:=g',drawn:=d',toks:=t' }:=by
 obtain ⟨m,⟨o,es,ep,ho,r⟩,_⟩:=id I.loc
 obtain ⟨sl,hL⟩:=u.any ho I.free λz=>(hch _ z).2.1 rfl
 exact I.step (ch:=ch) hch (λb o hL hb hc e n=>u.keep b o e n (λz=>(EE.mp (I.qv b z)).elim hL hb) hc) (λb o _ _ hc e n=>u.any e n hc) (λb o hc e n=>u.free b o e n hc) (λb o hc e=>u.there b o e hc) u.tups u.frzs u.tbls (λm' hm=>by
   obtain ⟨o',es',ep',ho',r'⟩:=hm
   rw [ho] at ho'; cases ho'
   exact ⟨_,es',ep',hL,r'⟩) hok hg
theorem Inv.turned {t':Nat} {it:Addr} (I:Inv X pins σ H s) (k:∀ b o,b ≠ it->s.heap.get? b=some o->h'.get? b=some o) (hn:H it=none) (hL:it ≠ X.env.locals)
   (h1:it ∈ X.ex\/X.s₀.heap.objs.size<=it) (h2:∀ x c,X.env.cells.lookup x=some c->c ≠ it) (h3:∀ p ∈ X.pn++pins,p.1 ≠ it):Inv X pins σ H { s with heap:=h',toks:=t' }:=by
 have nit:∀ b u,H b=some u->b ≠ it:=λb u e z=>by rw [z,hn] at e; cases e
 refine I.step (g':=s.gens) (d':=s.drawn) (ch:=[it]) (λb hb=>?_) (λb o _ _ hc e _=>k b o (λz=>hc (by simp [z])) e) (λb o _ _ hc e _=>⟨o.slots,k b o (λz=>hc (by simp [z])) e⟩) (λ_ _ _ _ n=>n)
   (λb o hc e=>⟨o,k b o (λz=>hc (by simp [z])) e⟩) (λ_ _ e=>e) (λ_ _ _ e=>e) (λb ps e=>⟨#[],by rw [e]; simp⟩) (λm hm=>?_) (λb u e=>?_) I.bare
 · have e:b=it:=by simpa using hb
   subst e
   exact ⟨h1,hL,h2,h3⟩
 · obtain ⟨o,es,ep,ho,r⟩:=hm
   exact ⟨o,es,ep,k _ o (FE hL) ho,r⟩
 · refine (I.hok b u e).jI (λc v hc q=>k c v ?_ q) (λ_ q=>q) λ_ _ q=>q
   rcases hc with z | z
   · rw [z]; exact nit b u e
   · exact nit c _ z
theorem Inv.tok (I:Inv X pins σ H s) (t:Nat):Inv X pins σ H { s with toks:=t }:=I.un (h':=s.heap) (t':=t) Un.refl I.hok
theorem Inv.kept {t':Nat} (I:Inv X pins σ H s) (k:∀ b u,s.heap.get? b=some u->h'.get? b=some u):Inv X pins σ H { s with heap:=h',toks:=t' }:=I.un (Un.kept k) (I.hok.kept k)
theorem Inv.laid {a:Addr} {o:HO} {t':Nat} (I:Inv X pins σ H s) (k:∀ b u,s.heap.get? b=some u->h'.get? b=some u) (hp:s.heap.objs.size<=a) (new:bh X.prog X.w (upd H a o) h' a o) :
   Inv X pins σ (upd H a o) { s with heap:=h',toks:=t' }:=I.un (Un.laid k hp (I.hok.fresh hp)) (I.hok.laid k hp new)
theorem Inv.write {x e:Addr} {o:HO} {t':Nat} (I:Inv X pins σ H s) (mu:Mut (H x)) (he:e=x\/H e=some (.own x)) (k:∀ b u,b ≠ e->s.heap.get? b=some u->h'.get? b=some u) (heo:∃ u,h'.get? e=some u)
   (new:bh X.prog X.w (upd H x o) h' x o):Inv X pins σ (upd H x o) { s with heap:=h',toks:=t' }:=I.un (Un.write mu he k heo) (I.hok.write mu he k heo new)
theorem Inv.sk {pins':List (Addr × Obj)} (I:Inv X pins σ H s) (h:∀ p ∈ pins',s.heap.get? p.1=some p.2/\H p.1=none/\p.1 ≠ X.env.locals/\p.1 ∉ X.fs/\∀ v,p.2.data ≠ .cell v):Inv X pins' σ H s:=
 ⟨I.ok,I.os,I.bare,I.base,I.loc,I.cell,I.free,I.freeC,λp hp=>(Ff.mp hp).elim (λz=>I.pin p (GF _ z)) (h p),I.hok,I.len⟩
theorem pO {N:List Str} (hN:N.Nodup) {i j:Nat} {x:Str} (a:N[i]?=some x) (b:N[j]?=some x):i=j:=by
 obtain ⟨h1,e1⟩:=Ew.mp a
 obtain ⟨h2,e2⟩:=Ew.mp b
 exact (List.getElem_inj hN).mp (e1.trans e2.symm)
theorem uJ {M:Model} {A:Around} {E:Value->Shared->Prop} {i:Nat} {x:Str} {v:V} {u:Value} {Q:Unit->Shared->Prop} (I:Inv X pins σ H s) (hN:X.N.Nodup) (hi:X.N[i]?=some x) (hx:Loc X.env.scope x) (r:RelV v u)
   (h:∀ s',Inv X pins (σ.set i (some v)) H s'->(∃ a,Ii a s.heap s'.heap/\(a=X.env.locals\/X.env.cells.lookup x=some a))->Q () s') (hf:X.fn x=true\/X.env.scope.names.lookup x=some .local:=by first | exact .inl rfl | exact .inr rfl | assumption):wpAny M A (storeName X.env x u) Q E s:=by
 obtain ⟨m,hn,hl⟩:=id I.loc
 have hcls:(X.env.scope.kind == .class || (X.env.scope.kind == .module && X.env.locals != X.env.globals))=false:=by rw [I.ok.kind]; rfl
 have hiσ:i < σ.length:=by rw [I.len]; exact (Ew.mp hi).1
 have cne:=I.cne
 have tracked:∀ {a:Addr} {h':Heap},(∃ o,s.heap.get? a=some o/\H a=none)->Ii a s.heap h'->HOk X.prog X.w H h':=λ{a h'} ha hs b ob e=>by
   obtain ⟨_,_,hfree⟩:=ha
   refine (I.hok b ob e).jI (λc w' hc q=>(hs.2 c ?_).trans q) (λ_ q=>q) λ_ _ q=>q
   rintro rfl
   rcases hc with rfl | hc
   · rw [hfree] at e; cases e
   · rw [hfree] at hc; cases hc
 rcases hx with hk | hk
 · refine wpAny_storeName_local hk hn (λh' hn' hs=>?_) hcls
   obtain ⟨oL,_,_,hoL,_⟩:=id hn
   refine h _ ⟨I.ok,I.os,I.bare,⟨λb o e n hb hx=>?_,λb o e n hb hx=>?_,I.base.free,λb o e hx=>?_,I.base.tups,I.base.frzs,I.base.tbls⟩,⟨_,hn',λj y v' e1 e2 e3=>?_⟩,λy c e=>?_,I.free,I.freeC,λp hp=>?_,tracked ⟨oL,hoL,I.free⟩ hs,by simpa using I.len⟩ ⟨_,hs,.inl rfl⟩
   · exact (hs.2 b (ES (EG (Ez e) I.ok.above))).trans (I.base.keep b o e n hb hx)
   · obtain ⟨sl,e1⟩:=I.base.slot b o e n hb hx
     exact ⟨sl,(hs.2 b (ES (EG (Ez e) I.ok.above))).trans e1⟩
   · obtain ⟨o',e1⟩:=I.base.there b o e hx
     exact ⟨o',(hs.2 b (ES (EG (Ez e) I.ok.above))).trans e1⟩
   · by_cases hj:j=i
     · subst hj
       rw [hi] at e1; cases e1
       rw [Fc hiσ] at e2
       cases e2
       exact ⟨u,r,.inl ⟨hk,by simp⟩⟩
     · rw [E2 (FE hj)] at e2
       obtain ⟨u',r',q⟩:=hl j y v' e1 e2 e3
       refine ⟨u',r',?_⟩
       rcases q with ⟨k,e⟩ | ⟨k,c,e,z⟩
       · refine .inl ⟨k,?_⟩
         have:y ≠ x:=λe=>hj (pO hN e1 (e ▸ hi))
         simp [this,e]
       · exact .inr ⟨k,c,e,z.sameBut hs (cne y c e)⟩
   · obtain ⟨w',z⟩:=I.cell y c e
     exact ⟨w',z.sameBut hs (cne y c e)⟩
   · obtain ⟨e,n,ne,nf,d⟩:=I.pin p hp
     exact ⟨(hs.2 p.1 ne).trans e,n,ne,nf,d⟩
 · have hfn:X.fn x=true:=by
     rcases hf with z | z
     · exact z
     · rw [z] at hk; cases hk
   obtain ⟨c,hc⟩:=I.ok.has x (.inl hk)
   obtain ⟨w',z⟩:=I.cell x c hc
   refine wpAny_storeName_cell I.ok.kind hk hc z (λh' hc' hs=>?_)
   obtain ⟨oc,hoc,hocd⟩:=id z
   refine h { s with heap:=h' } ⟨I.ok,I.os,I.bare,⟨λb o e n hb hx=>?_,λb o e n hb hx=>?_,I.base.free,λb o e hx=>?_,I.base.tups,I.base.frzs,I.base.tbls⟩,⟨m,hn.sameBut hs (FE (cne x c hc)),λj y v' e1 e2 e3=>?_⟩,λy c' e=>?_,I.free,I.freeC,λp hp=>?_,tracked ⟨oc,hoc,I.freeC x c hc⟩ hs,by simpa using I.len⟩ ⟨c,hs,.inr hc⟩
   · exact (hs.2 b (ES (EG (Ez e) (I.ok.cab x c hfn hc)))).trans (I.base.keep b o e n hb hx)
   · obtain ⟨sl,e1⟩:=I.base.slot b o e n hb hx
     exact ⟨sl,(hs.2 b (ES (EG (Ez e) (I.ok.cab x c hfn hc)))).trans e1⟩
   · obtain ⟨o',e1⟩:=I.base.there b o e hx
     exact ⟨o',(hs.2 b (ES (EG (Ez e) (I.ok.cab x c hfn hc)))).trans e1⟩
   · by_cases hj:j=i
     · subst hj
       rw [hi] at e1; cases e1
       rw [Fc hiσ] at e2
       cases e2
       exact ⟨u,r,.inr ⟨.inl hk,c,hc,hc'⟩⟩
     · rw [E2 (FE hj)] at e2
       obtain ⟨u',r',q⟩:=hl j y v' e1 e2 e3
       refine ⟨u',r',?_⟩
       rcases q with q | ⟨k,c',e,z'⟩
       · exact .inl q
       · refine .inr ⟨k,c',e,z'.sameBut hs ?_⟩
         rintro rfl
         exact hj (pO hN e1 (I.ok.inj _ _ _ e hc ▸ hi))
   · by_cases hcc:c'=c
     · subst hcc; exact ⟨_,hc'⟩
     · obtain ⟨w2,z2⟩:=I.cell y c' e
       exact ⟨w2,z2.sameBut hs hcc⟩
   · obtain ⟨e,n,ne,nf,d⟩:=I.pin p hp
     refine ⟨(hs.2 p.1 ?_).trans e,n,ne,nf,d⟩
     intro q
     rw [q,hoc] at e
     have q':oc=p.2:=E4 e
     exact d w' (by rw [<- q']; exact hocd)
theorem pK {M:Model} {A:Around} {E:Value->Shared->Prop} {i:Nat} {x:Str} {v:V} {u:Value} {Q:Unit->Shared->Prop} (I:Inv X pins σ H s) (hN:X.N.Nodup) (hi:X.N[i]?=some x) (hx:Loc X.env.scope x) (r:RelV v u)
   (h:∀ s',Inv X pins (σ.set i (some v)) H s'->Q () s') (hf:X.fn x=true\/X.env.scope.names.lookup x=some .local:=by first | exact .inl rfl | exact .inr rfl | assumption):wpAny M A (storeName X.env x u) Q E s:=
 uJ I hN hi hx r (λs' I' _=>h s' I') hf
theorem Inv.zQ {s':Shared} {ch:List Addr} (I:Inv X pins σ H s) (ho:s'.os=s.os) (u:Un (frs X.stack) ch H H' s.heap s'.heap) (hok:HOk X.prog X.w H' s'.heap) (hg:AllBare s'.gens)
   (hch:∀ b ∈ ch,(b ∈ X.ex\/X.s₀.heap.objs.size<=b)/\b ≠ X.env.locals/\(∀ x c,X.env.cells.lookup x=some c->c ≠ b)/\∀ p ∈ X.pn++pins,p.1 ≠ b):Inv X pins σ H' s':=by
 obtain ⟨h',g',d',t',o'⟩:=s'
 have e:o'=s.os:=ho
 subst e
 exact I.call (g':=g') (t':=t') (d':=d') u hok hg hch
end
noncomputable abbrev XK:=Value->Option Addr->Hp->Prop
noncomputable abbrev St:=List (Option V)
noncomputable abbrev VK:=V->Hp->Prop
noncomputable abbrev TE:=St->Hp->VK->Prop
noncomputable abbrev TT:=St->Hp->(Bool->Hp->Prop)->Prop
noncomputable abbrev TA:=St->Hp->(List V->Hp->Prop)->Prop
structure Ends where
 nx:St->Hp->Prop
 rt:VK
 bk:St->Hp->Prop:=λ_ _=>False
 ct:St->Hp->Prop:=λ_ _=>False
noncomputable abbrev TS:=Ends->St->Hp->Prop
noncomputable def EP (X:Cx) (pins:List (Addr × Obj)) (σ:St) (Q:VK) (u:Value) (s':Shared):Prop:=∃ v H',Inv X pins σ H' s'/\RelV v u/\Q v H'
noncomputable def TP (X:Cx) (pins:List (Addr × Obj)) (σ:St) (Q:Bool->Hp->Prop) (b:Bool) (s':Shared):Prop:=∃ H',Inv X pins σ H' s'/\Q b H'
noncomputable def AP (X:Cx) (pins:List (Addr × Obj)) (σ:St) (Q:List V->Hp->Prop) (us:List Value) (s':Shared):Prop:=∃ vs H',Inv X pins σ H' s'/\Vals vs us/\Q vs H'
noncomputable def SP (X:Cx) (pins:List (Addr × Obj)) (D:Ends) (f:Flow) (s':Shared):Prop:=
 match f with
 | .next=>∃ σ' H',Inv X pins σ' H' s'/\D.nx σ' H'
 | .brk=>∃ σ' H',Inv X pins σ' H' s'/\D.bk σ' H'
 | .cont=>∃ σ' H',Inv X pins σ' H' s'/\D.ct σ' H'
 | .ret u=>∃ v σ' H',Inv X pins σ' H' s'/\RelV v u/\D.rt v H'
noncomputable def PE (X:Cx) (e:Expr) (t:TE):Prop:=
 ∀ (pins:List (Addr × Obj)) (s:Shared) (σ:St) (H:Hp) (Q:VK),Inv X pins σ H s->t σ H Q->wpAny (model X.prog X.w) X.A (eval e X.env) (EP X pins σ Q) X.xe s
noncomputable def PT (X:Cx) (e:Expr) (t:TT):Prop:=
 ∀ (pins:List (Addr × Obj)) (s:Shared) (σ:St) (H:Hp) (Q:Bool->Hp->Prop),Inv X pins σ H s->t σ H Q->wpAny (model X.prog X.w) X.A (isTrue e X.env (eval e X.env)) (TP X pins σ Q) X.xe s
noncomputable def PW (X:Cx) (e:Expr) (t:TT):Prop:=
 ∀ (whole:Sem Value) (pins:List (Addr × Obj)) (s:Shared) (σ:St) (H:Hp) (Q:Bool->Hp->Prop),Inv X pins σ H s->t σ H Q->wpAny (model X.prog X.w) X.A (isTrue e X.env whole) (TP X pins σ Q) X.xe s
theorem PW.pt {X:Cx} {e:Expr} {t:TT} (h:PW X e t):PT X e t:=h _
noncomputable def PA (X:Cx) (es:List Expr) (t:TA):Prop:=
 ∀ (pos:Pos) (pins:List (Addr × Obj)) (s:Shared) (σ:St) (H:Hp) (Q:List V->Hp->Prop),Inv X pins σ H s->t σ H Q->wpAny (model X.prog X.w) X.A (spliced (backTo pos (starEach es X.env))) (AP X pins σ Q) X.xe s
noncomputable def PS (X:Cx) (st:Stmt) (t:TS):Prop:=
 ∀ (pins:List (Addr × Obj)) (s:Shared) (σ:St) (H:Hp) (D:Ends),Inv X pins σ H s->t D σ H->wpAny (model X.prog X.w) X.A (exec st X.env) (SP X pins D) X.xe s
noncomputable def PSs (X:Cx) (st:List Stmt) (t:TS):Prop:=
 ∀ (pins:List (Addr × Obj)) (s:Shared) (σ:St) (H:Hp) (D:Ends),Inv X pins σ H s->t D σ H->wpAny (model X.prog X.w) X.A (execs st X.env) (SP X pins D) X.xe s
theorem thn {α:Type} {t:Sem α} {Q Q':α->Shared->Prop} {M:Model} {A:Around} {E:Value->Shared->Prop} {s:Shared} (h:wpAny M A t Q E s) (hQ:∀ a s,Q a s->Q' a s):wpAny M A t Q' E s:=wpAny_mono h hQ λ_ _ x=>x
section
variable {X:Cx}
theorem bin {a b:Expr} {ta tb:TE} (ha:PE X a ta) (hb:PE X b tb) {pins:List (Addr × Obj)} {s:Shared} {σ:St} {H:Hp} {R:V->V->Hp->Prop} (I:Inv X pins σ H s) (h:ta σ H λx H1=>tb σ H1 λy H2=>R x y H2)
   {α:Type} {Q:α->Shared->Prop} {f:Value->Value->Sem α}
   (hf:∀ v u s2 x y H2,Inv X pins σ H2 s2->RelV x v->RelV y u->R x y H2->wpAny (model X.prog X.w) X.A (f v u) Q X.xe s2) :
   wpAny (model X.prog X.w) X.A (eval a X.env) (λv s₁=>wpAny (model X.prog X.w) X.A (eval b X.env) (λu s₂=>wpAny (model X.prog X.w) X.A (f v u) Q X.xe s₂) X.xe s₁) X.xe s:=by
 refine thn (ha pins s σ H _ I h) λv s1 ⟨x,H1,I1,r1,q1⟩=>?_
 refine thn (hb pins s1 σ H1 _ I1 q1) λu s2 ⟨y,H2,I2,r2,q2⟩=>?_
 exact hf v u s2 x y H2 I2 r1 r2 q2
noncomputable def Av (i:Nat):TE:=λσ H Q=>∃ v,σ[i]?=some (some v)/\Q v H
noncomputable def tC (v:V):TE:=λ_ H Q=>Q v H
theorem bV {i:Nat} {x:Str} {pos:Pos} (hN:X.N[i]?=some x) (hv:Vis X.env.scope x) (hd:(x == ("__debug__" : Str))=false:=by decide) (hcd:(x == ("__classdict__" : Str))=false:=by decide):PE X (.Name x pos) (Av i):=by
 intro pins s σ H Q I h
 obtain ⟨v,e,h⟩:=h
 obtain ⟨m,hn,hl⟩:=I.loc
 obtain ⟨u,r,l⟩:=hl i x v hN e hv
 have fin:EP X pins σ Q u s:=⟨v,H,I,r,h⟩
 rcases l with ⟨hk,hm⟩ | ⟨hk,c,hc,hcell⟩
 · exact wpAny_Name (wpAny_loadName_local I.ok.kind hk hn hm fin) hd
 · rcases hk with hk | hk
   · exact wpAny_Name (wpAny_loadName_cell I.ok.kind hk hc hcell fin) hd
   · exact wpAny_Name (wpAny_loadName_free I.ok.kind hk hc hcell fin hcd) hd
theorem qh {i j pos}:PE X (.Constant (.int i) j pos) (tC (.int i)):=λ_ _ _ H _ I h=>wpAny_Constant_int ⟨.int i,H,I.tok _,⟨_,rfl⟩,h⟩
theorem Ca {b j pos}:PE X (.Constant (.bool b) j pos) (tC (.bl b)):=λ_ _ _ H _ I h=>Constant_bool ⟨.bl b,H,I,rfl,h⟩
theorem Bj {j pos}:PE X (.Constant .none j pos) (tC .non):=λ_ _ _ H _ I h=>Constant_none ⟨.non,H,I,rfl,h⟩
theorem AR {x j pos}:PE X (.Constant (.str x) j pos) (tC (.str x)):=λ_ _ _ H _ I h=>Calls.Constant_str ⟨.str x,H,I.tok _,⟨_,rfl⟩,h⟩
noncomputable def Gl (X:Cx) (x:Str):Prop:=X.env.kindOf x=some .globalImplicit
theorem sT {E:Value->Shared->Prop} {pins:List (Addr × Obj)} {s:Shared} {σ:St} {H:Hp} {x:Str} {u:Value} {pos:Pos} {Q:Value->Shared->Prop} (I:Inv X pins σ H s) (hg:Gl X x) (hm:X.mg x=some u) (h:Q u s)
   (hd:(x == ("__debug__" : Str))=false:=by decide):wpAny (model X.prog X.w) X.A (eval (.Name x pos) X.env) Q E s:=
 Jw I.ok.kind hg (Calls.loadGlobal_global (by rw [I.ok.glob]; exact I.mod.glob.keeps I.bk) hm h) hd
theorem cx {E:Value->Shared->Prop} {pins:List (Addr × Obj)} {s:Shared} {σ:St} {H:Hp} {x:Str} {u:Value} {pos:Pos} {Q:Value->Shared->Prop} (I:Inv X pins σ H s) (hg:Gl X x) (hm:X.mg x=none) (hv:bootBuiltins x=some u) (h:Q u s)
   (hn:x ≠ "__name__":=by decide) (hd:(x == ("__debug__" : Str))=false:=by decide):wpAny (model X.prog X.w) X.A (eval (.Name x pos) X.env) Q E s:=by
 obtain ⟨mb,h1,h2⟩:=I.mod.blt
 exact Jw I.ok.kind hg (Calls.loadGlobal_builtin (by rw [I.ok.glob]; exact I.mod.glob.keeps I.bk) hm (by rw [I.ok.blt]; exact h1.keeps I.bk) ((h2 x hn).trans hv) h) hd
theorem yA {x:Str} {v:V} {u:Value} {pos:Pos} (hg:Gl X x) (hm:X.mg x=some u) (r:RelV v u) (hd:(x == ("__debug__" : Str))=false:=by decide):PE X (.Name x pos) (tC v):=
 λ_ _ _ H _ I h=>sT I hg hm ⟨v,H,I,r,h⟩ hd
theorem xX {x:Str} {v:V} {u:Value} {pos:Pos} (hg:Gl X x) (hm:X.mg x=none) (hv:bootBuiltins x=some u) (r:RelV v u) (hn:x ≠ "__name__":=by decide) (hd:(x == ("__debug__" : Str))=false:=by decide):PE X (.Name x pos) (tC v):=
 λ_ _ _ H _ I h=>cx I hg hm hv ⟨v,H,I,r,h⟩ hn hd
variable {a b:Expr} {ta tb:TE} {pos:Pos}
noncomputable def PC (X:Cx) (op:CmpOp) (a b:Expr) (t:TE):Prop:=
 ∀ (pins:List (Addr × Obj)) (s:Shared) (σ:St) (H:Hp) (Q:VK),Inv X pins σ H s->t σ H Q ->
   wpAny (model X.prog X.w) X.A (eval a X.env) (λv s₁=>wpAny (model X.prog X.w) X.A (eval b X.env) (λu s₂=>wpAny (model X.prog X.w) X.A (compareOp op v u) (EP X pins σ Q) X.xe s₂) X.xe s₁) X.xe s
theorem we (b:Expr) {op:CmpOp} (h:op ≠ .In) (h2:op ≠ .NotIn):behindInMarks op b=false:=by
 have e1:(op == CmpOp.In)=false:=by cases op <;> first | rfl | exact absurd rfl h
 have e2:(op == CmpOp.NotIn)=false:=by cases op <;> first | rfl | exact absurd rfl h2
 cases b <;> simp [behindInMarks,e1,e2]
noncomputable def tB (t:TE):TT:=λσ H Q=>t σ H λx H1=>∃ c,x=.bl c/\Q c H1
theorem Ee {op:CmpOp} {t:TE} (h:PC X op a b t) (h1:behindInMarks op b=false:=by first | exact we _ (by decide) (by decide) | rfl):PT X (.Compare a [op] [b] pos) (tB t):=by
 intro pins s σ H Q I hw
 refine wpAny_isTrue_Compare1 (thn (h pins s σ H _ I hw) λv s1 h1=>thn h1 λu s2 h2=>thn h2 λc s3 ⟨x,H1,I1,r1,q1⟩=>?_) h1
 obtain ⟨d,rfl,q⟩:=q1
 cases r1
 exact wpAny_truthy_bool ⟨H1,I1,q⟩
theorem Al {e:Expr} {t:TE} (h:PE X e t) (he:∀ whole,isTrue e X.env whole=(do let v <- whole; standAt e.pos; holding [v] (truthy v)):=by intro _; rfl):PT X e (tB t):=by
 intro pins s σ H Q I hw
 refine isTrue_plain (thn (h pins s σ H _ I hw) λv s1 ⟨x,H1,I1,r1,q1⟩=>?_) (he _)
 obtain ⟨d,rfl,q⟩:=q1
 cases r1
 exact wpAny_truthy_bool ⟨H1,I1,q⟩
variable {tA tB':TT} {rest:List Expr}
noncomputable def Ec (t u:TT):TT:=λσ H Q=>t σ H λc H1=>if c=true then u σ H1 Q else Q false H1
noncomputable def tOr (t u:TT):TT:=λσ H Q=>t σ H λc H1=>if c=true then Q true H1 else u σ H1 Q
noncomputable def DH (t:TT):TT:=λσ H Q=>t σ H λc H1=>Q (!c) H1
theorem pw_and1 (ha:PT X a tA):PW X (.BoolOp .And [a] pos) tA:=by
 intro wh pins s σ H Q I h
 refine isTrue_and (thn (ha pins s σ H Q I h) λc s1 e=>?_)
 cases c with
 | true=>exact isTrue_and_nil e
 | false=>exact e
theorem pw_or1 (ha:PT X a tA):PW X (.BoolOp .Or [a] pos) tA:=by
 intro wh pins s σ H Q I h
 refine isTrue_or (thn (ha pins s σ H Q I h) λc s1 e=>?_)
 cases c with
 | false=>exact isTrue_or_nil e
 | true=>exact e
theorem pw_and (ha:PT X a tA) (hb:PW X (.BoolOp .And (b :: rest) pos) tB'):PW X (.BoolOp .And (a :: b :: rest) pos) (Ec tA tB'):=by
 intro wh pins s σ H Q I h
 refine isTrue_and (thn (ha pins s σ H _ I h) λc s1 ⟨H1,I1,q1⟩=>?_)
 cases c with
 | true=>exact hb wh pins s1 σ H1 Q I1 q1
 | false=>exact ⟨H1,I1,q1⟩
theorem pw_or (ha:PT X a tA) (hb:PW X (.BoolOp .Or (b :: rest) pos) tB'):PW X (.BoolOp .Or (a :: b :: rest) pos) (tOr tA tB'):=by
 intro wh pins s σ H Q I h
 refine isTrue_or (thn (ha pins s σ H _ I h) λc s1 ⟨H1,I1,q1⟩=>?_)
 cases c with
 | true=>exact ⟨H1,I1,q1⟩
 | false=>exact hb wh pins s1 σ H1 Q I1 q1
theorem BG (ha:PT X a tA):PT X (.UnaryOp .Not a pos) (DH tA):=by
 intro pins s σ H Q I h
 exact isTrue_not (ha pins s σ H (λc H1=>Q (!c) H1) I h)
noncomputable def Cq (ta tb:TE):TE:=λσ H Q=>ta σ H λx H1=>∃ c,x=.bl c/\if c=true then tb σ H1 Q else Q (.bl false) H1
noncomputable def CQ (ta:TE):TE:=λσ H Q=>ta σ H λx H1=>∃ c,x=.bl c/\Q (.bl (!c)) H1
theorem BF {op} {t:TE} (h:PE X a t):PE X (.BoolOp op [a] pos) t:=λpins s σ H Q I hw=>BoolOp_one (h pins s σ H Q I hw)
theorem xw (ha:PE X a ta) (hb:PE X (.BoolOp .And (b :: rest) pos) tb):PE X (.BoolOp .And (a :: b :: rest) pos) (Cq ta tb):=by
 intro pins s σ H Q I h
 refine BoolOp_and (thn (ha pins s σ H _ I h) λv s1 ⟨x,H1,I1,r1,q1⟩=>?_)
 obtain ⟨c,rfl,q1⟩:=q1
 cases r1
 refine wpAny_truthy_bool ?_
 cases c with
 | true=>exact hb pins s1 σ H1 Q I1 q1
 | false=>exact ⟨.bl false,H1,I1,rfl,q1⟩
theorem Br (ha:PE X a ta):PE X (.UnaryOp .Not a pos) (CQ ta):=by
 intro pins s σ H Q I h
 refine UnaryOp_ (thn (ha pins s σ H _ I h) λv s1 ⟨x,H1,I1,r1,q1⟩=>?_)
 obtain ⟨c,rfl,q1⟩:=q1
 cases r1
 exact not_of (wpAny_truthy_bool ⟨.bl (!c),H1,I1,rfl,q1⟩)
noncomputable def tIf (t:TT) (ta tb:TE):TE:=λσ H Q=>t σ H λc H1=>if c=true then ta σ H1 Q else tb σ H1 Q
theorem pI {c:Expr} (hc:PT X c tA) (ha:PE X a ta) (hb:PE X b tb):PE X (.IfExp c a b pos) (tIf tA ta tb):=by
 intro pins s σ H Q I h
 refine wpAny_IfExp (thn (hc pins s σ H _ I h) λd s1 ⟨H1,I1,q1⟩=>?_)
 cases d with
 | true=>exact ha pins s1 σ H1 Q I1 q1
 | false=>exact hb pins s1 σ H1 Q I1 q1
end
noncomputable def SqL (K:Ej) (H:Hp) (a:Addr) (xs:List V):Prop:=
 Rd H a (.lst xs) \/
   ∃ (o:Obj) (its:Array Value) (n:Nat),K.lookup a=some o/\o.cls=.type "list" /\ o.dict=none/\o.data=.seq its n/\its.size<=sizeLine/\Vals xs its.toList
noncomputable def SqT (K:Ej) (H:Hp) (a:Addr) (xs:List V):Prop:=
 Rd H a (.tup xs) \/
   ∃ (o:Obj) (its:Array Value) (n:Nat),K.lookup a=some o/\o.cls=.type "tuple" /\ o.data=.seq its n/\its.size<=sizeLine/\Vals xs its.toList
noncomputable def DI:Value->Option V
 | .none=>some .non
 | .bool b=>some (.bl b)
 | .int i _=>some (.int i)
 | .str x _=>some (.str x)
 | .bytes b _=>some (.byt b)
 | .float b _=>some (.flt b)
 | .ref a=>some (.ref a)
 | .type n=>some (.ty n)
 | _=>none
theorem RelV.abs {x:V} {u:Value} (r:RelV x u):DI u=some x:=by
 cases x with
 | non=>cases r; rfl
 | bl _=>cases r; rfl
 | int _=>obtain ⟨t,rfl⟩:=r; rfl
 | str _=>obtain ⟨t,rfl⟩:=r; rfl
 | byt _=>obtain ⟨t,rfl⟩:=r; rfl
 | flt _=>obtain ⟨t,rfl⟩:=r; rfl
 | ref _=>cases r; rfl
 | ty _=>cases r; rfl
theorem RelV.inj {x y:V} {u:Value} (r:RelV x u) (q:RelV y u):x=y:=E4 (r.abs.symm.trans q.abs)
theorem Vals.inj:∀ {xs ys:List V} {us:List Value},Vals xs us->Vals ys us->xs=ys
 | _,_,_,.nil,.nil=>rfl
 | _,_,_,.cons r t,.cons r' t'=>by rw [r.inj r',Vals.inj t t']
section
variable {X:Cx} {pins:List (Addr × Obj)} {σ:St} {H:Hp} {s:Shared} {a:Addr} {xs ys:List V}
theorem SqL.of {K:Ej} (h:H a=some (.lst xs)):SqL K H a xs:=.inl (.inl h)
theorem SqT.of {K:Ej} (h:H a=some (.tup xs)):SqT K H a xs:=.inl (.inl h)
theorem Inv.list (I:Inv X pins σ H s) (h:SqL X.K H a xs):∃ its:List Value,Vals xs its/\PlainL s.heap a its.toArray/\xs.length<=sizeLine:=by
 rcases h with h | ⟨o,its,n,hk,hc,hd,hs,hz,r⟩
 · obtain ⟨z,its,n,r,e⟩:=h.ok I.hok
   exact ⟨its,r,⟨_,n,e,rfl,rfl,rfl⟩,z⟩
 · refine ⟨its.toList,r,⟨o,n,I.kIn a o hk,hc,hd,by simpa using hs⟩,?_⟩
   have e:=r.length
   simp only [E3] at e
   omega
theorem Inv.tuple (I:Inv X pins σ H s) (h:SqT X.K H a xs):∃ its:List Value,Vals xs its/\IsTup s.heap a its.toArray/\xs.length<=sizeLine:=by
 rcases h with h | ⟨o,its,n,hk,hc,hs,hz,r⟩
 · obtain ⟨z,its,r,p⟩:=h.ok I.hok
   exact ⟨its,r,p,z⟩
 · refine ⟨its.toList,r,⟨o,I.kIn a o hk,hc,n,by simpa using hs⟩,?_⟩
   have e:=r.length
   simp only [E3] at e
   omega
theorem Inv.fG (I:Inv X pins σ H s) (h:SqL X.K H a xs) (h':SqL X.K H a ys):xs=ys:=by
 obtain ⟨its,r,⟨o,n,e,_,_,d⟩,_⟩:=I.list h
 obtain ⟨its',r',⟨o',n',e',_,_,d'⟩,_⟩:=I.list h'
 rw [e] at e'; cases e'
 rw [d] at d'
 injection d' with d1 _
 have:its=its':=by simpa using congrArg Jh d1
 subst this
 exact r.inj r'
theorem Inv.tT (I:Inv X pins σ H s) (h:SqT X.K H a xs) (h':SqT X.K H a ys):xs=ys:=by
 obtain ⟨its,r,⟨o,e,_,n,d⟩,_⟩:=I.tuple h
 obtain ⟨its',r',⟨o',e',_,n',d'⟩,_⟩:=I.tuple h'
 rw [e] at e'; cases e'
 rw [d] at d'
 injection d' with d1 _
 have:its=its':=by simpa using congrArg Jh d1
 subst this
 exact r.inj r'
end
noncomputable abbrev Cx.kR (X:Cx) (E:Value->Shared->Prop):Cx:={ X with xe:=E }
noncomputable abbrev Cx.nox (X:Cx):Cx:=X.kR λ_ _=>False
theorem Cx.Ok.kR {X:Cx} (ok:X.Ok) (E:Value->Shared->Prop):(X.kR E).Ok:=
 ⟨ok.mod,ok.kind,ok.glob,ok.blt,ok.above,ok.inj,ok.has,ok.cab,ok.hd,ok.frames,ok.stk,ok.exf,ok.bs,ok.bsz,ok.noex,ok.exfs,ok.jR,ok.frf⟩
theorem Cx.Ok.fh {X:Cx} {E:Value->Shared->Prop} (ok:(X.kR E).Ok):X.Ok:=
 ⟨ok.mod,ok.kind,ok.glob,ok.blt,ok.above,ok.inj,ok.has,ok.cab,ok.hd,ok.frames,ok.stk,ok.exf,ok.bs,ok.bsz,ok.noex,ok.exfs,ok.jR,ok.frf⟩
section
variable {X:Cx} {pins:List (Addr × Obj)} {σ:St} {H:Hp} {s:Shared} {E:Value->Shared->Prop}
theorem Inv.kR (I:Inv X pins σ H s) (E:Value->Shared->Prop):Inv (X.kR E) pins σ H s:=⟨I.ok.kR E,I.os,I.bare,I.base,I.loc,I.cell,I.free,I.freeC,I.pin,I.hok,I.len⟩
theorem Inv.fh (I:Inv (X.kR E) pins σ H s):Inv X pins σ H s:=⟨I.ok.fh,I.os,I.bare,I.base,I.loc,I.cell,I.free,I.freeC,I.pin,I.hok,I.len⟩
theorem SP.fh {D:Ends} {f:Flow} {s':Shared} (h:SP (X.kR E) pins D f s'):SP X pins D f s':=by
 cases f with
 | next=>obtain ⟨σ',H',I,q⟩:=h; exact ⟨σ',H',I.fh,q⟩
 | brk=>obtain ⟨σ',H',I,q⟩:=h; exact ⟨σ',H',I.fh,q⟩
 | cont=>obtain ⟨σ',H',I,q⟩:=h; exact ⟨σ',H',I.fh,q⟩
 | ret u=>obtain ⟨v,σ',H',I,r,q⟩:=h; exact ⟨v,σ',H',I.fh,r,q⟩
theorem PSs.nox {st:List Stmt} {t:TS} (h:PSs X.nox st t):PSs X st t:=λpins s σ H D I hw=>
 wpAny_mono (h pins s σ H D (I.kR _) hw) (λ_ _ q=>q.fh) λ_ _ z=>GU z
end
section
variable {X:Cx} {st:Stmt} {rest:List Stmt} {t u:TS} {e:Expr} {te:TE} {pos:Pos}
noncomputable def BY:TS:=λD σ H=>D.nx σ H
noncomputable def D6 (t u:TS):TS:=λD σ H=>t { D with nx:=u D } σ H
theorem yq:PSs X [] BY:=λ_ _ σ H _ I h=>wpAny_execs_nil ⟨σ,H,I,h⟩
theorem xg (h1:PS X st t) (h2:PSs X rest u):PSs X (st :: rest) (D6 t u):=by
 intro pins s σ H D I h
 refine wpAny_execs_cons (thn (h1 pins s σ H { D with nx:=u D } I h) λf s1 q=>?_)
 cases f with
 | next=>
   obtain ⟨σ',H',I',q⟩:=q
   exact h2 pins s1 σ' H' D I' q
 | ret v=>exact q
 | brk=>exact q
 | cont=>exact q
theorem Inv.quiet {pins:List (Addr × Obj)} {σ:St} {H:Hp} {s:Shared} (I:Inv X pins σ H s):interactive X.env=false:=by simp [interactive,I.ok.kind]
noncomputable def CD (te:TE):TS:=λD σ H=>te σ H λ_ H1=>D.nx σ H1
theorem jt (he:PE X e te) (hs:swapsWith e none pos.line X.env=pure false:=by rfl):PS X (.Expr e pos) (CD te):=by
 intro pins s σ H D I h
 exact wpAny_Expr_any (thn (he pins s σ H _ I h) λv s1 ⟨x,H1,I1,r1,q1⟩=>⟨σ,H1,I1,q1⟩) I.quiet hs
noncomputable def DP (te:TE):TS:=λD σ H=>te σ H D.rt
theorem mY (he:PE X e te):PS X (.Return (some e) pos) (DP te):=by
 intro pins s σ H D I h
 exact wpAny_Return_some (thn (he pins s σ H _ I h) λv s1 ⟨x,H1,I1,r1,q1⟩=>⟨x,σ,H1,I1,r1,q1⟩)
noncomputable def D4 (c:TT) (t u:TS):TS:=λD σ H=>c σ H λb H1=>if b=true then t D σ H1 else u D σ H1
theorem zw {c:Expr} {a b:List Stmt} {tc:TT} (hc:PT X c tc) (ha:PSs X a t) (hb:PSs X b u):PS X (.If c a b pos) (D4 tc t u):=by
 intro pins s σ H D I h
 refine wpAny_If (thn (hc pins s σ H _ I h) λd s1 ⟨H1,I1,q1⟩=>?_)
 cases d with
 | true=>exact ha pins s1 σ H1 D I1 q1
 | false=>exact hb pins s1 σ H1 D I1 q1
noncomputable def AA:TS:=λ_ _ _=>False
theorem lh {sts:List Stmt}:PSs X sts AA:=λ_ _ _ _ _ _ h=>h.elim
end
noncomputable abbrev TG:=V->St->Hp->(St->Hp->Prop)->Prop
noncomputable abbrev TGs:=List V->St->Hp->(St->Hp->Prop)->Prop
noncomputable def PG (X:Cx) (target:Expr) (t:TG):Prop:=
 ∀ (pins:List (Addr × Obj)) (s:Shared) (σ:St) (H:Hp) (v:V) (u:Value) (Q:St->Hp->Prop),Inv X pins σ H s->RelV v u->t v σ H Q ->
   wpAny (model X.prog X.w) X.A (assign target X.env u) (λ_ s'=>∃ σ' H',Inv X pins σ' H' s'/\Q σ' H') X.xe s
noncomputable def PGs (X:Cx) (ts:List Expr) (t:TGs):Prop:=
 ∀ (pins:List (Addr × Obj)) (s:Shared) (σ:St) (H:Hp) (vs:List V) (us:List Value) (Q:St->Hp->Prop),Inv X pins σ H s->Vals vs us->t vs σ H Q ->
   wpAny (model X.prog X.w) X.A (assignInOrder ((assignEach ts X.env).map (·.2)) us) (λ_ s'=>∃ σ' H',Inv X pins σ' H' s'/\Q σ' H') X.xe s
noncomputable abbrev Aa:=V->V->V->Hp->(Hp->Prop)->Prop
noncomputable def C5 (X:Cx) (t:Aa):Prop:=
 ∀ (pins:List (Addr × Obj)) (s:Shared) (σ:St) (H:Hp) (o i v:V) (ov iv u:Value) (Q:Hp->Prop),Inv X pins σ H s->RelV o ov->RelV i iv->RelV v u->t o i v H Q ->
   wpAny (model X.prog X.w) X.A (setItem ov iv u) (λ_ s'=>∃ H',Inv X pins σ H' s'/\Q H') X.xe s
section
variable {X:Cx} {pos:Pos}
noncomputable def xy (i:Nat):TG:=λv σ H Q=>Q (σ.set i (some v)) H
theorem fO {i:Nat} {x:Str} (hN:X.N.Nodup) (hi:X.N[i]?=some x) (hx:Loc X.env.scope x) (hf:X.fn x=true\/X.env.scope.names.lookup x=some .local:=by first | exact .inl rfl | exact .inr rfl | assumption):PG X (.Name x pos) (xy i):=by
 intro pins s σ H v u Q I r h
 exact wpAny_assign_Name (pK I hN hi hx r (λs' I'=>⟨_,H,I',h⟩) hf)
noncomputable def DQ:TGs:=λvs σ H Q=>vs=[]/\Q σ H
noncomputable def CP (t:TG) (u:TGs):TGs:=λvs σ H Q=>∃ v r,vs=v :: r/\t v σ H λσ' H'=>u r σ' H' Q
theorem tJ:PGs X [] DQ:=by
 intro pins s σ H vs us Q I r h
 obtain ⟨e,h⟩:=h
 subst e
 cases r
 exact assignInOrder_nil ⟨σ,H,I,h⟩
theorem jC {e:Expr} {es:List Expr} {t:TG} {u:TGs} (h1:PG X e t) (h2:PGs X es u)
   (hs:(assignEach (e :: es) X.env).map (·.2)=assign e X.env :: (assignEach es X.env).map (·.2):=by rfl):PGs X (e :: es) (CP t u):=by
 intro pins s σ H vs us Q I r h
 obtain ⟨v,vr,e1,h⟩:=h
 subst e1
 cases r with
 | cons r rr=>
   rw [hs]
   refine assignInOrder_cons (thn (h1 pins s σ H _ _ _ I r h) λ_ s1 ⟨σ1,H1,I1,q1⟩=>?_)
   exact h2 pins s1 σ1 H1 _ _ Q I1 rr q1
noncomputable def DN (K:Ej) (n:Nat) (t:TGs):TG:=λv σ H Q=>∃ a xs,v=.ref a/\SqT K H a xs/\xs.length=n/\t xs σ H Q
theorem vM {es:List Expr} {k:Nat} {t:TGs} {n:Nat} (hc:X.calm=true) (h:PGs X es t)
   (hn:(assignEach es X.env).length=n:=by rfl) (hst:(assignEach es X.env).findIdx? (·.1)=none:=by rfl):PG X (.Tuple es k pos) (DN X.K n t):=by
 intro pins s σ H v u Q I r hw
 obtain ⟨a,xs,e1,hq,hl,hw⟩:=hw
 subst e1
 cases r
 obtain ⟨its,rv,ht,hz⟩:=I.tuple hq
 refine assign_Tuple_tuple (I.ok.hd hc) ht (by simp [hn,<- hl,rv.length]) hst λh' hx=>?_
 have I1:Inv X pins σ H { s with heap:=h' }:=I.kept (t':=s.toks) λb o e=>hx b o (ES (Ez e)) e
 exact h pins _ σ H xs _ Q I1 (by simpa using rv) hw
noncomputable def Eh (to ti:TE) (t:Aa):TG:=λv σ H Q=>to σ H λo H1=>ti σ H1 λi H2=>t o i v H2 λH3=>Q σ H3
theorem zY {o i:Expr} {to ti:TE} {t:Aa} (ho:PE X o to) (hi:PE X i ti) (hs:C5 X t)
   (ha:∀ v,assign (.Subscript o i pos) X.env v=(do
     let ov <- holding [v] (eval o X.env)
     let iv <- holding [v,ov] (eval i X.env)
     standAt pos
     holding [v,ov,iv] (setItem ov iv v)
     release [v,ov,iv] []):=by intro _; rfl):PG X (.Subscript o i pos) (Eh to ti t):=by
 intro pins s σ H v u Q I r h
 rw [ha]
 refine wpAny_bind (wpAny_holding (thn (ho pins s σ H _ I h) λov s1 ⟨x,H1,I1,r1,q1⟩=>?_))
 refine wpAny_bind (wpAny_holding (thn (hi pins s1 σ H1 _ I1 q1) λiv s2 ⟨y,H2,I2,r2,q2⟩=>?_))
 refine wpAny_bind (wpAny_standAt (wpAny_bind (wpAny_holding (thn (hs pins s2 σ H2 x y v ov iv u _ I2 r1 r2 r q2) λ_ s3 ⟨H3,I3,q3⟩=>?_))))
 exact wpAny_release ⟨σ,H3,I3,q3⟩
noncomputable def A4 (te:TE) (g:TG):TS:=λD σ H=>te σ H λx H1=>g x σ H1 D.nx
theorem vO {tg e:Expr} {te:TE} {g:TG} (he:PE X e te) (hg:PG X tg g) (hs:swapsWithSole [tg] e pos.line X.env=pure false:=by rfl) (hw:swappedStores [tg] e X.env=pure none:=by rfl)
   (h1:(assignEach [tg] X.env).map (·.2)=[assign tg X.env]:=by rfl):PS X (.Assign [tg] e pos) (A4 te g):=by
 intro pins s σ H D I h
 refine wpAny_Assign_stores (thn (he pins s σ H _ I h) λv s1 ⟨x,H1,I1,r1,q1⟩=>?_) hs hw
 rw [h1]
 exact thn (hg pins s1 σ H1 x v _ I1 r1 q1) λ_ s2 q=>q
theorem AU {i:Nat} {x:Str} {e:Expr} {te:TE} {pos':Pos} (hN:X.N.Nodup) (hi:X.N[i]?=some x) (hx:Loc X.env.scope x) (he:PE X e te) (hs:swapsWith e (some (.Name x pos')) pos.line X.env=pure false:=by rfl) (hf:X.fn x=true\/X.env.scope.names.lookup x=some .local:=by first | exact .inl rfl | exact .inr rfl | assumption) :
   PS X (.Assign [.Name x pos'] e pos) (A4 te (xy i)):=by
 intro pins s σ H D I h
 refine wpAny_Assign_Name (thn (he pins s σ H _ I h) λv s1 ⟨y,H1,I1,r1,q1⟩=>?_) hs
 exact pK I1 hN hi hx r1 (λs2 I2=>⟨_,H1,I2,q1⟩) hf
end
section
variable {X:Cx} {pos:Pos}
noncomputable def AE (c:TT) (tb:TS):TS:=λD σ H=>∃ W:Nat->St->Hp->Prop,(∃ m,W m σ H)/\∀ m σ H,W m σ H ->
 c σ H λb H1=>if b=true then ∃ N:St->Hp->Prop,(∀ σ' H',N σ' H'->∃ m',m' < m/\W m' σ' H')/\tb { D with nx:=N,ct:=N,bk:=D.nx } σ H1 else D.nx σ H1
theorem wR {c:Expr} {body:List Stmt} {tc:TT} {tb:TS} (hp:PassesOwn (model X.prog X.w) X.A X.env X.xe) (hc:PT X c tc) (hb:PSs X body tb):PS X (.While c body [] pos) (AE tc tb):=by
 intro pins s σ H D I h
 obtain ⟨W,⟨m0,w0⟩,turn⟩:=h
 refine wpAny_While (codeAny_whileLoop (λn s'=>∃ σ' H',Inv X pins σ' H' s'/\W n σ' H') ?_ m0 ⟨σ,H,I,w0⟩)
 rintro n s1 ⟨σ1,H1,I1,w1⟩
 refine wpAny_passesOwn hp (thn (hc pins s1 σ1 H1 _ I1 (turn n σ1 H1 w1)) λb s2 ⟨H2,I2,q2⟩=>?_)
 cases b with
 | true=>
   obtain ⟨N,hN,q2⟩:=q2
   rw [if_pos rfl]
   refine wpAny_passesOwn hp (thn (hb pins s2 σ1 H2 _ I2 q2) λf s3 q3=>?_)
   cases f with
   | next=>
     obtain ⟨σ3,H3,I3,n3⟩:=q3
     obtain ⟨m',hm,w3⟩:=hN σ3 H3 n3
     exact ⟨m',hm,σ3,H3,I3,w3⟩
   | cont=>
     obtain ⟨σ3,H3,I3,n3⟩:=q3
     obtain ⟨m',hm,w3⟩:=hN σ3 H3 n3
     exact ⟨m',hm,σ3,H3,I3,w3⟩
   | brk=>exact q3
   | ret v=>exact q3
 | false=>
   rw [if_neg Eu]
   exact wpAny_execs_nil ⟨σ1,H2,I2,q2⟩
end
structure It where
 go:Nat->Hp->Prop
 yld:Nat->Hp->V->Hp->Prop
 stop:Nat->Hp->Prop
noncomputable def kH (X:Cx) (pins:List (Addr × Obj)) (H:Hp) (b:Addr):Prop:=
 H b=none/\b ≠ X.env.locals/\b ∉ X.fs/\(b ∈ X.ex\/X.s₀.heap.objs.size<=b)/\(∀ x c,X.env.cells.lookup x=some c->c ≠ b)/\∀ p ∈ X.pn++pins,p.1 ≠ b
theorem Inv.kX {X:Cx} {pins:List (Addr × Obj)} {σ:St} {H H':Hp} {s:Shared} {b:Addr} (I:Inv X pins σ H s) (hb:s.heap.objs.size<=b) (hn:H' b=none):kH X pins H' b:=by
 refine ⟨hn,Iy (EG I.lt hb),I.DY hb,.inr (EH I.sz hb),λx c e z=>?_,λp hp z=>?_⟩
 · obtain ⟨v,q⟩:=I.cell x c e
   exact absurd (EG q.lt (by rw [z]; exact hb)) (Fs _)
 · exact absurd (EG (Ez (I.pin p hp).1) (by rw [z]; exact hb)) (Fs _)
noncomputable def D3 (X:Cx):Prop:=∃ h o u vs,X.A.handled=some (.ref h)/\X.H₀ h=some (.frz o u)/\o.data=.fields vs/\vs[2]?=some .none
noncomputable def Ck (kd:Bool) (X:Cx):Prop:=X.calm=true\/(kd=true/\D3 X)
theorem Ck.calm {X:Cx} (h:Ck false X):X.calm=true:=h.resolve_right λz=>nomatch z.1
structure Turn (P:Program) (w:World) (K:Ej) (kd:Bool) (tg:Expr) (J:It) (fp:List Addr) (it:Addr) (tn:Nat->Heap->Prop):Prop where
 mem:it ∈ fp
 obj:∀ i h,tn i h->∀ b ∈ fp,∃ o,h.get? b=some o/\∀ v,o.data ≠ .cell v
 keep:∀ i h h',tn i h->(∀ b ∈ fp,∀ o,h.get? b=some o->h'.get? b=some o)->tn i h'
 item:∀ (X:Cx),X.prog=P->X.w=w->X.K=K->Ck kd X->∀ (i:Nat) (pins:List (Addr × Obj)) (s:Shared) (σ:St) (H:Hp) (E:Value->Shared->Prop),Inv X pins σ H s->(∀ b ∈ fp,kH X pins H b)->tn i s.heap->J.go i H ->
   wpAny (model P w) X.A (pyNext (.ref it)) (λr s1=>∃ u,r=some u /\
     wpAny (model P w) X.A (letOwnedTupleGo tg (.ref it) u) (λ_ s2=>∃ x H',Inv X pins σ H' s2/\RelV x u/\J.yld i H x H'/\tn (i + 1) s2.heap/\∀ b ∈ fp,H' b=none) E s1) E s
 done:∀ (X:Cx),X.prog=P->X.w=w->X.K=K->Ck kd X->∀ (i:Nat) (pins:List (Addr × Obj)) (s:Shared) (σ:St) (H:Hp) (E:Value->Shared->Prop),Inv X pins σ H s->(∀ b ∈ fp,kH X pins H b)->tn i s.heap->J.stop i H ->
   wpAny (model P w) X.A (pyNext (.ref it)) (λr s1=>r=none/\Inv X pins σ H s1) E s
 self:∀ (A:Around) (i:Nat) (s:Shared) (Q:Value->Shared->Prop) (E:Value->Shared->Prop),tn i s.heap->Q (.ref it) s->wpAny (model P w) A (pyIter (.ref it)) Q E s
noncomputable abbrev TI:=St->Hp->(It->Hp->Prop)->Prop
noncomputable def PIE (X:Cx) (pins:List (Addr × Obj)) (σ:St) (tg:Expr) (R:It->Hp->Prop) (itv:Value) (s2:Shared):Prop:=
 ∃ (kd:Bool) (it:Addr) (fp:List Addr) (tn:Nat->Heap->Prop) (J:It) (H':Hp),itv=.ref it/\Inv X pins σ H' s2/\Ck kd X/\Turn X.prog X.w X.K kd tg J fp it tn/\tn 0 s2.heap/\(∀ b ∈ fp,kH X pins H' b)/\R J H'
noncomputable def PI (X:Cx) (tg iter:Expr) (wi:TI):Prop:=
 ∀ (pins:List (Addr × Obj)) (s:Shared) (σ:St) (H:Hp) (R:It->Hp->Prop),Inv X pins σ H s->wi σ H R ->
   wpAny (model X.prog X.w) X.A (eval iter X.env) (λv s1=>wpAny (model X.prog X.w) X.A (pyIter v) (PIE X pins σ tg R) X.xe s1) X.xe s
theorem lN {M:Model} {A:Around} {E:Value->Shared->Prop} {s:Shared} {tg:Expr} {it:Addr} {u:Value} {o:Obj} {n:String} {vs:Array Value} {Q:Unit->Shared->Prop} (ho:s.heap.get? it=some o) (hc:o.cls=.type n) (hd:o.data=.fields vs)
   (hn:["enumerate","zip","dict_itemiterator","dict_reverseitemiterator","odict_iterator","itertools.zip_longest","itertools.pairwise"].contains n=false) (hQ:Q () s):wpAny M A (letOwnedTupleGo tg (.ref it) u) Q E s:=by
 unfold letOwnedTupleGo
 cases tg <;> first
   | exact wpAny_pure hQ
   | (cases u <;> first
       | exact wpAny_pure hQ
       | (refine wpAny_bind (wpAny_load ho ?_)
          rw [hc,hd]
          show wpAny M A (if (["enumerate","zip","dict_itemiterator","dict_reverseitemiterator","odict_iterator","itertools.zip_longest","itertools.pairwise"].contains n && vs[0]? == some (rawInt _))=true then _ else _) Q E s
          rw [if_neg (by intro h; rw [hn,Bool.false_and] at h; cases h)]
          exact wpAny_pure hQ))
noncomputable def Itl (K:Ej) (a:Addr):It:=
 ⟨λi H=>∃ xs x,SqL K H a xs/\xs[i]?=some x,λi H x H'=>H'=H/\∀ xs,SqL K H a xs->xs[i]?=some x,λi H=>∃ xs,SqL K H a xs/\xs.length<=i⟩
noncomputable def Itt (K:Ej) (a:Addr):It:=
 ⟨λi H=>∃ xs x,SqT K H a xs/\xs[i]?=some x,λi H x H'=>H'=H/\∀ xs,SqT K H a xs->xs[i]?=some x,λi H=>∃ xs,SqT K H a xs/\xs.length<=i⟩
noncomputable def Itr (lo:Int) (n:Nat):It:=⟨λi _=>i < n,λi H x H'=>H'=H/\x=.int (lo + i),λi _=>n<=i⟩
theorem uF {P:Program} {w:World} {K:Ej} {tg:Expr} (a it:Addr):Turn P w K false tg (Itl K a) [it] it (λi h=>h.IsListIter it a i) where
 mem:=by simp
 obj:=λi h st b hb=>by
   have e:b=it:=by simpa using hb
   subst e
   obtain ⟨o,e,c,d⟩:=st
   exact ⟨o,e,λv z=>by rw [d] at z; cases z⟩
 keep:=λi h h' st k=>st.at λo e=>k it (by simp) o e
 item:=by
   intro X hP hw hK hc i pins s σ H E I hf st hg
   subst hP hw hK
   obtain ⟨xs,x,hq,hx⟩:=hg
   obtain ⟨its,rv,p,hz⟩:=I.list hq
   obtain ⟨u,hu,ru⟩:=rv.get hx
   obtain ⟨f0,f1,f2,f3,f4,f5⟩:=hf it (by simp)
   refine wpAny_pyNext_list_item st p.isList (x:=u) (by simpa using hu) λh' st' sb=>?_
   have I1:Inv X pins σ H { s with heap:=h' }:=I.turned (t':=s.toks) (λb o hb e=>(sb.2 b hb).trans e) f0 f1 f3 f4 f5
   obtain ⟨o,e,c,d⟩:=id st'
   exact ⟨u,rfl,lN (s:={ s with heap:=h' }) e c d (by decide) ⟨x,H,I1,ru,⟨rfl,λys hy=>by rw [I.fG hy hq]; exact hx⟩,st',λb hb=>(hf b hb).1⟩⟩
 done:=by
   intro X hP hw hK hc i pins s σ H E I hf st hg
   subst hP hw hK
   obtain ⟨xs,hq,hx⟩:=hg
   obtain ⟨its,rv,p,hz⟩:=I.list hq
   obtain ⟨f0,f1,f2,f3,f4,f5⟩:=hf it (by simp)
   have hl:=rv.length
   exact wpAny_pyNext_list_end (I.ok.hd hc.calm) st p.isList (by simp; omega) λh' eb=>⟨rfl,I.turned (t':=s.toks) (λb o hb e=>eb b o hb e) f0 f1 f3 f4 f5⟩
 self:=λ_ _ _ _ _ st h=>wpAny_pyIter_listiter st h
theorem qC {P:Program} {w:World} {K:Ej} {tg:Expr} (a it:Addr):Turn P w K false tg (Itt K a) [it] it (λi h=>h.IsTupleIter it a i) where
 mem:=by simp
 obj:=λi h st b hb=>by
   have e:b=it:=by simpa using hb
   subst e
   obtain ⟨o,e,c,d⟩:=st
   exact ⟨o,e,λv z=>by rw [d] at z; cases z⟩
 keep:=λi h h' st k=>st.at λo e=>k it (by simp) o e
 item:=by
   intro X hP hw hK hc i pins s σ H E I hf st hg
   subst hP hw hK
   obtain ⟨xs,x,hq,hx⟩:=hg
   obtain ⟨its,rv,p,hz⟩:=I.tuple hq
   obtain ⟨u,hu,ru⟩:=rv.get hx
   obtain ⟨f0,f1,f2,f3,f4,f5⟩:=hf it (by simp)
   refine wpAny_pyNext_tuple_item st (show s.heap.IsTuple a its.toArray from p) (x:=u) (by simpa using hu) λh' st' sb=>?_
   have I1:Inv X pins σ H { s with heap:=h' }:=I.turned (t':=s.toks) (λb o hb e=>(sb.2 b hb).trans e) f0 f1 f3 f4 f5
   obtain ⟨o,e,c,d⟩:=id st'
   exact ⟨u,rfl,lN (s:={ s with heap:=h' }) e c d (by decide) ⟨x,H,I1,ru,⟨rfl,λys hy=>by rw [I.tT hy hq]; exact hx⟩,st',λb hb=>(hf b hb).1⟩⟩
 done:=by
   intro X hP hw hK hc i pins s σ H E I hf st hg
   subst hP hw hK
   obtain ⟨xs,hq,hx⟩:=hg
   obtain ⟨its,rv,p,hz⟩:=I.tuple hq
   obtain ⟨f0,f1,f2,f3,f4,f5⟩:=hf it (by simp)
   have hl:=rv.length
   exact wpAny_pyNext_tuple_end (I.ok.hd hc.calm) st (show s.heap.IsTuple a its.toArray from p) (by simp; omega) λh' eb=>⟨rfl,I.turned (t':=s.toks) (λb o hb e=>eb b o hb e) f0 f1 f3 f4 f5⟩
 self:=λ_ _ _ _ _ st h=>wpAny_pyIter_tupleiter st h
theorem qQ {P:Program} {w:World} {K:Ej} {tg:Expr} (it:Addr) (lo:Int) (n:Nat):Turn P w K true tg (Itr lo n) [it] it (λi h=>IsRangeIter h it (lo + (i:Nat) * 1) ((n:Int) - (i:Nat)) 1) where
 mem:=by simp
 obj:=λi h st b hb=>by
   have e:b=it:=by simpa using hb
   subst e
   exact ⟨_,st,λv z=>by
     have z':Data.fields _=Data.cell v:=z
     cases z'⟩
 keep:=λi h h' st k=>k it (by simp) _ st
 item:=by
   intro X hP hw hK hc i pins s σ H E I hf st hg
   subst hP hw hK
   obtain ⟨f0,f1,f2,f3,f4,f5⟩:=hf it (by simp)
   refine wpAny_pyNext_range_item st (by have:i < n:=hg; omega) λh' st0 sb=>?_
   have st':IsRangeIter h' it (lo + ((i + 1:Nat):Int) * 1) ((n:Int) - ((i + 1:Nat):Int)) 1:=by
     have e1:lo + ((i + 1:Nat):Int) * 1=lo + (i:Nat) * 1 + 1:=by omega
     have e2:(n:Int) - ((i + 1:Nat):Int)=(n:Int) - (i:Nat) - 1:=by omega
     rw [e1,e2]; exact st0
   have I1:Inv X pins σ H { s with heap:=h',toks:=s.toks + 1 }:=I.turned (λb o hb e=>(sb.2 b hb).trans e) f0 f1 f3 f4 f5
   refine ⟨_,rfl,lN (s:={ s with heap:=h',toks:=s.toks + 1 }) (n:="range_iterator") st' rfl rfl (by decide) ⟨.int (lo + i),H,I1,⟨s.toks,?_⟩,⟨rfl,rfl⟩,st',λb hb=>(hf b hb).1⟩⟩
   rw [Int.mul_one]
 done:=by
   intro X hP hw hK hc i pins s σ H E I hf st hg
   subst hP hw hK
   obtain ⟨f0,f1,f2,f3,f4,f5⟩:=hf it (by simp)
   rcases hc with hc | ⟨_,q,o,u,vs,e1,e2,e3,e4⟩
   · exact wpAny_pyNext_range_end (I.ok.hd hc) st (by have:n<=i:=hg; omega) λh' eb=>⟨rfl,I.turned (t':=s.toks) (λb o hb e=>eb b o hb e) f0 f1 f3 f4 f5⟩
   · have e5:=I.hok q _ (I.base.frzs q o u e2)
     exact Hx.rq e1 e5.1 e3 e4 st (by have:n<=i:=hg; omega) λh' eb=>⟨rfl,I.turned (t':=s.toks) (λb o hb e=>eb b o hb e) f0 f1 f3 f4 f5⟩
 self:=λ_ _ _ _ _ st h=>wpAny_pyIter_rangeiter st h
section
variable {X:Cx} {tg:Expr}
noncomputable def CN (K:Ej) (tl:TE):TI:=λσ H R=>tl σ H λx H1=>∃ a,x=.ref a/\(∃ xs,SqL K H1 a xs)/\R (Itl K a) H1
noncomputable def DG (K:Ej) (tl:TE):TI:=λσ H R=>tl σ H λx H1=>∃ a,x=.ref a/\(∃ xs,SqT K H1 a xs)/\R (Itt K a) H1
theorem si {l:Expr} {tl:TE} (hc:X.calm=true) (hl:PE X l tl):PI X tg l (CN X.K tl):=by
 intro pins s σ H R I h
 refine thn (hl pins s σ H _ I h) λv s1 ⟨x,H1,I1,r1,q1⟩=>?_
 obtain ⟨a,e,⟨xs,hq⟩,q⟩:=q1
 subst e
 cases r1
 obtain ⟨its,rv,p,hz⟩:=I1.list hq
 refine wpAny_pyIter_list p.isList ?_
 refine ⟨false,s1.heap.objs.size,[s1.heap.objs.size],_,_,H1,rfl,I1.kept (t':=s1.toks) λb o e=>En _ e,.inl hc,uF a _,⟨_,EK _ rfl,rfl,rfl⟩,λb hb=>?_,q⟩
 have e:b=s1.heap.objs.size:=by simpa using hb
 subst e
 exact I1.kX (Ek _) (I1.hok.fresh (Ek _))
theorem Bq {l:Expr} {tl:TE} (hc:X.calm=true) (hl:PE X l tl):PI X tg l (DG X.K tl):=by
 intro pins s σ H R I h
 refine thn (hl pins s σ H _ I h) λv s1 ⟨x,H1,I1,r1,q1⟩=>?_
 obtain ⟨a,e,⟨xs,hq⟩,q⟩:=q1
 subst e
 cases r1
 obtain ⟨its,rv,p,hz⟩:=I1.tuple hq
 refine wpAny_pyIter_tuple (show s1.heap.IsTuple a its.toArray from p) ?_
 refine ⟨false,s1.heap.objs.size,[s1.heap.objs.size],_,_,H1,rfl,I1.kept (t':=s1.toks) λb o e=>En _ e,.inl hc,qC a _,⟨_,EK _ rfl,rfl,rfl⟩,λb hb=>?_,q⟩
 have e:b=s1.heap.objs.size:=by simpa using hb
 subst e
 exact I1.kX (Ek _) (I1.hok.fresh (Ek _))
theorem pj {pins:List (Addr × Obj)} {σ:St} {H:Hp} {s:Shared} {R:It->Hp->Prop} {E:Value->Shared->Prop} {lo hi:Int} {t u v:Tok} {tk:Nat} (hc:Ck true X) (I:Inv X pins σ H s) (h1:-(2 ^ 62)<=lo) (h2:lo < 2 ^ 62) (h3:-(2 ^ 62)<=hi) (h4:hi < 2 ^ 62)
   (q:R (Itr lo (hi - lo).toNat) H):wpAny (model X.prog X.w) X.A (pyIter (.ref s.heap.objs.size)) (PIE X pins σ tg R) E { s with heap:=s.heap.push { cls:=.type "range",data:=.fields #[.int lo t,.int hi u,.int 1 v] },toks:=tk }:=by
 refine wpAny_pyIter_range (J3 ..) (small_one h1 h2 h3 h4) ?_
 have I1:Inv X pins σ H { s with heap:=s.heap.push { cls:=.type "range",data:=.fields #[.int lo t,.int hi u,.int 1 v] },toks:=tk }:=I.kept λb o e=>En _ e
 refine ⟨true,(s.heap.push { cls:=.type "range",data:=.fields #[.int lo t,.int hi u,.int 1 v] }).objs.size,[(s.heap.push { cls:=.type "range",data:=.fields #[.int lo t,.int hi u,.int 1 v] }).objs.size],_,_,H,rfl,
   I1.kept (t':=tk) λb o e=>En _ e,hc,qQ _ lo (hi - lo).toNat,?_,λb hb=>?_,q⟩
 · have e1:lo + ((0:Nat):Int) * 1=lo:=by simp
   have e2:(((hi - lo).toNat:Nat):Int) - ((0:Nat):Int)=Builtin.Range.rangeSize lo hi 1:=by rw [rangeSize_one]; split <;> omega
   show IsRangeIter _ _ (lo + ((0:Nat):Int) * 1) ((((hi - lo).toNat:Nat):Int) - ((0:Nat):Int)) 1
   rw [e1,e2]
   exact EK _ rfl
 · have e:b=(s.heap.push { cls:=.type "range",data:=.fields #[.int lo t,.int hi u,.int 1 v] }).objs.size:=by simpa using hb
   subst e
   exact I1.kX (Ek _) (I1.hok.fresh (Ek _))
noncomputable def Dp (ta:TA):TI:=λσ H R=>ta σ H λvs H1=>∃ j:Int,vs=[.int j]/\-(2 ^ 62)<=j/\j < 2 ^ 62/\R (Itr 0 j.toNat) H1
noncomputable def DF (ta:TA):TI:=λσ H R=>ta σ H λvs H1=>∃ i j:Int,vs=[.int i,.int j]/\(-(2 ^ 62)<=i/\i < 2 ^ 62/\-(2 ^ 62)<=j/\j < 2 ^ 62)/\R (Itr i (j - i).toNat) H1
theorem t4 {a:Expr} {ta:TA} {p pos:Pos} (hc:Ck true X) (hg:Gl X "range") (hm:X.mg "range" = none) (ha:PA X [a] ta) (hs:starEach [a] X.env=[(false,eval a X.env)]:=by rfl):PI X tg (.Call (.Name "range" p) [a] [] pos) (Dp ta):=by
 intro pins s σ H R I h
 refine Call_ (cx I hg hm boot_range (EZ (thn (ha pos pins s σ H _ I h) λus s1 ⟨vs,H1,I1,r1,q1⟩=>?_) hs rfl))
 obtain ⟨j,e,q1,q2,q⟩:=q1
 subst e
 cases r1 with
 | cons r rr=>
   cases rr
   obtain ⟨t,rfl⟩:=r
   exact call_range_1 (pj hc I1 (by omega) (by omega) q1 q2 (by simpa using q))
theorem ug {a b:Expr} {ta:TA} {p pos:Pos} (hc:Ck true X) (hg:Gl X "range") (hm:X.mg "range" = none) (ha:PA X [a,b] ta) (hs:starEach [a,b] X.env=[(false,eval a X.env),(false,eval b X.env)]:=by rfl) (hs2:starEach [b] X.env=[(false,eval b X.env)]:=by rfl) :
   PI X tg (.Call (.Name "range" p) [a,b] [] pos) (DF ta):=by
 intro pins s σ H R I h
 refine Call_ (cx I hg hm boot_range (EZ (thn (ha pos pins s σ H _ I h) λus s1 ⟨vs,H1,I1,r1,q1⟩=>?_) (by rw [hs,hs2]) (by rw [hs2]; rfl)))
 obtain ⟨i,j,e,⟨q1,q2,q3,q4⟩,q⟩:=q1
 subst e
 cases r1 with
 | cons r rr=>
   cases rr with
   | cons r' rr=>
     cases rr
     obtain ⟨t,rfl⟩:=r
     obtain ⟨t',rfl⟩:=r'
     exact call_range_2 (pj hc I1 q1 q2 q3 q4 q)
noncomputable def DT (wi:TI) (g:TG) (tb:TS):TS:=λD σ H=>wi σ H λJ H1=>∃ W:Nat->Nat->St->Hp->Prop,(∃ m,W 0 m σ H1)/\∀ i m σ H,W i m σ H ->
 (J.stop i H/\D.nx σ H)\/(J.go i H/\∃ N:St->Hp->Prop,(∀ σ' H',N σ' H'->∃ m',m' < m/\W (i + 1) m' σ' H')/\∀ x H',J.yld i H x H'->g x σ H' λσ2 H2=>tb { D with nx:=N,ct:=N,bk:=D.nx } σ2 H2)
noncomputable def gw (fp:List Addr) (h:Heap):List (Addr × Obj):=fp.filterMap λb=>(h.get? b).map λo=>(b,o)
theorem bM {fp:List Addr} {h:Heap} {b:Addr} {o:Obj} (hb:b ∈ fp) (e:h.get? b=some o):(b,o) ∈ gw fp h:=List.mem_filterMap.mpr ⟨b,hb,by rw [e]; rfl⟩
theorem tU {fp:List Addr} {h:Heap} {p:Addr × Obj} (hp:p ∈ gw fp h):p.1 ∈ fp/\h.get? p.1=some p.2:=by
 obtain ⟨b,hb,e⟩:=List.mem_filterMap.mp hp
 cases q:h.get? b with
 | none=>rw [q] at e; cases e
 | some o=>
   rw [q] at e
   have e':(b,o)=p:=E4 e
   subst e'
   exact ⟨hb,q⟩
theorem Inv.pinned {pins:List (Addr × Obj)} {σ:St} {H:Hp} {s:Shared} {fp:List Addr} (I:Inv X pins σ H s) (hf:∀ b ∈ fp,kH X pins H b) (ho:∀ b ∈ fp,∃ o,s.heap.get? b=some o/\∀ v,o.data ≠ .cell v):Inv X (pins++gw fp s.heap) σ H s:=
 I.sk λp hp=>(Ff.mp hp).elim (λz=>I.pin p (EM _ z)) λz=>by
   obtain ⟨hb,e⟩:=tU z
   obtain ⟨f0,f1,f2,_⟩:=hf p.1 hb
   obtain ⟨o,e',d⟩:=ho p.1 hb
   rw [e] at e'; cases e'
   exact ⟨e,f0,f1,f2,d⟩
theorem Inv.dF {pins pl:List (Addr × Obj)} {σ:St} {H:Hp} {s:Shared} (I:Inv X (pins++pl) σ H s):Inv X pins σ H s:=I.sk λp hp=>I.pin p (EM _ (GF _ hp))
theorem wx {iter:Expr} {body:List Stmt} {wi:TI} {g:TG} {tb:TS} {pos:Pos} (hp:PassesOwn (model X.prog X.w) X.A X.env X.xe) (hi:PI X tg iter wi) (hg:PG X tg g) (hb:PSs X body tb)
   (hs:∀ x,foldedSetIterable iter X.env x=pure x:=by intro _; rfl):PS X (.For tg iter body [] pos) (DT wi g tb):=by
 intro pins s σ H D I h
 refine wpAny_For (thn (hi pins s σ H _ I h) λv s1 h1=>thn h1 λitv s2 h2=>?_) hs
 obtain ⟨kd,it,fp,tn,J,H2,e,I2,hc,T,st2,f2,W,⟨m0,w0⟩,turn⟩:=h2
 subst e
 have stat:∀ {H':Hp},(∀ b ∈ fp,H' b=none)->∀ b ∈ fp,kH X pins H' b:=λhn b hb=>⟨hn b hb,(f2 b hb).2⟩
 refine codeAny_forLoop_any (λn s'=>∃ i σ' H',Inv X pins σ' H' s'/\tn i s'.heap/\(∀ b ∈ fp,H' b=none)/\W i n σ' H') ?_ m0 ⟨0,σ,H2,I2,st2,λb hb=>(f2 b hb).1,w0⟩
 rintro n s3 ⟨i,σ3,H3,I3,st3,fr3,w3⟩
 rcases turn i n σ3 H3 w3 with ⟨stop,qn⟩ | ⟨go,N,hN,step⟩
 · refine wpAny_passesOwn hp (thn (T.done X rfl rfl rfl hc i pins s3 σ3 H3 X.xe I3 (stat fr3) st3 stop) λr s4 ⟨hr,I4⟩=>?_)
   subst hr
   exact wpAny_execs_nil ⟨σ3,H3,I4,qn⟩
 · refine wpAny_passesOwn hp (thn (T.item X rfl rfl rfl hc i pins s3 σ3 H3 X.xe I3 (stat fr3) st3 go) λr s4 ⟨u,hr,h4⟩=>?_)
   subst hr
   refine wpAny_passesOwn hp (thn h4 λ_ s5 ⟨x,H5,I5,r5,y5,st5,fr5⟩=>?_)
   have I5':=I5.pinned (stat fr5) (T.obj _ _ st5)
   refine wpAny_passesOwn hp (thn (hg _ s5 σ3 H5 x u _ I5' r5 (step x H5 y5)) λ_ s6 ⟨σ6,H6,I6,q6⟩=>?_)
   refine wpAny_passesOwn hp (thn (hb _ s6 σ6 H6 _ I6 q6) λf s7 q7=>?_)
   have again:∀ {σ7:St} {H7:Hp},Inv X (pins++gw fp s5.heap) σ7 H7 s7->N σ7 H7->∃ m,m < n/\∃ i σ' H',Inv X pins σ' H' s7/\tn i s7.heap/\(∀ b ∈ fp,H' b=none)/\W i m σ' H':=λ{σ7 H7} I7 n7=>by
     obtain ⟨m',hm,w7⟩:=hN σ7 H7 n7
     refine ⟨m',hm,i + 1,σ7,H7,I7.dF,T.keep _ _ _ st5 λb hb o e=>(I7.pin (b,o) (EM _ (EM _ (bM hb e)))).1,λb hb=>?_,w7⟩
     obtain ⟨o,e,d⟩:=T.obj _ _ st5 b hb
     exact (I7.pin (b,o) (EM _ (EM _ (bM hb e)))).2.1
   cases f with
   | next=>obtain ⟨σ7,H7,I7,n7⟩:=q7; exact again I7 n7
   | cont=>obtain ⟨σ7,H7,I7,n7⟩:=q7; exact again I7 n7
   | brk=>obtain ⟨σ7,H7,I7,q7⟩:=q7; exact ⟨σ7,H7,I7.dF,q7⟩
   | ret v=>obtain ⟨x7,σ7,H7,I7,r7,q7⟩:=q7; exact ⟨x7,σ7,H7,I7.dF,r7,q7⟩
end
noncomputable abbrev R2:=V->V->Hp->VK->Prop
noncomputable def OpR (X:Cx) (f:Value->Value->Sem Value) (r:R2):Prop:=
 ∀ (pins:List (Addr × Obj)) (s:Shared) (σ:St) (H:Hp) (x y:V) (v u:Value) (Q:VK),Inv X pins σ H s->RelV x v->RelV y u->r x y H Q ->
   wpAny (model X.prog X.w) X.A (f v u) (EP X pins σ Q) X.xe s
noncomputable def UnR (X:Cx) (f:Value->Sem Value) (r:V->Hp->VK->Prop):Prop:=
 ∀ (pins:List (Addr × Obj)) (s:Shared) (σ:St) (H:Hp) (x:V) (v:Value) (Q:VK),Inv X pins σ H s->RelV x v->r x H Q ->
   wpAny (model X.prog X.w) X.A (f v) (EP X pins σ Q) X.xe s
noncomputable def cW (X:Cx) (f:Value) (r:List V->Hp->VK->Prop):Prop:=
 ∀ (pins:List (Addr × Obj)) (s:Shared) (σ:St) (H:Hp) (xs:List V) (us:List Value) (Q:VK),Inv X pins σ H s->Vals xs us->r xs H Q ->
   wpAny (model X.prog X.w) X.A (call f us) (EP X pins σ Q) X.xe s
noncomputable def tOp (r:R2) (ta tb:TE):TE:=λσ H Q=>ta σ H λx H1=>tb σ H1 λy H2=>r x y H2 Q
noncomputable def tUn (r:V->Hp->VK->Prop) (ta:TE):TE:=λσ H Q=>ta σ H λx H1=>r x H1 Q
noncomputable def rI (C:Int->Int->Prop) (g:Int->Int->V):R2:=λx y H Q=>∃ i j,x=.int i/\y=.int j/\C i j/\Q (g i j) H
noncomputable def rI0 (g:Int->Int->V):R2:=λx y H Q=>∃ i j,x=.int i/\y=.int j/\Q (g i j) H
noncomputable def rU (g:Int->V):V->Hp->VK->Prop:=λx H Q=>∃ i,x=.int i/\Q (g i) H
section
variable {X:Cx} {a b c:Expr} {ta tb tc:TE} {pos:Pos}
theorem AI (ha:PE X a ta) (hb:PE X b tb) {pins:List (Addr × Obj)} {s:Shared} {σ:St} {H:Hp} {R:V->V->Hp->Prop} (I:Inv X pins σ H s)
   (h:ta σ H λx H1=>tb σ H1 λy H2=>R x y H2) {Q:Value->Shared->Prop} {f:Value->Value->Sem Value}
   (hf:∀ v u s2 x y H2,Inv X pins σ H2 s2->RelV x v->RelV y u->R x y H2->wpAny (model X.prog X.w) X.A (f v u) Q X.xe s2) :
   wpAny (model X.prog X.w) X.A (eval a X.env) (λv s₁=>wpAny (model X.prog X.w) X.A (eval b X.env) (λu s₂=>wpAny (model X.prog X.w) X.A (f v u) Q X.xe s₂) X.xe s₁) X.xe s:=by
 refine thn (ha pins s σ H _ I h) λv s1 ⟨x,H1,I1,r1,q1⟩=>?_
 refine thn (hb pins s1 σ H1 _ I1 q1) λu s2 ⟨y,H2,I2,r2,q2⟩=>?_
 exact hf v u s2 x y H2 I2 r1 r2 q2
theorem wu {op:Operator} {r:R2} (ho:OpR X (binaryOp op) r) (ha:PE X a ta) (hb:PE X b tb):PE X (.BinOp a op b pos) (tOp r ta tb):=by
 intro pins s σ H Q I h
 exact wpAny_BinOp (AI ha hb I h λv u s2 x y H2 I2 rx ry q=>ho pins s2 σ H2 x y v u Q I2 rx ry q)
theorem CO {op:UnaryOp} {r:V->Hp->VK->Prop} (ho:UnR X (unaryOp op) r) (ha:PE X a ta):PE X (.UnaryOp op a pos) (tUn r ta):=by
 intro pins s σ H Q I h
 exact UnaryOp_ (thn (ha pins s σ H _ I h) λv s1 ⟨x,H1,I1,r1,q1⟩=>ho pins s1 σ H1 x v Q I1 r1 q1)
theorem opI {f:Value->Value->Sem Value} {C:Int->Int->Prop} {g:Int->Int->Int}
   (rule:∀ (i j:Int) (t u:Tok) (s:Shared) (Q:Value->Shared->Prop) (E:Value->Shared->Prop),C i j->Q (.int (g i j) s.toks) { s with toks:=s.toks + 1 }->wpAny (model X.prog X.w) X.A (f (.int i t) (.int j u)) Q E s) :
   OpR X f (rI C λi j=>.int (g i j)):=by
 intro pins s σ H x y v u Q I rx ry h
 obtain ⟨i,j,rfl,rfl,hc,q⟩:=h
 obtain ⟨t,rfl⟩:=rx
 obtain ⟨t',rfl⟩:=ry
 exact rule i j t t' s _ _ hc ⟨.int (g i j),H,I.tok _,⟨_,rfl⟩,q⟩
theorem yw {f:Value->Value->Sem Value} {g:Int->Int->Int}
   (rule:∀ (i j:Int) (t u:Tok) (s:Shared) (Q:Value->Shared->Prop) (E:Value->Shared->Prop),Q (.int (g i j) s.toks) { s with toks:=s.toks + 1 }->wpAny (model X.prog X.w) X.A (f (.int i t) (.int j u)) Q E s) :
   OpR X f (rI0 λi j=>.int (g i j)):=by
 intro pins s σ H x y v u Q I rx ry h
 obtain ⟨i,j,rfl,rfl,q⟩:=h
 obtain ⟨t,rfl⟩:=rx
 obtain ⟨t',rfl⟩:=ry
 exact rule i j t t' s _ _ ⟨.int (g i j),H,I.tok _,⟨_,rfl⟩,q⟩
theorem x3 {f:Value->Value->Sem Value} {g:Int->Int->Bool}
   (rule:∀ (i j:Int) (t u:Tok) (s:Shared) (Q:Value->Shared->Prop) (E:Value->Shared->Prop),Q (.bool (g i j)) s->wpAny (model X.prog X.w) X.A (f (.int i t) (.int j u)) Q E s) :
   OpR X f (rI0 λi j=>.bl (g i j)):=by
 intro pins s σ H x y v u Q I rx ry h
 obtain ⟨i,j,rfl,rfl,q⟩:=h
 obtain ⟨t,rfl⟩:=rx
 obtain ⟨t',rfl⟩:=ry
 exact rule i j t t' s _ _ ⟨.bl (g i j),H,I,rfl,q⟩
noncomputable def y9 (i j:Int):Prop:=0<=j/\j<=1000000/\i.natAbs < 2 ^ 64
theorem qu (k:Nat):(0:Int)<=2 ^ k:=by
 rw [two_pow_cast]
 exact F9 _
theorem AM:OpR X (binaryOp .Add) (rI0 λi j=>.int (i + j)):=yw λ_ _ _ _ _ _ _ q=>add_int q
theorem Au:OpR X (binaryOp .Sub) (rI0 λi j=>.int (i - j)):=yw λ_ _ _ _ _ _ _ q=>sub_int q
theorem ya:OpR X (binaryOp .Mod) (rI (λ_ j=>j ≠ 0) λi j=>.int (i.fmod j)):=opI λ_ _ _ _ _ _ _ hc q=>mod_int' hc q
theorem AL:OpR X (binaryOp .Pow) (rI y9 λi j=>.int (i ^ j.toNat)):=opI λ_ _ _ _ _ _ _ hc q=>pow_int_small hc.1 hc.2.1 hc.2.2 q
theorem BB:OpR X (binaryOp .LShift) (rI y9 λi j=>.int (i * 2 ^ j.toNat)):=opI λ_ _ _ _ _ _ _ hc q=>lshift_int_small hc.1 hc.2.1 hc.2.2 q
theorem BK:OpR X (binaryOp .RShift) (rI (λ_ j=>0<=j) λi j=>.int (i / 2 ^ j.toNat)):=opI λi j _ _ _ _ _ hc q=>
 rshift_int hc (by rw [F7 i (qu _)]; exact q)
theorem BA:OpR X (binaryOp .BitAnd) (rI0 λi j=>.int (Jr i j)):=yw λ_ _ _ _ _ _ _ q=>and_int q
theorem Df:OpR X (binaryOp .BitOr) (rI0 λi j=>.int (JG i j)):=yw λ_ _ _ _ _ _ _ q=>or_int q
theorem unI {f:Value->Sem Value} {g:Int->Int}
   (rule:∀ (i:Int) (t:Tok) (s:Shared) (Q:Value->Shared->Prop) (E:Value->Shared->Prop),Q (.int (g i) s.toks) { s with toks:=s.toks + 1 }->wpAny (model X.prog X.w) X.A (f (.int i t)) Q E s) :
   UnR X f (rU λi=>.int (g i)):=by
 intro pins s σ H x v Q I rx h
 obtain ⟨i,rfl,q⟩:=h
 obtain ⟨t,rfl⟩:=rx
 exact rule i t s _ _ ⟨.int (g i),H,I.tok _,⟨_,rfl⟩,q⟩
theorem Ar:UnR X (unaryOp .USub) (rU λi=>.int (-i)):=unI λ_ _ _ _ _ q=>neg_int q
end
noncomputable def Dw:V->V->Bool
 | .non,.non=>true | .non,.int _=>true | .int _,.non=>true | .non,.bl _=>true | .bl _,.non=>true | .non,.str _=>true | .str _,.non=>true
 | .int _,.int _=>true | .bl _,.bl _=>true | .str _,.str _=>true | .byt _,.byt _=>true
 | .int _,.str _=>true | .str _,.int _=>true | .bl _,.str _=>true | .str _,.bl _=>true
 | _,_=>false
noncomputable def rEq:R2:=λx y H Q=>Dw x y=true/\Q (.bl (decide (x=y))) H
noncomputable def rNe:R2:=λx y H Q=>Dw x y=true/\Q (.bl (!decide (x=y))) H
theorem rO {i j:Int}:decide (V.int i=V.int j)=(i == j):=by
 rw [Hq]
 simp
theorem wj {i j:Bool}:decide (V.bl i=V.bl j)=(i == j):=by
 rw [Hq]
 simp
theorem tf {i j:Str}:decide (V.str i=V.str j)=(i == j):=by
 rw [Hq]
 simp
theorem sD {i j:Array UInt8}:decide (V.byt i=V.byt j)=(i.toList == j.toList):=by
 rw [Hq]
 cases i
 cases j
 simp
section
variable {X:Cx} {a b c:Expr} {ta tb tc:TE} {pos:Pos}
theorem aU {pins:List (Addr × Obj)} {σ:St} {H:Hp} {s:Shared} {Q:VK} {k k':Bool} (I:Inv X pins σ H s) (q:Q (.bl k) H) (e:k=k'):EP X pins σ Q (.bool k') s:=by
 subst e
 exact ⟨.bl k,H,I,rfl,q⟩
theorem zT:OpR X (compareOp .Eq) rEq:=by
 intro pins s σ H x y v u Q I rx ry h
 obtain ⟨hs,q⟩:=h
 cases x with
 | non=>
   cases rx
   cases y with
   | non=>cases ry; exact PySem.EqNone.eq_none_none (aU I q (by simp))
   | bl j=>cases ry; exact PySem.EqNone.eq_none_bool (aU I q (by simp))
   | int j=>obtain ⟨t',rfl⟩:=ry; exact PySem.EqNone.eq_none_int (aU I q (by simp))
   | str j=>obtain ⟨t',rfl⟩:=ry; exact PySem.EqNone.eq_none_str (aU I q (by simp))
   | _=>exact absurd (show false=true from hs) Eu
 | bl i=>
   cases rx
   cases y with
   | non=>cases ry; exact PySem.EqNone.eq_bool_none (aU I q (by simp))
   | bl j=>cases ry; exact eq_bool (aU I q wj)
   | str j=>obtain ⟨t',rfl⟩:=ry; exact PySem.EqMixed.eq_bool_str (aU I q (by simp))
   | _=>exact absurd (show false=true from hs) Eu
 | int i=>
   obtain ⟨t,rfl⟩:=rx
   cases y with
   | non=>cases ry; exact PySem.EqNone.eq_int_none (aU I q (by simp))
   | int j=>obtain ⟨t',rfl⟩:=ry; exact eq_int (aU I q rO)
   | str j=>obtain ⟨t',rfl⟩:=ry; exact PySem.EqMixed.eq_int_str (aU I q (by simp))
   | _=>exact absurd (show false=true from hs) Eu
 | str i=>
   obtain ⟨t,rfl⟩:=rx
   cases y with
   | non=>cases ry; exact PySem.EqNone.eq_str_none (aU I q (by simp))
   | bl j=>cases ry; exact PySem.EqMixed.eq_str_bool (aU I q (by simp))
   | int j=>obtain ⟨t',rfl⟩:=ry; exact PySem.EqMixed.eq_str_int (aU I q (by simp))
   | str j=>obtain ⟨t',rfl⟩:=ry; exact eq_str (aU I q tf)
   | _=>exact absurd (show false=true from hs) Eu
 | byt i=>
   obtain ⟨t,rfl⟩:=rx
   cases y with
   | byt j=>obtain ⟨t',rfl⟩:=ry; exact PySem.W.eq_bytes (aU I q sD)
   | _=>exact absurd (show false=true from hs) Eu
 | _=>cases y <;> exact absurd (show false=true from hs) Eu
theorem zR:OpR X (compareOp .NotEq) rNe:=by
 intro pins s σ H x y v u Q I rx ry h
 obtain ⟨hs,q⟩:=h
 cases x with
 | non=>
   cases rx
   cases y with
   | non=>cases ry; exact PySem.EqNone.ne_none_none (aU I q (by simp))
   | bl j=>cases ry; exact PySem.EqNone.ne_none_bool (aU I q (by simp))
   | int j=>obtain ⟨t',rfl⟩:=ry; exact PySem.EqNone.ne_none_int (aU I q (by simp))
   | str j=>obtain ⟨t',rfl⟩:=ry; exact PySem.EqNone.ne_none_str (aU I q (by simp))
   | _=>exact absurd (show false=true from hs) Eu
 | bl i=>
   cases rx
   cases y with
   | non=>cases ry; exact PySem.EqNone.ne_bool_none (aU I q (by simp))
   | bl j=>cases ry; exact ne_bool (aU I q (congrArg not wj))
   | str j=>obtain ⟨t',rfl⟩:=ry; exact PySem.EqMixed.ne_bool_str (aU I q (by simp))
   | _=>exact absurd (show false=true from hs) Eu
 | int i=>
   obtain ⟨t,rfl⟩:=rx
   cases y with
   | non=>cases ry; exact PySem.EqNone.ne_int_none (aU I q (by simp))
   | int j=>obtain ⟨t',rfl⟩:=ry; exact ne_int (aU I q (congrArg not rO))
   | str j=>obtain ⟨t',rfl⟩:=ry; exact PySem.EqMixed.ne_int_str (aU I q (by simp))
   | _=>exact absurd (show false=true from hs) Eu
 | str i=>
   obtain ⟨t,rfl⟩:=rx
   cases y with
   | non=>cases ry; exact PySem.EqNone.ne_str_none (aU I q (by simp))
   | bl j=>cases ry; exact PySem.EqMixed.ne_str_bool (aU I q (by simp))
   | int j=>obtain ⟨t',rfl⟩:=ry; exact PySem.EqMixed.ne_str_int (aU I q (by simp))
   | str j=>obtain ⟨t',rfl⟩:=ry; exact ne_str (aU I q (congrArg not tf))
   | _=>exact absurd (show false=true from hs) Eu
 | byt i=>
   obtain ⟨t,rfl⟩:=rx
   cases y with
   | byt j=>obtain ⟨t',rfl⟩:=ry; exact PySem.W.ne_bytes (aU I q (congrArg not sD))
   | _=>exact absurd (show false=true from hs) Eu
 | _=>cases y <;> exact absurd (show false=true from hs) Eu
theorem Cb:OpR X (compareOp .Lt) (rI0 λi j=>.bl (decide (i < j))):=x3 λ_ _ _ _ _ _ _ q=>lt_int q
theorem DC:OpR X (compareOp .LtE) (rI0 λi j=>.bl (decide (i<=j))):=x3 λ_ _ _ _ _ _ _ q=>le_int q
theorem C3:OpR X (compareOp .Gt) (rI0 λi j=>.bl (decide (j < i))):=x3 λ_ _ _ _ _ _ _ q=>gt_int q
theorem Cw:OpR X (compareOp .GtE) (rI0 λi j=>.bl (decide (j<=i))):=x3 λ_ _ _ _ _ _ _ q=>ge_int q
theorem A5:OpR X (compareOp .Is) (λx y H Q=>y=.non/\Q (.bl (decide (x=.non))) H):=by
 intro pins s σ H x y v u Q I rx ry h
 obtain ⟨rfl,q⟩:=h
 cases ry
 refine is_none_gen (aU I q ?_)
 cases x <;> first
   | (cases rx; rfl)
   | (obtain ⟨t,rfl⟩:=rx; rfl)
theorem xG (b:Expr) {op:CmpOp} (h:op ≠ .In:=by decide) (h2:op ≠ .NotIn:=by decide):behindInMarks op b=false:=by
 have e1:(op == CmpOp.In)=false:=by cases op <;> first | rfl | exact absurd rfl h
 have e2:(op == CmpOp.NotIn)=false:=by cases op <;> first | rfl | exact absurd rfl h2
 cases b <;> simp [behindInMarks,e1,e2]
theorem yE {op:CmpOp} {r:R2} (ho:OpR X (compareOp op) r) (ha:PE X a ta) (hb:PE X b tb) (hm:behindInMarks op b=false):PE X (.Compare a [op] [b] pos) (tOp r ta tb):=by
 intro pins s σ H Q I h
 exact wpAny_Compare1 (AI ha hb I h λv u s2 x y H2 I2 rx ry q=>ho pins s2 σ H2 x y v u Q I2 rx ry q) hm
noncomputable def zH (t:TE):TT:=λσ H Q=>t σ H λx H'=>∃ k,x=.bl k/\Q k H'
theorem yf {op:CmpOp} {r:R2} (ho:OpR X (compareOp op) r) (ha:PE X a ta) (hb:PE X b tb) (hm:behindInMarks op b=false):PT X (.Compare a [op] [b] pos) (zH (tOp r ta tb)):=by
 intro pins s σ H Q I h
 refine wpAny_isTrue_Compare1 (thn (ha pins s σ H _ I h) λv s1 ⟨x,H1,I1,r1,q1⟩=>thn (hb pins s1 σ H1 _ I1 q1) λu s2 ⟨y,H2,I2,r2,q2⟩=>
   thn (ho pins s2 σ H2 x y v u _ I2 r1 r2 q2) λc s3 ⟨z,H3,I3,r3,k,e,q3⟩=>?_) hm
 subst e
 cases r3
 exact wpAny_truthy_bool ⟨H3,I3,q3⟩
noncomputable def rb (r r':R2) (ta tb tc:TE):TE:=λσ H Q=>ta σ H λx H1=>tb σ H1 λy H2=>r x y H2 λz H3=>∃ k,z=.bl k /\
 (if k=true then tc σ H3 λw' H4=>r' y w' H4 Q else Q (.bl false) H3)
theorem vV {op op':CmpOp} {r r':R2} (ho:OpR X (compareOp op) r) (ho':OpR X (compareOp op') r') (ha:PE X a ta) (hb:PE X b tb) (hc:PE X c tc)
   (hm:lastMarks [op,op'] [b,c]=false:=by with_unfolding_all rfl):PE X (.Compare a [op,op'] [b,c] pos) (rb r r' ta tb tc):=by
 intro pins s σ H Q I h
 refine Compare_chain (thn (ha pins s σ H _ I h) λv s1 ⟨x,H1,I1,r1,q1⟩=>chain_link (thn (hb pins s1 σ H1 _ I1 q1) λu s2 ⟨y,H2,I2,r2,q2⟩=>
   thn (ho pins s2 σ H2 x y v u _ I2 r1 r2 q2) λd s3 ⟨z,H3,I3,r3,k,e,q3⟩=>?_)) hm
 subst e
 cases r3
 refine wpAny_truthy_bool ?_
 cases k with
 | false=>exact ite_ff ⟨.bl false,H3,I3,rfl,q3⟩
 | true=>exact ite_tt (chain_last (thn (hc pins s3 σ H3 _ I3 q3) λw' s4 ⟨z',H4,I4,r4,q4⟩=>ho' pins s4 σ H4 y z' u w' Q I4 r2 r4 q4))
theorem xi {op op':CmpOp} {r r':R2} (ho:OpR X (compareOp op) r) (ho':OpR X (compareOp op') r') (ha:PE X a ta) (hb:PE X b tb) (hc:PE X c tc)
   (hm:lastMarks [op,op'] [b,c]=false:=by with_unfolding_all rfl):PT X (.Compare a [op,op'] [b,c] pos) (zH (rb r r' ta tb tc)):=by
 intro pins s σ H Q I h
 refine isTrue_chain (thn (ha pins s σ H _ I h) λv s1 ⟨x,H1,I1,r1,q1⟩=>test_link (thn (hb pins s1 σ H1 _ I1 q1) λu s2 ⟨y,H2,I2,r2,q2⟩=>
   thn (ho pins s2 σ H2 x y v u _ I2 r1 r2 q2) λd s3 ⟨z,H3,I3,r3,k,e,q3⟩=>?_)) hm
 subst e
 cases r3
 refine wpAny_truthy_bool ?_
 cases k with
 | false=>
   obtain ⟨k',e',q'⟩:=q3
   cases e'
   exact ite_ff ⟨H3,I3,q'⟩
 | true=>
   refine ite_tt (test_last (thn (hc pins s3 σ H3 _ I3 q3) λw' s4 ⟨z',H4,I4,r4,q4⟩=>thn (ho' pins s4 σ H4 y z' u w' _ I4 r2 r4 q4) λd' s5 ⟨z2,H5,I5,r5,k2,e2,q5⟩=>?_))
   subst e2
   cases r5
   exact wpAny_truthy_bool ⟨H5,I5,q5⟩
theorem nr:(sizeLine:Nat) < 2 ^ 63:=by rw [sizeLine_eq]; decide
theorem vals1 {x:V} {us:List Value} (r:Vals [x] us):∃ u,us=[u]/\RelV x u:=by
 cases r with
 | cons r1 r2=>cases r2; exact ⟨_,rfl,r1⟩
theorem vals2 {x y:V} {us:List Value} (r:Vals [x,y] us):∃ u w',us=[u,w']/\RelV x u/\RelV y w':=by
 cases r with
 | cons r1 r2=>
   cases r2 with
   | cons r3 r4=>cases r4; exact ⟨_,_,rfl,r1,r3⟩
theorem xa:cW X (.builtin "abs") (λxs H Q=>∃ i,xs=[.int i]/\Q (.int (if i < 0 then -i else i)) H):=by
 intro pins s σ H xs us Q I r h
 obtain ⟨i,rfl,q⟩:=h
 obtain ⟨u,rfl,t,rfl⟩:=vals1 r
 exact call_abs_int λu tk=>⟨.int (if i < 0 then -i else i),H,I.tok _,⟨_,rfl⟩,q⟩
theorem uw (hc:X.calm=true):cW X (.builtin "max") (λxs H Q=>∃ i j,xs=[.int i,.int j]/\Q (.int (if j > i then j else i)) H):=by
 intro pins s σ H xs us Q I r h
 obtain ⟨i,j,rfl,q⟩:=h
 obtain ⟨u,w',rfl,⟨t,rfl⟩,⟨t',rfl⟩⟩:=vals2 r
 refine max_two_ints (I.ok.hd hc) λh' tk k=>⟨_,H,I.kept k,?_,q⟩
 by_cases hj:j > i
 · rw [if_pos hj,if_pos hj]; exact ⟨_,rfl⟩
 · rw [if_neg hj,if_neg hj]; exact ⟨_,rfl⟩
theorem tY (hc:X.calm=true):cW X (.builtin "min") (λxs H Q=>∃ i j,xs=[.int i,.int j]/\Q (.int (if j < i then j else i)) H):=by
 intro pins s σ H xs us Q I r h
 obtain ⟨i,j,rfl,q⟩:=h
 obtain ⟨u,w',rfl,⟨t,rfl⟩,⟨t',rfl⟩⟩:=vals2 r
 refine min_two_ints (I.ok.hd hc) λh' tk k=>⟨_,H,I.kept k,?_,q⟩
 by_cases hj:j < i
 · rw [if_pos hj,if_pos hj]; exact ⟨_,rfl⟩
 · rw [if_neg hj,if_neg hj]; exact ⟨_,rfl⟩
end
section
variable {prog:Program} {w:World} {A:Around} {E:Value->Shared->Prop} {s:Shared} {K:Ej} {x dx C f:Addr} {mA:Str->Option Value} {name:Str} {v:Value}
end
theorem pM.some_of {v:V} {o:Option Value} (r:pM (some v) o):∃ u,o=some u/\RelV v u:=by
 cases o with
 | none=>exact (show False from r).elim
 | some u=>exact ⟨u,rfl,r⟩
section
variable {P:Program} {w:World} {H H':Hp} {h h':Heap} {a C dx:Addr} {fs fs':List (Str × V)}
end
section
variable {X:Cx} {pins:List (Addr × Obj)} {σ:St} {H:Hp} {s:Shared} {a C dx:Addr} {fs:List (Str × V)} {f:Str} {v:V} {A:Around} {E:Value->Shared->Prop}
end
section
variable {X:Cx} {o e value:Expr} {f:Str} {pos pos' tpos:Pos} {ta tv:TE}
end
section
variable {X:Cx} {pins:List (Addr × Obj)} {σ:St} {H:Hp} {s:Shared} {A:Around} {E:Value->Shared->Prop} {Q:Value->Shared->Prop} {c:Value} {b:Bool}
end
structure eS (k:Nat) (A:Around):Prop where
 hd:A.handled=none
 dp:A.depth + 3 * k + 5 < recursionLimit
 un:A.units + 16 * k + 200 < cLine
theorem eS.mono {j k:Nat} {A:Around} (r:eS k A) (h:j<=k):eS j A:=⟨r.hd,by have:=r.dp; omega,by have:=r.un; omega⟩
theorem eS.deeper {k:Nat} {A:Around} (r:eS (k + 1) A) (env:Env):eS k (A.deeper env):=
 ⟨r.hd,by have:=r.dp; show A.depth + 1 + 3 * k + 5 < _; omega,by have:=r.un; show A.units + 3 + 16 * k + 200 < _; omega⟩
theorem eS.depth {k:Nat} {A:Around} (r:eS k A):A.depth < recursionLimit:=by have:=r.dp; omega
theorem eS.units {k:Nat} {A:Around} (r:eS k A):A.units + 64 < cLine:=by have:=r.un; omega
noncomputable def CM:TA:=λ_ H Q=>Q [] H
noncomputable def zv (ta:TE) (tr:TA):TA:=λσ H Q=>ta σ H λx H1=>tr σ H1 λxs H2=>Q (x :: xs) H2
section
variable {X:Cx} {e:Expr} {es:List Expr} {te:TE} {t:TA} {pos:Pos}
theorem iC:PA X [] CM:=λ_ _ _ _ H Q I h=>G4 ⟨[],H,I,.nil,h⟩
theorem dX (ha:PE X e te) (hr:PA X es t) (hs:starEach (e :: es) X.env=(false,eval e X.env) :: starEach es X.env:=by rfl):PA X (e :: es) (zv te t):=by
 intro pos pins s σ H Q I h
 rw [hs]
 show wpAny _ _ (spliced ((false,eval e X.env) :: backTo pos (starEach es X.env))) _ _ s
 refine F6 (thn (ha pins s σ H _ I h) λu s1 ⟨x,H1,I1,r1,q1⟩=>?_)
 exact thn (hr pos pins s1 σ H1 _ I1 q1) λus s2 ⟨xs,H2,I2,r2,q2⟩=>⟨x :: xs,H2,I2,.cons r1 r2,q2⟩
noncomputable def D7 (t:TA):TE:=λσ H Q=>t σ H λxs H1=>xs.length<=sizeLine/\∀ p,H1 p=none->Q (.ref p) (upd H1 p (.tup xs))
noncomputable def DM (t:TA):TE:=λσ H Q=>t σ H λxs H1=>xs.length<=sizeLine/\∀ p,H1 p=none->Q (.ref p) (upd H1 p (.lst xs))
theorem AK {x1} (h:PA X es t):PE X (.Tuple es x1 pos) (D7 t):=by
 intro pins s σ H Q I hq
 refine wpAny_Tuple_spliced (thn (h pos pins s σ H _ I hq) λus s1 ⟨xs,H1,I1,r,z,q⟩=>⟨by rw [<- r.length]; exact z,?_⟩)
 have hf:H1 s1.heap.objs.size=none:=I1.hok.fresh (Ek _)
 refine ⟨.ref s1.heap.objs.size,upd H1 s1.heap.objs.size (.tup xs),I1.laid (t':=s1.toks) (λb u e=>En _ e) (Ek _) ?_,rfl,q _ hf⟩
 exact ⟨z,us,r,⟨_,EK _ rfl,rfl,_,rfl⟩⟩
theorem Bh (h:PA X es t):PE X (.List es pos) (DM t):=by
 intro pins s σ H Q I hq
 refine wpAny_List_spliced (thn (h pos pins s σ H _ I hq) λus s1 ⟨xs,H1,I1,r,z,q⟩=>⟨by rw [<- r.length]; exact z,?_⟩)
 have hf:H1 s1.heap.objs.size=none:=I1.hok.fresh (Ek _)
 refine ⟨.ref s1.heap.objs.size,upd H1 s1.heap.objs.size (.lst xs),I1.laid (t':=s1.toks) (λb u e=>En _ e) (Ek _) ?_,rfl,q _ hf⟩
 exact ⟨z,us,0,r,EK _ rfl⟩
end
noncomputable abbrev Sp:=List V->Hp->VK->XK->Prop
noncomputable abbrev CXT:=List Env->Hp->Shared->XK->Value->Shared->Prop
structure za (P:Program) (w:World) (K:Ej) (mg:Str->Option Value) (base:Heap) (A:Around) (outer:List Env) (s:Shared) (H:Hp):Prop where
 frames:A.frames=some outer
 mod:Mod K mg base
 bs:∀ b o,base.get? b=some o->s.heap.get? b=some o/\H b=none
 bsz:base.objs.size<=s.heap.objs.size
 jR:s.heap.FunFrames base outer
 frf:∀ b ∈ frs outer,H b=none
 hok:HOk P w H s.heap
 bare:AllBare s.gens
noncomputable def CE (outer:List Env) (P:Program) (w:World) (H:Hp) (s:Shared) (Q:VK) (u:Value) (s':Shared):Prop:=
 ∃ v H',s'.os=s.os/\AllBare s'.gens/\Un (frs outer) [] H H' s.heap s'.heap/\HOk P w H' s'.heap/\RelV v u/\Q v H'
noncomputable def CR (CX:CXT) (outer:List Env) (P:Program) (w:World) (H:Hp) (s:Shared) (Q:VK) (E:XK) (r:Result) (s':Shared):Prop:=
 match r with
 | .ok (.ret u)=>CE outer P w H s Q u s'
 | .ok _=>False
 | .error e=>CX outer H s E e s'
structure aS (P:Program) (w:World) (K:Ej) (mg:Str->Option Value) (base:Heap) (CX:CXT) (k:Nat) (f:Addr) (fd:FuncData) (ps:List Str) (sp:Sp):Prop where
 len:∀ vs H Q E,sp vs H Q E->vs.length=ps.length
 run:∀ (A:Around) (outer:List Env) (s:Shared) (H:Hp) (args:Args) (us:List Value) (vs:List V) (Q:VK) (E:XK),eS k A->za P w K mg base A outer s H->BindsTo s fd args (ps.zip us)->Vals vs us->sp vs H Q E ->
   codeAny (model P w) A (.call (.ref f) args) (CR CX outer P w H s Q E) s
theorem aS.mono {P:Program} {w:World} {K:Ej} {mg:Str->Option Value} {base:Heap} {CX:CXT} {j k:Nat} {f:Addr} {fd:FuncData} {ps:List Str} {sp:Sp} (F:aS P w K mg base CX j f fd ps sp) (h:j<=k) :
   aS P w K mg base CX k f fd ps sp:=⟨F.len,λA outer s H args us vs Q E hr=>F.run A outer s H args us vs Q E (hr.mono h)⟩
section
variable {X:Cx} {pins:List (Addr × Obj)} {σ:St} {H:Hp} {s s':Shared}
theorem Inv.DL (I:Inv X pins σ H s):za X.prog X.w X.K X.mg X.base X.A X.stack s H:=
 ⟨I.ok.frames,I.ok.mod,I.bs,EH I.ok.bsz I.sz,I.stack,I.tK,I.hok,I.bare⟩
theorem Inv.after {Q:VK} {u:Value} (I:Inv X pins σ H s) (h:CE X.stack X.prog X.w H s Q u s'):EP X pins σ Q u s':=by
 obtain ⟨v,H',os,bare,un,hok,r,q⟩:=h
 obtain ⟨hh,g,d,t,os'⟩:=s'
 obtain rfl:os'=s.os:=os
 exact ⟨v,H',I.call (h':=hh) (g':=g) (d':=d) (t':=t) (ch:=[]) un hok bare (λb z=>absurd z (by simp)),r,q⟩
end
noncomputable def CA (sp:Sp) (dvs:List V) (E:XK) (t:TA):TE:=λσ H Q=>t σ H λvs H1=>sp (vs++dvs) H1 Q E
noncomputable def Binds (K:Ej) (fd:FuncData) (ps:List Str) (ds:List Value):Prop:=
 ∀ (s:Shared) (us:List Value),K.In s.heap->(us++ds).length=ps.length->BindsTo s fd ⟨us,[]⟩ (ps.zip (us++ds))
theorem Binds.all {K:Ej} {fd:FuncData} {ps:List Str} (h:∀ us:List Value,us.length=ps.length->bindArgs fd ⟨us,[]⟩=pure (ps.zip us)):Binds K fd ps []:=λs us _ hl=>by
 rw [FC] at hl ⊢
 exact .of_eq (h us hl)
noncomputable def Passes (CX:CXT) (X:Cx) (E:XK):Prop:=∀ (pins:List (Addr × Obj)) (σ:St) (H:Hp) (s:Shared) (e:Value) (s':Shared),Inv X pins σ H s->CX X.stack H s E e s'->X.xe e s'
section
variable {X:Cx} {CX:CXT} {k:Nat} {f C:Addr} {fd:FuncData} {ps:List Str} {sp:Sp} {dvs:List V} {ds:List Value} {E:XK} {x m:Str} {p pos apos:Pos} {e o:Expr} {es:List Expr} {ta:TE} {t:TA}
theorem Am {pins:List (Addr × Obj)} {σ:St} {H:Hp} {s:Shared} {Q:VK} {us:List Value} {vs:List V} (F:aS X.prog X.w X.K X.mg X.base CX k f fd ps sp) (hr:eS k X.A) (hb:Binds X.K fd ps ds) (hd:Vals dvs ds) (hx:Passes CX X E)
   (I:Inv X pins σ H s) (r:Vals vs us) (h:sp (vs++dvs) H Q E):wpAny (model X.prog X.w) X.A (call (.ref f) us) (EP X pins σ Q) X.xe s:=by
 have r2:Vals (vs++dvs) (us++ds):=r.append hd
 have hl:(us++ds).length=ps.length:=by rw [<- r2.length]; exact F.len _ _ _ _ h
 refine wpAny_call (codeAny_mono (F.run X.A X.stack s H ⟨us,[]⟩ (us++ds) (vs++dvs) Q E hr I.DL (hb s us I.kIn hl) r2 h) λr s' hq=>?_)
 cases r with
 | error e=>exact hx pins σ H s e s' I hq
 | ok fl=>
   cases fl with
   | ret u=>exact I.after hq
   | next=>exact GU hq
   | brk=>exact GU hq
   | cont=>exact GU hq
theorem r6 (F:aS X.prog X.w X.K X.mg X.base CX k f fd ps sp) (hr:eS k X.A) (hg:Gl X x) (hm:X.mg x=some (.ref f)) (hk:FU X.K (.ref f)=true) (hb:Binds X.K fd ps ds) (hd:Vals dvs ds) (hx:Passes CX X E)
   (ha:PA X (e :: es) t) (hdb:(x == ("__debug__" : Str))=false:=by decide) (he:starEach (e :: es) X.env=(false,eval e X.env) :: starEach es X.env:=by rfl) (hpl:(backTo pos (starEach es X.env)).any (·.1)=false:=by rfl) :
   PE X (.Call (.Name x p) (e :: es) [] pos) (CA sp dvs E t):=by
 intro pins s σ H Q I h
 refine wpAny_Call_Name_kw (sT I hg hm ?_ hdb)
 refine PySem.W.callWith_K (h₀:=X.base) I.ok.mod.kin hk (thn (ha pos pins s σ H _ I h) λus s1 ⟨vs,H1,I1,r,q⟩=>⟨I1.kIn,?_⟩) he hpl
 exact Am F hr hb hd hx I1 r q
end
section
variable {X:Cx} {CX:CXT} {k:Nat} {f C:Addr} {fd:FuncData} {ps ks:List Str} {sp:Sp} {E:XK} {x m:Str} {p pos apos kpos:Pos} {e o:Expr} {es:List Expr} {kws:List Keyword} {te ta:TE} {t tk:TA} {nm:Option Str}
variable {g:List Value->List Value->List Value} {gV:List V->List V->List V}
end
structure au (N P:List Str) (sc:Scope):Prop where
 kind:sc.kind=.function
 co:sc.isCoroutine=false
 gen:sc.isGenerator=false
 nd:N.Nodup
 pre:N.take P.length=P
 par:∀ x ∈ P,sc.names.lookup x=some .local\/sc.names.lookup x=some .cell
 nofree:∀ y ∈ sc.names,y.2 ≠ .free
theorem lP {kindOf:Str->Option NameKind} {x:Str}:∀ {binds:List (Str × Value)} {m:Str->Option Value},(∀ v,(x,v) ∉ binds)->bindL kindOf binds m x=m x
 | [],_,_=>rfl
 | (n,v) :: r,m,h=>by
   unfold bindL
   rw [lP λw hw=>h w (Ep _ hw)]
   split
   · have:x ≠ n:=by rintro rfl; exact h v Es
     simp [this]
   · rfl
theorem lx {kindOf:Str->Option NameKind} {x:Str}:∀ {binds:List (Str × Value)} {m:Str->Option Value},(∀ v,(x,v) ∉ binds)->bindC kindOf binds m x=m x
 | [],_,_=>rfl
 | (n,v) :: r,m,h=>by
   unfold bindC
   rw [lx λw hw=>h w (Ep _ hw)]
   split
   · rfl
   · have:x ≠ n:=by rintro rfl; exact h v Es
     simp [this]
theorem lA {kindOf:Str->Option NameKind} {x:Str} {v:Value}:∀ {P:List Str} {vs:List Value} {i:Nat} {m:Str->Option Value},P.Nodup->P[i]?=some x->vs[i]?=some v->kindOf x=some .local ->
   bindL kindOf (P.zip vs) m x=some v
 | [],_,_,_,_,h,_,_=>by simp at h
 | _ :: _,[],_,_,_,_,h,_=>by simp at h
 | p :: P,w :: vs,0,m,nd,h1,h2,hk=>by
   simp at h1 h2; subst h1; subst h2
   show bindL kindOf ((p,w) :: P.zip vs) m p=_
   unfold bindL
   rw [lP λv hv=>(F4.mp nd).1 (Il hv).1,if_pos hk]
   simp
 | p :: P,w :: vs,i + 1,m,nd,h1,h2,hk=>by
   show bindL kindOf ((p,w) :: P.zip vs) m x=_
   unfold bindL
   exact lA (i:=i) (F4.mp nd).2 (by simpa using h1) (by simpa using h2) hk
theorem lB {kindOf:Str->Option NameKind} {x:Str} {v:Value}:∀ {P:List Str} {vs:List Value} {i:Nat} {m:Str->Option Value},P.Nodup->P[i]?=some x->vs[i]?=some v->kindOf x ≠ some .local ->
   bindC kindOf (P.zip vs) m x=some v
 | [],_,_,_,_,h,_,_=>by simp at h
 | _ :: _,[],_,_,_,_,h,_=>by simp at h
 | p :: P,w :: vs,0,m,nd,h1,h2,hk=>by
   simp at h1 h2; subst h1; subst h2
   show bindC kindOf ((p,w) :: P.zip vs) m p=_
   unfold bindC
   rw [lx λv hv=>(F4.mp nd).1 (Il hv).1,if_neg hk]
   simp
 | p :: P,w :: vs,i + 1,m,nd,h1,h2,hk=>by
   show bindC kindOf ((p,w) :: P.zip vs) m x=_
   unfold bindC
   exact lB (i:=i) (F4.mp nd).2 (by simpa using h1) (by simpa using h2) hk
noncomputable def start (N:List Str) (vs:List V):St:=vs.map some++ER (N.length - vs.length) none
noncomputable def qK (CX:CXT) (P:Program) (w:World) (K:Ej) (mg:Str->Option Value) (base:Heap) (N:List Str) (qual:Str) (scope:Scope) (f:Addr) (cd:Value) (A:Around) (outer:List Env) (s:Shared) (H:Hp) (E:XK):Cx where
 prog:=P
 w:=w
 K:=K
 mg:=mg
 base:=base
 A:=A.deeper (envOfC qual scope s.heap.objs.size f cd)
 N:=N
 s₀:=s
 H₀:=H
 env:=envOfC qual scope s.heap.objs.size f cd
 outer:=outer
 stack:=envOfC qual scope s.heap.objs.size f cd :: outer
 ex:=[]
 calm:=true
 fn:=λ_=>true
 pn:=[]
 xe:=λe s'=>wpAny (model P w) (A.deeper (envOfC qual scope s.heap.objs.size f cd)) (leaving (envOfC qual scope s.heap.objs.size f cd) e) (λ_ s''=>CX outer H s E e s'') (λe' s''=>CX outer H s E e' s'') s'
theorem oU {sc:Scope} {n:Nat} {x:Str} (h:sc.names.lookup x=some .cell):∃ c,(cellsFrom n sc.names []).lookup x=some c:=by
 have q:=JL sc.names n [] (.inl h)
 exact JI.mp q
theorem tL {CX:CXT} {P:Program} {w:World} {K:Ej} {mg:Str->Option Value} {base:Heap} {N ps:List Str} {qual:Str} {scope:Scope} {f:Addr} {cd:Value} {A:Around} {outer:List Env} {s s1:Shared} {H:Hp} {E:XK} {us:List Value} {vs:List V}
   (S:au N ps scope) {cm:Bool} (hd:cm=true->A.handled=none) (e0:za P w K mg base A outer s H) (hl:vs.length=ps.length) (r:Vals vs us)
   (x:InCallC s s.heap.objs.size (bindL (envOfC qual scope s.heap.objs.size f cd).kindOf (ps.zip us) λ_=>none) (cellsFrom (s.heap.objs.size + 1) scope.names []) (bindC (envOfC qual scope s.heap.objs.size f cd).kindOf (ps.zip us) λ_=>none) s1) :
   Inv { qK CX P w K mg base N qual scope f cd A outer s H E with calm:=cm } [] (start N vs) H s1:=by
 have hpl:ps.length<=N.length:=by have:=congrArg List.length S.pre; rw [E1] at this; omega
 obtain ⟨h1,tk,rfl,hk⟩:=x.done
 have noA:∀ b:Addr,b ∉ (qK CX P w K mg base N qual scope f cd A outer s H E).ex:=λb z=>absurd (show b ∈ ([]:List Addr) from z) (by simp)
 refine ⟨⟨e0.mod,S.kind,rfl,rfl,Ek _,λy z c h1 h2=>?_,λy hy=>?_,λy c _ h=>?_,hd,Around.frames_deeper e0.frames,.inr ⟨rfl,rfl⟩,λb z=>absurd z (noA b),e0.bs,e0.bsz,λb _ _=>noA b,λb z=>absurd z (noA b),e0.jR,e0.frf⟩,
   rfl,e0.bare,Un.kept hk,⟨_,x.toInCall.ns,λi y v h1 h2 h3=>?_⟩,λy c h=>⟨_,x.cell y c h⟩,e0.hok.fresh (Ek _),λy c h=>?_,λp hp=>absurd (show p ∈ ([]:List (Addr × Obj)) from hp) (by simp),e0.hok.kept hk,?_⟩
 · exact name_of_addr x.apart (GL h1) (GL h2)
 · have hy:scope.names.lookup y=some .cell\/scope.names.lookup y=some .free:=hy
   rcases hy with hy | hy
   · exact oU hy
   · exact absurd rfl (S.nofree _ (GL hy))
 · exact Gy (x.above y c (GL h))
 · have hi:i < vs.length:=by
     unfold start at h2
     by_cases hi:i < vs.length
     · exact hi
     · rw [Fi (by simpa using hi)] at h2
       rw [HR] at h2
       split at h2 <;> cases h2
   have ha:vs[i]?=some v:=by
     unfold start at h2
     rw [EI (by simpa using hi),E5] at h2
     cases e:vs[i]? with
     | none=>rw [e] at h2; cases h2
     | some a=>rw [e] at h2; cases h2; rfl
   obtain ⟨u,hu,rv⟩:=r.get ha
   have hp:ps[i]?=some y:=by
     rw [<- S.pre,List.getElem?_take_of_lt (by omega)]; exact h1
   have ndP:ps.Nodup:=by rw [<- S.pre]; exact S.nd.sublist (List.take_sublist _ _)
   refine ⟨u,rv,?_⟩
   rcases S.par y (FW hp) with k | k
   · exact .inl ⟨k,lA ndP hp hu k⟩
   · obtain ⟨c,e⟩:=oU (n:=s.heap.objs.size + 1) k
     refine .inr ⟨.inl k,c,e,?_⟩
     have q:=x.cell y c e
     rw [lB ndP hp hu (by show scope.names.lookup y ≠ _; rw [k]; decide)] at q
     exact q
 · exact e0.hok.fresh (Gy (x.above y c (GL h)))
 · unfold start
   show _=N.length
   rw [EC,Ei,List.length_replicate]
   omega
theorem CS {CX:CXT} {P:Program} {w:World} {K:Ej} {mg:Str->Option Value} {base:Heap} {k:Nat} {f:Addr} {name qual:Str} {params:Arguments} {body:List Stmt} {scope:Scope} {dV kV doc pm cdv ct oc:Value} {an od:Option Addr}
   {osl:Array (Option Value)} {N ps:List Str} {sp:Sp} (lk:K.lookup f=some ⟨oc,od,.func (FV name qual params body scope dV kV doc pm an cdv ct),osl⟩) (hcd:GC K cdv qual=true) (S:au N ps scope)
   (len:∀ vs H Q E,sp vs H Q E->vs.length=ps.length)
   (hbody:∀ (A:Around) (outer:List Env) (s:Shared) (H:Hp) (vs:List V) (Q:VK) (E:XK),eS k (A.deeper (envOfC qual scope s.heap.objs.size f cdv))->sp vs H Q E ->
     ∃ t,PSs (qK CX P w K mg base N qual scope f cdv A outer s H E) body t/\t { nx:=λ_ H'=>Q .non H',rt:=Q } (start N vs) H) :
   aS P w K mg base CX (k + 1) f (FV name qual params body scope dV kV doc pm an cdv ct) ps sp:=by
 refine ⟨len,λA outer s H args us vs Q E hr e0 hb r hsp=>?_⟩
 have hl:=len _ _ _ _ hsp
 have KX:K.In s.heap:=e0.mod.kin.keeps λb o e=>(e0.bs b o e).1
 have lim:s.heap.NoLimit:=e0.mod.nolimit.keeps λb o e=>(e0.bs b o e).1
 have hkind:∀ y ∈ ps.zip us,scope.names.lookup y.1=some .local\/(scope.names.lookup y.1=some .cell/\((cellsFrom (s.heap.objs.size + 1) scope.names []).lookup y.1).isSome=true):=λ⟨n,v⟩ hy=>by
   rcases S.par n (Il hy).1 with q | q
   · exact .inl q
   · exact .inr ⟨q,JL _ _ _ (.inl q)⟩
 refine codeAny_call_function hr.depth (KX _ _ lk) rfl S.co S.gen rfl (PySem.W.codeRec_of KX hcd) (hb _ _ _ _ ?_)
 refine wpAny_newFunctionEnv_cells S.kind hkind λenv he s1 x=>?_
 subst he
 refine ⟨lim.keeps x.toInCall.keep,codeAny_func ?_⟩
 obtain ⟨t,ht,hq⟩:=hbody A outer s H vs Q E (hr.deeper _) hsp
 have I:Inv (qK CX P w K mg base N qual scope f cdv A outer s H E) [] (start N vs) H s1:=tL (cm:=true) S (λ_=>hr.hd) e0 hl r x
 refine wpAny_mono (ht [] s1 (start N vs) H _ I hq) (λfl s' hs=>?_) λe s' hs=>hs
 have fin:∀ {σ':St} {H':Hp} {v:V} {u:Value},Inv (qK CX P w K mg base N qual scope f cdv A outer s H E) [] σ' H' s'->RelV v u->Q v H'->CE outer P w H s Q u s':=
   λ{σ' H' v u} J rv q=>⟨v,H',J.os,J.bare,J.base,J.hok,rv,q⟩
 cases fl with
 | ret u=>
   obtain ⟨v,σ',H',J,rv,q⟩:=hs
   exact fin J rv q
 | next=>
   obtain ⟨σ',H',J,q⟩:=hs
   exact fin (v:=V.non) (u:=G2) J rfl q
 | brk=>
   obtain ⟨_,_,_,q⟩:=hs
   exact GU q
 | cont=>
   obtain ⟨_,_,_,q⟩:=hs
   exact GU q
section
variable {X:Cx} {x:Str} {p pos:Pos} {e:Expr} {es:List Expr} {t:TA} {id T:String} {r:List V->Hp->VK->Prop}
noncomputable def tCB (r:List V->Hp->VK->Prop) (t:TA):TE:=λσ H Q=>t σ H λvs H1=>r vs H1 Q
theorem gE (hc:cW X (.builtin id) r) (hg:Gl X x) (hm:X.mg x=none) (hv:bootBuiltins x=some (.builtin id)) (ha:PA X (e :: es) t) (hn:x ≠ "__name__":=by decide) (hdb:(x == ("__debug__" : Str))=false:=by decide)
   (he:starEach (e :: es) X.env=(false,eval e X.env) :: starEach es X.env:=by rfl) (hpl:(backTo pos (starEach es X.env)).any (·.1)=false:=by rfl):PE X (.Call (.Name x p) (e :: es) [] pos) (tCB r t):=by
 intro pins s σ H Q I h
 refine wpAny_Call_Name_kw (cx I hg hm hv ?_ hn hdb)
 exact PyProof.Rows.callWith_builtin1 (thn (ha pos pins s σ H _ I h) λus s1 ⟨vs,H1,I1,r1,q1⟩=>hc pins s1 σ H1 vs us Q I1 r1 q1) he hpl
theorem t6 (hc:cW X (.type T) r) (hg:Gl X x) (hm:X.mg x=none) (hv:bootBuiltins x=some (.type T)) (ha:PA X (e :: es) t) (hn:x ≠ "__name__":=by decide) (hdb:(x == ("__debug__" : Str))=false:=by decide)
   (he:starEach (e :: es) X.env=(false,eval e X.env) :: starEach es X.env:=by rfl) (hpl:(backTo pos (starEach es X.env)).any (·.1)=false:=by rfl):PE X (.Call (.Name x p) (e :: es) [] pos) (tCB r t):=by
 intro pins s σ H Q I h
 refine wpAny_Call_Name_kw (cx I hg hm hv ?_ hn hdb)
 exact EZ (thn (ha pos pins s σ H _ I h) λus s1 ⟨vs,H1,I1,r1,q1⟩=>hc pins s1 σ H1 vs us Q I1 r1 q1) he hpl
end
end L2
namespace HT
open PySem PyProof.Rows
noncomputable def lexLt:List Int->List Int->Bool
 | [],[]=>false
 | [],_ :: _=>true
 | _ :: _,[]=>false
 | x :: xs,y :: ys=>if x=y then lexLt xs ys else decide (x < y)
theorem qB (x y:Int) (xs ys:List Int):lexLt (x :: xs) (y :: ys)=if x=y then lexLt xs ys else decide (x < y):=rfl
theorem kJ:lexLt [] []=false:=rfl
theorem kF (y:Int) (ys:List Int):lexLt [] (y :: ys)=true:=rfl
theorem kr (x:Int) (xs:List Int):lexLt (x :: xs) []=false:=rfl
theorem w8 (A:Around) (s:Shared) (a:Int) (t:Tok) (c:Int) (u:Tok):∃ e,SeqAt.EqAt A s (.int a t) (.int c u) e/\(e=true ↔ a=c):=
 ⟨(a == c),JU a t c u,by simp⟩
theorem vH (A:Around) (s:Shared) (a:Int) (t:Tok) (c:Int) (u:Tok) (prog:Program) (w:World) (E:Value->Shared->Prop) (Q:Value->Shared->Prop) (h:Q (.bool (decide (a < c))) s) :
   wpAny (model prog w) A (richCompare .Lt (.int a t) (.int c u)) Q E s:=
 (Jx h:wpAny (model prog w) A (compareOp .Lt (.int a t) (.int c u)) Q E s)
section
open PySem.SeqAt
open PySem.AutoSeq1 (wpAny_loadPart')
open PySem.MeetsSeq PySem.MeetsSeq2 PySem.MeetsSeq3
end
section
variable {prog:Program} {w:World} {A:Around} {E:Value->Shared->Prop} {s:Shared}
theorem yy {t b:Addr} {vs ws:List Value} {Q:Value->Shared->Prop} (ht:IsTup s.heap t vs.toArray) (hb:IsTup s.heap b ws.toArray) (hv:vs ≠ [])
   (h1:ws=[]->Q (.ref t) s) (h2:ws ≠ []->Q (.ref s.heap.objs.size) { s with heap:=s.heap.push { cls:=.type "tuple",data:=.seq (vs++ws).toArray } })
   (hsz:vs.length + ws.length<=sizeLine):wpAny (model prog w) A (binaryOp .Add (.ref t) (.ref b)) Q E s:=by
 obtain ⟨⟨cls,dd,data,sl⟩,ho,hc,n,hd⟩:=id ht
 obtain ⟨⟨cls2,dd2,data2,sl2⟩,ho2,hc2,n2,hd2⟩:=id hb
 simp only at hc hd hc2 hd2
 subst hc hd hc2 hd2
 have e:vs.toArray++ws.toArray=(vs++ws).toArray:=by simp
 by_cases hw:ws=[]
 · exact concat_meets ⟨_,ho,rfl⟩ ⟨_,ho2,rfl⟩ noFill_tuple_add seq_tuple_add HL HF (Hw _ _)
     (tuple_addW1 t b vs.toArray ws.toArray n n2 dd dd2 sl sl2 (by simpa using hv) (by simp [hw])) ⟨ho,ho2,h1 hw⟩
 · refine concat_meets ⟨_,ho,rfl⟩ ⟨_,ho2,rfl⟩ noFill_tuple_add seq_tuple_add HL HF (Hw _ _)
     (tuple_addW2 t b vs.toArray ws.toArray n n2 dd dd2 sl sl2 (by simpa using hv) (by simpa using hw) (by rw [EA,EA]; exact hsz)) ⟨ho,ho2,?_⟩
   rw [e]
   exact h2 hw
noncomputable def sIx (n d:Nat):Option Int->Nat
 | none=>d
 | some v=>if v < 0 then (v + (n:Int)).toNat else min v.toNat n
theorem u5 (n d:Nat):sIx n d none=d:=rfl
theorem mj (n d k:Nat):sIx n d (some (k:Int))=min k n:=by
 show (if (k:Int) < 0 then ((k:Int) + (n:Int)).toNat else min (k:Int).toNat n)=min k n
 rw [if_neg (by omega),Ey]
end
end HT
namespace L2
open PySem PySem.Spec PyProof.Rows
noncomputable abbrev TO:=St->Hp->(Option Int->Hp->Prop)->Prop
noncomputable def PO (X:Cx) (e:Option Expr) (t:TO):Prop:=
 ∀ (pins:List (Addr × Obj)) (s:Shared) (σ:St) (H:Hp) (Q:Option Int->Hp->Prop),Inv X pins σ H s->t σ H Q ->
   wpAny (model X.prog X.w) X.A (evalPart e X.env) (λu s'=>∃ o H',Inv X pins σ H' s'/\IsPart u o/\Q o H') X.xe s
noncomputable def yY:TO:=λ_ H Q=>Q none H
noncomputable def B9 (t:TE):TO:=λσ H Q=>t σ H λx H1=>∃ i,x=.int i/\Q (some i) H1
section
variable {X:Cx} {e:Expr} {te:TE} {lo hi:Option Expr} {tl th:TO} {pos p2:Pos}
theorem y0:PO X none yY:=by
 intro pins s σ H Q I h
 rw [evalPart_none]
 exact wpAny_pure ⟨none,H,I,.none,h⟩
theorem y6 (h:PE X e te):PO X (some e) (B9 te):=by
 intro pins s σ H Q I hw
 rw [evalPart_some]
 refine thn (h pins s σ H _ I hw) λu s1 ⟨x,H1,I1,r1,q1⟩=>?_
 obtain ⟨i,rfl,q⟩:=q1
 obtain ⟨t,rfl⟩:=r1
 exact ⟨some i,H1,I1,.int i t,q⟩
noncomputable def SlR (X:Cx) (r:V->Option Int->Option Int->Hp->VK->Prop):Prop:=
 ∀ (pins:List (Addr × Obj)) (s:Shared) (σ:St) (H:Hp) (x:V) (v vl vu:Value) (lo hi:Option Int) (sl:Addr) (Q:VK),Inv X pins σ H s->RelV x v->s.heap.IsSliceOf sl vl vu .none->IsPart vl lo->IsPart vu hi->r x lo hi H Q ->
   ∃ T id,typeLookup (.type T) "__getitem__" = pure (some (.builtin id))/\s.TypeIs v T/\wpAny (model X.prog X.w) X.A (getItem v (.ref sl)) (EP X pins σ Q) X.xe s
noncomputable def tSl (r:V->Option Int->Option Int->Hp->VK->Prop) (te:TE) (tl th:TO):TE:=λσ H Q=>te σ H λx H1=>tl σ H1 λl H2=>th σ H2 λu H3=>r x l u H3 Q
theorem xH {r:V->Option Int->Option Int->Hp->VK->Prop} (hr:SlR X r) (he:PE X e te) (hl:PO X lo tl) (hu:PO X hi th):PE X (.Subscript e (.Slice lo hi none p2) pos) (tSl r te tl th):=by
 intro pins s σ H Q I h
 refine Subscript_ (thn (he pins s σ H _ I h) λv s1 ⟨x,H1,I1,r1,q1⟩=>?_)
 refine wpAny_Slice (thn (hl pins s1 σ H1 _ I1 q1) λvl s2 ⟨l,H2,I2,pl,q2⟩=>thn (hu pins s2 σ H2 _ I2 q2) λvu s3 ⟨u,H3,I3,pu,q3⟩=>?_)
 rw [evalPart_none]
 refine wpAny_pure ?_
 have I4:Inv X pins σ H3 { s3 with heap:=s3.heap.push { cls:=.type "slice",data:=.fields #[vl,vu,.none] } }:=I3.kept (t':=s3.toks) λb ob q=>En _ q
 obtain ⟨T,id,hT,ht,hg⟩:=hr pins { s3 with heap:=s3.heap.push { cls:=.type "slice",data:=.fields #[vl,vu,.none] } } σ H3 x v vl vu l u s3.heap.objs.size Q I4 r1 (Heap.IsSliceOf.new ..) pl pu q3
 show wpAny (model X.prog X.w) X.A (subscriptTail e (.Slice lo hi none p2) v (.ref s3.heap.objs.size)) (EP X pins σ Q) X.xe { s3 with heap:=s3.heap.push { cls:=.type "slice",data:=.fields #[vl,vu,.none] } }
 exact tail_any (ops:=[.ref s3.heap.objs.size,v]) ht hT hg (by with_unfolding_all rfl)
noncomputable def tP (xs:List V) (lo hi:Option Int):List V:=(xs.drop (HT.sIx xs.length 0 lo)).take (HT.sIx xs.length xs.length hi - HT.sIx xs.length 0 lo)
theorem oH (xs:List V) (lo hi:Option Int):(tP xs lo hi).length<=xs.length:=by
 unfold tP
 rw [E1,GO]
 omega
noncomputable def CH (K:Ej):R2:=λx y H Q=>∃ a b xs ys,x=.ref a/\y=.ref b/\SqT K H a xs/\SqT K H b ys/\xs ≠ []/\xs.length + ys.length<=sizeLine /\
 (ys=[]->Q (.ref a) H)/\(ys ≠ []->∀ p,H p=none->Q (.ref p) (upd H p (.tup (xs++ys))))
theorem Vals.m5 {xs:List V} {us:List Value} (r:Vals xs us):us=[] ↔ xs=[]:=by
 cases r with
 | nil=>simp
 | cons _ _=>simp
theorem xT:OpR X (binaryOp .Add) (CH X.K):=by
 intro pins s σ H x y v u Q I rx ry h
 obtain ⟨a,b,xs,ys,rfl,rfl,ha,hb,hx,hz,q1,q2⟩:=h
 cases rx
 cases ry
 obtain ⟨its,r1,p1,_⟩:=I.tuple ha
 obtain ⟨its2,r2,p2,_⟩:=I.tuple hb
 refine HT.yy p1 p2 (λz=>hx (r1.m5.mp z)) (λz=>⟨.ref a,H,I,rfl,q1 (r2.m5.mp z)⟩) (λz=>?_) (by rw [<- r1.length,<- r2.length]; exact hz)
 refine ⟨.ref s.heap.objs.size,_,I.laid (t':=s.toks) (o:=.tup (xs++ys)) (λb ob q=>En _ q) (Ek _) ?_,rfl,q2 (λw=>z (r2.m5.mpr w)) _ (I.hok.fresh (Ek _))⟩
 exact ⟨by rw [EC]; exact hz,_,r1.append r2,IsTup.new _ _⟩
end
noncomputable def ixN (n:Nat) (i:Int):Option Nat:=if 0<=i then (if i < n then some i.toNat else none) else if -(n:Int)<=i then some (i + n).toNat else none
noncomputable def atI {α:Type} (xs:List α) (i:Int):Option α:=(ixN xs.length i).bind λj=>xs[j]?
theorem rX {n:Nat} {i:Int} {j:Nat} (h:ixN n i=some j):seqIndex? i n=some j/\j < n/\-(n:Int)<=i/\i < n:=by
 unfold ixN at h
 by_cases h0:0<=i
 · rw [if_pos h0] at h
   by_cases h1:i < n
   · rw [if_pos h1] at h
     have e:i.toNat=j:=E4 h
     exact ⟨by rw [seqIndex_of h0 h1,e],by omega,by omega,h1⟩
   · rw [if_neg h1] at h; cases h
 · rw [if_neg h0] at h
   by_cases h1:-(n:Int)<=i
   · rw [if_pos h1] at h
     have e:(i + n).toNat=j:=E4 h
     exact ⟨by rw [seqIndex_neg (by omega) h1,e],by omega,h1,by omega⟩
   · rw [if_neg h1] at h; cases h
theorem tD {α:Type} {xs:List α} {i:Int} {v:α} (h:atI xs i=some v):∃ j,seqIndex? i xs.length=some j/\xs[j]?=some v/\j < xs.length/\-(xs.length:Int)<=i/\i < xs.length:=by
 unfold atI at h
 cases e:ixN xs.length i with
 | none=>rw [e] at h; cases h
 | some j=>
   rw [e] at h
   obtain ⟨h1,h2,h3,h4⟩:=rX e
   exact ⟨j,h1,h,h2,h3,h4⟩
noncomputable def nQ (b:Expr):Prop:=∀ o i,subscripted b false o i=operate [o,i] (getItem o i)
noncomputable def IxR (X:Cx) (r:R2):Prop:=
 ∀ (value slice:Expr) (pins:List (Addr × Obj)) (s:Shared) (σ:St) (H:Hp) (x y:V) (v u:Value) (Q:VK),Inv X pins σ H s->RelV x v->RelV y u->r x y H Q ->
   subscripted slice false v u=operate [v,u] (getItem v u)->wpAny (model X.prog X.w) X.A (subscriptTail value slice v u) (EP X pins σ Q) X.xe s
noncomputable def MtR (X:Cx) (id:String) (r:V->List V->Hp->VK->Prop):Prop:=
 ∀ (pins:List (Addr × Obj)) (s:Shared) (σ:St) (H:Hp) (x:V) (xs:List V) (v:Value) (us:List Value) (Q:VK),Inv X pins σ H s->RelV x v->Vals xs us->r x xs H Q ->
   wpAny (model X.prog X.w) X.A (call (.builtin id) (v :: us)) (EP X pins σ Q) X.xe s
section
variable {X:Cx} {a b:Expr} {ta tb:TE} {pos:Pos}
theorem zz {r:R2} (hr:IxR X r) (ha:PE X a ta) (hb:PE X b tb) (hs:nQ b):PE X (.Subscript a b pos) (tOp r ta tb):=by
 intro pins s σ H Q I h
 exact Subscript_ (AI ha hb I h λv u s2 x y H2 I2 rx ry q=>hr a b pins s2 σ H2 x y v u Q I2 rx ry q (hs _ _))
noncomputable def DO (K:Ej):R2:=λx y H Q=>∃ p xs i v,x=.ref p/\y=.int i/\SqL K H p xs/\atI xs i=some v/\Q v H
noncomputable def D2 (K:Ej):R2:=λx y H Q=>∃ p xs i v,x=.ref p/\y=.int i/\SqT K H p xs/\atI xs i=some v/\Q v H
theorem sU:IxR X (DO X.K):=by
 intro value slice pins s σ H x y v u Q I rx ry h hs
 obtain ⟨p,xs,i,z,rfl,rfl,hq,he,q⟩:=h
 cases rx
 obtain ⟨t,rfl⟩:=ry
 obtain ⟨its,r,pl,hz⟩:=I.list hq
 obtain ⟨j,h1,h2,h3,h4,h5⟩:=tD he
 obtain ⟨w,ew,rw'⟩:=r.get h2
 have hl:=r.length
 have hn:=nr
 have fin:EP X pins σ Q w s:=⟨z,H,I,rw',q⟩
 by_cases h0:0<=i
 · have hj:i.toNat=j:=by
     rw [seqIndex_of h0 h5] at h1
     exact E4 h1
   exact item_listR pl.isList h0 (by omega) (by rw [hj]; simpa using ew) fin hs
 · have hj:(i + (its.toArray.size:Int)).toNat=j:=by
     rw [seqIndex_neg (by omega) h4] at h1
     rw [EA,<- hl]
     exact E4 h1
   exact subscriptTail_builtinR (x:=w) pl.isList.typeIs slot_list_getitem.lookup
     (wpAny_getItem_list_neg (Q:=λr s'=>r=w/\EP X pins σ Q r s') pl.isList (by omega) (by rw [EA] <;> omega) (by omega) (by rw [hj]; simpa using ew) ⟨rfl,fin⟩) hs
theorem AF:IxR X (D2 X.K):=by
 intro value slice pins s σ H x y v u Q I rx ry h hs
 obtain ⟨p,xs,i,z,rfl,rfl,hq,he,q⟩:=h
 cases rx
 obtain ⟨t,rfl⟩:=ry
 obtain ⟨its,r,pl,hz⟩:=I.tuple hq
 obtain ⟨j,h1,h2,h3,h4,h5⟩:=tD he
 obtain ⟨w,ew,rw'⟩:=r.get h2
 have hl:=r.length
 have hn:=nr
 have fin:EP X pins σ Q w s:=⟨z,H,I,rw',q⟩
 exact subscriptTail_builtinR (x:=w) pl.typeIs slot_tuple_getitem.lookup
   (getItem_tuple (j:=j) (Q:=λr s'=>r=w/\EP X pins σ Q r s') pl (by omega) (by omega) (by rw [EA,<- hl]; exact h1) (by simpa using ew) ⟨rfl,fin⟩) hs
theorem qV (its:List Value) (n j:Nat) (u:Value):Fm (·.setIfInBounds j u) { cls:=.type "list",data:=.seq its.toArray n }={ cls:=.type "list",data:=.seq (its.set j u).toArray n }:=by
 simp [Fm]
theorem Inv.lst {pins:List (Addr × Obj)} {σ:St} {H:Hp} {s:Shared} {p:Addr} {xs:List V} (I:Inv X pins σ H s) (h:H p=some (.lst xs)) :
   ∃ (its:List Value) (n:Nat),Vals xs its/\s.heap.get? p=some { cls:=.type "list",data:=.seq its.toArray n }/\xs.length<=sizeLine:=by
 obtain ⟨z,its,n,r,e⟩:=I.hok p _ h
 exact ⟨its,n,r,e,z⟩
theorem Inv.BD {pins:List (Addr × Obj)} {σ:St} {H:Hp} {s:Shared} {p:Addr} {xs ys:List V} {its its':List Value} {n n':Nat} {f:Obj->Obj} (I:Inv X pins σ H s) (h:H p=some (.lst xs))
   (ho:s.heap.get? p=some { cls:=.type "list",data:=.seq its.toArray n }) (hf:f { cls:=.type "list",data:=.seq its.toArray n }={ cls:=.type "list",data:=.seq its'.toArray n' }) (r:Vals ys its') (hz:ys.length<=sizeLine) (t:Nat) :
   Inv X pins σ (upd H p (.lst ys)) { s with heap:=s.heap.update p f,toks:=t }:=by
 have e:(s.heap.update p f).get? p=some { cls:=.type "list",data:=.seq its'.toArray n' }:=by
   rw [Heap.get?_update_self f ho (by rw [hf] <;> rfl),hf]
 refine I.write (x:=p) (e:=p) (by rw [h]; trivial) (.inl rfl) (λb u hb q=>(FF _ _ (FE hb)).trans q) ⟨_,e⟩ ?_
 exact ⟨hz,its',n',r,e⟩
noncomputable def Dv:V->V->V->Hp->(Hp->Prop)->Prop:=λo i v H Q=>∃ p xs k j,o=.ref p/\i=.int k/\H p=some (.lst xs)/\ixN xs.length k=some j/\Q (upd H p (.lst (xs.set j v)))
theorem set_list:C5 X Dv:=by
 intro pins s σ H o i v ov iv u Q I ro ri rv h
 obtain ⟨p,xs,k,j,rfl,rfl,hp,hj,q⟩:=h
 cases ro
 obtain ⟨t,rfl⟩:=ri
 obtain ⟨its,n,r,ho,hz⟩:=I.lst hp
 obtain ⟨h1,h2,h3,h4⟩:=rX hj
 have hl:=r.length
 have hn:=nr
 have I':Inv X pins σ (upd H p (.lst (xs.set j v))) { s with heap:=s.heap.update p (Fm (·.setIfInBounds j u)) }:=
   I.BD hp ho (qV its n j u) (r.set rv j) (by rw [Fl]; exact hz) s.toks
 by_cases h0:0<=k
 · have hk:k.toNat=j:=by
     rw [seqIndex_of h0 h4] at h1
     exact E4 h1
   exact PySem.W.ki_setAt ho h0 (by omega) (by rw [EA,<- hl]; exact h4) (by rw [hk]; exact ⟨_,I',q⟩)
 · have hk:(k + (its.toArray.size:Int)).toNat=j:=by
     rw [seqIndex_neg (by omega) h3] at h1
     rw [EA,<- hl]
     exact E4 h1
   exact PySem.W.ki_setBack ho (by omega) (by rw [EA,<- hl]; exact h3) (by omega) (by rw [hk]; exact ⟨_,I',q⟩)
theorem nS (lo hi:Option Int) (n:Nat):(sliceBounds lo hi none n).1=((HT.sIx n 0 lo:Nat):Int)/\(sliceBounds lo hi none n).2.1=((HT.sIx n n hi:Nat):Int)/\(sliceBounds lo hi none n).2.2=1:=by
 refine ⟨?_,?_,rfl⟩
 · cases lo with
   | none=>simp [sliceBounds,HT.sIx]
   | some i=>
     simp only [sliceBounds,HT.sIx,Option.getD_none,show (1:Int) > 0 by decide,if_true]
     by_cases h:i < 0
     · simp only [h,if_true] <;> omega
     · simp only [h,if_false] <;> omega
 · cases hi with
   | none=>simp [sliceBounds,HT.sIx]
   | some i=>
     simp only [sliceBounds,HT.sIx,Option.getD_none,show (1:Int) > 0 by decide,if_true]
     by_cases h:i < 0
     · simp only [h,if_true] <;> omega
     · simp only [h,if_false] <;> omega
theorem kI (its:List Value) (lo hi:Option Int):slicePick its.toArray lo hi none=((its.drop (HT.sIx its.length 0 lo)).take (HT.sIx its.length its.length hi - HT.sIx its.length 0 lo)).toArray:=by
 obtain ⟨h1,h2,h3⟩:=nS lo hi its.toArray.size
 unfold slicePick
 rw [h1,h2,h3]
 simp only [sliceRange_one,pick_run,EA] <;> rfl
noncomputable def DK (K:Ej):V->Option Int->Option Int->Hp->VK->Prop:=λx lo hi H Q=>∃ a xs,x=.ref a/\SqL K H a xs/\∀ p,H p=none->Q (.ref p) (upd H p (.lst (tP xs lo hi)))
theorem yN:SlR X (DK X.K):=by
 intro pins s σ H x v vl vu lo hi sl Q I rx hs pl pu h
 obtain ⟨a,xs,rfl,hx,q⟩:=h
 cases rx
 obtain ⟨its,r,ht,hz⟩:=I.list hx
 have hlen:=r.length
 refine ⟨"list",_,slot_list_getitem.lookup,ht.isList.typeIs,?_⟩
 refine wpAny_getItem_list_slice ht.isList hs pl pu .none (by simp) ?_ (by rw [EA] <;> omega)
 rw [kI,<- hlen]
 refine ⟨.ref s.heap.objs.size,_,I.laid (t':=s.toks) (o:=.lst (tP xs lo hi)) (λb ob q=>En _ q) (Ek _) ?_,rfl,q _ (I.hok.fresh (Ek _))⟩
 exact ⟨EH (oH xs lo hi) hz,_,0,(r.drop (HT.sIx xs.length 0 lo)).take (HT.sIx xs.length xs.length hi - HT.sIx xs.length 0 lo),EK _ rfl⟩
noncomputable def i4:V->Bool
 | .non=>true
 | .bl _=>true
 | .int _=>true
 | .str _=>true
 | _=>false
noncomputable def eqV:V->V->Bool
 | .non,.non=>true
 | .bl a,.bl b=>a == b
 | .bl a,.int b=>(if a then 1 else 0) == b
 | .int a,.bl b=>a == (if b then 1 else 0)
 | .int a,.int b=>a == b
 | .str a,.str b=>a == b
 | _,_=>false
theorem Bi {A:Around} {s:Shared} {y x:V} {u v:Value} (ry:RelV y u) (rx:RelV x v) (fy:i4 y=true) (fx:i4 x=true):SeqAt.EqAt A s u v (eqV y x):=by
 cases y with
 | non=>
   cases ry
   cases x with
   | non=>cases rx; exact SeqAt.EqAt.same _
   | bl b=>cases rx; exact SeqAt.EqAt.none_bool b
   | int b=>obtain ⟨t,rfl⟩:=rx; exact SeqAt.EqAt.none_int b t
   | str b=>obtain ⟨t,rfl⟩:=rx; exact SeqAt.EqAt.none_str b t
   | _=>exact absurd (show false=true from fx) Eu
 | bl a=>
   cases ry
   cases x with
   | non=>cases rx; exact SeqAt.EqAt.bool_none a
   | bl b=>cases rx; exact SeqAt.EqAt.bool_bool a b
   | int b=>obtain ⟨t,rfl⟩:=rx; exact SeqAt.EqAt.bool_int a b t
   | str b=>obtain ⟨t,rfl⟩:=rx; exact SeqAt.EqAt.bool_str a b t
   | _=>exact absurd (show false=true from fx) Eu
 | int a=>
   obtain ⟨t',rfl⟩:=ry
   cases x with
   | non=>cases rx; exact SeqAt.EqAt.int_none a t'
   | bl b=>cases rx; exact SeqAt.EqAt.int_bool a t' b
   | int b=>obtain ⟨t,rfl⟩:=rx; exact JU a t' b t
   | str b=>obtain ⟨t,rfl⟩:=rx; exact JS a t' b t
   | _=>exact absurd (show false=true from fx) Eu
 | str a=>
   obtain ⟨t',rfl⟩:=ry
   cases x with
   | non=>cases rx; exact SeqAt.EqAt.str_none a t'
   | bl b=>cases rx; exact SeqAt.EqAt.str_bool a t' b
   | int b=>obtain ⟨t,rfl⟩:=rx; exact JR a t' b t
   | str b=>obtain ⟨t,rfl⟩:=rx; exact SeqAt.EqAt.str_str a t' b t
   | _=>exact absurd (show false=true from fx) Eu
 | _=>exact absurd (show false=true from fy) Eu
noncomputable def eqU (x:V) (u:Value):Bool:=match u with
 | .none=>eqV .non x
 | .bool b=>eqV (.bl b) x
 | .int i _=>eqV (.int i) x
 | .str z _=>eqV (.str z) x
 | _=>false
theorem uW {x y:V} {u:Value} (r:RelV y u) (f:i4 y=true):eqU x u=eqV y x:=by
 cases y with
 | non=>cases r; rfl
 | bl b=>cases r; rfl
 | int i=>obtain ⟨t,rfl⟩:=r; rfl
 | str z=>obtain ⟨t,rfl⟩:=r; rfl
 | _=>exact absurd (show false=true from f) Eu
theorem hZ {x:V}:∀ {xs:List V} {us:List Value},Vals xs us->xs.all i4=true->us.any (eqU x)=xs.any λy=>eqV y x
 | _,_,.nil,_=>rfl
 | y :: xs,u :: us,.cons r t,f=>by
   rw [Jb,Fp] at f
   rw [HU,HU,uW r f.1,hZ t f.2]
theorem ff {A:Around} {s:Shared} {x:V} {v:Value} (rx:RelV x v) (fx:i4 x=true):∀ {xs:List V} {us:List Value},Vals xs us->xs.all i4=true->∀ u ∈ us,SeqAt.EqAt A s u v (eqU x u)
 | _,_,.nil,_=>λu hu=>by cases hu
 | y :: xs,u :: us,.cons r t,f=>λu' hu=>by
   rw [Jb,Fp] at f
   rcases EE.mp hu with rfl | hu
   · rw [uW r f.1]; exact Bi r rx f.1 fx
   · exact ff rx fx t f.2 u' hu
noncomputable def inV (x:V) (xs:List V):Bool:=xs.any λy=>eqV y x
noncomputable def rIn (K:Ej) (neg:Bool):R2:=λx y H Q=>∃ p xs,y=.ref p/\(SqL K H p xs\/SqT K H p xs)/\i4 x=true/\xs.all i4=true/\Q (.bl (if neg then !inV x xs else inV x xs)) H
theorem iz:OpR X (compareOp .In) (rIn X.K false):=by
 intro pins s σ H x y v u Q I rx ry h
 obtain ⟨p,xs,rfl,hq,fx,fs,q⟩:=h
 cases ry
 rcases hq with hq | hq
 · obtain ⟨its,r,pl,hz⟩:=I.list hq
   refine SeqAt.in_listAt (eqU x) pl.isList (λw hw=>ff rx fx r fs w (by simpa using hw)) ⟨.bl _,H,I,rfl,?_⟩
   rw [show its.toArray.any (eqU x)=its.any (eqU x) by simp,hZ r fs]
   exact q
 · obtain ⟨its,r,pl,hz⟩:=I.tuple hq
   refine SeqAt.in_tupleAt (eqU x) pl (λw hw=>ff rx fx r fs w (by simpa using hw)) ⟨.bl _,H,I,rfl,?_⟩
   rw [show its.toArray.any (eqU x)=its.any (eqU x) by simp,hZ r fs]
   exact q
theorem ny:OpR X (compareOp .NotIn) (rIn X.K true):=by
 intro pins s σ H x y v u Q I rx ry h
 obtain ⟨p,xs,rfl,hq,fx,fs,q⟩:=h
 cases ry
 rcases hq with hq | hq
 · obtain ⟨its,r,pl,hz⟩:=I.list hq
   refine SeqAt.notIn_listAt (eqU x) pl.isList (λw hw=>ff rx fx r fs w (by simpa using hw)) ⟨.bl _,H,I,rfl,?_⟩
   rw [show its.toArray.any (eqU x)=its.any (eqU x) by simp,hZ r fs]
   exact q
 · obtain ⟨its,r,pl,hz⟩:=I.tuple hq
   refine SeqAt.notIn_tupleAt (eqU x) pl (λw hw=>ff rx fx r fs w (by simpa using hw)) ⟨.bl _,H,I,rfl,?_⟩
   rw [show its.toArray.any (eqU x)=its.any (eqU x) by simp,hZ r fs]
   exact q
theorem hW:cW X (.builtin "len") (λxs H Q=>∃ p ys,xs=[.ref p]/\(SqL X.K H p ys\/SqT X.K H p ys)/\Q (.int ys.length) H):=by
 intro pins s σ H xs us Q I r h
 obtain ⟨p,ys,rfl,hq,q⟩:=h
 obtain ⟨u,rfl,rx⟩:=vals1 r
 cases rx
 have hn:=nr
 rcases hq with hq | hq
 · obtain ⟨its,r',pl,hz⟩:=I.list hq
   have hlen:=r'.length
   exact Calls.call_len_list pl.isList (by simp only [EA] <;> omega) ⟨.int ys.length,H,I.tok _,⟨s.toks + 1,by rw [EA,hlen]⟩,q⟩
 · obtain ⟨its,r',pl,hz⟩:=I.tuple hq
   have hlen:=r'.length
   exact len_tuple pl (by simp only [EA] <;> omega) ⟨.int ys.length,H,I.tok _,⟨s.toks + 1,by rw [EA,hlen]⟩,q⟩
theorem kQ:cW X (.type "tuple") (λxs H Q=>∃ p ys,xs=[.ref p]/\((SqL X.K H p ys/\∀ l,H l=none->Q (.ref l) (upd H l (.tup ys)))\/(SqT X.K H p ys/\Q (.ref p) H))):=by
 intro pins s σ H xs us Q I r h
 obtain ⟨p,ys,rfl,h⟩:=h
 obtain ⟨u,rfl,rx⟩:=vals1 r
 cases rx
 rcases h with ⟨hq,q⟩ | ⟨hq,q⟩
 · obtain ⟨its,r',pl,hz⟩:=I.list hq
   have hlen:=r'.length
   refine call_tuple_list pl.isList (λh' kp=>?_) (by simp only [EA] <;> omega)
   have I1:Inv X pins σ H { s with heap:=h' }:=I.kept (t':=s.toks) kp
   have I2:Inv X pins σ (upd H h'.objs.size (.tup ys)) { s with heap:=h'.push { cls:=.type "tuple",data:=.seq its.toArray } }:=
     I1.laid (t':=s.toks) (λb o e=>En _ e) (Ek _) (show bh X.prog X.w _ _ _ (.tup ys) from ⟨hz,its,r',IsTup.new _ _⟩)
   exact ⟨.ref h'.objs.size,_,I2,rfl,q _ (I1.hok.fresh (Ek _))⟩
 · obtain ⟨its,r',pl,hz⟩:=I.tuple hq
   exact call_tuple_same pl ⟨.ref p,H,I,rfl,q⟩
noncomputable def tyV (K:Ej) (T:String) (x:V) (H:Hp):Prop:=match x with
 | .str _=>T = "str"
 | .int _=>T = "int"
 | .ref p=>(T = "list" /\ ∃ xs,SqL K H p xs)\/(T = "tuple" /\ ∃ o,K.lookup p=some o/\o.cls=.type "tuple" /\ o.dict=none) \/
     (T = "dict" /\ ((∃ kvs,H p=some (.dK kvs))\/∃ kvs,H p=some (.dT kvs)))\/(T = "set" /\ ∃ S n,H p=some (.set S n))
 | _=>False
theorem wz {pins:List (Addr × Obj)} {σ:St} {H:Hp} {s:Shared} {T:String} {x:V} {v:Value} (I:Inv X pins σ H s) (r:RelV x v) (ty:tyV X.K T x H) :
   s.TypeIs v T/\∀ a,v=.ref a->∃ ob,s.heap.get? a=some ob/\ob.dict=none:=by
 cases x with
 | str z=>
   obtain ⟨t,rfl⟩:=r
   cases (show T = "str" from ty)
   exact ⟨typeIs_str s z t,λ_ e=>nomatch e⟩
 | int i=>
   obtain ⟨t,rfl⟩:=r
   cases (show T = "int" from ty)
   exact ⟨typeIs_int s i t,λ_ e=>nomatch e⟩
 | ref p=>
   cases r
   rcases ty with ⟨rfl,xs,hq⟩ | ⟨rfl,o,hk,hc,hd⟩ | ⟨rfl,hk⟩ | ⟨rfl,S,n,hk⟩
   · obtain ⟨its,_,pl,_⟩:=I.list hq
     refine ⟨pl.isList.typeIs,λa e=>?_⟩
     cases e
     obtain ⟨o,n,e,c,hd,_⟩:=pl
     exact ⟨o,e,hd⟩
   · refine ⟨⟨o,I.kIn p o hk,hc⟩,λa e=>?_⟩
     cases e
     exact ⟨o,I.kIn _ o hk,hd⟩
   · have z:∃ o,s.heap.get? p=some o/\o.ExactDict:=by
       rcases hk with ⟨kvs,hk⟩ | ⟨kvs,hk⟩
       · obtain ⟨_,_,_,_,o,_,_,e,ex,_⟩:=I.hok p _ hk
         exact ⟨o,e,ex⟩
       · obtain ⟨_,_,_,_,o,_,_,e,ex,_⟩:=I.hok p _ hk
         exact ⟨o,e,ex⟩
     obtain ⟨o,e,ex⟩:=z
     refine ⟨⟨o,e,ex.1⟩,λa e2=>?_⟩
     cases e2
     exact ⟨o,e,ex.2.1⟩
   · obtain ⟨o,_,_,_,e,ex,_⟩:=I.hok p _ hk
     refine ⟨⟨o,e,ex.1⟩,λa e2=>?_⟩
     cases e2
     exact ⟨o,e,ex.2.1⟩
 | _=>exact GU ty
noncomputable def DR (K:Ej) (T:String) (r:V->List V->Hp->VK->Prop) (to:TE):TE:=λσ H Q=>to σ H λx H1=>tyV K T x H1/\r x [] H1 Q
noncomputable def tBM (K:Ej) (T:String) (r:V->List V->Hp->VK->Prop) (to:TE) (t:TA):TE:=λσ H Q=>to σ H λx H1=>tyV K T x H1/\t σ H1 λxs H2=>r x xs H2 Q
variable {o e:Expr} {es:List Expr} {to:TE} {t:TA} {name:Str} {apos cpos:Pos} {T id:String} {r:V->List V->Hp->VK->Prop}
theorem BS (pa:PlainAttrs T) (slot:Slot T name id) (hty:typeOf (.builtin id)=pure (.type "method_descriptor")) (hm:MtR X id r) (ho:PE X o to)
   (hbase:attributeBase o name X.env (eval o X.env)=eval o X.env:=by rfl) (hline:(apos.endLine == cpos.line)=true:=by rfl):PE X (.Call (.Attribute o name apos) [] [] cpos) (DR X.K T r to):=by
 intro pins s σ H Q I h
 refine wpAny_Call_method0_late hbase hline (thn (ho pins s σ H _ I h) λv s1 ⟨x,H1,I1,r1,ty,q1⟩=>?_)
 obtain ⟨h1,h2⟩:=wz I1 r1 ty
 exact ⟨T,id,pa,slot,hty,h1,h2,G1 rfl (PySem.evalArgs_none (hm pins s1 σ H1 x [] v [] Q I1 r1 .nil q1))⟩
theorem wD (pa:PlainAttrs T) (slot:Slot T name id) (hty:typeOf (.builtin id)=pure (.type "method_descriptor")) (hm:MtR X id r) (ho:PE X o to) (ha:PA X (e :: es) t)
   (hbase:attributeBase o name X.env (eval o X.env)=eval o X.env:=by rfl)
   (hfew:((backTo cpos (starEach (e :: es) X.env)).all (λx=>!x.1) && (backToKw cpos (keywordEach [] X.env)).all (λx=>x.1.isSome)
     && decide ((e :: es).length + ([]:List Keyword).length + (if ([]:List Keyword).isEmpty then 0 else 1) < 30))=true:=by rfl)
   (hline:(apos.endLine == cpos.line)=true:=by rfl) (hs:starEach (e :: es) X.env=(false,eval e X.env) :: starEach es X.env:=by rfl) (hplain:(backTo cpos (starEach es X.env)).any (·.1)=false:=by rfl) :
   PE X (.Call (.Attribute o name apos) (e :: es) [] cpos) (tBM X.K T r to t):=by
 intro pins s σ H Q I h
 refine wpAny_Call_method_late hbase hfew hline rfl (thn (ho pins s σ H _ I h) λv s1 ⟨x,H1,I1,r1,ty,q1⟩=>?_)
 obtain ⟨h1,h2⟩:=wz I1 r1 ty
 refine ⟨T,id,pa,slot,hty,h1,h2,?_⟩
 have hA:=ha cpos pins s1 σ H1 _ I1 q1
 rw [hs] at hA ⊢
 refine G1 (by show (false || (backTo cpos (starEach es X.env)).any (·.1))=false; rw [hplain] <;> rfl) (Iu ?_)
 exact thn hA λus s2 ⟨vs,H2,I2,r2,q2⟩=>hm pins s2 σ H2 x vs v us Q I2 r1 r2 q2
end
noncomputable def MtM (X:Cx) (id:String) (r:V->List V->Hp->VK->Prop):Prop:=
 ∀ (pins:List (Addr × Obj)) (s:Shared) (σ:St) (H:Hp) (x:V) (xs:List V) (v:Value) (us:List Value) (Q:VK),Inv X pins σ H s->RelV x v->Vals xs us->r x xs H Q ->
   wpAny (model X.prog X.w) X.A (call (.builtin id) (v :: us)) (EP X pins σ Q) X.xe s
theorem Vals.one:∀ {x:V} {us:List Value},Vals [x] us->∃ u,us=[u]/\RelV x u
 | _,_,.cons r .nil=>⟨_,rfl,r⟩
theorem Vals.zero:∀ {us:List Value},Vals [] us->us=[]
 | _,.nil=>rfl
theorem Vals.eraseIdx:∀ {xs:List V} {us:List Value} (i:Nat),Vals xs us->Vals (xs.eraseIdx i) (us.eraseIdx i)
 | _,_,_,.nil=>.nil
 | _,_,0,.cons _ t=>t
 | _,_,i + 1,.cons r t=>.cons r (Vals.eraseIdx i t)
theorem Vals.reverse {xs:List V} {us:List Value} (h:Vals xs us):Vals xs.reverse us.reverse:=by
 induction h with
 | nil=>exact .nil
 | cons r t ih=>rw [HI,HI]; exact Vals.append ih (.cons r .nil)
theorem Vals.rep {xs:List V} {us:List Value} (h:Vals xs us):∀ k:Nat,Vals (ER k xs).flatten (ER k us).flatten
 | 0=>.nil
 | k + 1=>by
   rw [Fo,Fo,FH,FH]
   exact Vals.append h (Vals.rep h k)
theorem iE {α:Type}:∀ (l:List α) (i:Nat),(l.eraseIdx i).length<=l.length
 | [],_=>Ek _
 | _ :: _,0=>Fv _
 | _ :: r,i + 1=>Jt (iE r i)
theorem foldl_rep (its:List Value):∀ (k:Nat) (acc:List Value),
   List.foldl (λx1 x2=>x1++x2) acc.toArray (ER k its.toArray)=(acc++(ER k its).flatten).toArray
 | 0,acc=>by simp
 | k + 1,acc=>by
   have e:acc.toArray++its.toArray=(acc++its).toArray:=by simp
   have e2:(acc++its)++(ER k its).flatten=acc++(ER (k + 1) its).flatten:=by
     rw [Fo,FH,EX]
   rw [<- e2,<- foldl_rep its k (acc++its),<- e,Fo,Ip]
section
variable {X:Cx} {pins:List (Addr × Obj)} {σ:St} {H:Hp} {s:Shared} {l b:Addr} {xs ys zs:List V}
theorem Inv.yX {its its':List Value} {n:Nat} {f:Array Value->Array Value} {t':Nat} (I:Inv X pins σ H s) (hH:H l=some (.lst xs))
   (e:s.heap.get? l=some { cls:=.type "list",data:=.seq its.toArray n }) (hf:f its.toArray=its'.toArray) (hv:Vals ys its') (hz:ys.length<=sizeLine) :
   Inv X pins σ (upd H l (.lst ys)) { s with heap:=s.heap.update l (Fm f),toks:=t' }:=by
 have q:=PySem.IsL.update e f
 rw [hf] at q
 refine I.write (x:=l) (e:=l) (by rw [hH]; exact trivial) (.inl rfl) (λb' u hb hu=>(FF s.heap (Fm f) (FE hb)).trans hu) ⟨_,q⟩ ?_
 exact ⟨hz,its',_,hv,q⟩
theorem Inv.B5 {its:List Value} {t':Nat} (I:Inv X pins σ H s) (hv:Vals ys its) (hz:ys.length<=sizeLine) :
   Inv X pins σ (upd H s.heap.objs.size (.lst ys)) { s with heap:=s.heap.push { cls:=.type "list",data:=.seq its.toArray },toks:=t' }:=
 I.laid (λ_ _ q=>En _ q) (Ek _) ⟨hz,its,0,hv,EK _ rfl⟩
theorem Inv.fresh (I:Inv X pins σ H s):H s.heap.objs.size=none:=I.hok.fresh (Ek _)
theorem Inv.vj (I:Inv X pins σ H s) (hH:H l=some (.lst xs)):xs.length<=sizeLine/\∃ (its:List Value) (n:Nat),Vals xs its/\xs.length=its.length/\s.heap.get? l=some { cls:=.type "list",data:=.seq its.toArray n }:=by
 obtain ⟨z,its,n,r,e⟩:=I.hok l _ hH
 exact ⟨z,its,n,r,r.length,e⟩
theorem om {n:Nat} (h:n<=sizeLine):Hj n=false:=by
 unfold Builtin.List.listTooLong
 exact decide_eq_false (by omega)
end
section
variable {X:Cx}
noncomputable def yZ:V->List V->Hp->VK->Prop:=λx vs H Q=>∃ l xs y,x=.ref l/\vs=[y]/\H l=some (.lst xs)/\xs.length < sizeLine/\Q .non (upd H l (.lst (xs++[y])))
theorem iO:MtM X "list.append" yZ:=by
 intro pins s σ H x vs v us Q I rx rv h
 obtain ⟨l,xs,y,rfl,rfl,hH,hz,q⟩:=h
 cases rx
 obtain ⟨u,rfl,ru⟩:=rv.one
 obtain ⟨z,its,n,r,hl,e⟩:=I.vj hH
 refine call_meets F.slot_list_append ⟨_,e,rfl⟩ F.entry_list_append (F.args_list_append_2 _ _) (PySem.list_append l its.toArray n u (by rw [EA]; omega)) ⟨e,?_⟩
 refine ⟨.non,_,I.yX (its':=its++[u]) hH e (by simp) (r.append (.cons ru .nil)) ?_,rfl,q⟩
 rw [EC,List.length_singleton]
 omega
noncomputable def yc:V->List V->Hp->VK->Prop:=λx vs H Q=>∃ l b xs zs,x=.ref l/\vs=[.ref b]/\H l=some (.lst xs)/\H b=some (.lst zs)/\xs.length + zs.length<=sizeLine/\Q .non (upd H l (.lst (xs++zs)))
theorem ue:MtM X "list.extend" yc:=by
 intro pins s σ H x vs v us Q I rx rv h
 obtain ⟨l,b,xs,zs,rfl,rfl,hH,hB,hz,q⟩:=h
 cases rx
 obtain ⟨u,rfl,ru⟩:=rv.one
 cases ru
 obtain ⟨z,its,n,r,hl,e⟩:=I.vj hH
 obtain ⟨z2,its2,n2,r2,hl2,e2⟩:=I.vj hB
 have hsz:its.toArray.size + its2.toArray.size<=sizeLine:=by rw [EA,EA]; omega
 have hlong:¬ (!its.toArray.isEmpty && Hj (its.toArray.size + its2.toArray.size))=true:=by
   rw [om hsz,Bool.and_false]
   exact Eu
 refine call_meets F.slot_list_extend ⟨_,e,rfl⟩ F.entry_list_extend (F.args_list_extend_2 _ _)
   (AutoSeq1.list_extend_list_list_0 l its.toArray n b its2.toArray n2 hlong (by rw [EA]; omega) (by omega)) ⟨e,e2,?_⟩
 refine ⟨.non,_,I.yX (its':=its++its2) hH e (by simp) (r.append r2) ?_,rfl,q⟩
 rw [EC]
 omega
noncomputable def vK:V->List V->Hp->VK->Prop:=λx vs H Q=>∃ l xs i k y,x=.ref l/\vs=[.int i]/\H l=some (.lst xs)/\-(2 ^ 63)<=i/\i < 2 ^ 63/\seqIndex? i xs.length=some k/\xs[k]?=some y/\Q y (upd H l (.lst (xs.eraseIdx k)))
theorem wG:MtM X "list.pop" vK:=by
 intro pins s σ H x vs v us Q I rx rv h
 obtain ⟨l,xs,i,k,y,rfl,rfl,hH,h1,h2,hk,hy,q⟩:=h
 cases rx
 obtain ⟨u,rfl,ru⟩:=rv.one
 obtain ⟨t,rfl⟩:=ru
 obtain ⟨z,its,n,r,hl,e⟩:=I.vj hH
 obtain ⟨w,hw,rw'⟩:=r.get hy
 refine call_meets F.slot_list_pop ⟨_,e,rfl⟩ F.entry_list_pop (F.args_list_pop_2 _ _)
   (MeetsSeq.list_pop_at l its.toArray n i t k w (fitsIndex_both h1 h2) (by rw [EA,<- hl]; exact hk) (by rw [<- G9]; exact hw) (by rw [EA]; omega)) ⟨e,?_⟩
 refine ⟨y,_,I.yX (its':=its.eraseIdx k) hH e ?_ (r.eraseIdx k) ?_,rw',q⟩
 · show its.toArray.eraseIdxIfInBounds k=(its.eraseIdx k).toArray
   rw [List.eraseIdxIfInBounds_toArray]
 · have:=iE xs k
   omega
noncomputable def wX:V->List V->Hp->VK->Prop:=λx vs H Q=>∃ l xs,x=.ref l/\vs=[]/\H l=some (.lst xs)/\Q .non (upd H l (.lst xs.reverse))
theorem qp:MtM X "list.reverse" wX:=by
 intro pins s σ H x vs v us Q I rx rv h
 obtain ⟨l,xs,rfl,rfl,hH,q⟩:=h
 cases rx
 have hus:=rv.zero
 subst hus
 obtain ⟨z,its,n,r,hl,e⟩:=I.vj hH
 refine call_meets J4 ⟨_,e,rfl⟩ F.entry_list_reverse (F.args_list_reverse_1 _) (AutoSeq1.list_reverse_list_0 l its.toArray n (by rw [EA]; omega)) ⟨e,?_⟩
 refine ⟨.non,_,I.yX (its':=its.reverse) hH e (by simp) r.reverse ?_,rfl,q⟩
 rw [Ho]
 omega
theorem len_rep {α:Type} (xs:List α) (k:Nat):(ER k xs).flatten.length=k * xs.length:=by
 induction k with
 | zero=>simp
 | succ k ih=>rw [Fo,FH,EC,ih,F1,Nat.add_comm]
end
section
variable {prog:Program} {w:World} {A:Around} {E:Value->Shared->Prop} {s:Shared}
end
section
variable {X:Cx}
end
end L2
namespace Att
open PySem PySem.W PySem.Calls PyProof.Rows
theorem ja {P:Params} {h:Heap}:∀ (ns:List Int) (vs:List Value),WellAll P h vs (ns.map WData.int)->IntsAre vs ns:=by
 intro ns
 induction ns with
 | nil=>
   intro vs w
   rw [FK] at w
   cases w
   exact .nil
 | cons n ns ih=>
   intro vs w
   rw [Er] at w
   cases w with
   | cons a b=>
     cases a
     exact .cons _ _ (ih _ b)
theorem tQ {l:OpenLaw} {n:Nat} (hn:l.most=some n) {P:Params} {h:Heap} {args:List WData} {vals:List Value}
   (hpre:l.row.toRowW.claim.pre args=true) (hwl:WellAll P h vals args) :
   ∃ a vs ns,vals=[EF a]/\args=[WData.list (ns.map WData.int)]/\h.get? a=some { cls:=.type "list",data:=.seq vs.toArray }/\IntsAre vs ns/\ns.length<=n:=by
 have hsh:WShape.hasAll [] args [.list .int]=true:=(pre_splitW hpre).1
 have hc:l.pre.holds [] { args:=args }=true:=(pre_splitW hpre).2
 obtain ⟨d,r,rfl,h1,h2⟩:=hasAllW_cons hsh
 obtain rfl:=hasAllW_nil h2
 obtain ⟨xs,rfl,h3⟩:=hasW_list h1
 obtain ⟨ns,rfl⟩:=items_int h3
 have hlen:ns.length<=n:=by
   unfold OpenLaw.pre at hc
   have h4:(WTm.not (.lt (.lit (.int (n:Int))) (.len (.arg 0)))).holds [] { args:=[.list (ns.map .int)] }=true:=by
     have h4:=(holds_andW hc).1
     rw [hn] at h4
     exact h4
   have h5:=condW_of h4 (w_not (w_lt w_lit (w_len_list (w_arg rfl))))
   rw [Ei] at h5
   refine Nat.le_of_not_lt λq=>?_
   have q':(n:Int) < ((ns.length:Nat):Int):=by omega
   first
     | (rw [decide_eq_true q'] at h5; exact absurd h5 (by decide))
     | (simp at h5; omega)
 cases hwl with
 | cons w1 w2=>
   cases w2
   cases w1 with
   | list ho hall=>exact ⟨_,_,ns,rfl,rfl,ho,ja ns _ hall,hlen⟩
theorem tW (l:OpenLaw) (args:List WData):l.row.toRowW.claim.post args (.bool true) args=true:=
 postW_of (r:=l.row.toRowW) (X:=(true == true))
   (show WShape.has [] (.bool true) .bool=true by first | rfl | decide | simp [WShape.has,WShape.arms,WShape.armsAll])
   (show (WTm.eq .res (.lit (.bool true))).value [] { args:=args,res:=some (.bool true),after:=args }=some (.bool (true == true)) from w_eq_bool (w_res rfl) w_lit) rfl
theorem n5 {l:OpenLaw} {n:Nat} {q:Program} {loose:List Str} {XP:(Str->Option Value)->Heap->Prop} {YP:World->Heap->Prop} {d:DefRec}
   (hn:l.most=some n) (hdf:d.params.defaults=[])
   (call:∀ (w:World) (s₀ s₁:Shared) (mg mb:Str->Option Value) (fa:Addr) (o:Obj) (pm cd doc:Value) (a:Addr) (vs:List Value) (ns:List Int),
     Ground q loose [] XP w s₀ mg mb s₁.heap->YP w s₁.heap ->
     s₁.heap.get? fa=some o->o.data=.func (docDef d.name d.params d.body d.scope pm cd doc)->s₁.heap.CodeRec cd d.name->mg d.name=some (.ref fa) ->
     s₁.heap.get? a=some { cls:=.type "list",data:=.seq vs.toArray }->IntsAre vs ns->ns.length<=n->s₁.gens=#[] ->
     codeAny (model l.prog w) callerA (.call (.ref fa) ⟨[.ref a],[]⟩) (λr s'=>r=.ok (.ret (.bool true))/\OldK s₁.heap s'.heap/\s'.os=s₁.os/\AllBare s'.gens) s₁) :
   WalkO q loose XP YP l.row.toRowW d [] (λf vs=>PySem.call f vs):=by
 intro w s₀ s₁ mg mb G Y fa o pm cd doc dV kV ho hd hcd hD hmg hg args vals as hpre hlay hrd hwl hlo
 obtain rfl:dV=.none:=Dflts.none hD hdf
 obtain rfl:kV=.none:=Dflts.noKw hD
 obtain ⟨a,vs,ns,rfl,rfl,hobj,hints,hlen⟩:=tQ hn hpre hwl
 refine enter_call (codeAny_mono (call w s₀ s₁ mg mb fa o pm cd doc a vs ns G Y ho (fd_plain hd) hcd hmg hobj hints hlen hg) λr s' hq=>?_)
 obtain ⟨rfl,h2,h3,h4⟩:=hq
 exact ⟨.inl ⟨.bool true,.bool true,[],rfl,λ_=>rfl,.bool true,tW l _,λ_=>⟨List.Pairwise.nil,λ_ hm=>(nomatch hm)⟩⟩,h2,h3,h4⟩
section
variable {prog:Program} {w:World} {A:Around} {E:Value->Shared->Prop} {s:Shared} {K:Frag}
end
end Att
namespace L2
open PySem PySem.Spec PyProof.Rows
theorem dC:∀ {vs:List Value} {ns:List Int},IntsAre vs ns->Vals (ns.map V.int) vs
 | _,_,.nil=>.nil
 | _,_,.cons n t h=>.cons ⟨t,rfl⟩ (dC h)
noncomputable def Bw (H:Hp):Prop:=∀ b,H b=none\/∃ o xs,H b=some (.frz o (.lst xs))
theorem vc {P:Program} {w:World} {K:Ej} {mg mb:Str->Option Value} {CX:CXT} {k:Nat} {fa a:Addr} {fd:FuncData} {x:Str} {sp:Sp} {s₁:Shared} {vs:List Value} {ns:List Int}
   (KX:K.In s₁.heap) (hns:s₁.heap.Ns mainGlobals mg) (hb:s₁.heap.Ns builtinsNs mb) (hbb:∀ x:Str,x ≠ "__name__" -> mb x=bootBuiltins x) (hlim:s₁.heap.NoLimit) (hg:s₁.gens=#[])
   (ha:s₁.heap.get? a=some { cls:=.type "list",data:=.seq vs.toArray }) (hi:IntsAre vs ns) (hl:ns.length<=sizeLine) (hr:eS k callerA)
   (F:∀ base:Heap,K.In base->base.Ns mainGlobals mg->aS P w K mg base CX k fa fd [x] sp) (hbind:∀ (s:Shared) (u:Value),BindsTo s fd ⟨[u],[]⟩ [(x,u)])
   (hsp:∀ H:Hp,Bw H->SqL K H a (ns.map V.int)->sp [.ref a] H (λv _=>v=.bl true) λ_ _ _=>False)
   (hCX:∀ H e s',CX [] H s₁ (λ_ _ _=>False) e s'->False) :
   codeAny (model P w) callerA (.call (.ref fa) ⟨[.ref a],[]⟩) (λr s'=>r=.ok (.ret (.bool true))/\OldK s₁.heap s'.heap/\s'.os=s₁.os/\AllBare s'.gens) s₁:=by
 have rv:=dC hi
 have lenV:=hi.length
 have core:∀ H:Hp,Bw H->SqL K H a (ns.map V.int)->HOk P w H s₁.heap->(∀ b,H b ≠ none->b=a)->(H a ≠ none->K.lookup a=none) ->
     codeAny (model P w) callerA (.call (.ref fa) ⟨[.ref a],[]⟩) (λr s'=>r=.ok (.ret (.bool true))/\OldK s₁.heap s'.heap/\s'.os=s₁.os/\AllBare s'.gens) s₁:=by
   intro H hO hS hok hA hK
   have base_of:∀ {b:Addr} {o:Obj},s₁.heap.get? b=some o->H b=none->(nq s₁.heap H).get? b=some o:=λe n=>wK e n
   have noA:∀ {b:Addr} {o:Obj} {es:Array DictEntry} {ep:Nat},s₁.heap.get? b=some o->o.data=.dict es ep->H b=none:=λ{b o es ep} e d=>by
     cases q:H b with
     | none=>rfl
     | some u=>
       have e':b=a:=hA b (by rw [q]; simp)
       subst e'
       rw [ha] at e; cases e
       have d':Data.seq vs.toArray _=Data.dict es ep:=d
       cases d'
   have nsK:∀ {b:Addr} {m:Str->Option Value},s₁.heap.Ns b m->(nq s₁.heap H).Ns b m:=λ{b m} ⟨o,es,ep,e,d,r⟩=>⟨o,es,ep,base_of e (noA e d),d,r⟩
   have hKb:K.In (nq s₁.heap H):=λb o e=>base_of (KX b o e) (by
     cases q:H b with
     | none=>rfl
     | some u=>
       have e':b=a:=hA b (by rw [q]; simp)
       subst e'
       rw [hK (by rw [q]; simp)] at e; cases e)
   have hM:Mod K mg (nq s₁.heap H):=⟨hKb,nsK hns,⟨mb,nsK hb,hbb⟩,let ⟨mc,h1,h2⟩:=hlim; ⟨mc,nsK h1,h2⟩⟩
   have e0:za P w K mg (nq s₁.heap H) callerA [] s₁ H:=⟨rfl,hM,λb o e=>xV e,Nat.le_of_eq (t5 _ _),trivial,λb hb=>absurd (show b ∈ ([]:List Addr) from hb) (by simp),hok,.of_eq hg⟩
   refine codeAny_mono ((F _ hKb (nsK hns)).run callerA [] s₁ H ⟨[.ref a],[]⟩ [.ref a] [.ref a] _ _ hr e0 (hbind s₁ (.ref a)) (.cons rfl .nil) (hsp H hO hS)) λr s' h=>?_
   cases r with
   | error e=>exact (hCX H e s' h).elim
   | ok fl=>
     cases fl with
     | next=>exact GU h
     | brk=>exact GU h
     | cont=>exact GU h
     | ret u=>
       obtain ⟨v,H',os,bare,un,hok',r',q⟩:=h
       have q':v=.bl true:=q
       subst q'
       obtain rfl:u=FX true:=r'
       refine ⟨rfl,OldK.of_keep λb o e=>?_,os,bare⟩
       cases q:H b with
       | none=>exact un.keep b o e q (by intro z; exact absurd (show b ∈ ([]:List Addr) from z) (by simp)) (by simp)
       | some u=>
         rcases hO b with z | ⟨ob,xs,z⟩
         · rw [q] at z; cases z
         · have z2:=un.frzs b ob _ z
           obtain ⟨e1,_⟩:=hok b _ z
           obtain ⟨e2,_⟩:=hok' b _ z2
           rw [e] at e1; cases e1
           exact e2
 cases hk:K.lookup a with
 | some o=>
   have e:=KX a o hk
   rw [ha] at e
   cases e
   refine core (λ_=>none) (λ_=>.inl rfl) (.inr ⟨_,vs.toArray,_,hk,rfl,rfl,rfl,by rw [EA,lenV]; exact hl,by simpa using rv⟩) (λb u z=>by have z':(none:Option HO)=some u:=z; cases z') (λb z=>absurd rfl z) λz=>absurd rfl z
 | none=>
   refine core (λb=>if b=a then some (.frz { cls:=.type "list",data:=.seq vs.toArray } (.lst (ns.map V.int))) else none) (λb=>?_) (.inl (.inr ⟨{ cls:=.type "list",data:=.seq vs.toArray },if_pos rfl⟩)) (λb u z=>?_) (λb z=>?_) λ_=>hk
   · by_cases hb:b=a
     · exact .inr ⟨_,_,if_pos hb⟩
     · exact .inl (if_neg hb)
   · by_cases hb:b=a
     · have z':=(if_pos hb).symm.trans z
       cases z'
       subst hb
       exact ⟨ha,by rw [Ei]; exact hl,vs,_,rv,ha⟩
     · have z':=(if_neg hb).symm.trans z
       cases z'
   · by_cases hb:b=a
     · exact hb
     · exact absurd (if_neg hb) z
theorem yV {l:Jj} {n k:Nat} {q:Program} {loose:List Str} {XP:(Str->Option Value)->Heap->Prop} {YP:World->Heap->Prop} {d:DefRec} {K:Params->Ej} {CX:World->CXT} {sp:World->Sp} {x:Str}
   (hn:l.most=some n) (hn2:n<=sizeLine) (hdf:d.params.defaults=[]) (hr:eS k callerA)
   (hY:∀ (w:World) (h:Heap),YP w h->(K w.params).In h)
   (F:∀ (w:World) (mg:Str->Option Value) (fa:Addr) (h:Heap),(K w.params).In h->h.Ns mainGlobals mg->mg d.name=some (.ref fa) ->
     ∃ fd:FuncData,(∀ (s:Shared) (u:Value),BindsTo s fd ⟨[u],[]⟩ [(x,u)]) /\
       ∀ base:Heap,(K w.params).In base->base.Ns mainGlobals mg->aS l.prog w (K w.params) mg base (CX w) k fa fd [x] (sp w))
   (hsp:∀ (w:World) (H:Hp) (a:Addr) (ns:List Int),ns.length<=n->Bw H->SqL (K w.params) H a (ns.map V.int)->sp w [.ref a] H (λv _=>v=.bl true) λ_ _ _=>False)
   (hCX:∀ (w:World) (H:Hp) (s:Shared) (e:Value) (s':Shared),CX w [] H s (λ_ _ _=>False) e s'->False) :
   PySem.W.WalkO q loose XP YP l.row.toRowW d [] (λf vs=>PySem.call f vs):=by
 refine Att.n5 hn hdf λw s₀ s₁ mg mb fa o pm cd doc a vs ns G Y ho hd hcd hmg hobj hints hlen hg=>?_
 have KX:=hY w _ Y
 obtain ⟨fd,hb,hF⟩:=F w mg fa _ KX G.T.g hmg
 exact vc KX G.T.g G.T.b G.T.builtins G.T.nolimit hg hobj hints (EH hlen hn2) hr hF hb (λH hO hS=>hsp w H a ns hlen hO hS) λH e s'=>hCX w H s₁ e s'
noncomputable def bZ (s:Stmt):Arguments:=match s with
 | .FunctionDef _ a _ _ _ _ _ _ _ _=>a
 | _=>{ posonlyargs:=[],args:=[],vararg:=none,kwonlyargs:=[],kw_defaults:=[],kwarg:=none,defaults:=[] }
noncomputable def bD (s:Stmt):List Stmt:=match s with
 | .FunctionDef _ _ b _ _ _ _ _ _ _=>b
 | _=>[]
noncomputable def ah (s:Stmt):Scope:=match s with
 | .FunctionDef _ _ _ _ _ _ sc _ _ _=>sc
 | _=>{ kind:=.function,names:=[],isGenerator:=false,isCoroutine:=false }
noncomputable abbrev CX0:CXT:=λ_ _ _ _ _ _=>False
noncomputable abbrev E0:XK:=λ_ _ _=>False
theorem zO {X:Cx}:Passes CX0 X E0:=λ_ _ _ _ _ _ _ h=>h.elim
structure Fun (K:Ej) (x qual:Str) (st:Stmt) (f:Addr) (fd:FuncData):Prop where
 ex:∃ (oc:Value) (od:Option Addr) (dV kV doc pm:Value) (an:Option Addr) (cdv ct:Value) (osl:Array (Option Value)),
   fd=FV x qual (bZ st) (bD st) (ah st) dV kV doc pm an cdv ct/\K.lookup f=some ⟨oc,od,.func fd,osl⟩/\GC K cdv qual=true
 kp:FU K (.ref f)=true
section
variable {P:Program} {w:World} {K:Ej} {mg:Str->Option Value} {base:Heap}
theorem Fun.ok {x qual:Str} {st:Stmt} {f:Addr} {fd:FuncData} {N ps:List Str} {k:Nat} {sp:Sp} (F:Fun K x qual st f fd) (S:au N ps (ah st)) (len:∀ vs H Q E,sp vs H Q E->vs.length=ps.length)
   (hbody:∀ (cdv:Value) (A:Around) (outer:List Env) (s:Shared) (H:Hp) (vs:List V) (Q:VK) (E:XK),eS k (A.deeper (envOfC qual (ah st) s.heap.objs.size f cdv))->sp vs H Q E ->
     ∃ t,PSs (qK CX0 P w K mg base N qual (ah st) f cdv A outer s H E).nox (bD st) t/\t { nx:=λ_ H'=>Q .non H',rt:=Q } (start N vs) H):aS P w K mg base CX0 (k + 1) f fd ps sp:=by
 obtain ⟨oc,od,dV,kV,doc,pm,an,cdv,ct,osl,rfl,lk,hcd⟩:=F.ex
 refine CS lk hcd S len λA outer s H vs Q E hr hsp=>?_
 obtain ⟨t,h,q⟩:=hbody cdv A outer s H vs Q E hr hsp
 exact ⟨t,h.nox,q⟩
theorem Fun.binds {x qual:Str} {st:Stmt} {f:Addr} {fd:FuncData} {ps:List Str} (_:Fun K x qual st f fd) (h:∀ us:List Value,us.length=ps.length->bindArgs fd ⟨us,[]⟩=pure (ps.zip us)):Binds K fd ps []:=.all h
theorem qD {x qual:Str} {st:Stmt} {f:Addr} {oc:Value} {od an:Option Addr} {osl:Array (Option Value)} {dV kV doc pm cdv ct:Value} (l:K.lookup f=some ⟨oc,od,.func (FV x qual (bZ st) (bD st) (ah st) dV kV doc pm an cdv ct),osl⟩)
   (c:GC K cdv qual=true) (k:FU K (.ref f)=true):Fun K x qual st f (FV x qual (bZ st) (bD st) (ah st) dV kV doc pm an cdv ct):=⟨⟨oc,od,dV,kV,doc,pm,an,cdv,ct,osl,rfl,l,c⟩,k⟩
end
theorem lO {n:Nat} (h:n<=1000):n < sizeLine:=EV h (by decide)
section
variable {X:Cx}
end
theorem t9 {A B:Prop} (h:B):if false=true then A else B:=by
 rw [if_neg Eu]
 exact h
theorem q9 {A B:Prop} (h:A):if true=true then A else B:=by
 rw [if_pos rfl]
 exact h
noncomputable def aq (H H':Hp):Prop:=∀ b o,H b=some o->H' b=some o
theorem aq.refl (H:Hp):aq H H:=λ_ _ h=>h
theorem aq.trans {H H1 H2:Hp} (a:aq H H1) (b:aq H1 H2):aq H H2:=λc o h=>b c o (a c o h)
theorem aq.free {H H':Hp} (e:aq H H') {l:Addr} (h:H' l=Option.none):H l=Option.none:=by
 cases q:H l with
 | none=>rfl
 | some o=>
   rw [e l o q] at h
   cases h
theorem aq.seq {K:Ej} {H H':Hp} {a:Addr} {xs:List V} (e:aq H H') (h:SqL K H a xs):SqL K H' a xs:=by
 rcases h with (h | ⟨o,h⟩) | h
 · exact .inl (.inl (e _ _ h))
 · exact .inl (.inr ⟨o,e _ _ h⟩)
 · exact .inr h
end L2
set_option linter.all false
set_option maxRecDepth 100000
namespace Hx
open PySem PySem.Spec PyProof.Rows
section
variable {M:Model} {A:Around} {E:Value->Shared->Prop} {s:Shared}
end
end Hx
namespace Hx
open PySem PySem.Spec PySem.Calls PyProof.Rows PySem.W
section
variable {prog:Program} {w:World} {A:Around} {E:Value->Shared->Prop} {s:Shared} {K:Frag} {x D:Addr} {ox:Obj}
end
end Hx
namespace Hx
open PySem PySem.Spec PySem.Calls PyProof.Rows PySem.W L2
section
variable {X:Cx} {x:Str} {C S:Addr} {np cpos pos:Pos} {e:Expr} {es:List Expr} {t:TA}
end
section
variable {fs fs' ch:List Addr} {H H1:Hp} {h h1 h2:Heap} {old:Addr->Prop} {P:Program} {w:World} {a:Addr}
end
theorem there {P:Program} {w:World} {H:Hp} {h:Heap} {a:Addr} {o:HO} (x:bh P w H h a o):∃ u,h.get? a=some u:=by
 cases o with
 | lst xs=>obtain ⟨_,_,_,_,e⟩:=x; exact ⟨_,e⟩
 | tup xs=>obtain ⟨_,_,_,o,e,_⟩:=x; exact ⟨_,e⟩
 | dK kvs=>obtain ⟨_,_,_,_,o,_,_,e,_⟩:=x; exact ⟨_,e⟩
 | dT kvs=>obtain ⟨_,_,_,_,o,_,_,e,_⟩:=x; exact ⟨_,e⟩
 | set S n=>obtain ⟨o,_,_,_,e,_⟩:=x; exact ⟨_,e⟩
 | ins C dx fs=>obtain ⟨_,_,_,e,_⟩:=x; exact ⟨_,e⟩
 | own y=>exact x
 | xd fs=>obtain ⟨_,⟨o,_,_,e,_⟩,_⟩:=x; exact ⟨_,e⟩
 | met f y=>exact ⟨_,x⟩
 | rng lo hi=>obtain ⟨_,_,_,e⟩:=x; exact ⟨_,e⟩
 | frz o u=>exact ⟨_,x.1⟩
 | tbl ps=>exact ⟨_,x⟩
 | ext φ=>exact x.2.1
section
variable {P:Program} {w:World} {K:Frag} {mg:Str->Option Value} {base:Heap} {N:List Str} {qual:Str} {scope:Scope} {f:Addr} {cd:Value} {A:Around} {outer:List Env} {s0:Shared} {H0:Hp} {E:XK} {cl:Nat->Addr}
end
section
variable {X:Cx} {pins:List (Addr × Obj)} {σ:L2.St} {H:Hp} {s:Shared} {a:Addr}
noncomputable abbrev XP (X:Cx) (pins:List (Addr × Obj)) (E:Value->Shared->Prop):Cx:={ X with pn:=X.pn++pins,xe:=E }
end
section
variable {X:Cx} {cl:Nat->Addr} {ks:List Nat} {n sm:Str} {i:Nat} {S:Addr} {ret:Expr} {psm pr ph pos:Pos} {body:List Stmt} {tb:(Nat->Hp->Prop)->TS} {tr:Addr->Obj->TE}
end
end Hx
namespace Ev
open PySem PySem.Spec PyProof.Rows L2
structure Bx where
 p:Ej->Hp->Addr->Prop
 mono:∀ {K:Ej} {H H':Hp} {a:Addr},aq H H'->p K H a->p K H' a
 isd:∀ {K:Ej} {H:Hp} {a:Addr},p K H a->∃ o:HO,H a=some o/\∀ (P:Program) (w:World) (H':Hp) (h:Heap),bh P w H' h a o->∃ ob,h.get? a=some ob/\ob.cls=.type "dict"
inductive D where
 | non | bl (b:Bool) | int (i:Int) | str (x:Str) | tup (xs:List D) | lst (xs:List D) | box (x:Bx)
noncomputable instance:Inhabited D:=⟨.non⟩
mutual
inductive Den (K:Ej) (H:Hp):V->D->Prop where
 | non:Den K H .non .non
 | bl {b:Bool}:Den K H (.bl b) (.bl b)
 | int {i:Int}:Den K H (.int i) (.int i)
 | str {x:Str}:Den K H (.str x) (.str x)
 | tup {a:Addr} {vs:List V} {ds:List D} (h:SqT K H a vs) (r:ax K H vs ds):Den K H (.ref a) (.tup ds)
 | lst {a:Addr} {vs:List V} {ds:List D} (h:SqL K H a vs) (r:ax K H vs ds):Den K H (.ref a) (.lst ds)
 | box {a:Addr} {x:Bx} (h:x.p K H a):Den K H (.ref a) (.box x)
inductive ax (K:Ej) (H:Hp):List V->List D->Prop where
 | nil:ax K H [] []
 | cons {v:V} {d:D} {vs:List V} {ds:List D} (h:Den K H v d) (r:ax K H vs ds):ax K H (v :: vs) (d :: ds)
end
section
variable {K:Ej} {H H':Hp}
theorem aX (e:aq H H') {a:Addr} {xs:List V} (h:SqT K H a xs):SqT K H' a xs:=by
 rcases h with (h | ⟨o,h⟩) | h
 · exact .inl (.inl (e _ _ h))
 · exact .inl (.inr ⟨o,e _ _ h⟩)
 · exact .inr h
theorem aI (e:aq H H') {a:Addr} {xs:List V} (h:SqL K H a xs):SqL K H' a xs:=e.seq h
mutual
theorem Den.mono (e:aq H H'):∀ {v:V} {d:D},Den K H v d->Den K H' v d
 | _,_,.non=>.non
 | _,_,.bl=>.bl
 | _,_,.int=>.int
 | _,_,.str=>.str
 | _,_,.tup h r=>.tup (aX e h) (ax.mono e r)
 | _,_,.lst h r=>.lst (aI e h) (ax.mono e r)
 | _,_,.box (x:=x) h=>.box (x.mono e h)
theorem ax.mono (e:aq H H'):∀ {vs:List V} {ds:List D},ax K H vs ds->ax K H' vs ds
 | _,_,.nil=>.nil
 | _,_,.cons h r=>.cons (Den.mono e h) (ax.mono e r)
end
theorem ax.length:∀ {vs:List V} {ds:List D},ax K H vs ds->vs.length=ds.length
 | _,_,.nil=>rfl
 | _,_,.cons _ r=>congrArg (· + 1) r.length
theorem ax.get:∀ {vs:List V} {ds:List D} {i:Nat} {d:D},ax K H vs ds->ds[i]?=some d->∃ v,vs[i]?=some v/\Den K H v d
 | _,_,_,_,.nil,e=>by simp at e
 | _,_,0,_,.cons h _,e=>by simp at e; subst e; exact ⟨_,rfl,h⟩
 | _,_,i + 1,d,.cons _ r,e=>by
   obtain ⟨v,h1,h2⟩:=ax.get (i:=i) (d:=d) r (by simpa using e)
   exact ⟨v,by simpa using h1,h2⟩
theorem ax.append:∀ {xs ys:List V} {ds es:List D},ax K H xs ds->ax K H ys es->ax K H (xs++ys) (ds++es)
 | _,_,_,_,.nil,s=>s
 | _,_,_,_,.cons h r,s=>.cons h (ax.append r s)
theorem ax.take:∀ {xs:List V} {ds:List D} (n:Nat),ax K H xs ds->ax K H (xs.take n) (ds.take n)
 | _,_,0,_=>.nil
 | _,_,_ + 1,.nil=>.nil
 | _,_,n + 1,.cons h r=>.cons h (ax.take n r)
theorem ax.drop:∀ {xs:List V} {ds:List D} (n:Nat),ax K H xs ds->ax K H (xs.drop n) (ds.drop n)
 | _,_,0,r=>r
 | _,_,_ + 1,.nil=>.nil
 | _,_,n + 1,.cons _ r=>ax.drop n r
end
noncomputable def aJ (i j:Int):Prop:=i.natAbs.log2 < 64\/j.natAbs.log2 < 64\/(i.natAbs.log2 < 1000000/\j.natAbs.log2 < 1000000)
noncomputable def aH (j:Int):Prop:=j ≠ 0/\j.natAbs.log2 < 9000
theorem aw {H:Hp} {p:Addr} (h:H p=none) (o:HO):aq H (upd H p o):=λb u q=>by rw [aD (aP q h)]; exact q
noncomputable def Ite (K:Ej) (a:Addr):L2.It:=
 ⟨λi H=>∃ xs x,SqL K H a xs/\xs[i]?=some x,λi H v H'=>∃ p x,H p=none/\v=.ref p/\H'=upd H p (.tup [.int (i:Nat),x])/\∀ xs,SqL K H a xs->xs[i]?=some x,λi H=>∃ xs,SqL K H a xs/\xs.length<=i⟩
theorem uE {P:Program} {w:World} {K:Ej} {ts:List Expr} {q:Nat} {tp:Pos} (a e it:Addr) (hne:e ≠ it) :
   Turn P w K false (.Tuple ts q tp) (Ite K a) [e,it] e (λi h=>(∃ old,IsEnum h e it (i:Nat) old)/\h.IsListIter it a i) where
 mem:=by simp
 obj:=λi h st b hb=>by
   obtain ⟨⟨old,h1⟩,o,h2,h3,h4⟩:=st
   rcases EE.mp hb with rfl | hb
   · exact ⟨_,h1,λv z=>nomatch z⟩
   · have z:b=it:=by simpa using hb
     subst z
     exact ⟨o,h2,λv z=>by rw [h4] at z; cases z⟩
 keep:=λi h h' st k=>by
   obtain ⟨⟨old,h1⟩,o,h2,h3,h4⟩:=st
   exact ⟨⟨old,k e (by simp) _ h1⟩,o,k it (by simp) o h2,h3,h4⟩
 item:=by
   intro X hP hw hK hc i pins s σ H E I hf st hg
   subst hP hw hK
   obtain ⟨xs,x,hq,hx⟩:=hg
   obtain ⟨its,rv,p,hz⟩:=I.list hq
   obtain ⟨u,hu,ru⟩:=rv.get hx
   obtain ⟨⟨old,h1⟩,h2⟩:=st
   have fe:=hf e (by simp)
   have fi:=hf it (by simp)
   refine wpAny_pyNext_enum_item h1 h2 p.isList (x:=u) (by simpa using hu) hne λh' g1 g2 g3 g4 g5=>⟨_,rfl,?_⟩
   refine wpAny_letOwnedTupleGo_enum (s:={ s with heap:=h',toks:=s.toks + 1 }) g1 λh2' k1 k2=>?_
   have hn:H s.heap.objs.size=none:=I.hok.fresh (Ek _)
   have le1:e < s.heap.objs.size:=Ez h1
   have le2:it < s.heap.objs.size:=by obtain ⟨o,z,_⟩:=h2; exact Ez z
   have kp:∀ b o,b ≠ e->b ≠ it->s.heap.get? b=some o->h2'.get? b=some o:=λb o b1 b2 z=>(k2.2 b b1).trans (g5 b o b1 b2 z)
   have nt:h2'.get? s.heap.objs.size=some { cls:=.type "tuple",data:=.seq #[.int (i:Nat) s.toks,u] }:=(k2.2 _ (Iy le1)).trans g3
   have ne1:∀ b v,H b=some v->b ≠ e:=λb v z q=>by rw [q,fe.1] at z; cases z
   have ne2:∀ b v,H b=some v->b ≠ it:=λb v z q=>by rw [q,fi.1] at z; cases z
   have hok0:HOk X.prog X.w H h2':=λb v z=>(I.hok b v z).jI (λc v' hc' q=>kp c v' (by
       rcases hc' with hc' | hc'
       · rw [hc']; exact ne1 b v z
       · exact ne1 c _ hc') (by
       rcases hc' with hc' | hc'
       · rw [hc']; exact ne2 b v z
       · exact ne2 c _ hc') q) (λ_ q=>q) λ_ _ q=>q
   have hok1:HOk X.prog X.w (upd H s.heap.objs.size (.tup [.int (i:Nat),x])) h2':=λb v z=>by
     by_cases hb:b=s.heap.objs.size
     · subst hb
       rw [aE] at z; cases z
       exact ⟨(by show 2<=sizeLine; decide),[.int (i:Nat) s.toks,u],.cons ⟨_,rfl⟩ (.cons ru .nil),_,nt,rfl,_,rfl⟩
     · rw [aD hb] at z
       exact (hok0 b v z).jI (λc v' _ q=>q) (λc q=>by rw [aD (aP q hn)]; exact q) λc ys q=>by rw [aD (aP q hn)]; exact q
   have I1:Inv X pins σ (upd H s.heap.objs.size (.tup [.int (i:Nat),x])) { s with heap:=h2',toks:=s.toks + 1 }:=by
     refine I.step (g':=s.gens) (d':=s.drawn) (ch:=[e,it]) (λb hb=>?_) (λb o _ _ hc' z _=>kp b o (λq=>hc' (by simp [q])) (λq=>hc' (by simp [q])) z)
       (λb o _ _ hc' z _=>⟨o.slots,kp b o (λq=>hc' (by simp [q])) (λq=>hc' (by simp [q])) z⟩)
       (λb o hc' z n=>by rw [aD (ES (Ez z))]; exact n) (λb o hc' z=>⟨o,kp b o (λq=>hc' (by simp [q])) (λq=>hc' (by simp [q])) z⟩)
       (λb ys z=>by rw [aD (aP z hn)]; exact z) (λb o u z=>by rw [aD (aP z hn)]; exact z) (λb ps z=>⟨#[],by rw [aD (aP z hn),z]; simp⟩) (λm hm=>?_) hok1 I.bare
     · rcases EE.mp hb with rfl | hb
       · exact ⟨fe.2.2.2.1,fe.2.1,fe.2.2.2.2.1,fe.2.2.2.2.2⟩
       · have z:b=it:=by simpa using hb
         subst z
         exact ⟨fi.2.2.2.1,fi.2.1,fi.2.2.2.2.1,fi.2.2.2.2.2⟩
     · obtain ⟨o,es,ep,ho,r⟩:=hm
       exact ⟨o,es,ep,kp _ o (FE fe.2.1) (FE fi.2.1) ho,r⟩
   refine ⟨.ref s.heap.objs.size,_,I1,rfl,⟨s.heap.objs.size,x,hn,rfl,rfl,λys hy=>by rw [I.fG hy hq]; exact hx⟩,⟨⟨_,k1⟩,?_⟩,λb hb=>?_⟩
   · obtain ⟨o,z1,z2,z3⟩:=g2
     exact ⟨o,(k2.2 it (FE hne)).trans z1,z2,z3⟩
   · rcases EE.mp hb with rfl | hb
     · rw [aD (ES le1)]; exact fe.1
     · have z:b=it:=by simpa using hb
       subst z
       rw [aD (ES le2)]; exact fi.1
 done:=by
   intro X hP hw hK hc i pins s σ H E I hf st hg
   subst hP hw hK
   obtain ⟨xs,hq,hx⟩:=hg
   obtain ⟨its,rv,p,hz⟩:=I.list hq
   obtain ⟨⟨old,h1⟩,h2⟩:=st
   obtain ⟨f0,f1,f2,f3,f4,f5⟩:=hf it (by simp)
   have hl:=rv.length
   exact wpAny_pyNext_enum_end (I.ok.hd hc.calm) h1 h2 p.isList (by simp; omega) λh' eb=>⟨rfl,I.turned (t':=s.toks) (λb o hb z=>eb b o hb z) f0 f1 f3 f4 f5⟩
 self:=λ_ _ _ _ _ st h=>by
   obtain ⟨⟨old,h1⟩,_⟩:=st
   exact wpAny_pyIter_enum h1 h
section
variable {X:Cx}
noncomputable def CC (K:Ej) (ta:TA):TI:=λσ H R=>ta σ H λvs H1=>∃ a,vs=[.ref a]/\(∃ xs,SqL K H1 a xs)/\R (Ite K a) H1
theorem tN:bootBuiltins "enumerate" = some (.type "enumerate"):=by decide +kernel
theorem rW {ts:List Expr} {q:Nat} {tp:Pos} {a:Expr} {ta:TA} {p pos:Pos} (hc:X.calm=true) (hg:Gl X "enumerate") (hm:X.mg "enumerate" = none) (ha:PA X [a] ta) (hs:starEach [a] X.env=[(false,eval a X.env)]) :
   PI X (.Tuple ts q tp) (.Call (.Name "enumerate" p) [a] [] pos) (CC X.K ta):=by
 intro pins s σ H R I h
 refine Call_ (cx I hg hm tN (EZ (thn (ha pos pins s σ H _ I h) λus s1 ⟨vs,H1,I1,r1,q1⟩=>?_) hs rfl))
 obtain ⟨l,e,⟨xs,hq⟩,q⟩:=q1
 subst e
 obtain ⟨u,rfl,ru⟩:=vals1 r1
 cases ru
 obtain ⟨its,rv,pl,hz⟩:=I1.list hq
 refine call_enumerate_list pl.isList λh' g1 g2 g3 g4=>?_
 refine wpAny_pyIter_enum (s:={ s1 with heap:=h' }) g1 ?_
 have I2:Inv X pins σ H1 { s1 with heap:=h' }:=I1.kept (t':=s1.toks) g4
 have n1:H1 (s1.heap.objs.size + 1)=none:=I1.hok.fresh (by omega)
 have n2:H1 s1.heap.objs.size=none:=I1.hok.fresh (Ek _)
 refine ⟨false,s1.heap.objs.size + 1,[s1.heap.objs.size + 1,s1.heap.objs.size],_,_,H1,rfl,I2,.inl hc,uE l (s1.heap.objs.size + 1) s1.heap.objs.size (Js _),⟨⟨_,g1⟩,g2⟩,λb hb=>?_,q⟩
 rcases EE.mp hb with rfl | hb
 · exact I1.kX (by omega) n1
 · have z:b=s1.heap.objs.size:=by simpa using hb
   subst z
   exact I1.kX (Ek _) n2
end
noncomputable def Itz (K:Ej) (a b:Addr):L2.It:=
 ⟨λi H=>∃ xs ys x y,SqL K H a xs/\SqL K H b ys/\xs[i]?=some x/\ys[i]?=some y,
  λi H v H'=>∃ p x y,H p=none/\v=.ref p/\H'=upd H p (.tup [x,y])/\(∀ xs,SqL K H a xs->xs[i]?=some x)/\∀ ys,SqL K H b ys->ys[i]?=some y,
  λi H=>∃ xs ys,SqL K H a xs/\SqL K H b ys/\(xs.length<=i\/ys.length<=i)⟩
noncomputable def zSt (a b z TI TO i1 i2:Addr) (i:Nat) (h:Heap):Prop:=
 IsZip h z TI TO .none/\IsPair h TI (.ref i1) (.ref i2)/\(∃ u v,IsPair h TO u v)/\h.IsListIter i1 a i/\h.IsListIter i2 b i
theorem lM {h:Heap} {a b z TI TO i1 i2:Addr} {i:Nat} {xs ys:Array Value} (n:TI ≠ TO) (m:i1 ≠ i2) (s:zSt a b z TI TO i1 i2 i h) (l1:h.IsList a xs) (l2:h.IsList b ys):ZipApart z TI TO i1 i2 a b:=by
 obtain ⟨h1,h2,⟨u,v,h3⟩,⟨o4,h4,c4,d4⟩,⟨o5,h5,c5,d5⟩⟩:=s
 obtain ⟨o6,h6,c6,n6,d6⟩:=l1
 obtain ⟨o7,h7,c7,n7,d7⟩:=l2
 have kk:∀ {x y:Addr} {o p:Obj},h.get? x=some o->h.get? y=some p->o.cls ≠ p.cls->x ≠ y:=λe1 e2 c q=>by subst q; rw [e1] at e2; cases e2; exact c rfl
 have cz:∀ {s t:String},s ≠ t->Gd s ≠ Gd t:=λn q=>n (by cases q; rfl)
 refine ⟨kk h2 h1 (cz (by decide)),kk h3 h1 (cz (by decide)),kk h4 h1 ?_,kk h5 h1 ?_,n,kk h2 h4 ?_,kk h2 h5 ?_,kk h3 h4 ?_,kk h3 h5 ?_,m,kk h6 h1 ?_,kk h6 h3 ?_,kk h6 h4 ?_,kk h6 h5 ?_,kk h7 h1 ?_,kk h7 h3 ?_,kk h7 h4 ?_,kk h7 h5 ?_⟩
 all_goals first | (rw [c4]; exact cz (by decide)) | (rw [c5]; exact cz (by decide)) | (rw [c6]; exact cz (by decide)) | (rw [c7]; exact cz (by decide)) | (rw [c6,c4]; exact cz (by decide)) | (rw [c6,c5]; exact cz (by decide)) | (rw [c7,c4]; exact cz (by decide)) | (rw [c7,c5]; exact cz (by decide))
theorem vt {P:Program} {w:World} {K:Ej} {ts:List Expr} {q:Nat} {tp:Pos} (a b z TI TO i1 i2:Addr) (nT:TI ≠ TO) (nI:i1 ≠ i2) :
   Turn P w K false (.Tuple ts q tp) (Itz K a b) [z,TI,TO,i1,i2] z (zSt a b z TI TO i1 i2) where
 mem:=by simp
 obj:=λi h st c hb=>by
   obtain ⟨h1,h2,⟨u,v,h3⟩,⟨o4,h4,c4,d4⟩,⟨o5,h5,c5,d5⟩⟩:=st
   simp only [EE,FR,or_false] at hb
   rcases hb with rfl | rfl | rfl | rfl | rfl
   · exact ⟨_,h1,λv z=>nomatch z⟩
   · exact ⟨_,h2,λv z=>nomatch z⟩
   · exact ⟨_,h3,λv z=>nomatch z⟩
   · exact ⟨_,h4,λv z=>by rw [d4] at z; cases z⟩
   · exact ⟨_,h5,λv z=>by rw [d5] at z; cases z⟩
 keep:=λi h h' st k=>by
   obtain ⟨h1,h2,⟨u,v,h3⟩,⟨o4,h4,c4,d4⟩,⟨o5,h5,c5,d5⟩⟩:=st
   exact ⟨k z (by simp) _ h1,k TI (by simp) _ h2,⟨u,v,k TO (by simp) _ h3⟩,⟨o4,k i1 (by simp) _ h4,c4,d4⟩,⟨o5,k i2 (by simp) _ h5,c5,d5⟩⟩
 item:=by
   intro X hP hw hK hc i pins s σ H E I hf st hg
   subst hP hw hK
   obtain ⟨xs,ys,x,y,hq1,hq2,hx,hy⟩:=hg
   obtain ⟨its1,rv1,p1,hz1⟩:=I.list hq1
   obtain ⟨its2,rv2,p2,hz2⟩:=I.list hq2
   obtain ⟨u1,hu1,ru1⟩:=rv1.get hx
   obtain ⟨u2,hu2,ru2⟩:=rv2.get hy
   have D:=lM nT nI st p1.isList p2.isList
   obtain ⟨h1,h2,⟨u,v,h3⟩,h4,h5⟩:=st
   refine wpAny_pyNext_zip_item D h1 h2 h3 h4 h5 p1.isList p2.isList (x:=u1) (y:=u2) (by simpa using hu1) (by simpa using hu2) λh' g1 g2 g3 g4 g5 g6 g7=>⟨_,rfl,?_⟩
   refine wpAny_letOwnedTupleGo_zip (s:={ s with heap:=h' }) g1 λh2' k1 k2=>?_
   have hn:H s.heap.objs.size=none:=I.hok.fresh (Ek _)
   have le1:z < s.heap.objs.size:=Ez h1
   have lt2:TI < s.heap.objs.size:=Ez h2
   have lt3:TO < s.heap.objs.size:=Ez h3
   have lt4:i1 < s.heap.objs.size:=by obtain ⟨o,z,_⟩:=h4; exact Ez z
   have lt5:i2 < s.heap.objs.size:=by obtain ⟨o,z,_⟩:=h5; exact Ez z
   have kp:∀ c o,c ≠ z->c ≠ TO->c ≠ i1->c ≠ i2->s.heap.get? c=some o->h2'.get? c=some o:=λc o b1 b2 b3 b4 e=>(k2.2 c b1).trans (g7 c o b1 b2 b3 b4 e)
   have nt:IsPair h2' s.heap.objs.size u1 u2:=(k2.2 _ (Iy le1)).trans g5
   have ne:∀ c,c ∈ [z,TI,TO,i1,i2]->∀ d v,H d=some v->d ≠ c:=λc hc d v e q=>by
     have:=(hf c hc).1
     rw [q,this] at e; cases e
   have hok0:HOk X.prog X.w H h2':=λd v e=>(I.hok d v e).jI (λc v' hc' q=>kp c v'
       (by rcases hc' with hc' | hc'
           · rw [hc']; exact ne z (by simp) d v e
           · exact ne z (by simp) c _ hc')
       (by rcases hc' with hc' | hc'
           · rw [hc']; exact ne TO (by simp) d v e
           · exact ne TO (by simp) c _ hc')
       (by rcases hc' with hc' | hc'
           · rw [hc']; exact ne i1 (by simp) d v e
           · exact ne i1 (by simp) c _ hc')
       (by rcases hc' with hc' | hc'
           · rw [hc']; exact ne i2 (by simp) d v e
           · exact ne i2 (by simp) c _ hc') q) (λ_ q=>q) λ_ _ q=>q
   have hok1:HOk X.prog X.w (upd H s.heap.objs.size (.tup [x,y])) h2':=λd v e=>by
     by_cases hb:d=s.heap.objs.size
     · subst hb
       rw [aE] at e; cases e
       exact ⟨(by show 2<=sizeLine; decide),[u1,u2],.cons ru1 (.cons ru2 .nil),_,nt,rfl,_,rfl⟩
     · rw [aD hb] at e
       exact (hok0 d v e).jI (λc v' _ q=>q) (λc q=>by rw [aD (aP q hn)]; exact q) λc ys q=>by rw [aD (aP q hn)]; exact q
   have I1:Inv X pins σ (upd H s.heap.objs.size (.tup [x,y])) { s with heap:=h2' }:=by
     refine I.step (t':=s.toks) (g':=s.gens) (d':=s.drawn) (ch:=[z,TO,i1,i2]) (λc hb=>?_) (λc o _ _ hc' e _=>kp c o (λq=>hc' (by simp [q])) (λq=>hc' (by simp [q])) (λq=>hc' (by simp [q])) (λq=>hc' (by simp [q])) e)
       (λc o _ _ hc' e _=>⟨o.slots,kp c o (λq=>hc' (by simp [q])) (λq=>hc' (by simp [q])) (λq=>hc' (by simp [q])) (λq=>hc' (by simp [q])) e⟩)
       (λc o hc' e n=>by rw [aD (ES (Ez e))]; exact n) (λc o hc' e=>⟨o,kp c o (λq=>hc' (by simp [q])) (λq=>hc' (by simp [q])) (λq=>hc' (by simp [q])) (λq=>hc' (by simp [q])) e⟩)
       (λc ys e=>by rw [aD (aP e hn)]; exact e) (λc o u e=>by rw [aD (aP e hn)]; exact e) (λc ps e=>⟨#[],by rw [aD (aP e hn),e]; simp⟩) (λm hm=>?_) hok1 I.bare
     · have hb':c ∈ [z,TI,TO,i1,i2]:=by
         simp only [EE,FR,or_false] at hb ⊢
         rcases hb with h | h | h | h <;> simp [h]
       have fe:=hf c hb'
       exact ⟨fe.2.2.2.1,fe.2.1,fe.2.2.2.2.1,fe.2.2.2.2.2⟩
     · obtain ⟨o,es,ep,ho,r⟩:=hm
       exact ⟨o,es,ep,kp _ o (FE (hf z (by simp)).2.1) (FE (hf TO (by simp)).2.1) (FE (hf i1 (by simp)).2.1) (FE (hf i2 (by simp)).2.1) ho,r⟩
   refine ⟨.ref s.heap.objs.size,_,I1,rfl,⟨s.heap.objs.size,x,y,hn,rfl,rfl,λzs hy'=>by rw [I.fG hy' hq1]; exact hx,λzs hy'=>by rw [I.fG hy' hq2]; exact hy⟩,⟨k1,?_,⟨u1,u2,(k2.2 TO D.TOz).trans g2⟩,?_,?_⟩,λc hb=>?_⟩
   · exact kp TI _ D.TIz D.TITO D.TIi1 D.TIi2 h2
   · obtain ⟨o,z1,z2,z3⟩:=g3
     exact ⟨o,(k2.2 i1 D.i1z).trans z1,z2,z3⟩
   · obtain ⟨o,z1,z2,z3⟩:=g4
     exact ⟨o,(k2.2 i2 D.i2z).trans z1,z2,z3⟩
   · have fc:=(hf c hb).1
     have lt:c < s.heap.objs.size:=by
       simp only [EE,FR,or_false] at hb
       rcases hb with rfl | rfl | rfl | rfl | rfl <;> assumption
     rw [aD (ES lt)]
     exact fc
 done:=by
   intro X hP hw hK hc i pins s σ H E I hf st hg
   subst hP hw hK
   obtain ⟨xs,ys,hq1,hq2,hx⟩:=hg
   obtain ⟨its1,rv1,p1,hz1⟩:=I.list hq1
   obtain ⟨its2,rv2,p2,hz2⟩:=I.list hq2
   have D:=lM nT nI st p1.isList p2.isList
   obtain ⟨h1,h2,⟨u,v,h3⟩,h4,h5⟩:=st
   have hl1:=rv1.length
   have hl2:=rv2.length
   refine wpAny_pyNext_zip_end (I.ok.hd hc.calm) D h1 h2 h3 h4 h5 p1.isList p2.isList (by
     rcases hx with hx | hx
     · left; simp; omega
     · right; simp; omega) λh' eb=>⟨rfl,?_⟩
   have ne:∀ c,c ∈ [z,TI,TO,i1,i2]->∀ d v,H d=some v->d ≠ c:=λc hc d v e q=>by
     have:=(hf c hc).1
     rw [q,this] at e; cases e
   have hok0:HOk X.prog X.w H h':=λd v e=>(I.hok d v e).jI (λc v' hc' q=>eb c v'
       (by rcases hc' with hc' | hc'
           · rw [hc']; exact ne z (by simp) d v e
           · exact ne z (by simp) c _ hc')
       (by rcases hc' with hc' | hc'
           · rw [hc']; exact ne TO (by simp) d v e
           · exact ne TO (by simp) c _ hc')
       (by rcases hc' with hc' | hc'
           · rw [hc']; exact ne i1 (by simp) d v e
           · exact ne i1 (by simp) c _ hc')
       (by rcases hc' with hc' | hc'
           · rw [hc']; exact ne i2 (by simp) d v e
           · exact ne i2 (by simp) c _ hc') q) (λ_ q=>q) λ_ _ q=>q
   refine I.step (t':=s.toks) (g':=s.gens) (d':=s.drawn) (ch:=[z,TO,i1,i2]) (λc hb=>?_) (λc o _ _ hc' e _=>eb c o (λq=>hc' (by simp [q])) (λq=>hc' (by simp [q])) (λq=>hc' (by simp [q])) (λq=>hc' (by simp [q])) e)
       (λc o _ _ hc' e _=>⟨o.slots,eb c o (λq=>hc' (by simp [q])) (λq=>hc' (by simp [q])) (λq=>hc' (by simp [q])) (λq=>hc' (by simp [q])) e⟩)
       (λc o hc' e n=>n) (λc o hc' e=>⟨o,eb c o (λq=>hc' (by simp [q])) (λq=>hc' (by simp [q])) (λq=>hc' (by simp [q])) (λq=>hc' (by simp [q])) e⟩)
       (λc ys e=>e) (λc o u e=>e) (λc ps e=>⟨#[],by rw [e]; simp⟩) (λm hm=>?_) hok0 I.bare
   · have hb':c ∈ [z,TI,TO,i1,i2]:=by
       simp only [EE,FR,or_false] at hb ⊢
       rcases hb with h | h | h | h <;> simp [h]
     have fe:=hf c hb'
     exact ⟨fe.2.2.2.1,fe.2.1,fe.2.2.2.2.1,fe.2.2.2.2.2⟩
   · obtain ⟨o,es,ep,ho,r⟩:=hm
     exact ⟨o,es,ep,eb _ o (FE (hf z (by simp)).2.1) (FE (hf TO (by simp)).2.1) (FE (hf i1 (by simp)).2.1) (FE (hf i2 (by simp)).2.1) ho,r⟩
 self:=λ_ _ _ _ _ st h=>wpAny_pyIter_zip st.1 h
section
variable {X:Cx}
noncomputable def BR (K:Ej) (ta:TA):TI:=λσ H R=>ta σ H λvs H1=>∃ a b,vs=[.ref a,.ref b]/\(∃ xs,SqL K H1 a xs)/\(∃ ys,SqL K H1 b ys)/\R (Itz K a b) H1
theorem qR {ts:List Expr} {q:Nat} {tp:Pos} {a b:Expr} {ta:TA} {p pos:Pos} (hc:X.calm=true) (hg:Gl X "zip") (hm:X.mg "zip" = none) (ha:PA X [a,b] ta) (hs:starEach [a,b] X.env=(false,eval a X.env) :: starEach [b] X.env) (hs2:starEach [b] X.env=[(false,eval b X.env)]) :
   PI X (.Tuple ts q tp) (.Call (.Name "zip" p) [a,b] [] pos) (BR X.K ta):=by
 intro pins s σ H R I h
 refine Call_ (cx I hg hm boot_zip (EZ (thn (ha pos pins s σ H _ I h) λus s1 ⟨vs,H1,I1,r1,q1⟩=>?_) hs (by rw [hs2]; rfl)))
 obtain ⟨l,l',e,⟨xs,hq1⟩,⟨ys,hq2⟩,q⟩:=q1
 subst e
 obtain ⟨u,u',rfl,ru,ru'⟩:=vals2 r1
 cases ru
 cases ru'
 obtain ⟨its1,rv1,pl1,hz1⟩:=I1.list hq1
 obtain ⟨its2,rv2,pl2,hz2⟩:=I1.list hq2
 refine call_zip_2 pl1.isList pl2.isList λh' g1 g2 g3 g4 g5 g6 g7=>?_
 refine wpAny_pyIter_zip (s:={ s1 with heap:=h' }) g1 ?_
 have I2:Inv X pins σ H1 { s1 with heap:=h' }:=I1.kept (t':=s1.toks) g7
 have nn:∀ j,H1 (s1.heap.objs.size + j)=none:=λj=>I1.hok.fresh (by omega)
 refine ⟨false,s1.heap.objs.size + 4,[s1.heap.objs.size + 4,s1.heap.objs.size + 2,s1.heap.objs.size + 3,s1.heap.objs.size,s1.heap.objs.size + 1],_,_,H1,rfl,I2,.inl hc,vt l l' (s1.heap.objs.size + 4) (s1.heap.objs.size + 2) (s1.heap.objs.size + 3) s1.heap.objs.size (s1.heap.objs.size + 1) (by simp) (FE (Js _)),⟨g1,g2,⟨_,_,g3⟩,g4,g5⟩,λc hb=>?_,q⟩
 have hb':∃ j,c=s1.heap.objs.size + j:=by
   simp only [EE,FR,or_false] at hb
   rcases hb with h | h | h | h | h
   · exact ⟨_,h⟩
   · exact ⟨_,h⟩
   · exact ⟨_,h⟩
   · exact ⟨0,h⟩
   · exact ⟨_,h⟩
 obtain ⟨j,rfl⟩:=hb'
 exact I1.kX (Jv _ _) (nn j)
end
noncomputable def Itv (K:Ej) (a:Addr) (n:Nat):L2.It:=
 ⟨λi H=>i < n/\∃ xs x,SqL K H a xs/\xs[n - 1 - i]?=some x,λi H x H'=>H'=H/\∀ xs,SqL K H a xs->xs[n - 1 - i]?=some x,λi _=>n<=i⟩
theorem va {P:Program} {w:World} {K:Ej} {tg:Expr} (a it:Addr) (n:Nat) :
   Turn P w K false tg (Itv K a n) [it] it (λi h=>i<=n/\h.IsRevIter it a ((n:Int) - 1 - (i:Int))) where
 mem:=by simp
 obj:=λi h st b hb=>by
   have e:b=it:=by simpa using hb
   subst e
   obtain ⟨o,e,c,d⟩:=st.2
   exact ⟨o,e,λv z=>by rw [d] at z; cases z⟩
 keep:=λi h h' st k=>⟨st.1,st.2.at λo e=>k it (by simp) o e⟩
 item:=by
   intro X hP hw hK hc i pins s σ H E I hf st hg
   subst hP hw hK
   obtain ⟨hi,xs,x,hq,hx⟩:=hg
   obtain ⟨its,rv,p,hz⟩:=I.list hq
   obtain ⟨u,hu,ru⟩:=rv.get hx
   obtain ⟨f0,f1,f2,f3,f4,f5⟩:=hf it (by simp)
   have st2:=st.2
   rw [show (n:Int) - 1 - (i:Int)=((n - 1 - i:Nat):Int) by omega] at st2
   refine wpAny_pyNext_rev_item st2 p.isList (x:=u) (by simpa using hu) λh' st' sb=>?_
   have I1:Inv X pins σ H { s with heap:=h' }:=I.turned (t':=s.toks) (λb o hb e=>(sb.2 b hb).trans e) f0 f1 f3 f4 f5
   obtain ⟨o,e,c,d⟩:=id st'
   refine ⟨u,rfl,lN (s:={ s with heap:=h' }) e c d (by decide) ⟨x,H,I1,ru,⟨rfl,λys hy=>by rw [I.fG hy hq]; exact hx⟩,⟨hi,?_⟩,λb hb=>(hf b hb).1⟩⟩
   rw [show (n:Int) - 1 - ((i + 1:Nat):Int)=((n - 1 - i:Nat):Int) - 1 by omega]
   exact st'
 done:=by
   intro X hP hw hK hc i pins s σ H E I hf st hg
   subst hP hw hK
   obtain ⟨f0,f1,f2,f3,f4,f5⟩:=hf it (by simp)
   have st2:=st.2
   have hg:n<=i:=hg
   rw [show (n:Int) - 1 - (i:Int)=-1 by have:=st.1; omega] at st2
   exact wpAny_pyNext_rev_end (I.ok.hd hc.calm) st2 λh' eb=>⟨rfl,I.turned (t':=s.toks) (λb o hb e=>eb b o hb e) f0 f1 f3 f4 f5⟩
 self:=λ_ _ _ _ _ st h=>wpAny_pyIter_revIter st.2 h
section
variable {X:Cx} {tg:Expr}
noncomputable def A8 (K:Ej) (ta:TA):TI:=λσ H R=>ta σ H λvs H1=>∃ a xs,vs=[.ref a]/\SqL K H1 a xs/\R (Itv K a xs.length) H1
theorem oj:bootBuiltins "reversed" = some (.type "reversed"):=by decide +kernel
theorem qX {a:Expr} {ta:TA} {p pos:Pos} (hc:X.calm=true) (hg:Gl X "reversed") (hm:X.mg "reversed" = none) (ha:PA X [a] ta) (hs:starEach [a] X.env=[(false,eval a X.env)]):PI X tg (.Call (.Name "reversed" p) [a] [] pos) (A8 X.K ta):=by
 intro pins s σ H R I h
 refine Call_ (cx I hg hm oj (EZ (thn (ha pos pins s σ H _ I h) λus s1 ⟨vs,H1,I1,r1,q1⟩=>?_) hs rfl))
 obtain ⟨l,xs,e,hq,q⟩:=q1
 subst e
 obtain ⟨u,rfl,ru⟩:=vals1 r1
 cases ru
 obtain ⟨its,rv,pl,hz⟩:=I1.list hq
 have hl:=rv.length
 refine call_reversed_list pl.isList ?_
 have st:({ s1 with heap:=s1.heap.push (revObj l ((its.toArray.size:Int) - 1)) }:Shared).heap.IsRevIter s1.heap.objs.size l ((its.toArray.size:Int) - 1):=⟨_,EK _ rfl,rfl,rfl⟩
 refine wpAny_pyIter_revIter st ?_
 refine ⟨false,s1.heap.objs.size,[s1.heap.objs.size],_,_,H1,rfl,I1.kept (t':=s1.toks) (λb o e=>En _ e),.inl hc,va l _ xs.length,⟨Fg _,?_⟩,λb hb=>?_,q⟩
 · rw [show (xs.length:Int) - 1 - ((0:Nat):Int)=(its.toArray.size:Int) - 1 by rw [EA,<- hl]; omega]
   exact st
 · have e:b=s1.heap.objs.size:=by simpa using hb
   subst e
   exact I1.kX (Ek _) (I1.hok.fresh (Ek _))
end
theorem xk:∀ (names:List (Str × NameKind)) (n:Nat) (acc:List (Str × Addr)) (x:Str) (c:Addr),(cellsFrom n names acc).lookup x=some c->n<=c\/acc.lookup x=some c
 | [],_,_,_,_,h=>.inr h
 | (y,k) :: r,n,acc,x,c,h=>by
   unfold cellsFrom at h
   split at h
   · rcases xk r (n + 1) _ x c h with q | q
     · exact .inl (by omega)
     · rw [Fj] at q
       split at q
       · cases q; exact .inl (Ek _)
       · exact .inr q
   · exact xk r n acc x c h
theorem kb:∀ (names:List (Str × NameKind)) (n:Nat) (acc:List (Str × Addr)) (x:Str),(x,FP) ∉ names->(cellsFrom n names acc).lookup x=acc.lookup x
 | [],_,_,_,_=>rfl
 | (y,k) :: r,n,acc,x,h=>by
   have h1:(x,FP) ∉ r:=λz=>h (Ep _ z)
   unfold cellsFrom
   split
   · rename_i hk
     rw [kb r _ _ x h1,Fj]
     have:(x == y)=false:=by
       rw [beq_eq_false_iff_ne]
       rintro rfl
       exact h (by rw [eq_of_beq hk]; exact Es)
     rw [this]
   · exact kb r n acc x h1
theorem ni:∀ (names:List (Str × NameKind)) (n:Nat) (acc:List (Str × Addr)) (x:Str),(x,FP) ∈ names->∃ c,(cellsFrom n names acc).lookup x=some c/\n<=c
 | (y,k) :: r,n,acc,x,h=>by
   unfold cellsFrom
   by_cases hr:(x,FP) ∈ r
   · split
     · obtain ⟨c,e,l⟩:=ni r (n + 1) ((y,n) :: acc) x hr
       exact ⟨c,e,by omega⟩
     · exact ni r n acc x hr
   · rcases EE.mp h with q | q
     · cases q
       rw [if_pos (by rfl),kb r _ _ _ hr]
       exact ⟨n,by simp [Fj],Ek _⟩
     · exact absurd q hr
theorem qI:∀ (names:List (Str × NameKind)) (n:Nat) (acc:List (Str × Addr)),(∀ x c,acc.lookup x=some c->c < n)->(∀ x y c,acc.lookup x=some c->acc.lookup y=some c->x=y) ->
   ∀ x y c,(cellsFrom n names acc).lookup x=some c->(cellsFrom n names acc).lookup y=some c->x=y
 | [],_,_,_,h=>h
 | (z,k) :: r,n,acc,hl,h=>by
   unfold cellsFrom
   split
   · refine qI r (n + 1) _ (λx c e=>?_) (λx y c e1 e2=>?_)
     · rw [Fj] at e
       split at e
       · cases e; exact Ju _
       · exact FI (hl x c e)
     · rw [Fj] at e1 e2
       split at e1
       · rename_i q1
         cases e1
         split at e2
         · rename_i q2
           exact (eq_of_beq q1).trans (eq_of_beq q2).symm
         · exact absurd (hl y _ e2) (Fs _)
       · split at e2
         · cases e2
           exact absurd (hl x _ e1) (Fs _)
         · exact h x y c e1 e2
   · exact qI r n acc hl h
theorem nP:∀ (names:List (Str × NameKind)) (h:Heap) (acc:List (Str × Addr)),(∀ x c,acc.lookup x=some c->∃ v,h.IsCell c v)->∀ x c,(cellsFrom h.objs.size names acc).lookup x=some c->∃ v,(pushCells h names).IsCell c v
 | [],_,_,ha,x,c,e=>ha x c e
 | (z,k) :: r,h,acc,ha,x,c,e=>by
   unfold cellsFrom at e
   unfold pushCells
   split at e
   · rename_i hk
     rw [if_pos hk]
     refine nP r _ ((z,h.objs.size) :: acc) (λy d q=>?_) x c (by rw [Ga]; exact e)
     rw [Fj] at q
     split at q
     · cases q
       exact ⟨none,_,EK _ rfl,rfl⟩
     · obtain ⟨v,o,ho,hd⟩:=ha y d q
       exact ⟨v,o,En _ ho,hd⟩
   · rename_i hk
     rw [if_neg hk]
     exact nP r h acc ha x c e
noncomputable def cB (env:Hk):List (Str × NameKind)->List (Str × Addr)->List (Str × Addr)
 | [],acc=>acc
 | (n,k) :: r,acc=>if k == .free then (match env.cells.lookup n with | some c=>cB env r ((n,c) :: acc) | none=>cB env r acc) else cB env r acc
theorem jF (env:Hk):∀ (names:List (Str × NameKind)) (acc:List (Str × Addr)),(∀ x ∈ names,x.2=.free->∃ c,env.cells.lookup x.1=some c) ->
   (forIn (m:=Sem) names acc λx cs=>do
     let (name,kind):=x
     if kind == .free then do
       let c <- cellOf env name
       pure (GQ ((name,c) :: cs))
     else pure (GQ cs))=pure (cB env names acc)
 | [],acc,_=>rfl
 | (n,k) :: r,acc,h=>by
   rw [List.forIn_cons]
   unfold cB
   by_cases hk:(k == .free)=true
   · obtain ⟨c,hc⟩:=h (n,k) Es (eq_of_beq hk)
     simp only [hk,if_true,cellOf,hc,pure_bind]
     exact jF env r _ λx hx=>h x (Ep _ hx)
   · simp only [hk,FD,if_false,pure_bind]
     exact jF env r _ λx hx=>h x (Ep _ hx)
theorem rV {env:Hk} {scope:Scope} (h:∀ x ∈ scope.names,x.2=.free->∃ c,env.cells.lookup x.1=some c):closureFor scope env=pure (cB env scope.names []):=by
 unfold closureFor
 have:=jF env scope.names [] h
 simp only [bind_pure]
 exact this
theorem d9 (env:Hk):∀ (names:List (Str × NameKind)) (acc:List (Str × Addr)) (x:Str) (c:Addr),(∀ y d,acc.lookup y=some d->env.cells.lookup y=some d)->(cB env names acc).lookup x=some c->env.cells.lookup x=some c
 | [],_,x,c,ha,h=>ha x c h
 | (n,k) :: r,acc,x,c,ha,h=>by
   unfold cB at h
   split at h
   · split at h
     · rename_i c' hc
       refine d9 env r _ x c (λy d q=>?_) h
       rw [Fj] at q
       split at q
       · rename_i qq
         cases q
         rw [eq_of_beq qq]; exact hc
       · exact ha y d q
     · exact d9 env r acc x c ha h
   · exact d9 env r acc x c ha h
theorem cJ (env:Hk):∀ (names:List (Str × NameKind)) (acc:List (Str × Addr)) (x:Str) (c:Addr),(∀ y d,acc.lookup y=some d->env.cells.lookup y=some d)->env.cells.lookup x=some c->((x,Fx) ∈ names\/acc.lookup x=some c)->(cB env names acc).lookup x=some c
 | [],_,x,c,_,_,h=>h.elim (λz=>absurd z (by simp)) id
 | (n,k) :: r,acc,x,c,ha,hc,h=>by
   unfold cB
   split
   · split
     · rename_i c' hc'
       refine cJ env r _ x c (λy d q=>?_) hc ?_
       · rw [Fj] at q
         split at q
         · rename_i qq
           cases q
           rw [eq_of_beq qq]; exact hc'
         · exact ha y d q
       · by_cases q:x=n
         · subst q
           rw [hc] at hc'; cases hc'
           exact .inr (by simp [Fj])
         · rcases h with h | h
           · rcases EE.mp h with z | z
             · cases z; exact absurd rfl q
             · exact .inl z
           · refine .inr ?_
             rw [Fj,beq_eq_false_iff_ne.mpr q]
             exact h
     · rename_i hc'
       refine cJ env r acc x c ha hc ?_
       rcases h with h | h
       · rcases EE.mp h with z | z
         · cases z; rw [hc] at hc'; cases hc'
         · exact .inl z
       · exact .inr h
   · rename_i hk
     refine cJ env r acc x c ha hc ?_
     rcases h with h | h
     · rcases EE.mp h with z | z
       · cases z; exact absurd rfl hk
       · exact .inl z
     · exact .inr h
theorem k8 {M:Model} {A:Around} {E:Value->Shared->Prop} {s:Shared} {scope:Scope} {cl:List (Str × Addr)} {env:Hk} {Q:Hk->Shared->Prop}
   (h:Q (newEnv scope s.heap.objs.size env.globals (cellsFrom (s.heap.objs.size + 1) scope.names cl) env.qual none .none (some env) builtinsNs) { s with heap:=pushCells (s.heap.push { cls:=.type "dict",data:=.dict #[] }) scope.names }) :
   wpAny M A (newFunctionEnv scope env.globals cl [] env.qual none .none (some env)) Q E s:=by
 simp only [newFunctionEnv,Option.isSome_some,if_true]
 refine wpAny_bind (wpAny_alloc ?_)
 refine wpAny_bind (wpAny_layCells _ (λname kind cells=>by cases hkc:kind == FP <;> simp [hkc]) _ _ _ _ ?_)
 rw [show ({ s with heap:=s.heap.push { cls:=.type "dict",data:=.dict #[] } }:Shared).heap.objs.size=s.heap.objs.size + 1 from Ga ..]
 exact wpAny_bind (wpAny_pure (wpAny_pure h))
noncomputable def aG (X:Cx) (s:Shared) (H:Hp) (scope:Scope) (N:List Str) (fp:List Addr):Cx:=
 { prog:=X.prog,w:=X.w,K:=X.K,mg:=X.mg,base:=X.base,A:=X.A,N:=N,s₀:=s,H₀:=H
   env:=compEnvC scope (cellsFrom (s.heap.objs.size + 1 + 1) scope.names (cB X.env scope.names [])) (s.heap.objs.size + 1) X.env
   outer:=X.stack,stack:=X.stack,ex:=fp,fn:=λx=>decide ((x,FP) ∈ scope.names),calm:=X.calm,pn:=[],xe:=λ_ _=>False }
noncomputable def cS (σ:L2.St) (caps:List (Option Nat)):L2.St:=caps.map λo=>o.bind λi=>(σ[i]?).join
structure dJ (X:Cx) (scope:Scope) (N:List Str) (caps:List (Option Nat)):Prop where
 kind:scope.kind=.function
 loc:∀ x ∈ scope.names,x.2=.local->scope.names.lookup x.1=some .local
 fre:∀ x ∈ scope.names,x.2=.free->X.env.kindOf x.1=some .cell
 one:∀ x,(x,Fx) ∈ scope.names->(x,FP) ∉ scope.names
 noboth:∀ x,(x,Fx) ∈ scope.names->(x,NameKind.local) ∉ scope.names
 len:N.length=caps.length + 1
 cap:∀ (j i:Nat),caps[j]?=some (some i)->∃ x,N[j]?=some x/\X.N[i]?=some x/\(x,Fx) ∈ scope.names
 acc:∃ z,N[caps.length]?=some z/\¬ Vis (relabel scope X.env) z
section
variable {X:Cx} {pins:List (Addr × Obj)} {σ:L2.St} {H:Hp} {s:Shared} {scope:Scope} {N:List Str} {caps:List (Option Nat)} {fp:List Addr}
theorem dW {env:Hk} {x:Str} {names:List (Str × NameKind)} (h:∀ y,(y,Fx) ∈ names->env.kindOf y=some .cell) (hk:env.scope.kind=.function) {k:NameKind}
   (e:(names.map λ(n,k)=>if (k == Fx && env.scope.kind == .function && env.kindOf n == some .cell) then (n,FP) else (n,k)).lookup x=some k) :
   (x,k) ∈ names\/((x,Fx) ∈ names/\k=.cell):=by
 induction names with
 | nil=>cases e
 | cons p r ih=>
   obtain ⟨n,q⟩:=p
   rw [Er] at e
   have hr:∀ y,(y,Fx) ∈ r->env.kindOf y=some .cell:=λy hy=>h y (Ep _ hy)
   have sub:((x,k) ∈ r\/((x,Fx) ∈ r/\k=.cell))->(x,k) ∈ (n,q) :: r\/((x,Fx) ∈ (n,q) :: r/\k=.cell):=λz=>
     z.elim (λy=>.inl (Ep _ y)) λy=>.inr ⟨Ep _ y.1,y.2⟩
   dsimp only at e
   split at e
   · rename_i c
     rw [Fj] at e
     split at e
     · rename_i qq
       cases e
       rw [Fp,Fp] at c
       rw [eq_of_beq qq,eq_of_beq c.1.1]
       exact .inr ⟨Es,rfl⟩
     · exact sub (ih hr e)
   · rename_i c
     rw [Fj] at e
     split at e
     · rename_i qq
       cases e
       rw [eq_of_beq qq]
       exact .inl Es
     · exact sub (ih hr e)
theorem gg (I:Inv X pins σ H s) (c:dJ X scope N caps):∀ x ∈ scope.names,x.2=.free->∃ d,X.env.cells.lookup x.1=some d:=λx hx hf=>I.ok.has x.1 (.inl (c.fre x hx hf))
theorem pg (I:Inv X pins σ H s) (hf:∀ b ∈ fp,kH X pins H b) (ho:∀ b ∈ fp,∃ o,s.heap.get? b=some o) (c:dJ X scope N caps) :
   Inv (aG X s H scope N fp) [] (cS σ caps++[some (.ref s.heap.objs.size)]) (upd H s.heap.objs.size (.lst []))
     { s with heap:=pushCells ((s.heap.push { cls:=.type "list",data:=.seq ([]:List Value).toArray }).push { cls:=.type "dict",data:=.dict #[] }) scope.names }:=by
 have hcl:∀ x d,(cB X.env scope.names []).lookup x=some d->X.env.cells.lookup x=some d:=λx d=>d9 X.env scope.names [] x d (λy d z=>by simp at z)
 have kp:∀ b o,s.heap.get? b=some o->(pushCells ((s.heap.push { cls:=.type "list",data:=.seq ([]:List Value).toArray }).push { cls:=.type "dict",data:=.dict #[] }) scope.names).get? b=some o:=λb o e=>
   pushCells_keeps _ _ b o (En _ (En _ e))
 have sz2:((s.heap.push { cls:=.type "list",data:=.seq ([]:List Value).toArray }).push { cls:=.type "dict",data:=.dict #[] }).objs.size=s.heap.objs.size + 1 + 1:=by rw [Ga,Ga]
 have oldc:∀ x d,X.env.cells.lookup x=some d->d < s.heap.objs.size:=λx d e=>by
   obtain ⟨v,o,q,_⟩:=I.cell x d e
   exact Ez q
 have cel:∀ x d,(aG X s H scope N fp).env.cells.lookup x=some d->s.heap.objs.size + 1 + 1<=d\/X.env.cells.lookup x=some d:=λx d e=>by
   rcases xk _ _ _ x d e with q | q
   · exact .inl q
   · exact .inr (hcl x d q)
 have ok:(aG X s H scope N fp).Ok:=by
   refine ⟨I.ok.mod,c.kind,I.ok.glob,I.ok.blt,Fv _,?_,?_,?_,I.ok.hd,I.ok.frames,.inl rfl,?_,I.bs,EH I.ok.bsz I.sz,?_,?_,I.stack,I.tK⟩
   · exact qI _ _ _ (λx d e=>EG (oldc x d (hcl x d e)) (by omega)) λx y d e1 e2=>I.ok.inj x y d (hcl x d e1) (hcl y d e2)
   · intro x hx
     have hfk:∀ y,(y,Fx) ∈ scope.names->X.env.kindOf y=some .cell:=λy hy=>c.fre _ hy rfl
     have fre:(x,Fx) ∈ scope.names->∃ d,(aG X s H scope N fp).env.cells.lookup x=some d:=λhm=>by
       obtain ⟨d,hd⟩:=gg I c _ hm rfl
       exact ⟨d,by
         show (cellsFrom _ scope.names _).lookup x=_
         rw [kb _ _ _ x (c.one x hm)]
         exact cJ X.env scope.names [] x d (λy e z=>by simp at z) hd (.inl hm)⟩
     have own:(x,FP) ∈ scope.names->∃ d,(aG X s H scope N fp).env.cells.lookup x=some d:=λhm=>by
       obtain ⟨d,e,_⟩:=ni scope.names (s.heap.objs.size + 1 + 1) (cB X.env scope.names []) x hm
       exact ⟨d,e⟩
     rcases hx with hx | hx
     · rcases dW hfk I.ok.kind (show (scope.names.map _).lookup x=some .cell from hx) with q | q
       · exact own q
       · exact fre q.1
     · rcases dW hfk I.ok.kind (show (scope.names.map _).lookup x=some .free from hx) with q | q
       · exact fre q
       · exact fre q.1
   · intro x d hfn e
     have hm:(x,FP) ∈ scope.names:=of_decide_eq_true hfn
     obtain ⟨d',e',l⟩:=ni scope.names (s.heap.objs.size + 1 + 1) (cB X.env scope.names []) x hm
     have e2:(cellsFrom (s.heap.objs.size + 1 + 1) scope.names (cB X.env scope.names [])).lookup x=some d:=e
     rw [e'] at e2; cases e2
     exact EH (EH (Fv _) (Fv _)) l
   · intro b hb
     obtain ⟨o,q⟩:=ho b hb
     have bl:=Ez q
     refine ⟨λz=>?_,λx d e z=>?_⟩
     · have z':b=s.heap.objs.size + 1:=z
       rw [z'] at bl
       exact absurd bl (Nat.not_lt.mpr (Fv _))
     · subst z
       rcases cel x d e with q | q
       · exact absurd (EG bl (EH (EH (Fv _) (Fv _)) q)) (Fs _)
       · exact (hf d hb).2.2.2.2.1 x d q rfl
   · intro b o e hb
     rcases (hf b hb).2.2.2.1 with q | q
     · exact I.ok.noex b o e q
     · have:=EG (Ez e) I.ok.bsz
       exact absurd (EG this q) (Fs _)
   · intro b hb hm
     rcases EE.mp (I.qv b hm) with q | q
     · exact (hf b hb).2.1 q
     · exact (hf b hb).2.2.1 q
 have hD:(pushCells ((s.heap.push { cls:=.type "list",data:=.seq ([]:List Value).toArray }).push { cls:=.type "dict",data:=.dict #[] }) scope.names).get? s.heap.objs.size=some { cls:=.type "list",data:=.seq ([]:List Value).toArray }:=
   pushCells_keeps _ _ _ _ (En _ (EK _ rfl))
 have fr:∀ a,s.heap.objs.size<=a->a ≠ s.heap.objs.size->(upd H s.heap.objs.size (.lst [])) a=none:=λa h1 h2=>by rw [aD h2]; exact I.hok.fresh h1
 refine ⟨ok,rfl,I.bare,Un.laid kp (Ek _) (I.hok.fresh (Ek _)),⟨λ_=>none,?_,λi x v e1 e2 e3=>?_⟩,λx d e=>?_,?_,λx d e=>?_,λp hp=>absurd (show p ∈ ([]:List (Addr × Obj)) from hp) (by simp),?_,?_⟩
 · have:=Heap.Ns.new (s.heap.push { cls:=.type "list",data:=.seq ([]:List Value).toArray }) (.type "dict")
   rw [Ga] at this
   exact this.keeps (pushCells_keeps _ _)
 · by_cases hi:i < caps.length
   · rw [EI (by unfold cS; rw [Ei]; exact hi)] at e2
     unfold cS at e2
     rw [E5] at e2
     cases hc:caps[i]? with
     | none=>rw [hc] at e2; cases e2
     | some o=>
       rw [hc] at e2
       cases o with
       | none=>cases e2
       | some j=>
         have e2':(σ[j]?).join=some v:=E4 e2
         have e4:σ[j]?=some (some v):=by
           cases q:σ[j]? with
           | none=>rw [q] at e2'; cases e2'
           | some y=>rw [q] at e2'; exact congrArg some e2'
         obtain ⟨x',g1,g2,g3⟩:=c.cap i j hc
         rw [show (aG X s H scope N fp).N=N from rfl,g1] at e1
         cases e1
         have hkc:=c.fre _ g3 rfl
         obtain ⟨m,_,hl⟩:=I.loc
         obtain ⟨u,ru,look⟩:=hl j x v g2 e4 (.inr (.inl hkc))
         refine ⟨u,ru,?_⟩
         rcases look with ⟨k,_⟩ | ⟨k,d,hd,hcell⟩
         · rw [hkc] at k; cases k
         · have e5:(aG X s H scope N fp).env.cells.lookup x=some d:=by
             show (cellsFrom _ scope.names _).lookup x=_
             rw [kb _ _ _ x (c.one x g3)]
             exact cJ X.env scope.names [] x d (λy e z=>by simp at z) hd (.inl g3)
           have hcell':Heap.IsCell (pushCells ((s.heap.push { cls:=.type "list",data:=.seq ([]:List Value).toArray }).push { cls:=.type "dict",data:=.dict #[] }) scope.names) d (some u):=by
             obtain ⟨o,q1,q2⟩:=hcell
             exact ⟨o,kp _ _ q1,q2⟩
           refine .inr ⟨?_,d,e5,hcell'⟩
           rcases e3 with e3 | e3 | e3
           · exfalso
             rcases dW (λy hy=>c.fre _ hy rfl) I.ok.kind (show (scope.names.map _).lookup x=some .local from e3) with q | q
             · have q1:=c.loc _ q rfl
               exact c.noboth x g3 q
             · cases q.2
           · exact .inl e3
           · exact .inr e3
   · exfalso
     obtain ⟨z,z1,z2⟩:=c.acc
     have hl:i < N.length:=(Ew.mp e1).1
     have:i=caps.length:=by have:=c.len; omega
     subst this
     rw [show (aG X s H scope N fp).N=N from rfl,z1] at e1
     cases e1
     exact z2 e3
 · rw [show (aG X s H scope N fp).env.cells=cellsFrom (s.heap.objs.size + 1 + 1) scope.names (cB X.env scope.names []) from rfl,<- sz2] at e
   refine nP scope.names _ _ (λy d' q=>?_) x d e
   obtain ⟨v,o,q1,q2⟩:=I.cell y d' (hcl y d' q)
   exact ⟨v,o,En _ (En _ q1),q2⟩
 · exact fr _ (Fv _) (Js _)
 · rcases cel x d e with q | q
   · exact fr d (by omega) (by intro z; omega)
   · rw [aD (ES (oldc x d q))]; exact I.freeC x d q
 · exact I.hok.laid kp (Ek _) ⟨Fg _,[],0,.nil,hD⟩
 · rw [EC]
   unfold cS
   rw [Ei,show (aG X s H scope N fp).N=N from rfl,c.len]
   rfl
end
noncomputable def PTs (X:Cx) (ifs:List Expr) (t:TT):Prop:=
 ∀ (pins:List (Addr × Obj)) (s:Shared) (σ:L2.St) (H:Hp) (Q:Bool->Hp->Prop),Inv X pins σ H s->t σ H Q ->
   wpAny (model X.prog X.w) X.A (forIn ifs true λc r=>if r=true then do let ok <- isTrue c X.env (eval c X.env); pure (GQ ok) else pure (GQ r)) (TP X pins σ Q) X.xe s
section
variable {prog:Program} {w:World} {A:Around} {R:Result->Shared->Prop} {s:Shared}
theorem jz {elt target iter:Expr} {ifs:List Expr} {scope:Scope} {pos:Pos} {it acc:Value} {env:Hk} (Iv:Nat->Shared->Prop)
   (step:∀ n s,Iv n s->wpAny (model prog w) A (pyNext it) (λr s₁=>match r with
     | none=>R (.ok .next) s₁
     | some v=>wpAny (model prog w) A (letOwnedTupleGo target it v) (λ_ s₀=>wpAny (model prog w) A (assign target env v) (λ_ s₂=>
         wpAny (model prog w) A (forIn ifs true λc r=>if r=true then do let ok <- isTrue c env (eval c env); pure (GQ ok) else pure (GQ r)) (λok s₃=>
           if ok=true then wpAny (model prog w) A (eval elt env) (λx s₄=>
             wpAny (model prog w) A (call (.builtin "list.append") [acc,x]) (λ_ s₅=>∃ m,m < n/\Iv m s₅) (λ_ _=>False) s₄) (λ_ _=>False) s₃
           else ∃ m,m < n/\Iv m s₃) (λ_ _=>False) s₂) (λ_ _=>False) s₀) (λ_ _=>False) s₁) (λ_ _=>False) s)
   (n:Nat) (h:Iv n s):codeAny (model prog w) A (.compLoop (.ListComp elt [⟨target,iter,ifs,0⟩] scope pos) 0 it acc env) R s:=by
 have no:∀ {α:Type} {t:Sem α} {Q:α->Shared->Prop} {s:Shared} {E:Value->Shared->Prop},wpAny (model prog w) A t Q (λ_ _=>False) s->wpAny (model prog w) A t Q E s:=λh=>wpAny_mono h (λ_ _ q=>q) λ_ _ q=>q.elim
 refine codeAny_loop rfl Iv (λn s hI=>?_) n h
 show wpAny _ A (Sem.onRaise (compTurn (.ListComp elt [⟨target,iter,ifs,0⟩] scope pos) 0 it acc env) (λx=>do noteFrame x env; theTreesLotGoes x)) _ _ s
 refine wpAny_noted ?_
 rw [compTurn_list]
 refine wpAny_bind (wpAny_standAt (wpAny_bind (thn (no (step n s hI)) λr s₁ h₁=>?_)))
 cases r with
 | none=>exact wpAny_pure h₁
 | some v=>
   refine wpAny_bind (thn (no h₁) λ_ s₀ h₀=>wpAny_bind (thn (no h₀) λ_ s₂ h₂=>wpAny_bind (thn (no h₂) λok s₃ h₃=>?_)))
   cases ok with
   | false=>exact wpAny_pure ⟨rfl,h₃⟩
   | true=>exact wpAny_bind (wpAny_bind (thn (no h₃) λx s₄ h₄=>wpAny_bind (thn (no h₄) λ_ s₅ h₅=>wpAny_pure (wpAny_pure ⟨rfl,h₅⟩))))
end
theorem rG {X:Cx} {kd:Bool} {pins:List (Addr × Obj)} {σ:L2.St} {H:Hp} {s:Shared} {scope:Scope} {N:List Str} {fp:List Addr} (h:Ck kd X) (I:Inv X pins σ H s):Ck kd (aG X s H scope N fp):=by
 rcases h with h | ⟨hk,q,o,u,vs,e1,e2,e3,e4⟩
 · exact .inl h
 · exact .inr ⟨hk,q,o,u,vs,e1,I.base.frzs q o u e2,e3,e4⟩
noncomputable def eO (In:TG->TT->TE->Prop) (caps:List (Option Nat)) (wi:TI):TE:=λσ H Q=>wi σ H λJ H1=>∃ g tt te,In g tt te/\∀ D,H1 D=none ->
 ∃ Z:Nat->Nat->L2.St->Hp->Prop,(∃ m,Z 0 m (cS σ caps++[some (.ref D)]) (upd H1 D (.lst [])))/\∀ i m σ' H',Z i m σ' H' ->
   (J.stop i H'/\Q (.ref D) H')\/(J.go i H'/\∀ x H2,J.yld i H' x H2->g x σ' H2 λσ2 H3=>tt σ2 H3 λb H4=>
     if b=true then te σ2 H4 λv H5=>∃ vs m',H5 D=some (.lst vs)/\vs.length < sizeLine/\m' < m/\Z (i + 1) m' σ2 (upd H5 D (.lst (vs++[v]))) else ∃ m',m' < m/\Z (i + 1) m' σ2 H4)
theorem b8 {X:Cx} {elt tg iter:Expr} {ifs:List Expr} {scope:Scope} {N:List Str} {caps:List (Option Nat)} {pos:Pos} {wi:TI} {In:TG->TT->TE->Prop} (c:dJ X scope N caps) (hi:PI X tg iter wi)
   (hs:∀ x,foldedSetIterable iter X.env x=pure x)
   (hin:∀ g tt te,In g tt te->∀ s H fp,PG (aG X s H scope N fp) tg g/\PTs (aG X s H scope N fp) ifs tt/\PE (aG X s H scope N fp) elt te) :
   PE X (.ListComp elt [⟨tg,iter,ifs,0⟩] scope pos) (eO In caps wi):=by
 intro pins s σ H Q I h
 rw [eval_ListComp]
 have hcl:=rV (gg I c)
 refine wpAny_comprehension_free (use:=none) (g:=⟨tg,iter,ifs,0⟩) (gs:=[]) rfl hs hcl c.kind c.loc ?_
 show wpAny _ _ (eval iter X.env) _ _ s
 refine thn (hi pins s σ H _ I h) λv s1 h1=>thn h1 λitv s2 h2=>?_
 obtain ⟨kd,it,fp,tn,J,H2,e,I2,hck,T,st2,f2,g,tt,te,hI,q⟩:=h2
 have hc:=rG (scope:=scope) (N:=N) (fp:=fp) hck I2
 subst e
 obtain ⟨Z,⟨m0,z0⟩,turn⟩:=q s2.heap.objs.size (I2.hok.fresh (Ek _))
 have ho:∀ b ∈ fp,∃ o,s2.heap.get? b=some o:=λb hb=>let ⟨o,e,_⟩:=T.obj _ _ st2 b hb; ⟨o,e⟩
 have I4:=pg (scope:=scope) (N:=N) (caps:=caps) I2 f2 ho c
 obtain ⟨hg,ht,he⟩:=hin g tt te hI s2 H2 fp
 refine wpAny_newObj_type (k8 ?_) (by show 0<=sizeLine; decide)
 have hC:(s2.heap.push { cls:=.type "list",dict:=none,data:=.seq ([]:List Value).toArray }).objs.size=s2.heap.objs.size + 1:=Ga ..
 dsimp only
 rw [hC]
 have kp:∀ b o,s2.heap.get? b=some o->(pushCells ((s2.heap.push { cls:=.type "list",data:=.seq ([]:List Value).toArray }).push { cls:=.type "dict",data:=.dict #[] }) scope.names).get? b=some o:=λb o e=>
   pushCells_keeps _ _ b o (En _ (En _ e))
 have st4:tn 0 (pushCells ((s2.heap.push { cls:=.type "list",data:=.seq ([]:List Value).toArray }).push { cls:=.type "dict",data:=.dict #[] }) scope.names):=T.keep _ _ _ st2 λb _ o e=>kp b o e
 have stat:∀ {H':Hp},(∀ b ∈ fp,H' b=none)->∀ b ∈ fp,kH (aG X s2 H2 scope N fp) [] H' b:=λhn b hb=>
   ⟨hn b hb,(I4.ok.exf b hb).1,I4.ok.exfs b hb,.inl hb,(I4.ok.exf b hb).2,λp hp=>absurd (show p ∈ ([]:List (Addr × Obj)) from hp) (by simp)⟩
 have fr4:∀ b ∈ fp,(upd H2 s2.heap.objs.size (.lst [])) b=none:=λb hb=>by
   obtain ⟨o,e⟩:=ho b hb
   rw [aD (ES (Ez e))]; exact (f2 b hb).1
 have loop:codeAny (model X.prog X.w) X.A (.compLoop (.ListComp elt [⟨tg,iter,ifs,0⟩] scope pos) 0 (.ref it) (.ref s2.heap.objs.size) (aG X s2 H2 scope N fp).env)
     (compPost (model X.prog X.w) X.A X.xe none (EP X pins σ Q) (.ref s2.heap.objs.size) (s2.heap.objs.size + 1))
     { s2 with heap:=pushCells ((s2.heap.push { cls:=.type "list",data:=.seq ([]:List Value).toArray }).push { cls:=.type "dict",data:=.dict #[] }) scope.names }:=by
   refine jz (λn s'=>∃ i σ' H',Inv (aG X s2 H2 scope N fp) [] σ' H' s'/\tn i s'.heap/\(∀ b ∈ fp,H' b=none)/\Z i n σ' H') ?_ m0 ⟨0,_,_,I4,st4,fr4,z0⟩
   rintro n s3 ⟨i,σ3,H3,I3,st3,fr3,w3⟩
   rcases turn i n σ3 H3 w3 with ⟨stop,qn⟩ | ⟨go,step⟩
   · refine thn (T.done (aG X s2 H2 scope N fp) rfl rfl rfl hc i [] s3 σ3 H3 _ I3 (stat fr3) st3 stop) λr s5 ⟨hr,I5⟩=>?_
     subst hr
     obtain ⟨m,hn,_⟩:=id I5.loc
     refine ⟨m,hn,λh' sb=>⟨.ref s2.heap.objs.size,H3,?_,rfl,qn⟩⟩
     have lt:∀ b o,s2.heap.get? b=some o->b ≠ s2.heap.objs.size + 1:=λb o e=>ES (FI (Ez e))
     have u:=I5.base
     have u':Un (frs X.stack) fp H2 H3 s2.heap h':=⟨λb o e n1 n2 n3=>(sb.2 b (lt b o e)).trans (u.keep b o e n1 n2 n3),λb o e n1 n2 n3=>let ⟨sl,z⟩:=u.slot b o e n1 n2 n3; ⟨sl,(sb.2 b (lt b o e)).trans z⟩,
       u.free,λb o e n1=>let ⟨o',z⟩:=u.there b o e n1; ⟨o',(sb.2 b (lt b o e)).trans z⟩,u.tups,u.frzs,u.tbls⟩
     have fC:H3 (s2.heap.objs.size + 1)=none:=I5.free
     refine I2.zQ (s':={ s5 with heap:=h' }) I5.os u' (λb o e=>(I5.hok b o e).jI (λd v hd z=>(sb.2 d ?_).trans z) (λ_ z=>z) λ_ _ z=>z) I5.bare λb hb=>⟨(f2 b hb).2.2.2.1,(f2 b hb).2.1,(f2 b hb).2.2.2.2.1,(f2 b hb).2.2.2.2.2⟩
     rcases hd with hd | hd
     · rw [hd]; exact aP e fC
     · exact aP hd fC
   · refine thn (T.item (aG X s2 H2 scope N fp) rfl rfl rfl hc i [] s3 σ3 H3 _ I3 (stat fr3) st3 go) λr s4 ⟨u,hr,h4⟩=>?_
     subst hr
     refine thn h4 λ_ s5 ⟨x,H5,I5,r5,y5,st5,fr5⟩=>?_
     have I5':=I5.pinned (stat fr5) (T.obj _ _ st5)
     refine thn (hg _ s5 σ3 H5 x u _ I5' r5 (step x H5 y5)) λ_ s6 ⟨σ6,H6,I6,q6⟩=>?_
     have again:∀ {s7:Shared} {σ7:L2.St} {H7:Hp} {m':Nat},Inv (aG X s2 H2 scope N fp) ([]++gw fp s5.heap) σ7 H7 s7->m' < n->Z (i + 1) m' σ7 H7 ->
         ∃ m,m < n/\∃ i σ' H',Inv (aG X s2 H2 scope N fp) [] σ' H' s7/\tn i s7.heap/\(∀ b ∈ fp,H' b=none)/\Z i m σ' H':=λ{s7 σ7 H7 m'} I7 hm z7=>by
       refine ⟨m',hm,i + 1,σ7,H7,I7.dF,T.keep _ _ _ st5 λb hb o e=>(I7.pin (b,o) (EM _ (EM _ (bM hb e)))).1,λb hb=>?_,z7⟩
       obtain ⟨o,e,d⟩:=T.obj _ _ st5 b hb
       exact (I7.pin (b,o) (EM _ (EM _ (bM hb e)))).2.1
     refine thn (ht _ s6 σ6 H6 _ I6 q6) λok s7 ⟨H7,I7,q7⟩=>?_
     cases ok with
     | false=>
       rw [if_neg (by decide)] at q7
       obtain ⟨m',hm,z7⟩:=q7
       exact again I7 hm z7
     | true=>
       rw [if_pos rfl] at q7
       refine thn (he _ s7 σ6 H7 _ I7 q7) λv' s8 ⟨v,H8,I8,r8,vs,m',q8,l8,hm,z8⟩=>?_
       refine thn (iO (X:=aG X s2 H2 scope N fp) _ s8 σ6 H8 (.ref s2.heap.objs.size) [v] (.ref s2.heap.objs.size) [v'] (λ_ H9=>H9=upd H8 s2.heap.objs.size (.lst (vs++[v]))) I8 rfl (.cons r8 .nil) ⟨_,vs,v,rfl,rfl,q8,l8,rfl⟩) λ_ s9 ⟨_,H9,I9,_,e9⟩=>?_
       subst e9
       exact again I9 hm z8
 exact codeAny_compStart_list loop (T.self _ 0 _ _ _ st4 loop)
theorem pv {X:Cx} {gT:TG} {y:Str} {py spos:Pos} {elt tg iter:Expr} {ifs:List Expr} {scope:Scope} {N:List Str} {caps:List (Option Nat)} {pos:Pos} {wi:TI} {In:TG->TT->TE->Prop} (hT:PG X (.Name y py) gT) (c:dJ X scope N caps) (hi:PI X tg iter wi)
   (hs:∀ x,foldedSetIterable iter X.env x=pure x)
   (hin:∀ g tt te,In g tt te->∀ s H fp,PG (aG X s H scope N fp) tg g/\PTs (aG X s H scope N fp) ifs tt/\PE (aG X s H scope N fp) elt te)
   (hsw:swapsWith (.ListComp elt [⟨tg,iter,ifs,0⟩] scope pos) (some (.Name y py)) spos.line X.env=pure true) :
   PS X (.Assign [.Name y py] (.ListComp elt [⟨tg,iter,ifs,0⟩] scope pos) spos) (A4 (eO In caps wi) gT):=by
 intro pins s σ H D I h
 rw [exec_Assign_Name_used _ _ _ _ hsw]
 refine wpAny_bind (wpAny_standAt (wpAny_bind ?_))
 show wpAny _ _ (do let _ <- comprehension (.ListComp elt [⟨tg,iter,ifs,0⟩] scope pos) scope X.env _ (newList []) false _ (some (assign (.Name y py) X.env))) _ _ s
 refine wpAny_bind ?_
 have hcl:=rV (gg I c)
 refine wpAny_comprehension_free (use:=some (assign (.Name y py) X.env)) (Q:=λ_ s'=>wpAny (model X.prog X.w) X.A (pure ()) (λ_ s''=>wpAny (model X.prog X.w) X.A (pure Flow.next) (SP X pins D) X.xe s'') X.xe s') (g:=⟨tg,iter,ifs,0⟩) (gs:=[]) rfl hs hcl c.kind c.loc ?_
 show wpAny _ _ (eval iter X.env) _ _ s
 refine thn (hi pins s σ H _ I h) λv s1 h1=>thn h1 λitv s2 h2=>?_
 obtain ⟨kd,it,fp,tn,J,H2,e,I2,hck,T,st2,f2,g,tt,te,hI,q⟩:=h2
 have hc:=rG (scope:=scope) (N:=N) (fp:=fp) hck I2
 subst e
 obtain ⟨Z,⟨m0,z0⟩,turn⟩:=q s2.heap.objs.size (I2.hok.fresh (Ek _))
 have ho:∀ b ∈ fp,∃ o,s2.heap.get? b=some o:=λb hb=>let ⟨o,e,_⟩:=T.obj _ _ st2 b hb; ⟨o,e⟩
 have I4:=pg (scope:=scope) (N:=N) (caps:=caps) I2 f2 ho c
 obtain ⟨hg,ht,he⟩:=hin g tt te hI s2 H2 fp
 refine wpAny_newObj_type (k8 ?_) (by show 0<=sizeLine; decide)
 have hC:(s2.heap.push { cls:=.type "list",dict:=none,data:=.seq ([]:List Value).toArray }).objs.size=s2.heap.objs.size + 1:=Ga ..
 dsimp only
 rw [hC]
 have kp:∀ b o,s2.heap.get? b=some o->(pushCells ((s2.heap.push { cls:=.type "list",data:=.seq ([]:List Value).toArray }).push { cls:=.type "dict",data:=.dict #[] }) scope.names).get? b=some o:=λb o e=>
   pushCells_keeps _ _ b o (En _ (En _ e))
 have st4:tn 0 (pushCells ((s2.heap.push { cls:=.type "list",data:=.seq ([]:List Value).toArray }).push { cls:=.type "dict",data:=.dict #[] }) scope.names):=T.keep _ _ _ st2 λb _ o e=>kp b o e
 have stat:∀ {H':Hp},(∀ b ∈ fp,H' b=none)->∀ b ∈ fp,kH (aG X s2 H2 scope N fp) [] H' b:=λhn b hb=>
   ⟨hn b hb,(I4.ok.exf b hb).1,I4.ok.exfs b hb,.inl hb,(I4.ok.exf b hb).2,λp hp=>absurd (show p ∈ ([]:List (Addr × Obj)) from hp) (by simp)⟩
 have fr4:∀ b ∈ fp,(upd H2 s2.heap.objs.size (.lst [])) b=none:=λb hb=>by
   obtain ⟨o,e⟩:=ho b hb
   rw [aD (ES (Ez e))]; exact (f2 b hb).1
 have loop:codeAny (model X.prog X.w) X.A (.compLoop (.ListComp elt [⟨tg,iter,ifs,0⟩] scope pos) 0 (.ref it) (.ref s2.heap.objs.size) (aG X s2 H2 scope N fp).env)
     (compPost (model X.prog X.w) X.A X.xe (some (assign (.Name y py) X.env)) (λ_ s'=>wpAny (model X.prog X.w) X.A (pure ()) (λ_ s''=>wpAny (model X.prog X.w) X.A (pure Flow.next) (SP X pins D) X.xe s'') X.xe s') (.ref s2.heap.objs.size) (s2.heap.objs.size + 1))
     { s2 with heap:=pushCells ((s2.heap.push { cls:=.type "list",data:=.seq ([]:List Value).toArray }).push { cls:=.type "dict",data:=.dict #[] }) scope.names }:=by
   refine jz (λn s'=>∃ i σ' H',Inv (aG X s2 H2 scope N fp) [] σ' H' s'/\tn i s'.heap/\(∀ b ∈ fp,H' b=none)/\Z i n σ' H') ?_ m0 ⟨0,_,_,I4,st4,fr4,z0⟩
   rintro n s3 ⟨i,σ3,H3,I3,st3,fr3,w3⟩
   rcases turn i n σ3 H3 w3 with ⟨stop,qn⟩ | ⟨go,step⟩
   · refine thn (T.done (aG X s2 H2 scope N fp) rfl rfl rfl hc i [] s3 σ3 H3 _ I3 (stat fr3) st3 stop) λr s5 ⟨hr,I5⟩=>?_
     subst hr
     obtain ⟨m,hn,_⟩:=id I5.loc
     have I6:Inv X pins σ H3 s5:=by
       have lt:∀ b o,s2.heap.get? b=some o->b ≠ s2.heap.objs.size + 1:=λb o e=>ES (FI (Ez e))
       have u:=I5.base
       have u':Un (frs X.stack) fp H2 H3 s2.heap s5.heap:=⟨λb o e n1 n2 n3=>u.keep b o e n1 n2 n3,λb o e n1 n2 n3=>u.slot b o e n1 n2 n3,u.free,λb o e n1=>u.there b o e n1,u.tups,u.frzs,u.tbls⟩
       exact I2.zQ (s':=s5) I5.os u' I5.hok I5.bare λb hb=>⟨(f2 b hb).2.2.2.1,(f2 b hb).2.1,(f2 b hb).2.2.2.2.1,(f2 b hb).2.2.2.2.2⟩
     have fC:H3 (s2.heap.objs.size + 1)=none:=I5.free
     have fk:kH X pins H3 (s2.heap.objs.size + 1):=I2.kX (Fv _) fC
     obtain ⟨oC,es,ep,hoC,hdC,rC⟩:=id hn
     have hpin:=I6.pinned (fp:=[s2.heap.objs.size + 1]) (λb hb=>by rw [Em.mp hb]; exact fk) (λb hb=>by rw [Em.mp hb]; exact ⟨oC,hoC,λv z=>by rw [hdC] at z; cases z⟩)
     have hmem:(s2.heap.objs.size + 1,oC) ∈ gw [s2.heap.objs.size + 1] s5.heap:=bM (List.mem_singleton_self _) hoC
     refine thn (hT _ s5 σ H3 (.ref s2.heap.objs.size) (.ref s2.heap.objs.size) _ hpin rfl qn) λ_ s6 ⟨σ6,H6,I7,q7⟩=>?_
     obtain ⟨p1,p2,p3,p4,p5⟩:=I7.pin _ (EM _ (EM _ hmem))
     refine ⟨m,⟨oC,es,ep,p1,hdC,rC⟩,λh' sb=>wpAny_pure (wpAny_pure ?_)⟩
     refine ⟨σ6,H6,?_,q7⟩
     exact (I7.dF).turned (t':=s6.toks) (it:=s2.heap.objs.size + 1) (λb o hb e=>(sb.2 b hb).trans e) p2 p3 fk.2.2.2.1 fk.2.2.2.2.1 fk.2.2.2.2.2
   · refine thn (T.item (aG X s2 H2 scope N fp) rfl rfl rfl hc i [] s3 σ3 H3 _ I3 (stat fr3) st3 go) λr s4 ⟨u,hr,h4⟩=>?_
     subst hr
     refine thn h4 λ_ s5 ⟨x,H5,I5,r5,y5,st5,fr5⟩=>?_
     have I5':=I5.pinned (stat fr5) (T.obj _ _ st5)
     refine thn (hg _ s5 σ3 H5 x u _ I5' r5 (step x H5 y5)) λ_ s6 ⟨σ6,H6,I6,q6⟩=>?_
     have again:∀ {s7:Shared} {σ7:L2.St} {H7:Hp} {m':Nat},Inv (aG X s2 H2 scope N fp) ([]++gw fp s5.heap) σ7 H7 s7->m' < n->Z (i + 1) m' σ7 H7 ->
         ∃ m,m < n/\∃ i σ' H',Inv (aG X s2 H2 scope N fp) [] σ' H' s7/\tn i s7.heap/\(∀ b ∈ fp,H' b=none)/\Z i m σ' H':=λ{s7 σ7 H7 m'} I7 hm z7=>by
       refine ⟨m',hm,i + 1,σ7,H7,I7.dF,T.keep _ _ _ st5 λb hb o e=>(I7.pin (b,o) (EM _ (EM _ (bM hb e)))).1,λb hb=>?_,z7⟩
       obtain ⟨o,e,d⟩:=T.obj _ _ st5 b hb
       exact (I7.pin (b,o) (EM _ (EM _ (bM hb e)))).2.1
     refine thn (ht _ s6 σ6 H6 _ I6 q6) λok s7 ⟨H7,I7,q7⟩=>?_
     cases ok with
     | false=>
       rw [if_neg (by decide)] at q7
       obtain ⟨m',hm,z7⟩:=q7
       exact again I7 hm z7
     | true=>
       rw [if_pos rfl] at q7
       refine thn (he _ s7 σ6 H7 _ I7 q7) λv' s8 ⟨v,H8,I8,r8,vs,m',q8,l8,hm,z8⟩=>?_
       refine thn (iO (X:=aG X s2 H2 scope N fp) _ s8 σ6 H8 (.ref s2.heap.objs.size) [v] (.ref s2.heap.objs.size) [v'] (λ_ H9=>H9=upd H8 s2.heap.objs.size (.lst (vs++[v]))) I8 rfl (.cons r8 .nil) ⟨_,vs,v,rfl,rfl,q8,l8,rfl⟩) λ_ s9 ⟨_,H9,I9,_,e9⟩=>?_
       subst e9
       exact again I9 hm z8
 exact codeAny_compStart_list loop (T.self _ 0 _ _ _ st4 loop)
end Ev
namespace Hy
open PySem PySem.Spec PyProof.Rows L2
open Ev (D Den ax)
open Classical in
noncomputable def hd (H:Hp) (M:Addr->Prop):Hp:=λb=>if M b then none else H b
theorem ay {H:Hp} {M:Addr->Prop} {b:Addr} {o:HO}:hd H M b=some o ↔ ¬ M b/\H b=some o:=by
 unfold hd
 by_cases h:M b
 · rw [if_pos h]; exact ⟨λz=>(nomatch z),λz=>absurd h z.1⟩
 · rw [if_neg h]; exact ⟨λz=>⟨h,z⟩,λz=>z.2⟩
theorem aA {H H':Hp} {M M':Addr->Prop} (e:aq H H') (m:∀ b,M' b->M b):aq (hd H M) (hd H' M'):=λb _ h=>ay.mpr ⟨λz=>(ay.mp h).1 (m b z),e b _ (ay.mp h).2⟩
theorem aF {H:Hp} {M:Addr->Prop}:aq (hd H M) H:=λ_ _ h=>(ay.mp h).2
inductive Nd where
 | d (x:D) | l (xs:List Nd) | t (xs:List Nd)
structure Ex where
 p:Ej->Hp->HO->Addr->Prop
 mono:∀ {K:Ej} {G G':Hp} {o:HO} {a:Addr},aq G G'->p K G o a->p K G' o a
 ext:∀ {K:Ej} {G:Hp} {o:HO} {a:Addr},p K G o a->(∃ φ,o=.ext φ)\/(∃ ob φ,o=.frz ob (.ext φ))\/∃ kvs,o=.dK kvs\/∃ ob,o=.frz ob (.dK kvs)
inductive Sl where
 | un | d (x:D) | o (xs:List D) | n (t:Nd) | x (E:Ex)
mutual
inductive dQ (K:Ej) (G H:Hp):V->List Addr->Nd->Prop where
 | d {u:V} {x:D} (h:Den K G u x):dQ K G H u [] (.d x)
 | l {a:Addr} {vs:List V} {bs:List Addr} {xs:List Nd} (h:H a=some (.lst vs)) (r:ba K G H vs bs xs):dQ K G H (.ref a) (a :: bs) (.l xs)
 | t {a:Addr} {vs:List V} {bs:List Addr} {xs:List Nd} (h:H a=some (.tup vs)) (r:ba K G H vs bs xs):dQ K G H (.ref a) (a :: bs) (.t xs)
inductive ba (K:Ej) (G H:Hp):List V->List Addr->List Nd->Prop where
 | nil:ba K G H [] [] []
 | cons {v:V} {vs:List V} {b1 b2:List Addr} {s:Nd} {ss:List Nd} (h:dQ K G H v b1 s) (r:ba K G H vs b2 ss):ba K G H (v :: vs) (b1++b2) (s :: ss)
end
noncomputable def cq (K:Ej) (G H:Hp) (v:Option V) (bs:List Addr):Sl->Prop
 | .un=>bs=[]
 | .d x=>bs=[]/\∃ u,v=some u/\Den K G u x
 | .o xs=>∃ a vs,bs=[a]/\v=some (.ref a)/\H a=some (.lst vs)/\ax K G vs xs
 | .n t=>bs.Nodup/\∃ u,v=some u/\dQ K G H u bs t
 | .x E=>∃ a o,bs=[a]/\v=some (.ref a)/\H a=some o/\E.p K G o a
section
variable {K:Ej} {G G' H H':Hp}
mutual
theorem dQ.frame (g:aq G G'):∀ {u:V} {bs:List Addr} {t:Nd},(∀ b ∈ bs,H' b=H b)->dQ K G H u bs t->dQ K G' H' u bs t
 | _,_,_,_,.d h=>.d (h.mono g)
 | _,_,_,e,.l h r=>.l (by rw [e _ (Es ..)]; exact h) (ba.frame g (λb hb=>e b (Ep _ hb)) r)
 | _,_,_,e,.t h r=>.t (by rw [e _ (Es ..)]; exact h) (ba.frame g (λb hb=>e b (Ep _ hb)) r)
theorem ba.frame (g:aq G G'):∀ {vs:List V} {bs:List Addr} {xs:List Nd},(∀ b ∈ bs,H' b=H b)->ba K G H vs bs xs->ba K G' H' vs bs xs
 | _,_,_,_,.nil=>.nil
 | _,_,_,e,.cons h r=>.cons (dQ.frame g (λb hb=>e b (GF _ hb)) h) (ba.frame g (λb hb=>e b (EM _ hb)) r)
end
mutual
theorem dQ.some_of:∀ {u:V} {bs:List Addr} {t:Nd},dQ K G H u bs t->∀ b ∈ bs,∃ o,H b=some o
 | _,_,_,.d _,_,z=>nomatch z
 | _,_,_,.l h r,b,z=>(EE.mp z).elim (λe=>e ▸ ⟨_,h⟩) λz=>ba.some_of r b z
 | _,_,_,.t h r,b,z=>(EE.mp z).elim (λe=>e ▸ ⟨_,h⟩) λz=>ba.some_of r b z
theorem ba.some_of:∀ {vs:List V} {bs:List Addr} {xs:List Nd},ba K G H vs bs xs->∀ b ∈ bs,∃ o,H b=some o
 | _,_,_,.nil,_,z=>nomatch z
 | _,_,_,.cons h r,b,z=>(Ff.mp z).elim (λz=>dQ.some_of h b z) λz=>ba.some_of r b z
end
theorem dQ.mono (g:aq G G') (e:aq H H') {u:V} {bs:List Addr} {t:Nd} (h:dQ K G H u bs t):dQ K G' H' u bs t:=h.frame g λb hb=>by
 obtain ⟨o,q⟩:=h.some_of b hb
 rw [q,e b o q]
theorem cq.mono (g:aq G G') (e:aq H H') {v:Option V} {bs:List Addr}:∀ {s:Sl},cq K G H v bs s->cq K G' H' v bs s
 | .un,h=>h
 | .d _,⟨h,u,e1,h2⟩=>⟨h,u,e1,h2.mono g⟩
 | .o _,⟨a,vs,h1,h2,h3,h4⟩=>⟨a,vs,h1,h2,e _ _ h3,h4.mono g⟩
 | .n _,⟨h0,u,h1,h2⟩=>⟨h0,u,h1,h2.mono g e⟩
 | .x E,⟨a,o,h1,h2,h3,h4⟩=>⟨a,o,h1,h2,e _ _ h3,E.mono g h4⟩
end
noncomputable def own (A:Addr->Prop) (B:Nat->List Addr) (b:Addr):Prop:=A b\/∃ i,b ∈ B i
noncomputable def vw (C:Bool) (A:Addr->Prop) (B:Nat->List Addr):Addr->Prop:=match C with
 | true=>own A B
 | false=>A
structure Sta (K:Ej) (A:Addr->Prop) (H₀:Hp) (τ:List Sl) (B:Nat->List Addr) (σ:L2.St) (H:Hp):Prop where
 same:aq H₀ H
 len:σ.length=τ.length
 sl:∀ i s,τ[i]?=some s->cq K (hd H (own A B)) H (σ[i]?).join (B i) s
 fr:∀ i b,b ∈ B i->H₀ b=none
 uq:∀ i j b,b ∈ B i->b ∈ B j->i=j
 ad:∀ b,A b->∃ o,H₀ b=some o
 bd:∀ i b,b ∈ B i->∃ o,H b=some o
noncomputable def upB (B:Nat->List Addr) (i:Nat) (bs:List Addr):Nat->List Addr:=λj=>if j=i then bs else B j
section
variable {K:Ej} {A:Addr->Prop} {H₀ H H':Hp} {τ:List Sl} {B:Nat->List Addr} {σ:L2.St}
theorem Sta.dm (S:Sta K A H₀ τ B σ H) (b:Addr) (h:own A B b):∃ o,H b=some o:=h.elim (λz=>let ⟨o,q⟩:=S.ad b z; ⟨o,S.same _ _ q⟩) λ⟨i,z⟩=>S.bd i b z
theorem Sta.mono (S:Sta K A H₀ τ B σ H) (e:aq H H'):Sta K A H₀ τ B σ H' where
 same:=S.same.trans e
 len:=S.len
 sl:=λi s h=>(S.sl i s h).mono (aA e λ_ z=>z) e
 fr:=S.fr
 uq:=S.uq
 ad:=S.ad
 bd:=λi b h=>let ⟨o,q⟩:=S.bd i b h; ⟨o,e _ _ q⟩
theorem bG {i j:Nat} {bs:List Addr} {b:Addr} (h:b ∈ upB B i bs j):(j=i/\b ∈ bs)\/(j ≠ i/\b ∈ B j):=by
 unfold upB at h
 by_cases e:j=i
 · rw [if_pos e] at h; exact .inl ⟨e,h⟩
 · rw [if_neg e] at h; exact .inr ⟨e,h⟩
theorem Sta.set (S:Sta K A H₀ τ B σ H) (e:aq H H') {i:Nat} {v:V} {s:Sl} {bs:List Addr} (hf:∀ b ∈ bs,H b=none/\∃ o,H' b=some o) (h:cq K (hd H' λb=>own A B b\/b ∈ bs) H' (some v) bs s) :
   Sta K A H₀ (τ.set i s) (upB B i bs) (σ.set i (some v)) H':=by
 have sub:∀ b,own A (upB B i bs) b->own A B b\/b ∈ bs:=λb z=>z.elim (λz=>.inl (.inl z)) λ⟨j,z⟩=>(bG z).elim (λz=>.inr z.2) λz=>.inl (.inr ⟨j,z.2⟩)
 have some_of:∀ b j,b ∈ B j->∃ o,H b=some o:=λb j z=>S.dm b (.inr ⟨j,z⟩)
 refine ⟨S.same.trans e,by rw [Fl,Fl,S.len],λj t hj=>?_,λj b hb=>?_,λj k b h1 h2=>?_,S.ad,λj b hb=>?_⟩
 · by_cases ej:j=i
   · subst ej
     have hl:j < τ.length:=by
       have:=(Ew.mp hj).1
       rwa [Fl] at this
     rw [Fc hl] at hj
     cases hj
     rw [Fc (by rw [S.len]; exact hl)]
     unfold upB
     rw [if_pos rfl]
     exact h.mono (aA (aq.refl _) sub) (aq.refl _)
   · rw [E2 (λz=>ej z.symm)] at hj
     rw [E2 (λz=>ej z.symm)]
     unfold upB
     rw [if_neg ej]
     have q:=S.sl j t hj
     refine q.mono (λb o z=>?_) e
     obtain ⟨z1,z2⟩:=ay.mp z
     refine ay.mpr ⟨λy=>?_,e _ _ z2⟩
     rcases sub b y with y | y
     · exact z1 y
     · rw [(hf b y).1] at z2; cases z2
 · rcases bG hb with ⟨_,z⟩ | ⟨_,z⟩
   · exact S.same.free (hf b z).1
   · exact S.fr j b z
 · rcases bG h1 with ⟨e1,z1⟩ | ⟨e1,z1⟩ <;> rcases bG h2 with ⟨e2,z2⟩ | ⟨e2,z2⟩
   · exact e1.trans e2.symm
   · obtain ⟨o,q⟩:=some_of b k z2; rw [(hf b z1).1] at q; cases q
   · obtain ⟨o,q⟩:=some_of b j z1; rw [(hf b z2).1] at q; cases q
   · exact S.uq j k b z1 z2
 · rcases bG hb with ⟨_,z⟩ | ⟨_,z⟩
   · exact (hf b z).2
   · obtain ⟨o,q⟩:=S.bd j b z; exact ⟨o,e _ _ q⟩
theorem Sta.less (S:Sta K A H₀ τ B σ H) {i:Nat} {s:Sl} {bs:List Addr} (hb:∀ b ∈ bs,b ∈ B i) (h:∀ G:Hp,aq (hd H (own A B)) G->(∀ b o,b ∈ B i->b ∉ bs->H b=some o->G b=some o)->cq K G H (σ[i]?).join bs s):Sta K A H₀ (τ.set i s) (upB B i bs) σ H:=by
 have sub:∀ b,own A (upB B i bs) b->own A B b:=λb z=>z.elim .inl λ⟨j,z⟩=>(bG z).elim (λz=>.inr ⟨i,hb b z.2⟩) λz=>.inr ⟨j,z.2⟩
 refine ⟨S.same,by rw [Fl,S.len],λj t hj=>?_,λj b h=>?_,λj k b h1 h2=>?_,S.ad,λj b h=>(bG h).elim (λz=>S.bd i b (hb b z.2)) λz=>S.bd j b z.2⟩
 · by_cases ej:j=i
   · subst ej
     have hl:j < τ.length:=by
       have:=(Ew.mp hj).1
       rwa [Fl] at this
     rw [Fc hl] at hj
     cases hj
     unfold upB
     rw [if_pos rfl]
     refine h _ (aA (aq.refl _) sub) λb o z1 z2 z3=>ay.mpr ⟨λy=>?_,z3⟩
     rcases y with y | ⟨m,y⟩
     · obtain ⟨_,q⟩:=S.ad b y
       rw [S.fr j b z1] at q; cases q
     · rcases bG y with ⟨e,y⟩ | ⟨e,y⟩
       · exact z2 y
       · exact e (S.uq m j b y z1)
   · rw [E2 (λz=>ej z.symm)] at hj
     unfold upB
     rw [if_neg ej]
     exact (S.sl j t hj).mono (aA (aq.refl _) sub) (aq.refl _)
 · rcases bG h with ⟨e,z⟩ | ⟨_,z⟩
   · exact S.fr i b (hb b z)
   · exact S.fr j b z
 · rcases bG h1 with ⟨e1,z1⟩ | ⟨e1,z1⟩ <;> rcases bG h2 with ⟨e2,z2⟩ | ⟨e2,z2⟩
   · exact e1.trans e2.symm
   · exact absurd (S.uq k i b z2 (hb b z1)) e2
   · exact absurd (S.uq j i b z1 (hb b z2)) e1
   · exact S.uq j k b z1 z2
end
end Hy
namespace Hy
open PySem PySem.Spec PyProof.Rows L2
open Ev (D Den ax aJ aH aw aX aI)
noncomputable def Fr (H H':Hp) (bs:List Addr):Prop:=∀ b ∈ bs,H b=none/\∃ o,H' b=some o
noncomputable def dE (K:Ej) (C:Bool) (τ:List Sl) (s:Sl):TE:=λσ H Q=>∃ A H₀ B,Sta K A H₀ τ B σ H /\
 ∀ v H' bs,aq H H'->Fr H H' bs->cq K (hd H' λb=>vw C A B b\/b ∈ bs) H' (some v) bs s->Q v H'
noncomputable def dA (K:Ej) (C:Bool) (τ:List Sl) (ds:List D):TA:=λσ H Q=>∃ A H₀ B,Sta K A H₀ τ B σ H /\
 ∀ vs H',aq H H'->ax K (hd H' (vw C A B)) vs ds->Q vs H'
noncomputable def dT (K:Ej) (τ:List Sl) (c:Bool):TT:=λσ H Q=>∃ A H₀ B,Sta K A H₀ τ B σ H/\∀ H',aq H H'->Q c H'
structure Po where
 nx:List Sl->Prop
 rt:Sl->Prop
 bk:List Sl->Prop:=λ_=>False
 ct:List Sl->Prop:=λ_=>False
 xc:Hp->Prop:=λ_=>True
structure Meets (K:Ej) (A:Addr->Prop) (H₀:Hp) (N:Po) (D:Ends):Prop where
 nx:∀ τ B σ H,N.nx τ->Sta K A H₀ τ B σ H->D.nx σ H
 bk:∀ τ B σ H,N.bk τ->Sta K A H₀ τ B σ H->D.bk σ H
 ct:∀ τ B σ H,N.ct τ->Sta K A H₀ τ B σ H->D.ct σ H
 rt:∀ v H bs s,N.rt s->aq H₀ H->Fr H₀ H bs->cq K (hd H λb=>A b\/b ∈ bs) H (some v) bs s->D.rt v H
 xc:∀ H,aq H₀ H->N.xc H
noncomputable def dS (K:Ej) (τ:List Sl) (N:Po):TS:=λD σ H=>∃ A H₀ B,Sta K A H₀ τ B σ H/\Meets K A H₀ N D
theorem peW {X:Cx} {e:Expr} {t t':TE} (h:PE X e t) (f:∀ σ H Q,t' σ H Q->t σ H Q):PE X e t':=λpins s σ H Q I q=>h pins s σ H Q I (f σ H Q q)
theorem ptW {X:Cx} {e:Expr} {t t':TT} (h:PT X e t) (f:∀ σ H Q,t' σ H Q->t σ H Q):PT X e t':=λpins s σ H Q I q=>h pins s σ H Q I (f σ H Q q)
theorem pwW {X:Cx} {e:Expr} {t t':TT} (h:PW X e t) (f:∀ σ H Q,t' σ H Q->t σ H Q):PW X e t':=λwh pins s σ H Q I q=>h wh pins s σ H Q I (f σ H Q q)
theorem paW {X:Cx} {e:List Expr} {t t':TA} (h:PA X e t) (f:∀ σ H Q,t' σ H Q->t σ H Q):PA X e t':=λp pins s σ H Q I q=>h p pins s σ H Q I (f σ H Q q)
theorem psW {X:Cx} {e:Stmt} {t t':TS} (h:PS X e t) (f:∀ D σ H,t' D σ H->t D σ H):PS X e t':=λpins s σ H D I q=>h pins s σ H D I (f D σ H q)
theorem rA {X:Cx} {e:List Stmt} {t t':TS} (h:PSs X e t) (f:∀ D σ H,t' D σ H->t D σ H):PSs X e t':=λpins s σ H D I q=>h pins s σ H D I (f D σ H q)
section
variable {K:Ej} {C:Bool} {τ:List Sl} {A:Addr->Prop} {H₀ H H':Hp} {B:Nat->List Addr} {σ:L2.St} {x y z:D} {Q:VK}
theorem kl {b:Addr} (h:vw C A B b):own A B b:=by
 cases C with
 | true=>exact h
 | false=>exact .inl h
theorem Sta.vd (S:Sta K A H₀ τ B σ H) (b:Addr) (h:vw C A B b):∃ o,H b=some o:=S.dm b (kl h)
theorem aV (S:Sta K A H₀ τ B σ H) (k:∀ v H',aq H H'->Den K (hd H' (vw C A B)) v x->Q v H'):dE K C τ (.d x) σ H Q:=
 ⟨A,H₀,B,S,λv H' bs e _ ⟨hb,u,eu,h⟩=>by
   cases eu
   exact k v H' e (h.mono (aA (aq.refl _) λ_ z=>.inl z))⟩
theorem eU (h:dE K C τ (.d x) σ H Q):∃ A H₀ B,Sta K A H₀ τ B σ H/\∀ v H',aq H H'->Den K (hd H' (vw C A B)) v x->Q v H':=by
 obtain ⟨A,H₀,B,S,k⟩:=h
 exact ⟨A,H₀,B,S,λv H' e d=>k v H' [] e (λ_ z=>nomatch z) ⟨rfl,v,rfl,d.mono (aA (aq.refl _) λ_ z=>z.elim id λz=>nomatch z)⟩⟩
theorem cZ {ds:List D} {Q:List V->Hp->Prop} (S:Sta K A H₀ τ B σ H) (k:∀ vs H',aq H H'->ax K (hd H' (vw C A B)) vs ds->Q vs H'):dA K C τ ds σ H Q:=⟨A,H₀,B,S,k⟩
theorem jJ {M:Addr->Prop} {p:Addr} {o:HO} (hM:∀ b,M b->∃ o,H b=some o) (hp:H p=none):hd (upd H p o) M p=some o:=
 ay.mpr ⟨λz=>(by obtain ⟨o,q⟩:=hM p z; rw [hp] at q; cases q),aE⟩
mutual
noncomputable def ndD:Nd->D
 | .d x=>x
 | .l xs=>.lst (nG xs)
 | .t xs=>.tup (nG xs)
noncomputable def nG:List Nd->List D
 | []=>[]
 | x :: xs=>ndD x :: nG xs
end
noncomputable def fzD:Sl->Option D
 | .un=>none
 | .d x=>some x
 | .o xs=>some (.lst xs)
 | .n t=>some (ndD t)
 | .x _=>none
mutual
theorem dQ.den {G G':Hp} (g:aq G G'):∀ {u:V} {bs:List Addr} {t:Nd},(∀ b ∈ bs,∀ o,H b=some o->G' b=some o)->dQ K G H u bs t->Den K G' u (ndD t)
 | _,_,_,_,.d h=>h.mono g
 | _,_,_,e,.l h r=>.lst (SqL.of (e _ (Es ..) _ h)) (ba.den g (λb hb=>e b (Ep _ hb)) r)
 | _,_,_,e,.t h r=>.tup (SqT.of (e _ (Es ..) _ h)) (ba.den g (λb hb=>e b (Ep _ hb)) r)
theorem ba.den {G G':Hp} (g:aq G G'):∀ {vs:List V} {bs:List Addr} {xs:List Nd},(∀ b ∈ bs,∀ o,H b=some o->G' b=some o)->ba K G H vs bs xs->ax K G' vs (nG xs)
 | _,_,_,_,.nil=>.nil
 | _,_,_,e,.cons h r=>.cons (dQ.den g (λb hb=>e b (GF _ hb)) h) (ba.den g (λb hb=>e b (EM _ hb)) r)
end
theorem cq.den {G G':Hp} {v:Option V} {bs:List Addr} {s:Sl} (h:cq K G H v bs s) (g:aq G G') (hv:∀ b ∈ bs,∀ o,H b=some o->G' b=some o) (e:fzD s=some x):∃ u,v=some u/\Den K G' u x:=by
 cases s with
 | un=>cases e
 | d y=>cases e; obtain ⟨_,u,e,q⟩:=h; exact ⟨u,e,q.mono g⟩
 | o xs=>
   cases e
   obtain ⟨a,vs,rfl,h2,h3,h4⟩:=h
   exact ⟨_,h2,.lst (SqL.of (hv a (Es ..) _ h3)) (h4.mono g)⟩
 | n t=>
   cases e
   obtain ⟨_,u,e,q⟩:=h
   exact ⟨u,e,q.den g hv⟩
 | x E=>cases e
theorem slot_of {i:Nat} {u:V} (h:(σ[i]?).join=some u):σ[i]?=some (some u):=by
 cases e:σ[i]? with
 | none=>rw [e] at h; cases h
 | some o=>rw [e] at h; exact congrArg some h
end
section
variable {X:Cx} {C:Bool} {τ:List Sl} {x y z:D} {a b e:Expr} {es:List Expr} {pos:Pos}
theorem aa (i:Nat) {n:Str} {x:D} (h:τ[i]?=some (.d x):=by rfl) (hN:X.N[i]?=some n:=by rfl) (hv:Vis X.env.scope n:=by first | exact Gw rfl | exact FG (Gw rfl) | exact FG (FG rfl))
   (hd:(n == ("__debug__" : Str))=false:=by decide) (hcd:(n == ("__classdict__" : Str))=false:=by decide):PE X (.Name n pos) (dE X.K C τ (.d x)):=peW (bV hN hv hd hcd) λσ H Q q=>by
 obtain ⟨A,H₀,B,S,k⟩:=eU q
 obtain ⟨_,u,e,d⟩:=S.sl i _ h
 exact ⟨u,slot_of e,k u H (aq.refl _) (d.mono (aA (aq.refl _) λ_ z=>kl z))⟩
theorem wV (i:Nat) {n:Str} {s:Sl} {x:D} (h:τ[i]?=some s:=by rfl) (hx:fzD s=some x:=by rfl) (hN:X.N[i]?=some n:=by rfl) (hv:Vis X.env.scope n:=by first | exact Gw rfl | exact FG (Gw rfl) | exact FG (FG rfl))
   (hd:(n == ("__debug__" : Str))=false:=by decide) (hcd:(n == ("__classdict__" : Str))=false:=by decide):PE X (.Name n pos) (dE X.K false τ (.d x)):=peW (bV hN hv hd hcd) λσ H Q q=>by
 obtain ⟨A,H₀,B,S,k⟩:=eU q
 obtain ⟨u,e,d⟩:=(S.sl i _ h).den (G':=Hy.hd H A) (aA (aq.refl _) λ_ z=>.inl z) (λb hb o ho=>ay.mpr ⟨λz=>(by obtain ⟨_,q⟩:=S.ad b z; rw [S.fr i b hb] at q; cases q),ho⟩) hx
 exact ⟨u,slot_of e,k u H (aq.refl _) d⟩
theorem oY {v:V} (h:PE X e (tC v)) (d:∀ H,Den X.K H v x):PE X e (dE X.K C τ (.d x)):=peW h λσ H Q q=>by
 obtain ⟨A,H₀,B,S,k⟩:=eU q
 exact k v H (aq.refl _) (d _)
theorem af {i j}:PE X (.Constant (.int i) j pos) (dE X.K C τ (.d (.int i))):=oY qh λ_=>.int
theorem p7 {b j}:PE X (.Constant (.bool b) j pos) (dE X.K C τ (.d (.bl b))):=oY Ca λ_=>.bl
theorem Cu {j}:PE X (.Constant .none j pos) (dE X.K C τ (.d .non)):=oY Bj λ_=>.non
theorem cj {s j}:PE X (.Constant (.str s) j pos) (dE X.K C τ (.d (.str s))):=oY AR λ_=>.str
theorem qL {n:Str} {i:Int} (hm:∃ t,X.mg n=some (.int i t)) (hg:Gl X n:=by rfl) (hd:(n == ("__debug__" : Str))=false:=by decide):PE X (.Name n pos) (dE X.K C τ (.d (.int i))):=by
 obtain ⟨t,hm⟩:=hm
 exact oY (yA (v:=.int i) hg hm ⟨t,rfl⟩ hd) λ_=>.int
theorem a8 {s:Sl} (h:PE X e (dE X.K C τ s)) (hx:fzD s=some x:=by rfl):PE X e (dE X.K C τ (.d x)):=peW h λσ H Q q=>by
 obtain ⟨A,H₀,B,S,k⟩:=eU q
 refine ⟨A,H₀,B,S,λv H' bs e hf q=>?_⟩
 have vd:=S.vd (C:=C)
 obtain ⟨u,e1,d⟩:=q.den (G':=Hy.hd H' (vw C A B)) (aA (aq.refl _) λ_ z=>.inl z) (λb hb o ho=>ay.mpr ⟨λz=>(by obtain ⟨_,q⟩:=vd b z; rw [(hf b hb).1] at q; cases q),ho⟩) hx
 cases e1
 exact k v H' e d
noncomputable def flat:D->Bool
 | .tup _=>false
 | .lst _=>false
 | .box _=>false
 | _=>true
noncomputable def bP (X:Cx) (f:Value->Value->Sem Value) (x y z:D):Prop:=∃ r:R2,OpR X f r /\
 ∀ (M:Addr->Prop) (v w:V) (H:Hp) (Q:VK),(∀ b,M b->∃ o,H b=some o)->Den X.K (hd H M) v x->Den X.K (hd H M) w y->(∀ u H',aq H H'->Den X.K (hd H' M) u z->Q u H')->r v w H Q
theorem two {r:R2} (hr:∀ (M:Addr->Prop) (v w:V) (H:Hp) (Q:VK),(∀ b,M b->∃ o,H b=some o)->Den X.K (hd H M) v x->Den X.K (hd H M) w y->(∀ u H',aq H H'->Den X.K (hd H' M) u z->Q u H')->r v w H Q) :
   ∀ σ H Q,dE X.K C τ (.d z) σ H Q->tOp r (dE X.K C τ (.d x)) (dE X.K C τ (.d y)) σ H Q:=by
 intro σ H Q h
 obtain ⟨A,H₀,B,S,k⟩:=eU h
 refine aV S λv H1 e1 d1=>aV (S.mono e1) λw H2 e2 d2=>hr (vw C A B) v w H2 Q ((S.mono e1).mono e2).vd (d1.mono (aA e2 λ_ z=>z)) d2 λu H' e3 d3=>k u H' (e1.trans (e2.trans e3)) d3
theorem aC {op:Operator} (ha:PE X a (dE X.K C τ (.d x))) (hb:PE X b (dE X.K C τ (.d y))) (ho:bP X (binaryOp op) x y z):PE X (.BinOp a op b pos) (dE X.K C τ (.d z)):=by
 obtain ⟨r,h1,h2⟩:=ho
 exact peW (wu h1 ha hb) (two h2)
theorem gH {op:CmpOp} (ha:PE X a (dE X.K C τ (.d x))) (hb:PE X b (dE X.K C τ (.d y))) (ho:bP X (compareOp op) x y z) (hm:behindInMarks op b=false:=by first | exact xG _ | rfl):PE X (.Compare a [op] [b] pos) (dE X.K C τ (.d z)):=by
 obtain ⟨r,h1,h2⟩:=ho
 exact peW (yE h1 ha hb hm) (two h2)
theorem u6 {t:TE} {c:Bool} (h:∀ σ H Q,dE X.K false τ (.d (.bl c)) σ H Q->t σ H Q):∀ σ H Q,dT X.K τ c σ H Q->t σ H λx H'=>∃ k,x=.bl k/\Q k H':=λσ H Q ⟨A,H₀,B,S,k⟩=>
 h σ H _ (aV S λv H' e d=>by cases d; exact ⟨c,rfl,k H' e⟩)
theorem aN {op:CmpOp} {c:Bool} (ha:PE X a (dE X.K false τ (.d x))) (hb:PE X b (dE X.K false τ (.d y))) (ho:bP X (compareOp op) x y (.bl c)) (hm:behindInMarks op b=false:=by first | exact xG _ | rfl):PT X (.Compare a [op] [b] pos) (dT X.K τ c):=by
 obtain ⟨r,h1,h2⟩:=ho
 exact ptW (yf h1 ha hb hm) (u6 (two h2))
theorem bj {c:Bool} (h:PE X e (dE X.K false τ (.d (.bl c)))) (he:∀ whole,isTrue e X.env whole=(do let v <- whole; standAt e.pos; holding [v] (truthy v)):=by intro _; rfl):PT X e (dT X.K τ c):=
 ptW (Al h he) (u6 λ_ _ _ q=>q)
theorem lH {g:Int->Int->V} {P:Int->Int->Prop} {i j:Int} (hc:P i j) (hz:∀ K H,Den K H (g i j) z):∀ (M:Addr->Prop) (v w:V) (H:Hp) (Q:VK),(∀ b,M b->∃ o,H b=some o)->Den X.K (hd H M) v (.int i)->Den X.K (hd H M) w (.int j) ->
   (∀ u H',aq H H'->Den X.K (hd H' M) u z->Q u H')->rI P g v w H Q:=λ_ v w H Q _ d1 d2 k=>by
 cases d1
 cases d2
 exact ⟨i,j,rfl,rfl,hc,k _ H (aq.refl _) (hz _ _)⟩
theorem iX {g:Int->Int->V} {i j:Int} (hz:∀ K H,Den K H (g i j) z):∀ (M:Addr->Prop) (v w:V) (H:Hp) (Q:VK),(∀ b,M b->∃ o,H b=some o)->Den X.K (hd H M) v (.int i)->Den X.K (hd H M) w (.int j) ->
   (∀ u H',aq H H'->Den X.K (hd H' M) u z->Q u H')->rI0 g v w H Q:=λ_ v w H Q _ d1 d2 k=>by
 cases d1
 cases d2
 exact ⟨i,j,rfl,rfl,k _ H (aq.refl _) (hz _ _)⟩
variable {i j:Int}
theorem a5:bP X (binaryOp .Add) (.int i) (.int j) (.int (i + j)):=⟨_,AM,iX λ_ _=>.int⟩
theorem i3:bP X (binaryOp .Sub) (.int i) (.int j) (.int (i - j)):=⟨_,Au,iX λ_ _=>.int⟩
theorem CK:bP X (binaryOp .BitAnd) (.int i) (.int j) (.int (Jr i j)):=⟨_,BA,iX λ_ _=>.int⟩
theorem DZ:bP X (binaryOp .BitOr) (.int i) (.int j) (.int (JG i j)):=⟨_,Df,iX λ_ _=>.int⟩
theorem aJ.ok' {i j:Int} (h:aJ i j):IntMulOk i j:=by
 have b:∀ {k:Int} {n:Nat},k.natAbs.log2 < n->Builtin.Int.intBits k<=n:=λ{k n} q=>by
   unfold Builtin.Int.intBits
   split
   · exact Fg _
   · exact q
 rcases h with h | h | ⟨h1,h2⟩
 · exact .of_left (b h)
 · exact .of_right (b h)
 · exact .of_bits (EH (b h1) (by decide)) (EH (b h2) (by decide))
theorem a7 (h:aJ i j):bP X (binaryOp .Mult) (.int i) (.int j) (.int (i * j)):=⟨rI aJ λi j=>.int (i * j),opI λ_ _ _ _ _ _ _ hc q=>mul_int q (aJ.ok' hc),lH h λ_ _=>.int⟩
theorem bt (h:aH j):bP X (binaryOp .FloorDiv) (.int i) (.int j) (.int (i.fdiv j)):=⟨rI (λ_ j=>aH j) λi j=>.int (i.fdiv j),opI λ_ _ _ _ _ _ _ hc q=>floordiv_int hc.1 q (.inl (PyProof.noPylong_of_log2 hc.2)),lH h λ_ _=>.int⟩
theorem cb (h:j ≠ 0):bP X (binaryOp .Mod) (.int i) (.int j) (.int (i.fmod j)):=⟨_,ya,lH h λ_ _=>.int⟩
theorem xn (h:y9 i j):bP X (binaryOp .Pow) (.int i) (.int j) (.int (i ^ j.toNat)):=⟨_,AL,lH h λ_ _=>.int⟩
theorem zK (h:y9 i j):bP X (binaryOp .LShift) (.int i) (.int j) (.int (i * 2 ^ j.toNat)):=⟨_,BB,lH h λ_ _=>.int⟩
theorem Cn (h:0<=j):bP X (binaryOp .RShift) (.int i) (.int j) (.int (i / 2 ^ j.toNat)):=⟨_,BK,lH h λ_ _=>.int⟩
theorem x8:bP X (compareOp .Lt) (.int i) (.int j) (.bl (decide (i < j))):=⟨_,Cb,iX λ_ _=>.bl⟩
theorem CV:bP X (compareOp .LtE) (.int i) (.int j) (.bl (decide (i<=j))):=⟨_,DC,iX λ_ _=>.bl⟩
theorem mr:bP X (compareOp .Gt) (.int i) (.int j) (.bl (decide (j < i))):=⟨_,C3,iX λ_ _=>.bl⟩
theorem yn:bP X (compareOp .GtE) (.int i) (.int j) (.bl (decide (j<=i))):=⟨_,Cw,iX λ_ _=>.bl⟩
theorem fW:bP X (compareOp .Eq) (.int i) (.int j) (.bl (decide (i=j))):=⟨_,zT,λ_ v w H Q _ d1 d2 k=>by
 cases d1
 cases d2
 exact ⟨rfl,by rw [show decide (V.int i=V.int j)=decide (i=j) by simp]; exact k _ H (aq.refl _) .bl⟩⟩
theorem j3:bP X (compareOp .NotEq) (.int i) (.int j) (.bl (!decide (i=j))):=⟨_,zR,λ_ v w H Q _ d1 d2 k=>by
 cases d1
 cases d2
 exact ⟨rfl,by rw [show decide (V.int i=V.int j)=decide (i=j) by simp]; exact k _ H (aq.refl _) .bl⟩⟩
theorem oQ (h:PE X a (dE X.K C τ (.d (.int i)))):PE X (.UnaryOp .USub a pos) (dE X.K C τ (.d (.int (-i)))):=peW (CO Ar h) λσ H Q q=>by
 obtain ⟨A,H₀,B,S,k⟩:=eU q
 refine aV S λv H1 e1 d1=>?_
 cases d1
 exact ⟨i,rfl,k _ H1 e1 .int⟩
theorem uT {e:Expr}:PE X e λ_ _ _=>False:=λ_ _ _ _ _ _ h=>h.elim
theorem pw_no {e:Expr}:PW X e λ_ _ _=>False:=λ_ _ _ _ _ _ _ h=>h.elim
variable {p q:Bool} {c:Expr} {rest:List Expr}
theorem lW {op} {s:Sl} (h:PE X a (dE X.K C τ s)):PE X (.BoolOp op [a] pos) (dE X.K C τ s):=BF h
theorem kn (ha:PE X a (dE X.K C τ (.d (.bl p)))) (hb:p=true->PE X (.BoolOp .And (b :: rest) pos) (dE X.K C τ (.d (.bl q)))):PE X (.BoolOp .And (a :: b :: rest) pos) (dE X.K C τ (.d (.bl (p && q)))):=by
 cases p with
 | false=>
   refine peW (xw ha uT) λσ H Q z=>?_
   obtain ⟨A,H₀,B,S,k⟩:=eU z
   exact aV S λv H' e d=>by cases d; exact ⟨_,rfl,k _ H' e .bl⟩
 | true=>
   refine peW (xw ha (hb rfl)) λσ H Q z=>?_
   obtain ⟨A,H₀,B,S,k⟩:=eU z
   exact aV S λv H' e d=>by cases d; exact ⟨_,rfl,aV (S.mono e) λv H2 e2 d2=>k v H2 (e.trans e2) d2⟩
theorem C2 (ha:PE X a (dE X.K C τ (.d (.bl p)))):PE X (.UnaryOp .Not a pos) (dE X.K C τ (.d (.bl (!p)))):=peW (Br ha) λσ H Q z=>by
 obtain ⟨A,H₀,B,S,k⟩:=eU z
 exact aV S λv H' e d=>by cases d; exact ⟨_,rfl,k _ H' e .bl⟩
theorem iq (ha:PT X a (dT X.K τ p)):PW X (.BoolOp .And [a] pos) (dT X.K τ p):=pw_and1 ha
theorem de (ha:PT X a (dT X.K τ p)):PW X (.BoolOp .Or [a] pos) (dT X.K τ p):=pw_or1 ha
theorem gG (ha:PT X a (dT X.K τ p)) (hb:p=true->PW X (.BoolOp .And (b :: rest) pos) (dT X.K τ q)):PW X (.BoolOp .And (a :: b :: rest) pos) (dT X.K τ (p && q)):=by
 cases p with
 | false=>exact pwW (pw_and ha pw_no) λσ H Q ⟨A,H₀,B,S,k⟩=>⟨A,H₀,B,S,λH' e=>t9 (k H' e)⟩
 | true=>exact pwW (pw_and ha (hb rfl)) λσ H Q ⟨A,H₀,B,S,k⟩=>⟨A,H₀,B,S,λH' e=>q9 (⟨A,H₀,B,S.mono e,λH2 e2=>k H2 (e.trans e2)⟩)⟩
theorem dn (ha:PT X a (dT X.K τ p)) (hb:p=false->PW X (.BoolOp .Or (b :: rest) pos) (dT X.K τ q)):PW X (.BoolOp .Or (a :: b :: rest) pos) (dT X.K τ (p || q)):=by
 cases p with
 | true=>exact pwW (pw_or ha pw_no) λσ H Q ⟨A,H₀,B,S,k⟩=>⟨A,H₀,B,S,λH' e=>q9 (k H' e)⟩
 | false=>exact pwW (pw_or ha (hb rfl)) λσ H Q ⟨A,H₀,B,S,k⟩=>⟨A,H₀,B,S,λH' e=>t9 (⟨A,H₀,B,S.mono e,λH2 e2=>k H2 (e.trans e2)⟩)⟩
theorem bx (ha:PT X a (dT X.K τ p)):PT X (.UnaryOp .Not a pos) (dT X.K τ (!p)):=ptW (BG ha) λσ H Q ⟨A,H₀,B,S,k⟩=>⟨A,H₀,B,S,λH' e=>k H' e⟩
theorem j5 {s:Sl} (hc:PT X c (dT X.K τ p)) (ha:p=true->PE X a (dE X.K C τ s)) (hb:p=false->PE X b (dE X.K C τ s)):PE X (.IfExp c a b pos) (dE X.K C τ s):=by
 have fin:∀ {σ H H' Q} {A:Addr->Prop} {H₀ B},Sta X.K A H₀ τ B σ H->(∀ v H' bs,aq H H'->Fr H H' bs->cq X.K (hd H' λb=>vw C A B b\/b ∈ bs) H' (some v) bs s->Q v H')->aq H H'->dE X.K C τ s σ H' Q:=λS k e=>
   ⟨_,_,_,S.mono e,λv H2 bs e2 hf h=>k v H2 bs (e.trans e2) (λb hb=>⟨e.free (hf b hb).1,(hf b hb).2⟩) h⟩
 cases p with
 | true=>exact peW (pI hc (ha rfl) uT) λσ H Q ⟨A,H₀,B,S,k⟩=>⟨A,H₀,B,S,λH' e=>q9 (fin S k e)⟩
 | false=>exact peW (pI hc uT (hb rfl)) λσ H Q ⟨A,H₀,B,S,k⟩=>⟨A,H₀,B,S,λH' e=>t9 (fin S k e)⟩
theorem yT {op op':CmpOp} (ha:PE X a (dE X.K C τ (.d x))) (hb:PE X b (dE X.K C τ (.d y))) (hc:PE X c (dE X.K C τ (.d z))) (h1:bP X (compareOp op) x y (.bl p)) (h2:bP X (compareOp op') y z (.bl q))
   (hm:lastMarks [op,op'] [b,c]=false:=by with_unfolding_all rfl):PE X (.Compare a [op,op'] [b,c] pos) (dE X.K C τ (.d (.bl (p && q))))/\(C=false->PT X (.Compare a [op,op'] [b,c] pos) (dT X.K τ (p && q))):=by
 obtain ⟨r,o1,k1⟩:=h1
 obtain ⟨r',o2,k2⟩:=h2
 have key:∀ σ H Q,dE X.K C τ (.d (.bl (p && q))) σ H Q->rb r r' (dE X.K C τ (.d x)) (dE X.K C τ (.d y)) (dE X.K C τ (.d z)) σ H Q:=λσ H Q h=>by
   obtain ⟨A,H₀,B,S,k⟩:=eU h
   refine aV S λv H1 e1 d1=>aV (S.mono e1) λw H2 e2 d2=>k1 (vw C A B) v w H2 _ ((S.mono e1).mono e2).vd (d1.mono (aA e2 λ_ z=>z)) d2 λu H3 e3 d3=>?_
   cases d3
   refine ⟨p,rfl,?_⟩
   cases p with
   | false=>exact t9 (k _ H3 (e1.trans (e2.trans e3)) .bl)
   | true=>exact q9 (aV (((S.mono e1).mono e2).mono e3) λw' H4 e4 d4=>k2 (vw C A B) w w' H4 Q ((((S.mono e1).mono e2).mono e3).mono e4).vd (d2.mono (aA (e3.trans e4) λ_ z=>z)) d4 λu H5 e5 d5=>k u H5 (e1.trans (e2.trans (e3.trans (e4.trans e5)))) d5)
 exact ⟨peW (vV o1 o2 ha hb hc hm) key,λhC=>by subst hC; exact ptW (xi o1 o2 ha hb hc hm) (u6 key)⟩
theorem ag:PA X [] (dA X.K C τ []):=paW iC λσ H Q ⟨A,H₀,B,S,k⟩=>k [] H (aq.refl _) .nil
theorem ae {ds:List D} (ha:PE X e (dE X.K C τ (.d x))) (hr:PA X es (dA X.K C τ ds)) (hs:starEach (e :: es) X.env=(false,eval e X.env) :: starEach es X.env:=by rfl):PA X (e :: es) (dA X.K C τ (x :: ds)):=paW (dX ha hr hs) λσ H Q ⟨A,H₀,B,S,k⟩=>
 aV S λv H1 e1 d1=>cZ (S.mono e1) λvs H2 e2 d2=>k _ H2 (e1.trans e2) (.cons (d1.mono (aA e2 λ_ z=>z)) d2)
theorem cC {ds:List D} {m} (h:PA X es (dA X.K C τ ds)) (hl:Nat.ble ds.length 1000=true:=by rfl):PE X (.Tuple es m pos) (dE X.K C τ (.d (.tup ds))):=peW (AK h) λσ H Q q=>by
 obtain ⟨A,H₀,B,S,k⟩:=eU q
 refine cZ S λvs H1 e1 d1=>⟨by rw [d1.length]; exact Gy (lO (Nat.le_of_ble_eq_true hl)),λp hp=>k _ _ (e1.trans (aw hp _)) ?_⟩
 exact .tup (SqT.of (jJ (S.mono e1).vd hp)) (d1.mono (aA (aw hp _) λ_ z=>z))
theorem bq {ds:List D} (h:PA X es (dA X.K C τ ds)) (hl:Nat.ble ds.length 1000=true:=by rfl):PE X (.List es pos) (dE X.K C τ (.o ds)):=peW (Bh h) λσ H Q ⟨A,H₀,B,S,k⟩=>
 cZ S λvs H1 e1 d1=>⟨by rw [d1.length]; exact Gy (lO (Nat.le_of_ble_eq_true hl)),λp hp=>k _ _ [p] (e1.trans (aw hp _)) (λb hb=>by
   obtain rfl:=Em.mp hb
   exact ⟨e1.free hp,_,aE⟩) ⟨p,vs,rfl,rfl,aE,d1.mono λb o z=>by
     obtain ⟨z1,z2⟩:=ay.mp z
     refine ay.mpr ⟨λy=>?_,aw hp _ _ _ z2⟩
     rcases y with y | y
     · exact z1 y
     · rw [Em.mp y] at z2; rw [hp] at z2; cases z2⟩⟩
end
noncomputable def spD (K:Ej) (Φ:List D->Sl->Prop):Sp:=λvs H Q _=>∃ A ds s,(∀ b,A b->∃ o,H b=some o)/\ax K (hd H A) vs ds/\Φ ds s /\
 ∀ v H' bs,aq H H'->Fr H H' bs->cq K (hd H' λb=>A b\/b ∈ bs) H' (some v) bs s->Q v H'
noncomputable def Cal (P:Program) (w:World) (K:Ej) (mg:Str->Option Value) (base:Heap) (k:Nat) (n:Str) (Φ:List D->Sl->Prop):Prop:=
 ∃ f fd ps,aS P w K mg base CX0 k f fd ps (spD K Φ)/\mg n=some (.ref f)/\FU K (.ref f)=true/\Binds K fd ps []
theorem Cal.mono {P:Program} {w:World} {K:Ej} {mg:Str->Option Value} {base:Heap} {j k:Nat} {n:Str} {Φ:List D->Sl->Prop} (c:Cal P w K mg base j n Φ) (h:j<=k):Cal P w K mg base k n Φ:=
 let ⟨f,fd,ps,F,r⟩:=c; ⟨f,fd,ps,F.mono h,r⟩
noncomputable def ao:List Str:=["len","abs","max","min","int","bool","list","tuple","str","isinstance","range","enumerate","all","zip","sorted","sum","any","reversed"]
structure Bk (X:Cx) (k:Nat):Prop where
 room:eS k X.A
 calm:X.calm=true
 blt:∀ x ∈ ao,X.mg x=none
 po:PassesOwn (model X.prog X.w) X.A X.env X.xe
section
variable {X:Cx} {C:Bool} {τ:List Sl} {x y z:D} {a b e:Expr} {es:List Expr} {pos p:Pos} {k:Nat} {s:Sl} {ds:List D} {i j:Int}
theorem x_call {n:Str} {Φ:List D->Sl->Prop} (B:Bk X k) (c:Cal X.prog X.w X.K X.mg X.base k n Φ) (ha:PA X (e :: es) (dA X.K C τ ds)) (h:Φ ds s) (hg:Gl X n:=by rfl) (hdb:(n == ("__debug__" : Str))=false:=by decide)
   (he:starEach (e :: es) X.env=(false,eval e X.env) :: starEach es X.env:=by rfl) (hpl:(backTo pos (starEach es X.env)).any (·.1)=false:=by rfl):PE X (.Call (.Name n p) (e :: es) [] pos) (dE X.K C τ s):=by
 obtain ⟨f,fd,ps,F,hm,hk,hb⟩:=c
 refine peW (r6 F B.room hg hm hk hb .nil zO ha hdb he hpl) λσ H Q ⟨A,H₀,B,S,q⟩=>cZ S λvs H1 e1 d1=>?_
 rw [FC]
 exact ⟨vw C A B,ds,s,(S.mono e1).vd,d1,h,λv H' bs e2 hf h2=>q v H' bs (e1.trans e2) (λb hb=>⟨e1.free (hf b hb).1,(hf b hb).2⟩) h2⟩
noncomputable def ij (X:Cx) (f:Value) (ds:List D) (s:Sl):Prop:=∃ r:List V->Hp->VK->Prop,cW X f r /\
 ∀ (M:Addr->Prop) (vs:List V) (H:Hp) (Q:VK),(∀ b,M b->∃ o,H b=some o)->ax X.K (hd H M) vs ds->(∀ u H' bs,aq H H'->Fr H H' bs->cq X.K (hd H' λb=>M b\/b ∈ bs) H' (some u) bs s->Q u H')->r vs H Q
theorem xb {r:List V->Hp->VK->Prop} (hr:∀ (M:Addr->Prop) (vs:List V) (H:Hp) (Q:VK),(∀ b,M b->∃ o,H b=some o)->ax X.K (hd H M) vs ds->(∀ u H' bs,aq H H'->Fr H H' bs->cq X.K (hd H' λb=>M b\/b ∈ bs) H' (some u) bs s->Q u H')->r vs H Q) :
   ∀ σ H Q,dE X.K C τ s σ H Q->tCB r (dA X.K C τ ds) σ H Q:=λσ H Q ⟨A,H₀,B,S,q⟩=>
 cZ S λvs H1 e1 d1=>hr (vw C A B) vs H1 Q (S.mono e1).vd d1 λv H' bs e2 hf h2=>q v H' bs (e1.trans e2) (λb hb=>⟨e1.free (hf b hb).1,(hf b hb).2⟩) h2
theorem bK {n:Str} {id:String} (B:Bk X k) (ha:PA X (e :: es) (dA X.K C τ ds)) (c:ij X (.builtin id) ds s) (hn:n ∈ ao:=by decide) (hg:Gl X n:=by rfl) (hv:bootBuiltins n=some (.builtin id):=by decide +kernel) (h1:n ≠ "__name__":=by decide) (hdb:(n == ("__debug__" : Str))=false:=by decide)
   (he:starEach (e :: es) X.env=(false,eval e X.env) :: starEach es X.env:=by rfl) (hpl:(backTo pos (starEach es X.env)).any (·.1)=false:=by rfl):PE X (.Call (.Name n p) (e :: es) [] pos) (dE X.K C τ s):=by
 obtain ⟨r,h1,h2⟩:=c
 exact peW (gE h1 hg (B.blt _ hn) hv ha (by assumption) hdb he hpl) (xb h2)
theorem BU {n:Str} {T:String} (B:Bk X k) (ha:PA X (e :: es) (dA X.K C τ ds)) (c:ij X (.type T) ds s) (hn:n ∈ ao:=by decide) (hg:Gl X n:=by rfl) (hv:bootBuiltins n=some (.type T):=by decide +kernel) (h1:n ≠ "__name__":=by decide) (hdb:(n == ("__debug__" : Str))=false:=by decide)
   (he:starEach (e :: es) X.env=(false,eval e X.env) :: starEach es X.env:=by rfl) (hpl:(backTo pos (starEach es X.env)).any (·.1)=false:=by rfl):PE X (.Call (.Name n p) (e :: es) [] pos) (dE X.K C τ s):=by
 obtain ⟨r,h1,h2⟩:=c
 exact peW (t6 h1 hg (B.blt _ hn) hv ha (by assumption) hdb he hpl) (xb h2)
theorem iP {K:Ej} {H:Hp} {M:Addr->Prop} {v:V} (h:Den K (hd H M) v x):cq K (hd H λb=>M b\/b ∈ ([]:List Addr)) H (some v) [] (.d x):=⟨rfl,v,rfl,h.mono (aA (aq.refl _) λ_ z=>z.elim id λz=>nomatch z)⟩
theorem ei {H H':Hp}:Fr H H' []:=λ_ z=>nomatch z
theorem eP {xs:List D}:ij X (.builtin "len") [.lst xs] (.d (.int xs.length)):=⟨_,hW,λM vs H Q _ d q=>by
 cases d with
 | cons d r=>
   cases r
   cases d with
   | lst h r=>
     refine ⟨_,_,rfl,.inl (aI aF h),?_⟩
     rw [r.length]
     exact q _ H [] (aq.refl _) ei (iP .int)⟩
theorem kC {xs:List D}:ij X (.builtin "len") [.tup xs] (.d (.int xs.length)):=⟨_,hW,λM vs H Q _ d q=>by
 cases d with
 | cons d r=>
   cases r
   cases d with
   | tup h r=>
     refine ⟨_,_,rfl,.inr (aX aF h),?_⟩
     rw [r.length]
     exact q _ H [] (aq.refl _) ei (iP .int)⟩
noncomputable def yU (i:Int):Int:=if i < 0 then -i else i
theorem o9:ij X (.builtin "abs") [.int i] (.d (.int (yU i))):=⟨_,xa,λM vs H Q _ d q=>by
 cases d with
 | cons d r=>
   cases r
   cases d
   exact ⟨_,rfl,q _ H [] (aq.refl _) ei (iP .int)⟩⟩
theorem Dj (hc:X.calm=true):ij X (.builtin "max") [.int i,.int j] (.d (.int (if j > i then j else i))):=⟨_,uw hc,λM vs H Q _ d q=>by
 cases d with
 | cons d r=>
   cases r with
   | cons d' r=>
     cases r
     cases d
     cases d'
     exact ⟨_,_,rfl,q _ H [] (aq.refl _) ei (iP .int)⟩⟩
theorem Cm (hc:X.calm=true):ij X (.builtin "min") [.int i,.int j] (.d (.int (if j < i then j else i))):=⟨_,tY hc,λM vs H Q _ d q=>by
 cases d with
 | cons d r=>
   cases r with
   | cons d' r=>
     cases r
     cases d
     cases d'
     exact ⟨_,_,rfl,q _ H [] (aq.refl _) ei (iP .int)⟩⟩
theorem iH {K:Ej} {H:Hp} {M:Addr->Prop} {p:Addr} {vs:List V} {xs:List D} (hp:H p=none) (d:ax K (hd H M) vs xs) :
   aq H (upd H p (.lst vs))/\Fr H (upd H p (.lst vs)) [p]/\cq K (hd (upd H p (.lst vs)) λb=>M b\/b ∈ [p]) (upd H p (.lst vs)) (some (.ref p)) [p] (.o xs):=
 ⟨aw hp _,λb hb=>by
   obtain rfl:=Em.mp hb
   exact ⟨hp,_,aE⟩,p,vs,rfl,rfl,aE,d.mono λb o z=>by
     obtain ⟨z1,z2⟩:=ay.mp z
     refine ay.mpr ⟨λy=>?_,aw hp _ _ _ z2⟩
     rcases y with y | y
     · exact z1 y
     · rw [Em.mp y] at z2; rw [hp] at z2; cases z2⟩
theorem rD {K:Ej} {H:Hp} {vs:List V} {ds:List D} {i:Int} {d:D} (r:ax K H vs ds) (h:atI ds i=some d):∃ v,atI vs i=some v/\Den K H v d:=by
 unfold atI at h ⊢
 rw [r.length]
 cases e:ixN ds.length i with
 | none=>rw [e] at h; cases h
 | some j=>rw [e] at h; exact r.get h
noncomputable def AW (X:Cx) (x y z:D):Prop:=∃ r:R2,IxR X r /\
 ∀ (M:Addr->Prop) (v w:V) (H:Hp) (Q:VK),(∀ b,M b->∃ o,H b=some o)->Den X.K (hd H M) v x->Den X.K (hd H M) w y->(∀ u H',aq H H'->Den X.K (hd H' M) u z->Q u H')->r v w H Q
theorem az (ha:PE X a (dE X.K C τ (.d x))) (hb:PE X b (dE X.K C τ (.d y))) (ho:AW X x y z) (hs:nQ b:=by exact λ_ _=>rfl):PE X (.Subscript a b pos) (dE X.K C τ (.d z)):=by
 obtain ⟨r,h1,h2⟩:=ho
 exact peW (zz h1 ha hb hs) (two h2)
theorem aW {xs:List D} (h:atI xs i=some z):AW X (.lst xs) (.int i) z:=⟨_,sU,λM v w H Q _ d1 d2 q=>by
 cases d2
 cases d1 with
 | lst hs r=>
   obtain ⟨v,e,d⟩:=rD r h
   exact ⟨_,_,_,_,rfl,rfl,aI aF hs,e,q _ H (aq.refl _) d⟩⟩
theorem ar {xs:List D} (h:atI xs i=some z):AW X (.tup xs) (.int i) z:=⟨_,AF,λM v w H Q _ d1 d2 q=>by
 cases d2
 cases d1 with
 | tup hs r=>
   obtain ⟨v,e,d⟩:=rD r h
   exact ⟨_,_,_,_,rfl,rfl,aX aF hs,e,q _ H (aq.refl _) d⟩⟩
theorem tu (n:Nat) {nm:Str} {xs:List D} (hb:PE X b (dE X.K false τ (.d (.int i)))) (hz:atI xs i=some z) (h:τ[n]?=some (.o xs):=by rfl) (hs:nQ b:=by exact λ_ _=>rfl) (hN:X.N[n]?=some nm:=by rfl)
   (hv:Vis X.env.scope nm:=by first | exact Gw rfl | exact FG (Gw rfl) | exact FG (FG rfl)) (hd:(nm == ("__debug__" : Str))=false:=by decide) (hcd:(nm == ("__classdict__" : Str))=false:=by decide):PE X (.Subscript (.Name nm p) b pos) (dE X.K C τ (.d z)):=
 peW (zz sU (bV (i:=n) hN hv hd hcd) hb hs) λσ H Q q=>by
   obtain ⟨A,H₀,B,S,k⟩:=eU q
   obtain ⟨l,vs,hb,e1,e2,d⟩:=S.sl n _ h
   refine ⟨_,slot_of e1,aV S λw H1 e3 d1=>?_⟩
   cases d1
   obtain ⟨v,e4,d4⟩:=rD d hz
   exact ⟨l,vs,i,v,rfl,rfl,SqL.of (e3 _ _ e2),e4,k v H1 e3 (d4.mono (aA e3 λ_ z=>kl z))⟩
noncomputable def dO (K:Ej) (τ:List Sl) (c:Option Int):TO:=λσ H Q=>∃ A H₀ B,Sta K A H₀ τ B σ H/\∀ H',aq H H'->Q c H'
theorem CJ {e:Option Expr} {t t':TO} (h:PO X e t) (f:∀ σ H Q,t' σ H Q->t σ H Q):PO X e t':=λpins s σ H Q I q=>h pins s σ H Q I (f σ H Q q)
theorem vz:PO X none (dO X.K τ none):=CJ y0 λσ H Q ⟨A,H₀,B,S,k⟩=>k H (aq.refl _)
theorem m8 (h:PE X e (dE X.K false τ (.d (.int i)))):PO X (some e) (dO X.K τ (some i)):=CJ (y6 h) λσ H Q ⟨A,H₀,B,S,k⟩=>aV S λv H1 e1 d1=>by
 cases d1
 exact ⟨_,rfl,k H1 e1⟩
noncomputable def cutD (xs:List D) (lo hi:Option Int):List D:=(xs.drop (HT.sIx xs.length 0 lo)).take (HT.sIx xs.length xs.length hi - HT.sIx xs.length 0 lo)
theorem Bg {lo hi:Option Expr} {l u:Option Int} {xs:List D} {p2:Pos} (ha:PE X a (dE X.K C τ (.d (.lst xs)))) (hl:PO X lo (dO X.K τ l)) (hu:PO X hi (dO X.K τ u)):PE X (.Subscript a (.Slice lo hi none p2) pos) (dE X.K C τ (.o (cutD xs l u))):=
 peW (xH yN ha hl hu) λσ H Q ⟨A,H₀,B,S,k⟩=>aV S λv H1 e1 d1=>⟨A,H₀,B,S.mono e1,λH2 e2=>⟨A,H₀,B,(S.mono e1).mono e2,λH3 e3=>by
   cases d1 with
   | @lst _ ws _ h r=>
     have h:=aI (e2.trans e3) (aI aF h)
     refine ⟨_,_,rfl,h,λp hp=>?_⟩
     have r:=r.mono (aA (e2.trans e3) λ_ z=>z)
     have r':ax X.K (hd H3 (vw C A B)) (tP ws l u) (cutD xs l u):=by
       unfold tP cutD
       rw [r.length]
       exact (r.drop _).take _
     obtain ⟨z1,z2,z3⟩:=iH (K:=X.K) hp r'
     exact k _ _ [p] (e1.trans (e2.trans (e3.trans z1))) (λb hb=>⟨(e1.trans (e2.trans e3)).free (z2 b hb).1,(z2 b hb).2⟩) z3⟩⟩
inductive Ty where
 | int | bool | str | list | tuple
noncomputable def tyN:Ty->String
 | .int=>"int" | .bool=>"bool" | .str=>"str" | .list=>"list" | .tuple=>"tuple"
noncomputable def B1:D->String
 | .non=>"NoneType" | .bl _=>"bool" | .int _=>"int" | .str _=>"str" | .tup _=>"tuple" | .lst _=>"list" | .box _=>"dict"
noncomputable def oB:Ty->D->Bool
 | .int,.int _=>true
 | .int,.bl _=>true
 | .bool,.bl _=>true
 | .str,.str _=>true
 | .list,.lst _=>true
 | .tuple,.tup _=>true
 | _,_=>false
theorem Ao (K:Ej) (d:D) (t:Ty):PySem.W.kitOne K (.type (B1 d)) (.type (tyN t))=some (oB t d):=by
 cases d <;> cases t <;> (show PySem.W.kitOne K (.type _) (.type _)=some _) <;> with_unfolding_all rfl
theorem Bn (t:Ty):cW X (.builtin "isinstance") (λxs H Q=>∃ G x d,aq G H/\xs=[x,.ty (tyN t)]/\Den X.K G x d/\Q (.bl (oB t d)) H):=by
 intro pins s σ H xs us Q I r q
 obtain ⟨G,x,d,sg,rfl,dx,q⟩:=q
 obtain ⟨u,w,rfl,rx,rt⟩:∃ u w,us=[u,w]/\RelV x u/\RelV (.ty (tyN t)) w:=by
   cases r with
   | cons r1 r=>cases r with
     | cons r2 r=>cases r; exact ⟨_,_,rfl,r1,r2⟩
 cases (show w=Gd (tyN t) from rt)
 have kt:=Ao X.K d t
 have fin:∀ tk,EP X pins σ Q (.bool (oB t d)) { s with toks:=tk }:=λtk=>⟨.bl _,H,I.tok _,rfl,q⟩
 cases dx with
 | non=>cases (show u=G2 from rx); exact Gu PySem.W.kitx_none I.kIn Gz kt (λz=>nomatch z) fin
 | bl=>cases (show u=FX _ from rx); exact Gu PySem.W.kitx_bool I.kIn Gz kt (λz=>nomatch z) fin
 | int=>obtain ⟨t',z⟩:=(show ∃ t,u=FT _ t from rx); cases z; exact Gu PySem.W.kitx_int I.kIn Gz kt (λz=>nomatch z) fin
 | str=>obtain ⟨t',z⟩:=(show ∃ t,u=J2 _ t from rx); cases z; exact Gu PySem.W.kitx_str I.kIn Gz kt (λz=>nomatch z) fin
 | tup h r1=>
   cases (show u=EF _ from rx)
   obtain ⟨its,_,⟨o,h1,h2,_⟩,_⟩:=I.tuple (aX sg h)
   exact Gu PySem.W.kitx_tuple I.kIn ⟨o,h1,h2⟩ kt (λz=>nomatch z) fin
 | lst h r1=>
   cases (show u=EF _ from rx)
   obtain ⟨its,_,⟨o,n,h1,h2,_⟩,_⟩:=I.list (aI sg h)
   exact Gu PySem.W.kitx_list I.kIn ⟨o,h1,h2⟩ kt (λz=>nomatch z) fin
 | @box a x h=>
   cases (show u=EF _ from rx)
   obtain ⟨o',h1,h2⟩:=x.isd h
   obtain ⟨o,h3,h4⟩:=h2 _ _ _ _ (I.hok a _ (sg _ _ h1))
   exact Gu PySem.W.kitx_dict I.kIn ⟨o,h3,h4⟩ kt (λz=>nomatch z) fin
theorem gc {n:Str} {q:Pos} (t:Ty) (B:Bk X k) (ha:PE X a (dE X.K false τ (.d x))) (hn:n ∈ ao:=by decide) (ht:bootBuiltins n=some (.type (tyN t)):=by decide +kernel) (hg:Gl X "isinstance":=by rfl) (hg':Gl X n:=by rfl) (h1:n ≠ "__name__":=by decide) (hdb:(n == ("__debug__" : Str))=false:=by decide)
   (he:starEach [a,.Name n q] X.env=(false,eval a X.env) :: starEach [.Name n q] X.env:=by rfl) (hpl:(backTo pos (starEach [.Name n q] X.env)).any (·.1)=false:=by rfl):PE X (.Call (.Name "isinstance" p) [a,.Name n q] [] pos) (dE X.K C τ (.d (.bl (oB t x)))):=by
 refine peW (gE (Bn t) hg (B.blt _ (by decide)) (by decide +kernel) (dX ha (dX (xX (v:=.ty (tyN t)) hg' (B.blt _ hn) ht rfl h1 hdb) iC) he) (by decide) (by decide) he hpl) λσ H Q q=>?_
 obtain ⟨A,H₀,B,S,k⟩:=eU q
 exact aV S λv H1 e1 d1=>⟨_,v,x,aF,rfl,d1,k _ H1 e1 .bl⟩
end
section
variable {K:Ej} {A:Addr->Prop} {H₀ H H':Hp} {τ:List Sl} {B:Nat->List Addr} {σ:L2.St}
theorem Sta.put (S:Sta K A H₀ τ B σ H) {i:Nat} {a:Addr} {xs ys:List D} {vs:List V} (hi:τ[i]?=some (.o xs)) (hB:B i=[a]) (d:ax K (hd H (own A B)) vs ys):Sta K A H₀ (τ.set i (.o ys)) B σ (upd H a (.lst vs)):=by
 have ha:own A B a:=.inr ⟨i,by rw [hB]; exact Em.mpr rfl⟩
 have ne:∀ b,b ≠ a->upd H a (.lst vs) b=H b:=λb h=>aD h
 have sm:aq (hd H (own A B)) (hd (upd H a (.lst vs)) (own A B)):=λb o z=>by
   obtain ⟨z1,z2⟩:=ay.mp z
   exact ay.mpr ⟨z1,by rw [ne b (λe=>z1 (e ▸ ha))]; exact z2⟩
 have f0:H₀ a=none:=S.fr i a (by rw [hB]; exact Em.mpr rfl)
 have hs:aq H₀ (upd H a (.lst vs)):=λb o z=>by rw [ne b (λe=>by rw [e,f0] at z; cases z)]; exact S.same b o z
 refine ⟨hs,by rw [Fl,S.len],λj t hj=>?_,S.fr,S.uq,S.ad,λj b hb=>?_⟩
 · by_cases ej:j=i
   · subst ej
     have hl:=(Ew.mp hi).1
     rw [Fc hl] at hj
     cases hj
     obtain ⟨a',vs',e1,e2,_,_⟩:=S.sl j _ hi
     rw [hB] at e1
     cases e1
     exact ⟨a,vs,hB,e2,aE,d.mono sm⟩
   · rw [E2 (λz=>ej z.symm)] at hj
     have q:=S.sl j t hj
     have off:∀ b ∈ B j,b ≠ a:=λb hb e=>ej (S.uq j i a (e ▸ hb) (by rw [hB]; exact Em.mpr rfl))
     cases t with
     | un=>exact q
     | d x=>obtain ⟨z,u,e,d⟩:=q; exact ⟨z,u,e,d.mono sm⟩
     | o zs=>
       obtain ⟨c,ws,z1,z2,z3,z4⟩:=q
       exact ⟨c,ws,z1,z2,by rw [ne c (off c (by rw [z1]; exact Em.mpr rfl))]; exact z3,z4.mono sm⟩
     | n t=>
       obtain ⟨z0,u,z1,z2⟩:=q
       exact ⟨z0,u,z1,z2.frame sm λb hb=>ne b (off b hb)⟩
     | x E=>
       obtain ⟨c,o,z1,z2,z3,z4⟩:=q
       exact ⟨c,o,z1,z2,by rw [ne c (off c (by rw [z1]; exact Em.mpr rfl))]; exact z3,E.mono sm z4⟩
 · by_cases e:b=a
   · subst e; exact ⟨_,aE⟩
   · rw [ne b e]; exact S.bd j b hb
theorem Sta.fz (S:Sta K A H₀ τ B σ H) {i:Nat} {s:Sl} {x:D} (hi:τ[i]?=some s) (hx:fzD s=some x):Sta K A H₀ (τ.set i (.d x)) (upB B i []) σ H:=
 S.less (λ_ z=>nomatch z) λG g hv=>by
   obtain ⟨u,e,d⟩:=(S.sl i s hi).den (G':=G) g (λb hb o ho=>hv b o hb (λz=>nomatch z) ho) hx
   exact ⟨rfl,u,e,d⟩
end
section
variable {X:Cx} {C:Bool} {τ:List Sl} {x y z:D} {a b e c:Expr} {es:List Expr} {pos p:Pos} {k:Nat} {s:Sl} {ds:List D} {N:Po} {st:Stmt} {rest body els:List Stmt}
theorem aQ (h:N.nx τ):PSs X [] (dS X.K τ N):=rA yq λD σ H ⟨A,H₀,B,S,M⟩=>M.nx τ B σ H h S
theorem bo {M:List Sl->Prop} (h1:PS X st (dS X.K τ { N with nx:=M })) (h2:∀ τ',M τ'->PSs X rest (dS X.K τ' N)):PSs X (st :: rest) (dS X.K τ N):=by
 have h:PSs X rest λD σ H=>∃ τ',M τ'/\dS X.K τ' N D σ H:=λpins s σ H D I ⟨τ',m,q⟩=>h2 τ' m pins s σ H D I q
 exact rA (xg h1 h) λD σ H ⟨A,H₀,B,S,Me⟩=>⟨A,H₀,B,S,λτ' B' σ' H' m S'=>⟨τ',m,A,H₀,B',S',Me⟩,Me.bk,Me.ct,Me.rt,Me.xc⟩
theorem yM (i:Nat) {s:Sl} {x:D} (h:PSs X rest (dS X.K (τ.set i (.d x)) N)) (hi:τ[i]?=some s:=by rfl) (hx:fzD s=some x:=by rfl):PSs X rest (dS X.K τ N):=rA h λD σ H ⟨A,H₀,B,S,Me⟩=>⟨A,H₀,_,S.fz hi hx,Me⟩
theorem aB (i:Nat) {n:Str} {p:Pos} (hN:X.N.Nodup) (he:PE X e (dE X.K true τ s)) (hr:PSs X rest (dS X.K (τ.set i s) N)) (hi:X.N[i]?=some n:=by rfl) (hx:Loc X.env.scope n:=by first | exact .inl rfl | exact .inr rfl) (hs:swapsWith e (some (.Name n p)) pos.line X.env=pure false:=by rfl)
   (hf:X.fn n=true\/X.env.scope.names.lookup n=some .local:=by first | exact .inl rfl | exact .inr rfl | assumption):PSs X (.Assign [.Name n p] e pos :: rest) (dS X.K τ N):=
 bo (M:=(·=τ.set i s)) (psW (AU hN hi hx he hs hf) λD σ H ⟨A,H₀,B,S,Me⟩=>⟨A,H₀,B,S,λv H' bs e hf h=>Me.nx _ _ _ _ rfl (S.set e hf h)⟩) λ_ e=>e ▸ hr
theorem mI (he:PE X e (dE X.K true τ s)) (hr:PSs X rest (dS X.K τ N)) (hs:swapsWith e none pos.line X.env=pure false:=by rfl):PSs X (.Expr e pos :: rest) (dS X.K τ N):=
 bo (M:=(·=τ)) (psW (jt he hs) λD σ H ⟨A,H₀,B,S,Me⟩=>⟨A,H₀,B,S,λv H' bs e hf h=>Me.nx _ _ _ _ rfl (S.mono e)⟩) λ_ e=>e ▸ hr
theorem aL (he:PE X e (dE X.K false τ s)) (h:N.rt s):PSs X (.Return (some e) pos :: rest) (dS X.K τ N):=
 bo (M:=λ_=>False) (psW (mY he) λD σ H ⟨A,H₀,B,S,Me⟩=>⟨A,H₀,B,S,λv H' bs e hf q=>Me.rt v H' bs s h (S.same.trans e) (λb hb=>⟨S.same.free (hf b hb).1,(hf b hb).2⟩) q⟩) λ_ e=>e.elim
theorem nJ (i:Nat) {n:Str} (h:N.rt s) (hi:τ[i]?=some s:=by rfl) (h0:s ≠ .un:=by exact nofun) (hN:X.N[i]?=some n:=by rfl) (hv:Vis X.env.scope n:=by first | exact Gw rfl | exact FG (Gw rfl) | exact FG (FG rfl))
   (hd:(n == ("__debug__" : Str))=false:=by decide) (hcd:(n == ("__classdict__" : Str))=false:=by decide):PSs X (.Return (some (.Name n p)) pos :: rest) (dS X.K τ N):=
 bo (M:=λ_=>False) (psW (mY (bV hN hv hd hcd)) λD σ H ⟨A,H₀,B,S,Me⟩=>by
   have q:=S.sl i s hi
   obtain ⟨u,e⟩:∃ u,(σ[i]?).join=some u:=by
     cases s with
     | un=>exact absurd rfl h0
     | d x=>obtain ⟨_,u,e,_⟩:=q; exact ⟨u,e⟩
     | o xs=>obtain ⟨_,_,_,e,_⟩:=q; exact ⟨_,e⟩
     | n t=>obtain ⟨_,u,e,_⟩:=q; exact ⟨u,e⟩
     | x E=>obtain ⟨_,_,_,e,_⟩:=q; exact ⟨_,e⟩
   rw [e] at q
   exact ⟨u,slot_of e,Me.rt u H (B i) s h S.same (λb hb=>⟨S.fr i b hb,S.bd i b hb⟩) (q.mono (aA (aq.refl _) λb z=>z.elim .inl λz=>.inr ⟨i,z⟩) (aq.refl _))⟩) λ_ e=>e.elim
theorem zC {H H':Hp} {σ:L2.St} {D:Ends} {A:Addr->Prop} {H₀:Hp} {B:Nat->List Addr} (S:Sta X.K A H₀ τ B σ H) (Me:Meets X.K A H₀ N D) (e:aq H H'):dS X.K τ N D σ H':=⟨A,H₀,B,S.mono e,Me⟩
theorem Ef {t:Bool} (hc:PT X c (dT X.K τ t)) (ha:t=true->PSs X body (dS X.K τ N)) (hb:t=false->PSs X els (dS X.K τ N)):PS X (.If c body els pos) (dS X.K τ N):=by
 cases t with
 | true=>exact psW (zw hc (ha rfl) lh) λD σ H ⟨A,H₀,B,S,Me⟩=>⟨A,H₀,B,S,λH' e=>q9 (zC S Me e)⟩
 | false=>exact psW (zw hc lh (hb rfl)) λD σ H ⟨A,H₀,B,S,Me⟩=>⟨A,H₀,B,S,λH' e=>t9 (zC S Me e)⟩
theorem jv {t:Bool} {M:List Sl->Prop} (hc:PT X c (dT X.K τ t)) (ha:t=true->PSs X body (dS X.K τ { N with nx:=M })) (hb:t=false->PSs X els (dS X.K τ { N with nx:=M })) (hr:∀ τ',M τ'->PSs X rest (dS X.K τ' N)):PSs X (.If c body els pos :: rest) (dS X.K τ N):=
 bo (Ef hc ha hb) hr
theorem cY {t:Bool} (hc:PT X c (dT X.K τ t)) (ha:t=true->PSs X body (dS X.K τ { N with nx:=λ_=>False })) (hr:t=false->PSs X rest (dS X.K τ N)):PSs X (.If c body [] pos :: rest) (dS X.K τ N):=by
 cases t with
 | true=>exact jv (M:=λ_=>False) hc ha (λz=>nomatch z) λ_ z=>z.elim
 | false=>exact jv (M:=(·=τ)) hc (λz=>nomatch z) (λ_=>aQ rfl) λ_ e=>e ▸ hr rfl
theorem bO {t:Bool} (hc:PT X c (dT X.K τ t)) (ht:t=false) (hr:PSs X rest (dS X.K τ N)):PSs X (.If c body [] pos :: rest) (dS X.K τ N):=cY hc (λz=>by rw [ht] at z; cases z) λ_=>hr
theorem lD (i:Nat) {n:Str} {xs:List D} {ap cp:Pos} (he:PE X e (dE X.K true τ (.d x))) (hl:xs.length < 1000000) (hr:PSs X rest (dS X.K (τ.set i (.o (xs++[x]))) N)) (hi:τ[i]?=some (.o xs):=by rfl) (hN:X.N[i]?=some n:=by rfl)
   (hv:Vis X.env.scope n:=by first | exact Gw rfl | exact FG (Gw rfl) | exact FG (FG rfl)) (hd:(n == ("__debug__" : Str))=false:=by decide) (hcd:(n == ("__classdict__" : Str))=false:=by decide)
   (hfew:((backTo cp (starEach [e] X.env)).all (λx=>!x.1) && (backToKw cp (keywordEach [] X.env)).all (λx=>x.1.isSome) && decide (([e]:List Expr).length + ([]:List Keyword).length + (if ([]:List Keyword).isEmpty then 0 else 1) < 30))=true:=by rfl)
   (hline:(ap.endLine == cp.line)=true:=by rfl) (hst:starEach [e] X.env=(false,eval e X.env) :: starEach [] X.env:=by rfl) (hpl:(backTo cp (starEach [] X.env)).any (·.1)=false:=by rfl)
   (hs:swapsWith (.Call (.Attribute (.Name n p) "append" ap) [e] [] cp) none pos.line X.env=pure false:=by rfl) (hbase:attributeBase (.Name n p) "append" X.env (eval (.Name n p) X.env)=eval (.Name n p) X.env:=by rfl) :
   PSs X (.Expr (.Call (.Attribute (.Name n p) "append" ap) [e] [] cp) pos :: rest) (dS X.K τ N):=
 bo (M:=(·=τ.set i (.o (xs++[x])))) (psW (jt (wD GV PySem.F.slot_list_append PySem.F.type_list_append iO (bV hN hv hd hcd) (dX he iC hst) hbase hfew hline hst hpl) hs) λD σ H ⟨A,H₀,B,S,Me⟩=>by
   obtain ⟨l,vs,hb,e1,e2,d⟩:=S.sl i _ hi
   refine ⟨_,slot_of e1,.inl ⟨rfl,_,SqL.of e2⟩,aV S λv H1 e3 d1=>⟨l,vs,v,rfl,rfl,e3 _ _ e2,by rw [d.length]; exact F8 hl (by decide),?_⟩⟩
   exact Me.nx _ _ _ _ rfl ((S.mono e3).put hi hb ((d.mono (aA e3 λ_ z=>z)).append (.cons d1 .nil)))) λ_ e=>e ▸ hr
theorem sL {K:Ej} {H:Hp}:∀ {vs:List V} {ds:List D} {v:V} {d:D} (j:Nat),ax K H vs ds->Den K H v d->ax K H (vs.set j v) (ds.set j d)
 | _,_,_,_,_,.nil,_=>.nil
 | _,_,_,_,0,.cons _ r,h=>.cons h r
 | _,_,_,_,j + 1,.cons h' r,h=>.cons h' (sL j r h)
theorem zu (i:Nat) {n:Str} {xs:List D} {m:Int} {j:Nat} {ix:Expr} {sp:Pos} (hx:PE X ix (dE X.K false τ (.d (.int m)))) (he:PE X e (dE X.K true τ (.d x))) (hj:ixN xs.length m=some j) (hr:PSs X rest (dS X.K (τ.set i (.o (xs.set j x))) N)) (hi:τ[i]?=some (.o xs):=by rfl) (hN:X.N[i]?=some n:=by rfl)
   (hv:Vis X.env.scope n:=by first | exact Gw rfl | exact FG (Gw rfl) | exact FG (FG rfl)) (hd:(n == ("__debug__" : Str))=false:=by decide) (hcd:(n == ("__classdict__" : Str))=false:=by decide)
   (hs:swapsWithSole [.Subscript (.Name n p) ix sp] e pos.line X.env=pure false:=by rfl) (hw:swappedStores [.Subscript (.Name n p) ix sp] e X.env=pure none:=by rfl) (h1:(assignEach [.Subscript (.Name n p) ix sp] X.env).map (·.2)=[assign (.Subscript (.Name n p) ix sp) X.env]:=by rfl)
   (ha:∀ v,assign (.Subscript (.Name n p) ix sp) X.env v=(do
     let ov <- holding [v] (eval (.Name n p) X.env)
     let iv <- holding [v,ov] (eval ix X.env)
     standAt sp
     holding [v,ov,iv] (setItem ov iv v)
     release [v,ov,iv] []):=by intro _; rfl) :
   PSs X (.Assign [.Subscript (.Name n p) ix sp] e pos :: rest) (dS X.K τ N):=
 bo (M:=(·=τ.set i (.o (xs.set j x)))) (psW (vO he (zY (bV hN hv hd hcd) hx set_list ha) hs hw h1) λD σ H ⟨A,H₀,B,S,Me⟩=>aV S λv H1 e1 d1=>by
   obtain ⟨l,vs,hb,f1,f2,d⟩:=(S.mono e1).sl i _ hi
   refine ⟨_,slot_of f1,aV (S.mono e1) λw H2 e2 d2=>?_⟩
   cases d2
   refine ⟨l,vs,m,j,rfl,rfl,e2 _ _ f2,by rw [d.length]; exact hj,?_⟩
   exact Me.nx _ _ _ _ rfl (((S.mono e1).mono e2).put hi hb (sL j (d.mono (aA e2 λ_ z=>z)) (d1.mono (aA e2 λ_ z=>z))))) λ_ e=>e ▸ hr
end
end Hy
namespace Hy
open PySem PySem.Spec PyProof.Rows L2
open Ev (D Den ax aw aX aI Ite Itz Itv CC BR A8 rW qR qX aG cS dJ PTs b8 eO)
noncomputable def Yl (K:Ej) (J:L2.It) (xs:List D) (G:Hp):Prop:=∀ H,aq G H->(∀ i,xs.length<=i->J.stop i H)/\∀ (i:Nat) (h:i < xs.length),J.go i H /\
 ∀ x H',J.yld i H x H'->aq H H'/\∀ M:Addr->Prop,(∀ b,M b->∃ o,H b=some o)->aq G (hd H M)->Den K (hd H' M) x xs[i]
noncomputable def dI (K:Ej) (τ:List Sl) (xs:List D):TI:=λσ H R=>∃ A H₀ B,Sta K A H₀ τ B σ H/\∀ J H',aq H H'->Yl K J xs (hd H' (own A B))->R J H'
noncomputable def dG (K:Ej) (τ:List Sl) (x:D) (τ':List Sl):TG:=λv σ H Q=>∃ A H₀ B,Sta K A H₀ τ B σ H/\Den K (hd H (own A B)) v x/\∀ σ' B',Sta K A H₀ τ' B' σ' H->Q σ' H
theorem piW {X:Cx} {tg e:Expr} {t t':TI} (h:PI X tg e t) (f:∀ σ H Q,t' σ H Q->t σ H Q):PI X tg e t':=λpins s σ H Q I q=>h pins s σ H Q I (f σ H Q q)
theorem pgW {X:Cx} {e:Expr} {t t':TG} (h:PG X e t) (f:∀ v σ H Q,t' v σ H Q->t v σ H Q):PG X e t':=λpins s σ H v u Q I r q=>h pins s σ H v u Q I r (f v σ H Q q)
section
variable {K:Ej} {G:Hp} {a:Addr} {vs:List V} {xs:List D}
theorem sr (h:SqL K G a vs) (r:ax K G vs xs):Yl K (Itl K a) xs G:=by
 intro H sg
 have hl:=r.length
 refine ⟨λi hi=>⟨vs,aI sg h,by omega⟩,λi hi=>?_⟩
 obtain ⟨v,hv,dv⟩:=r.get (El hi)
 refine ⟨⟨vs,v,aI sg h,hv⟩,λx H' ⟨e1,e2⟩=>?_⟩
 subst e1
 have ex:x=v:=by have:=e2 vs (aI sg h); rw [hv] at this; exact (E4 this).symm
 subst ex
 exact ⟨aq.refl _,λM _ sv=>dv.mono sv⟩
theorem zW (h:SqT K G a vs) (r:ax K G vs xs):Yl K (Itt K a) xs G:=by
 intro H sg
 have hl:=r.length
 refine ⟨λi hi=>⟨vs,aX sg h,by omega⟩,λi hi=>?_⟩
 obtain ⟨v,hv,dv⟩:=r.get (El hi)
 refine ⟨⟨vs,v,aX sg h,hv⟩,λx H' ⟨e1,e2⟩=>?_⟩
 subst e1
 have ex:x=v:=by have:=e2 vs (aX sg h); rw [hv] at this; exact (E4 this).symm
 subst ex
 exact ⟨aq.refl _,λM _ sv=>dv.mono sv⟩
noncomputable def kZ (lo:Int) (n:Nat):List D:=(Eo n).map λk=>D.int (lo + (k:Nat))
theorem aO (lo:Int) (n:Nat):(kZ lo n).length=n:=by simp [kZ]
theorem jn (lo:Int) (n i:Nat) (h:i < (kZ lo n).length):(kZ lo n)[i]=.int (lo + (i:Nat)):=by simp [kZ]
theorem vS (lo:Int) (n:Nat):Yl K (Itr lo n) (kZ lo n) G:=by
 intro H sg
 refine ⟨λi hi=>by rw [aO] at hi; exact hi,λi hi=>?_⟩
 have hi':i < n:=by rw [aO] at hi; exact hi
 refine ⟨hi',λx H' ⟨e1,e2⟩=>?_⟩
 subst e1 e2
 refine ⟨aq.refl _,λM _ sv=>?_⟩
 rw [jn]
 exact .int
noncomputable def gI (xs:List D):List D:=(Eo xs.length).map λi=>D.tup [.int (i:Nat),xs.getD i .non]
theorem a9 (xs:List D):(gI xs).length=xs.length:=by simp [gI]
theorem ji (xs:List D) (i:Nat) (h:i < (gI xs).length):(gI xs)[i]=.tup [.int (i:Nat),xs.getD i .non]:=by simp [gI]
theorem Ae (h:SqL K G a vs) (r:ax K G vs xs):Yl K (Ite K a) (gI xs) G:=by
 intro H sg
 have hl:=r.length
 have el:=a9 xs
 refine ⟨λi hi=>⟨vs,aI sg h,by omega⟩,λi hi=>?_⟩
 have hi':i < xs.length:=by omega
 obtain ⟨v,hv,dv⟩:=r.get (El hi')
 refine ⟨⟨vs,v,aI sg h,hv⟩,λy H' ⟨p,x,hp,e0,e1,e2⟩=>?_⟩
 subst e0 e1
 have ex:x=v:=by have:=e2 vs (aI sg h); rw [hv] at this; exact (E4 this).symm
 subst ex
 refine ⟨aw hp _,λM hM sv=>?_⟩
 rw [ji,show xs.getD i .non=xs[i] by simp [Fh,hi']]
 exact .tup (SqT.of (jJ hM hp)) (.cons .int (.cons (dv.mono (sv.trans (aA (aw hp _) λ_ z=>z))) .nil))
end
section
variable {X:Cx} {C:Bool} {τ:List Sl} {x y z:D} {a b e c tg it:Expr} {es:List Expr} {pos p q:Pos} {k:Nat} {s:Sl} {xs:List D} {N:Po} {st:Stmt} {rest body els:List Stmt}
theorem a4 (h:PE X it (dE X.K true τ (.d (.lst xs)))) (hc:X.calm=true:=by first | rfl | assumption):PI X tg it (dI X.K τ xs):=piW (si hc h) λσ H R ⟨A,H₀,B,S,k⟩=>aV S λv H1 e1 d1=>by
 cases d1 with
 | lst h r=>exact ⟨_,rfl,⟨_,aI aF h⟩,k _ H1 e1 (sr h r)⟩
theorem Cv (h:PE X it (dE X.K true τ (.d (.tup xs)))) (hc:X.calm=true:=by first | rfl | assumption):PI X tg it (dI X.K τ xs):=piW (Bq hc h) λσ H R ⟨A,H₀,B,S,k⟩=>aV S λv H1 e1 d1=>by
 cases d1 with
 | tup h r=>exact ⟨_,rfl,⟨_,aX aF h⟩,k _ H1 e1 (zW h r)⟩
theorem iV {n:Int} (B:Bk X k) (h:PE X a (dE X.K false τ (.d (.int n)))) (h1:-(2 ^ 62)<=n) (h2:n < 2 ^ 62) (hg:Gl X "range":=by rfl) (hs:starEach [a] X.env=[(false,eval a X.env)]:=by rfl):PI X tg (.Call (.Name "range" p) [a] [] pos) (dI X.K τ (kZ 0 n.toNat)):=
 piW (t4 (.inl B.calm) hg (B.blt _ (by decide)) (ae h ag hs) hs) λσ H R ⟨A,H₀,B,S,k⟩=>cZ S λvs H1 e1 d1=>by
   cases d1 with
   | cons d r=>
     cases r
     cases d
     exact ⟨n,rfl,h1,h2,k _ H1 e1 (vS 0 _)⟩
theorem uO {m n:Int} (B:Bk X k) (h:PE X a (dE X.K false τ (.d (.int m)))) (h':PE X b (dE X.K false τ (.d (.int n)))) (h1:-(2 ^ 62)<=m/\m < 2 ^ 62/\-(2 ^ 62)<=n/\n < 2 ^ 62) (hg:Gl X "range":=by rfl) (hs:starEach [a,b] X.env=[(false,eval a X.env),(false,eval b X.env)]:=by rfl)
   (hs2:starEach [b] X.env=[(false,eval b X.env)]:=by rfl):PI X tg (.Call (.Name "range" p) [a,b] [] pos) (dI X.K τ (kZ m (n - m).toNat)):=
 piW (ug (.inl B.calm) hg (B.blt _ (by decide)) (ae h (ae h' ag hs2) (by rw [hs,hs2])) hs hs2) λσ H R ⟨A,H₀,B,S,k⟩=>cZ S λvs H1 e1 d1=>by
   cases d1 with
   | cons d r=>
     cases r with
     | cons d' r=>
       cases r
       cases d
       cases d'
       exact ⟨m,n,rfl,h1,k _ H1 e1 (vS m _)⟩
theorem lX {ts:List Expr} {m:Nat} {tp:Pos} (B:Bk X k) (h:PE X a (dE X.K true τ (.d (.lst xs)))) (hg:Gl X "enumerate":=by rfl) (hs:starEach [a] X.env=[(false,eval a X.env)]:=by rfl):PI X (.Tuple ts m tp) (.Call (.Name "enumerate" p) [a] [] pos) (dI X.K τ (gI xs)):=
 piW (rW B.calm hg (B.blt _ (by decide)) (ae h ag hs) hs) λσ H R ⟨A,H₀,B,S,k⟩=>cZ S λvs H1 e1 d1=>by
   cases d1 with
   | cons d r=>
     cases r
     cases d with
     | lst h r=>exact ⟨_,rfl,⟨_,aI aF h⟩,k _ H1 e1 (Ae h r)⟩
theorem xZ (i:Nat) {n:Str} (hN:X.N.Nodup) (hi:X.N[i]?=some n:=by rfl) (hx:Loc X.env.scope n:=by first | exact .inl rfl | exact .inr rfl) (hf:X.fn n=true\/X.env.scope.names.lookup n=some .local:=by first | exact .inl rfl | exact .inr rfl | assumption):PG X (.Name n p) (dG X.K τ x (τ.set i (.d x))):=
 pgW (fO (i:=i) hN hi hx hf) λv σ H Q ⟨A,H₀,B,S,d,k⟩=>k _ _ (S.set (aq.refl _) (bs:=[]) (λ_ z=>nomatch z) (iP d))
theorem zB (i j:Nat) {n m:Str} {p2 pt:Pos} {md:Nat} (hc:X.calm=true) (hN:X.N.Nodup) (hi:X.N[i]?=some n:=by rfl) (hj:X.N[j]?=some m:=by rfl) (hx:Loc X.env.scope n:=by first | exact .inl rfl | exact .inr rfl) (hy:Loc X.env.scope m:=by first | exact .inl rfl | exact .inr rfl)
   (hf:X.fn n=true\/X.env.scope.names.lookup n=some .local:=by first | exact .inl rfl | exact .inr rfl | assumption) (hf':X.fn m=true\/X.env.scope.names.lookup m=some .local:=by first | exact .inl rfl | exact .inr rfl | assumption) :
   PG X (.Tuple [.Name n p,.Name m p2] md pt) (dG X.K τ (.tup [x,y]) ((τ.set i (.d x)).set j (.d y))):=by
 refine pgW (vM hc (jC (fO (i:=i) hN hi hx hf) (jC (fO (i:=j) hN hj hy hf') tJ))) λv σ H Q ⟨A,H₀,B,S,d,k⟩=>?_
 cases d with
 | tup h r=>
   cases r with
   | cons d1 r=>
     cases r with
     | cons d2 r=>
       cases r
       have S1:=S.set (i:=i) (aq.refl _) (bs:=[]) (λ_ z=>nomatch z) (iP d1)
       have sub:∀ b,own A (upB B i []) b->own A B b:=λb z=>z.elim .inl λ⟨j,z⟩=>(bG z).elim (λz=>nomatch z.2) λz=>.inr ⟨j,z.2⟩
       exact ⟨_,_,rfl,aX aF h,rfl,_,_,rfl,_,_,rfl,rfl,k _ _ (S1.set (i:=j) (aq.refl _) (bs:=[]) (λ_ z=>nomatch z) (iP (d2.mono (aA (aq.refl _) sub))))⟩
theorem Sta.base {K:Ej} {A:Addr->Prop} {H₀ H:Hp} {τ:List Sl} {B:Nat->List Addr} {σ:L2.St} (S:Sta K A H₀ τ B σ H):aq H₀ (hd H λb=>∃ i,b ∈ B i)/\Sta K A (hd H λb=>∃ i,b ∈ B i) τ B σ H:=by
 have s0:aq H₀ (hd H λb=>∃ i,b ∈ B i):=λb o h=>ay.mpr ⟨λ⟨i,z⟩=>(by rw [S.fr i b z] at h; cases h),S.same _ _ h⟩
 exact ⟨s0,aF,S.len,S.sl,λi b hb=>by
   cases e:hd H (λb=>∃ i,b ∈ B i) b with
   | none=>rfl
   | some o=>exact absurd ⟨i,hb⟩ (ay.mp e).1,S.uq,λb hb=>let ⟨o,q⟩:=S.ad b hb; ⟨o,s0 _ _ q⟩,S.bd⟩
theorem Sta.back {K:Ej} {A:Addr->Prop} {H₀ G H:Hp} {τ:List Sl} {B:Nat->List Addr} {σ:L2.St} (S:Sta K A G τ B σ H) (s:aq H₀ G) (ad:∀ b,A b->∃ o,H₀ b=some o):Sta K A H₀ τ B σ H:=
 ⟨s.trans S.same,S.len,S.sl,λi b hb=>s.free (S.fr i b hb),S.uq,ad,S.bd⟩
theorem zG {M:Nat->List Sl->Prop} {T:Nat->List Sl->List Sl} (B:Bk X k) (hi:PI X tg it (dI X.K τ xs)) (h0:M 0 τ) (hg:∀ i (h:i < xs.length) τ',M i τ'->PG X tg (dG X.K τ' xs[i] (T i τ')))
   (hb:∀ i,i < xs.length->∀ τ',M i τ'->PSs X body (dS X.K (T i τ') { N with nx:=M (i + 1),ct:=M (i + 1),bk:=N.nx })) (hn:∀ τ',M xs.length τ'->N.nx τ')
   (hs:∀ x,foldedSetIterable it X.env x=pure x:=by intro _; rfl):PS X (.For tg it body [] pos) (dS X.K τ N):=by
 have hg':PG X tg λv σ H Q=>∃ (i:Nat) (h:i < xs.length) (τ':List Sl),M i τ'/\dG X.K τ' xs[i] (T i τ') v σ H Q:=λpins s σ H v u Q I r ⟨i,h,τ',m,q⟩=>hg i h τ' m pins s σ H v u Q I r q
 have hb':PSs X body λD σ H=>∃ i τ',i < xs.length/\M i τ'/\dS X.K (T i τ') { N with nx:=M (i + 1),ct:=M (i + 1),bk:=N.nx } D σ H:=λpins s σ H D I ⟨i,τ',h,m,q⟩=>hb i h τ' m pins s σ H D I q
 refine psW (wx B.po hi hg' hb' hs) λD σ H ⟨A,H₀,B,S,Me⟩=>⟨A,H₀,B,S,λJ H1 e1 yl=>?_⟩
 obtain ⟨s0,S1⟩:=(S.mono e1).base
 have sub:∀ {H'},aq (hd H1 λb=>∃ i,b ∈ B i) H'->aq (hd H1 (own A B)) H':=λe=>(aA (aq.refl _) λ_ z=>.inr z).trans e
 refine ⟨λi m σ' H'=>m=xs.length - i/\i<=xs.length/\∃ τ' B',M i τ'/\Sta X.K A (hd H1 λb=>∃ i,b ∈ B i) τ' B' σ' H',⟨xs.length,rfl,Fg _,τ,B,h0,S1⟩,?_⟩
 rintro i m σ' H' ⟨rfl,hi,τ',B',hM,S'⟩
 obtain ⟨y1,y2⟩:=yl H' (sub S'.same)
 by_cases hlt:i < xs.length
 · obtain ⟨g,y⟩:=y2 i hlt
   refine .inr ⟨g,λσ2 H2=>∃ τ2 B2,M (i + 1) τ2/\Sta X.K A (hd H1 λb=>∃ i,b ∈ B i) τ2 B2 σ2 H2,λσ2 H2 q=>⟨xs.length - (i + 1),by omega,rfl,hlt,q⟩,λx H2 hy=>?_⟩
   obtain ⟨e2,dx⟩:=y x H2 hy
   have S2:=S'.mono e2
   refine ⟨i,hlt,τ',hM,A,_,B',S2,dx (own A B') S'.dm ?_,λσ3 B3 S3=>⟨i,τ',hlt,hM,A,_,B3,S3,?_⟩⟩
   · intro b o z
     obtain ⟨z1,z2⟩:=ay.mp z
     have z3:hd H1 (λb=>∃ i,b ∈ B i) b=some o:=ay.mpr ⟨λy=>z1 (.inr y),z2⟩
     refine ay.mpr ⟨λy=>?_,S'.same _ _ z3⟩
     rcases y with y | ⟨l,y⟩
     · exact z1 (.inl y)
     · rw [S'.fr l b y] at z3; cases z3
   · exact ⟨λτ3 B3 σ3 H3 m S3=>⟨τ3,B3,m,S3⟩,λτ3 B3 σ3 H3 m S3=>Me.nx τ3 B3 σ3 H3 m (S3.back s0 S.ad),λτ3 B3 σ3 H3 m S3=>⟨τ3,B3,m,S3⟩,
       λv H3 bs s3 hr e3 hf q=>Me.rt v H3 bs s3 hr (s0.trans e3) (λb hb=>⟨s0.free (hf b hb).1,(hf b hb).2⟩) q,λH3 e3=>Me.xc H3 (s0.trans e3)⟩
 · have e:i=xs.length:=by omega
   subst e
   exact .inl ⟨y1 _ (Ek _),Me.nx τ' B' σ' H' (hn τ' hM) (S'.back s0 S.ad)⟩
theorem bU (j:Nat) {n:Str} (M:Nat->List Sl->Prop) {g:Nat->D} (B:Bk X k) (hN:X.N.Nodup) (hi:PI X (.Name n p) it (dI X.K τ xs)) (hx:∀ i (h:i < xs.length),xs[i]=g i) (h0:M 0 τ)
   (hb:∀ i,i < xs.length->∀ τ',M i τ'->PSs X body (dS X.K (τ'.set j (.d (g i))) { N with nx:=M (i + 1),ct:=M (i + 1),bk:=λ_=>False }))
   (hr:∀ τ',M xs.length τ'->PSs X rest (dS X.K τ' N)) (hs:∀ x,foldedSetIterable it X.env x=pure x:=by intro _; rfl) (hi':X.N[j]?=some n:=by rfl) (hl:Loc X.env.scope n:=by first | exact .inl rfl | exact .inr rfl)
   (hf:X.fn n=true\/X.env.scope.names.lookup n=some .local:=by first | exact .inl rfl | exact .inr rfl | assumption):PSs X (.For (.Name n p) it body [] pos :: rest) (dS X.K τ N):=
 bo (M:=M xs.length) (zG (M:=M) (T:=λi τ'=>τ'.set j (.d (g i))) B hi h0 (λi h τ' m=>by rw [hx i h]; exact xZ j hN hi' hl hf)
   (λi h τ' m=>rA (hb i h τ' m) λD σ H ⟨A,H₀,B,S,Me⟩=>⟨A,H₀,B,S,Me.nx,λ_ _ _ _ z=>z.elim,Me.ct,Me.rt,Me.xc⟩) (λ_ m=>m) hs) hr
theorem iA (j l:Nat) {n m:Str} {p2 pt:Pos} {md:Nat} (M:Nat->List Sl->Prop) {g g':Nat->D} (B:Bk X k) (hN:X.N.Nodup) (hi:PI X (.Tuple [.Name n p,.Name m p2] md pt) it (dI X.K τ xs)) (hx:∀ i (h:i < xs.length),xs[i]=.tup [g i,g' i]) (h0:M 0 τ)
   (hb:∀ i,i < xs.length->∀ τ',M i τ'->PSs X body (dS X.K ((τ'.set j (.d (g i))).set l (.d (g' i))) { N with nx:=M (i + 1),ct:=M (i + 1),bk:=λ_=>False }))
   (hr:∀ τ',M xs.length τ'->PSs X rest (dS X.K τ' N)) (hs:∀ x,foldedSetIterable it X.env x=pure x:=by intro _; rfl) (hi':X.N[j]?=some n:=by rfl) (hj':X.N[l]?=some m:=by rfl) (hl:Loc X.env.scope n:=by first | exact .inl rfl | exact .inr rfl) (hl':Loc X.env.scope m:=by first | exact .inl rfl | exact .inr rfl)
   (hf:X.fn n=true\/X.env.scope.names.lookup n=some .local:=by first | exact .inl rfl | exact .inr rfl | assumption) (hf':X.fn m=true\/X.env.scope.names.lookup m=some .local:=by first | exact .inl rfl | exact .inr rfl | assumption):PSs X (.For (.Tuple [.Name n p,.Name m p2] md pt) it body [] pos :: rest) (dS X.K τ N):=
 bo (M:=M xs.length) (zG (M:=M) (T:=λi τ'=>(τ'.set j (.d (g i))).set l (.d (g' i))) B hi h0 (λi h τ' m=>by rw [hx i h]; exact zB j l B.calm hN hi' hj' hl hl' hf hf')
   (λi h τ' m=>rA (hb i h τ' m) λD σ H ⟨A,H₀,B,S,Me⟩=>⟨A,H₀,B,S,Me.nx,λ_ _ _ _ z=>z.elim,Me.ct,Me.rt,Me.xc⟩) (λ_ m=>m) hs) hr
theorem i0 {n:Nat} (i:Nat) (h:i < (kZ 0 n).length):(kZ 0 n)[i]=.int (i:Nat):=by rw [jn,Int.zero_add]
theorem kG {bs:List Int} (i:Nat) (h:i < (bs.map D.int).length):(bs.map D.int)[i]=.int (bs.getD i 0):=by
 have:i < bs.length:=by simpa using h
 simp [this]
theorem zI {bs:List Int} (i:Nat) (h:i < (gI (bs.map D.int)).length):(gI (bs.map D.int))[i]=.tup [.int (i:Nat),.int (bs.getD i 0)]:=by
 have:i < bs.length:=by rw [a9] at h; simpa using h
 rw [ji]
 simp [this]
end
end Hy
namespace Hy
open PySem PySem.Spec PyProof.Rows L2
open Ev (D Den ax aw aX aI aG cS dJ PTs b8 eO pv)
noncomputable def slot:List Str->Str->Option Nat
 | [],_=>none
 | y :: r,x=>if x=y then some 0 else (slot r x).map (· + 1)
theorem slot_get:∀ {N:List Str} {x:Str} {i:Nat},slot N x=some i->N[i]?=some x
 | [],_,_,h=>by cases h
 | y :: r,x,i,h=>by
   unfold slot at h
   split at h
   · cases h; rename_i e; rw [e]; rfl
   · cases e:slot r x with
     | none=>rw [e] at h; cases h
     | some j=>rw [e] at h; cases h; simpa using slot_get e
noncomputable def vI (scope sc:Scope):Scope:={ scope with names:=scope.names.map λ(n,k)=>if (k == .free && sc.kind == .function && sc.names.lookup n == some .cell) then (n,.cell) else (n,k) }
noncomputable def bNm (scope:Scope):List Str:=(scope.names.filter λp=>(p.2 == .local || p.2 == .cell || p.2 == .free) && p.1 != (".0" : Str)).map (·.1)
noncomputable def bCp (No:List Str) (scope:Scope):List (Option Nat):=(bNm scope).map λx=>if (x,Fx) ∈ scope.names then slot No x else none
noncomputable def bOk (sc scope:Scope):Bool:=
 scope.kind == .function && scope.names.all (λp=>p.2 != .local || scope.names.lookup p.1 == some .local) && scope.names.all (λp=>p.2 != .free || sc.names.lookup p.1 == some .cell)
   && scope.names.all (λp=>p.2 != .free || (!decide ((p.1,FP) ∈ scope.names) && !decide ((p.1,NameKind.local) ∈ scope.names))) && decide (bNm scope++[("#" : Str)]).Nodup
   && (vI scope sc).names.all (λp=>p.1 != ("#" : Str))
theorem w9 {a b:Bool} (h:(a && b)=true):a=true/\b=true:=by rw [Fp] at h; exact h
theorem wA {x:Str} {q:NameKind}:∀ {names:List (Str × NameKind)},names.lookup x=some q->(x,q) ∈ names
 | (y,k) :: r,h=>by
   rw [Fj] at h
   split at h
   · rename_i e; cases h; rw [eq_of_beq e]; exact Es ..
   · exact Ep _ (wA h)
theorem fR {X:Cx} {scope:Scope} (h:bOk X.env.scope scope=true):dJ X scope (bNm scope++[("#" : Str)]) (bCp X.N scope)/\(bNm scope++[("#" : Str)]).Nodup:=by
 unfold bOk at h
 obtain ⟨h,h6⟩:=w9 h
 obtain ⟨h,h5⟩:=w9 h
 obtain ⟨h,h4⟩:=w9 h
 obtain ⟨h,h3⟩:=w9 h
 obtain ⟨h1,h2⟩:=w9 h
 rw [E9] at h2 h3 h4 h6
 refine ⟨⟨eq_of_beq h1,λx hx hk=>?_,λx hx hk=>?_,λx hx hm=>?_,λx hx hm=>?_,?_,λj i hj=>?_,?_⟩,of_decide_eq_true h5⟩
 · have:=h2 x hx; rw [hk] at this; simpa using this
 · have:=h3 x hx; rw [hk] at this; show X.env.scope.names.lookup x.1=_; simpa using this
 · have:=h4 _ hx; simp [hm] at this
 · have:=h4 _ hx; simp [hm] at this
 · unfold bCp; rw [EC,Ei]; rfl
 · unfold bCp at hj
   rw [E5] at hj
   cases e:(bNm scope)[j]? with
   | none=>rw [e] at hj; cases hj
   | some x=>
     rw [e] at hj
     simp only [F0,Iw] at hj
     split at hj
     · exact ⟨x,by rw [EI (Ew.mp e).1]; exact e,slot_get hj,by assumption⟩
     · cases hj
 · refine ⟨("#" : Str),?_,λhv=>?_⟩
   · unfold bCp; rw [Ei,Fi (Ek _),Jm]; rfl
   · have key:∀ q,(vI scope X.env.scope).names.lookup ("#" : Str) ≠ some q:=λq hq=>by
       have:=h6 _ (wA hq)
       simp at this
     rcases hv with hv | hv | hv <;> exact key _ hv
noncomputable abbrev cpX (X:Cx) (s:Shared) (H:Hp) (scope:Scope) (fp:List Addr):Cx:=aG X s H scope (bNm scope++[("#" : Str)]) fp
theorem Bk.comp {X:Cx} {k:Nat} (B:Bk X k) (s:Shared) (H:Hp) (scope:Scope) (fp:List Addr):Bk (cpX X s H scope fp) k:=⟨B.room,B.calm,B.blt,Jc⟩
noncomputable def bA (τ:List Sl) (caps:List (Option Nat)):List Sl:=caps.map λo=>match o with
 | some i=>match τ[i]? with
   | some (.d x)=>.d x
   | _=>.un
 | none=>.un
theorem jl {X:Cx}:PTs X [] λ_ H Q=>Q true H:=λpins s σ H Q I q=>by
 show wpAny _ _ (pure true) _ _ _
 exact wpAny_pure ⟨H,I,q⟩
section
variable {X:Cx} {C:Bool} {τ:List Sl} {x y z:D} {a b e c tg it elt:Expr} {es ifs:List Expr} {pos p q:Pos} {k:Nat} {xs:List D} {scope:Scope}
structure Cmp (X:Cx) (elt tg it:Expr) (ifs:List Expr) (scope:Scope) (τ:List Sl) (ys:List D):Prop where
 ex:∃ (In:TG->TT->TE->Prop) (caps:List (Option Nat)) (N:List Str) (wi:TI),dJ X scope N caps/\PI X tg it wi/\(∀ g tt te,In g tt te->∀ s H fp,PG (aG X s H scope N fp) tg g/\PTs (aG X s H scope N fp) ifs tt/\PE (aG X s H scope N fp) elt te) /\
   ∀ C σ H Q,dE X.K C τ (.o ys) σ H Q->eO In caps wi σ H Q
 hs:∀ x,foldedSetIterable it X.env x=pure x
theorem du {ys:List D} (h:Cmp X elt tg it ifs scope τ ys):PE X (.ListComp elt [⟨tg,it,ifs,0⟩] scope pos) (dE X.K C τ (.o ys)):=by
 obtain ⟨In,caps,N,wi,h1,h2,h3,h4⟩:=h.ex
 exact peW (b8 h1 h2 h.hs h3) (h4 C)
theorem uR (i:Nat) {n:Str} {p spos:Pos} {rest:List Stmt} {N:Po} {ys:List D} {s:Sl} (hN:X.N.Nodup) (h:Cmp X elt tg it ifs scope τ ys) (hz:s=.o ys\/s=.d (.lst ys)) (hr:PSs X rest (dS X.K (τ.set i s) N)) (hi:X.N[i]?=some n:=by rfl) (hx:Loc X.env.scope n:=by first | exact .inl rfl | exact .inr rfl)
   (hsw:swapsWith (.ListComp elt [⟨tg,it,ifs,0⟩] scope pos) (some (.Name n p)) spos.line X.env=pure true:=by rfl) (hf:X.fn n=true\/X.env.scope.names.lookup n=some .local:=by first | exact .inl rfl | exact .inr rfl | assumption) :
   PSs X (.Assign [.Name n p] (.ListComp elt [⟨tg,it,ifs,0⟩] scope pos) spos :: rest) (dS X.K τ N):=by
 obtain ⟨In,caps,N',wi,h1,h2,h3,h4⟩:=h.ex
 have h5:∀ σ H Q,dE X.K true τ s σ H Q->eO In caps wi σ H Q:=by
   rcases hz with rfl | rfl
   · exact h4 true
   · intro σ H Q q
     obtain ⟨A,H₀,B,S,k⟩:=eU q
     refine h4 true σ H Q ⟨A,H₀,B,S,λv H' bs e hf q=>?_⟩
     obtain ⟨u,e1,d⟩:=q.den (G':=Hy.hd H' (vw true A B)) (aA (aq.refl _) λ_ z=>.inl z) (λb hb o ho=>ay.mpr ⟨λz=>(by obtain ⟨_,q⟩:=S.vd (C:=true) b z; rw [(hf b hb).1] at q; cases q),ho⟩) rfl
     cases e1
     exact k v H' e d
 exact bo (M:=(·=τ.set i s)) (psW (pv (fO (i:=i) hN hi hx hf) h1 h2 h.hs h3 hsw) λD σ H ⟨A,H₀,B,S,Me⟩=>h5 _ _ _ ⟨A,H₀,B,S,λv H' bs e hf h=>Me.nx _ _ _ _ rfl (S.set e hf h)⟩) λ_ e=>e ▸ hr
theorem uP {T:Nat->List Sl} {t:Nat->Bool} {f:Nat->D} (hc:bOk X.env.scope scope=true) (hi:PI X tg it (dI X.K τ xs)) (hT:∀ i,(T i).length=(bA τ (bCp X.N scope)++[Sl.un]).length/\∀ (l:Nat) (x:D),(bA τ (bCp X.N scope)++[Sl.un])[l]?=some (.d x)->(T i)[l]?=some (.d x))
   (hg:∀ i (h:i < xs.length) s H fp,PG (cpX X s H scope fp) tg (dG X.K (bA τ (bCp X.N scope)++[Sl.un]) xs[i] (T i)))
   (ht:∀ i,i < xs.length->∀ s H fp,PTs (cpX X s H scope fp) ifs (dT X.K (T i) (t i)))
   (he:∀ i,i < xs.length->t i=true->∀ s H fp,PE (cpX X s H scope fp) elt (dE X.K true (T i) (.d (f i)))) (hl:xs.length < 1000000) (hs:∀ x,foldedSetIterable it X.env x=pure x:=by intro _; rfl) :
   Cmp X elt tg it ifs scope τ (((Eo xs.length).filter t).map f):=by
 obtain ⟨cap,_⟩:=fR hc
 generalize hτ:bA τ (bCp X.N scope)++[Sl.un]=τb at *
 refine ⟨⟨λg tt te=>g=(λv σ H Q=>∃ (i:Nat) (h:i < xs.length),dG X.K τb xs[i] (T i) v σ H Q)/\tt=(λσ H Q=>∃ i,i < xs.length/\dT X.K (T i) (t i) σ H Q)/\te=(λσ H Q=>∃ i,i < xs.length/\t i=true/\dE X.K true (T i) (.d (f i)) σ H Q),_,_,_,cap,hi,?_,?_⟩,hs⟩
 · rintro g tt te ⟨rfl,rfl,rfl⟩ s H fp
   exact ⟨λpins s' σ H' v u Q I r ⟨i,h,q⟩=>hg i h s H fp pins s' σ H' v u Q I r q,λpins s' σ H' Q I ⟨i,h,q⟩=>ht i h s H fp pins s' σ H' Q I q,λpins s' σ H' Q I ⟨i,h,h',q⟩=>he i h h' s H fp pins s' σ H' Q I q⟩
 rintro C σ H Q ⟨A,H₀,B,S,kk⟩
 refine ⟨A,H₀,B,S,λJ H1 e1 yl=>⟨_,_,_,⟨rfl,rfl,rfl⟩,λD hD=>?_⟩⟩
 have S1:=S.mono e1
 have nD:¬ own A B D:=λz=>by obtain ⟨o,q⟩:=S1.dm D z; rw [hD] at q; cases q
 have noN:∀ (l:Nat) (t:Nd),τb[l]?=some (.n t)->0 ≠ 0:=λl t h=>by
   exfalso
   rw [<- hτ] at h
   have:=FW h
   rcases Ff.mp this with z | z
   · unfold bA at z
     obtain ⟨o,_,ho⟩:=EL.mp z
     split at ho
     · split at ho <;> cases ho
     · cases ho
   · cases Em.mp z
 have slots:∀ {σ':L2.St} {H':Hp},aq H1 H'->(∃ o,H' D=some o)->σ'.length=τb.length->(∀ (l:Nat) (s:Sl),τb[l]?=some s->cq X.K (hd H' λb=>own A B b\/b=D) H' (σ'[l]?).join [] s)->Sta X.K (λb=>own A B b\/b=D) H' τb (λ_=>[]) σ' H':=λ{σ' H'} e1 e2 e3 e4=>
   ⟨aq.refl _,e3,λl s h=>(e4 l s h).mono (aA (aq.refl _) λ_ z=>z.elim id λ⟨_,z⟩=>(nomatch z)) (aq.refl _),λ_ _ z=>(nomatch z),λ_ _ _ z=>(nomatch z),λb z=>z.elim (λz=>let ⟨o,q⟩:=S1.dm b z; ⟨o,e1 _ _ q⟩) λz=>z ▸ e2,λ_ _ z=>(nomatch z)⟩
 refine ⟨λi m σ' H'=>m=xs.length - i/\i<=xs.length/\aq H1 H'/\(∃ vs,H' D=some (.lst vs)/\vs.length<=i/\ax X.K (hd H' λb=>own A B b\/b=D) vs (((Eo i).filter t).map f)) /\
   σ'.length=τb.length/\∀ (l:Nat) (s:Sl),τb[l]?=some s->cq X.K (hd H' λb=>own A B b\/b=D) H' (σ'[l]?).join [] s,⟨xs.length,rfl,Fg _,aw hD _,⟨[],aE,Ek _,.nil⟩,?_,λl s h=>?_⟩,?_⟩
 · rw [<- hτ]; unfold cS bA; rw [EC,EC,Ei,Ei]; rfl
 · have hv:aq (hd H (own A B)) (hd (upd H1 D (.lst [])) λb=>own A B b\/b=D):=λb o z=>by
     obtain ⟨z1,z2⟩:=ay.mp z
     have z2:=e1 _ _ z2
     have ne:b ≠ D:=λz=>by rw [z,hD] at z2; cases z2
     exact ay.mpr ⟨λy=>y.elim z1 ne,by rw [aD ne]; exact z2⟩
   cases s with
   | un=>rfl
   | d x=>
     rw [<- hτ] at h
     have hlt:l < (bCp X.N scope).length:=by
       rcases HB l (bCp X.N scope).length with h' | h'
       · exact h'
       · exfalso
         rw [Fi (by unfold bA; rw [Ei]; exact h')] at h
         cases e:l - (bA τ (bCp X.N scope)).length with
         | zero=>rw [e] at h; cases h
         | succ n=>rw [e] at h; cases h
     rw [EI (by unfold bA; rw [Ei]; exact hlt)] at h
     rw [EI (by unfold cS; rw [Ei]; exact hlt)]
     unfold bA at h
     unfold cS
     rw [E5] at h ⊢
     cases e:(bCp X.N scope)[l]? with
     | none=>rw [e] at h; cases h
     | some o=>
       rw [e] at h
       cases o with
       | none=>cases h
       | some i=>
         simp only [F0,Iw] at h
         split at h
         · rename_i x' hx'
           cases h
           obtain ⟨_,u,eu,d⟩:=S.sl i _ hx'
           exact ⟨rfl,u,by simpa using eu,d.mono hv⟩
         · cases h
   | o xs'=>
     exfalso
     rw [<- hτ] at h
     have:=FW h
     rcases Ff.mp this with z | z
     · unfold bA at z
       obtain ⟨o,_,ho⟩:=EL.mp z
       split at ho
       · split at ho <;> cases ho
       · cases ho
     · cases Em.mp z
   | n t'=>
     exfalso
     rw [<- hτ] at h
     have:=FW h
     rcases Ff.mp this with z | z
     · unfold bA at z
       obtain ⟨o,_,ho⟩:=EL.mp z
       split at ho
       · split at ho <;> cases ho
       · cases ho
     · cases Em.mp z
   | x E'=>
     exfalso
     rw [<- hτ] at h
     have:=FW h
     rcases Ff.mp this with z | z
     · unfold bA at z
       obtain ⟨o,_,ho⟩:=EL.mp z
       split at ho
       · split at ho <;> cases ho
       · cases ho
     · cases Em.mp z
 rintro i m σ' H' ⟨rfl,hi,e2,⟨vs,hv1,hv2,hv3⟩,hlen,hsl⟩
 obtain ⟨y1,y2⟩:=yl H' (aF.trans e2)
 by_cases hlt:i < xs.length
 · obtain ⟨g,y⟩:=y2 i hlt
   refine .inr ⟨g,λx H2 hy=>?_⟩
   obtain ⟨e3,dx⟩:=y x H2 hy
   have S2:Sta X.K (λb=>own A B b\/b=D) H' τb (λ_=>[]) σ' H':=slots e2 ⟨_,hv1⟩ hlen hsl
   have o0:∀ b,own (λb=>own A B b\/b=D) (λ_=>([]:List Addr)) b->own A B b\/b=D:=λb z=>z.elim id λ⟨_,z⟩=>(nomatch z)
   have dx':=dx _ S2.dm (λb o z=>by
     obtain ⟨z1,z2⟩:=ay.mp z
     exact ay.mpr ⟨λy=>(o0 b y).elim z1 λy=>(by rw [y,hD] at z2; cases z2),e2 _ _ z2⟩)
   refine ⟨i,hlt,_,_,_,S2.mono e3,dx',λσ2 B2 S3=>?_⟩
   have hB2:∀ j b,b ∈ B2 j->b ≠ D:=λj b hb z=>by
     have:=S3.fr j b hb
     rw [z,hv1] at this
     cases this
   have back:∀ {H5:Hp},aq H2 H5->σ2.length=τb.length/\∀ (l:Nat) (s:Sl),τb[l]?=some s->cq X.K (hd H5 λb=>own A B b\/b=D) H5 (σ2[l]?).join [] s:=λ{H5} e5=>by
     refine ⟨S3.len.trans (hT i).1,λl s h=>?_⟩
     cases s with
     | un=>rfl
     | d x=>
       obtain ⟨_,u,eu,d⟩:=S3.sl l _ ((hT i).2 l x h)
       exact ⟨rfl,u,eu,d.mono (aA e5 λ_ z=>.inl z)⟩
     | o xs'=>exact absurd (hsl l _ h) (λ⟨_,_,z,_⟩=>(nomatch z))
     | n t'=>exact absurd rfl (noN l t' h)
     | x E'=>exact absurd (hsl l _ h) (λ⟨_,_,z,_⟩=>(nomatch z))
   refine ⟨i,hlt,_,_,_,S3,λH4 e4=>?_⟩
   cases ht:t i with
   | false=>
     rw [if_neg Eu]
     obtain ⟨b1,b2⟩:=back e4
     refine ⟨xs.length - (i + 1),by omega,rfl,hlt,e2.trans (e3.trans e4),⟨vs,e4 _ _ (e3 _ _ hv1),by omega,?_⟩,b1,b2⟩
     rw [Fz,FA,EW,Jo,ht]
     simpa using hv3.mono (aA (e3.trans e4) λ_ z=>z)
   | true=>
     rw [if_pos rfl]
     refine ⟨i,hlt,ht,aV (S3.mono e4) λv H5 e5 d5=>?_⟩
     have e6:=e3.trans (e4.trans e5)
     have hv5:=e6 _ _ hv1
     refine ⟨vs,xs.length - (i + 1),hv5,F8 (EV hv2 (F8 hlt hl)) (by decide),by omega,rfl,hlt,?_,?_⟩
     · intro b o z
       have ne:b ≠ D:=λy=>by rw [y,hD] at z; cases z
       rw [aD ne]
       exact e6 _ _ (e2 _ _ z)
     have sm:aq (hd H5 λb=>own A B b\/b=D) (hd (upd H5 D (.lst (vs++[v]))) λb=>own A B b\/b=D):=λb o z=>by
       obtain ⟨z1,z2⟩:=ay.mp z
       exact ay.mpr ⟨z1,by rw [aD λy=>z1 (.inr y)]; exact z2⟩
     obtain ⟨b1,b2⟩:=back (e4.trans e5)
     refine ⟨⟨vs++[v],aE,by rw [EC]; exact Jt hv2,?_⟩,b1,λl s h=>?_⟩
     · rw [Fz,FA,EW,Jo,ht,if_pos rfl]
       refine ax.append (hv3.mono ((aA e6 λ_ z=>z).trans sm)) (.cons (d5.mono ((aA (aq.refl _) λ_ z=>.inl z).trans sm)) .nil)
     · cases s with
       | un=>rfl
       | d x=>obtain ⟨z1,u,eu,d⟩:=b2 l _ h; exact ⟨z1,u,eu,d.mono sm⟩
       | o xs'=>exact absurd (hsl l _ h) (λ⟨_,_,z,_⟩=>(nomatch z))
       | n t'=>exact absurd rfl (noN l t' h)
       | x E'=>exact absurd (hsl l _ h) (λ⟨_,_,z,_⟩=>(nomatch z))
 · have e:i=xs.length:=by omega
   subst e
   refine .inl ⟨y1 _ (Ek _),kk _ _ [D] (e1.trans e2) (λb hb=>?_) ⟨D,vs,rfl,rfl,hv1,hv3.mono (aA (aq.refl _) λb z=>z.elim (λz=>.inl (kl z)) λz=>.inr (Em.mp z))⟩⟩
   obtain rfl:=Em.mp hb
   exact ⟨e1.free hD,_,hv1⟩
theorem cmp (j:Nat) {n:Str} {g f:Nat->D} (B:Bk X k) (hi:PI X (.Name n p) it (dI X.K τ xs)) (hx:∀ i (h:i < xs.length),xs[i]=g i) (hl:xs.length < 1000000)
   (he:∀ i,i < xs.length->∀ s H fp,PE (cpX X s H scope fp) elt (dE X.K true ((bA τ (bCp X.N scope)++[Sl.un]).set j (.d (g i))) (.d (f i))))
   (hc:bOk X.env.scope scope=true:=by kernel_rfl) (hu:(bA τ (bCp X.N scope)++[Sl.un])[j]?=some .un:=by rfl) (hN:(bNm scope++[("#" : Str)])[j]?=some n:=by rfl) (hv:∀ s H fp,Loc (cpX X s H scope fp).env.scope n:=by intro _ _ _; first | exact .inl rfl | exact .inr rfl)
   (hf:∀ s H fp,(cpX X s H scope fp).fn n=true\/(cpX X s H scope fp).env.scope.names.lookup n=some .local:=by intro _ _ _; first | exact .inr rfl | exact .inl rfl) (hs:∀ x,foldedSetIterable it X.env x=pure x:=by intro _; rfl) :
   Cmp X elt (.Name n p) it [] scope τ ((Eo xs.length).map f):=by
 have h:=uP (T:=λi=>(bA τ (bCp X.N scope)++[Sl.un]).set j (.d (g i))) (t:=λ_=>true) (f:=f) (elt:=elt) (ifs:=[]) hc hi (λi=>⟨Fl,λl x h=>?_⟩) (λi h s H fp=>?_) (λi h s H fp=>?_) (λi h _ s H fp=>he i h s H fp) hl hs
 · rwa [II.mpr λ_ _=>rfl] at h
 · rw [E2 (λz=>by rw [<- z,hu] at h; cases h)]
   exact h
 · rw [hx i h]
   exact xZ j (fR hc).2 hN (hv s H fp) (hf s H fp)
 · exact λpins s' σ H' Q I ⟨A,H₀,B,S,q⟩=>jl pins s' σ H' Q I (q H' (aq.refl _))
end
section
variable {P:Program} {w:World} {K:Ej} {mg:Str->Option Value} {base:Heap}
noncomputable def uK (N:List Str) (ds:List D):List Sl:=ds.map .d++ER (N.length - ds.length) .un
noncomputable abbrev Xc (P:Program) (w:World) (K:Ej) (mg:Str->Option Value) (base:Heap) (N:List Str) (qual:Str) (st:Stmt) (f:Addr) (cdv:Value) (A:Around) (outer:List Env) (s:Shared) (H:Hp) (E:XK):Cx:=(qK CX0 P w K mg base N qual (ah st) f cdv A outer s H E).nox
theorem fnD {x qual:Str} {st:Stmt} {f:Addr} {fd:FuncData} {N ps:List Str} {k:Nat} {Φ:List D->Sl->Prop} (F:Fun K x qual st f fd) (S:au N ps (ah st)) (hb:∀ x ∈ ao,mg x=none) (len:∀ ds r,Φ ds r->ds.length=ps.length)
   (body:∀ ds r,Φ ds r->∀ cdv A outer s H E,Bk (Xc P w K mg base N qual st f cdv A outer s H E) k->PSs (Xc P w K mg base N qual st f cdv A outer s H E) (bD st) (dS K (uK N ds) { nx:=λ_=>r=.d .non,rt:=λr'=>r'=r })) :
   aS P w K mg base CX0 (k + 1) f fd ps (spD K Φ):=by
 refine F.ok S (λvs H Q E ⟨A,ds,r,_,d,h,_⟩=>d.length.trans (len ds r h)) λcdv A outer s H vs Q E hr ⟨A',ds,r,ha,d,h,q⟩=>⟨_,body ds r h cdv A outer s H E ⟨hr,rfl,hb,Jc⟩,A',H,λ_=>[],⟨aq.refl _,?_,λi s hi=>?_,λ_ _ z=>(nomatch z),λ_ _ _ z=>(nomatch z),ha,λ_ _ z=>(nomatch z)⟩,λτ B σ H' h S=>?_,λ_ _ _ _ h=>h.elim,λ_ _ _ _ h=>h.elim,λv H' bs s h e hf z=>?_,λ_ _=>trivial⟩
 · unfold L2.start uK
   simp [d.length]
 · have hl:=d.length
   unfold uK at hi
   unfold L2.start
   by_cases hlt:i < ds.length
   · rw [EI (by simpa using hlt),E5,El hlt] at hi
     cases hi
     obtain ⟨v,e,dv⟩:=d.get (El hlt)
     refine ⟨rfl,v,?_,dv.mono (aA (aq.refl _) λ_ z=>z.elim id λ⟨_,z⟩=>(nomatch z))⟩
     rw [EI (by simpa [hl] using hlt),E5,e]
     rfl
   · rw [Fi (by simpa using hlt),HR] at hi
     split at hi
     · cases hi; rfl
     · cases hi
 · obtain rfl:=(h:r=_)
   exact q .non H' [] S.same ei (iP .non)
 · obtain rfl:=(h:s=r)
   exact q v H' bs e hf z
theorem zp {K:Ej} {Φ:List D->Sl->Prop} (hΦ:∀ ns:List Int,ns.length<=63->Φ [.lst (ns.map .int)] (.d (.bl true))) (H:Hp) (a:Addr) (ns:List Int) (hl:ns.length<=63) (hS:SqL K H a (ns.map V.int)):spD K Φ [.ref a] H (λv _=>v=.bl true) λ_ _ _=>False:=by
 have hh:hd H (λ_=>False)=H:=by funext b; unfold hd; rw [if_neg id]
 refine ⟨λ_=>False,_,_,λ_ z=>z.elim,.cons (.lst (vs:=ns.map V.int) (by rw [hh]; exact hS) ?_) .nil,hΦ ns hl,λv H' bs _ _ h=>?_⟩
 · clear hl hS
   induction ns with
   | nil=>exact .nil
   | cons n ns ih=>exact .cons .int ih
 · obtain ⟨_,u,e,d⟩:=h
   cases e
   cases d
   rfl
end
end Hy
namespace Hy
open PySem PySem.Spec PyProof.Rows L2
open Ev (D Den ax aJ aH aw aX aI)
section
variable {X:Cx} {C:Bool} {τ:List Sl} {x y z:D} {a b e:Expr} {es:List Expr} {pos p:Pos} {k:Nat} {s:Sl} {ds:List D} {i j:Int}
theorem cL {K:Ej} {H:Hp}:∀ {vs:List V} {ns:List Int},ax K H vs (ns.map .int)->vs=ns.map V.int
 | _,[],h=>by cases h; rfl
 | _,n :: ns,h=>by
   cases h with
   | cons d r=>cases d; rw [cL r]; rfl
theorem jM:∀ {ns:List Int} {us:List Value},Vals (ns.map V.int) us->∃ xs:List (Int × Tok),us=xs.map (λp=>FT p.1 p.2)/\xs.map (·.1)=ns
 | [],_,h=>by cases h; exact ⟨[],rfl,rfl⟩
 | n :: ns,_,h=>by
   cases h with
   | cons rv rs=>
     obtain ⟨xs,rfl,rfl⟩:=jM rs
     obtain ⟨t,rfl⟩:=(show ∃ t,_=FT n t from rv)
     exact ⟨(n,t) :: xs,rfl,rfl⟩
theorem xJ (hc:X.calm=true):cW X (.builtin "sum") (λxs H Q=>∃ (p:Addr) (ns:List Int),xs=[.ref p]/\SqL X.K H p (ns.map V.int)/\Q (.int ns.sum) H):=by
 intro pins s σ H xs us Q I r q
 obtain ⟨p,ns,rfl,h,q⟩:=q
 obtain ⟨u,rfl,ru⟩:∃ u,us=[u]/\RelV (.ref p) u:=by
   cases r with
   | cons r1 r=>cases r; exact ⟨_,rfl,r1⟩
 cases (show u=EF _ from ru)
 obtain ⟨its,rv,pl,hz⟩:=I.list h
 obtain ⟨xs,rfl,hx⟩:=jM rv
 refine sum_intListG (xs:=xs.toArray) (I.ok.hd hc) (by have:=pl.isList; simpa [intItems] using this) λh' tk t' k=>?_
 refine ⟨.int ns.sum,H,I.kept k,⟨t',?_⟩,q⟩
 rw [EA,preSum_eq,ED (by simp),hx]
theorem B6 (hc:X.calm=true) (ns:List Int) {xs:List D} (hx:xs=ns.map .int):ij X (.builtin "sum") [.lst xs] (.d (.int ns.sum)):=⟨_,xJ hc,λM vs H Q _ d q=>by
 subst hx
 cases d with
 | cons d r=>
   cases r
   cases d with
   | lst h r=>
     cases cL r
     exact ⟨_,_,rfl,aI aF h,q _ H [] (aq.refl _) ei (iP .int)⟩⟩
theorem zc:OpR X (binaryOp .Add) (λx y H Q=>∃ l b xs zs,x=.ref l/\y=.ref b/\SqL X.K H l xs/\SqL X.K H b zs/\xs.length + zs.length<=sizeLine/\∀ p,H p=none->Q (.ref p) (upd H p (.lst (xs++zs)))):=by
 intro pins s σ H x y v u Q I rx ry h
 obtain ⟨l,b,xs,zs,rfl,rfl,hH,hB,hz,q⟩:=h
 cases rx
 cases ry
 obtain ⟨its,r,pl,_⟩:=I.list hH
 obtain ⟨its2,r2,pl2,_⟩:=I.list hB
 have hl:=r.length
 have hl2:=r2.length
 obtain ⟨⟨cls,dd,data,sl⟩,ho,hc,n,hd⟩:=pl.isList
 obtain ⟨⟨cls2,dd2,data2,sl2⟩,ho2,hc2,n2,hd2⟩:=pl2.isList
 simp only at hc hd hc2 hd2
 subst hc hd hc2 hd2
 have e:its.toArray++its2.toArray=(its++its2).toArray:=by simp
 refine concat_meets ⟨_,ho,rfl⟩ ⟨_,ho2,rfl⟩ noFill_list_add seq_list_add PySem.F.slot_list_add PySem.F.entry_list_add (PySem.F.args_list_add_2 _ _) (list_addW l b its.toArray its2.toArray n n2 dd dd2 sl sl2 (by rw [EA,EA]; omega)) ⟨ho,ho2,?_⟩
 rw [e]
 exact ⟨.ref _,_,I.B5 (t':=s.toks) (r.append r2) (by rw [EC]; omega),rfl,q _ I.fresh⟩
theorem zx {xs ys:List D} (ha:PE X a (dE X.K C τ (.d (.lst xs)))) (hb:PE X b (dE X.K C τ (.d (.lst ys)))) (hl:xs.length + ys.length < 1000000):PE X (.BinOp a .Add b pos) (dE X.K C τ (.o (xs++ys))):=peW (wu zc ha hb) λσ H Q ⟨A,H₀,B,S,k⟩=>
 aV S λv H1 e1 d1=>aV (S.mono e1) λw H2 e2 d2=>by
   cases d1 with
   | lst h1 r1=>cases d2 with
     | lst h2 r2=>
       refine ⟨_,_,_,_,rfl,rfl,aI (aF.trans e2) h1,aI aF h2,by rw [r1.length,r2.length]; exact Gy (F8 hl (by decide)),λp hp=>?_⟩
       obtain ⟨z1,z2,z3⟩:=iH (K:=X.K) hp ((r1.mono (aA e2 λ_ z=>z)).append r2)
       exact k _ _ [p] (e1.trans (e2.trans z1)) (λb hb=>⟨(e1.trans e2).free (z2 b hb).1,(z2 b hb).2⟩) z3
theorem mkL (h:i.natAbs < 2 ^ 60):aJ i j:=.inl (by
 rcases FQ i.natAbs with z | z
 · rw [z]; decide
 · exact F8 ((G8 (by omega)).mpr h) (by decide))
theorem mkR (h:j.natAbs < 2 ^ 60):aJ i j:=.inr (.inl (by
 rcases FQ j.natAbs with z | z
 · rw [z]; decide
 · exact F8 ((G8 (by omega)).mpr h) (by decide)))
theorem mkD (h0:j ≠ 0) (h:j.natAbs < 2 ^ 62):aH j:=⟨h0,F8 ((G8 (by omega)).mpr h) (by decide)⟩
end
theorem ak {α:Type} {xs:List α} {i:Nat} {x:α} (h:xs[i]?=some x):atI xs (i:Int)=some x:=by
 unfold atI ixN
 have:=(Ew.mp h).1
 rw [if_pos (by omega),if_pos (by omega)]
 simpa using h
theorem aZ {ns:List Int} {i:Int} (h0:0<=i) (h:i.toNat < ns.length):atI (ns.map D.int) i=some (.int (ns.getD i.toNat 0)):=by
 obtain ⟨n,rfl⟩:=FY h0
 exact ak (by
   have h:n < ns.length:=h
   simp [h])
theorem mG {xs:List D} (n:Nat):cutD xs none (some (n:Int))=xs.take n:=by
 unfold cutD
 rw [HT.mj,HT.u5,GJ,Nat.sub_zero]
 rcases Jn n xs.length with h | h
 · rw [Ht h]
 · rw [Ib h,ED (Ek _),ED h]
theorem x5 {xs:List D} (m n:Nat):cutD xs (some (m:Int)) (some (n:Int))=(xs.take n).drop m:=by
 unfold cutD
 rw [HT.mj,HT.mj]
 rw [<- JQ]
 rcases Jn n xs.length with h | h
 · rw [Ht h]
   rcases Jn m xs.length with h' | h'
   · rw [Ht h']
   · rw [Ib h',G5 (by simp; omega),G5 (by simp; omega)]
 · rw [Ib h,ED (Ek _),ED h]
   rcases Jn m xs.length with h' | h'
   · rw [Ht h']
   · rw [Ib h',G5 (Ek _),G5 h']
theorem getD_none {α:Type} {xs:List α} {i:Nat} {d:α} (h:xs.length<=i):xs.getD i d=d:=by simp [Fh,h]
theorem ex1 {α:Type} {p:α->Prop} {a:α} (h:p a):∃ a,p a:=⟨a,h⟩
theorem ex3 {α:Type} {p:α->α->α->Prop} {a b c:α} (h:p a b c):∃ a b c,p a b c:=⟨a,b,c,h⟩
end Hy
namespace Hy
open PySem PySem.Spec PyProof.Rows L2
open Ev (D Den ax)
noncomputable def Dfn (K:Ej) (x:Str) (st:Stmt) (f:Addr):Prop:=GI K mainGlobals x=some (some (.ref f))/\(∃ oc od kV dc pm an cd ct sl,K.lookup f=some ⟨oc,od,.func (FV x x (bZ st) (bD st) (ah st) .none kV dc pm an cd ct),sl⟩/\GC K cd x=true)/\FU K (.ref f)=true
noncomputable def BdA (x:Str) (st:Stmt) (ps:List Str):Prop:=∀ (kV dc pm:Value) (an:Option Addr) (cd ct:Value) (us:List Value),us.length=ps.length->bindArgs (FV x x (bZ st) (bD st) (ah st) .none kV dc pm an cd ct) ⟨us,[]⟩=pure (ps.zip us)
noncomputable def nsL (K:Ej):List Str->Prop
 | []=>True
 | x :: r=>GI K mainGlobals x=some none/\nsL K r
section
variable {P:Program} {w:World} {K:Ej} {h:Heap} {mg:Str->Option Value} {base:Heap} {x:Str} {st:Stmt} {f:Addr} {ps:List Str} {k:Nat} {Φ:List D->Sl->Prop}
theorem Dfn.of {oc:Value} {od an:Option Addr} {kV dc pm cd ct:Value} {sl:Array (Option Value)} (a:GI K mainGlobals x=some (some (.ref f))) (l:K.lookup f=some ⟨oc,od,.func (FV x x (bZ st) (bD st) (ah st) .none kV dc pm an cd ct),sl⟩) (c:GC K cd x=true) (k:FU K (.ref f)=true):Dfn K x st f:=⟨a,⟨_,_,_,_,_,_,_,_,_,l,c⟩,k⟩
theorem nsL.none (X:K.In h) (G:h.Ns mainGlobals mg):∀ {l:List Str},nsL K l->∀ x ∈ l,mg x=none
 | _ :: _,z,x,m=>by
   rcases EE.mp m with rfl | m
   · exact PySem.W.mg_none_of X G z.1
   · exact nsL.none X G z.2 x m
theorem Dfn.fn (d:Dfn K x st f) (X:K.In h) (G:h.Ns mainGlobals mg) (b:BdA x st ps):∃ fd,Fun K x x st f fd/\mg x=some (.ref f)/\FU K (.ref f)=true/\Binds K fd ps []:=by
 obtain ⟨a,⟨oc,od,kV,dc,pm,an,cd,ct,sl,l,c'⟩,q⟩:=d
 have F:=qD l c' q
 exact ⟨_,F,Hd X G a,q,F.binds (b kV dc pm an cd ct)⟩
theorem Dfn.cal (d:Dfn K x st f) (X:K.In h) (G:h.Ns mainGlobals mg) (b:BdA x st ps) (o:∀ fd,Fun K x x st f fd->aS P w K mg base CX0 k f fd ps (spD K Φ)):Cal P w K mg base k x Φ:=by
 obtain ⟨fd,F,h1,h2,h3⟩:=d.fn X G b
 exact ⟨f,fd,ps,o fd F,h1,h2,h3⟩
end
theorem bd1 {Q:List Value->Prop} (h:∀ a,Q [a]):∀ us:List Value,us.length=1->Q us:=λus e=>match us,e with | [a],_=>h a
theorem bd2 {Q:List Value->Prop} (h:∀ a b,Q [a,b]):∀ us:List Value,us.length=2->Q us:=λus e=>match us,e with | [a,b],_=>h a b
theorem bd3 {Q:List Value->Prop} (h:∀ a b c,Q [a,b,c]):∀ us:List Value,us.length=3->Q us:=λus e=>match us,e with | [a,b,c],_=>h a b c
theorem bd4 {Q:List Value->Prop} (h:∀ a b c d,Q [a,b,c,d]):∀ us:List Value,us.length=4->Q us:=λus e=>match us,e with | [a,b,c,d],_=>h a b c d
theorem bd6 {Q:List Value->Prop} (h:∀ a b c d e f,Q [a,b,c,d,e,f]):∀ us:List Value,us.length=6->Q us:=λus e=>match us,e with | [a,b,c,d,f,g],_=>h a b c d f g
end Hy
namespace Hy
open PySem PySem.Spec PyProof.Rows L2
open Ev (D Den ax aw aX aI)
section
variable {K:Ej} {G H:Hp}
end
noncomputable def BN:Sl->Option Nd
 | .un=>none
 | .d x=>some (.d x)
 | .o xs=>some (.l (xs.map .d))
 | .n t=>some t
 | .x _=>none
section
variable {K:Ej} {G H:Hp}
theorem vh:∀ {vs:List V} {xs:List D},ax K G vs xs->ba K G H vs [] (xs.map .d)
 | _,_,.nil=>.nil
 | _,_,.cons h r=>.cons (b1:=[]) (b2:=[]) (.d h) (vh r)
theorem cq.nd {v:V} {bs:List Addr} {s:Sl} {c:Nd} (h:cq K G H (some v) bs s) (e:BN s=some c):dQ K G H v bs c/\bs.Nodup:=by
 cases s with
 | un=>cases e
 | d x=>cases e; obtain ⟨rfl,u,eu,d⟩:=h; cases eu; exact ⟨.d d,JP⟩
 | o xs=>cases e; obtain ⟨a,vs,rfl,e2,h3,h4⟩:=h; cases e2; exact ⟨.l h3 (vh h4),by simp⟩
 | n t=>cases e; obtain ⟨h0,u,eu,h2⟩:=h; cases eu; exact ⟨h2,h0⟩
 | x E=>cases e
theorem ba.snoc {v:V} {c:Nd} {b2:List Addr} (h:dQ K G H v b2 c):∀ {vs:List V} {bs:List Addr} {xs:List Nd},ba K G H vs bs xs->ba K G H (vs++[v]) (bs++b2) (xs++[c])
 | _,_,_,.nil=>by have:=ba.cons h .nil; rw [FC] at this; exact this
 | _,_,_,.cons h1 r=>by rw [EX]; exact .cons h1 (ba.snoc h r)
end
section
variable {X:Cx} {C:Bool} {τ:List Sl} {x y z:D} {a b e o ix:Expr} {es:List Expr} {pos p q:Pos} {k:Nat} {s:Sl} {N:Po} {rest:List Stmt} {i:Nat} {t c:Nd} {pt:List Nat} {xs:List Nd} {j:Int} {m:Nat}
end
end Hy
namespace Ev
open PySem PySem.Spec PyProof.Rows L2
noncomputable def bad:Str:=⟨#[0x110000]⟩
mutual
noncomputable def eqD:D->D->Bool
 | .non,.non=>true
 | .bl a,.bl b=>a == b
 | .bl a,.int j=>(if a then 1 else 0) == j
 | .int i,.bl b=>i == (if b then 1 else 0)
 | .int a,.int b=>a == b
 | .str a,.str b=>a == b
 | .tup xs,.tup ys=>jA xs ys
 | .lst xs,.lst ys=>jA xs ys
 | .box _,.box _=>true
 | .box _,.str b=>bad == b
 | .str a,.box _=>a == bad
 | .box _,.non | .box _,.bl _ | .box _,.int _ | .box _,.tup _ | .box _,.lst _=>false
 | .non,.box _ | .bl _,.box _ | .int _,.box _ | .tup _,.box _ | .lst _,.box _=>false
 | .non,.bl _ | .non,.int _ | .non,.str _ | .non,.tup _ | .non,.lst _=>false
 | .bl _,.non | .bl _,.str _ | .bl _,.tup _ | .bl _,.lst _=>false
 | .int _,.non | .int _,.str _ | .int _,.tup _ | .int _,.lst _=>false
 | .str _,.non | .str _,.bl _ | .str _,.int _ | .str _,.tup _ | .str _,.lst _=>false
 | .tup _,.non | .tup _,.bl _ | .tup _,.int _ | .tup _,.str _ | .tup _,.lst _=>false
 | .lst _,.non | .lst _,.bl _ | .lst _,.int _ | .lst _,.str _ | .lst _,.tup _=>false
noncomputable def jA:List D->List D->Bool
 | [],[]=>true
 | x :: xs,y :: ys=>eqD x y && jA xs ys
 | [],_ :: _=>false
 | _ :: _,[]=>false
end
mutual
noncomputable def toP:D->PyData
 | .non=>.none
 | .bl b=>.bool b
 | .int i=>.int i
 | .str x=>.str x
 | .tup xs=>.tuple (fX xs)
 | .lst xs=>.list (fX xs)
 | .box _=>.str bad
noncomputable def fX:List D->List PyData
 | []=>[]
 | x :: xs=>toP x :: fX xs
end
mutual
noncomputable def cln:D->Bool
 | .str x=>PyData.strOk x
 | .tup xs=>eE xs
 | .lst xs=>eE xs
 | .box _=>false
 | .non | .bl _ | .int _=>true
noncomputable def eE:List D->Bool
 | []=>true
 | x :: xs=>cln x && eE xs
end
mutual
noncomputable def dep:D->Nat
 | .tup xs=>fJ xs + 1
 | .lst xs=>fJ xs + 1
 | .non | .bl _ | .int _ | .str _ | .box _=>0
noncomputable def fJ:List D->Nat
 | []=>0
 | x :: xs=>max (dep x) (fJ xs)
end
noncomputable def vQ (x:D):Prop:=cln x=true/\dep x<=64
noncomputable instance (x:D):Decidable (vQ x):=inferInstanceAs (Decidable (_/\_))
mutual
theorem jr:∀ x y:D,Ft (toP x) (toP y)=eqD x y
 | .non,y=>by cases y <;> simp [toP,Ft,eqD]
 | .bl a,y=>by cases y <;> simp [toP,Ft,eqD]
 | .int a,y=>by cases y <;> simp [toP,Ft,eqD]
 | .str a,y=>by cases y <;> simp [toP,Ft,eqD]
 | .tup xs,.tup ys=>by simp only [toP,Ft,eqD]; exact jZ xs ys
 | .lst xs,.lst ys=>by simp only [toP,Ft,eqD]; exact jZ xs ys
 | .tup xs,.non=>by simp [toP,Ft,eqD]
 | .tup xs,.bl _=>by simp [toP,Ft,eqD]
 | .tup xs,.int _=>by simp [toP,Ft,eqD]
 | .tup xs,.str _=>by simp [toP,Ft,eqD]
 | .tup xs,.lst _=>by simp [toP,Ft,eqD]
 | .lst xs,.non=>by simp [toP,Ft,eqD]
 | .lst xs,.bl _=>by simp [toP,Ft,eqD]
 | .lst xs,.int _=>by simp [toP,Ft,eqD]
 | .lst xs,.str _=>by simp [toP,Ft,eqD]
 | .lst xs,.tup _=>by simp [toP,Ft,eqD]
 | .tup xs,.box _=>by simp [toP,Ft,eqD]
 | .lst xs,.box _=>by simp [toP,Ft,eqD]
 | .box _,y=>by cases y <;> simp [toP,Ft,eqD]
theorem jZ:∀ xs ys:List D,HH (fX xs) (fX ys)=jA xs ys
 | [],[]=>by simp [fX,HH,jA]
 | [],_ :: _=>by simp [fX,HH,jA]
 | _ :: _,[]=>by simp [fX,HH,jA]
 | x :: xs,y :: ys=>by simp only [fX,HH,jA]; rw [jr x y,jZ xs ys]
end
mutual
theorem jm:∀ x:D,(toP x).canLay0=cln x
 | .non=>by simp [toP,GD,cln]
 | .bl _=>by simp [toP,GD,cln]
 | .int _=>by simp [toP,GD,cln]
 | .str _=>by simp [toP,GD,cln]
 | .tup xs=>by simp only [toP,GD,cln]; exact kE xs
 | .lst xs=>by simp only [toP,GD,cln]; exact kE xs
 | .box _=>by simp only [toP,GD,cln]; decide +kernel
theorem kE:∀ xs:List D,IT (fX xs)=eE xs
 | []=>by simp [fX,IT,eE]
 | x :: xs=>by simp only [fX,IT,eE]; rw [jm x,kE xs]
end
mutual
theorem nK:∀ x:D,(toP x).depth=dep x
 | .non=>by simp [toP,G6,dep]
 | .bl _=>by simp [toP,G6,dep]
 | .int _=>by simp [toP,G6,dep]
 | .str _=>by simp [toP,G6,dep]
 | .tup xs=>by simp only [toP,G6,dep]; rw [kc xs]
 | .lst xs=>by simp only [toP,G6,dep]; rw [kc xs]
 | .box _=>by simp [toP,G6,dep]
theorem kc:∀ xs:List D,Jl (fX xs)=fJ xs
 | []=>by simp [fX,Jl,fJ]
 | x :: xs=>by simp only [fX,Jl,fJ]; rw [nK x,kc xs]
end
section
variable {X:Cx} {pins:List (Addr × Obj)} {σ:L2.St} {H G:Hp} {s:Shared}
mutual
theorem fB (I:Inv X pins σ H s) (e:aq G H):∀ {v:V} {d:D} {u:Value},Den X.K G v d->RelV v u->cln d=true->∃ as,Reads s.heap u (toP d) as
 | _,_,_,.non,r,_=>by cases r; exact ⟨_,.none⟩
 | _,_,_,.bl,r,_=>by cases r; exact ⟨_,.bool _⟩
 | _,_,_,.int,r,_=>by obtain ⟨t,rfl⟩:=r; exact ⟨_,.int _ _⟩
 | _,_,_,.str,r,_=>by obtain ⟨t,rfl⟩:=r; exact ⟨_,.str _ _⟩
 | _,_,_,.tup h q,r,c=>by
   cases r
   obtain ⟨its,rv,⟨o,h1,h2,n,h3⟩,_⟩:=I.tuple (aX e h)
   obtain ⟨as,z⟩:=iu I e q rv (by rw [cln] at c; exact c)
   exact ⟨_,.tuple h1 h2 h3 (by simpa using z)⟩
 | _,_,_,.lst h q,r,c=>by
   cases r
   obtain ⟨its,rv,⟨o,n,h1,h2,_,h3⟩,_⟩:=I.list (aI e h)
   obtain ⟨as,z⟩:=iu I e q rv (by rw [cln] at c; exact c)
   exact ⟨_,.list h1 h2 h3 (by simpa using z)⟩
 | _,_,_,.box _,_,c=>by rw [cln] at c; cases c
theorem iu (I:Inv X pins σ H s) (e:aq G H):∀ {vs:List V} {ds:List D} {us:List Value},ax X.K G vs ds->Vals vs us->eE ds=true->∃ as,ReadsAll s.heap us (fX ds) as
 | _,_,_,.nil,.nil,_=>⟨_,.nil⟩
 | _,_,_,.cons h q,.cons r rs,c=>by
   rw [eE,Fp] at c
   obtain ⟨as,z⟩:=fB I e h r c.1
   obtain ⟨bs,z'⟩:=iu I e q rs c.2
   exact ⟨_,.cons z z'⟩
end
end
end Ev
namespace Hy
open PySem PySem.Spec PyProof.Rows L2
open Ev (D Den ax aw aX aI Itz Itv BR A8 qR qX eqD vQ fB jr)
section
variable {X:Cx} {C:Bool} {τ:List Sl} {x y z:D} {a b e c tg it elt:Expr} {es ifs:List Expr} {pos p q:Pos} {k:Nat} {s:Sl} {N:Po} {rest body:List Stmt} {ds xs ys:List D} {i j:Int} {scope:Scope}
theorem sf (M:Nat->Bool->List Sl->Prop) (B:Bk X k) (h0:∃ n t,M n t τ) (hc:∀ n t τ',M n t τ'->PT X c (dT X.K τ' t)) (hb:∀ n τ',M n true τ'->PSs X body (dS X.K τ' { N with nx:=λτ2=>∃ m t,m < n/\M m t τ2,ct:=λτ2=>∃ m t,m < n/\M m t τ2,bk:=λ_=>False }))
   (hr:∀ n τ',M n false τ'->PSs X rest (dS X.K τ' N)):PSs X (.While c body [] pos :: rest) (dS X.K τ N):=by
 have hc':PT X c λσ H Q=>∃ n t τ',M n t τ'/\dT X.K τ' t σ H Q:=λpins s σ H Q I ⟨n,t,τ',m,q⟩=>hc n t τ' m pins s σ H Q I q
 have hb':PSs X body λD σ H=>∃ n τ',M n true τ'/\dS X.K τ' { N with nx:=λτ2=>∃ m t,m < n/\M m t τ2,ct:=λτ2=>∃ m t,m < n/\M m t τ2,bk:=λ_=>False } D σ H:=λpins s σ H D I ⟨n,τ',m,q⟩=>hb n τ' m pins s σ H D I q
 refine bo (M:=λτ'=>∃ n,M n false τ') (psW (wR B.po hc' hb') λD σ H ⟨A,H₀,B,S,Me⟩=>⟨λm σ' H'=>∃ t τ' B',M m t τ'/\Sta X.K A H₀ τ' B' σ' H',?_,?_⟩) λτ' h=>let ⟨n,h⟩:=h; hr n τ' h
 · obtain ⟨n,t,h0⟩:=h0
   exact ⟨n,t,τ,B,h0,S⟩
 rintro m σ' H' ⟨t,τ',B',hM,S'⟩
 refine ⟨m,t,τ',hM,A,H₀,B',S',λH1 e1=>?_⟩
 cases t with
 | false=>exact t9 (Me.nx τ' B' σ' H1 ⟨m,hM⟩ (S'.mono e1))
 | true=>
   refine q9 ⟨λσ2 H2=>∃ τ2 B2,(∃ n t,n < m/\M n t τ2)/\Sta X.K A H₀ τ2 B2 σ2 H2,λσ2 H2 ⟨τ2,B2,⟨n,t,l,q⟩,S2⟩=>⟨n,l,t,τ2,B2,q,S2⟩,m,τ',hM,A,H₀,B',S'.mono e1,?_⟩
   exact ⟨λτ2 B2 σ2 H2 m S2=>⟨τ2,B2,m,S2⟩,λ_ _ _ _ z=>z.elim,λτ2 B2 σ2 H2 m S2=>⟨τ2,B2,m,S2⟩,Me.rt,Me.xc⟩
noncomputable def kO (xs ys:List D):List D:=(xs.zip ys).map λp=>.tup [p.1,p.2]
theorem cK:(kO xs ys).length=min xs.length ys.length:=by simp [kO]
theorem sF (i:Nat) (h:i < (kO xs ys).length):(kO xs ys)[i]=.tup [xs.getD i .non,ys.getD i .non]:=by
 rw [cK] at h
 simp [kO,show i < xs.length by omega,show i < ys.length by omega]
theorem BH {K:Ej} {G:Hp} {a b:Addr} {vs ws:List V} (h:SqL K G a vs) (r:ax K G vs xs) (h':SqL K G b ws) (r':ax K G ws ys):Yl K (Itz K a b) (kO xs ys) G:=by
 intro H sg
 have hl:=r.length
 have hl':=r'.length
 refine ⟨λi hi=>⟨vs,ws,aI sg h,aI sg h',by rw [cK] at hi; omega⟩,λi hi=>?_⟩
 have hi':=hi
 rw [cK] at hi'
 obtain ⟨v,hv,dv⟩:=r.get (El (show i < xs.length by omega))
 obtain ⟨w,hw,dw⟩:=r'.get (El (show i < ys.length by omega))
 refine ⟨⟨vs,ws,v,w,aI sg h,aI sg h',hv,hw⟩,λy H' ⟨p,x1,x2,hp,e0,e1,e2,e3⟩=>?_⟩
 subst e0 e1
 have ex:x1=v:=by have:=e2 vs (aI sg h); rw [hv] at this; exact (E4 this).symm
 have ey:x2=w:=by have:=e3 ws (aI sg h'); rw [hw] at this; exact (E4 this).symm
 subst ex ey
 refine ⟨aw hp _,λM hM sv=>?_⟩
 rw [sF,show xs.getD i .non=xs[i] by simp [show i < xs.length by omega],show ys.getD i .non=ys[i] by simp [show i < ys.length by omega]]
 have up:=sv.trans (aA (aw hp (.tup [x1,x2])) λ_ z=>z)
 exact .tup (SqT.of (jJ hM hp)) (.cons (dv.mono up) (.cons (dw.mono up) .nil))
theorem zU {ts:List Expr} {m:Nat} {tp:Pos} (B:Bk X k) (h:PE X a (dE X.K true τ (.d (.lst xs)))) (h':PE X b (dE X.K true τ (.d (.lst ys)))) (hg:Gl X "zip":=by rfl) (hs:starEach [a,b] X.env=(false,eval a X.env) :: starEach [b] X.env:=by rfl) (hs2:starEach [b] X.env=[(false,eval b X.env)]:=by rfl) :
   PI X (.Tuple ts m tp) (.Call (.Name "zip" p) [a,b] [] pos) (dI X.K τ (kO xs ys)):=
 piW (qR B.calm hg (B.blt _ (by decide)) (ae h (ae h' ag hs2) hs) hs hs2) λσ H R ⟨A,H₀,B,S,k⟩=>cZ S λvs H1 e1 d1=>by
   cases d1 with
   | cons d r=>
     cases r with
     | cons d' r=>
       cases r
       cases d with
       | lst h r=>cases d' with
         | lst h' r'=>exact ⟨_,_,rfl,⟨_,aI aF h⟩,⟨_,aI aF h'⟩,k _ H1 e1 (BH h r h' r')⟩
theorem Ah {K:Ej} {G:Hp} {a:Addr} {vs:List V} (h:SqL K G a vs) (r:ax K G vs xs):Yl K (Itv K a vs.length) xs.reverse G:=by
 intro H sg
 have hl:=r.length
 refine ⟨λi hi=>by rw [Ho] at hi; show vs.length<=i; omega,λi hi=>?_⟩
 rw [Ho] at hi
 obtain ⟨v,hv,dv⟩:=r.get (El (show xs.length - 1 - i < xs.length by omega))
 rw [<- hl] at hv
 refine ⟨⟨by omega,vs,v,aI sg h,hv⟩,λx H' ⟨e1,e2⟩=>?_⟩
 subst e1
 have ex:x=v:=by have:=e2 vs (aI sg h); rw [hv] at this; exact (E4 this).symm
 subst ex
 refine ⟨aq.refl _,λM _ sv=>?_⟩
 rw [ID]
 exact dv.mono sv
theorem C4 (B:Bk X k) (h:PE X a (dE X.K true τ (.d (.lst xs)))) (hg:Gl X "reversed":=by rfl) (hs:starEach [a] X.env=[(false,eval a X.env)]:=by rfl):PI X tg (.Call (.Name "reversed" p) [a] [] pos) (dI X.K τ xs.reverse):=
 piW (qX B.calm hg (B.blt _ (by decide)) (ae h ag hs) hs) λσ H R ⟨A,H₀,B,S,k⟩=>cZ S λvs H1 e1 d1=>by
   cases d1 with
   | cons d r=>
     cases r
     cases d with
     | lst h r=>exact ⟨_,_,rfl,aI aF h,k _ H1 e1 (Ah h r)⟩
variable {u v:Str}
theorem hU:bP X (compareOp .Eq) (.str u) (.str v) (.bl (decide (u=v))):=⟨_,zT,λ_ v' w H Q _ d1 d2 k=>by
 cases d1
 cases d2
 exact ⟨rfl,by rw [show decide (V.str u=V.str v)=decide (u=v) by simp]; exact k _ H (aq.refl _) .bl⟩⟩
theorem zV:bP X (compareOp .NotEq) (.str u) (.str v) (.bl (!decide (u=v))):=⟨_,zR,λ_ v' w H Q _ d1 d2 k=>by
 cases d1
 cases d2
 exact ⟨rfl,by rw [show decide (V.str u=V.str v)=decide (u=v) by simp]; exact k _ H (aq.refl _) .bl⟩⟩
theorem CZ {us:List Str}:bP X (compareOp .In) (.str u) (.tup (us.map .str)) (.bl (us.any λw=>decide (w=u))):=⟨_,iz,λM x' y' H Q _ d1 d2 q=>by
 cases d1
 cases d2 with
 | @tup ad vs _ h r=>
   have ev:vs=us.map V.str:=by
     clear h q
     induction us generalizing vs with
     | nil=>cases r; rfl
     | cons w ws ih=>
       cases r with
       | cons d r=>cases d; rw [ih r]; rfl
   subst ev
   refine ⟨_,_,rfl,.inr (aX aF h),rfl,?_,?_⟩
   · rw [Gk,E9]; intro _ _; rfl
   · rw [if_neg Eu]
     unfold inV
     rw [Iq]
     exact q _ H (aq.refl _) (by
       have e:(us.any λw=>decide (w=u))=us.any ((λy=>eqV y (V.str u)) ∘ V.str):=by
         congr 1
       rw [e]; exact .bl)⟩
theorem iZ:∀ {bs:List Bool} {us:List Value},Vals (bs.map V.bl) us->us=bs.map FX
 | [],_,h=>by cases h; rfl
 | b :: bs,_,h=>by
   cases h with
   | cons rv rs=>rw [iZ rs,show _=FX b from rv]; rfl
theorem wI (hc:X.calm=true):cW X (.builtin "all") (λxs H Q=>∃ (p:Addr) (bs:List Bool),xs=[.ref p]/\SqL X.K H p (bs.map V.bl)/\Q (.bl (bs.all id)) H):=by
 intro pins s σ H xs us Q I r q
 obtain ⟨p,bs,rfl,h,q⟩:=q
 obtain ⟨u,rfl,ru⟩:∃ u,us=[u]/\RelV (.ref p) u:=by
   cases r with
   | cons r1 r=>cases r; exact ⟨_,rfl,r1⟩
 cases (show u=EF _ from ru)
 obtain ⟨its,rv,pl,hz⟩:=I.list h
 obtain rfl:=iZ rv
 have lt:∀ a,s.heap.IsList a (bs.map FX).toArray->a ≠ s.heap.objs.size:=λa ⟨o,z,_⟩=>ES (Ez z)
 refine call_all_walk (wpAny_pyIter_list pl.isList ⟨_,_,_,_,_,_,λi=>(bs.map FX)[i]? == some (FX true),rfl,Walks.list (A:=X.A.in1) (I.ok.hd hc) _ _ (lt _ pl.isList) (bs.map FX).toArray,⟨⟨_,EK _ rfl,rfl,rfl⟩,?_⟩,λi v s' Q' E' hP hQ=>?_,λh' tk hk=>?_⟩)
 · obtain ⟨o,z1,z2⟩:=pl.isList
   exact ⟨o,En _ z1,z2⟩
 · have hP':(bs.map FX)[i]?=some v:=by simpa using hP
   obtain ⟨c,_,rfl⟩:=EL.mp (FW hP')
   refine wpAny_truthy_bool ?_
   have hQ:Q' ((bs.map FX)[i]? == some (FX true)) s':=hQ
   rw [hP'] at hQ
   cases c
   · exact hQ
   · exact hQ
 · refine ⟨.bl (bs.all id),H,I.kept (t':=tk) λb' o z=>?_,?_,q⟩
   · refine hk b' o (λhm=>?_) (En _ z)
     have:b'=s.heap.objs.size:=by simpa using hm
     exact absurd (Ez z) (by rw [this]; exact Fs _)
   · have e:∀ bs:List Bool,bs.all id=(Eo (bs.map FX).toArray.size).all λi=>(bs.map FX)[i]? == some (FX true):=λbs=>by
       rw [EA,Ei]
       induction bs with
       | nil=>rfl
       | cons b bs ih=>
         rw [Jb,ih,ET,Ic,Jb,Gk]
         congr 1
         cases b <;> rfl
     rw [e]; rfl
theorem tj {K:Ej} {H:Hp}:∀ {vs:List V} {bs:List Bool},ax K H vs (bs.map .bl)->vs=bs.map V.bl
 | _,[],h=>by cases h; rfl
 | _,_ :: _,h=>by
   cases h with
   | cons d r=>cases d; rw [tj r]; rfl
theorem rH (hc:X.calm=true) (bs:List Bool) (hx:xs=bs.map .bl):ij X (.builtin "all") [.lst xs] (.d (.bl (bs.all id))):=⟨_,wI hc,λM vs H Q _ d q=>by
 subst hx
 cases d with
 | cons d r=>
   cases r
   cases d with
   | lst h r=>
     cases tj r
     exact ⟨_,_,rfl,aI aF h,q _ H [] (aq.refl _) ei (iP .bl)⟩⟩
end
end Hy
namespace Hy
open PySem PySem.Spec PyProof.Rows L2
open Ev (D Den ax aw aX aI aG cS dJ PTs b8 eO)
section
variable {X:Cx} {C:Bool} {τ:List Sl} {x y z:D} {a b e c tg it elt o:Expr} {es ifs:List Expr} {pos p q:Pos} {k:Nat} {s:Sl} {N:Po} {rest body:List Stmt} {ds xs ys:List D} {i j:Int} {scope:Scope}
theorem xM:OpR X (binaryOp .Mult) (λx y H Q=>∃ l k xs,x=.ref l/\y=.int k/\SqL X.K H l xs/\0<=k/\k < 100000/\xs.length * k.toNat<=sizeLine/\∀ p,H p=none->Q (.ref p) (upd H p (.lst (ER k.toNat xs).flatten))):=by
 intro pins s σ H x y v u Q I rx ry h
 obtain ⟨l,k,xs,rfl,rfl,hH,h1,h2,hz,q⟩:=h
 cases rx
 obtain ⟨t,rfl⟩:=ry
 obtain ⟨its,r,pl,_⟩:=I.list hH
 have hl:=r.length
 obtain ⟨⟨cls,dd,data,sl⟩,e,hc,n,hd⟩:=pl.isList
 simp only at hc hd
 subst hc hd
 have hlen:its.toArray.size * k.toNat<=sizeLine:=by rw [EA,<- hl]; exact hz
 have hcap:¬ its.toArray.size * k.toNat > (2 ^ 63 - 1) / 8:=by
   have:(sizeLine:Nat)<=(2 ^ 63 - 1) / 8:=by decide
   omega
 have hfit:¬ (!Builtin.List.listFitsIndex k)=true:=by
   rw [fitsIndex_both (by omega) (by omega)]
   exact Eu
 have hlong:¬ Hj (its.toArray.size * k.toNat)=true:=by
   rw [om hlen]
   exact Eu
 have hnew:List.foldl (λx1 x2=>x1++x2) #[] (ER (if its.toArray.isEmpty=true then 0 else k.toNat) its.toArray)=(ER k.toNat its).flatten.toArray:=by
   have f0:∀ m:Nat,List.foldl (λx1 x2=>x1++x2) #[] (ER m its.toArray)=(ER m its).flatten.toArray:=λm=>by
     have:=foldl_rep its m []
     rw [Jy] at this
     exact this
   rw [f0]
   cases its with
   | nil=>simp
   | cons a r'=>rw [if_neg (by simp)]
 refine wpAny_binaryOp_repeat_ref (T:="list") (U:="int") (by decide) ⟨_,e,rfl⟩ (λs'=>typeIs_int s' k t) noFill_list_mul F.fills_int_mul F.slot_int_rmul repeat_list F.slot_int_index.lookup
   (call_meets F.slot_int_rmul (typeIs_int s k t) F.entry_int_rmul (F.args_int_rmul_2 _ _) (lm_int_rmul_list_any k t l its.toArray n dd sl)
     ⟨e,rfl,⟨_,e,rfl⟩,call_meets F.slot_list_mul ⟨_,e,rfl⟩ F.entry_list_mul (F.args_list_mul_2 _ _) (lm_list_mul_any l its.toArray n dd sl k t hfit hcap hlong) ⟨e,?_⟩⟩)
 rw [hnew]
 exact ⟨.ref _,_,I.B5 (t':=s.toks) (r.rep k.toNat) (by rw [len_rep,Nat.mul_comm]; exact hz),rfl,q _ I.fresh⟩
theorem tF {K:Ej} {H:Hp} {vs:List V} (h:ax K H vs xs):∀ k:Nat,ax K H (ER k vs).flatten (ER k xs).flatten
 | 0=>.nil
 | k + 1=>by rw [Fo,Fo,FH,FH]; exact h.append (tF h k)
theorem Cf (ha:PE X a (dE X.K C τ (.d (.lst xs)))) (hb:PE X b (dE X.K C τ (.d (.int j)))) (h0:0<=j) (h1:j < 100000) (hl:xs.length * j.toNat < 1000000):PE X (.BinOp a .Mult b pos) (dE X.K C τ (.o (ER j.toNat xs).flatten)):=peW (wu xM ha hb) λσ H Q ⟨A,H₀,B,S,k⟩=>
 aV S λv H1 e1 d1=>aV (S.mono e1) λw H2 e2 d2=>by
   cases d2
   cases d1 with
   | lst h1' r1=>
     refine ⟨_,j,_,rfl,rfl,aI (aF.trans e2) h1',h0,h1,by rw [r1.length]; exact Gy (F8 hl (by decide)),λp hp=>?_⟩
     obtain ⟨z1,z2,z3⟩:=iH (K:=X.K) hp (tF (r1.mono (aA e2 λ_ z=>z)) j.toNat)
     exact k _ _ [p] (e1.trans (e2.trans z1)) (λb hb=>⟨(e1.trans e2).free (z2 b hb).1,(z2 b hb).2⟩) z3
theorem Sta.hide {K:Ej} {A:Addr->Prop} {H₀ H H1:Hp} {B:Nat->List Addr} {σ:L2.St} {b1:List Addr} (S:Sta K A H₀ τ B σ H) (e:aq H H1) (f:Fr H H1 b1):Sta K (λb=>A b\/b ∈ b1) (hd H1 λb=>∃ i,b ∈ B i) τ B σ H1 where
 same:=aF
 len:=S.len
 sl:=λi s h=>(S.sl i s h).mono (λb o z=>by
   obtain ⟨z1,z2⟩:=ay.mp z
   refine ay.mpr ⟨λw=>?_,e _ _ z2⟩
   rcases w with (w | w) | w
   · exact z1 (.inl w)
   · rw [(f b w).1] at z2; cases z2
   · exact z1 (.inr w)) e
 fr:=λi b hb=>by
   cases q:hd H1 (λb=>∃ i,b ∈ B i) b with
   | none=>rfl
   | some o=>exact absurd ⟨i,hb⟩ (ay.mp q).1
 uq:=S.uq
 ad:=λb hb=>by
   rcases hb with z | z
   · obtain ⟨o,q⟩:=S.ad b z
     exact ⟨o,ay.mpr ⟨λ⟨i,w⟩=>(by rw [S.fr i b w] at q; cases q),e _ _ (S.same _ _ q)⟩⟩
   · obtain ⟨w1,o,w2⟩:=f b z
     exact ⟨o,ay.mpr ⟨λ⟨i,w⟩=>(by obtain ⟨o',q⟩:=S.bd i b w; rw [w1] at q; cases q),w2⟩⟩
 bd:=λi b hb=>let ⟨o,q⟩:=S.bd i b hb; ⟨o,e _ _ q⟩
theorem yt {A:Addr->Prop} {B:Nat->List Addr} {b1:List Addr} {b:Addr} (h:vw C A B b\/b ∈ b1):vw C (λb=>A b\/b ∈ b1) B b:=by
 cases C with
 | true=>
   rcases h with (h | h) | h
   · exact .inl (.inl h)
   · exact .inr h
   · exact .inl (.inr h)
 | false=>exact h
end
section
variable {X:Cx} {C:Bool} {τ τ':List Sl} {x y z:D} {a b e c tg it elt o ix:Expr} {es ifs:List Expr} {pos p q:Pos} {k:Nat} {s:Sl} {N:Po} {rest body:List Stmt} {ds xs ys:List D} {i:Nat} {j:Int} {scope:Scope}
noncomputable def dGs (K:Ej) (τ:List Sl) (xs:List D) (τ':List Sl):TGs:=λvs σ H Q=>∃ A H₀ B,Sta K A H₀ τ B σ H/\ax K (hd H (own A B)) vs xs/\∀ σ' B',Sta K A H₀ τ' B' σ' H->Q σ' H
theorem Cz {es:List Expr} {t t':TGs} (h:PGs X es t) (f:∀ v σ H Q,t' v σ H Q->t v σ H Q):PGs X es t':=λpins s σ H v u Q I r q=>h pins s σ H v u Q I r (f v σ H Q q)
theorem vR:PGs X [] (dGs X.K τ [] τ):=Cz tJ λv σ H Q ⟨A,H₀,B,S,d,k⟩=>by
 cases d
 exact ⟨rfl,k σ B S⟩
theorem gK (i:Nat) {n:Str} (hN:X.N.Nodup) (h:PGs X es (dGs X.K (τ.set i (.d x)) xs τ')) (hi:X.N[i]?=some n:=by rfl) (hx:Loc X.env.scope n:=by first | exact .inl rfl | exact .inr rfl) (hf:X.fn n=true\/X.env.scope.names.lookup n=some .local:=by first | exact .inl rfl | exact .inr rfl | assumption):PGs X (.Name n p :: es) (dGs X.K τ (x :: xs) τ'):=
 Cz (jC (fO (i:=i) hN hi hx hf) h) λv σ H Q ⟨A,H₀,B,S,d,k⟩=>by
   cases d with
   | cons d r=>
     have sub:∀ b,own A (upB B i []) b->own A B b:=λb z=>z.elim .inl λ⟨j,z⟩=>(bG z).elim (λz=>nomatch z.2) λz=>.inr ⟨j,z.2⟩
     exact ⟨_,_,rfl,A,H₀,_,S.set (aq.refl _) (bs:=[]) (λ_ z=>nomatch z) (iP d),r.mono (aA (aq.refl _) sub),k⟩
theorem zF {m:Nat} (hc:X.calm=true) (h:PGs X es (dGs X.K τ xs τ')) (hl:(assignEach es X.env).length=xs.length:=by rfl) (hst:(assignEach es X.env).findIdx? (·.1)=none:=by rfl):PG X (.Tuple es m pos) (dG X.K τ (.tup xs) τ'):=
 pgW (vM (n:=xs.length) hc h hl hst) λv σ H Q ⟨A,H₀,B,S,d,k⟩=>by
   cases d with
   | tup h r=>exact ⟨_,_,rfl,aX aF h,r.length,A,H₀,B,S,r,k⟩
theorem vG {m:Nat} (he:PE X e (dE X.K true τ (.d x))) (hg:PG X (.Tuple es m p) (dG X.K τ x τ')) (hr:PSs X rest (dS X.K τ' N)) (hs:swapsWithSole [.Tuple es m p] e pos.line X.env=pure false:=by rfl) (hw:swappedStores [.Tuple es m p] e X.env=pure none:=by rfl)
   (h1:(assignEach [.Tuple es m p] X.env).map (·.2)=[assign (.Tuple es m p) X.env]:=by rfl):PSs X (.Assign [.Tuple es m p] e pos :: rest) (dS X.K τ N):=
 bo (M:=(·=τ')) (psW (vO he hg hs hw h1) λD σ H ⟨A,H₀,B,S,Me⟩=>aV S λv H1 e1 d1=>⟨A,H₀,B,S.mono e1,d1,λσ' B' S'=>Me.nx _ _ _ _ rfl S'⟩) λ_ e=>e ▸ hr
theorem DV (T:Nat->List Sl) {f:Nat->D} (B:Bk X k) (hi:PI X tg it (dI X.K τ xs)) (hl:xs.length < 1000000) (hT:∀ i,(T i).length=(bA τ (bCp X.N scope)++[Sl.un]).length/\∀ (l:Nat) (x:D),(bA τ (bCp X.N scope)++[Sl.un])[l]?=some (.d x)->(T i)[l]?=some (.d x))
   (hg:∀ i (h:i < xs.length) s H fp,PG (cpX X s H scope fp) tg (dG X.K (bA τ (bCp X.N scope)++[.un]) xs[i] (T i)))
   (he:∀ i,i < xs.length->∀ s H fp,PE (cpX X s H scope fp) elt (dE X.K true (T i) (.d (f i)))) (hc:bOk X.env.scope scope=true:=by kernel_rfl) (hs:∀ x,foldedSetIterable it X.env x=pure x:=by intro _; rfl) :
   Cmp X elt tg it [] scope τ ((Eo xs.length).map f):=by
 have h:=uP (T:=T) (t:=λ_=>true) (f:=f) (elt:=elt) (ifs:=[]) hc hi hT hg (λi h s H fp=>λpins s' σ H' Q I ⟨A,H₀,B,S,q⟩=>jl pins s' σ H' Q I (q H' (aq.refl _))) (λi h _ s H fp=>he i h s H fp) hl hs
 rwa [II.mpr λ_ _=>rfl] at h
structure Bl (X:Cx) (elt tg it:Expr) (ifs:List Expr) (scope:Scope) (τ:List Sl) (ns:List Nd):Prop where
 ex:∃ (In:TG->TT->TE->Prop) (caps:List (Option Nat)) (N:List Str) (wi:TI),dJ X scope N caps/\PI X tg it wi/\(∀ g tt te,In g tt te->∀ s H fp,PG (aG X s H scope N fp) tg g/\PTs (aG X s H scope N fp) ifs tt/\PE (aG X s H scope N fp) elt te) /\
   ∀ C σ H Q,dE X.K C τ (.n (.l ns)) σ H Q->eO In caps wi σ H Q
 hs:∀ x,foldedSetIterable it X.env x=pure x
theorem Ct {ns:List Nd} (h:Bl X elt tg it ifs scope τ ns):PE X (.ListComp elt [⟨tg,it,ifs,0⟩] scope pos) (dE X.K C τ (.n (.l ns))):=by
 obtain ⟨In,caps,N,wi,h1,h2,h3,h4⟩:=h.ex
 exact peW (b8 h1 h2 h.hs h3) (h4 C)
theorem zj {T:Nat->List Sl} {f:Nat->Nd} {S':Nat->Sl} (B:Bk X k) (hc:bOk X.env.scope scope=true) (hi:PI X tg it (dI X.K τ xs)) (hT:∀ i,(T i).length=(bA τ (bCp X.N scope)++[Sl.un]).length/\∀ (l:Nat) (x:D),(bA τ (bCp X.N scope)++[Sl.un])[l]?=some (.d x)->(T i)[l]?=some (.d x))
   (hg:∀ i (h:i < xs.length) s H fp,PG (cpX X s H scope fp) tg (dG X.K (bA τ (bCp X.N scope)++[.un]) xs[i] (T i)))
   (he:∀ i,i < xs.length->∀ s H fp,PE (cpX X s H scope fp) elt (dE X.K true (T i) (S' i))) (hn:∀ i,i < xs.length->BN (S' i)=some (f i)) (hl:xs.length < 1000000) (hs:∀ x,foldedSetIterable it X.env x=pure x:=by intro _; rfl) :
   Bl X elt tg it [] scope τ ((Eo xs.length).map f):=by
 obtain ⟨cap,_⟩:=fR hc
 generalize hτ:bA τ (bCp X.N scope)++[Sl.un]=τb at *
 refine ⟨⟨λg tt te=>g=(λv σ H Q=>∃ (i:Nat) (h:i < xs.length),dG X.K τb xs[i] (T i) v σ H Q)/\tt=(λσ H Q=>Q true H)/\te=(λσ H Q=>∃ i,i < xs.length/\dE X.K true (T i) (S' i) σ H Q),_,_,_,cap,hi,?_,?_⟩,hs⟩
 · rintro g tt te ⟨rfl,rfl,rfl⟩ s H fp
   exact ⟨λpins s' σ H' v u Q I r ⟨i,h,q⟩=>hg i h s H fp pins s' σ H' v u Q I r q,jl,λpins s' σ H' Q I ⟨i,h,q⟩=>he i h s H fp pins s' σ H' Q I q⟩
 rintro C σ H Q ⟨A,H₀,B,S,kk⟩
 refine ⟨A,H₀,B,S,λJ H1 e1 yl=>⟨_,_,_,⟨rfl,rfl,rfl⟩,λD hD=>?_⟩⟩
 have S1:=S.mono e1
 have flat:∀ (l:Nat) (s:Sl),τb[l]?=some s->s=.un\/∃ x,s=.d x:=λl s h=>by
   rw [<- hτ] at h
   rcases Ff.mp (FW h) with z | z
   · unfold bA at z
     obtain ⟨o,_,ho⟩:=EL.mp z
     split at ho
     · split at ho
       · exact .inr ⟨_,ho.symm⟩
       · exact .inl ho.symm
     · exact .inl ho.symm
   · exact .inl (Em.mp z)
 have slots:∀ {σ':L2.St} {H':Hp} {rs:List Addr},aq H1 H'->(∃ o,H' D=some o)->(∀ b ∈ rs,∃ o,H' b=some o)->σ'.length=τb.length->(∀ (l:Nat) (s:Sl),τb[l]?=some s->cq X.K (hd H' λb=>own A B b\/b=D\/b ∈ rs) H' (σ'[l]?).join [] s)->Sta X.K (λb=>own A B b\/b=D\/b ∈ rs) H' τb (λ_=>[]) σ' H':=λ{σ' H' rs} e1 e2 e5 e3 e4=>
   ⟨aq.refl _,e3,λl s h=>(e4 l s h).mono (aA (aq.refl _) λ_ z=>z.elim id λ⟨_,z⟩=>(nomatch z)) (aq.refl _),λ_ _ z=>(nomatch z),λ_ _ _ z=>(nomatch z),λb z=>z.elim (λz=>let ⟨o,q⟩:=S1.dm b z; ⟨o,e1 _ _ q⟩) λz=>z.elim (λz=>z ▸ e2) (e5 b),λ_ _ z=>(nomatch z)⟩
 refine ⟨λi m σ' H'=>m=xs.length - i/\i<=xs.length/\aq H1 H'/\(∃ vs rs,H' D=some (.lst vs)/\vs.length<=i/\ba X.K (hd H' λb=>own A B b\/b=D\/b ∈ rs) H' vs rs ((Eo i).map f)/\(D :: rs).Nodup/\(∀ b ∈ rs,H1 b=none) /\
   σ'.length=τb.length/\∀ (l:Nat) (s:Sl),τb[l]?=some s->cq X.K (hd H' λb=>own A B b\/b=D\/b ∈ rs) H' (σ'[l]?).join [] s),⟨xs.length,rfl,Fg _,aw hD _,[],[],aE,Ek _,.nil,by simp,λ_ z=>(nomatch z),?_,λl s h=>?_⟩,?_⟩
 · rw [<- hτ]; unfold cS bA; rw [EC,EC,Ei,Ei]; rfl
 · have hv:aq (hd H (own A B)) (hd (upd H1 D (.lst [])) λb=>own A B b\/b=D\/b ∈ ([]:List Addr)):=λb o z=>by
     obtain ⟨z1,z2⟩:=ay.mp z
     have z2:=e1 _ _ z2
     have ne:b ≠ D:=λz=>by rw [z,hD] at z2; cases z2
     exact ay.mpr ⟨λy=>y.elim z1 λy=>y.elim ne λy=>(nomatch y),by rw [aD ne]; exact z2⟩
   rcases flat l s h with rfl | ⟨x,rfl⟩
   · rfl
   · rw [<- hτ] at h
     have hlt:l < (bCp X.N scope).length:=by
       rcases HB l (bCp X.N scope).length with h' | h'
       · exact h'
       · exfalso
         rw [Fi (by unfold bA; rw [Ei]; exact h')] at h
         cases e:l - (bA τ (bCp X.N scope)).length with
         | zero=>rw [e] at h; cases h
         | succ n=>rw [e] at h; cases h
     rw [EI (by unfold bA; rw [Ei]; exact hlt)] at h
     rw [EI (by unfold cS; rw [Ei]; exact hlt)]
     unfold bA at h
     unfold cS
     rw [E5] at h ⊢
     cases e:(bCp X.N scope)[l]? with
     | none=>rw [e] at h; cases h
     | some o=>
       rw [e] at h
       cases o with
       | none=>cases h
       | some i=>
         simp only [F0,Iw] at h
         split at h
         · rename_i x' hx'
           cases h
           obtain ⟨_,u,eu,d⟩:=S.sl i _ hx'
           exact ⟨rfl,u,by simpa using eu,d.mono hv⟩
         · cases h
 rintro i m σ' H' ⟨rfl,hi,e2,vs,rs,hv1,hv2,hv3,hnd,hfr,hlen,hsl⟩
 obtain ⟨y1,y2⟩:=yl H' (aF.trans e2)
 have rsd:∀ b ∈ rs,∃ o,H' b=some o:=hv3.some_of
 by_cases hlt:i < xs.length
 · obtain ⟨g,y⟩:=y2 i hlt
   refine .inr ⟨g,λx H2 hy=>?_⟩
   obtain ⟨e3,dx⟩:=y x H2 hy
   have S2:=slots e2 ⟨_,hv1⟩ rsd hlen hsl
   have o0:∀ b,own (λb=>own A B b\/b=D\/b ∈ rs) (λ_=>([]:List Addr)) b->own A B b\/b=D\/b ∈ rs:=λb z=>z.elim id λ⟨_,z⟩=>(nomatch z)
   have dx':=dx _ S2.dm (λb o z=>by
     obtain ⟨z1,z2⟩:=ay.mp z
     exact ay.mpr ⟨λy=>(o0 b y).elim z1 λy=>y.elim (λy=>(by rw [y,hD] at z2; cases z2)) λy=>(by rw [hfr b y] at z2; cases z2),e2 _ _ z2⟩)
   refine ⟨i,hlt,_,_,_,S2.mono e3,dx',λσ2 B2 S3=>?_⟩
   refine q9 ⟨i,hlt,_,_,_,S3,λv H5 bs e5 hf5 d5=>?_⟩
   obtain ⟨nv,ndv⟩:=d5.nd (hn i hlt)
   have e6:=e3.trans e5
   have hv5:=e6 _ _ hv1
   have bsD:∀ b ∈ bs,b ≠ D:=λb hb z=>by have:=(hf5 b hb).1; rw [z,e3 _ _ hv1] at this; cases this
   have bsR:∀ b ∈ bs,b ∉ rs:=λb hb z=>by obtain ⟨o,q⟩:=rsd b z; have:=(hf5 b hb).1; rw [e3 _ _ q] at this; cases this
   refine ⟨vs,xs.length - (i + 1),hv5,F8 (EV hv2 (F8 hlt hl)) (by decide),by omega,rfl,hlt,?_,vs++[v],rs++bs,aE,by rw [EC]; exact Jt hv2,?_,?_,?_,S3.len.trans (hT i).1,λl s h=>?_⟩
   · intro b o z
     have ne:b ≠ D:=λy=>by rw [y,hD] at z; cases z
     rw [aD ne]
     exact e6 _ _ (e2 _ _ z)
   · rw [Fz,EW]
     have sm1:aq (hd H5 λb=>vw true (λb=>own A B b\/b=D\/b ∈ rs) B2 b\/b ∈ bs) (hd (upd H5 D (.lst (vs++[v]))) λb=>own A B b\/b=D\/b ∈ rs++bs):=λb o z=>by
       obtain ⟨z1,z2⟩:=ay.mp z
       refine ay.mpr ⟨λy=>z1 ?_,by rw [aD (λy:b=D=>z1 (.inl (.inl (.inr (.inl y)))))]; exact z2⟩
       rcases y with y | y | y
       · exact .inl (.inl (.inl y))
       · exact .inl (.inl (.inr (.inl y)))
       · exact (Ff.mp y).elim (λy=>.inl (.inl (.inr (.inr y)))) .inr
     have sm2:aq (hd H' λb=>own A B b\/b=D\/b ∈ rs) (hd (upd H5 D (.lst (vs++[v]))) λb=>own A B b\/b=D\/b ∈ rs++bs):=λb o z=>by
       obtain ⟨z1,z2⟩:=ay.mp z
       refine ay.mpr ⟨λy=>?_,by rw [aD (λy:b=D=>z1 (.inr (.inl y)))]; exact e6 _ _ z2⟩
       rcases y with y | y | y
       · exact z1 (.inl y)
       · exact z1 (.inr (.inl y))
       · rcases Ff.mp y with y | y
         · exact z1 (.inr (.inr y))
         · have:=(hf5 b y).1; rw [e3 _ _ z2] at this; cases this
     refine ba.snoc (nv.frame sm1 λb hb=>aD (bsD b hb)) (hv3.frame sm2 λb hb=>?_)
     obtain ⟨o,q⟩:=rsd b hb
     rw [aD (λz:b=D=>(F4.mp hnd).1 (by rw [<- z]; exact hb)),e6 _ _ q,q]
   · obtain ⟨n1,n2⟩:=F4.mp hnd
     refine F4.mpr ⟨λz=>?_,Jf.mpr ⟨n2,ndv,λx hx y hy z=>bsR y hy (z ▸ hx)⟩⟩
     exact (Ff.mp z).elim n1 λz=>bsD D z rfl
   · intro b hb
     rcases Ff.mp hb with z | z
     · exact hfr b z
     · exact (e2.trans e3).free (hf5 b z).1
   · rcases flat l s h with rfl | ⟨x,rfl⟩
     · rfl
     · obtain ⟨_,u,eu,d⟩:=S3.sl l _ ((hT i).2 l x h)
       refine ⟨rfl,u,eu,d.mono λb o z=>?_⟩
       obtain ⟨z1,z2⟩:=ay.mp z
       refine ay.mpr ⟨λy=>?_,by rw [aD (λy:b=D=>z1 (.inl (.inr (.inl y))))]; exact e5 _ _ z2⟩
       rcases y with y | y | y
       · exact z1 (.inl (.inl y))
       · exact z1 (.inl (.inr (.inl y)))
       · rcases Ff.mp y with y | y
         · exact z1 (.inl (.inr (.inr y)))
         · rw [(hf5 b y).1] at z2; cases z2
 · have e:i=xs.length:=by omega
   subst e
   refine .inl ⟨y1 _ (Ek _),kk _ _ (D :: rs) (e1.trans e2) (λb hb=>?_) ⟨hnd,_,rfl,.l hv1 (hv3.frame (aA (aq.refl _) λb z=>?_) λ_ _=>rfl)⟩⟩
   · rcases EE.mp hb with rfl | z
     · exact ⟨e1.free hD,_,hv1⟩
     · exact ⟨e1.free (hfr b z),rsd b z⟩
   · rcases z with z | z
     · exact .inl (kl z)
     · exact .inr ((EE.mp z).elim .inl .inr)
theorem DU (j:Nat) {n:Str} {g:Nat->D} {f:Nat->Nd} {S':Nat->Sl} (B:Bk X k) (hi:PI X (.Name n p) it (dI X.K τ xs)) (hx:∀ i (h:i < xs.length),xs[i]=g i) (hl:xs.length < 1000000)
   (he:∀ i,i < xs.length->∀ s H fp,PE (cpX X s H scope fp) elt (dE X.K true ((bA τ (bCp X.N scope)++[Sl.un]).set j (.d (g i))) (S' i))) (hn:∀ i,i < xs.length->BN (S' i)=some (f i))
   (hc:bOk X.env.scope scope=true:=by kernel_rfl) (hu:(bA τ (bCp X.N scope)++[Sl.un])[j]?=some .un:=by rfl) (hN:(bNm scope++[("#" : Str)])[j]?=some n:=by rfl) (hv:∀ s H fp,Loc (cpX X s H scope fp).env.scope n:=by intro _ _ _; first | exact .inl rfl | exact .inr rfl)
   (hf:∀ s H fp,(cpX X s H scope fp).fn n=true\/(cpX X s H scope fp).env.scope.names.lookup n=some .local:=by intro _ _ _; first | exact .inr rfl | exact .inl rfl) (hs:∀ x,foldedSetIterable it X.env x=pure x:=by intro _; rfl) :
   Bl X elt (.Name n p) it [] scope τ ((Eo xs.length).map f):=by
 refine zj (T:=λi=>(bA τ (bCp X.N scope)++[Sl.un]).set j (.d (g i))) B hc hi (λi=>⟨Fl,λl x h=>?_⟩) (λi h s H fp=>?_) he hn hl hs
 · rw [E2 (λz=>by rw [<- z,hu] at h; cases h)]
   exact h
 · rw [hx i h]
   exact xZ j (fR hc).2 hN (hv s H fp) (hf s H fp)
end
section
variable {X:Cx} {C:Bool} {τ τ':List Sl} {x y z:D} {a b e c tg it elt o ix:Expr} {es ifs:List Expr} {pos p q:Pos} {k:Nat} {s:Sl} {N:Po} {rest body:List Stmt} {ds xs ys:List D} {i:Nat} {scope:Scope}
theorem Cy (j l:Nat) {n m:Str} {p2 pt:Pos} {md:Nat} {g g' f:Nat->D} (B:Bk X k) (hi:PI X (.Tuple [.Name n p,.Name m p2] md pt) it (dI X.K τ xs)) (hx:∀ i (h:i < xs.length),xs[i]=.tup [g i,g' i]) (hl:xs.length < 1000000)
   (he:∀ i,i < xs.length->∀ s H fp,PE (cpX X s H scope fp) elt (dE X.K true (((bA τ (bCp X.N scope)++[Sl.un]).set j (.d (g i))).set l (.d (g' i))) (.d (f i))))
   (hc:bOk X.env.scope scope=true:=by kernel_rfl) (hu:(bA τ (bCp X.N scope)++[Sl.un])[j]?=some .un:=by rfl) (hu':(bA τ (bCp X.N scope)++[Sl.un])[l]?=some .un:=by rfl) (hN:(bNm scope++[("#" : Str)])[j]?=some n:=by rfl) (hN':(bNm scope++[("#" : Str)])[l]?=some m:=by rfl) (hv:∀ s H fp,Loc (cpX X s H scope fp).env.scope n:=by intro _ _ _; first | exact .inl rfl | exact .inr rfl) (hv':∀ s H fp,Loc (cpX X s H scope fp).env.scope m:=by intro _ _ _; first | exact .inl rfl | exact .inr rfl)
   (hf:∀ s H fp,(cpX X s H scope fp).fn n=true\/(cpX X s H scope fp).env.scope.names.lookup n=some .local:=by intro _ _ _; first | exact .inr rfl | exact .inl rfl) (hf':∀ s H fp,(cpX X s H scope fp).fn m=true\/(cpX X s H scope fp).env.scope.names.lookup m=some .local:=by intro _ _ _; first | exact .inr rfl | exact .inl rfl) (hs:∀ x,foldedSetIterable it X.env x=pure x:=by intro _; rfl) :
   Cmp X elt (.Tuple [.Name n p,.Name m p2] md pt) it [] scope τ ((Eo xs.length).map f):=
 DV (λi=>((bA τ (bCp X.N scope)++[Sl.un]).set j (.d (g i))).set l (.d (g' i))) B hi hl (λi=>⟨by rw [Fl,Fl],λr x h=>by
     rw [E2 (λz=>by rw [<- z,hu'] at h; cases h),E2 (λz=>by rw [<- z,hu] at h; cases h)]
     exact h⟩)
   (λi h s H fp=>by rw [hx i h]; exact zB j l (B.comp s H scope fp).calm (fR hc).2 hN hN' (hv s H fp) (hv' s H fp) (hf s H fp) (hf' s H fp)) he hc hs
theorem zD {ns ms:List Int} (i:Nat) (h:i < (kO (ns.map D.int) (ms.map D.int)).length):(kO (ns.map D.int) (ms.map D.int))[i]=.tup [.int (ns.getD i 0),.int (ms.getD i 0)]:=by
 rw [sF]
 rw [cK,Ei,Ei] at h
 simp [show i < ns.length by omega,show i < ms.length by omega]
end
end Hy
namespace Hy
open PySem PySem.Spec PyProof.Rows L2
open Ev (D Den ax aw aX aI)
section
variable {X:Cx} {C:Bool} {τ:List Sl} {x y z:D} {a b e o ix:Expr} {es:List Expr} {pos p q:Pos} {k:Nat} {s:Sl} {N:Po} {rest:List Stmt} {i j:Nat} {t c:Nd} {pt:List Nat} {xs:List Nd} {m:Nat}
end
end Hy
namespace Hy
open PySem PySem.Spec PyProof.Rows L2
open Ev (D Den ax)
theorem _root_.L2.Fun.Ag {K:Ej} {x qual:Str} {st:Stmt} {f T:Addr} {fd:FuncData} {ps:List Str} {c:Value} {d:Option Addr} {items:Array Value} {n:Nat} {sl:Array (Option Value)} (_:L2.Fun K x qual st f fd) (hd:fd.defaults=.ref T) (lT:K.lookup T=some ⟨c,d,.seq items n,sl⟩)
   (h:∀ us:List Value,us.length=ps.length->∃ k,bindArgs fd ⟨us,[]⟩=seqItems? fd.defaults >>= k/\k (some items)=pure (ps.zip us)):L2.Binds K fd ps []:=λs us X hl=>by
 rw [FC] at hl ⊢
 obtain ⟨k,h1,h2⟩:=h us hl
 exact .of_defaults hd (X _ _ lT) rfl h1 h2
noncomputable def vX (K:Ej) (x:Str) (st:Stmt) (f:Addr) (i:Int):Prop:=GI K mainGlobals x=some (some (.ref f))/\(∃ oc od kV dc pm an cd ct sl T td tl tc tt tn,K.lookup f=some ⟨oc,od,.func (FV x x (bZ st) (bD st) (ah st) (.ref T) kV dc pm an cd ct),sl⟩/\GC K cd x=true/\K.lookup T=some ⟨tc,td,.seq #[.int i tt] tn,tl⟩)/\FU K (.ref f)=true
section
variable {P:Program} {w:World} {K:Ej} {h:Heap} {mg:Str->Option Value} {base:Heap} {x:Str} {st:Stmt} {f:Addr} {ps:List Str} {k:Nat} {Φ:List D->Sl->Prop} {i:Int}
theorem vX.of {oc tc:Value} {od an td:Option Addr} {kV dc pm cd ct:Value} {sl tl:Array (Option Value)} {T:Addr} {tt:Tok} {tn:Nat} (a:GI K mainGlobals x=some (some (.ref f))) (l:K.lookup f=some ⟨oc,od,.func (FV x x (bZ st) (bD st) (ah st) (.ref T) kV dc pm an cd ct),sl⟩) (c:GC K cd x=true) (d:K.lookup T=some ⟨tc,td,.seq #[.int i tt] tn,tl⟩) (k:FU K (.ref f)=true):vX K x st f i:=⟨a,⟨_,_,_,_,_,_,_,_,_,_,_,_,_,_,_,l,c,d⟩,k⟩
theorem vX.cal (d:vX K x st f i) (X:K.In h) (G:h.Ns mainGlobals mg) (b:∀ (T:Addr) (tt:Tok) (kV dc pm:Value) (an:Option Addr) (cd ct:Value) (us:List Value),us.length=ps.length->∃ k,bindArgs (FV x x (bZ st) (bD st) (ah st) (.ref T) kV dc pm an cd ct) ⟨us,[]⟩=seqItems? (.ref T) >>= k/\k (some #[.int i tt])=pure (ps.zip us))
   (o:∀ fd,Fun K x x st f fd->aS P w K mg base CX0 k f fd ps (spD K Φ)):Cal P w K mg base k x Φ:=by
 obtain ⟨a,⟨oc,od,kV,dc,pm,an,cd,ct,sl,T,td,tl,tc,tt,tn,l,c',dt⟩,q⟩:=d
 have F:=qD l c' q
 exact ⟨f,_,ps,o _ F,Hd X G a,q,F.Ag rfl dt (b T tt kV dc pm an cd ct)⟩
end
section
variable {K:Ej} {G G' H:Hp}
end
end Hy
namespace Lc
open PySem PySem.Spec PyProof.Rows L2
open PySem.AutoSeq1 (wpAny_loadPart')
open PySem.MeetsSeq PySem.MeetsSeq2 PySem.MeetsSeq3 PySem.SeqRoads2 PySem.SeqAt
open Ev (D Den ax eqD vQ toP)
noncomputable def xA (op:CmpOp) (A:Around) (s:Shared) (y x:Value) (b:Bool):Prop:=
 ∀ (prog:Program) (w:World) (E:Value->Shared->Prop) (Q:Value->Shared->Prop),Q (.bool b) s->wpAny (model prog w) A (richCompare op y x) Q E s
theorem zm (l b:Addr) (items items2:Array Value) (n n2:Nat) (dd dd2:Option Addr) (sl sl2:Array (Option Value)) (j:Nat) (h1:j < items.size) (h2:j < items2.size) (c:Bool) (k:Nat) :
   ∀ i:Nat,j - i=k->i<=j->Meets (Builtin.«list.__eq__.loop» ⟨[.ref l,.ref b,rawInt i,rawInt 0],[]⟩)
     (λA R s=>s.heap.get? l=some { cls:=.type "list",dict:=dd,data:=.seq items n,slots:=sl }/\s.heap.get? b=some { cls:=.type "list",dict:=dd2,data:=.seq items2 n2,slots:=sl2 } /\
       (∀ m (_:m < j) (z1:m < items.size) (z2:m < items2.size),EqAt A.in1 s items[m] items2[m] true)/\EqAt A.in1 s items[j] items2[j] false/\xA .Lt A.in1 s items[j] items2[j] c /\
       R (.ok (.ret (.bool c))) s):=by
 induction k with
 | zero=>
   intro i hk hij prog w A R s h
   obtain ⟨hp,g,d,tk,os⟩:=s; obtain ⟨hl,hb,he,hn,hc,h⟩:=h
   obtain rfl:i=j:=by omega
   wp_walk using wpAny_loadPart' hl,wpAny_loadPart' hb
   have hi1:items[((i:Nat):Int).toNat]?=some items[i]:=by simp [h1]
   have hi2:items2[((i:Nat):Int).toNat]?=some items2[i]:=by simp [h2]
   rw [hi1,hi2]
   refine wpAny_bind (hn prog w _ _ ?_)
   wp_walk using wpAny_loadPart' hl,wpAny_loadPart' hb
   rw [hi1,hi2]
   refine wpAny_bind (hc prog w _ _ ?_)
   wp_walk
   exact h
 | succ k ih=>
   intro i hk hij prog w A R s h
   obtain ⟨hp,g,d,tk,os⟩:=s; obtain ⟨hl,hb,he,hn,hc,h⟩:=h
   wp_walk using wpAny_loadPart' hl,wpAny_loadPart' hb
   have hlt:i < items.size:=by omega
   have hlt2:i < items2.size:=by omega
   have hi1:items[((i:Nat):Int).toNat]?=some items[i]:=by simp [hlt]
   have hi2:items2[((i:Nat):Int).toNat]?=some items2[i]:=by simp [hlt2]
   have hcc:((i:Int) + 1)=((i + 1:Nat):Int):=by push_cast; rfl
   rw [hi1,hi2]
   refine wpAny_bind (he i (by omega) hlt hlt2 prog w _ _ ?_)
   wp_walk
   rw [hcc]
   exact ⟨plainId_quiet plain_eq_loop _,codeAny_builtin entry_eq_loop (by
     rw [GA plain_eq_loop _]
     exact ih (i + 1) (by omega) (by omega) prog w A R _ ⟨hl,hb,he,hn,hc,h⟩)⟩
theorem yk (l b:Addr) (items items2:Array Value) (n n2:Nat) (dd dd2:Option Addr) (sl sl2:Array (Option Value)) (j:Nat) (h1:j < items.size) (h2:j < items2.size) (c:Bool) :
   Meets (Builtin.«list.__lt__» ⟨[.ref l,.ref b],[]⟩)
     (λA R s=>s.heap.get? l=some { cls:=.type "list",dict:=dd,data:=.seq items n,slots:=sl }/\s.heap.get? b=some { cls:=.type "list",dict:=dd2,data:=.seq items2 n2,slots:=sl2 } /\
       (∀ m (_:m < j) (z1:m < items.size) (z2:m < items2.size),EqAt A.in1 s items[m] items2[m] true)/\EqAt A.in1 s items[j] items2[j] false/\xA .Lt A.in1 s items[j] items2[j] c /\
       R (.ok (.ret (.bool c))) s):=by
 intro prog w A R s h
 obtain ⟨hp,g,d,tk,os⟩:=s; obtain ⟨hl,hb,he,hn,hc,h⟩:=h
 have f3:=JH
 wp_walk using wpAny_loadPart' hl,wpAny_loadPart' hb
 exact ⟨plainId_quiet plain_eq_loop _,codeAny_builtin entry_eq_loop (by
   rw [GA plain_eq_loop _]
   exact zm l b items items2 n n2 dd dd2 sl sl2 j h1 h2 c _ 0 rfl (Fg _) prog w A R _ ⟨hl,hb,he,hn,hc,h⟩)⟩
section
variable {X:Cx} {pins:List (Addr × Obj)} {σ:L2.St} {H G:Hp} {s:Shared}
open Ev (cln eE dep fJ fB jr jm nK)
theorem eJ:∀ {xs:List D} {j:Nat} {x:D},eE xs=true->xs[j]?=some x->cln x=true/\dep x<=fJ xs
 | y :: ys,0,x,h,e=>by
   cases e
   rw [eE,Fp] at h
   rw [fJ]
   exact ⟨h.1,Nat.le_max_left _ _⟩
 | y :: ys,j + 1,x,h,e=>by
   rw [eE,Fp] at h
   obtain ⟨h1,h2⟩:=eJ (xs:=ys) h.2 e
   rw [fJ]
   exact ⟨h1,EH h2 (Nat.le_max_right _ _)⟩
theorem dZ {K:Ej} {G:Hp}:∀ {vs:List V} {xs:List D} {us:List Value},ax K G vs xs->Vals vs us->∀ {j:Nat} {x:D},xs[j]?=some x->∃ v u,us[j]?=some u/\Den K G v x/\RelV v u
 | _,_,_,.cons d r,.cons q qs,0,x,e=>by cases e; exact ⟨_,_,rfl,d,q⟩
 | _,_,_,.cons d r,.cons q qs,j + 1,x,e=>dZ r qs (j:=j) e
 | _,_,_,.nil,.nil,_,_,e=>by cases e
theorem kD (I:Inv X pins σ H s) (e:aq G H) {A:Around} {v v':V} {x y:D} {u u':Value} (d:Den X.K G v x) (r:RelV v u) (d':Den X.K G v' y) (r':RelV v' u') (c1:cln x=true) (c2:cln y=true) (hu:A.units + dep x < cLine):EqAt A s u u' (eqD x y):=by
 obtain ⟨as,z1⟩:=fB I e d r c1
 obtain ⟨bs,z2⟩:=fB I e d' r' c2
 rw [<- jr]
 refine eqAt_reads _ _ A s u u' as bs z1 z2 (by rw [jm]; exact c1) (by rw [jm]; exact c2) ?_
 rw [nK]
 exact EV (Gq (Nat.min_le_left _ _) _) hu
end
end Lc
namespace Hy
open PySem PySem.Spec PyProof.Rows L2
open Ev (D Den ax vQ)
end Hy
namespace Hy
open PySem PySem.Spec PyProof.Rows L2
open Ev (D Den ax)
section
variable {K:Ej} {A:Addr->Prop} {H₀ H H':Hp} {τ:List Sl} {B:Nat->List Addr} {σ:L2.St}
end
section
variable {X:Cx} {τ:List Sl} {x y z:D} {a b e c:Expr} {es:List Expr} {pos p q:Pos} {k:Nat} {s:Sl} {ds:List D} {N:Po} {rest body:List Stmt}
end
section
variable {P:Program} {w:World} {K:Ej} {mg:Str->Option Value} {base:Heap}
end
section
variable {X:Cx} {τ:List Sl} {es:List Expr} {pos p q pr:Pos} {k:Nat} {s:Sl} {ds:List D} {N:Po} {rest:List Stmt}
end
end Hy
namespace Hy
open PySem PySem.Spec PyProof.Rows L2
open Ev (D Den ax aJ aH aw aX aI)
section
variable {X:Cx} {i:Int}
theorem C7 {ns:List Int}:bP X (compareOp .In) (.int i) (.lst (ns.map .int)) (.bl (ns.any λw=>decide (w=i))):=⟨_,iz,λM x' y' H Q _ d1 d2 q=>by
 cases d1
 cases d2 with
 | @lst ad vs _ h r=>
   cases cL r
   refine ⟨_,_,rfl,.inl (aI aF h),rfl,?_,?_⟩
   · rw [Gk,E9]; intro _ _; rfl
   · have e:(ns.any λw=>decide (w=i))=inV (.int i) (ns.map V.int):=by unfold inV; rw [Iq]; congr 1
     rw [if_neg Eu]
     rw [e] at q
     exact q _ H (aq.refl _) .bl⟩
theorem zP {ns:List Int}:bP X (compareOp .In) (.int i) (.tup (ns.map .int)) (.bl (ns.any λw=>decide (w=i))):=⟨_,iz,λM x' y' H Q _ d1 d2 q=>by
 cases d1
 cases d2 with
 | @tup ad vs _ h r=>
   cases cL r
   refine ⟨_,_,rfl,.inr (aX aF h),rfl,?_,?_⟩
   · rw [Gk,E9]; intro _ _; rfl
   · have e:(ns.any λw=>decide (w=i))=inV (.int i) (ns.map V.int):=by unfold inV; rw [Iq]; congr 1
     rw [if_neg Eu]
     rw [e] at q
     exact q _ H (aq.refl _) .bl⟩
theorem AB {ns:List Int}:bP X (compareOp .NotIn) (.int i) (.tup (ns.map .int)) (.bl (!ns.any λw=>decide (w=i))):=⟨_,ny,λM x' y' H Q _ d1 d2 q=>by
 cases d1
 cases d2 with
 | @tup ad vs _ h r=>
   cases cL r
   refine ⟨_,_,rfl,.inr (aX aF h),rfl,?_,?_⟩
   · rw [Gk,E9]; intro _ _; rfl
   · have e:(ns.any λw=>decide (w=i))=inV (.int i) (ns.map V.int):=by unfold inV; rw [Iq]; congr 1
     rw [if_pos rfl]
     rw [e] at q
     exact q _ H (aq.refl _) .bl⟩
end
end Hy
namespace Su
open PySem PyProof.Rows HT
open PySem.SeqAt
open PySem.AutoSeq1 (wpAny_loadPart')
open PySem.MeetsSeq PySem.MeetsSeq2 PySem.MeetsSeq3
theorem uj (t:Bool) (x y:Value):keyLt' (tuples' t) x y=(do
   let xs <- GN x; let ys <- GN y
   for ((p,q),i) in (xs.toList.zip ys.toList).zipIdx do
     if !(<- eqBool p q) then return <- oneLt' (t && i == 0) p q
   return xs.size < ys.size):=rfl
section
variable {prog:Program} {w:World} {A:Around} {E:Value->Shared->Prop} {s:Shared}
theorem qT {b:Bool} {a c:Int} {t u:Tok} {Q:Bool->Shared->Prop} (h:Q (decide (a < c)) s):wpAny (model prog w) A (oneLt' b (.int a t) (.int c u)) Q E s:=by
 cases b with
 | true=>exact oneLt_int h
 | false=>
   rw [oneLt'_eq]
   simp only [FD,if_false]
   exact wpAny_bind (vH A s a t c u prog w E _ (wpAny_truthy_bool h))
theorem pW {l b:Addr} {items items2:Array Value} {n n2:Nat} {dd dd2:Option Addr} {sl sl2:Array (Option Value)} {ns ms:List Int} {t:Bool} {Q:Bool->Shared->Prop} (hl:s.heap.get? l=some { cls:=.type "tuple",dict:=dd,data:=.seq items n,slots:=sl }) (hb:s.heap.get? b=some { cls:=.type "tuple",dict:=dd2,data:=.seq items2 n2,slots:=sl2 })
   (hi:IntsAre items.toList ns) (hj:IntsAre items2.toList ms) (h:Q (lexLt ns ms) s):wpAny (model prog w) A (keyLt' (tuples' t) (.ref l) (.ref b)) Q E s:=by
 rw [uj]
 have z1:items.size=ns.length:=by rw [<- hi.length]; simp
 have z2:items2.size=ms.length:=by rw [<- hj.length]; simp
 refine wpAny_bind (listItems_at hl rfl ?_)
 refine wpAny_bind (listItems_at hb rfl ?_)
 refine wpAny_bind (wpAny_forIn_list _ (λrest (b:Option Bool × Unit) s'=>b.1=none/\s'=s/\∃ (vs ws:List Value) (ns' ms':List Int) (k:Nat),rest=(vs.zip ws).zipIdx k /\
     IntsAre vs ns'/\IntsAre ws ms'/\ns'.length + items2.size=ms'.length + items.size/\Q (lexLt ns' ms') s) _ ?turn ?fin _ _ ?init)
 case turn=>
   rintro ⟨⟨y,x⟩,i⟩ rest b s' ⟨hb',rfl,vs,ws,ns',ms',k,hz,hvi,hwi,hlen,hR⟩
   cases hvi with
   | nil=>rw [List.zip_nil_left] at hz; cases hz
   | cons a t hvi'=>
     cases hwi with
     | nil=>rw [List.zip_nil_right] at hz; cases hz
     | cons c u hwi'=>
       rw [List.zip_cons_cons,List.zipIdx_cons] at hz
       injection hz with hyx hrest
       injection hyx with hy hx
       injection hy with hy hy2
       subst hy hy2
       rw [qB] at hR
       simp only [ET] at hlen
       obtain ⟨e,he,hiff⟩:=w8 A s' a t c u
       refine wpAny_bind (he prog w _ _ ?_)
       cases e with
       | true=>
         rw [if_pos (hiff.mp rfl)] at hR
         wp_walk
         exact ⟨rfl,rfl,_,_,_,_,_,hrest,hvi',hwi',by omega,hR⟩
       | false=>
         rw [if_neg (λq=>absurd (hiff.mpr q) Eu)] at hR
         simp only [Bool.not_false,if_true]
         refine wpAny_bind (qT ?_)
         exact wpAny_pure (wpAny_pure hR)
 case fin=>
   rintro ⟨b1,b2⟩ s' ⟨hb',rfl,vs,ws,ns',ms',k,hz,hvi,hwi,hlen,hR⟩
   simp only at hb'
   subst hb'
   have hv:lexLt ns' ms'=decide (items.size < items2.size):=by
     cases hvi with
     | nil=>
       cases hwi with
       | nil=>
         simp only [Gg] at hlen
         rw [kJ]
         exact (decide_eq_false (by omega)).symm
       | cons c u hw=>
         simp only [Gg,ET] at hlen
         rw [kF]
         exact (decide_eq_true (by omega)).symm
     | cons a t hv=>
       cases hwi with
       | nil=>
         simp only [Gg,ET] at hlen
         rw [kr]
         exact (decide_eq_false (by omega)).symm
       | cons c u hw=>
         rw [List.zip_cons_cons] at hz
         cases hz
   rw [hv] at hR
   exact wpAny_pure hR
 case init=>exact ⟨rfl,rfl,items.toList,items2.toList,ns,ms,0,rfl,hi,hj,by omega,h⟩
theorem ltG {st:SortSt} {i j:Nat} {x y p q:Value} {b:Bool} {Q:Option Bool->SortSt->Prop} (hi:(arrOf st)[i]?=some (x,p)) (hj:(arrOf st)[j]?=some (y,q))
   (hlt:∀ (E:Value->Shared->Prop) (Q:Bool->Shared->Prop),Q b s->wpAny (model prog w) A (keyLt' (kindOf st) x y) Q E s) (h:Q (some b) st):wpS (model prog w) A E s (ltAt' i j) Q st:=by
 rw [ltAt'_eq]
 refine wpS_bind (wpS_get ?_)
 show wpS _ _ _ _ (do let x <- elem' (arrOf st) i; let y <- elem' (arrOf st) j; lt' x y) Q st
 rw [elem'_eq,elem'_eq,hi,hj]
 refine wpS_bind (wpS_pure (wpS_bind (wpS_pure ?_)))
 rw [lt'_eq]
 refine wpS_bind (wpS_get ?_)
 refine wpS_bind (wpS_lift (wpAny_attempt (hlt _ _ ⟨rfl,?_⟩)))
 exact wpS_pure h
theorem D8 {n m:Nat} {st:SortSt} {Q:AscSt->SortSt->Prop} (hm:m<=n) (h:Q (none,n) st):wpS (model prog w) A E s (ascLoop n m) Q st:=by
 unfold ascLoop
 exact wpS_forRange (I:=λ_ c st'=>c=(none,n)/\st'=st) (λi _ _ h1 h2 _=>absurd h2 (by omega)) (λc st' ⟨h1,h2⟩=>by subst h1 h2; exact h) ⟨rfl,rfl⟩
theorem Ap {st:SortSt} {x y p q:Value} {b:Bool} {Q:Option Nat->SortSt->Prop} (hA:arrOf st=#[(x,p),(y,q)])
   (hlt:∀ (E:Value->Shared->Prop) (Q:Bool->Shared->Prop),Q b s->wpAny (model prog w) A (keyLt' (kindOf st) y x) Q E s) (h:Q (some 2) (if b then setArr st #[(y,q),(x,p)] else st)):wpS (model prog w) A E s (countRun' 0 2) Q st:=by
 rw [countRun0_eq]
 have h1:(arrOf st)[1]?=some (y,q):=by rw [hA]; rfl
 have h0:(arrOf st)[0]?=some (x,p):=by rw [hA]; rfl
 refine wpS_bind (wpS_mono (Q:=λc st'=>st'=st/\c=(none,if b then 1 else 2)) (by
   unfold ascLoop
   refine wpS_forRange (I:=λi c st'=>st'=st/\((i=1/\c=(none,1))\/(i=2/\b=false/\c=(none,2)))) ?_ ?_ ⟨rfl,.inl ⟨rfl,rfl⟩⟩
   · rintro i c st' hi1 hi2 ⟨rfl,⟨rfl,rfl⟩ | ⟨rfl,_⟩⟩
     · refine wpS_bind (ltG (i:=1) (j:=0) h1 h0 hlt ?_)
       cases b with
       | true=>exact wpS_pure ⟨rfl,rfl⟩
       | false=>exact wpS_pure ⟨rfl,.inr ⟨rfl,rfl,rfl⟩⟩
     · omega
   · rintro c st' ⟨rfl,⟨h,_⟩ | ⟨_,rfl,rfl⟩⟩
     · exact absurd h (by decide)
     · exact ⟨rfl,rfl⟩) ?_)
 rintro c st' ⟨rfl,rfl⟩
 cases b with
 | false=>exact wpS_pure h
 | true=>
   show wpS _ _ _ _ (if ((1:Nat) == 2)=true then _ else if 1 > 1 then _ else descPart 1 2) Q st'
   rw [if_neg (by decide),if_neg (by decide)]
   unfold descPart
   refine wpS_bind (wpS_lift (wpAny_rule ⟨rfl,?_⟩))
   refine wpS_bind (wpS_mono (Q:=λc st''=>st''=st'/\c=(none,2,0)) (by
     unfold descLoop
     exact wpS_forRange (I:=λ_ c st''=>st''=st'/\c=(none,2,0)) (λi _ _ h1 h2 _=>absurd h2 (by omega)) (λc st' h=>h) ⟨rfl,rfl⟩) ?_)
   rintro c st'' ⟨rfl,rfl⟩
   show wpS _ _ _ _ (if 0 > 0 then _ else tail3 2 2) Q st''
   rw [if_neg (by decide)]
   unfold tail3
   refine wpS_bind (wpS_reverse ?_)
   refine wpS_bind (D8 (Ek _) ?_)
   refine wpS_pure ?_
   have e:mirror (arrOf st'') 0 2 ((2 - 0) / 2)=#[(y,q),(x,p)]:=by rw [hA]; rfl
   rw [e]
   exact h
theorem Ds {st:SortSt} {x y p q:Value} {b:Bool} {Q:Unit->SortSt->Prop} (hA:arrOf st=#[(x,p),(y,q)]) (hf:failedOf st=none) (hp:pendingOf st=#[])
   (hlt:∀ (E:Value->Shared->Prop) (Q:Bool->Shared->Prop),Q b s->wpAny (model prog w) A (keyLt' (kindOf st) y x) Q E s)
   (h:∀ st',arrOf st'=(if b then #[(y,q),(x,p)] else #[(x,p),(y,q)])->failedOf st'=none->Q () st'):wpS (model prog w) A E s sortRuns' Q st:=by
 rw [sortRuns'_eq]
 refine wpS_bind (wpS_get ?_)
 dsimp only
 have hsz:(arrOf st).size=2:=by rw [hA]; rfl
 have hmr:minRun' 2 2 0=2:=rfl
 simp only [hsz,hmr]
 let P:SortSt->Prop:=λst'=>arrOf st'=(if b then #[(y,q),(x,p)] else #[(x,p),(y,q)])/\failedOf st'=none/\(pendingOf st').size=1
 refine wpS_bind (wpS_mono (wpS_forRange (I:=λi c st'=>(i=0/\c=(none,0)/\st'=st)\/(1<=i/\c=(none,2)/\P st')) (Q:=λc st'=>c=(none,2)/\P st') ?step ?fin (.inl ⟨rfl,rfl,rfl⟩)) ?post)
 case fin=>
   rintro c st' (⟨hx,_,_⟩ | ⟨_,hc,hD⟩)
   · exact absurd hx (by decide)
   · exact ⟨hc,hD⟩
 case step=>
   rintro i c st' _ hx (⟨rfl,rfl,rfl⟩ | ⟨hx1,rfl,hD⟩)
   · dsimp only
     rw [if_neg (by decide)]
     simp only [Nat.sub_zero]
     refine wpS_bind (Ap hA hlt ?_)
     dsimp only
     rw [if_neg (by decide)]
     refine wpS_bind (wpS_get ?_)
     have hb:(pendingOf (if b then setArr st' #[(y,q),(x,p)] else st')).back?=none:=by
       cases b with
       | true=>show (pendingOf st').back?=none; rw [hp]; rfl
       | false=>show (pendingOf st').back?=none; rw [hp]; rfl
     rw [hb]
     dsimp only
     refine wpS_bind (wpS_modify (wpS_pure (.inr ⟨by omega,rfl,?_,?_,?_⟩)))
     · cases b with
       | true=>rfl
       | false=>exact hA
     · cases b with
       | true=>exact hf
       | false=>exact hf
     · cases b with
       | true=>show ((pendingOf st').push _).size=1; rw [hp]; rfl
       | false=>show ((pendingOf st').push _).size=1; rw [hp]; rfl
   · dsimp only
     rw [if_pos (Ek _)]
     exact wpS_pure ⟨rfl,hD⟩
 case post=>
   rintro c st' ⟨rfl,hD⟩
   dsimp only
   refine wpS_bind (wpS_mono (wpS_forRange (I:=λ_ c st''=>st''=st'/\c=(none,())) (Q:=λc st''=>st''=st'/\c=(none,())) ?_ (λ_ _ hh=>hh) ⟨rfl,rfl⟩) ?_)
   · rintro x c st'' _ _ ⟨rfl,rfl⟩
     refine wpS_bind (wpS_get ?_)
     rw [if_pos (by rw [hD.2.2]; exact Ek 1)]
     exact wpS_pure ⟨rfl,rfl⟩
   · rintro c st'' ⟨rfl,rfl⟩
     exact wpS_pure (h _ hD.1 hD.2.1)
noncomputable def fb (h:Heap) (l:Addr) (ns:List Int):Prop:=∃ items n dd sl,h.get? l=some { cls:=.type "tuple",dict:=dd,data:=.seq items n,slots:=sl }/\IntsAre items.toList ns/\ns ≠ []
theorem lr {l:Addr} {ns:List Int} {Q:Option Value->Shared->Prop} (hl:fb s.heap l ns) (h:∀ a t,Q (some (.int a t)) s):wpAny (model prog w) A (firstOfTuple' (.ref l)) Q E s:=by
 obtain ⟨items,n,dd,sl,ho,hi,h0⟩:=hl
 have e:firstOfTuple' (.ref l)=(do
   if (<- typeOf (.ref l)) != .type "tuple" then return none
   return (<- GN (.ref l))[0]?):=rfl
 rw [e]
 refine wpAny_bind (wpAny_typeOf_ref ho ?_)
 simp only [bne_self_eq_false,FD,if_false]
 refine wpAny_bind (listItems_at ho rfl (wpAny_pure ?_))
 obtain ⟨its⟩:=items
 cases hi with
 | nil=>exact absurd rfl h0
 | cons a t _=>exact h a t
theorem Cp {l b:Addr} {ns ms:List Int} {Q:SortKind->Shared->Prop} (hl:fb s.heap l ns) (hb:fb s.heap b ms) (h:Q (tuples' true) s):wpAny (model prog w) A (keyKind' #[.ref l,.ref b]) Q E s:=by
 rw [keyKind'_eq]
 refine wpAny_bind ?_
 have e:(#[EF l,EF b]:Array Value).mapM firstOfTuple'=(do let x <- firstOfTuple' (.ref l); let y <- firstOfTuple' (.ref b); pure #[x,y]):=by
   rw [show (#[EF l,EF b]:Array Value)=[EF l,EF b].toArray from rfl,HJ]
   simp
 rw [e]
 refine wpAny_bind (lr hl λa t=>wpAny_bind (lr hb λc u=>wpAny_pure ?_))
 have e2:oneTypeOnly' ((#[some (FT a t),some (FT c u)]:Array (Option Value)).filterMap id)=pure (some (.type "int")):=by
   rw [show ((#[some (FT a t),some (FT c u)]:Array (Option Value)).filterMap id)=[FT a t,FT c u].toArray by simp,oneTypeOnly'_eq,HJ,mapM_typeOf_ints (.cons a t (.cons c u .nil))]
   simp only [map_pure,pure_bind]
   have hall:((List.map (λ_=>Gd "int") [FT a t,FT c u]).toArray.all λx=>x == Gd "int")=true:=by
     simp only [List.all_toArray,Gk,E9]
     intro _ _
     rfl
   have h0:(List.map (λ_=>Gd "int") [FT a t,FT c u]).toArray[0]?=some (Gd "int"):=by simp
   rw [h0]
   simp only [hall,if_true]
 rw [if_pos (by simp)]
 refine wpAny_bind (wpAny_rule ?_)
 rw [e2]
 exact wpAny_pure h
theorem fb.keep {h h':Heap} {l:Addr} {ns:List Int} (k:∀ o,h.get? l=some o->h'.get? l=some o):fb h l ns->fb h' l ns:=λ⟨items,n,dd,sl,ho,r⟩=>⟨items,n,dd,sl,k _ ho,r⟩
theorem fb.lt {l b:Addr} {ns ms:List Int} (hl:fb s.heap l ns) (hb:fb s.heap b ms) (E:Value->Shared->Prop) (Q:Bool->Shared->Prop) (h:Q (lexLt ns ms) s):wpAny (model prog w) A (keyLt' (tuples' true) (.ref l) (.ref b)) Q E s:=by
 obtain ⟨items,n,dd,sl,ho,hi,_⟩:=hl
 obtain ⟨items2,n2,dd2,sl2,ho2,hi2,_⟩:=hb
 exact pW ho ho2 hi hi2 h
theorem CW {a l b:Addr} {ns ms:List Int} {n:Nat} {P:Fin->Shared->Prop} (ho:s.heap.get? a=some (seqObj "list" #[.ref l,.ref b] n)) (hl:fb s.heap l ns) (hb:fb s.heap b ms)
   (h:P (.done (.ret .none)) { s with heap:=sortedHeap s.heap a [.ref l,.ref b] (if lexLt ms ns then #[.ref b,.ref l] else #[.ref l,.ref b]) }):wpAny (model prog w) A (Builtin.«list.sort» ⟨[.ref a],[]⟩) P E s:=by
 rw [list_sort_plain]
 have ha:a < s.heap.objs.size:=Ez ho
 refine wpAny_bind (listItems_at ho rfl ?_)
 refine wpAny_bind (listUpdate_at ho rfl ?_)
 obtain ⟨e1,ho1⟩:∃ e1,(s.heap.update a (Fm λ_=>#[])).get? a=some (seqObj "list" #[] e1):=⟨_,get?_update_seq ho (λ_=>#[])⟩
 refine wpAny_bind (seqEpoch_at ho1 rfl ?_)
 refine wpAny_bind (wpAny_newTuple ?_)
 refine wpAny_bind (wpAny_newList ?_)
 refine wpAny_holding ?_
 have ho6:(((s.heap.update a (Fm λ_=>#[])).push (seqObj "tuple" #[.ref l,.ref b] 0)).push (seqObj "list" #[] 0)).get? a=some (seqObj "list" #[] e1):=by
   rw [FZ _ _ _ (by rw [size_push',F5]; exact ES (FI ha)),FZ _ _ _ (by rw [F5]; exact ES ha)]
   exact ho1
 have kp:∀ {c:Addr} {o:Obj},s.heap.get? c=some o->o.cls=.type "tuple" -> (((s.heap.update a (Fm λ_=>#[])).push (seqObj "tuple" #[.ref l,.ref b] 0)).push (seqObj "list" #[] 0)).get? c=some o:=λ{c o} z1 z2=>by
   have hc:c < s.heap.objs.size:=Ez z1
   have ne:c ≠ a:=λe=>by rw [e,ho] at z1; cases z1; exact absurd z2 (by simp [seqObj])
   rw [FZ _ _ _ (by rw [size_push',F5]; exact ES (FI hc)),FZ _ _ _ (by rw [F5]; exact ES hc),FF _ _ (FE ne)]
   exact z1
 have kt:∀ {c:Addr} {ks:List Int},fb s.heap c ks->fb (((s.heap.update a (Fm λ_=>#[])).push (seqObj "tuple" #[.ref l,.ref b] 0)).push (seqObj "list" #[] 0)) c ks:=λ⟨items,n,dd,sl,ho,r⟩=>⟨items,n,dd,sl,kp ho rfl,r⟩
 show wpAny (model prog w) A _ P E { s with heap:=((s.heap.update a (Fm λ_=>#[])).push (seqObj "tuple" #[.ref l,.ref b] 0)).push (seqObj "list" #[] 0) }
 dsimp only
 have h2:¬ (#[EF l,EF b]:Array Value).size < 2:=by show ¬ 2 < 2; decide
 rw [if_neg h2,if_neg h2]
 refine wpAny_bind (Cp (kt hl) (kt hb) ?_)
 refine wpAny_bind (wpAny_mono (Ds (x:=.ref l) (y:=.ref b) (p:=.ref l) (q:=.ref b) (b:=lexLt ms ns) (st:=IW (tuples' true) ((#[EF l,EF b]:Array Value).zip #[EF l,EF b]) #[] 7 none)
     (Q:=λ_ st'=>arrOf st'=(if lexLt ms ns then #[(EF b,EF b),(EF l,EF l)] else #[(EF l,EF l),(EF b,EF b)])/\failedOf st'=none) (by show (#[EF l,EF b]:Array Value).zip #[EF l,EF b]=_; simp) rfl rfl
     (λE Q q=>fb.lt (s:={ s with heap:=((s.heap.update a (Fm λ_=>#[])).push (seqObj "tuple" #[.ref l,.ref b] 0)).push (seqObj "list" #[] 0) }) (kt hb) (kt hl) E Q q) λst' a1 a2=>⟨a1,a2⟩) ?_ λ_ _ e=>e)
 rintro ⟨⟨⟩,st'⟩ s' ⟨rfl,hA,hf⟩
 dsimp only
 have em:(arrOf st').map (·.2)=if lexLt ms ns then #[EF b,EF l] else #[EF l,EF b]:=by rw [hA]; split <;> simp
 refine wpAny_bind (seqEpoch_at ho6 rfl ?_)
 refine wpAny_bind (listUpdate_at ho6 rfl ?_ (hsz2:=by rw [em]; split <;> (show 2<=sizeLine + 1; decide)))
 rw [hf,em]
 simp only [bne_self_eq_false,FD,if_false]
 exact wpAny_pure h
theorem zo {c l b:Addr} {ns ms:List Int} {Q:Value->Shared->Prop} (hc:s.heap.IsList c #[.ref l,.ref b]) (hl:fb s.heap l ns) (hb:fb s.heap b ms)
   (h:Q (.ref (s.heap.objs.size + 1)) { s with heap:=sortedAll s.heap [.ref l,.ref b] (if lexLt ms ns then #[.ref b,.ref l] else #[.ref l,.ref b]) }):wpAny (model prog w) A (call (.builtin "sorted") [.ref c]) Q E s:=by
 refine JF kind_sorted plain_sorted entry_sorted (args_sorted1 _) ?_
 unfold Builtin.«sorted»
 refine wpAny_bind (m:=checkCount "sorted" 1 1 _) (wpAny_pure ?_)
 refine wpAny_bind (collect_list (vs:=[.ref l,.ref b]) hc ?_)
 refine wpAny_bind (wpAny_newList ?_)
 have hsz:((s.heap.push (seqObj "list" #[] 0)).update s.heap.objs.size (Fm (·++#[.ref l,.ref b]))).objs.size=s.heap.objs.size + 1:=by
   rw [F5,size_push']
 have hoL:(((s.heap.push (seqObj "list" #[] 0)).update s.heap.objs.size (Fm (·++#[.ref l,.ref b]))).push (seqObj "list" #[.ref l,.ref b] 0)).get? (s.heap.objs.size + 1)=some (seqObj "list" #[.ref l,.ref b] 0):=by
   rw [<- hsz]; exact EK _ rfl
 have kp:∀ {d:Addr} {o:Obj},s.heap.get? d=some o->(((s.heap.push (seqObj "list" #[] 0)).update s.heap.objs.size (Fm (·++#[.ref l,.ref b]))).push (seqObj "list" #[.ref l,.ref b] 0)).get? d=some o:=λ{d o} z=>by
   have hd:d < s.heap.objs.size:=Ez z
   rw [FZ _ _ _ (by rw [hsz]; exact ES (FI hd)),FF _ _ (Iy hd),FZ _ _ _ (ES hd)]
   exact z
 show wpAny _ _ _ _ _ { s with heap:=((s.heap.push (seqObj "list" #[] 0)).update s.heap.objs.size (Fm (·++#[.ref l,.ref b]))).push (seqObj "list" #[.ref l,.ref b] 0) }
 rw [hsz]
 refine wpAny_bind (wpAny_holding (wpAny_call_entry slot_list_sort ⟨_,hoL,rfl⟩ entry_list_sort (CW hoL (hl.keep λ_=>kp) (hb.keep λ_=>kp) ⟨_,rfl,?_⟩) (args_list_sort _)))
 exact wpAny_pure ⟨_,rfl,h⟩
end
end Su
namespace Hy
open PySem PySem.Spec PyProof.Rows L2
open Ev (D Den ax aJ aH aw aX aI)
section
variable {X:Cx} {C:Bool} {τ:List Sl} {x y z:D} {a b e:Expr} {es:List Expr} {pos p:Pos} {k:Nat} {s:Sl} {ds xs ys:List D} {i j:Int} {N:Po} {rest:List Stmt}
theorem yR:OpR X (binaryOp .Add) (λx y H Q=>∃ a b ys,x=.ref a/\y=.ref b/\SqT X.K H a []/\SqT X.K H b ys/\Q (.ref b) H):=by
 intro pins s σ H x y v u Q I rx ry h
 obtain ⟨a,b,ys,rfl,rfl,ha,hb,q⟩:=h
 cases rx
 cases ry
 obtain ⟨its,r1,p1,_⟩:=I.tuple ha
 obtain ⟨its2,r2,p2,_⟩:=I.tuple hb
 cases r1
 obtain ⟨⟨cls,dd,data,sl⟩,ho,hc,n,hd⟩:=id p1
 obtain ⟨⟨cls2,dd2,data2,sl2⟩,ho2,hc2,n2,hd2⟩:=id p2
 simp only at hc hd hc2 hd2
 subst hc hd hc2 hd2
 exact concat_meets ⟨_,ho,rfl⟩ ⟨_,ho2,rfl⟩ noFill_tuple_add seq_tuple_add HL HF (Hw _ _) (tuple_addW0 a b _ _ n n2 dd dd2 sl sl2 (by simp)) ⟨ho,ho2,⟨.ref b,H,I,rfl,q⟩⟩
theorem By (hl:xs.length + ys.length < 1000000):bP X (binaryOp .Add) (.tup xs) (.tup ys) (.tup (xs++ys)):=by
 have lim:1000000<=sizeLine:=by decide
 cases xs with
 | nil=>exact ⟨_,yR,λM v w H Q _ d1 d2 k=>by
     cases d1 with
     | tup h1 r1=>
       cases r1
       cases d2 with
       | tup h2 r2=>exact ⟨_,_,_,rfl,rfl,aX aF h1,aX aF h2,k _ H (aq.refl _) (.tup h2 r2)⟩⟩
 | cons x0 xs=>exact ⟨_,xT,λM v w H Q hM d1 d2 k=>by
     cases d1 with
     | @tup a1 vs _ h1 r1=>
     cases d2 with
     | @tup a2 ws _ h2 r2=>
     have l1:=r1.length
     have l2:=r2.length
     refine ⟨_,_,_,_,rfl,rfl,aX aF h1,aX aF h2,λz=>by subst z; simp at l1,by omega,λz=>?_,λ_ p hp=>?_⟩
     · subst z
       cases r2
       rw [FC] at k
       exact k _ H (aq.refl _) (.tup h1 r1)
     · have e:=aw hp (.tup (vs++ws))
       exact k _ _ e (.tup (SqT.of (jJ hM hp)) ((r1.append r2).mono (aA e λ_ z=>z)))⟩
theorem q0:ij X (.type "tuple") [.lst xs] (.d (.tup xs)):=⟨_,kQ,λM vs H Q hM d q=>by
 cases d with
 | cons d r=>
   cases r
   cases d with
   | @lst a us _ h r=>
     refine ⟨_,_,rfl,.inl ⟨aI aF h,λp hp=>?_⟩⟩
     have e:=aw hp (.tup us)
     exact q _ _ [] e ei (iP (.tup (SqT.of (jJ hM hp)) (r.mono (aA e λ_ z=>z))))⟩
theorem oI:∀ {ns:List Int} {us:List Value},Vals (ns.map V.int) us->IntsAre us ns
 | [],_,h=>by cases h; exact .nil
 | n :: ns,_,h=>by
   cases h with
   | cons rv rs=>
     obtain ⟨t,rfl⟩:=(show ∃ t,_=FT n t from rv)
     exact .cons n t (oI rs)
theorem tupI {pins:List (Addr × Obj)} {s:Shared} {σ:L2.St} {H:Hp} {l:Addr} {ns:List Int} (I:Inv X pins σ H s) (h:SqT X.K H l (ns.map V.int)) (h0:ns ≠ []):Su.fb s.heap l ns:=by
 obtain ⟨its,r,pl,_⟩:=I.tuple h
 obtain ⟨⟨cls,dd,data,sl⟩,ho,hc,n,hd⟩:=pl
 simp only at hc hd
 subst hc hd
 exact ⟨its.toArray,n,dd,sl,ho,by simpa using oI r,h0⟩
theorem ur:cW X (.builtin "sorted") (λxs H Q=>∃ p l b ns ms,xs=[.ref p]/\SqL X.K H p [.ref l,.ref b]/\SqT X.K H l (ns.map V.int)/\SqT X.K H b (ms.map V.int)/\ns ≠ []/\ms ≠ []/\∀ q,H q=none->Q (.ref q) (upd H q (.lst (if HT.lexLt ms ns then [.ref b,.ref l] else [.ref l,.ref b])))):=by
 intro pins s σ H xs us Q I r q
 obtain ⟨p,l,b,ns,ms,rfl,hp,hl,hb,n0,m0,q⟩:=q
 obtain ⟨u,rfl,ru⟩:=vals1 r
 cases (show u=EF _ from ru)
 obtain ⟨its,rv,pl,hz⟩:=I.list hp
 obtain rfl:its=[.ref l,.ref b]:=by
   cases rv with
   | cons r1 rv=>cases rv with
     | cons r2 rv=>
       cases rv
       cases (show _=EF _ from r1)
       cases (show _=EF _ from r2)
       rfl
 refine Su.zo pl.isList (tupI I hl n0) (tupI I hb m0) ?_
 obtain ⟨c,hc'⟩:=IV s.heap [.ref l,.ref b] (if HT.lexLt ms ns then #[EF b,EF l] else #[EF l,EF b])
 refine ⟨.ref (s.heap.objs.size + 1),upd H (s.heap.objs.size + 1) (.lst (if HT.lexLt ms ns then [.ref b,.ref l] else [.ref l,.ref b])),I.laid (t':=s.toks) (λb o z=>IQ z) (Fv _) (show bh X.prog X.w _ _ _ (.lst _) from ⟨?_,(if HT.lexLt ms ns then [EF b,EF l] else [EF l,EF b]),c,?_,?_⟩),rfl,q _ (I.hok.fresh (Fv _))⟩
 · split <;> (show 2<=sizeLine; decide)
 · split <;> exact .cons rfl (.cons rfl .nil)
 · rw [hc']
   split <;> rfl
theorem Be {ns ms:List Int} (n0:ns ≠ []) (m0:ms ≠ []):ij X (.builtin "sorted") [.lst [.tup (ns.map .int),.tup (ms.map .int)]] (.o (if HT.lexLt ms ns then [.tup (ms.map .int),.tup (ns.map .int)] else [.tup (ns.map .int),.tup (ms.map .int)])):=⟨_,ur,λM vs H Q _ d q=>by
 cases d with
 | cons d r=>
   cases r
   cases d with
   | lst h r=>
     cases r with
     | cons d1 r=>cases r with
       | cons d2 r=>
         cases r
         cases d1 with
         | tup h1 r1=>
         cases d2 with
         | tup h2 r2=>
         have e1:=cL r1
         have e2:=cL r2
         subst e1 e2
         refine ⟨_,_,_,ns,ms,rfl,aI aF h,aX aF h1,aX aF h2,n0,m0,λp hp=>?_⟩
         have d1:=Den.tup h1 r1
         have d2:=Den.tup h2 r2
         split
         · obtain ⟨z1,z2,z3⟩:=iH (K:=X.K) (M:=M) hp (ax.cons d2 (ax.cons d1 ax.nil))
           rename_i hc
           rw [if_pos hc] at q
           exact q _ _ [p] z1 z2 z3
         · obtain ⟨z1,z2,z3⟩:=iH (K:=X.K) (M:=M) hp (ax.cons d1 (ax.cons d2 ax.nil))
           rename_i hc
           rw [if_neg hc] at q
           exact q _ _ [p] z1 z2 z3⟩
end
section
variable {X:Cx} {C:Bool} {τ:List Sl} {x y z:D} {a b e:Expr} {es:List Expr} {pos p:Pos} {k:Nat} {s:Sl} {ds xs ys:List D} {N:Po} {rest:List Stmt}
theorem Dr (i:Nat) {n:Str} {ap cp:Pos} (he:PE X e (dE X.K true τ (.o ys))) (hl:xs.length + ys.length < 1000000) (hr:PSs X rest (dS X.K (τ.set i (.o (xs++ys))) N)) (hi:τ[i]?=some (.o xs):=by rfl) (hN:X.N[i]?=some n:=by rfl)
   (hv:Vis X.env.scope n:=by first | exact Gw rfl | exact FG (Gw rfl) | exact FG (FG rfl)) (hd:(n == ("__debug__" : Str))=false:=by decide) (hcd:(n == ("__classdict__" : Str))=false:=by decide)
   (hfew:((backTo cp (starEach [e] X.env)).all (λx=>!x.1) && (backToKw cp (keywordEach [] X.env)).all (λx=>x.1.isSome) && decide (([e]:List Expr).length + ([]:List Keyword).length + (if ([]:List Keyword).isEmpty then 0 else 1) < 30))=true:=by rfl)
   (hline:(ap.endLine == cp.line)=true:=by rfl) (hst:starEach [e] X.env=(false,eval e X.env) :: starEach [] X.env:=by rfl) (hpl:(backTo cp (starEach [] X.env)).any (·.1)=false:=by rfl)
   (hs:swapsWith (.Call (.Attribute (.Name n p) "extend" ap) [e] [] cp) none pos.line X.env=pure false:=by rfl) (hbase:attributeBase (.Name n p) "extend" X.env (eval (.Name n p) X.env)=eval (.Name n p) X.env:=by rfl) :
   PSs X (.Expr (.Call (.Attribute (.Name n p) "extend" ap) [e] [] cp) pos :: rest) (dS X.K τ N):=
 bo (M:=(·=τ.set i (.o (xs++ys)))) (psW (jt (wD GV PySem.F.slot_list_extend PySem.F.type_list_extend ue (bV hN hv hd hcd) (dX he iC hst) hbase hfew hline hst hpl) hs) λD σ H ⟨A,H₀,B,S,Me⟩=>by
   obtain ⟨l,vs,hb,e1,e2,d⟩:=S.sl i _ hi
   refine ⟨_,slot_of e1,.inl ⟨rfl,_,SqL.of e2⟩,A,H₀,B,S,λv H1 bs e3 fr ⟨l2,ws,eb,ev,h2,d2⟩=>?_⟩
   cases ev
   have lim:1000000<=sizeLine:=by decide
   refine ⟨l,l2,vs,ws,rfl,rfl,e3 _ _ e2,h2,by rw [d.length,d2.length]; omega,?_⟩
   exact Me.nx _ _ _ _ rfl ((S.mono e3).put hi hb ((d.mono (aA e3 λ_ z=>z)).append (d2.mono (aA (aq.refl _) λ_ z=>.inl z))))) λ_ e=>e ▸ hr
theorem tE {K:Ej} {H:Hp}:∀ {vs:List V} {ds:List D},ax K H vs ds->ax K H vs.reverse ds.reverse
 | _,_,.nil=>.nil
 | _,_,.cons h r=>by rw [HI,HI]; exact (tE r).append (.cons h .nil)
theorem BM (i:Nat) {n:Str} {ap cp:Pos} (hr:PSs X rest (dS X.K (τ.set i (.o xs.reverse)) N)) (hi:τ[i]?=some (.o xs):=by rfl) (hN:X.N[i]?=some n:=by rfl)
   (hv:Vis X.env.scope n:=by first | exact Gw rfl | exact FG (Gw rfl) | exact FG (FG rfl)) (hd:(n == ("__debug__" : Str))=false:=by decide) (hcd:(n == ("__classdict__" : Str))=false:=by decide)
   (hline:(ap.endLine == cp.line)=true:=by rfl)
   (hs:swapsWith (.Call (.Attribute (.Name n p) "reverse" ap) [] [] cp) none pos.line X.env=pure false:=by rfl) (hbase:attributeBase (.Name n p) "reverse" X.env (eval (.Name n p) X.env)=eval (.Name n p) X.env:=by rfl) :
   PSs X (.Expr (.Call (.Attribute (.Name n p) "reverse" ap) [] [] cp) pos :: rest) (dS X.K τ N):=
 bo (M:=(·=τ.set i (.o xs.reverse))) (psW (jt (BS GV J4 PySem.F.type_list_reverse qp (bV hN hv hd hcd) hbase hline) hs) λD σ H ⟨A,H₀,B,S,Me⟩=>by
   obtain ⟨l,vs,hb,e1,e2,d⟩:=S.sl i _ hi
   exact ⟨_,slot_of e1,.inl ⟨rfl,_,SqL.of e2⟩,l,vs,rfl,rfl,e2,Me.nx _ _ _ _ rfl (S.put hi hb (tE d))⟩) λ_ e=>e ▸ hr
end
end Hy
namespace Hy
open PySem PySem.Spec PyProof.Rows L2
open Ev (D Den ax aw aX aI)
section
variable {X:Cx}
end
section
variable {X:Cx} {C:Bool} {τ:List Sl} {x y z:D} {a b e f o ix:Expr} {es:List Expr} {pos p q:Pos} {k:Nat} {s:Sl} {N:Po} {rest:List Stmt} {i:Nat} {t c:Nd} {pt:List Nat} {xs:List Nd} {j:Int} {m:Nat}
end
end Hy
namespace Hy
open PySem PySem.Spec PyProof.Rows L2
open Ev (D Den ax aw)
section
variable {X:Cx} {C:Bool} {τ:List Sl} {x y z:D} {a b e:Expr} {es:List Expr} {pos p np cpos:Pos} {k c:Nat} {s:Sl} {ds:List D} {N:Po} {rest body:List Stmt} {cl:Nat->Addr} {Ex:Nat->Hp->Prop} {Et:Hp->Prop}
end
section
variable {P:Program} {w:World} {K:Ej} {mg:Str->Option Value} {base:Heap} {cl:Nat->Addr}
end
section
variable {X:Cx} {C:Bool} {τ:List Sl} {e:Expr} {k c i:Nat} {N:Po} {rest body:List Stmt} {cl:Nat->Addr} {n:Str} {fw S:Addr} {p p' q psm pr ph pos:Pos}
end
section
variable {X:Cx} {C:Bool} {τ:List Sl} {x y z:D} {a b e c0 tg it elt:Expr} {es ifs:List Expr} {pos p q q':Pos} {k c:Nat} {cl:Nat->Addr} {xs:List D} {scope:Scope}
end
section
variable {P:Program} {w:World} {K:Ej} {mg:Str->Option Value} {base:Heap} {cl:Nat->Addr}
end
end Hy
namespace Hy
open PySem PySem.Spec PyProof.Rows L2
open Ev (D Den ax b8 eO)
section
variable {X:Cx} {C:Bool} {τ:List Sl} {a e tg it elt:Expr} {es ifs:List Expr} {pos p:Pos} {Et:Hp->Prop} {scope:Scope}
end
end Hy
namespace Hy
open PySem PySem.Spec PyProof.Rows L2
open Ev (D Den ax)
section
variable {P:Program} {w:World} {K:Ej} {h:Heap} {mg:Str->Option Value} {base:Heap} {x:Str} {st:Stmt} {f:Addr} {ps:List Str} {k:Nat} {Φ:List D->Nat->Prop} {cl:Nat->Addr}
end
end Hy
namespace Hy
open PySem PySem.Spec PyProof.Rows L2
open Ev (D Den ax aX)
section
variable {X:Cx}
end
end Hy
namespace L2
open PySem PySem.Spec PyProof.Rows
section
variable {κ:Type} [DecidableEq κ]
noncomputable def ek (kvs:List (κ × V)) (k:κ):Option V:=(kvs.find? λkv=>decide (kv.1=k)).map (·.2)
noncomputable def putK (kvs:List (κ × V)) (k:κ) (v:V):List (κ × V):=
 if (kvs.any λkv=>decide (kv.1=k))=true then kvs.map (λkv=>if kv.1=k then (kv.1,v) else kv) else kvs++[(k,v)]
theorem bB {p:κ × V} {r:List (κ × V)} {k:κ} (e:p.1=k):ek (p :: r) k=some p.2:=by simp [ek,E6,e]
theorem bC {p:κ × V} {r:List (κ × V)} {k:κ} (e:¬ p.1=k):ek (p :: r) k=ek r k:=by simp [ek,E6,e]
theorem jL (k:κ):∀ kvs:List (κ × V),(kvs.any λkv=>decide (kv.1=k))=(ek kvs k).isSome
 | []=>rfl
 | p :: r=>by
   rw [HU]
   by_cases e:p.1=k
   · simp only [bB e,decide_eq_true e,Bool.true_or,Option.isSome_some]
   · rw [bC e,decide_eq_false e,Bool.false_or]; exact jL k r
theorem oR (k j:κ) (y:V):∀ kvs:List (κ × V),ek (kvs.map λkv=>if kv.1=k then (kv.1,y) else kv) j=(ek kvs j).map λx=>if j=k then y else x
 | []=>rfl
 | p :: r=>by
   have ih:=oR k j y r
   rw [Er]
   by_cases h:p.1=k
   · rw [if_pos h]
     by_cases e:p.1=j
     · rw [bB (p:=(p.1,y)) e,bB e,F0,if_pos (e.symm.trans h)]
     · rw [bC (p:=(p.1,y)) e,bC e,ih]
   · rw [if_neg h]
     by_cases e:p.1=j
     · rw [bB (p:=p) e,bB e,F0,if_neg (λz=>h (e.trans z))]
     · rw [bC (p:=p) e,bC e,ih]
theorem lJ (k j:κ) (y:V):∀ kvs:List (κ × V),ek kvs k=none->ek (kvs++[(k,y)]) j=if j=k then some y else ek kvs j
 | [],_=>by
   by_cases e:k=j
   · rw [if_pos e.symm]; exact bB (p:=(k,y)) e
   · rw [if_neg (λz=>e z.symm)]; exact bC (p:=(k,y)) e
 | p :: r,hn=>by
   rw [Hi]
   have hk:¬ p.1=k:=λz=>by rw [bB z] at hn; cases hn
   rw [bC hk] at hn
   have ih:=lJ k j y r hn
   by_cases e:p.1=j
   · rw [bB e,bB e,if_neg (λz=>hk (e.trans z))]
   · rw [bC e,bC e,ih]
theorem uY (kvs:List (κ × V)) (k j:κ) (y:V):ek (putK kvs k y) j=if j=k then some y else ek kvs j:=by
 unfold putK
 by_cases a:(kvs.any λkv=>decide (kv.1=k))=true
 · rw [if_pos a,oR]
   rw [jL] at a
   by_cases e:j=k
   · obtain ⟨x,hx⟩:=JI.mp a
     rw [if_pos e,e,hx,F0,if_pos rfl]
   · rw [if_neg e]
     cases ek kvs j with
     | none=>rfl
     | some x=>rw [F0,if_neg e]
 · rw [if_neg a]
   refine lJ k j y kvs ?_
   rw [jL] at a
   cases q:ek kvs k with
   | none=>rfl
   | some x=>rw [q] at a; exact (a rfl).elim
theorem iY (kvs:List (κ × V)) (k:κ) (v:V):(putK kvs k v).length<=kvs.length + 1:=by
 unfold putK
 split
 · rw [Ei]; omega
 · rw [EC,ET,Gg]; omega
theorem pM.getD {o:Option V} {u:Option Value} {d:V} {d':Value} (r:pM o u) (rd:RelV d d'):RelV (o.getD d) (u.getD d'):=by
 cases o with
 | none=>cases u with
   | none=>exact rd
   | some _=>exact (show False from r).elim
 | some _=>cases u with
   | none=>exact (show False from r).elim
   | some _=>exact r
theorem KV.val {kvs:List (κ × V)} {vs:List (κ × Value)} (r:KV kvs vs) (k:κ):pM (ek kvs k) (valueAt vs k):=by
 unfold KV at r
 induction r with
 | nil=>exact Gz
 | @cons p q ps qs h t ih=>
   obtain ⟨h1,h2⟩:=h
   by_cases e:p.1=k
   · have e':q.1=k:=h1.symm.trans e
     have b:valueAt (q :: qs) k=some q.2:=by simp [valueAt,E6,e']
     rw [bB e,b]; exact h2
   · have e':¬ q.1=k:=λz=>e (h1.trans z)
     have b:valueAt (q :: qs) k=valueAt qs k:=by simp [valueAt,E6,e']
     rw [bC e,b]; exact ih
theorem KV.any {kvs:List (κ × V)} {vs:List (κ × Value)} (r:KV kvs vs) (k:κ):(kvs.any λkv=>decide (kv.1=k))=vs.any λkv=>decide (kv.1=k):=by
 unfold KV at r
 induction r with
 | nil=>rfl
 | cons h t ih=>rw [HU,HU,ih,h.1]
theorem KV.DX {kvs:List (κ × V)} {vs:List (κ × Value)} (r:KV kvs vs) (k:κ) {y:V} {u:Value} (ry:RelV y u) :
   KV (kvs.map λkv=>if kv.1=k then (kv.1,y) else kv) (vs.map λkv=>if kv.1=k then (kv.1,u) else kv):=by
 unfold KV at r ⊢
 induction r with
 | nil=>exact .nil
 | @cons p q ps qs h t ih=>
   rw [Er,Er]
   refine .cons ?_ ih
   obtain ⟨h1,h2⟩:=h
   by_cases e:p.1=k
   · rw [if_pos e,if_pos (h1.symm.trans e)]; exact ⟨h1,ry⟩
   · rw [if_neg e,if_neg (λz=>e (h1.trans z))]; exact ⟨h1,h2⟩
theorem KV.put {kvs:List (κ × V)} {vs:List (κ × Value)} (r:KV kvs vs) (k:κ) {y:V} {u:Value} (ry:RelV y u):KV (putK kvs k y) (stored vs k u):=by
 unfold putK stored
 rw [r.any k]
 by_cases e:(vs.any λkv=>decide (kv.1=k))=true
 · rw [if_pos e,if_pos e]; exact r.DX k ry
 · rw [if_neg e,if_neg e]; exact Paired.snoc r ⟨rfl,ry⟩
theorem KV.keys {kvs:List (κ × V)} {vs:List (κ × Value)} (r:KV kvs vs):kvs.map (·.1)=vs.map (·.1):=by
 unfold KV at r
 induction r with
 | nil=>rfl
 | cons h t ih=>rw [Er,Er,ih,h.1]
theorem KV.length {kvs:List (κ × V)} {vs:List (κ × Value)} (r:KV kvs vs):kvs.length=vs.length:=Paired.length r
end
theorem sQ {P:Program} {w:World} {k:Key} {u:Value} (r:RelV (kV k) u):(bz P w).is k u=true:=by
 cases k with
 | inl i=>obtain ⟨t,e⟩:=(show ∃ t,u=FT i t from r); subst e; exact pC P w i t
 | inr x=>obtain ⟨t,e⟩:=(show ∃ t,u=J2 x t from r); subst e; exact pE P w x t
section
variable {P:Program} {w:World} {H:Hp} {h:Heap} {a:Addr}
theorem De {u:HO} (ok:HOk P w H h) (e:Rd H a u):bh P w H h a u:=e.ok ok
theorem pD {kvs:List (Key × V)} (ok:HOk P w H h) (e:Rd H a (.dK kvs)):kvs.length<=sizeLine/\(a == sysModules)=false/\∃ vs,KV kvs vs/\h.DictOf (bz P w) a vs:=
 show bh P w H h a (.dK kvs) from De ok e
theorem w5 {kvs:List (Key × V)} (ok:HOk P w H h) (e:H a=some (.dK kvs)):kvs.length<=sizeLine/\(a == sysModules)=false/\∃ vs,KV kvs vs/\h.DictOf (bz P w) a vs:=pD ok (.inl e)
end
noncomputable def wa (H:Hp) (a:Addr) (y:V) (r:Option V):Prop:=∃ kvs k,Rd H a (.dK kvs)/\y=kV k/\r=ek kvs k
noncomputable def Cd (H:Hp) (a:Addr) (y v:V) (H':Hp):Prop:=∃ kvs k,H a=some (.dK kvs)/\y=kV k/\kvs.length < sizeLine/\H'=upd H a (.dK (putK kvs k v))
section
variable {X:Cx} {pins:List (Addr × Obj)} {σ:St} {H:Hp} {s:Shared} {a:Addr} {y v:V} {u r:Value} {o:Option V} {A:Around} {E:Value->Shared->Prop}
theorem Inv.big (I:Inv X pins σ H s):sysModules < s.heap.objs.size:=by
 have h:mainGlobals < s.heap.objs.size:=(I.mod.glob.keeps I.bk).lt
 exact F8 (by decide) h
theorem ud {Q:Value->Shared->Prop} (hu:A.units + 1 < cLine) (I:Inv X pins σ H s) (g:wa H a y (some v)) (ry:RelV y u) (h:∀ w' s',Inv X pins σ H s'->RelV v w'->Q w' s') :
   wpAny (model X.prog X.w) A (getItem (.ref a) u) Q E s:=by
 obtain ⟨kvs,k,e,ey,l⟩:=g
 subst ey
 obtain ⟨z,hd,vs,rel,dd⟩:=pD I.hok e
 obtain ⟨w',hw,rw'⟩:=pM.some_of (v:=v) (o:=valueAt vs k) (by rw [l]; exact rel.val k)
 exact wpAny_getItem_of (sQ ry) dd.mapOf hw (h w' _ (I.tok _) rw')
theorem gN {h':Heap} {t':Nat} {ob:HO} (I:Inv X pins σ H s) (mu:Mut (H a)) (hs:Ii a s.heap h') (he:∃ q,h'.get? a=some q) (new:bh X.prog X.w (upd H a ob) h' a ob) :
   Inv X pins σ (upd H a ob) { s with heap:=h',toks:=t' }:=
 I.write (x:=a) (e:=a) mu (.inl rfl) (λb q hb z=>(hs.2 b hb).trans z) he new
theorem qx {P:Program} {w:World} {H':Hp} {h':Heap} {kvs:List (Key × V)} {vs:List (Key × Value)} (z:kvs.length<=sizeLine) (hd:(a == sysModules)=false) (rel:KV kvs vs) (dd:h'.DictOf (bz P w) a vs) :
   bh P w H' h' a (.dK kvs):=⟨z,hd,vs,rel,dd⟩
theorem tM {H':Hp} {Q:Unit->Shared->Prop} (hu:A.units + 1 < cLine) (I:Inv X pins σ H s) (g:Cd H a y v H') (ry:RelV y u) (rv:RelV v r) (h:∀ s',Inv X pins σ H' s'->Q () s') :
   wpAny (model X.prog X.w) A (setItem (.ref a) u r) Q E s:=by
 obtain ⟨kvs,k,e,ey,l,eH⟩:=g
 subst ey eH
 obtain ⟨z,hd,vs,rel,dd⟩:=w5 I.hok e
 have hz:vs.length<=sizeLine:=by rw [<- rel.length]; exact z
 have hl:(putK kvs k v).length<=sizeLine:=by have:=iY kvs k v; omega
 refine wpAny_setItem_pairs (hsz:=hz) (sQ ry) dd λh' dd' hs=>h _ ?_
 have he:∃ q,h'.get? a=some q:=let ⟨q,_,_,hq,_⟩:=dd'; ⟨q,hq⟩
 exact gN I (by rw [e]; exact Gz) hs he (qx hl hd (rel.put k rv) dd')
end
section
variable {X:Cx} {pins:List (Addr × Obj)} {σ:St} {H:Hp} {s:Shared} {a:Addr} {kvs:List (Key × V)} {k:Key} {u:Value} {A:Around} {E:Value->Shared->Prop}
end
noncomputable def v8 (i:Expr):Prop:=∀ ov iv,subscripted i false ov iv=operate [ov,iv] (getItem ov iv)
theorem ye {prog:Program} {w:World} {A:Around} {E:Value->Shared->Prop} {s:Shared} {env:Env} {value slice:Expr} {pos:Pos} {T id:String} {Q:Value->Shared->Prop}
   (hl:typeLookup (.type T) "__getitem__" = pure (some (.builtin id))) (hs:v8 slice)
   (h:wpAny (model prog w) A (eval value env) (λo s₁=>wpAny (model prog w) A (eval slice env) (λi s₂=>s₂.TypeIs o T/\wpAny (model prog w) A (getItem o i) Q E s₂) E s₁) E s) :
   wpAny (model prog w) A (eval (.Subscript value slice pos) env) Q E s:=by
 refine Subscript_ (wpAny_mono h (λo s₁ h₁=>wpAny_mono h₁ (λi s₂ h₂=>?_) λ_ _ x=>x) λ_ _ x=>x)
 obtain ⟨hT,h₂⟩:=h₂
 unfold subscriptTail
 refine wpAny_bind ?_
 rw [getitemInPython_of_ne hT.not_modules]
 refine wpAny_bind (wpAny_specialOf hT hl ?_)
 have fin:wpAny (model prog w) A (subscripted slice false o i) (λr s₃=>wpAny (model prog w) A (letTemporaryGo value o r >>= λ_=>pure r) Q E s₃) E s₂:=by
   rw [hs o i]
   exact wpAny_operating (wpAny_mono h₂ (λr s₃ h₃=>wpAny_bind (wpAny_letTemporaryGo (wpAny_pure h₃))) λ_ _ x=>x)
 first
   | exact wpAny_pure (wpAny_bind fin)
   | exact wpAny_bind (wpAny_pure (wpAny_bind fin))
   | exact wpAny_bind fin
theorem pb {X:Cx} {pins:List (Addr × Obj)} {σ:St} {H:Hp} {s:Shared} {a:Addr} {y:V} {o:Option V} (I:Inv X pins σ H s) (g:wa H a y o):s.TypeIs (.ref a) "dict":=by
 obtain ⟨kvs,k,e,_,_⟩:=g
 obtain ⟨_,_,vs,_,dd⟩:=pD I.hok e
 exact dd.typeIs
noncomputable def CT (td ty:TE):TE:=λσ H Q=>td σ H λx H1=>ty σ H1 λy H2=>∃ a v,x=.ref a/\wa H2 a y (some v)/\Q v H2
noncomputable def CU (td ty tv:TE):TS:=λD σ H=>tv σ H λv H1=>td σ H1 λx H2=>ty σ H2 λy H3=>∃ a H4,x=.ref a/\Cd H3 a y v H4/\D.nx σ H4
section
variable {X:Cx} {o i e value:Expr} {pos pos' tpos:Pos} {td ty tv:TE}
theorem yu (hu:X.A.units + 1 < cLine) (ho:PE X o td) (hi:PE X i ty) (hs:v8 i):PE X (.Subscript o i pos) (CT td ty):=by
 intro pins s σ H Q I h
 refine ye PySem.F.slot_dict_getitem.lookup hs (thn (ho pins s σ H _ I h) λu s1 ⟨x,H1,I1,rx,q1⟩=>thn (hi pins s1 σ H1 _ I1 q1) λiv s2 ⟨y,H2,I2,ry,a,v,ex,g,q2⟩=>?_)
 subst ex
 obtain rfl:u=EF a:=rx
 exact ⟨pb I2 g,ud hu I2 g ry λw' s3 I3 rw'=>⟨v,H2,I3,rw',q2⟩⟩
theorem zd (hu:X.A.units + 1 < cLine) (ho:PE X o td) (hi:PE X i ty) (hv:PE X value tv) (hs:swapsWith value (some (.Subscript o i pos')) pos.line X.env=pure false) :
   PS X (.Assign [.Subscript o i pos'] value pos) (CU td ty tv):=by
 intro pins s σ H D I h
 refine wpAny_Assign_Subscript (thn (hv pins s σ H _ I h) λr s1 ⟨v,H1,I1,rv,q1⟩=>thn (ho pins s1 σ H1 _ I1 q1) λu s2 ⟨x,H2,I2,rx,q2⟩=>thn (hi pins s2 σ H2 _ I2 q2) λiv s3 ⟨y,H3,I3,ry,a,H4,ex,g,q3⟩=>?_) hs
 subst ex
 obtain rfl:u=EF a:=rx
 exact tM hu I3 g ry rv λs4 I4=>⟨σ,H4,I4,q3⟩
end
theorem pH {P:Program} {w:World} {H:Hp} (h:Heap) (hb:sysModules < h.objs.size):bh P w H (h.push { cls:=.type "dict",data:=.dict #[] }) h.objs.size (.dK []):=
 ⟨Fg _,beq_eq_false_iff_ne.mpr (FE (ES hb)),[],.nil,Heap.DictOf.new h⟩
noncomputable def BV:TE:=λ_ H Q=>∀ p,H p=none->Q (.ref p) (upd H p (.dK []))
section
variable {X:Cx} {pos:Pos}
theorem uL:PE X (.Dict [] [] pos) BV:=λpins s σ H Q I h=>
 wpAny_Dict_empty ⟨.ref s.heap.objs.size,_,I.laid (a:=s.heap.objs.size) (o:=.dK []) (t':=s.toks) (λ_ _ q=>En _ q) (Ek _) (pH s.heap I.big),rfl,h _ (I.hok.fresh (Ek _))⟩
end
noncomputable def qN:List (TE × TE)->St->Hp->(List (V × V)->Hp->Prop)->Prop
 | [],_,H,Q=>Q [] H
 | (tk,tv) :: r,σ,H,Q=>tk σ H λx H1=>tv σ H1 λy H2=>qN r σ H2 λps H3=>Q ((x,y) :: ps) H3
noncomputable abbrev VV:List (V × V)->List (Value × Value)->Prop:=Paired λp q=>RelV p.1 q.1/\RelV p.2 q.2
noncomputable def PPs (X:Cx) (pos:Pos) (keys:List (Option Expr)) (values:List Expr) (trs:List (TE × TE)):Prop:=
 ∀ (pins:List (Addr × Obj)) (s:Shared) (σ:St) (H:Hp) (Q:List (V × V)->Hp->Prop),Inv X pins σ H s->qN trs σ H Q ->
   wpAny (model X.prog X.w) X.A (evalPairs (pairTrees keys values X.env pos)) (λvs s'=>∃ ps H',Inv X pins σ H' s'/\VV ps vs/\Q ps H') X.xe s
theorem xW {X:Cx} {pos:Pos}:PPs X pos [] [] []:=λpins s σ H Q I h=>pairTrees_nil_walk ⟨[],H,I,.nil,h⟩
theorem vk {X:Cx} {pos:Pos} {k v:Expr} {ks:List (Option Expr)} {vs:List Expr} {tk tv:TE} {trs:List (TE × TE)} (hk:PE X k tk) (hv:PE X v tv) (hr:PPs X pos ks vs trs) :
   PPs X pos (some k :: ks) (v :: vs) ((tk,tv) :: trs):=λpins s σ H Q I h=>
 pairTrees_cons_walk (thn (hk pins s σ H _ I h) λu s1 ⟨x,H1,I1,rx,q1⟩=>thn (hv pins s1 σ H1 _ I1 q1) λw2 s2 ⟨y,H2,I2,ry,q2⟩=>
   thn (hr pins s2 σ H2 _ I2 q2) λws s3 ⟨ps,H3,I3,rel,q3⟩=>⟨(x,y) :: ps,H3,I3,.cons ⟨rx,ry⟩ rel,q3⟩)
noncomputable def iF (kvs more:List (Key × V)):List (Key × V):=more.foldl (λacc kv=>putK acc kv.1 kv.2) kvs
theorem KV.merge:∀ {more:List (Key × V)} {rs:List (Key × Value)} {kvs:List (Key × V)} {vs:List (Key × Value)},KV more rs->KV kvs vs->KV (iF kvs more) (merged vs rs):=by
 intro more rs kvs vs r
 unfold KV at r
 induction r generalizing kvs vs with
 | nil=>intro q; exact q
 | @cons p q ps qs h t ih=>
   intro r0
   have e:KV (putK kvs p.1 p.2) (stored vs q.1 q.2):=by
     have:=r0.put p.1 h.2
     rw [<- h.1]; exact this
   exact ih e
theorem fY:∀ (more kvs:List (Key × V)),(iF kvs more).length<=kvs.length + more.length
 | [],kvs=>by show kvs.length<=kvs.length + 0; omega
 | p :: r,kvs=>by
   have h1:=fY r (putK kvs p.1 p.2)
   have h2:=iY kvs p.1 p.2
   show (iF (putK kvs p.1 p.2) r).length<=_
   rw [ET]; omega
theorem jU {P:Program} {w:World}:∀ {kvs:List (Key × V)} {ws:List (Value × Value)},VV (kvs.map λkv=>(kV kv.1,kv.2)) ws->∃ rs,Carries (bz P w) ws rs/\KV kvs rs
 | [],_,r=>by rw [FK] at r; cases r; exact ⟨[],Gz,.nil⟩
 | p :: kvs,_,r=>by
   rw [Er] at r
   cases r with
   | @cons a b as bs h t=>
     obtain ⟨rs,c,q⟩:=jU (P:=P) (w:=w) t
     obtain ⟨b1,b2⟩:=b
     exact ⟨(p.1,b2) :: rs,⟨sQ h.1,rfl,c⟩,.cons ⟨rfl,h.2⟩ q⟩
noncomputable def CF (trs:List (TE × TE)):TE:=λσ H Q=>∀ p,H p=none->qN trs σ (upd H p (.dK [])) λps H2=>H2 p=some (.dK [])/\∃ kvs:List (Key × V),ps=kvs.map (λkv=>(kV kv.1,kv.2))/\kvs.length<=15/\Q (.ref p) (upd H2 p (.dK (iF [] kvs)))
theorem yH {X:Cx} {pos:Pos} {keys:List (Option Expr)} {values:List Expr} {trs:List (TE × TE)} (h:PPs X pos keys values trs) (hall:keys.all (·.isSome)=true) (hl:keys.length=values.length) (h0:keys ≠ [])
   (h15:keys.length<=15):PE X (.Dict keys values pos) (CF trs):=by
 intro pins s σ H Q I q
 have hn:=I.hok.fresh (Ek s.heap.objs.size)
 have I1:=I.laid (a:=s.heap.objs.size) (o:=.dK []) (h':=s.heap.push { cls:=.type "dict",data:=.dict #[] }) (t':=s.toks) (λ_ _ q=>En _ q) (Ek _) (pH s.heap I.big)
 refine wpAny_Dict_walk (knd:=bz X.prog X.w) hall hl h0 h15 (thn (h pins _ σ _ _ I1 (q _ hn)) λws s2 ⟨ps,H2,I2,rel,e,kvs,ep,lk,q2⟩=>?_)
 subst ep
 obtain ⟨rs,c,rk⟩:=jU (P:=X.prog) (w:=X.w) rel
 obtain ⟨z,hd,vs0,r0,dd⟩:=w5 I2.hok e
 cases r0
 refine ⟨rs,c,dd,λh' dd' hs=>⟨.ref s.heap.objs.size,_,?_,rfl,q2⟩⟩
 have hz:(iF [] kvs).length<=sizeLine:=by
   have h1:=fY kvs []
   rw [Gg] at h1
   rw [sizeLine_eq]; omega
 have he:∃ q,h'.get? s.heap.objs.size=some q:=let ⟨q,_,_,hq,_⟩:=dd'; ⟨q,hq⟩
 exact gN I2 (by rw [e]; exact Gz) hs he (qx hz hd (rk.merge .nil) dd')
structure M2 (X:Cx) (o:Expr) (m:Str) (apos:Pos) (e f:Expr) (cpos:Pos):Prop where
 base:attributeBase o m X.env (eval o X.env)=eval o X.env
 few:((backTo cpos (starEach [e,f] X.env)).all (λx=>!x.1) && (backToKw cpos (keywordEach [] X.env)).all (λx=>x.1.isSome)
   && decide (([e,f]:List Expr).length + ([]:List Keyword).length + (if ([]:List Keyword).isEmpty then 0 else 1) < 30))=true
 line:(apos.endLine == cpos.line)=true
 trees:backTo cpos (starEach [e,f] X.env)=[(false,eval e X.env),(false,eval f X.env)]
noncomputable def IsD (H:Hp) (a:Addr):Prop:=∃ kvs,Rd H a (.dK kvs)
theorem Ad {X:Cx} {pins:List (Addr × Obj)} {σ:St} {H:Hp} {s:Shared} {a:Addr} (I:Inv X pins σ H s) (d:IsD H a) :
   s.TypeIs (.ref a) "dict" /\ (∀ b,EF a=.ref b->∃ ob,s.heap.get? b=some ob/\ob.dict=none)/\(a == sysModules)=false:=by
 obtain ⟨kvs,e⟩:=d
 obtain ⟨_,hd,vs,_,dd⟩:=pD I.hok e
 refine ⟨dd.typeIs,λb q=>?_,hd⟩
 cases q
 obtain ⟨ob,_,_,h1,h2,_⟩:=dd
 exact ⟨ob,h1,h2.2.1⟩
section
variable {X:Cx} {pins:List (Addr × Obj)} {σ:St} {H:Hp} {s:Shared} {a:Addr} {y d:V} {u r:Value} {o:Option V} {A:Around} {E:Value->Shared->Prop}
theorem AX {Q:Value->Shared->Prop} (hu:A.units + 1 < cLine) (I:Inv X pins σ H s) (g:wa H a y o) (ry:RelV y u) (rd:RelV d r) (h:∀ w' s',Inv X pins σ H s'->RelV (o.getD d) w'->Q w' s') :
   wpAny (model X.prog X.w) A (call (.builtin "dict.get") [.ref a,u,r]) Q E s:=by
 obtain ⟨kvs,k,e,ey,l⟩:=g
 subst ey
 obtain ⟨z,hd,vs,rel,dd⟩:=pD I.hok e
 refine call_meetsIn G3 dd.typeIs JM (JE _ _ _) (meets_dict_get_default (bz X.prog X.w) a (sQ ry) hd r) ⟨_,dd.mapOf,h _ _ (I.tok _) ?_⟩
 rw [l]
 exact (rel.val k).getD rd
end
noncomputable def Bf (td ty tx:TE):TE:=λσ H Q=>td σ H λx H1=>∃ a,x=.ref a/\IsD H1 a/\ty σ H1 λy H2=>tx σ H2 λz H3=>∃ o,wa H3 a y o/\Q (o.getD z) H3
section
variable {X:Cx} {o e f:Expr} {apos cpos:Pos} {td ty tx:TE}
theorem uQ (hu:X.A.units + 1 < cLine) (ho:PE X o td) (he:PE X e ty) (hf:PE X f tx) (m:M2 X o "get" apos e f cpos):PE X (.Call (.Attribute o "get" apos) [e,f] [] cpos) (Bf td ty tx):=by
 intro pins s σ H Q I h
 refine wpAny_Call_method m.base m.few m.line JD G3 JV (thn (ho pins s σ H _ I h) λu s1 ⟨x,H1,I1,rx,a,ex,d,q1⟩=>?_)
 subst ex
 obtain rfl:u=EF a:=rx
 obtain ⟨t1,t2,_⟩:=Ad I1 d
 refine ⟨t1,t2,?_⟩
 rw [m.trees]
 refine G1 rfl (Iu (F6 (thn (he pins s1 σ H1 _ I1 q1) λiv s2 ⟨y,H2,I2,ry,q2⟩=>
   F6 (thn (hf pins s2 σ H2 _ I2 q2) λfv s3 ⟨z,H3,I3,rz,ov,g,q3⟩=>G4 ?_))))
 exact AX hu I3 g ry rz λw' s4 I4 rw'=>⟨_,H3,I4,rw',q3⟩
end
end L2
namespace L2
open PySem PySem.Spec PyProof.Rows PySem.SeqAt
section
variable {P:Program} {w:World} {A:Around} {E:Value->Shared->Prop} {s:Shared}
noncomputable def HK (P:Program) (w:World) (A:Around) (h:Heap) (v:Value) (x:Int) (d:Nat):Prop:=
 ∀ (s:Shared) (E:Value->Shared->Prop) (Q:Int->Shared->Prop),s.heap=h->Q x { s with toks:=s.toks + d }->wpAny (model P w) A (pyHash v) Q E s
end
theorem r9 {h:Heap} {a:Addr} {x y:Array Value} (p:IsTup h a x) (q:IsTup h a y):x=y:=by
 obtain ⟨o,ho,_,n,hd⟩:=p
 obtain ⟨o',ho',_,n',hd'⟩:=q
 rw [ho] at ho'; cases ho'
 rw [hd] at hd'; cases hd'; rfl
theorem yx {h h':Heap} {a d:Addr} {x:Array Value} {o:Obj} {es ep} (p:IsTup h a x) (ho:h.get? d=some o) (hd:o.data=.dict es ep) (hs:Ii d h h'):IsTup h' a x:=by
 obtain ⟨o',ho',hc,n,hd'⟩:=p
 have hne:a ≠ d:=by
   rintro rfl
   rw [ho] at ho'; cases ho'
   rw [hd] at hd'; exact nomatch hd'
 exact ⟨o',(hs.2 a hne).trans ho',hc,n,hd'⟩
structure IK (P:Program) (w:World) (K:Type) [DecidableEq K] where
 is:Heap->K->Value->Prop
 hash:K->Int
 draws:K->Nat
 dep:Nat
 inj:∀ {h:Heap} {v:Value} {x y:K},is h x v->is h y v->x=y
 keeps:∀ {h h':Heap} {k:K} {v:Value} {d:Addr} {o:Obj} {es ep},is h k v->h.get? d=some o->o.data=.dict es ep->Ii d h h'->is h' k v
 hk:∀ {A:Around} {h:Heap} {k:K} {v:Value},is h k v->A.units + dep < cLine->HK P w A h v (hash k) (draws k)
 eq:∀ {A:Around} {s:Shared} {x y:K} {u v:Value},is s.heap x u->is s.heap y v->A.units + dep < cLine->EqAt A s u v (decide (x=y))
 quiet:∀ {s:Shared} {k:K} {v:Value} {n:Nat},dep < n->is s.heap k v->∀ A E Q,Q true s->wpAny (model P w) A (eqIsQuiet n v) Q E s
section
variable {P:Program} {w:World}
noncomputable def Cc:IK P w Int where
 is:=λ_ k v=>∃ t,v=.int k t
 hash:=hashInt
 draws:=λ_=>1
 dep:=0
 inj:=λ⟨_,e⟩ ⟨_,g⟩=>by rw [e] at g; cases g; rfl
 keeps:=λh _ _ _=>h
 hk:=λ⟨_,e⟩ _ s E Q _ hq=>by rw [e]; exact wpAny_pyHash_int hq
 eq:=λ{A s x y u v} ⟨_,e⟩ ⟨_,g⟩ _=>by
   rw [e,g]
   have:decide (x=y)=(x == y):=by by_cases h:x=y <;> simp [h]
   rw [this]
   exact .int_int _ _ _ _
 quiet:=λ{s k v n} hn ⟨_,e⟩ A E Q q=>by
   obtain ⟨m,rfl⟩:∃ m,n=m + 1:=⟨n - 1,by omega⟩
   rw [e]
   exact wpAny_pure q
variable {K K':Type} [DecidableEq K] [DecidableEq K']
noncomputable def kindOf (a:IK P w K) (hd:a.dep<=7):HeapKind P w K where
 is:=λh k p=>a.is h k (.ref p)
 hash:=a.hash
 draws:=a.draws
 room:=λA=>A.units + 8 < cLine
 inj:=a.inj
 keeps:=a.keeps
 pyHash:=λ{A E s k p Q} hu hk h=>a.hk hk (by omega) s E Q rfl h
 eqBool:=λ{A E s x y p p' Q} hu hx hy h=>a.eq hx hy (by omega) _ _ _ _ h
 quiet:=λ{A E s k p Q} hk h=>a.quiet (by omega) hk A E Q h
end
inductive dk {K:Type} (R:K->Value->Prop):List K->List Value->Prop where
 | nil:dk R [] []
 | cons {x:K} {v:Value} {xs:List K} {vs:List Value} (h:R x v) (r:dk R xs vs):dk R (x :: xs) (v :: vs)
section
variable {K:Type}
theorem dk.mono {R S:K->Value->Prop} (f:∀ x v,R x v->S x v):∀ {xs:List K} {vs:List Value},dk R xs vs->dk S xs vs
 | _,_,.nil=>.nil
 | _,_,.cons h r=>.cons (f _ _ h) (r.mono f)
theorem dk.inj {R:K->Value->Prop} (f:∀ x y v,R x v->R y v->x=y):∀ {xs ys:List K} {vs:List Value},dk R xs vs->dk R ys vs->xs=ys
 | _,_,_,.nil,.nil=>rfl
 | _,_,_,.cons h r,.cons g q=>by rw [f _ _ _ h g,r.inj f q]
theorem dk.length {R:K->Value->Prop}:∀ {xs:List K} {vs:List Value},dk R xs vs->xs.length=vs.length
 | _,_,.nil=>rfl
 | _,_,.cons _ r=>congrArg (· + 1) r.length
theorem dk.at {R:K->Value->Prop}:∀ {xs:List K} {vs:List Value},dk R xs vs->∀ (j:Nat) (h1:j < xs.length) (h2:j < vs.length),R xs[j] vs[j]
 | _,_,.nil,_,h1,_=>absurd h1 (FN _)
 | _,_,.cons h _,0,_,_=>h
 | _,_,.cons _ r,j + 1,h1,h2=>r.at j (Nat.lt_of_succ_lt_succ h1) (Nat.lt_of_succ_lt_succ h2)
theorem dk.mem {R:K->Value->Prop}:∀ {xs:List K} {vs:List Value},dk R xs vs->∀ v ∈ vs,∃ x,R x v
 | _,_,.nil,_,h=>nomatch h
 | _,_,.cons h r,v,hv=>(EE.mp hv).elim (λz=>⟨_,z ▸ h⟩) (r.mem v)
theorem all_eq [DecidableEq K] {xs ys:List K}:((Eo (min xs.length ys.length)).all (λj=>decide (xs[j]?=ys[j]?)) && xs.length == ys.length)=decide (xs=ys):=by
 rw [Hq]
 simp only [Fp,E9,EY,decide_eq_true_eq,beq_iff_eq]
 constructor
 · rintro ⟨h1,h2⟩
   refine List.ext_getElem? λj=>?_
   by_cases hj:j < xs.length
   · exact h1 j (by omega)
   · rw [Hb (by omega),Hb (by omega)]
 · rintro rfl
   exact ⟨λ_ _=>rfl,rfl⟩
end
section
variable {P:Program} {w:World} {K:Type} [DecidableEq K]
theorem uD {a:IK P w K} {A:Around} {E:Value->Shared->Prop} {s:Shared} {p:Addr} {its:List Value} {xs:List K} {Q:Int->Shared->Prop} (hu:A.units + (a.dep + 1) < cLine) (hk:IsTup s.heap p its.toArray) (hs:dk (a.is s.heap) xs its)
   (h:Q (reduceHash (Fq (xs.map a.hash))) { s with toks:=s.toks + ((xs.map a.draws).sum + 1) }):wpAny (model P w) A (pyHash (.ref p)) Q E s:=by
 obtain ⟨o,ho,hc,k,hd⟩:=hk
 have hT:s.TypeIs (.ref p) "tuple":=⟨o,ho,hc⟩
 unfold pyHash
 refine wpAny_bind (wpAny_cRoomFor_or (.inr (by omega)) ?_)
 refine wpAny_bind (wpAny_specialOf hT F.slot_tuple_hash.lookup ?_)
 show wpAny _ _ (if (some (IP "tuple.__hash__") == some G2)=true then _ else _) Q E s
 rw [if_neg (by rw [beq_builtin_none]; exact Eu)]
 refine wpAny_bind (wpAny_specialOf hT F.slot_tuple_hash.lookup ?_)
 show wpAny _ _ (callSpecialIfBoundUnlessNone? (.ref p) "__hash__" _ >>= _) Q E s
 refine wpAny_bind (wpAny_callSpecialIfBoundUnlessNone?_slot hT F.slot_tuple_hash (wpAny_call_entry F.slot_tuple_hash hT F.entry_tuple_hash ?_ (F.args_tuple_hash_1 _)))
 show wpAny _ _ (Builtin.Tuple.tupleItemsOf (.ref p) >>= _) _ _ s
 refine wpAny_bind (wpAny_tupleItemsOf ho hd ?_)
 refine wpAny_bind ?_
 rw [<- Array.forIn_toList]
 refine wpAny_forIn_list _
   (λrest (b:Array Int) s'=>∃ (ks:List K) (n:Nat),dk (a.is s.heap) ks rest/\b.toList++ks.map a.hash=xs.map a.hash/\n + (ks.map a.draws).sum=(xs.map a.draws).sum/\s'={ s with toks:=s.toks + n })
   _ ?_ ?_ _ _ ⟨xs,0,hs,rfl,by omega,rfl⟩
 · rintro z rest b s' ⟨ks,n,hr,e1,e2,rfl⟩
   cases hr with
   | @cons x _ ks' _ hx hr=>
     refine wpAny_bind (a.hk hx (show A.units + 1 + a.dep < cLine by omega) _ _ _ rfl ?_)
     refine wpAny_pure ⟨ks',n + a.draws x,hr,?_,?_,by simp [HY]⟩
     · simpa using e1
     · rw [Er,Fy] at e2
       omega
 · rintro b s' ⟨ks,n,hr,e1,e2,rfl⟩
   cases hr
   rw [FK,FC] at e1
   rw [FK,List.sum_nil,He] at e2
   subst e2
   show wpAny _ _ (retInt (Fq b.toList)) _ _ _
   rw [e1]
   refine wpAny_ret_mkInt ?_
   show wpAny _ _ (if (decide (-(2:Int) ^ 63<=Fq (xs.map a.hash)) && decide (Fq (xs.map a.hash) < 2 ^ 63))=true then _ else _) Q E _
   unfold reduceHash at h
   by_cases hr:(decide (-(2:Int) ^ 63<=Fq (xs.map a.hash)) && decide (Fq (xs.map a.hash) < 2 ^ 63))=true
   · rw [if_pos hr]
     rw [if_pos hr] at h
     exact wpAny_pure (by simpa [HY] using h)
   · rw [if_neg hr]
     rw [if_neg hr] at h
     exact wpAny_bind (wpAny_rule (wpAny_pure (by simpa [HY] using h)))
theorem qF {A:Around} {E:Value->Shared->Prop} {s:Shared} {p:Addr} {its:List Value} {n:Nat} {Q:Bool->Shared->Prop} (hk:IsTup s.heap p its.toArray) (h1:∀ z ∈ its,∀ A E Q,Q true s->wpAny (model P w) A (eqIsQuiet n z) Q E s) (h:Q true s) :
   wpAny (model P w) A (eqIsQuiet (n + 1) (.ref p)) Q E s:=by
 obtain ⟨o,ho,hc,k,hd⟩:=hk
 have hT:s.TypeIs (.ref p) "tuple":=⟨o,ho,hc⟩
 unfold eqIsQuiet
 refine wpAny_bind (wpAny_specialOf hT F.slot_tuple_eq.lookup ?_)
 show wpAny _ _ (isInstance (.ref p) (.type "tuple") >>= _) _ _ s
 refine wpAny_bind (wpAny_isInstance hT isSubtype_tuple_tuple ?_)
 simp only [JZ,FD,if_false]
 refine wpAny_bind (wpAny_seqItems ho hd ?_)
 refine wpAny_bind ?_
 show wpAny _ _ (forIn its.toArray _ _) _ _ s
 rw [<- Array.forIn_toList]
 refine wpAny_forIn_list _ (λrest r s'=>r.1=none/\s'=s/\∀ z ∈ rest,z ∈ its) _ ?_ ?_ _ _ ⟨rfl,rfl,λz hz=>by simpa using hz⟩
 · rintro z rest r s' ⟨hr,rfl,hall⟩
   refine wpAny_bind (h1 z (hall z Es) _ _ _ ?_)
   simp only [JZ,FD,if_false]
   exact wpAny_pure ⟨rfl,rfl,λx hx=>hall x (Ep _ hx)⟩
 · rintro ⟨r1,r2⟩ s' ⟨hr,rfl,_⟩
   simp only at hr
   subst hr
   exact wpAny_pure h
noncomputable def An (a:IK P w K):IK P w (List K) where
 is:=λh ks v=>∃ p its,v=.ref p/\IsTup h p its.toArray/\dk (a.is h) ks its
 hash:=λks=>reduceHash (Fq (ks.map a.hash))
 draws:=λks=>(ks.map a.draws).sum + 1
 dep:=a.dep + 1
 inj:=λ{h v x y} ⟨p,its,e,t,r⟩ ⟨p',its',e',t',r'⟩=>by
   rw [e] at e'
   cases e'
   have q:its=its':=congrArg Jh (r9 t t')
   subst q
   exact dk.inj (R:=a.is h) (λ_ _ _ z1 z2=>a.inj z1 z2) r r'
 keeps:=λ⟨p,its,e,t,r⟩ ho hd hs=>⟨p,its,e,yx t ho hd hs,r.mono λ_ _ z=>a.keeps z ho hd hs⟩
 hk:=λ{A h k v} ⟨p,its,e,t,r⟩ hu s E Q eh hq=>by
   rw [e]
   subst eh
   exact uD hu t r hq
 eq:=λ{A s x y u v} hx hy hu=>by
   obtain ⟨p,its,e,t,r⟩:=id hx
   obtain ⟨p',its',e',t',r'⟩:=id hy
   rw [e,e']
   by_cases z:p=p'
   · subst z
     have q:its=its':=congrArg Jh (r9 t t')
     subst q
     rw [decide_eq_true (dk.inj (R:=a.is s.heap) (λ_ _ _ z1 z2=>a.inj z1 z2) r r')]
     exact .same _
   · have:=EqAt.of_refs z (RcAt.tuples (e:=λj=>decide (x[j]?=y[j]?)) t t' (show A.units < cLine by omega) λj j1 j2=>by
       have l1:j < x.length:=by rw [r.length]; simpa using j1
       have l2:j < y.length:=by rw [r'.length]; simpa using j2
       rw [El l1,El l2]
       have:=a.eq (A:=A.in1) (r.at j l1 (by simpa using j1)) (r'.at j l2 (by simpa using j2)) (show A.units + 1 + a.dep < cLine by omega)
       simpa using this)
     have el:(its.toArray.size,its'.toArray.size)=(x.length,y.length):=by rw [r.length,r'.length]; simp
     have e1:its.toArray.size=x.length:=congrArg Prod.fst el
     have e2:its'.toArray.size=y.length:=congrArg Prod.snd el
     rw [e1,e2,all_eq] at this
     exact this
 quiet:=λ{s k v n} hn ⟨p,its,e,t,r⟩ A E Q q=>by
   obtain ⟨m,rfl⟩:∃ m,n=m + 1:=⟨n - 1,by omega⟩
   rw [e]
   refine qF t (λz hz=>?_) q
   obtain ⟨x,hx⟩:=r.mem z hz
   exact a.quiet (by omega) hx
end
end L2
namespace Ev
open PySem PySem.Spec PyProof.Rows L2
structure KD (K:Type) [DecidableEq K] where
 ik:∀ (P:Program) (w:World),IK P w K
 dep:Nat
 dep_ok:∀ P w,(ik P w).dep=dep
 toD:K->D
 den:∀ {X:Cx} {pins:List (Addr × Obj)} {σ:L2.St} {H:Hp} {s:Shared} {v:V} {u:Value} {k:K},Inv X pins σ H s->Den X.K H v (toD k)->RelV v u->(ik X.prog X.w).is s.heap k u
noncomputable def eL:KD Int where
 ik:=λ_ _=>Cc
 dep:=0
 dep_ok:=λ_ _=>rfl
 toD:=.int
 den:=λ_ d r=>by cases d; exact r
section
variable {K K':Type} [DecidableEq K] [DecidableEq K']
theorem oT (a:KD K) {X:Cx} {pins:List (Addr × Obj)} {σ:L2.St} {H:Hp} {s:Shared} (I:Inv X pins σ H s):∀ {ks:List K} {vs:List V} {us:List Value},ax X.K H vs (ks.map a.toD)->Vals vs us->dk ((a.ik X.prog X.w).is s.heap) ks us
 | [],_,_,.nil,.nil=>.nil
 | _ :: _,_,_,.cons d r,.cons q t=>.cons (a.den I d q) (oT a I r t)
noncomputable def cy (a:KD K):KD (List K) where
 ik:=λP w=>An (a.ik P w)
 dep:=a.dep + 1
 dep_ok:=λP w=>by show (a.ik P w).dep + 1=_; rw [a.dep_ok]
 toD:=λks=>.tup (ks.map a.toD)
 den:=λ{X pins σ H s v u k} I d r=>by
   generalize e:D.tup (k.map a.toD)=x at d
   cases d with
   | tup h q=>
     cases e
     cases (show u=EF _ from r)
     obtain ⟨its,rv,t,_⟩:=I.tuple h
     exact ⟨_,its,rfl,t,oT a I q rv⟩
   | _=>cases e
noncomputable abbrev NEs (K:Type):=List (K × Addr × Value)
noncomputable def kd (a:KD K) (hd:a.dep<=7) (P:Program) (w:World):HeapKind P w K:=kindOf (a.ik P w) (by rw [a.dep_ok]; exact hd)
variable {a:KD K} {hd:a.dep<=7}
noncomputable def dNk (a:KD K) (hd:a.dep<=7) (P:Program) (w:World) (p:Addr) (xs:NEs K):HO:=.ext λh=>(p == sysModules)=false/\∃ o es ep,h.get? p=some o/\o.ExactDict/\o.data=.dict es ep/\es.toList=xs.map (entryOfKey (kd a hd P w))/\(xs.map (·.1)).Nodup
structure gB (a:KD K) (hd:a.dep<=7) (P:Program) (w:World) (F:Ej) (H:Hp) (d:Addr) (xs:NEs K):Prop where
 at_:H d=some (dNk a hd P w d xs)
 key:∀ x ∈ xs,Den F H (.ref x.2.1) (a.toD x.1)
variable {X:Cx} {pins:List (Addr × Obj)} {σ:L2.St} {H:Hp} {s:Shared} {d b:Addr} {xs:NEs K} {k:K} {A:Around} {E:Value->Shared->Prop}
theorem key_is (I:Inv X pins σ H s) (q:Den X.K H (.ref b) (a.toD k)):(kd a hd X.prog X.w).is s.heap k b:=a.den I q rfl
theorem sG (I:Inv X pins σ H s) (D:gB a hd X.prog X.w X.K H d xs):(d == sysModules)=false/\s.heap.DictOfH (kd a hd X.prog X.w) d xs:=by
 obtain ⟨⟨h0,o,es,ep,h1,h2,h3,h4,h5⟩,_⟩:=(show bh X.prog X.w H s.heap d (dNk a hd X.prog X.w d xs) from I.hok d _ D.at_)
 exact ⟨h0,o,es,ep,h1,h2,h3,h4,λx hx=>key_is I (D.key x hx),h5⟩
noncomputable def BX (a:KD K) (hd:a.dep<=7) (P:Program) (w:World) (F:Ej) (td ty tv:TE):TS:=λD σ H=>tv σ H λv H1=>td σ H1 λx H2=>ty σ H2 λy H3=>∃ d b k xs,x=.ref d/\y=.ref b/\gB a hd P w F H3 d xs/\Den F H3 (.ref b) (a.toD k)/\xs.length<=sizeLine/\∀ u,RelV v u->D.nx σ (upd H3 d (dNk a hd P w d (storedH xs k b u)))
noncomputable def Dh (a:KD K) (hd:a.dep<=7) (P:Program) (w:World):TE:=λ_ H Q=>∀ p,H p=none->Q (.ref p) (upd H p (dNk a hd P w p []))
variable {o i e value:Expr} {pos pos':Pos} {td ty tv:TE}
theorem nV (hu:X.A.units + 16 < cLine) (ho:PE X o td) (hi:PE X i ty) (hv:PE X value tv) (hs:swapsWith value (some (.Subscript o i pos')) pos.line X.env=pure false) :
   PS X (.Assign [.Subscript o i pos'] value pos) (BX a hd X.prog X.w X.K td ty tv):=by
 intro pins s σ H D I h
 refine wpAny_Assign_Subscript (thn (hv pins s σ H _ I h) λr s1 ⟨v,H1,I1,rv,q1⟩=>thn (ho pins s1 σ H1 _ I1 q1) λu s2 ⟨x,H2,I2,rx,q2⟩=>thn (hi pins s2 σ H2 _ I2 q2) λiv s3 ⟨y,H3,I3,ry,d,b,k,xs,ex,ey,D',g,hl,q3⟩=>?_) hs
 subst ex ey
 obtain rfl:u=EF d:=rx
 obtain rfl:iv=EF b:=ry
 obtain ⟨hd',dd⟩:=sG I3 D'
 refine wpAny_setItem_heap (hsz:=hl) (show X.A.units + 1 + 8 < cLine by omega) (key_is I3 g) dd λh' dd' hs=>⟨σ,_,?_,q3 r rv⟩
 obtain ⟨q,es,ep,hq,h2,h3,h4,_,h5⟩:=dd'
 refine gN I3 (by rw [D'.at_]; exact Gz) hs ⟨q,hq⟩ ⟨⟨hd',q,es,ep,hq,h2,h3,h4,h5⟩,⟨q,hq⟩,λa1 a2 ⟨z0,o,es,ep,z1,z2⟩ hk=>⟨z0,o,es,ep,hk o z1,z2⟩⟩
theorem mP:PE X (.Dict [] [] pos) (Dh a hd X.prog X.w):=λpins s σ H Q I h=>
 wpAny_Dict_empty ⟨.ref s.heap.objs.size,_,I.laid (a:=s.heap.objs.size) (o:=dNk a hd X.prog X.w s.heap.objs.size []) (t':=s.toks) (λ_ _ q=>En _ q) (Ek _)
   ⟨⟨beq_eq_false_iff_ne.mpr (FE (ES I.big)),_,#[],0,EK _ rfl,⟨rfl,rfl,rfl⟩,rfl,rfl,JP⟩,⟨_,EK _ rfl⟩,λa1 a2 ⟨z0,o,es,ep,z1,z2⟩ hk=>⟨z0,o,es,ep,hk o z1,z2⟩⟩,rfl,h _ (I.hok.fresh (Ek _))⟩
end
end Ev
namespace Hy
open PySem PySem.Spec PyProof.Rows L2
open Ev (D Den ax KD NEs dNk gB)
section
variable {K:Type} [DecidableEq K]
inductive EnK (a:KD K) (F:Ej) (G:Hp):NEs K->List (K × D)->Prop where
 | nil:EnK a F G [] []
 | cons {k:K} {b:Addr} {u:Value} {v:V} {x:D} {xs:NEs K} {m:List (K × D)} (hk:Den F G (.ref b) (a.toD k)) (hr:RelV v u) (hv:Den F G v x) (r:EnK a F G xs m):EnK a F G ((k,b,u) :: xs) ((k,x) :: m)
variable {a:KD K} {F:Ej} {G G':Hp}
theorem EnK.mono (e:aq G G'):∀ {xs:NEs K} {m:List (K × D)},EnK a F G xs m->EnK a F G' xs m
 | _,_,.nil=>.nil
 | _,_,.cons h1 h2 h3 r=>.cons (h1.mono e) h2 (h3.mono e) (r.mono e)
theorem EnK.length:∀ {xs:NEs K} {m:List (K × D)},EnK a F G xs m->xs.length=m.length
 | _,_,.nil=>rfl
 | _,_,.cons _ _ _ r=>congrArg (· + 1) r.length
theorem EnK.key:∀ {xs:NEs K} {m:List (K × D)},EnK a F G xs m->∀ x ∈ xs,Den F G (.ref x.2.1) (a.toD x.1)
 | _,_,.nil,_,h=>nomatch h
 | _,_,.cons h _ _ r,x,hx=>(EE.mp hx).elim (λz=>z ▸ h) (r.key x)
noncomputable def getM (m:List (K × D)) (k:K):Option D:=(m.find? λx=>decide (x.1=k)).map (·.2)
noncomputable def tV (m:List (K × D)) (k:K) (x:D):List (K × D):=if (getM m k).isSome then m.map λy=>if y.1=k then (y.1,x) else y else m++[(k,x)]
theorem EnK.at:∀ {xs:NEs K} {m:List (K × D)},EnK a F G xs m->∀ k,match getM m k with
   | none=>atKey xs k=none
   | some x=>∃ p v,atKey xs k=some p/\RelV v p.2/\Den F G v x
 | _,_,.nil,_=>rfl
 | _,_,.cons (k:=k') (x:=y) (m:=m) (xs:=xs) h1 h2 h3 r,k=>by
   have ih:=r.at k
   unfold getM atKey at *
   by_cases e:k'=k
   · simp only [E6,e,decide_true,F0]
     exact ⟨_,_,rfl,h2,h3⟩
   · simp only [E6,e,decide_false]
     exact ih
theorem EnK.isSome {xs:NEs K} {m:List (K × D)} (h:EnK a F G xs m) (k:K):(atKey xs k).isSome=(getM m k).isSome:=by
 have:=h.at k
 cases e:getM m k with
 | none=>rw [e] at this; simp only at this; rw [this]; rfl
 | some x=>rw [e] at this; obtain ⟨p,v,h1,_⟩:=this; rw [h1]; rfl
theorem EnK.snoc {k:K} {b:Addr} {u:Value} {v:V} {x:D} (h1:Den F G (.ref b) (a.toD k)) (h2:RelV v u) (h3:Den F G v x):∀ {xs:NEs K} {m:List (K × D)},EnK a F G xs m->EnK a F G (xs++[(k,b,u)]) (m++[(k,x)])
 | _,_,.nil=>.cons h1 h2 h3 .nil
 | _,_,.cons g1 g2 g3 r=>.cons g1 g2 g3 (r.snoc h1 h2 h3)
theorem EnK.over {k:K} {u:Value} {v:V} {x:D} (h2:RelV v u) (h3:Den F G v x):∀ {xs:NEs K} {m:List (K × D)},EnK a F G xs m->EnK a F G (xs.map (putAt k u)) (m.map λy=>if y.1=k then (y.1,x) else y)
 | _,_,.nil=>.nil
 | _,_,.cons (k:=k') g1 g2 g3 r=>by
   rw [Er,Er]
   unfold putAt
   by_cases e:k'=k
   · simp only [e,if_true]
     rw [e] at g1
     exact .cons g1 h2 h3 (r.over h2 h3)
   · simp only [e,if_false]
     exact .cons g1 g2 g3 (r.over h2 h3)
theorem EnK.put {k:K} {b:Addr} {u:Value} {v:V} {x:D} {xs:NEs K} {m:List (K × D)} (h:EnK a F G xs m) (h1:Den F G (.ref b) (a.toD k)) (h2:RelV v u) (h3:Den F G v x):EnK a F G (storedH xs k b u) (tV m k x):=by
 unfold storedH tV
 rw [h.isSome k]
 split
 · exact h.over h2 h3
 · exact h.snoc h1 h2 h3
noncomputable def exK (a:KD K) (hd:a.dep<=7) (P:Program) (w:World) (m:List (K × D)):Ex where
 p:=λF G o p=>∃ xs,o=dNk a hd P w p xs/\EnK a F G xs m
 mono:=λe ⟨xs,h1,h2⟩=>⟨xs,h1,h2.mono e⟩
 ext:=λ⟨xs,h1,_⟩=>.inl ⟨_,h1⟩
end
end Hy
namespace Hy
open PySem PySem.Spec PyProof.Rows L2
open Ev (D Den ax KD NEs dNk gB aw mP nV)
section
variable {K:Type} [DecidableEq K] {a:KD K} {hd:a.dep<=7} {X:Cx} {C:Bool} {τ:List Sl} {x:D} {b e ix:Expr} {pos p q:Pos} {k:Nat} {N:Po} {rest:List Stmt} {m:List (K × D)} {key:K}
theorem Aj:PE X (.Dict [] [] pos) (dE X.K C τ (.x (exK a hd X.prog X.w []))):=peW mP λσ H Q ⟨A,H₀,B,S,k⟩=>λp hp=>k (.ref p) _ [p] (aw hp _) (λb hb=>by rw [Em.mp hb]; exact ⟨hp,_,aE⟩) ⟨p,_,rfl,rfl,aE,[],rfl,.nil⟩
theorem Sta.dct {F:Ej} {P:Program} {w:World} {A:Addr->Prop} {H₀ H:Hp} {B:Nat->List Addr} {σ:L2.St} {i:Nat} (S:Sta F A H₀ τ B σ H) (hi:τ[i]?=some (.x (exK a hd P w m))):∃ d xs,(σ[i]?).join=some (.ref d)/\B i=[d]/\H d=some (dNk a hd P w d xs)/\EnK a F (Hy.hd H (own A B)) xs m:=by
 obtain ⟨d,o,h1,h2,h3,xs,rfl,h5⟩:=S.sl i _ hi
 exact ⟨d,xs,h2,h1,h3,h5⟩
end
section
variable {K:Ej} {A:Addr->Prop} {H₀ H H':Hp} {τ:List Sl} {B:Nat->List Addr} {σ:L2.St}
theorem Sta.A9 (S:Sta K A H₀ τ B σ H) {i:Nat} {a:Addr} {E E':Ex} {o':HO} (hi:τ[i]?=some (.x E)) (hB:B i=[a]) (d:E'.p K (hd H (own A B)) o' a):Sta K A H₀ (τ.set i (.x E')) B σ (upd H a o'):=by
 have ha:own A B a:=.inr ⟨i,by rw [hB]; exact Em.mpr rfl⟩
 have ne:∀ b,b ≠ a->upd H a o' b=H b:=λb h=>aD h
 have sm:aq (hd H (own A B)) (hd (upd H a o') (own A B)):=λb o z=>by
   obtain ⟨z1,z2⟩:=ay.mp z
   exact ay.mpr ⟨z1,by rw [ne b (λe=>z1 (e ▸ ha))]; exact z2⟩
 have f0:H₀ a=none:=S.fr i a (by rw [hB]; exact Em.mpr rfl)
 have hs:aq H₀ (upd H a o'):=λb o z=>by rw [ne b (λe=>by rw [e,f0] at z; cases z)]; exact S.same b o z
 refine ⟨hs,by rw [Fl,S.len],λj t hj=>?_,S.fr,S.uq,S.ad,λj b hb=>?_⟩
 · by_cases ej:j=i
   · subst ej
     have hl:=(Ew.mp hi).1
     rw [Fc hl] at hj
     cases hj
     obtain ⟨a',o,e1,e2,_,_⟩:=S.sl j _ hi
     rw [hB] at e1
     cases e1
     exact ⟨a,o',hB,e2,aE,E'.mono sm d⟩
   · rw [E2 (λz=>ej z.symm)] at hj
     have off:∀ b ∈ B j,b ≠ a:=λb hb e=>ej (S.uq j i a (e ▸ hb) (by rw [hB]; exact Em.mpr rfl))
     have q:=S.sl j t hj
     cases t with
     | un=>exact q
     | d x=>obtain ⟨z,u,e,d⟩:=q; exact ⟨z,u,e,d.mono sm⟩
     | o zs=>
       obtain ⟨c,ws,z1,z2,z3,z4⟩:=q
       exact ⟨c,ws,z1,z2,by rw [ne c (off c (by rw [z1]; exact Em.mpr rfl))]; exact z3,z4.mono sm⟩
     | n t=>
       obtain ⟨z0,u,z1,z2⟩:=q
       exact ⟨z0,u,z1,z2.frame sm λb hb=>ne b (off b hb)⟩
     | x E=>
       obtain ⟨c,o,z1,z2,z3,z4⟩:=q
       exact ⟨c,o,z1,z2,by rw [ne c (off c (by rw [z1]; exact Em.mpr rfl))]; exact z3,E.mono sm z4⟩
 · by_cases e:b=a
   · subst e; exact ⟨_,aE⟩
   · rw [ne b e]; exact S.bd j b hb
end
section
variable {K:Type} [DecidableEq K] {a:KD K} {hd:a.dep<=7} {X:Cx} {C:Bool} {τ:List Sl} {x:D} {b e ix:Expr} {pos p q sp:Pos} {k:Nat} {N:Po} {rest:List Stmt} {m:List (K × D)} {key:K}
theorem A7 (i:Nat) {n:Str} (hu:X.A.units + 16 < cLine) (hi:τ[i]?=some (.x (exK a hd X.prog X.w m))) (hk:PE X ix (dE X.K true τ (.d (a.toD key)))) (he:PE X e (dE X.K true τ (.d x))) (hl:m.length<=sizeLine) (hr:∀ H v,Den X.K H v (a.toD key)->∃ b,v=.ref b)
   (hn:PSs X rest (dS X.K (τ.set i (.x (exK a hd X.prog X.w (tV m key x)))) N)) (hN:X.N[i]?=some n:=by rfl)
   (hv:Vis X.env.scope n:=by first | exact Gw rfl | exact FG (Gw rfl) | exact FG (FG rfl)) (hd1:(n == ("__debug__" : Str))=false:=by decide) (hcd:(n == ("__classdict__" : Str))=false:=by decide)
   (hs:swapsWith e (some (.Subscript (.Name n p) ix sp)) pos.line X.env=pure false:=by rfl):PSs X (.Assign [.Subscript (.Name n p) ix sp] e pos :: rest) (dS X.K τ N):=
 bo (M:=(·=τ.set i (.x (exK a hd X.prog X.w (tV m key x))))) (psW (nV (a:=a) (hd:=hd) hu (bV (i:=i) hN hv hd1 hcd) hk he hs) λD σ H ⟨A,H₀,B,S,Me⟩=>aV S λv H1 e1 d1=>by
   have S1:=S.mono e1
   obtain ⟨d,xs,g1,_⟩:=S1.dct hi
   refine ⟨_,slot_of g1,aV S1 λy H2 e2 dy=>?_⟩
   obtain ⟨b,rfl⟩:=hr _ _ dy
   have S2:=S1.mono e2
   obtain ⟨d',xs',h1,h2,h3,h4⟩:=S2.dct hi
   rw [g1] at h1
   cases h1
   have d1':=d1.mono (aA e2 λ_ z=>z)
   exact ⟨d,b,key,xs',rfl,rfl,⟨h3,λz hz=>(h4.key z hz).mono aF⟩,dy.mono aF,by rw [h4.length]; exact hl,λu hu=>Me.nx _ _ _ _ rfl (S2.A9 hi h2 ⟨_,rfl,h4.put dy hu d1'⟩)⟩) λ_ e=>e ▸ hn
end
end Hy
namespace Ev
open PySem PySem.Spec PyProof.Rows L2
section
variable {K:Type} [DecidableEq K] {a:KD K} {hd:a.dep<=7} {X:Cx} {o i e f:Expr} {pos apos cpos:Pos} {td ty tx tk tv:TE}
noncomputable def Af (a:KD K) (hd:a.dep<=7) (P:Program) (w:World) (F:Ej) (td ty tx:TE):TE:=λσ H Q=>td σ H λx H1=>∃ d φ,x=.ref d/\H1 d=some (.ext φ)/\(∀ h,φ h->∃ o,h.get? d=some o/\o.ExactDict)/\ty σ H1 λy H2=>tx σ H2 λz H3=>∃ b k xs,y=.ref b/\gB a hd P w F H3 d xs/\Den F H3 (.ref b) (a.toD k) /\
 ((∃ p v,atKey xs k=some p/\RelV v p.2/\Q v H3)\/(atKey xs k=none/\Q z H3))
theorem pL (hu:X.A.units + 16 < cLine) (ho:PE X o td) (he:PE X e ty) (hf:PE X f tx) (m:M2 X o "get" apos e f cpos):PE X (.Call (.Attribute o "get" apos) [e,f] [] cpos) (Af a hd X.prog X.w X.K td ty tx):=by
 intro pins s σ H Q I h
 refine wpAny_Call_method m.base m.few m.line JD G3 JV (thn (ho pins s σ H _ I h) λu s1 ⟨x,H1,I1,rx,d,φ,ex,hφ,hx,q1⟩=>?_)
 subst ex
 obtain rfl:u=EF d:=rx
 obtain ⟨ob,g1,g2⟩:=hx _ (show bh X.prog X.w H1 s1.heap d (.ext φ) from I1.hok d _ hφ).1
 refine ⟨⟨ob,g1,g2.1⟩,λc e=>(by cases e; exact ⟨ob,g1,g2.2.1⟩),?_⟩
 rw [m.trees]
 refine G1 rfl (Iu (F6 (thn (he pins s1 σ H1 _ I1 q1) λiv s2 ⟨y,H2,I2,ry,q2⟩=>
   F6 (thn (hf pins s2 σ H2 _ I2 q2) λfv s3 ⟨z,H3,I3,rz,b,k,xs,ey,D,g,q3⟩=>G4 ?_))))
 subst ey
 obtain rfl:iv=EF b:=ry
 obtain ⟨hd',dd⟩:=sG I3 D
 refine call_meetsIn G3 dd.typeIs JM (JE _ _ _) (meetsH_dict_get_default (kd a hd X.prog X.w) d b hd' fv) ⟨show X.A.units + 1 + 8 < cLine by omega,k,xs,key_is I3 g,dd,?_⟩
 rcases q3 with ⟨p,v,ha,rv,q⟩ | ⟨ha,q⟩
 · rw [ha]
   exact ⟨v,H3,I3.tok _,rv,q⟩
 · rw [ha]
   exact ⟨z,H3,I3.tok _,rz,q⟩
theorem wY (hu:X.A.units + 16 < cLine):OpR X (compareOp .In) (λy x H Q=>∃ d b k xs,x=.ref d/\y=.ref b/\gB a hd X.prog X.w X.K H d xs/\Den X.K H (.ref b) (a.toD k)/\Q (.bl (atKey xs k).isSome) H):=by
 intro pins s σ H x y v u Q I rx ry h
 obtain ⟨d,b,k,xs,rfl,rfl,D,g,q⟩:=h
 cases rx
 cases ry
 obtain ⟨hd',dd⟩:=sG I D
 exact wpAny_in_heap (show X.A.units + 1 + 8 < cLine by omega) (key_is I g) hd' dd ⟨.bl _,H,I.tok _,rfl,q⟩
noncomputable def Dy (a:KD K) (hd:a.dep<=7) (P:Program) (w:World) (F:Ej) (tk tv:TE):TE:=λσ H Q=>∀ p,H p=none->tk σ (upd H p (dNk a hd P w p [])) λy H1=>tv σ H1 λv H2=>∃ b k,y=.ref b/\H2 p=some (dNk a hd P w p [])/\Den F H2 (.ref b) (a.toD k)/\∀ u,RelV v u->Q (.ref p) (upd H2 p (dNk a hd P w p (storedH [] k b u)))
theorem rS (hu:X.A.units + 16 < cLine) (hk:PE X e tk) (hv:PE X f tv):PE X (.Dict [some e] [f] pos) (Dy a hd X.prog X.w X.K tk tv):=λpins s σ H Q I h=>by
 refine wpAny_Dict_any rfl rfl (by simp) (show 1<=15 by decide) (pairTrees_cons_walk ?_)
 have I0:=I.laid (a:=s.heap.objs.size) (o:=dNk a hd X.prog X.w s.heap.objs.size []) (t':=s.toks) (h':=s.heap.push { cls:=.type "dict",data:=.dict #[] }) (λ_ _ q=>En _ q) (Ek _)
   ⟨⟨beq_eq_false_iff_ne.mpr (FE (ES I.big)),_,#[],0,EK _ rfl,⟨rfl,rfl,rfl⟩,rfl,rfl,JP⟩,⟨_,EK _ rfl⟩,λa1 a2 ⟨z0,o,es,ep,z1,z2⟩ hk=>⟨z0,o,es,ep,hk o z1,z2⟩⟩
 refine thn (hk _ _ σ _ _ I0 (h _ (I.hok.fresh (Ek _)))) λkv s1 ⟨y,H1,I1,ry,q1⟩=>thn (hv _ s1 σ H1 _ I1 q1) λvv s2 ⟨v,H2,I2,rv,b,k,ey,hp,g,q2⟩=>pairTrees_nil_walk ?_
 subst ey
 obtain rfl:kv=EF b:=ry
 have D:gB a hd X.prog X.w X.K H2 s.heap.objs.size []:=⟨hp,λ_ z=>nomatch z⟩
 obtain ⟨hd',dd⟩:=sG I2 D
 unfold storeAll
 rw [List.forIn_cons]
 refine wpAny_bind (wpAny_bind (wpAny_dictSet_heap (hsz:=Fg _) (show X.A.units + 8 < cLine by omega) (key_is I2 g) dd λh' dd' hs=>wpAny_pure ?_))
 dsimp only
 rw [List.forIn_nil]
 refine wpAny_pure ?_
 obtain ⟨q,es,ep,hq,h2,h3,h4,_,h5⟩:=dd'
 refine ⟨.ref s.heap.objs.size,_,gN (ob:=dNk a hd X.prog X.w s.heap.objs.size (storedH [] k b vv)) I2 (by rw [hp]; exact Gz) hs ⟨q,hq⟩ ⟨⟨hd',q,es,ep,hq,h2,h3,h4,h5⟩,⟨q,hq⟩,λa1 a2 ⟨z0,o,es,ep,z1,z2⟩ hk=>⟨z0,o,es,ep,hk o z1,z2⟩⟩,rfl,q2 vv rv⟩
end
end Ev
namespace Hy
open PySem PySem.Spec PyProof.Rows L2
open Ev (D Den ax KD NEs dNk gB Bx aw pL rS wY)
section
variable {K:Type} [DecidableEq K] {a:KD K} {hd:a.dep<=7} {X:Cx} {C:Bool} {τ:List Sl} {x y:D} {b e f o ix:Expr} {pos p q apos cpos:Pos} {k:Nat} {N:Po} {rest:List Stmt} {m:List (K × D)} {key:K}
noncomputable def bxK (a:KD K) (hd:a.dep<=7) (P:Program) (w:World) (m:List (K × D)):Bx where
 p:=λF H d=>∃ xs,H d=some (dNk a hd P w d xs)/\EnK a F H xs m
 mono:=λe ⟨xs,h1,h2⟩=>⟨xs,e _ _ h1,h2.mono e⟩
 isd:=λ{_ _ d} ⟨xs,h1,_⟩=>⟨_,h1,λP w H' h z=>let ⟨_,o,_,_,z1,z2,_⟩:=z.1; ⟨o,z1,z2.1⟩⟩
noncomputable abbrev bxD (a:KD K) (hd:a.dep<=7) (P:Program) (w:World) (m:List (K × D)):D:=.box (bxK a hd P w m)
theorem Sta.fzX {F:Ej} {P:Program} {w:World} {A:Addr->Prop} {H₀ H:Hp} {B:Nat->List Addr} {σ:L2.St} {i:Nat} (S:Sta F A H₀ τ B σ H) (hi:τ[i]?=some (.x (exK a hd P w m))):Sta F A H₀ (τ.set i (.d (bxD a hd P w m))) (upB B i []) σ H:=
 S.less (λ_ z=>nomatch z) λG g hv=>by
   obtain ⟨d,xs,h1,h2,h3,h4⟩:=S.dct hi
   exact ⟨rfl,_,h1,.box ⟨xs,hv d _ (by rw [h2]; exact Em.mpr rfl) (λz=>nomatch z) h3,h4.mono g⟩⟩
theorem CY (i:Nat) (h:PSs X rest (dS X.K (τ.set i (.d (bxD a hd X.prog X.w m))) N)) (hi:τ[i]?=some (.x (exK a hd X.prog X.w m)):=by rfl):PSs X rest (dS X.K τ N):=rA h λD σ H ⟨A,H₀,B,S,Me⟩=>⟨A,H₀,_,S.fzX hi,Me⟩
theorem Co (h:PE X e (dE X.K C τ (.x (exK a hd X.prog X.w m)))):PE X e (dE X.K C τ (.d (bxD a hd X.prog X.w m))):=peW h λσ H Q q=>by
 obtain ⟨A,H₀,B,S,k⟩:=eU q
 refine ⟨A,H₀,B,S,λv H' bs e hf ⟨d,o,h1,h2,h3,xs,h4,h5⟩=>?_⟩
 cases h2
 subst h1 h4
 have vd:=S.vd (C:=C)
 have un:¬ vw C A B d:=λz=>by
   obtain ⟨_,q⟩:=vd d z
   rw [(hf d (Em.mpr rfl)).1] at q
   cases q
 exact k _ H' e (.box ⟨xs,ay.mpr ⟨un,h3⟩,h5.mono (aA (aq.refl _) λ_ z=>.inl z)⟩)
theorem sM (hu:X.A.units + 16 < cLine) (ho:PE X o (dE X.K C τ (.d (bxD a hd X.prog X.w m)))) (hk:PE X e (dE X.K C τ (.d (a.toD key)))) (hx:PE X f (dE X.K C τ (.d x))) (hr:∀ H v,Den X.K H v (a.toD key)->∃ b,v=.ref b)
   (m2:M2 X o "get" apos e f cpos:=by exact ⟨rfl,rfl,rfl,rfl⟩):PE X (.Call (.Attribute o "get" apos) [e,f] [] cpos) (dE X.K C τ (.d ((getM m key).getD x))):=
 peW (pL (a:=a) (hd:=hd) hu ho hk hx m2) λσ H Q q=>by
   obtain ⟨A,H₀,B,S,kk⟩:=eU q
   refine aV S λv H1 e1 d1=>?_
   cases d1 with
   | @box d _ h=>
   obtain ⟨xs1,g1,g2⟩:=h
   refine ⟨d,_,rfl,aF _ _ g1,(λh ⟨_,o,_,_,z1,z2,_⟩=>⟨o,z1,z2⟩),aV (S.mono e1) λy H2 e2 dy=>aV ((S.mono e1).mono e2) λz H3 e3 dz=>?_⟩
   obtain ⟨b',rfl⟩:=hr _ _ dy
   have m3:=aA (M:=vw C A B) (e2.trans e3) λ_ z=>z
   have g4:=g2.mono m3
   have dy3:=dy.mono (aA e3 λ_ z=>z)
   refine ⟨b',key,xs1,rfl,⟨aF _ _ (m3 _ _ g1),λz hz=>(g4.key z hz).mono aF⟩,dy3.mono aF,?_⟩
   have:=g4.at key
   cases hg:getM m key with
   | none=>
     rw [hg] at this kk
     exact .inr ⟨this,kk z H3 (e1.trans (e2.trans e3)) dz⟩
   | some x'=>
     rw [hg] at this kk
     obtain ⟨pp,v,h1,h2,h3⟩:=this
     exact .inl ⟨pp,v,h1,h2,kk v H3 (e1.trans (e2.trans e3)) h3⟩
theorem B7 (hu:X.A.units + 16 < cLine) (hr:∀ H v,Den X.K H v (a.toD key)->∃ b,v=.ref b):bP X (compareOp .In) (a.toD key) (bxD a hd X.prog X.w m) (.bl (getM m key).isSome):=⟨_,wY (a:=a) (hd:=hd) hu,λM v w H Q _ d1 d2 k=>by
 obtain ⟨b',rfl⟩:=hr _ _ d1
 cases d2 with
 | box h=>
   obtain ⟨xs,g3,g4⟩:=h
   exact ⟨_,b',key,xs,rfl,rfl,⟨aF _ _ g3,λz hz=>(g4.key z hz).mono aF⟩,d1.mono aF,by rw [g4.isSome]; exact k _ H (aq.refl _) .bl⟩⟩
theorem AN (hu:X.A.units + 16 < cLine) (hk:PE X e (dE X.K C τ (.d (a.toD key)))) (hv:PE X f (dE X.K C τ (.d x))) (hr:∀ H v,Den X.K H v (a.toD key)->∃ b,v=.ref b):PE X (.Dict [some e] [f] pos) (dE X.K C τ (.x (exK a hd X.prog X.w [(key,x)]))):=
 peW (rS (a:=a) (hd:=hd) hu hk hv) λσ H Q ⟨A,H₀,B,S,kk⟩=>λp hp=>by
   have e0:=aw hp (dNk a hd X.prog X.w p [])
   have f0:Fr H (upd H p (dNk a hd X.prog X.w p [])) [p]:=λb hb=>by rw [Em.mp hb]; exact ⟨hp,_,aE⟩
   have S1:=S.hide e0 f0
   refine aV S1 λy H2 e2 dy=>aV (S1.mono e2) λv H3 e3 dv=>?_
   obtain ⟨b',rfl⟩:=hr _ _ dy
   have e03:=e2.trans e3
   have hp3:=e03 _ _ (aE (H:=H) (a:=p) (o:=dNk a hd X.prog X.w p []))
   have dy3:=dy.mono (aA e3 λ_ z=>z)
   refine ⟨b',key,rfl,hp3,dy3.mono aF,λu hu=>?_⟩
   have sm:aq (Hy.hd H3 (vw C (λb=>A b\/b ∈ [p]) B)) (Hy.hd (upd H3 p (dNk a hd X.prog X.w p (storedH [] key b' u))) λb=>vw C A B b\/b ∈ [p]):=λb o z=>by
     obtain ⟨z1,z2⟩:=ay.mp z
     have nh:¬ (vw C A B b\/b ∈ [p]):=λy=>z1 (yt y)
     exact ay.mpr ⟨nh,by rw [aD (λq=>nh (.inr (Em.mpr q)))]; exact z2⟩
   have hs:aq H (upd H3 p (dNk a hd X.prog X.w p (storedH [] key b' u))):=λb o z=>by
     have ne:b ≠ p:=λq=>by rw [q,hp] at z; cases z
     rw [aD ne]
     exact e03 _ _ (e0 _ _ z)
   exact kk (.ref p) _ [p] hs (λb hb=>by rw [Em.mp hb]; exact ⟨hp,_,aE⟩) ⟨p,_,rfl,rfl,aE,_,rfl,(EnK.nil.put dy3 hu dv).mono sm⟩
end
end Hy
namespace Ev
open PySem PySem.Spec PyProof.Rows L2
open PySem.Builtin.Range (rangeFitsLong rangeSize)
noncomputable def g9 (n:Int):Obj:={ cls:=.type "range_iterator",data:=.fields #[rawInt (0 + (rangeSize 0 n 1 - 1) * 1),rawInt (rangeSize 0 n 1),rawInt (-1)] }
theorem fits_of {i:Int} (h1:-(2 ^ 62)<=i) (h2:i<=2 ^ 62):rangeFitsLong i=true:=by
 unfold rangeFitsLong
 rw [Fp,decide_eq_true_iff,decide_eq_true_iff]
 omega
theorem xr {n:Int} (h:0<=n):rangeSize 0 n 1=n:=by
 rw [rangeSize_one]
 split <;> omega
theorem BE {n:Int} (h0:0<=n) (h1:n < 2 ^ 62):(rangeFitsLong 0 && rangeFitsLong n && rangeFitsLong 1 && rangeFitsLong (-1) && rangeFitsLong (0 - 1) && rangeFitsLong (rangeSize 0 n 1))=true:=by
 rw [xr h0,fits_of (i:=n) (by omega) (by omega)]
 decide
theorem tS (r:Addr) (n:Int) (t u v:Tok) (hs:(rangeFitsLong 0 && rangeFitsLong n && rangeFitsLong 1 && rangeFitsLong (-1) && rangeFitsLong (0 - 1) && rangeFitsLong (rangeSize 0 n 1))=true) :
   Meets (Builtin.«range.__reversed__» ⟨[.ref r],[]⟩) (λ_ R s=>IsRange s.heap r 0 n 1 t u v/\R (.ok (.ret (EF s.heap.objs.size))) { s with heap:=s.heap.push (g9 n),toks:=s.toks }):=
 .of_wp λprog w A R s h=>by
   obtain ⟨hp,g,d,tk,os⟩:=s
   obtain ⟨hl,h⟩:=h
   have hs':(!(rangeFitsLong 0 && rangeFitsLong n && rangeFitsLong 1 && rangeFitsLong (-1) && rangeFitsLong (0 - 1) && rangeFitsLong (rangeSize 0 n 1)))=false:=by rw [hs]; rfl
   wp_walk
   rw [if_neg (by rw [hs]; decide),if_pos hs]
   exact wpAny_bind (wpAny_newObj_type (wpAny_pure ⟨_,rfl,h⟩))
section
variable {prog:Program} {w:World} {A:Around} {E:Value->Shared->Prop} {s:Shared}
theorem jG {r:Addr} {n:Int} {t u v:Tok} {Q:Value->Shared->Prop} (hr:IsRange s.heap r 0 n 1 t u v) (h0:0<=n) (h1:n < 2 ^ 62)
   (h:Q (.ref s.heap.objs.size) { s with heap:=s.heap.push (g9 n) }):wpAny (model prog w) A (call (.builtin "range.__reversed__") [.ref r]) Q E s:=
 call_meets F.slot_range_reversed ⟨_,hr,rfl⟩ F.entry_range_reversed (F.args_range_reversed_1 _) (tS r n t u v (BE h0 h1)) ⟨hr,h⟩
theorem mh {r:Addr} {n:Int} {t u v:Tok} {Q₁:Value->Shared->Prop} (hr:IsRange s.heap r 0 n 1 t u v) (h0:0<=n) (h1:n < 2 ^ 62)
   (h:Q₁ (.ref s.heap.objs.size) { s with heap:=s.heap.push (g9 n) }) :
   codeAny (model prog w) A (.call (.builtin "reversed.__new__") ⟨[.type "reversed",.ref r],[]⟩) (wants Q₁ E) s:=by
 have hT:s.TypeIs (.ref r) "range":=⟨_,hr,rfl⟩
 refine codeAny_of_tree ?_
 refine wpAny_bind (wpAny_of_eq (F.newCall_reversed_1 _) (wpAny_pure ⟨plainId_quiet F.plain_reversed_new _,codeAny_builtin F.entry_reversed_new ?_⟩))
 rw [GA F.plain_reversed_new _]
 unfold Builtin.«reversed.__new__»
 refine wpAny_bind (wpAny_of_eq (newClass_reversed _) ?_)
 try dsimp only
 refine wpAny_bind (wpAny_of_eq (a:=()) (by first | rfl | kernel_rfl) ?_)
 refine wpAny_bind (wpAny_of_eq (a:=()) (by first | rfl | kernel_rfl) ?_)
 try dsimp only
 refine wpAny_bind (wpAny_specialOf hT F.slot_range_reversed.lookup ?_)
 try dsimp only
 refine wpAny_bind (wpAny_of_eq (F.slot_range_reversed.bind _) ?_)
 try dsimp only
 first
 | rw [if_neg (show ¬ ((IP "range.__reversed__" == G2)=true) from Eu)]
 | (show wpAny _ _ (if (IP "range.__reversed__" == G2)=true then _ else _) _ _ _; rw [if_neg (show ¬ ((IP "range.__reversed__" == G2)=true) from Eu)])
 refine wpAny_bind (wpAny_rule ?_)
 refine wpAny_bind (m:=runValue (.call (.builtin "range.__reversed__") ⟨[.ref r],[]⟩)) (show wpAny _ _ (call (.builtin "range.__reversed__") [.ref r]) _ _ _ from jG hr h0 h1 ?_)
 first
 | exact wpAny_pure h
 | exact wpAny_bind (wpAny_pure (wpAny_pure h))
theorem je:isSubtype (.type "range_iterator") (.type "reversed")=pure false:=by rw [isSubtype_type]; kernel_rfl
theorem kB {r:Addr} {n:Int} {t u v:Tok} {Q:Value->Shared->Prop} (hr:IsRange s.heap r 0 n 1 t u v) (h0:0<=n) (h1:n < 2 ^ 62)
   (h:Q (.ref s.heap.objs.size) { s with heap:=s.heap.push (g9 n) }):wpAny (model prog w) A (call (.type "reversed") [.ref r]) Q E s:=by
 refine callType_other (U:="range_iterator") (Q₁:=λobj s₁=>obj=.ref s.heap.objs.size/\s₁={ s with heap:=s.heap.push (g9 n) }) (by decide +kernel) F.create_reversed ⟨_,_,F.mro_reversed⟩ F.made_reversed je (F.typeCall_reversed_1 _) (mh hr h0 h1 ⟨rfl,rfl⟩) ?_
 rintro obj s₁ ⟨rfl,rfl⟩
 exact ⟨⟨_,EK _ rfl,rfl⟩,h⟩
end
noncomputable def Itd (n:Nat):L2.It:=⟨λi _=>i < n,λi H x H'=>H'=H/\x=.int ((n:Int) - 1 - i),λi _=>n<=i⟩
theorem yQ {P:Program} {w:World} {K:Ej} {tg:Expr} (it:Addr) (n:Nat):Turn P w K false tg (Itd n) [it] it (λi h=>i<=n/\IsRangeIter h it ((n:Int) - 1 + (i:Nat) * (-1)) ((n:Int) - (i:Nat)) (-1)) where
 mem:=by simp
 obj:=λi h st b hb=>by
   have e:b=it:=by simpa using hb
   subst e
   exact ⟨_,st.2,λv z=>by
     have z':Data.fields _=Data.cell v:=z
     cases z'⟩
 keep:=λi h h' st k=>⟨st.1,k it (by simp) _ st.2⟩
 item:=by
   intro X hP hw hK hc i pins s σ H E I hf st hg
   subst hP hw hK
   obtain ⟨f0,f1,f2,f3,f4,f5⟩:=hf it (by simp)
   have W:=Walks.range (prog:=X.prog) (w:=X.w) (I.ok.hd hc.calm) it ((n:Int) - 1) (-1) n
   refine W.item i s _ _ hg st.2 λv h' tk hv st' kk=>?_
   obtain ⟨t,rfl⟩:=hv
   have I1:Inv X pins σ H { s with heap:=h',toks:=tk }:=I.turned (λb o hb e=>kk b o (by simpa using hb) e) f0 f1 f3 f4 f5
   refine ⟨_,rfl,lN (s:={ s with heap:=h',toks:=tk }) (n:="range_iterator") st' rfl rfl (by decide) ⟨.int ((n:Int) - 1 - i),H,I1,⟨t,?_⟩,⟨rfl,rfl⟩,⟨hg,st'⟩,λb hb=>(hf b hb).1⟩⟩
   rw [Int.mul_neg,Int.mul_one,<- Int.sub_eq_add_neg]
 done:=by
   intro X hP hw hK hc i pins s σ H E I hf st hg
   subst hP hw hK
   obtain ⟨f0,f1,f2,f3,f4,f5⟩:=hf it (by simp)
   have hg:n<=i:=hg
   obtain rfl:i=n:=Nat.le_antisymm st.1 hg
   have W:=Walks.range (prog:=X.prog) (w:=X.w) (I.ok.hd hc.calm) it ((i:Int) - 1) (-1) i
   exact W.done s _ _ st.2 λh' tk kk=>⟨rfl,I.turned (λb o hb e=>kk b o (by simpa using hb) e) f0 f1 f3 f4 f5⟩
 self:=λ_ _ _ _ _ st h=>wpAny_pyIter_rangeiter st.2 h
section
variable {X:Cx} {tg:Expr}
noncomputable def iDn (ta:TA):TI:=λσ H R=>ta σ H λvs H1=>∃ n:Nat,vs=[.int n]/\n < 1000/\R (Itd n) H1
theorem zy {a:Expr} {ta:TA} {p p' pos pos':Pos} (hc:X.calm=true) (hg:Gl X "reversed") (hm:X.mg "reversed" = none) (hg':Gl X "range") (hm':X.mg "range" = none) (ha:PA X [a] ta) (hs':starEach [a] X.env=[(false,eval a X.env)]:=by rfl)
   (hs:starEach [.Call (.Name "range" p') [a] [] pos'] X.env=[(false,eval (.Call (.Name "range" p') [a] [] pos') X.env)]:=by rfl):PI X tg (.Call (.Name "reversed" p) [.Call (.Name "range" p') [a] [] pos'] [] pos) (iDn ta):=by
 intro pins s σ H R I h
 refine Call_ (cx I hg hm oj (EZ ?_ hs rfl))
 rw [hs]
 refine F6 (Call_ (cx I hg' hm' boot_range (EZ (thn (ha pos' pins s σ H _ I h) λus s1 ⟨vs,H1,I1,r1,n,e,hn,q⟩=>?_) hs' rfl)))
 subst e
 cases r1 with
 | cons r rr=>
   cases rr
   obtain ⟨t,rfl⟩:=r
   refine call_range_1 (G4 ?_)
   have I2:Inv X pins σ H1 { s1 with heap:=s1.heap.push { cls:=.type "range",data:=.fields #[.int 0 s1.toks,.int n t,.int 1 (s1.toks + 1)] },toks:=s1.toks + 1 + 1 }:=I1.kept λb o e=>En _ e
   refine kB (J3 ..) (by omega) (by omega) ?_
   have z:rangeSize 0 (n:Int) 1=n:=xr (by omega)
   have st:(Heap.push (s1.heap.push { cls:=.type "range",data:=.fields #[.int 0 s1.toks,.int n t,.int 1 (s1.toks + 1)] }) (g9 n)).get? (s1.heap.push { cls:=.type "range",data:=.fields #[.int 0 s1.toks,.int n t,.int 1 (s1.toks + 1)] }).objs.size=some (g9 n):=EK _ rfl
   have st':IsRangeIter (Heap.push (s1.heap.push { cls:=.type "range",data:=.fields #[.int 0 s1.toks,.int n t,.int 1 (s1.toks + 1)] }) (g9 n)) (s1.heap.push { cls:=.type "range",data:=.fields #[.int 0 s1.toks,.int n t,.int 1 (s1.toks + 1)] }).objs.size ((n:Int) - 1 + ((0:Nat):Int) * (-1)) ((n:Int) - ((0:Nat):Int)) (-1):=by
     unfold IsRangeIter
     rw [st,g9,z]
     congr 6
     all_goals (simp)
   refine wpAny_pyIter_rangeiter (x:=(n:Int) - 1 + ((0:Nat):Int) * (-1)) (left:=(n:Int) - ((0:Nat):Int)) (step:=-1) st' ?_
   refine ⟨false,_,[(s1.heap.push { cls:=.type "range",data:=.fields #[.int 0 s1.toks,.int n t,.int 1 (s1.toks + 1)] }).objs.size],_,_,H1,rfl,I2.kept (t':=s1.toks + 1 + 1) λb o e=>En _ e,.inl hc,yQ _ n,⟨Fg _,st'⟩,λb hb=>?_,q⟩
   have e:b=(s1.heap.push { cls:=.type "range",data:=.fields #[.int 0 s1.toks,.int n t,.int 1 (s1.toks + 1)] }).objs.size:=by simpa using hb
   subst e
   exact I2.kX (Ek _) (I2.hok.fresh (Ek _))
end
end Ev
namespace Ev
open PySem PySem.Spec PyProof.Rows L2
noncomputable def cu (kv:List (Int × Int)):List (Key × V):=kv.map λp=>(.inl p.1,.int p.2)
noncomputable def Itk (a:Addr) (o:Obj) (kv:List (Int × Int)):L2.It:=
 ⟨λi H=>i < kv.length/\H a=some (.frz o (.dK (cu kv))),λi H x H'=>H'=H/\∃ p,kv[i]?=some p/\x=.int p.1,λi H=>kv.length<=i/\H a=some (.frz o (.dK (cu kv)))⟩
theorem vm {X:Cx} {pins:List (Addr × Obj)} {σ:L2.St} {H:Hp} {s:Shared} {a:Addr} {o:Obj} {kvs:List (Key × V)} {es:Array DictEntry} {ep:Nat} (I:Inv X pins σ H s) (h:H a=some (.frz o (.dK kvs))) (hd:o.data=.dict es ep) :
   ∃ vs,KV kvs vs/\s.heap.DictAt (bz X.prog X.w) a vs ep:=by
 obtain ⟨e,_,_,vs,rel,o',es',ep',e',r⟩:=(show bh X.prog X.w H s.heap a (.frz o (.dK kvs)) from I.hok a _ h)
 rw [e] at e'; cases e'
 have z:=r.2.1
 rw [hd] at z
 injection z with z1 z2
 subst z1 z2
 exact ⟨vs,rel,o,es,e,r⟩
theorem uc {P:Program} {w:World} {K:Ej} {tg:Expr} (a it:Addr) (o:Obj) (kv:List (Int × Int)) (es:Array DictEntry) (ep:Nat) (hd:o.data=.dict es ep) :
   Turn P w K false tg (Itk a o kv) [it] it (λi h=>i<=kv.length/\h.IsKeyIter it a i kv.length ep) where
 mem:=by simp
 obj:=λi h st b hb=>by
   have e:b=it:=by simpa using hb
   subst e
   obtain ⟨o,e,c,d⟩:=st.2
   exact ⟨o,e,λv z=>by rw [d] at z; cases z⟩
 keep:=λi h h' st k=>⟨st.1,st.2.at λo e=>k it (by simp) o e⟩
 item:=by
   intro X hP hw hK hc i pins s σ H E I hf st hg
   subst hP hw hK
   obtain ⟨hi,ha⟩:=hg
   obtain ⟨f0,f1,f2,f3,f4,f5⟩:=hf it (by simp)
   obtain ⟨vs,rel,dd⟩:=vm I ha hd
   have hl:kv.length=vs.length:=by rw [<- rel.length,cu,Ei]
   have st2:=st.2
   rw [hl] at st2
   have hx:vs[i]?=some vs[i]:=by simp [show i < vs.length by omega]
   have kk:=congrArg (λl=>l[i]?) rel.keys
   simp only [cu,EU,E5,hx,El hi,F0,Gv] at kk
   have kk:=E4 kk
   refine wpAny_pyNext_dict_item st2 dd hx λkey h' hk st' sb=>?_
   have hk:(bz X.prog X.w).is (G0 kv[i].fst) key=true:=by rw [kk]; exact hk
   obtain ⟨t,rfl⟩:=Value.isInt_shape (show Value.isInt _ key=true from hk)
   have I1:Inv X pins σ H { s with heap:=h' }:=I.turned (t':=s.toks) (λb o hb e=>(sb.2 b hb).trans e) f0 f1 f3 f4 f5
   obtain ⟨o',e,c,d⟩:=id st'
   refine ⟨_,rfl,lN (s:={ s with heap:=h' }) e c d (by decide) ⟨.int kv[i].1,H,I1,⟨t,rfl⟩,⟨rfl,_,El hi,rfl⟩,⟨hi,by rw [hl]; exact st'⟩,λb hb=>(hf b hb).1⟩⟩
 done:=by
   intro X hP hw hK hc i pins s σ H E I hf st hg
   subst hP hw hK
   obtain ⟨hi,ha⟩:=hg
   obtain ⟨f0,f1,f2,f3,f4,f5⟩:=hf it (by simp)
   obtain ⟨vs,rel,dd⟩:=vm I ha hd
   have hl:kv.length=vs.length:=by rw [<- rel.length,cu,Ei]
   have st2:=st.2
   rw [hl] at st2
   exact wpAny_pyNext_dict_end (I.ok.hd hc.calm) st2 dd (Hb (by omega)) λh' eb=>⟨rfl,I.turned (t':=s.toks) (λb o hb e=>eb b o hb e) f0 f1 f3 f4 f5⟩
 self:=λ_ _ _ _ _ st h=>wpAny_pyIter_keyiter st.2 h
section
variable {X:Cx} {tg:Expr}
noncomputable def vF (tl:TE):TI:=λσ H R=>tl σ H λx H1=>∃ a o kv,x=.ref a/\H1 a=some (.frz o (.dK (cu kv)))/\R (Itk a o kv) H1
theorem pe {l:Expr} {tl:TE} (hc:X.calm=true) (hl:PE X l tl):PI X tg l (vF tl):=by
 intro pins s σ H R I h
 refine thn (hl pins s σ H _ I h) λu s1 ⟨x,H1,I1,r1,a,o,kv,ex,ha,q⟩=>?_
 subst ex
 cases r1
 obtain ⟨e,ok⟩:=(show bh X.prog X.w H1 s1.heap a (.frz o (.dK (cu kv))) from I1.hok a _ ha)
 obtain ⟨z,hd,vs,rel,o',es,ep,e',r⟩:=ok
 rw [e] at e'
 cases e'
 refine wpAny_pyIter_dict hd (show s1.heap.DictAt (bz X.prog X.w) a vs ep from ⟨o,es,e,r⟩) ?_
 have hv:vs.length=kv.length:=by rw [<- rel.length,cu,Ei]
 refine ⟨false,s1.heap.objs.size,[s1.heap.objs.size],_,_,H1,rfl,I1.kept (t':=s1.toks) λb o e=>En _ e,.inl hc,uc a _ o kv es ep r.2.1,⟨Fg _,?_⟩,λb hb=>?_,q⟩
 · rw [<- hv]
   exact ⟨_,EK _ rfl,rfl,rfl⟩
 · have e:b=s1.heap.objs.size:=by simpa using hb
   subst e
   exact I1.kX (Ek _) (I1.hok.fresh (Ek _))
end
end Ev
namespace Hy
open PySem PySem.Spec PyProof.Rows L2
open Ev (D Den ax Bx aw cu Itk vF pe Itd iDn zy)
noncomputable def fV (kv:List (Int × Int)) (k v:Int):List (Int × Int):=
 if (kv.any λp=>decide (p.1=k))=true then kv.map (λp=>if p.1=k then (p.1,v) else p) else kv++[(k,v)]
noncomputable def bI (kv:List (Int × Int)) (k:Int):Option Int:=(kv.find? λp=>decide (p.1=k)).map (·.2)
theorem yz (kv:List (Int × Int)) (k:Int):((cu kv).any λp=>decide (p.1=.inl k))=kv.any λp=>decide (p.1=k):=by
 unfold cu
 rw [Iq]
 congr 1
 funext p
 simp
theorem rP (kv:List (Int × Int)) (k v:Int):putK (cu kv) (.inl k) (.int v)=cu (fV kv k v):=by
 unfold putK fV
 rw [yz]
 by_cases h:(kv.any λp=>decide (p.1=k))=true
 · rw [if_pos h,if_pos h]
   unfold cu
   rw [EU,EU]
   refine Fb λp _=>?_
   simp only [Gv]
   by_cases z:p.1=k
   · rw [if_pos (congrArg G0 z),if_pos z]
   · rw [if_neg (λy=>z (Ji y)),if_neg z]
 · rw [if_neg h,if_neg h]
   unfold cu
   rw [EW]
   rfl
theorem gS:∀ (kv:List (Int × Int)) (k:Int),ek (cu kv) (.inl k)=(bI kv k).map V.int
 | [],_=>rfl
 | p :: r,k=>by
   unfold bI
   by_cases z:p.1=k
   · rw [Ie (by simp [z])]
     exact bB (p:=(G0 p.1,V.int p.2)) (congrArg G0 z)
   · rw [Ig (by simp [z])]
     exact (bC (p:=(G0 p.1,V.int p.2)) (λy=>z (Ji y))).trans (gS r k)
theorem xQ (kv:List (Int × Int)) (k v:Int):(fV kv k v).length<=kv.length + 1:=by
 unfold fV
 split
 · rw [Ei]; omega
 · rw [EC,ET,Gg]; omega
noncomputable def exZ (m:List (Int × Int)):Ex where
 p:=λ_ _ o _=>o=.dK (cu m)
 mono:=λ_ h=>h
 ext:=λh=>.inr (.inr ⟨_,.inl h⟩)
noncomputable def exF (ob:Obj) (m:List (Int × Int)):Ex where
 p:=λ_ _ o _=>o=.frz ob (.dK (cu m))
 mono:=λ_ h=>h
 ext:=λh=>.inr (.inr ⟨_,.inr ⟨_,h⟩⟩)
noncomputable def bxZ (m:List (Int × Int)):Bx where
 p:=λ_ H d=>∃ o,H d=some (.frz o (.dK (cu m)))
 mono:=λe ⟨o,h⟩=>⟨o,e _ _ h⟩
 isd:=λ⟨o,h⟩=>⟨_,h,λP w H' h z=>by
   obtain ⟨_,_,_,vs,_,ob,_,_,z1,z2,_⟩:=z
   exact ⟨ob,z1,z2.1⟩⟩
section
variable {K:Ej} {A:Addr->Prop} {H₀ H:Hp} {τ:List Sl} {B:Nat->List Addr} {σ:L2.St} {m:List (Int × Int)} {i:Nat}
theorem Sta.dz (S:Sta K A H₀ τ B σ H) (hi:τ[i]?=some (.x (exZ m))):∃ d,(σ[i]?).join=some (.ref d)/\B i=[d]/\H d=some (.dK (cu m)):=by
 obtain ⟨d,o,h1,h2,h3,h4⟩:=S.sl i _ hi
 cases (show o=_ from h4)
 exact ⟨d,h2,h1,h3⟩
theorem Sta.fzF {ob:Obj} (S:Sta K A H₀ τ B σ H) (hi:τ[i]?=some (.x (exF ob m))):Sta K A H₀ (τ.set i (.d (.box (bxZ m)))) (upB B i []) σ H:=
 S.less (λ_ z=>nomatch z) λG g hv=>by
   obtain ⟨d,o,h1,h2,h3,h4⟩:=S.sl i _ hi
   cases (show o=_ from h4)
   exact ⟨rfl,_,h2,.box ⟨ob,hv d _ (by rw [h1]; exact Em.mpr rfl) (λz=>nomatch z) h3⟩⟩
end
section
variable {X:Cx} {C:Bool} {τ:List Sl} {x y:D} {a b e f o ix tg:Expr} {pos p q apos cpos sp:Pos} {k:Nat} {N:Po} {rest:List Stmt} {m:List (Int × Int)} {key v n:Int}
theorem CG {xs:List D} {n:Nat} (h:xs.length=n):ij X (.builtin "len") [.lst xs] (.d (.int n)):=h ▸ eP
theorem yo {n:Str}:v8 (.Name n p):=λ_ _=>rfl
theorem xl {op:Operator}:v8 (.BinOp a op b p):=λ_ _=>rfl
theorem AO:PE X (.Dict [] [] pos) (dE X.K C τ (.x (exZ []))):=peW uL λσ H Q ⟨A,H₀,B,S,k⟩=>λp hp=>k (.ref p) _ [p] (aw hp _) (λb hb=>by rw [Em.mp hb]; exact ⟨hp,_,aE⟩) ⟨p,_,rfl,rfl,aE,rfl⟩
theorem zZ {j l:Nat}:PE X (.Dict [some (.Constant (.int key) j p)] [.Constant (.int v) l q] pos) (dE X.K C τ (.x (exZ [(key,v)]))):=peW (yH (vk qh qh xW) rfl rfl (by simp) (by show (1:Nat)<=15; decide)) λσ H Q ⟨A,H₀,B,S,k⟩=>λp hp=>by
 refine ⟨aE,[(.inl key,.int v)],rfl,(by show (1:Nat)<=15; decide),?_⟩
 have e:upd (upd H p (.dK [])) p (.dK (iF [] [(G0 key,V.int v)]))=upd H p (.dK (cu [(key,v)])):=by
   funext b
   unfold upd
   split <;> rfl
 rw [e]
 exact k (.ref p) _ [p] (aw hp _) (λb hb=>by rw [Em.mp hb]; exact ⟨hp,_,aE⟩) ⟨p,_,rfl,rfl,aE,rfl⟩
theorem zM (i:Nat) (h:PSs X rest (dS X.K (τ.set i (.d (.box (bxZ m)))) N)) (hi:τ[i]?=some (.x (exZ m)):=by rfl):PSs X rest (dS X.K τ N):=by
 intro pins s σ H D I ⟨A,H₀,B,S,Me⟩
 obtain ⟨d,h1,h2,h3⟩:=S.dz hi
 obtain ⟨z,hd,vs,rel,dd⟩:=w5 I.hok h3
 obtain ⟨o,es,ep,e,r⟩:=id dd
 have I2:Inv X pins σ (upd H d (.frz o (.dK (cu m)))) s:=gN (t':=s.toks) (h':=s.heap) I (by rw [h3]; exact Gz) (.refl _ _) ⟨o,e⟩ ⟨e,qx z hd rel dd⟩
 have hl:=(Ew.mp hi).1
 have S2:=S.A9 (E':=exF o m) hi h2 rfl
 have S3:=S2.fzF (ob:=o) (m:=m) (Fc hl)
 rw [List.set_set] at S3
 exact h pins s σ _ D I2 ⟨A,H₀,_,S3,Me⟩
theorem wg (hu:X.A.units + 1 < cLine) (hb:PE X b (dE X.K C τ (.d (.box (bxZ m))))) (hk:PE X ix (dE X.K C τ (.d (.int key)))) (hx:bI m key=some v) (hs:v8 ix):PE X (.Subscript b ix pos) (dE X.K C τ (.d (.int v))):=
 peW (yu hu hb hk hs) λσ H Q q=>by
   obtain ⟨A,H₀,B,S,kk⟩:=eU q
   refine aV S λu H1 e1 d1=>aV (S.mono e1) λy H2 e2 dy=>?_
   cases dy
   cases d1.mono (aA e2 λ_ z=>z) with
   | box h=>
     obtain ⟨o,g⟩:=h
     exact ⟨_,.int v,rfl,⟨_,.inl key,.inr ⟨o,aF _ _ g⟩,rfl,by rw [gS,hx]; rfl⟩,kk _ H2 (e1.trans e2) .int⟩
theorem x9 (i:Nat) {nm:Str} (hu:X.A.units + 1 < cLine) (hi:τ[i]?=some (.x (exZ m))) (hk:PE X e (dE X.K false τ (.d (.int key)))) (hx:PE X f (dE X.K false τ (.d (.int v)))) (m2:M2 X (.Name nm p) "get" apos e f cpos:=by exact ⟨rfl,rfl,rfl,rfl⟩) (hN:X.N[i]?=some nm:=by rfl)
   (hv:Vis X.env.scope nm:=by first | exact Gw rfl | exact FG (Gw rfl) | exact FG (FG rfl)) (hd1:(nm == ("__debug__" : Str))=false:=by decide) (hcd:(nm == ("__classdict__" : Str))=false:=by decide):PE X (.Call (.Attribute (.Name nm p) "get" apos) [e,f] [] cpos) (dE X.K C τ (.d (.int ((bI m key).getD v)))):=
 peW (uQ hu (bV (i:=i) hN hv hd1 hcd) hk hx m2) λσ H Q q=>by
   obtain ⟨A,H₀,B,S,kk⟩:=eU q
   obtain ⟨d,h1,h2,h3⟩:=S.dz hi
   refine ⟨_,slot_of h1,d,rfl,⟨_,.inl h3⟩,aV S λy H2 e2 dy=>aV (S.mono e2) λz H3 e3 dz=>?_⟩
   cases dy
   cases dz
   refine ⟨_,⟨_,.inl key,.inl ((e2.trans e3) _ _ h3),rfl,rfl⟩,?_⟩
   have e:(ek (cu m) (.inl key)).getD (.int v)=V.int ((bI m key).getD v):=by rw [gS]; cases bI m key <;> rfl
   rw [e]
   exact kk _ H3 (e2.trans e3) .int
theorem Ac (i:Nat) {nm:Str} (hu:X.A.units + 1 < cLine) (hi:τ[i]?=some (.x (exZ m))) (hk:PE X ix (dE X.K true τ (.d (.int key)))) (he:PE X e (dE X.K true τ (.d (.int v)))) (hl:m.length < sizeLine)
   (hn:PSs X rest (dS X.K (τ.set i (.x (exZ (fV m key v)))) N)) (hN:X.N[i]?=some nm:=by rfl)
   (hv:Vis X.env.scope nm:=by first | exact Gw rfl | exact FG (Gw rfl) | exact FG (FG rfl)) (hd1:(nm == ("__debug__" : Str))=false:=by decide) (hcd:(nm == ("__classdict__" : Str))=false:=by decide)
   (hs:swapsWith e (some (.Subscript (.Name nm p) ix sp)) pos.line X.env=pure false:=by rfl):PSs X (.Assign [.Subscript (.Name nm p) ix sp] e pos :: rest) (dS X.K τ N):=
 bo (M:=(·=τ.set i (.x (exZ (fV m key v))))) (psW (zd hu (bV (i:=i) hN hv hd1 hcd) hk he hs) λD σ H ⟨A,H₀,B,S,Me⟩=>aV S λu H1 e1 d1=>by
   cases d1
   have S1:=S.mono e1
   obtain ⟨d,g1,_⟩:=S1.dz hi
   refine ⟨_,slot_of g1,aV S1 λy H2 e2 dy=>?_⟩
   cases dy
   have S2:=S1.mono e2
   obtain ⟨d',h1,h2,h3⟩:=S2.dz hi
   rw [g1] at h1
   cases h1
   refine ⟨d,_,rfl,⟨_,.inl key,h3,rfl,by unfold cu; rw [Ei]; exact hl,rfl⟩,?_⟩
   rw [rP]
   exact Me.nx _ _ _ _ rfl (S2.A9 hi h2 rfl)) λ_ e=>e ▸ hn
theorem xP (h:PE X e (dE X.K true τ (.d (.box (bxZ m))))) (hc:X.calm=true:=by first | rfl | assumption):PI X tg e (dI X.K τ (m.map λp=>.int p.1)):=piW (pe hc h) λσ H R ⟨A,H₀,B,S,k⟩=>aV S λv H1 e1 d1=>by
 cases d1 with
 | box h=>
   obtain ⟨o,g⟩:=h
   refine ⟨_,o,m,rfl,aF _ _ g,k _ H1 e1 λH2 sg=>⟨λi hi=>⟨by simpa using hi,sg _ _ g⟩,λi hi=>⟨⟨by simpa using hi,sg _ _ g⟩,λx H' ⟨eH,p,hp,ex⟩=>?_⟩⟩⟩
   subst eH ex
   refine ⟨aq.refl _,λM _ _=>?_⟩
   have hi':i < m.length:=by simpa using hi
   rw [El hi'] at hp
   cases hp
   rw [Hh]
   exact .int
theorem xK {m:List (Int × Int)}:∀ i (h:i < (m.map λp=>D.int p.1).length),(m.map λp=>D.int p.1)[i]=.int (m.getD i (0,0)).1:=λi h=>by
 have:i < m.length:=by simpa using h
 simp [this]
noncomputable def dnD (n:Nat):List D:=(Eo n).map λi:Nat=>.int ((n:Int) - 1 - (i:Int))
theorem gZ (n:Nat):(dnD n).length=n:=by simp [dnD]
theorem DS {n:Nat}:∀ i (h:i < (dnD n).length),(dnD n)[i]=.int ((n - 1 - i:Nat):Int):=λi h=>by
 rw [gZ] at h
 simp only [dnD,Hh,IZ]
 congr 1
 omega
theorem Eb {n:Nat} {p' pos':Pos} (B:Bk X k) (h:PE X a (dE X.K false τ (.d (.int n)))) (hn:n < 1000) (hg:Gl X "reversed":=by rfl) (hg':Gl X "range":=by rfl) (hs':starEach [a] X.env=[(false,eval a X.env)]:=by rfl)
   (hs:starEach [.Call (.Name "range" p') [a] [] pos'] X.env=[(false,eval (.Call (.Name "range" p') [a] [] pos') X.env)]:=by rfl):PI X tg (.Call (.Name "reversed" p) [.Call (.Name "range" p') [a] [] pos'] [] pos) (dI X.K τ (dnD n)):=
 piW (zy B.calm hg (B.blt _ (by decide)) hg' (B.blt _ (by decide)) (ae h ag hs') hs' hs) λσ H R ⟨A,H₀,B,S,k⟩=>cZ S λvs H1 e1 d1=>by
   cases d1 with
   | cons d r=>
     cases r
     cases d
     refine ⟨n,rfl,hn,k _ H1 e1 λH2 sg=>⟨λi hi=>by rw [gZ] at hi; exact hi,λi hi=>⟨by rw [gZ] at hi; exact hi,λx H' ⟨eH,ex⟩=>?_⟩⟩⟩
     subst eH ex
     refine ⟨aq.refl _,λM _ _=>?_⟩
     simp only [dnD,Hh,IZ]
     exact .int
end
end Hy
namespace Hy
open PySem PySem.Spec PyProof.Rows L2
open Ev (D Den ax aw aG cS dJ PTs b8 eO)
noncomputable def mV (ns:List Int):List Int:=ns.mergeSort λa b=>decide (a<=b)
theorem sE (ns:List Int):(mV ns).Pairwise (·<=·):=by
 have:=List.pairwise_mergeSort (le:=λa b:Int=>decide (a<=b)) (λa b c=>by simp only [decide_eq_true_eq]; omega) (λa b=>by simp only [JA,decide_eq_true_eq]; omega) ns
 exact this.imp λh=>of_decide_eq_true h
theorem fT (ns:List Int):(mV ns).Perm ns:=List.mergeSort_perm ns _
theorem BL {ns ns':List Int} (p:ns'.Perm ns) (h:ns'.Pairwise (·<=·)):ns'=mV ns:=
 List.Perm.eq_of_pairwise (λa b _ _ h1 h2=>by omega) h (sE ns) (p.trans (fT ns).symm)
theorem dC:∀ {us:List Value} {ns:List Int},IntsAre us ns->Vals (ns.map V.int) us
 | _,_,.nil=>.nil
 | _,_,.cons n t r=>.cons ⟨t,rfl⟩ (dC r)
theorem lQ:∀ {us:List Value} {ns:List Int},Vals (ns.map V.int) us->IntsAre us ns
 | [],[],_=>.nil
 | [],_ :: _,h=>nomatch h
 | _ :: _,[],h=>nomatch h
 | u :: us,n :: ns,h=>by
   cases h with
   | cons h1 h2=>
     obtain ⟨t,rfl⟩:=h1
     exact .cons n t (lQ h2)
theorem jY {K:Ej} {G:Hp}:∀ ns:List Int,ax K G (ns.map V.int) (ns.map .int)
 | []=>.nil
 | _ :: ns=>.cons .int (jY ns)
theorem lL {K:Ej} {G:Hp}:∀ {vs:List V} {ns:List Int},ax K G vs (ns.map .int)->vs=ns.map V.int
 | _,[],.nil=>rfl
 | _,n :: ns,.cons h r=>by cases h; rw [lL r]; rfl
section
variable {X:Cx}
theorem uh:cW X (.builtin "sorted") (λxs H Q=>∃ p ns,xs=[.ref p]/\SqL X.K H p (ns.map V.int)/\ns.length < 64/\∀ q,H q=none->Q (.ref q) (upd H q (.lst ((mV ns).map V.int)))):=by
 intro pins s σ H xs us Q I r q
 obtain ⟨p,ns,rfl,hp,hl,q⟩:=q
 obtain ⟨u,rfl,ru⟩:=vals1 r
 cases (show u=EF _ from ru)
 obtain ⟨its,rv,pl,hz⟩:=I.list hp
 have hln:its.length=ns.length:=by rw [<- rv.length,Ei]
 refine PyProof.Rows.sorted_ints pl.isList (lQ rv) (by omega) λout ns' a1 a2 a3=>?_
 obtain ⟨c,hc'⟩:=IV s.heap its out
 have en:=BL a2 a3
 subst en
 refine ⟨.ref (s.heap.objs.size + 1),upd H (s.heap.objs.size + 1) (.lst ((mV ns).map V.int)),I.laid (t':=s.toks) (λb o z=>IQ z) (Fv _) (show bh X.prog X.w _ _ _ (.lst ((mV ns).map V.int)) from ⟨?_,out.toList,c,dC a1,?_⟩),rfl,q _ (I.hok.fresh (Fv _))⟩
 · rw [Ei,mV,List.length_mergeSort]
   have:(64:Nat)<=sizeLine:=by decide
   omega
 · rw [hc']
theorem pQ:∀ (us:List Value) (a:Nat),(∀ j v,us[j]?=some v->∃ t,v=FT ((a + j:Nat):Int) t)->Vals ((List.range' a us.length).map λ(k:Nat)=>V.int (k:Int)) us
 | [],_,_=>.nil
 | u :: us,a,h=>by
   rw [ET,List.range'_succ,Er]
   obtain ⟨t,e⟩:=h 0 u rfl
   exact .cons ⟨t,e⟩ (pQ us (a + 1) λj v hj=>by
     obtain ⟨t,rfl⟩:=h (j + 1) v hj
     exact ⟨t,by congr 1; omega⟩)
theorem AS (hc:X.calm=true) {pins:List (Addr × Obj)} {s:Shared} {σ:L2.St} {H:Hp} {n:Nat} {us:List Value} {Q:VK} (I:Inv X pins σ H s) (r:Vals [.int (n:Int)] us) (hn:n < 1000) (q:∀ p,H p=none->Q (.ref p) (upd H p (.lst ((Eo n).map λ(k:Nat)=>V.int (k:Int))))) :
   wpAny (model X.prog X.w) X.A (call (.type "range") us) (λv s2=>wpAny (model X.prog X.w) X.A (call (.type "list") [v]) (EP X pins σ Q) X.xe s2) X.xe s:=by
 obtain ⟨u,rfl,ru⟩:=vals1 r
 obtain ⟨t,rfl⟩:=ru
 refine call_range_1 ?_
 have I1:Inv X pins σ H { s with heap:=s.heap.push { cls:=.type "range",data:=.fields #[.int 0 s.toks,.int n t,.int 1 (s.toks + 1)] },toks:=s.toks + 1 + 1 }:=I.kept λb o e=>En _ e
 refine call_list_range (n:=n) (I.ok.hd hc) (J3 _ _ _ _ _ _ _) ?_ ?_ (by omega) λh' tk acc c kp e' it=>?_
 · exact small_one (by omega) (by omega) (by omega) (by omega)
 · rw [rangeSize_one]; split <;> omega
 · obtain ⟨i1,i2⟩:=it
   have vv:Vals ((Eo n).map λ(k:Nat)=>V.int (k:Int)) acc.toList:=by
     have:=pQ acc.toList 0 λj v hj=>by
       rw [G9] at hj
       obtain ⟨t,rfl⟩:=i2 j v hj
       exact ⟨t,by congr 1; omega⟩
     rw [E3,i1,<- List.range_eq_range'] at this
     exact this
   refine ⟨.ref _,upd H (s.heap.push { cls:=.type "range",data:=.fields #[.int 0 s.toks,.int n t,.int 1 (s.toks + 1)] }).objs.size (.lst ((Eo n).map λ(k:Nat)=>V.int (k:Int))),I1.laid (t':=tk) kp (Ek _) (show bh X.prog X.w _ h' _ (.lst ((Eo n).map λ(k:Nat)=>V.int (k:Int))) from ⟨?_,acc.toList,c,vv,?_⟩),rfl,q _ (I1.hok.fresh (Ek _))⟩
   · rw [Ei,EN]
     have:(1000:Nat)<=sizeLine:=by decide
     omega
   · rw [e']
theorem BC {t:TA} (hc:X.calm=true) (hm:X.mg "list" = none) (hm2:X.mg "range" = none) {p p2 pos jc:Pos} {e:Expr} (hg:Gl X "list") (hg2:Gl X "range") (ha:PA X [e] t)
   (he:starEach [e] X.env=(false,eval e X.env) :: starEach [] X.env):PE X (.Call (.Name "list" p) [.Call (.Name "range" p2) [e] [] jc] [] pos) (λσ H Q=>t σ H λvs H1=>∃ n:Nat,vs=[.int (n:Int)]/\n < 1000/\∀ p,H1 p=none->Q (.ref p) (upd H1 p (.lst ((Eo n).map λ(k:Nat)=>V.int (k:Int))))):=by
 intro pins s σ H Q I h
 refine wpAny_Call_Name_kw (cx I hg hm (by decide +kernel:bootBuiltins "list" = some (.type "list")) ?_ (by decide) (by decide))
 refine EZ ?_ rfl rfl
 refine F6 ?_
 refine wpAny_Call_Name_kw (cx I hg2 hm2 (by decide +kernel:bootBuiltins "range" = some (.type "range")) ?_ (by decide) (by decide))
 refine EZ (thn (ha jc pins s σ H _ I h) λus s1 ⟨vs,H1,I1,r1,n,ev,hn,q1⟩=>?_) he rfl
 subst ev
 exact thn (AS hc I1 r1 hn q1) λv s2 z=>G4 z
end
section
variable {X:Cx} {C:Bool} {τ:List Sl} {e it:Expr} {pos p q p2 jc tp ip vp rp ap cp p1:Pos} {k:Nat} {N:Po} {rest:List Stmt} {scope:Scope}
theorem DA {n:Nat} (B:Bk X k) (h:PE X e (dE X.K C τ (.d (.int (n:Nat))))) (hn:n < 1000) (hg:Gl X "list":=by rfl) (hg2:Gl X "range":=by rfl) (hs:starEach [e] X.env=(false,eval e X.env) :: starEach [] X.env:=by rfl):PE X (.Call (.Name "list" p) [.Call (.Name "range" p2) [e] [] jc] [] pos) (dE X.K C τ (.o (((Eo n).map λk:Nat=>(k:Int)).map .int))):=
 peW (BC B.calm (B.blt _ (by decide)) (B.blt _ (by decide)) hg hg2 (ae h ag hs) hs) λσ H Q ⟨A,H₀,B,S,k⟩=>cZ S λvs H1 e1 d1=>by
   cases d1 with
   | cons d r=>
     cases r
     cases d
     refine ⟨n,rfl,hn,λp hp=>?_⟩
     refine k _ _ [p] (e1.trans (aw hp _)) (λb hb=>by rw [Em.mp hb]; exact ⟨e1.free hp,_,aE⟩) ⟨p,_,rfl,rfl,aE,?_⟩
     have:=jY (K:=X.K) (G:=hd (upd H1 p (.lst ((Eo n).map λ(k:Nat)=>V.int (k:Int)))) λb=>vw C A B b\/b ∈ [p]) ((Eo n).map λk:Nat=>(k:Int))
     rw [EU] at this
     exact this
noncomputable def gx:List Int->List Int->List Int × List Int
 | xs,[]=>([],xs)
 | xs,i :: ps=>let r:=gx (xs.eraseIdx i.toNat) ps; (xs.getD i.toNat 0 :: r.1,r.2)
noncomputable def lC:List Int->List Int->Prop
 | _,[]=>True
 | xs,i :: ps=>0<=i/\i < xs.length/\lC (xs.eraseIdx i.toNat) ps
noncomputable def gC (xs ps:List Int):Nat->List Int
 | 0=>xs
 | t + 1=>(gC xs ps t).eraseIdx (ps.getD t 0).toNat
theorem ic (xs ps:List Int) (i:Int):∀ t,gC xs (i :: ps) (t + 1)=gC (xs.eraseIdx i.toNat) ps t
 | 0=>rfl
 | t + 1=>by rw [gC,ic xs ps i t]; rfl
theorem px:∀ {ps xs:List Int},lC xs ps->∀ t,t < ps.length->0<=ps.getD t 0/\ps.getD t 0 < (gC xs ps t).length
 | i :: ps,xs,h,0,_=>⟨h.1,h.2.1⟩
 | i :: ps,xs,h,t + 1,ht=>by
   rw [ic]
   exact px (ps:=ps) h.2.2 t (by simpa using ht)
theorem ng:∀ (ps xs:List Int),(gx xs ps).1=(Eo ps.length).map λt=>(gC xs ps t).getD (ps.getD t 0).toNat 0
 | [],_=>rfl
 | i :: ps,xs=>by
   rw [ET,Ic,Er,EU,gx]
   simp only
   rw [ng ps]
   refine List.cons_eq_cons.mpr ⟨rfl,Fb λt _=>?_⟩
   simp only [Gv]
   rw [ic]
   rfl
theorem pq (xs ps:List Int):∀ t,(gC xs ps t).length<=xs.length
 | 0=>Ek _
 | t + 1=>by rw [gC]; exact EH (iE _ _) (pq xs ps t)
theorem vi {α β:Type} (g:α->β):∀ (xs:List α) (i:Nat),(xs.eraseIdx i).map g=(xs.map g).eraseIdx i
 | [],_=>rfl
 | _ :: _,0=>rfl
 | x :: xs,i + 1=>by rw [Er,HS,HS,Er,vi g xs i]
theorem wN (j il ii:Nat) {nm nv:Str} {xs ps:List Int} (B:Bk X k) (hj:τ[j]?=some (.o (xs.map .int))) (hi:PI X (.Name nv tp) it (dI X.K τ (ps.map .int))) (ok:lC xs ps) (hx:xs.length < 1000) (hp:ps.length < 64) (h:N.rt (.o ((mV (gx xs ps).1).map .int)))
   (hc:bOk X.env.scope scope=true:=by kernel_rfl) (hil:(bCp X.N scope)[il]?=some (some j):=by rfl) (hii:(bCp X.N scope)[ii]?=some none:=by rfl) (hNl:(bNm scope++[("#" : Str)])[il]?=some nm:=by rfl) (hNi:(bNm scope++[("#" : Str)])[ii]?=some nv:=by rfl)
   (hvl:∀ s H fp,Vis (cpX X s H scope fp).env.scope nm:=by intro _ _ _; first | exact Gw rfl | exact FG (Gw rfl) | exact FG (FG rfl)) (hvi:∀ s H fp,Vis (cpX X s H scope fp).env.scope nv:=by intro _ _ _; first | exact Gw rfl | exact FG (Gw rfl) | exact FG (FG rfl))
   (hlo:∀ s H fp,Loc (cpX X s H scope fp).env.scope nv:=by intro _ _ _; first | exact .inl rfl | exact .inr rfl) (hlf:∀ s H fp,(cpX X s H scope fp).fn nv=true\/(cpX X s H scope fp).env.scope.names.lookup nv=some .local:=by intro _ _ _; first | exact .inr rfl | exact .inl rfl)
   (d1:(nm == ("__debug__" : Str))=false:=by decide) (d2:(nm == ("__classdict__" : Str))=false:=by decide) (d3:(nv == ("__debug__" : Str))=false:=by decide) (d4:(nv == ("__classdict__" : Str))=false:=by decide)
   (hline:(ap.endLine == cp.line)=true:=by rfl) (hs:∀ x,foldedSetIterable it X.env x=pure x:=by intro _; rfl) (hg:Gl X "sorted":=by rfl) :
   PSs X (.Return (some (.Call (.Name "sorted" p1) [.ListComp (.Call (.Attribute (.Name nm q) "pop" ap) [.Name nv vp] [] cp) [⟨.Name nv tp,it,[],0⟩] scope pos] [] jc)) rp :: rest) (dS X.K τ N):=by
 obtain ⟨cap,nd⟩:=fR hc
 refine bo (M:=λ_=>False) (psW (mY (gE uh hg (B.blt _ (by decide)) (by decide +kernel) (dX (b8 (In:=λg tt te=>g=xy ii/\tt=(λσ H Q=>Q true H)/\te=tBM X.K "list" vK (Av il) (zv (Av ii) CM)) cap hi hs ?_) iC rfl) (by decide) (by decide) rfl rfl)) λDn σ H ⟨A,H₀,B,S,Me⟩=>?_) λ_ e=>e.elim
 · rintro g tt te ⟨rfl,rfl,rfl⟩ s H fp
   exact ⟨fO nd hNi (hlo s H fp) (hlf s H fp),jl,wD GV PySem.F.slot_list_pop PySem.F.type_list_pop wG (bV hNl (hvl s H fp) d1 d2) (dX (bV hNi (hvi s H fp) d3 d4) iC rfl) rfl rfl hline rfl rfl⟩
 refine ⟨A,H₀,B,S,λJ H1 e1 yl=>⟨_,_,_,⟨rfl,rfl,rfl⟩,λDd hD=>?_⟩⟩
 have S1:=S.mono e1
 obtain ⟨d,vs,hB,hσ,hd1,hd2⟩:=S1.sl j _ hj
 have ev:=lL hd2
 subst ev
 have dD:d ≠ Dd:=λz=>by rw [z,hD] at hd1; cases hd1
 have own_d:own A B d:=.inr ⟨j,by rw [hB]; exact Em.mpr rfl⟩
 have f0:H₀ d=none:=S1.fr j d (by rw [hB]; exact Em.mpr rfl)
 have capl:(cS σ (bCp X.N scope)++[some (V.ref Dd)])[il]?=some (some (V.ref d)):=by
   have hlt:il < (bCp X.N scope).length:=(Ew.mp hil).1
   rw [EI (by unfold cS; rw [Ei]; exact hlt)]
   unfold cS
   rw [E5,hil]
   simpa using hσ
 have ile:il ≠ ii:=λz=>by rw [z,hii] at hil; cases hil
 have hiil:ii < (cS σ (bCp X.N scope)++[some (V.ref Dd)]).length:=by
   rw [EC]
   have:ii < (bCp X.N scope).length:=(Ew.mp hii).1
   unfold cS
   rw [Ei]
   omega
 refine ⟨λi m σ' H'=>m=ps.length - i/\i<=ps.length/\σ'[il]?=some (some (.ref d))/\ii < σ'.length/\H' d=some (.lst ((gC xs ps i).map V.int))/\H' Dd=some (.lst (((Eo i).map λt=>(gC xs ps t).getD (ps.getD t 0).toNat 0).map V.int))/\∀ b o,b ≠ d->H1 b=some o->H' b=some o,⟨ps.length,rfl,Fg _,capl,hiil,by rw [aD dD]; exact hd1,aE,λb o hb z=>by rw [aD (λy=>by rw [y,hD] at z; cases z)]; exact z⟩,?_⟩
 rintro i m σ' H' ⟨rfl,hi',s1,s2,h1,h2,h3⟩
 have smH:aq (Hy.hd H1 (own A B)) H':=λb o z=>by
   obtain ⟨z1,z2⟩:=ay.mp z
   exact h3 b o (λy=>z1 (y ▸ own_d)) z2
 obtain ⟨y1,y2⟩:=yl H' smH
 by_cases hlt:i < ps.length
 · obtain ⟨g,y⟩:=y2 i (by simpa using hlt)
   refine .inr ⟨g,λx H2 hy=>?_⟩
   obtain ⟨e3,dx⟩:=y x H2 hy
   have dx:=dx (λb=>b=d\/own A B b) (λb z=>by
     rcases z with z | z
     · rw [z]; exact ⟨_,h1⟩
     · obtain ⟨o,q⟩:=S1.dm b z
       by_cases e:b=d
       · rw [e]; exact ⟨_,h1⟩
       · exact ⟨o,h3 b o e q⟩) (λb o z=>by
     obtain ⟨z1,z2⟩:=ay.mp z
     exact ay.mpr ⟨λw=>w.elim (λw=>z1 (w ▸ own_d)) z1,h3 b o (λy=>z1 (y ▸ own_d)) z2⟩)
   have ex:x=.int (ps.getD i 0):=by
     have:(ps.map D.int)[i]'(by simpa using hlt)=.int (ps.getD i 0):=by simp [hlt]
     rw [this] at dx
     cases dx
     rfl
   subst ex
   have q1:=e3 _ _ h1
   have q2:=e3 _ _ h2
   obtain ⟨b1,b2⟩:=px ok i hlt
   have lR:=pq xs ps i
   have kx:(ps.getD i 0).toNat < (gC xs ps i).length:=by omega
   refine ⟨V.ref d,by rw [E2 (FE ile)]; exact s1,.inl ⟨rfl,_,SqL.of q1⟩,_,by rw [Fc s2],d,_,ps.getD i 0,(ps.getD i 0).toNat,.int ((gC xs ps i).getD (ps.getD i 0).toNat 0),rfl,rfl,q1,by omega,by omega,?_,?_,?_⟩
   · exact PySem.StrLaws.seqIndex_nonneg b1 (by rw [Ei]; exact b2)
   · rw [E5,EB (l:=gC xs ps i),El kx]
     rfl
   · refine ⟨_,ps.length - (i + 1),by rw [aD (FE dD)]; exact q2,?_,by omega,rfl,hlt,by rw [E2 (FE ile)]; exact s1,by rw [Fl]; exact s2,?_,?_,λb o hb z=>?_⟩
     · rw [Ei,Ei,EN]
       have:(64:Nat)<=sizeLine:=by decide
       omega
     · rw [aD dD,aE,gC,vi]
     · rw [aE,Fz,EW,EW]
       rfl
     · have hD2:b ≠ Dd:=λy=>by rw [y,hD] at z; cases z
       rw [aD hD2,aD hb]
       exact e3 _ _ (h3 b o hb z)
 · have e:i=ps.length:=by omega
   subst e
   refine .inl ⟨y1 _ (by simp),Dd,(gx xs ps).1,rfl,SqL.of (by rw [ng]; exact h2),?_,λqn hq=>?_⟩
   · rw [ng,Ei,EN]; exact hp
   have sm:aq H₀ H':=λb o z=>h3 b o (λy=>by rw [y,f0] at z; cases z) (S1.same b o z)
   refine Me.rt (.ref qn) _ [qn] _ h (sm.trans (aw hq _)) (λb hb=>by rw [Em.mp hb]; exact ⟨sm.free hq,_,aE⟩) ⟨qn,_,rfl,rfl,aE,jY _⟩
end
end Hy
namespace PySem
set_option maxRecDepth 100000
section
variable {prog:Program} {w:World} {A:Around} {E:Value->Shared->Prop} {s:Shared} {I l:Addr} {items:Array Value} {R:Result->Shared->Prop}
end
end PySem
namespace Hy
open PySem PySem.Spec PyProof.Rows L2
open Ev (D Den ax aw)
section
variable {X:Cx}
end
section
variable {X:Cx} {C:Bool} {τ:List Sl} {e:Expr} {p p2 pos jc:Pos} {k:Nat}
end
end Hy
namespace Sp
open PySem PyProof.Rows
noncomputable def cX:Bool->Keyed->Array Keyed->Nat->Nat->Nat->StateT SortSt Sem (Option Nat):=sortPriv% PySem.Builtin.gallop
noncomputable def jE:Array Keyed->Array Keyed->StateT SortSt Sem (Array Keyed):=sortPriv% PySem.Builtin.mergeLo
noncomputable def jX:Array Keyed->Array Keyed->StateT SortSt Sem (Array Keyed):=sortPriv% PySem.Builtin.mergeHi
noncomputable def jH:Nat->StateT SortSt Sem Unit:=sortPriv% PySem.Builtin.setMinGallop
theorem fP (g:Nat):jH g=modify λs=>IW (kindOf s) (arrOf s) (pendingOf s) g (failedOf s):=rfl
noncomputable def bey (left:Bool) (key:Keyed) (arr:Array Keyed) (base i:Nat):StateT SortSt Sem (Option Bool):=do
 let x <- elem' arr (base + i)
 if left then lt' x key else return (<- lt' key x).map (!·)
theorem qA (left:Bool) (key:Keyed) (arr:Array Keyed) (base n hint:Nat):cX left key arr base n hint=(do
 let mut lastofs:=0
 let mut ofs:=1
 let mut lo:=0
 let mut hi:=0
 let some right <- bey left key arr base hint | return none
 if right then
   let maxofs:=n - hint
   for _ in [0:n] do
     if ofs ≥ maxofs then break
     let some more <- bey left key arr base (hint + ofs) | return none
     if !more then break
     lastofs:=ofs
     ofs:=2 * ofs + 1
   lo:=hint + lastofs + 1
   hi:=hint + min ofs maxofs
 else
   let maxofs:=hint + 1
   for _ in [0:n] do
     if ofs ≥ maxofs then break
     let some found <- bey left key arr base (hint - ofs) | return none
     if found then break
     lastofs:=ofs
     ofs:=2 * ofs + 1
   lo:=hint + 1 - min ofs maxofs
   hi:=hint - lastofs
 for _ in [0:n] do
   if lo ≥ hi then break
   let m:=lo + (hi - lo) / 2
   let some more <- bey left key arr base m | return none
   if more then lo:=m + 1 else hi:=m
 return some hi):=rfl
section
variable {prog:Program} {w:World} {A:Around} {E:Value->Shared->Prop} {s:Shared} {a₀:Array Keyed}
noncomputable def iD (prog:Program) (w:World) (A:Around) (s:Shared) (a₀:Array Keyed):Prop:=
 ∀ p ∈ a₀.toList,∀ q ∈ a₀.toList,∀ (E:Value->Shared->Prop) (Q:Bool->Shared->Prop),(∀ b,Q b s)->wpAny (model prog w) A (oneLt' true p.1 q.1) Q E s
theorem aT {arr:Array Keyed} {i:Nat} {p:Keyed} {st:SortSt} {Q:Keyed->SortSt->Prop} (h:arr[i]?=some p) (q:Q p st):wpS (model prog w) A E s (elem' arr i) Q st:=by
 rw [elem'_eq,h]
 exact wpS_pure q
theorem jy (hL:iD prog w A s a₀) {p q:Keyed} {st:SortSt} {Q:Option Bool->SortSt->Prop} (hp:p ∈ a₀.toList) (hq:q ∈ a₀.toList) (hk:kindOf st=oneType') (h:∀ b,Q (some b) st):wpS (model prog w) A E s (lt' p q) Q st:=by
 rw [lt'_eq]
 refine wpS_bind (wpS_get ?_)
 rw [hk,keyLt'_oneType]
 refine wpS_bind (wpS_lift (wpAny_attempt (hL p hp q hq _ _ λb=>⟨rfl,?_⟩)))
 exact wpS_pure (h b)
theorem gY (hL:iD prog w A s a₀) {left:Bool} {key p:Keyed} {arr:Array Keyed} {base i:Nat} {st:SortSt} {Q:Option Bool->SortSt->Prop} (hkey:key ∈ a₀.toList) (hi:arr[base + i]?=some p) (hp:p ∈ a₀.toList) (hk:kindOf st=oneType')
   (h:∀ b,Q (some b) st):wpS (model prog w) A E s (bey left key arr base i) Q st:=by
 unfold bey
 refine wpS_bind (aT hi ?_)
 cases left with
 | true=>exact jy hL hp hkey hk h
 | false=>exact wpS_bind (jy hL hkey hp hk λb=>wpS_pure (h !b))
theorem bW (hL:iD prog w A s a₀) {left:Bool} {key:Keyed} {arr:Array Keyed} {base n hint:Nat} {st:SortSt} {Q:Option Nat->SortSt->Prop} (hkey:key ∈ a₀.toList) (harr:∀ i,i < n->∃ p,arr[base + i]?=some p/\p ∈ a₀.toList) (hh:hint < n) (hk:kindOf st=oneType')
   (h:∀ k,k<=n->Q (some k) st):wpS (model prog w) A E s (cX left key arr base n hint) Q st:=by
 rw [qA]
 obtain ⟨p,hp,hpm⟩:=harr hint hh
 refine wpS_bind (gY hL hkey hp hpm hk λb=>?_)
 cases b with
 | true=>
   refine wpS_bind (wpS_mono (wpS_forRange (I:=λx c st'=>st=st'/\∃ l o,c=(none,l,o)) (Q:=λc st'=>st=st'/\∃ l o,c=(none,l,o)) ?step (λ_ _ z=>z) ⟨rfl,0,1,rfl⟩) ?post)
   case step=>
     rintro x c st' _ hx ⟨rfl,l,o,rfl⟩
     dsimp only
     by_cases hlt:o ≥ n - hint
     · rw [if_pos hlt]
       exact wpS_pure ⟨rfl,l,o,rfl⟩
     · rw [if_neg hlt]
       obtain ⟨p,hp,hpm⟩:=harr (hint + o) (by omega)
       refine wpS_bind (gY hL hkey hp hpm hk λb=>?_)
       cases b <;> exact wpS_pure ⟨rfl,_,_,rfl⟩
   case post=>
     rintro c st' ⟨rfl,l,o,rfl⟩
     refine wpS_bind (wpS_mono (wpS_forRange (I:=λx c st'=>st=st'/\∃ lo hi,c=(none,lo,hi)/\hi<=n) (Q:=λc st'=>st=st'/\∃ lo k,c=(none,lo,k)/\k<=n) ?step3 (λ_ _ z=>z) ⟨rfl,_,_,rfl,by omega⟩) ?post3)
     case step3=>
       rintro x c st' _ hx ⟨rfl,lo,hi,rfl,a2⟩
       dsimp only
       by_cases hlt:lo ≥ hi
       · rw [if_pos hlt]
         exact wpS_pure ⟨rfl,lo,hi,rfl,a2⟩
       · rw [if_neg hlt]
         obtain ⟨p,hp,hpm⟩:=harr (lo + (hi - lo) / 2) (by omega)
         refine wpS_bind (gY hL hkey hp hpm hk λb=>?_)
         cases b with
         | true=>exact wpS_pure ⟨rfl,_,_,rfl,a2⟩
         | false=>exact wpS_pure ⟨rfl,_,_,rfl,by omega⟩
     case post3=>
       rintro c st' ⟨rfl,lo,k,rfl,hk⟩
       exact wpS_pure (h k hk)
 | false=>
   refine wpS_bind (wpS_mono (wpS_forRange (I:=λx c st'=>st=st'/\∃ l o,c=(none,l,o)) (Q:=λc st'=>st=st'/\∃ l o,c=(none,l,o)) ?step2 (λ_ _ z=>z) ⟨rfl,0,1,rfl⟩) ?post2)
   case step2=>
     rintro x c st' _ hx ⟨rfl,l,o,rfl⟩
     dsimp only
     by_cases hlt:o ≥ hint + 1
     · rw [if_pos hlt]
       exact wpS_pure ⟨rfl,l,o,rfl⟩
     · rw [if_neg hlt]
       obtain ⟨p,hp,hpm⟩:=harr (hint - o) (by omega)
       refine wpS_bind (gY hL hkey hp hpm hk λb=>?_)
       cases b <;> exact wpS_pure ⟨rfl,_,_,rfl⟩
   case post2=>
     rintro c st' ⟨rfl,l,o,rfl⟩
     refine wpS_bind (wpS_mono (wpS_forRange (I:=λx c st'=>st=st'/\∃ lo hi,c=(none,lo,hi)/\hi<=n) (Q:=λc st'=>st=st'/\∃ lo k,c=(none,lo,k)/\k<=n) ?step4 (λ_ _ z=>z) ⟨rfl,_,_,rfl,by omega⟩) ?post4)
     case step4=>
       rintro x c st' _ hx ⟨rfl,lo,hi,rfl,a2⟩
       dsimp only
       by_cases hlt:lo ≥ hi
       · rw [if_pos hlt]
         exact wpS_pure ⟨rfl,lo,hi,rfl,a2⟩
       · rw [if_neg hlt]
         obtain ⟨p,hp,hpm⟩:=harr (lo + (hi - lo) / 2) (by omega)
         refine wpS_bind (gY hL hkey hp hpm hk λb=>?_)
         cases b with
         | true=>exact wpS_pure ⟨rfl,_,_,rfl,a2⟩
         | false=>exact wpS_pure ⟨rfl,_,_,rfl,by omega⟩
     case post4=>
       rintro c st' ⟨rfl,lo,k,rfl,hk⟩
       exact wpS_pure (h k hk)
end
theorem oN (a b:Array Keyed):jE a b=(do
 rule "list.sort.merge-lo"
 let total:=a.size + b.size
 let done (out:Array Keyed) (ia ib:Nat):=out++a.extract ia a.size++b.extract ib b.size
 let lastOfA (out:Array Keyed) (ia ib:Nat):=out++b.extract ib b.size++a.extract ia a.size
 let mut out:Array Keyed:=#[<- elem' b 0]
 let mut ia:=0
 let mut ib:=1
 if ib == b.size then return done out ia ib
 if ia + 1 == a.size then return lastOfA out ia ib
 let mut minGallop:=gallopOf (<- get)
 for _ in [0:total] do
   let mut acount:=0
   let mut bcount:=0
   for _ in [0:total] do
     let some bWins <- lt' (<- elem' b ib) (<- elem' a ia) | return done out ia ib
     if bWins then
       out:=out.push (<- elem' b ib); ib:=ib + 1; bcount:=bcount + 1; acount:=0
       if ib == b.size then return done out ia ib
       if bcount ≥ minGallop then break
     else
       out:=out.push (<- elem' a ia); ia:=ia + 1; acount:=acount + 1; bcount:=0
       if ia + 1 == a.size then return lastOfA out ia ib
       if acount ≥ minGallop then break
   rule "list.sort.gallop"
   minGallop:=minGallop + 1
   for _ in [0:total] do
     if minGallop > 1 then minGallop:=minGallop - 1
     jH minGallop
     let some k <- cX false (<- elem' b ib) a ia (a.size - ia) 0 | return done out ia ib
     acount:=k
     if k > 0 then
       out:=out++a.extract ia (ia + k); ia:=ia + k
       if ia + 1 == a.size then return lastOfA out ia ib
       if ia == a.size then return done out ia ib
     out:=out.push (<- elem' b ib); ib:=ib + 1
     if ib == b.size then return done out ia ib
     let some k <- cX true (<- elem' a ia) b ib (b.size - ib) 0 | return done out ia ib
     bcount:=k
     if k > 0 then
       out:=out++b.extract ib (ib + k); ib:=ib + k
       if ib == b.size then return done out ia ib
     out:=out.push (<- elem' a ia); ia:=ia + 1
     if ia + 1 == a.size then return lastOfA out ia ib
     if acount < 7 && bcount < 7 then break
   minGallop:=minGallop + 1
   jH minGallop
 unsupported "internal:list.sort.merge-bound"):=rfl
noncomputable def MS (a b o:List Keyed) (ia ib:Nat):Prop:=(o++(a.drop ia++b.drop ib)).Perm (a++b)
section
variable {a b o:List Keyed} {ia ib:Nat}
theorem MS.oV (h:MS a b o ia ib) (k:Nat):MS a b (o++(a.drop ia).take k) (ia + k) ib:=by
 have e:(a.drop ia).take k++a.drop (ia + k)=a.drop ia:=by rw [<- IG]; exact Fw ..
 unfold MS
 rw [EX,<- EX ((a.drop ia).take k),e]
 exact h
theorem MS.oy (h:MS a b o ia ib) (k:Nat):MS a b (o++(b.drop ib).take k) ia (ib + k):=by
 have e:(b.drop ib).take k++b.drop (ib + k)=b.drop ib:=by rw [<- IG]; exact Fw ..
 refine Hf ?_ h
 rw [EX]
 refine Gr o ?_
 have:=Hm ((b.drop ib).take k) (a.drop ia) (b.drop (ib + k))
 rwa [e] at this
theorem take1 {l:List Keyed} {i:Nat} {p:Keyed} (h:l[i]?=some p):(l.drop i).take 1=[p]:=by
 obtain ⟨hi,rfl⟩:=Ew.mp h
 rw [GK hi]
 rfl
theorem MS.pU (h:MS a b o ia ib) {p:Keyed} (hp:a[ia]?=some p):MS a b (o++[p]) (ia + 1) ib:=by
 have:=h.oV 1
 rwa [take1 hp] at this
theorem MS.ou (h:MS a b o ia ib) {p:Keyed} (hp:b[ib]?=some p):MS a b (o++[p]) ia (ib + 1):=by
 have:=h.oy 1
 rwa [take1 hp] at this
theorem MS.done (h:MS a b o ia ib):(o++a.drop ia++b.drop ib).Perm (a++b):=by rw [EX]; exact h
theorem MS.sS (h:MS a b o ia ib):(o++b.drop ib++a.drop ia).Perm (a++b):=by
 refine Hf ?_ h
 rw [EX]
 exact Gr o Ik
end
theorem xt1 (a:Array Keyed) (i k:Nat):(a.extract i (i + k)).toList=(a.toList.drop i).take k:=by
 rw [IB,HD,Nat.add_sub_cancel_left]
theorem xt2 (a:Array Keyed) (i:Nat):(a.extract i a.size).toList=a.toList.drop i:=by
 rw [IB,HD,ED (by rw [GO,E3]; exact Ek _)]
theorem toL (o a b:Array Keyed) (i j:Nat):(o++a.extract i a.size++b.extract j b.size).toList=o.toList++a.toList.drop i++b.toList.drop j:=by
 rw [F3,F3,xt2,xt2]
theorem elA (a:Array Keyed) {i:Nat} (h:i < a.size):∃ p,a[i]?=some p/\a.toList[i]?=some p/\p ∈ a.toList:=by
 refine ⟨a[i],Hz h,?_,?_⟩
 · rw [G9]; exact Hz h
 · exact Array.getElem_mem_toList h
noncomputable def Sg (st st':SortSt):Prop:=kindOf st'=kindOf st/\arrOf st'=arrOf st/\pendingOf st'=pendingOf st/\failedOf st'=failedOf st
theorem Sg.refl (st:SortSt):Sg st st:=⟨rfl,rfl,rfl,rfl⟩
theorem Sg.gal {st st':SortSt} (h:Sg st st') (g:Nat):Sg st (IW (kindOf st') (arrOf st') (pendingOf st') g (failedOf st')):=⟨h.1,h.2.1,h.2.2.1,h.2.2.2⟩
section
variable {prog:Program} {w:World} {A:Around} {E:Value->Shared->Prop} {s:Shared} {a₀:Array Keyed}
set_option maxHeartbeats 4000000 in
theorem ow (hL:iD prog w A s a₀) {a b:Array Keyed} {st:SortSt} {Q:Array Keyed->SortSt->Prop} (ha:∀ p ∈ a.toList,p ∈ a₀.toList) (hb:∀ p ∈ b.toList,p ∈ a₀.toList) (h1:1<=a.size) (h2:1<=b.size) (hk:kindOf st=oneType')
   (h:∀ r st',Sg st st'->r.toList.Perm (a.toList++b.toList)->Q r st'):wpS (model prog w) A E s (jE a b) Q st:=by
 have la:a.toList.length=a.size:=E3
 have lb:b.toList.length=b.size:=E3
 rw [oN]
 refine wpS_bind (wpS_lift (wpAny_rule ⟨rfl,?_⟩))
 obtain ⟨p0,e0,e0',m0⟩:=elA b (i:=0) (by omega)
 refine wpS_bind (aT e0 ?_)
 have M0:MS a.toList b.toList (#[p0]:Array Keyed).toList 0 1:=by
   have d0:b.toList=p0 :: b.toList.drop 1:=by
     have:=take1 e0'
     rw [GJ] at this
     have t:=Fw 1 b.toList
     rw [this] at t
     exact t.symm
   show ([p0]++(a.toList.drop 0++b.toList.drop 1)).Perm _
   rw [GJ]
   have:=Hm [p0] a.toList (b.toList.drop 1)
   rw [show [p0]++b.toList.drop 1=b.toList from d0.symm] at this
   exact this
 dsimp only
 by_cases c1:1=b.size
 · rw [if_pos (by simpa using c1)]
   exact wpS_pure (h _ _ (Sg.refl _) (by rw [toL]; exact M0.done))
 rw [if_neg (by simpa using c1)]
 by_cases c2:0 + 1=a.size
 · rw [if_pos (by simpa using c2)]
   exact wpS_pure (h _ _ (Sg.refl _) (by rw [toL]; exact M0.sS))
 rw [if_neg (by simpa using c2)]
 refine wpS_bind (wpS_get ?_)
 refine wpS_bind (wpS_mono (wpS_forRange (I:=λx c st'=>Sg st st'/\∃ out ia ib g,c=(none,out,ia,ib,g)/\MS a.toList b.toList out.toList ia ib/\ia + 1 < a.size/\ib < b.size/\x + 1<=ia + ib) (Q:=λc st'=>Sg st st'/\∃ r t,c=(some r,t)/\r.toList.Perm (a.toList++b.toList)) ?step ?fin ⟨Sg.refl _,_,_,_,_,rfl,M0,by omega,by omega,by omega⟩) ?post)
 case fin=>
   rintro c st' ⟨sg,out,ia,ib,g,rfl,ms,b1,b2,b3⟩
   omega
 case post=>
   rintro c st' ⟨sg,r,t,rfl,rs⟩
   exact wpS_pure (h r st' sg rs)
 case step=>
   rintro x c st' _ hx ⟨sg,out,ia,ib,g,rfl,ms,b1,b2,b3⟩
   dsimp only
   refine wpS_bind (wpS_mono (wpS_forRange (I:=λy c st''=>st'=st''/\∃ out ia ib ac bc,c=(none,out,ia,ib,ac,bc)/\MS a.toList b.toList out.toList ia ib/\ia + 1 < a.size/\ib < b.size/\x + 1 + y<=ia + ib) (Q:=λc st''=>st'=st''/\((∃ r t,c=(some r,t)/\r.toList.Perm (a.toList++b.toList))\/∃ out ia ib ac bc,c=(none,out,ia,ib,ac,bc)/\MS a.toList b.toList out.toList ia ib/\ia + 1 < a.size/\ib < b.size/\x + 2<=ia + ib)) ?step1 ?fin1 ⟨rfl,_,_,_,_,_,rfl,ms,b1,b2,by omega⟩) ?post1)
   case fin1=>
     rintro c st'' ⟨rfl,out,ia,ib,ac,bc,rfl,ms,b1,b2,b3⟩
     omega
   case step1=>
     rintro y c st'' _ hy ⟨rfl,out,ia,ib,ac,bc,rfl,ms,b1,b2,b3⟩
     dsimp only
     obtain ⟨q,eq,eq',mq⟩:=elA b b2
     obtain ⟨p,ep,ep',mp⟩:=elA a (i:=ia) (by omega)
     refine wpS_bind (aT eq (wpS_bind (aT ep ?_)))
     refine wpS_bind (jy hL (hb q mq) (ha p mp) (sg.1.trans hk) λe=>?_)
     dsimp only
     cases e with
     | true=>
       rw [if_pos rfl]
       refine wpS_bind (aT eq ?_)
       have ms':MS a.toList b.toList (out.push q).toList ia (ib + 1):=by
         rw [Gf]
         exact ms.ou eq'
       by_cases c3:ib + 1=b.size
       · rw [if_pos (by simpa using c3)]
         exact wpS_pure ⟨rfl,.inl ⟨_,_,rfl,by rw [toL]; exact ms'.done⟩⟩
       rw [if_neg (by simpa using c3)]
       split
       · exact wpS_pure ⟨rfl,.inr ⟨_,_,_,_,_,rfl,ms',b1,by omega,by omega⟩⟩
       · exact wpS_pure ⟨rfl,_,_,_,_,_,rfl,ms',b1,by omega,by omega⟩
     | false=>
       rw [if_neg (by decide)]
       refine wpS_bind (aT ep ?_)
       have ms':MS a.toList b.toList (out.push p).toList (ia + 1) ib:=by
         rw [Gf]
         exact ms.pU ep'
       by_cases c3:ia + 1 + 1=a.size
       · rw [if_pos (by simpa using c3)]
         exact wpS_pure ⟨rfl,.inl ⟨_,_,rfl,by rw [toL]; exact ms'.sS⟩⟩
       rw [if_neg (by simpa using c3)]
       split
       · exact wpS_pure ⟨rfl,.inr ⟨_,_,_,_,_,rfl,ms',by omega,b2,by omega⟩⟩
       · exact wpS_pure ⟨rfl,_,_,_,_,_,rfl,ms',by omega,b2,by omega⟩
   case post1=>
     rintro c st'' ⟨rfl,hc⟩
     rcases hc with ⟨r,t,rfl,rs⟩ | ⟨out,ia,ib,ac,bc,rfl,ms,b1,b2,b3⟩
     · exact wpS_pure ⟨sg,_,_,rfl,rs⟩
     dsimp only
     refine wpS_bind (wpS_lift (wpAny_rule ⟨rfl,?_⟩))
     refine wpS_bind (wpS_mono (wpS_forRange (I:=λy c st''=>Sg st st''/\∃ out ia ib g ac bc,c=(none,out,ia,ib,g,ac,bc)/\MS a.toList b.toList out.toList ia ib/\ia + 1 < a.size/\ib < b.size/\x + 2<=ia + ib) (Q:=λc st''=>Sg st st''/\((∃ r t,c=(some r,t)/\r.toList.Perm (a.toList++b.toList))\/∃ out ia ib g ac bc,c=(none,out,ia,ib,g,ac,bc)/\MS a.toList b.toList out.toList ia ib/\ia + 1 < a.size/\ib < b.size/\x + 2<=ia + ib)) ?step2 ?fin2 ⟨sg,_,_,_,_,_,_,rfl,ms,b1,b2,by omega⟩) ?post2)
     case fin2=>
       rintro c st'' ⟨sg,out,ia,ib,g,ac,bc,rfl,ms,b1,b2,b3⟩
       exact ⟨sg,.inr ⟨_,_,_,_,_,_,rfl,ms,b1,b2,b3⟩⟩
     case post2=>
       rintro c st'' ⟨sg,hc⟩
       rcases hc with ⟨r,t,rfl,rs⟩ | ⟨out,ia,ib,g,ac,bc,rfl,ms,b1,b2,b3⟩
       · exact wpS_pure ⟨sg,_,_,rfl,rs⟩
       · dsimp only
         rw [fP]
         exact wpS_bind (wpS_modify (wpS_pure ⟨sg.gal _,_,_,_,_,rfl,ms,b1,b2,by omega⟩))
     case step2=>
       rintro y c st'' _ hy ⟨sg,out,ia,ib,g,ac,bc,rfl,ms,b1,b2,b3⟩
       dsimp only
       by_cases cg:g > 1
       case' pos=>rw [if_pos cg]
       case' neg=>rw [if_neg cg]
       all_goals
         rw [fP]
         refine wpS_bind (wpS_modify ?_)
         obtain ⟨q,eq,eq',mq⟩:=elA b b2
         refine wpS_bind (aT eq ?_)
         refine wpS_bind (bW hL (hb q mq) (λi hi=>?harr) (by omega) (sg.1.trans hk) λk fk=>?_)
         case harr=>
           obtain ⟨p,ep,ep',mp⟩:=elA a (i:=ia + i) (by omega)
           exact ⟨p,ep,ha p mp⟩
         have k1:=fk
         have ms1:MS a.toList b.toList (out++a.extract ia (ia + k)).toList (ia + k) ib:=by
           rw [F3,xt1]
           exact ms.oV k
         clear fk
         dsimp only
         have b3':x + 2<=ia + k + ib:=by omega
         by_cases ck:k > 0
         case' pos=>
           rw [if_pos ck]
           by_cases c3:ia + k + 1=a.size
           case pos=>
             rw [if_pos (by simpa using c3)]
             exact wpS_pure ⟨sg.gal _,.inl ⟨_,_,rfl,by rw [toL]; exact ms1.sS⟩⟩
           rw [if_neg (by simpa using c3)]
           by_cases c4:ia + k=a.size
           case pos=>
             rw [if_pos (by simpa using c4)]
             exact wpS_pure ⟨sg.gal _,.inl ⟨_,_,rfl,by rw [toL]; exact ms1.done⟩⟩
           rw [if_neg (by simpa using c4)]
           have b1':ia + k + 1 < a.size:=by omega
           clear ms b1 b3 c3 c4 ck k1
           generalize out++a.extract ia (ia + k)=out1 at ms1 ⊢
           generalize ia + k=ia1 at ms1 b3' b1' ⊢
         case' neg=>
           rw [if_neg ck]
           have k0:k=0:=by omega
           subst k0
           have b1':ia + 0 + 1 < a.size:=by omega
           have ms1:MS a.toList b.toList out.toList (ia + 0) ib:=ms
           clear ms b1 b3 ck k1
           simp only [He] at ms1 b3' b1'
           generalize out=out1 at ms1 ⊢
           generalize ia=ia1 at ms1 b3' b1' ⊢
         all_goals
           refine wpS_bind (aT eq ?_)
           have ms2:MS a.toList b.toList (out1.push q).toList ia1 (ib + 1):=by
             rw [Gf]
             exact ms1.ou eq'
           by_cases c5:ib + 1=b.size
           case pos=>
             rw [if_pos (by simpa using c5)]
             exact wpS_pure ⟨sg.gal _,.inl ⟨_,_,rfl,by rw [toL]; exact ms2.done⟩⟩
           rw [if_neg (by simpa using c5)]
           obtain ⟨p,ep,ep',mp⟩:=elA a (i:=ia1) (by omega)
           refine wpS_bind (aT ep ?_)
           refine wpS_bind (bW hL (ha p mp) (λi hi=>?harr2) (by omega) (sg.1.trans hk) λk2 fk2=>?_)
           case harr2=>
             obtain ⟨p2,ep,ep',mp⟩:=elA b (i:=ib + 1 + i) (by omega)
             exact ⟨p2,ep,hb p2 mp⟩
           have k2l:=fk2
           have ms3:MS a.toList b.toList (out1.push q++b.extract (ib + 1) (ib + 1 + k2)).toList ia1 (ib + 1 + k2):=by
             rw [F3,xt1]
             exact ms2.oy k2
           clear fk2
           have b4:x + 2<=ia1 + (ib + 1 + k2):=by omega
           dsimp only
           by_cases ck2:k2 > 0
           case' pos=>
             rw [if_pos ck2]
             by_cases c6:ib + 1 + k2=b.size
             case pos=>
               rw [if_pos (by simpa using c6)]
               exact wpS_pure ⟨sg.gal _,.inl ⟨_,_,rfl,by rw [toL]; exact ms3.done⟩⟩
             rw [if_neg (by simpa using c6)]
             have b2':ib + 1 + k2 < b.size:=by omega
             clear ms2 ck2 c6 c5 k2l
             generalize out1.push q++b.extract (ib + 1) (ib + 1 + k2)=out2 at ms3 ⊢
             generalize ib + 1 + k2=ib2 at ms3 b2' b4 ⊢
           case' neg=>
             rw [if_neg ck2]
             have k0:k2=0:=by omega
             subst k0
             have b2':ib + 1 + 0 < b.size:=by omega
             have ms3:MS a.toList b.toList (out1.push q).toList ia1 (ib + 1 + 0):=ms2
             clear ms2 ck2 c5 k2l
             simp only [He] at ms3 b2' b4
             generalize out1.push q=out2 at ms3 ⊢
             generalize ib + 1=ib2 at ms3 b2' b4 ⊢
           all_goals
             refine wpS_bind (aT ep ?_)
             have ms5:MS a.toList b.toList (out2.push p).toList (ia1 + 1) ib2:=by
               rw [Gf]
               exact ms3.pU ep'
             by_cases c7:ia1 + 1 + 1=a.size
             case pos=>
               rw [if_pos (by simpa using c7)]
               exact wpS_pure ⟨sg.gal _,.inl ⟨_,_,rfl,by rw [toL]; exact ms5.sS⟩⟩
             rw [if_neg (by simpa using c7)]
             split
             · exact wpS_pure ⟨sg.gal _,.inr ⟨_,_,_,_,_,_,rfl,ms5,by omega,by omega,by omega⟩⟩
             · exact wpS_pure ⟨sg.gal _,_,_,_,_,_,_,rfl,ms5,by omega,by omega,by omega⟩
end
theorem pG (a b:Array Keyed):jX a b=(do
 rule "list.sort.merge-hi"
 let total:=a.size + b.size
 let done (out:Array Keyed) (na nb:Nat):=a.extract 0 na++b.extract 0 nb++out.reverse
 let firstOfB (out:Array Keyed) (na nb:Nat):=b.extract 0 nb++a.extract 0 na++out.reverse
 let mut na:=a.size - 1
 let mut nb:=b.size
 let mut out:Array Keyed:=#[<- elem' a na]
 if na == 0 then return done out na nb
 if nb == 1 then return firstOfB out na nb
 let mut minGallop:=gallopOf (<- get)
 for _ in [0:total] do
   let mut acount:=0
   let mut bcount:=0
   for _ in [0:total] do
     let some aWins <- lt' (<- elem' b (nb - 1)) (<- elem' a (na - 1)) | return done out na nb
     if aWins then
       na:=na - 1; out:=out.push (<- elem' a na); acount:=acount + 1; bcount:=0
       if na == 0 then return done out na nb
       if acount ≥ minGallop then break
     else
       nb:=nb - 1; out:=out.push (<- elem' b nb); bcount:=bcount + 1; acount:=0
       if nb == 1 then return firstOfB out na nb
       if bcount ≥ minGallop then break
   rule "list.sort.gallop"
   minGallop:=minGallop + 1
   for _ in [0:total] do
     if minGallop > 1 then minGallop:=minGallop - 1
     jH minGallop
     let some at_ <- cX false (<- elem' b (nb - 1)) a 0 na (na - 1) | return done out na nb
     let k:=na - at_
     acount:=k
     if k > 0 then
       out:=out++(a.extract at_ na).reverse; na:=at_
       if na == 0 then return done out na nb
     nb:=nb - 1; out:=out.push (<- elem' b nb)
     if nb == 1 then return firstOfB out na nb
     let some at_ <- cX true (<- elem' a (na - 1)) b 0 nb (nb - 1) | return done out na nb
     let k:=nb - at_
     bcount:=k
     if k > 0 then
       out:=out++(b.extract at_ nb).reverse; nb:=at_
       if nb == 1 then return firstOfB out na nb
       if nb == 0 then return done out na nb
     na:=na - 1; out:=out.push (<- elem' a na)
     if na == 0 then return done out na nb
     if acount < 7 && bcount < 7 then break
   minGallop:=minGallop + 1
   jH minGallop
 unsupported "internal:list.sort.merge-bound"):=rfl
theorem yt1 (a:Array Keyed) (i n:Nat):(a.extract i n).toList=(a.toList.take n).drop i:=by
 rw [IB,HD,JQ]
theorem toH (a b o:Array Keyed) (i j:Nat):(a.extract 0 i++b.extract 0 j++o.reverse).toList=a.toList.take i++b.toList.take j++o.toList.reverse:=by
 rw [F3,F3,yt1,yt1,GJ,GJ,Array.toList_reverse]
theorem rv1 (o:Array Keyed) (p:Keyed):(o.push p).toList.reverse=p :: o.toList.reverse:=by
 rw [Gf,List.reverse_append]; rfl
theorem rv2 (o a:Array Keyed) (i n:Nat):(o++(a.extract i n).reverse).toList.reverse=(a.toList.take n).drop i++o.toList.reverse:=by
 rw [F3,List.reverse_append,Array.toList_reverse,List.reverse_reverse,yt1]
noncomputable def MH (a b o:List Keyed) (na nb:Nat):Prop:=(a.take na++b.take nb++o).Perm (a++b)
section
variable {a b o:List Keyed} {na nb:Nat}
theorem td (l:List Keyed) (n k:Nat) (h:k<=n):l.take k++(l.take n).drop k=l.take n:=by
 have:=Fw k (l.take n)
 rwa [List.take_take,Ht h] at this
theorem MH.oV (h:MH a b o na nb) (k:Nat) (hk:k<=na):MH a b ((a.take na).drop k++o) k nb:=by
 have e:=td a na k hk
 refine Hf ?_ h
 have:=Gr (a.take k) (Hm (b.take nb) ((a.take na).drop k) o)
 rw [<- EX,<- EX,<- EX,e] at this
 simpa only [EX] using this
theorem MH.oy (h:MH a b o na nb) (k:Nat) (hk:k<=nb):MH a b ((b.take nb).drop k++o) na k:=by
 have e:=td b nb k hk
 refine Hf ?_ h
 rw [EX,<- EX (b.take k),e,EX]
theorem vW {l:List Keyed} {n:Nat} {p:Keyed} (hn:1<=n) (h:l[n - 1]?=some p):(l.take n).drop (n - 1)=[p]:=by
 rw [JQ,show n - (n - 1)=1 by omega]
 exact take1 h
theorem MH.pU (h:MH a b o na nb) (hn:1<=na) {p:Keyed} (hp:a[na - 1]?=some p):MH a b (p :: o) (na - 1) nb:=by
 have:=h.oV (na - 1) (by omega)
 rwa [vW hn hp] at this
theorem MH.ou (h:MH a b o na nb) (hn:1<=nb) {p:Keyed} (hp:b[nb - 1]?=some p):MH a b (p :: o) na (nb - 1):=by
 have:=h.oy (nb - 1) (by omega)
 rwa [vW hn hp] at this
theorem MH.mO (h:MH a b o na nb):(b.take nb++a.take na++o).Perm (a++b):=Hf (Jz o Ik) h
end
section
variable {prog:Program} {w:World} {A:Around} {E:Value->Shared->Prop} {s:Shared} {a₀:Array Keyed}
set_option maxHeartbeats 4000000 in
theorem n8 (hL:iD prog w A s a₀) {a b:Array Keyed} {st:SortSt} {Q:Array Keyed->SortSt->Prop} (ha:∀ p ∈ a.toList,p ∈ a₀.toList) (hb:∀ p ∈ b.toList,p ∈ a₀.toList) (h1:1<=a.size) (h2:1<=b.size) (hk:kindOf st=oneType')
   (h:∀ r st',Sg st st'->r.toList.Perm (a.toList++b.toList)->Q r st'):wpS (model prog w) A E s (jX a b) Q st:=by
 have la:a.toList.length=a.size:=E3
 have lb:b.toList.length=b.size:=E3
 rw [pG]
 refine wpS_bind (wpS_lift (wpAny_rule ⟨rfl,?_⟩))
 obtain ⟨p0,e0,e0',m0⟩:=elA a (i:=a.size - 1) (by omega)
 refine wpS_bind (aT e0 ?_)
 have M0:MH a.toList b.toList (#[p0]:Array Keyed).toList.reverse (a.size - 1) b.size:=by
   have d0:a.toList.take (a.size - 1)++[p0]=a.toList:=by
     have e:=td a.toList a.size (a.size - 1) (by omega)
     rw [vW h1 e0',ED (i:=a.size) (by omega)] at e
     exact e
   show (a.toList.take (a.size - 1)++b.toList.take b.size++[p0]).Perm _
   rw [ED (i:=b.size) (by omega)]
   have:=Gr (a.toList.take (a.size - 1)) (Ik (l₁:=b.toList) (l₂:=[p0]))
   rw [<- EX,<- EX,d0] at this
   exact this
 dsimp only
 by_cases c1:a.size - 1=0
 · rw [if_pos (by simpa using c1)]
   refine wpS_pure (h _ _ (Sg.refl _) ?_)
   rw [toH]
   exact M0
 rw [if_neg (by simpa using c1)]
 by_cases c2:b.size=1
 · rw [if_pos (by simpa using c2)]
   refine wpS_pure (h _ _ (Sg.refl _) ?_)
   rw [toH]
   exact M0.mO
 rw [if_neg (by simpa using c2)]
 refine wpS_bind (wpS_get ?_)
 refine wpS_bind (wpS_mono (wpS_forRange (I:=λx c st'=>Sg st st'/\∃ na nb out g,c=(none,na,nb,out,g)/\MH a.toList b.toList out.toList.reverse na nb/\1<=na/\na<=a.size/\2<=nb/\nb<=b.size/\x + 1 + na + nb<=a.size + b.size) (Q:=λc st'=>Sg st st'/\∃ r t,c=(some r,t)/\r.toList.Perm (a.toList++b.toList)) ?step ?fin ⟨Sg.refl _,_,_,_,_,rfl,M0,by omega,by omega,by omega,by omega,by omega⟩) ?post)
 case fin=>
   rintro c st' ⟨sg,na,nb,out,g,rfl,ms,b1,b1',b2,b2',b3⟩
   omega
 case post=>
   rintro c st' ⟨sg,r,t,rfl,rs⟩
   exact wpS_pure (h r st' sg rs)
 case step=>
   rintro x c st' _ hx ⟨sg,na,nb,out,g,rfl,ms,b1,b1',b2,b2',b3⟩
   dsimp only
   refine wpS_bind (wpS_mono (wpS_forRange (I:=λy c st''=>st'=st''/\∃ na nb out ac bc,c=(none,na,nb,out,ac,bc)/\MH a.toList b.toList out.toList.reverse na nb/\1<=na/\na<=a.size/\2<=nb/\nb<=b.size/\x + 1 + y + na + nb<=a.size + b.size) (Q:=λc st''=>st'=st''/\((∃ r t,c=(some r,t)/\r.toList.Perm (a.toList++b.toList))\/∃ na nb out ac bc,c=(none,na,nb,out,ac,bc)/\MH a.toList b.toList out.toList.reverse na nb/\1<=na/\na<=a.size/\2<=nb/\nb<=b.size/\x + 2 + na + nb<=a.size + b.size)) ?step1 ?fin1 ⟨rfl,_,_,_,_,_,rfl,ms,b1,b1',b2,b2',by omega⟩) ?post1)
   case fin1=>
     rintro c st'' ⟨rfl,na,nb,out,ac,bc,rfl,ms,b1,b1',b2,b2',b3⟩
     omega
   case step1=>
     rintro y c st'' _ hy ⟨rfl,na,nb,out,ac,bc,rfl,ms,b1,b1',b2,b2',b3⟩
     dsimp only
     obtain ⟨q,eq,eq',mq⟩:=elA b (i:=nb - 1) (by omega)
     obtain ⟨p,ep,ep',mp⟩:=elA a (i:=na - 1) (by omega)
     refine wpS_bind (aT eq (wpS_bind (aT ep ?_)))
     refine wpS_bind (jy hL (hb q mq) (ha p mp) (sg.1.trans hk) λe=>?_)
     dsimp only
     cases e with
     | true=>
       rw [if_pos rfl]
       refine wpS_bind (aT ep ?_)
       have ms':MH a.toList b.toList (out.push p).toList.reverse (na - 1) nb:=by
         rw [rv1]
         exact ms.pU b1 ep'
       by_cases c3:na - 1=0
       · rw [if_pos (by simpa using c3)]
         refine wpS_pure ⟨rfl,.inl ⟨_,_,rfl,?_⟩⟩
         rw [toH]
         exact ms'
       rw [if_neg (by simpa using c3)]
       split
       · exact wpS_pure ⟨rfl,.inr ⟨_,_,_,_,_,rfl,ms',by omega,by omega,by omega,by omega,by omega⟩⟩
       · exact wpS_pure ⟨rfl,_,_,_,_,_,rfl,ms',by omega,by omega,by omega,by omega,by omega⟩
     | false=>
       rw [if_neg (by decide)]
       refine wpS_bind (aT eq ?_)
       have ms':MH a.toList b.toList (out.push q).toList.reverse na (nb - 1):=by
         rw [rv1]
         exact ms.ou (by omega) eq'
       by_cases c3:nb - 1=1
       · rw [if_pos (by simpa using c3)]
         refine wpS_pure ⟨rfl,.inl ⟨_,_,rfl,?_⟩⟩
         rw [toH]
         exact ms'.mO
       rw [if_neg (by simpa using c3)]
       split
       · exact wpS_pure ⟨rfl,.inr ⟨_,_,_,_,_,rfl,ms',by omega,by omega,by omega,by omega,by omega⟩⟩
       · exact wpS_pure ⟨rfl,_,_,_,_,_,rfl,ms',by omega,by omega,by omega,by omega,by omega⟩
   case post1=>
     rintro c st'' ⟨rfl,hc⟩
     rcases hc with ⟨r,t,rfl,rs⟩ | ⟨na,nb,out,ac,bc,rfl,ms,b1,b1',b2,b2',b3⟩
     · exact wpS_pure ⟨sg,_,_,rfl,rs⟩
     dsimp only
     refine wpS_bind (wpS_lift (wpAny_rule ⟨rfl,?_⟩))
     refine wpS_bind (wpS_mono (wpS_forRange (I:=λy c st''=>Sg st st''/\∃ na nb out g ac bc,c=(none,na,nb,out,g,ac,bc)/\MH a.toList b.toList out.toList.reverse na nb/\1<=na/\na<=a.size/\2<=nb/\nb<=b.size/\x + 2 + na + nb<=a.size + b.size) (Q:=λc st''=>Sg st st''/\((∃ r t,c=(some r,t)/\r.toList.Perm (a.toList++b.toList))\/∃ na nb out g ac bc,c=(none,na,nb,out,g,ac,bc)/\MH a.toList b.toList out.toList.reverse na nb/\1<=na/\na<=a.size/\2<=nb/\nb<=b.size/\x + 2 + na + nb<=a.size + b.size)) ?step2 ?fin2 ⟨sg,_,_,_,_,_,_,rfl,ms,b1,b1',b2,b2',by omega⟩) ?post2)
     case fin2=>
       rintro c st'' ⟨sg,na,nb,out,g,ac,bc,rfl,ms,b1,b1',b2,b2',b3⟩
       exact ⟨sg,.inr ⟨_,_,_,_,_,_,rfl,ms,b1,b1',b2,b2',b3⟩⟩
     case post2=>
       rintro c st'' ⟨sg,hc⟩
       rcases hc with ⟨r,t,rfl,rs⟩ | ⟨na,nb,out,g,ac,bc,rfl,ms,b1,b1',b2,b2',b3⟩
       · exact wpS_pure ⟨sg,_,_,rfl,rs⟩
       · dsimp only
         rw [fP]
         exact wpS_bind (wpS_modify (wpS_pure ⟨sg.gal _,_,_,_,_,rfl,ms,b1,b1',b2,b2',by omega⟩))
     case step2=>
       rintro y c st'' _ hy ⟨sg,na,nb,out,g,ac,bc,rfl,ms,b1,b1',b2,b2',b3⟩
       dsimp only
       by_cases cg:g > 1
       case' pos=>rw [if_pos cg]
       case' neg=>rw [if_neg cg]
       all_goals
         rw [fP]
         refine wpS_bind (wpS_modify ?_)
         obtain ⟨q,eq,eq',mq⟩:=elA b (i:=nb - 1) (by omega)
         refine wpS_bind (aT eq ?_)
         refine wpS_bind (bW hL (hb q mq) (λi hi=>?harr) (by omega) (sg.1.trans hk) λk fk=>?_)
         case harr=>
           obtain ⟨p,ep,ep',mp⟩:=elA a (i:=0 + i) (by omega)
           exact ⟨p,ep,ha p mp⟩
         have k1:=fk
         have ms1:MH a.toList b.toList (out++(a.extract k na).reverse).toList.reverse k nb:=by
           rw [rv2]
           exact ms.oV k k1
         clear fk
         dsimp only
         have b3':x + 2 + k + nb<=a.size + b.size:=by omega
         have b1'':k<=a.size:=by omega
         by_cases ck:na - k > 0
         case' pos=>
           rw [if_pos ck]
           by_cases c3:k=0
           case pos=>
             rw [if_pos (by simpa using c3)]
             refine wpS_pure ⟨sg.gal _,.inl ⟨_,_,rfl,?_⟩⟩
             rw [toH]
             exact ms1
           rw [if_neg (by simpa using c3)]
           have b1:1<=k:=by omega
           clear ms b3 c3
           generalize out++(a.extract k na).reverse=out1 at ms1 ⊢
           generalize na - k=ac1
         case' neg=>
           rw [if_neg ck]
           have k0:k=na:=by omega
           subst k0
           have ms1:=ms
           clear ms b3
           generalize out=out1 at ms1 ⊢
           generalize k - k=ac1
         all_goals
           refine wpS_bind (aT eq ?_)
           have ms2:MH a.toList b.toList (out1.push q).toList.reverse k (nb - 1):=by
             rw [rv1]
             exact ms1.ou (by omega) eq'
           by_cases c5:nb - 1=1
           case pos=>
             rw [if_pos (by simpa using c5)]
             refine wpS_pure ⟨sg.gal _,.inl ⟨_,_,rfl,?_⟩⟩
             rw [toH]
             exact ms2.mO
           rw [if_neg (by simpa using c5)]
           obtain ⟨p,ep,ep',mp⟩:=elA a (i:=k - 1) (by omega)
           refine wpS_bind (aT ep ?_)
           refine wpS_bind (bW hL (ha p mp) (λi hi=>?harr2) (by omega) (sg.1.trans hk) λk2 fk2=>?_)
           case harr2=>
             obtain ⟨p2,ep,ep',mp⟩:=elA b (i:=0 + i) (by omega)
             exact ⟨p2,ep,hb p2 mp⟩
           have k2l:=fk2
           have ms3:MH a.toList b.toList (out1.push q++(b.extract k2 (nb - 1)).reverse).toList.reverse k k2:=by
             rw [rv2]
             exact ms2.oy k2 k2l
           clear fk2
           have b4:x + 2 + k + k2<=a.size + b.size:=by omega
           have b5:k2<=b.size:=by omega
           dsimp only
           by_cases ck2:nb - 1 - k2 > 0
           case' pos=>
             rw [if_pos ck2]
             by_cases c6:k2=1
             case pos=>
               rw [if_pos (by simpa using c6)]
               refine wpS_pure ⟨sg.gal _,.inl ⟨_,_,rfl,?_⟩⟩
               rw [toH]
               exact ms3.mO
             rw [if_neg (by simpa using c6)]
             by_cases c7:k2=0
             case pos=>
               rw [if_pos (by simpa using c7)]
               refine wpS_pure ⟨sg.gal _,.inl ⟨_,_,rfl,?_⟩⟩
               rw [toH]
               exact ms3
             rw [if_neg (by simpa using c7)]
             have b6:2<=k2:=by omega
             clear ms2
             generalize out1.push q++(b.extract k2 (nb - 1)).reverse=out2 at ms3 ⊢
             generalize nb - 1 - k2=bc1
           case' neg=>
             rw [if_neg ck2]
             have k0:nb - 1=k2:=by omega
             have b6:2<=k2:=by omega
             rw [k0] at ms2 ⊢
             have ms3:=ms2
             clear ms2
             generalize out1.push q=out2 at ms3 ⊢
             generalize k2 - k2=bc1
           all_goals
             refine wpS_bind (aT ep ?_)
             have ms5:MH a.toList b.toList (out2.push p).toList.reverse (k - 1) k2:=by
               rw [rv1]
               exact ms3.pU (by omega) ep'
             by_cases c8:k - 1=0
             case pos=>
               rw [if_pos (by simpa using c8)]
               refine wpS_pure ⟨sg.gal _,.inl ⟨_,_,rfl,?_⟩⟩
               rw [toH]
               exact ms5
             rw [if_neg (by simpa using c8)]
             split
             · exact wpS_pure ⟨sg.gal _,.inr ⟨_,_,_,_,_,_,rfl,ms5,by omega,by omega,by omega,by omega,by omega⟩⟩
             · exact wpS_pure ⟨sg.gal _,_,_,_,_,_,_,rfl,ms5,by omega,by omega,by omega,by omega,by omega⟩
end
structure Ba (a₀:Array Keyed) (st:SortSt):Prop where
 perm:(arrOf st).Perm a₀
 failed:failedOf st=none
 kind:kindOf st=oneType'
theorem Ba.size {a₀:Array Keyed} {st:SortSt} (h:Ba a₀ st):(arrOf st).size=a₀.size:=h.perm.size_eq
theorem Ba.mem {a₀:Array Keyed} {st:SortSt} (h:Ba a₀ st):∀ p ∈ (arrOf st).toList,p ∈ a₀.toList:=λp hp=>(Hv.mp h.perm).mem_iff.mp hp
noncomputable def Rl (a₀:Array Keyed) (st st':SortSt):Prop:=Ba a₀ st'/\pendingOf st'=pendingOf st
theorem Rl.arr {a₀:Array Keyed} {st st':SortSt} (h:Rl a₀ st st') {xs:Array Keyed} (hp:xs.Perm (arrOf st')):Rl a₀ st (setArr st' xs):=⟨⟨hp.trans h.1.perm,h.1.failed,h.1.kind⟩,h.2⟩
section
variable {prog:Program} {w:World} {A:Around} {E:Value->Shared->Prop} {s:Shared} {a₀:Array Keyed}
theorem fN (hL:iD prog w A s a₀) {st:SortSt} {i j:Nat} {Q:Option Bool->SortSt->Prop} (hB:Ba a₀ st) (hi:i < a₀.size) (hj:j < a₀.size) (h:∀ b,Q (some b) st):wpS (model prog w) A E s (ltAt' i j) Q st:=by
 rw [ltAt'_eq]
 refine wpS_bind (wpS_get ?_)
 show wpS _ _ _ _ (do let x <- elem' (arrOf st) i; let y <- elem' (arrOf st) j; lt' x y) Q st
 obtain ⟨p,ep,_,mp⟩:=elA (arrOf st) (i:=i) (by rw [hB.size]; exact hi)
 obtain ⟨q,eq,_,mq⟩:=elA (arrOf st) (i:=j) (by rw [hB.size]; exact hj)
 exact wpS_bind (aT ep (wpS_bind (aT eq (jy hL (hB.mem p mp) (hB.mem q mq) hB.kind h))))
set_option maxHeartbeats 2000000 in
theorem tX (hL:iD prog w A s a₀) {st:SortSt} {lo nrem:Nat} {Q:Option Nat->SortSt->Prop} (hB:Ba a₀ st) (hlo:lo + nrem<=a₀.size) (h1:1<=nrem)
   (h:∀ m st',Rl a₀ st st'->1<=m->m<=nrem->Q (some m) st'):wpS (model prog w) A E s (countRun' lo nrem) Q st:=by
 rw [countRun'_eq]
 refine wpS_bind (wpS_mono (wpS_forRange (I:=λx c st'=>st=st'/\c=(none,x)) (Q:=λc st'=>st=st'/\∃ n,c=(none,n)/\1<=n/\n<=nrem) ?step ?fin ⟨rfl,rfl⟩) ?post)
 case fin=>
   rintro c st' ⟨rfl,rfl⟩
   exact ⟨rfl,_,rfl,by omega,by omega⟩
 case step=>
   rintro x c st' hax hxn ⟨rfl,rfl⟩
   refine wpS_bind (fN hL hB (by show lo + x < _; omega) (by show lo + x - 1 < _; omega) λe=>?_)
   cases e with
   | true=>exact wpS_pure ⟨rfl,x,rfl,hax,by omega⟩
   | false=>exact wpS_pure ⟨rfl,rfl⟩
 case post=>
   rintro c st' ⟨rfl,n,rfl,n1,n2⟩
   dsimp only
   have hR0:Rl a₀ st st:=⟨hB,rfl⟩
   by_cases hnn:n=nrem
   · rw [if_pos (by simpa using hnn)]
     exact wpS_pure (h n st hR0 n1 n2)
   rw [if_neg (by simpa using hnn)]
   by_cases hgt:n > 1
   case' pos=>
     rw [if_pos hgt]
     refine wpS_bind (fN hL hB (by omega) (by omega) λe=>?_)
     by_cases he:e=true
     case pos=>
       subst he
       exact wpS_pure (h n st hR0 n1 n2)
     simp only [he,FD,if_false]
     refine wpS_bind (wpS_reverse ?_)
     have hR:=hR0.arr (mirror_perm (arrOf st) lo (lo + n) ((lo + n - lo) / 2))
     generalize setArr st (mirror (arrOf st) lo (lo + n) ((lo + n - lo) / 2))=st1 at hR ⊢
   case' neg=>
     rw [if_neg hgt]
     obtain ⟨st1,hst,hR⟩:∃ st1,st1=st/\Rl a₀ st st1:=⟨st,rfl,hR0⟩
     refine (congrArg (λz=>wpS (model prog w) A E s _ Q z) hst).mp ?_
   all_goals
     refine wpS_bind (wpS_lift (wpAny_rule ⟨rfl,?_⟩))
     refine wpS_bind (wpS_mono (wpS_forRange (I:=λx c st'=>∃ neq,c=(none,x,neq)/\Rl a₀ st st') (Q:=λc st'=>∃ x neq,c=(none,x,neq)/\n + 1<=x/\x<=nrem/\Rl a₀ st st') ?step2 ?fin2 ⟨0,rfl,hR⟩) ?post2)
     case fin2=>
       rintro c st' ⟨neq,rfl,hR'⟩
       exact ⟨_,neq,rfl,by omega,by omega,hR'⟩
     case step2=>
       rintro x c st' hax hxn ⟨neq,rfl,hR'⟩
       refine wpS_bind (fN hL hR'.1 (by show lo + x < _; omega) (by show lo + x - 1 < _; omega) λe=>?_)
       cases e with
       | true=>
         dsimp only
         rw [if_pos rfl]
         by_cases hneq:neq > 0
         · rw [if_pos hneq]
           exact wpS_bind (wpS_reverse (wpS_pure ⟨0,rfl,hR'.arr (mirror_perm ..)⟩))
         · rw [if_neg hneq]
           exact wpS_pure ⟨0,rfl,hR'⟩
       | false=>
         refine wpS_bind (fN hL hR'.1 (by show lo + x - 1 < _; omega) (by show lo + x < _; omega) λe=>?_)
         cases e with
         | true=>exact wpS_pure ⟨x,neq,rfl,hax,by omega,hR'⟩
         | false=>exact wpS_pure ⟨neq + 1,rfl,hR'⟩
     case post2=>
       rintro c st' ⟨m,neq,rfl,m1,m2,hR'⟩
       dsimp only
       by_cases hneq:neq > 0
       case' pos=>
         rw [if_pos hneq]
         refine wpS_bind (wpS_reverse ?_)
         have hR2:=hR'.arr (mirror_perm (arrOf st') (lo + m - (neq + 1)) (lo + m) ((lo + m - (lo + m - (neq + 1))) / 2))
         generalize setArr st' (mirror (arrOf st') (lo + m - (neq + 1)) (lo + m) ((lo + m - (lo + m - (neq + 1))) / 2))=st2 at hR2 ⊢
       case' neg=>
         rw [if_neg hneq]
         have hR2:=hR'
         generalize st'=st2 at hR2 ⊢
       all_goals
         refine wpS_bind (wpS_reverse ?_)
         have hR3:=hR2.arr (mirror_perm (arrOf st2) lo (lo + m) ((lo + m - lo) / 2))
         generalize setArr st2 (mirror (arrOf st2) lo (lo + m) ((lo + m - lo) / 2))=st3 at hR3 ⊢
         refine wpS_bind (wpS_mono (wpS_forRange (I:=λx c st'=>st3=st'/\c=(none,x)) (Q:=λc st'=>st3=st'/\∃ n,c=(none,n)/\1<=n/\n<=nrem) ?step3 ?fin3 ⟨rfl,rfl⟩) ?post3)
         case fin3=>
           rintro c st' ⟨rfl,rfl⟩
           exact ⟨rfl,_,rfl,by omega,by omega⟩
         case step3=>
           rintro x c st' hax hxn ⟨rfl,rfl⟩
           refine wpS_bind (fN hL hR3.1 (by show lo + x < _; omega) (by show lo + x - 1 < _; omega) λe=>?_)
           cases e with
           | true=>exact wpS_pure ⟨rfl,x,rfl,by omega,by omega⟩
           | false=>exact wpS_pure ⟨rfl,rfl⟩
         case post3=>
           rintro c st' ⟨rfl,n,rfl,n1,n2⟩
           exact wpS_pure (h n _ hR3 n1 n2)
theorem yi (hL:iD prog w A s a₀) {st:SortSt} {lo n ok:Nat} {Q:Bool->SortSt->Prop} (hB:Ba a₀ st) (hlo:lo + n<=a₀.size)
   (h:∀ st',Rl a₀ st st'->Q true st'):wpS (model prog w) A E s (binarySort' lo n ok) Q st:=by
 rw [binarySort'_eq]
 refine wpS_bind (wpS_mono (wpS_forRange (I:=λx c st'=>c=(none,())/\Rl a₀ st st') (Q:=λc st'=>c=(none,())/\Rl a₀ st st') ?step (λ_ _ z=>z) ⟨rfl,hB,rfl⟩) ?post)
 case post=>
   rintro c st' ⟨rfl,hR⟩
   exact wpS_pure (h st' hR)
 case step=>
   rintro k c st' hk1 hk2 ⟨rfl,hR⟩
   refine wpS_bind (wpS_mono (wpS_forRange (I:=λx c st''=>st'=st''/\∃ l r,c=(none,l,r)/\r<=k) (Q:=λc st''=>st'=st''/\∃ l r,c=(none,l,r)/\r<=k) ?step2 (λ_ _ z=>z) ⟨rfl,0,k,rfl,Ek _⟩) ?post2)
   case step2=>
     rintro x c st'' _ hx ⟨rfl,l,r,rfl,a2⟩
     dsimp only
     by_cases c:l ≥ r
     · rw [if_pos c]
       exact wpS_pure ⟨rfl,l,r,rfl,a2⟩
     rw [if_neg c]
     refine wpS_bind (fN hL hR.1 (by omega) (by omega) λe=>?_)
     cases e with
     | true=>exact wpS_pure ⟨rfl,_,_,rfl,by omega⟩
     | false=>exact wpS_pure ⟨rfl,_,_,rfl,a2⟩
   case post2=>
     rintro c st'' ⟨rfl,l,r,rfl,a2⟩
     dsimp only
     rw [moveDown'_eq]
     exact wpS_bind (wpS_modify (wpS_pure ⟨rfl,hR.arr (bubble_perm ..)⟩))
end
theorem rM (base:Nat):∀ (r:List Keyed) (o:Nat) (xs:Array Keyed),base + o + r.length<=xs.size->((r.zipIdx o).foldl (λ(a:Array Keyed) (x:Keyed × Nat)=>a.setIfInBounds (base + x.2) x.1) xs).toList=xs.toList.take (base + o)++r++xs.toList.drop (base + o + r.length)
 | [],o,xs,h=>by
   show xs.toList=_
   rw [FC,Gg,He,Fw]
 | p :: r,o,xs,h=>by
   rw [ET] at h
   rw [List.zipIdx_cons,Ip,rM base r (o + 1) (xs.setIfInBounds (base + o) p) (by rw [Array.size_setIfInBounds]; omega),JB]
   have hl:base + o < xs.toList.length:=by rw [E3]; omega
   have e1:(xs.toList.set (base + o) p).take (base + (o + 1))=xs.toList.take (base + o)++[p]:=by
     rw [show base + (o + 1)=base + o + 1 by omega,IF,List.take_set_of_le (Ek _),Fc hl]
     rfl
   have e2:(xs.toList.set (base + o) p).drop (base + (o + 1) + r.length)=xs.toList.drop (base + o + (p :: r).length):=by
     rw [List.drop_set_of_lt (by omega),ET]
     congr 1; omega
   rw [e1,e2,EX (xs.toList.take (base + o)) [p] r]
   rfl
theorem oO (i:Nat):mergeAt' i=(do
 let s <- get
 let (some (sa,na,power),some (sb,nb,_)):=((pendingOf s)[i]?,(pendingOf s)[i + 1]?) | unsupported "internal:list.sort.pending"
 set (setPending s (((pendingOf s).setIfInBounds i (sa,na + nb,power)).eraseIdxIfInBounds (i + 1)))
 let some k <- cX false (<- elem' (arrOf s) sb) (arrOf s) sa na 0 | return false
 let (sa,na):=(sa + k,na - k)
 if na == 0 then return true
 let some nb <- cX true (<- elem' (arrOf s) (sa + na - 1)) (arrOf s) sb nb (nb - 1) | return false
 if nb == 0 then return true
 let x:=(arrOf s).extract sa sb
 let y:=(arrOf s).extract sb (sb + nb)
 let merged <- if na<=nb then jE x y else jX x y
 modify λs=>setArr s (merged.toList.zipIdx.foldl (λa (p,j)=>a.setIfInBounds (sa + j) p) (arrOf s))
 return (failedOf (<- get)).isNone):=rfl
section
variable {prog:Program} {w:World} {A:Around} {E:Value->Shared->Prop} {s:Shared} {a₀:Array Keyed}
theorem yB {st st':SortSt} {Q:PUnit->SortSt->Prop} (h:Q ⟨⟩ st'):wpS (model prog w) A E s (set st':StateT SortSt Sem PUnit) Q st:=by
 unfold wpS; rw [StateT.run_set]; exact wpAny_pure ⟨rfl,h⟩
theorem oP (hL:iD prog w A s a₀) {st:SortSt} {i sa na pw nb pw2:Nat} {Q:Bool->SortSt->Prop} (hB:Ba a₀ st) (h1:(pendingOf st)[i]?=some (sa,na,pw)) (h2:(pendingOf st)[i + 1]?=some (sa + na,nb,pw2)) (n1:1<=na) (n2:1<=nb) (hz:sa + na + nb<=a₀.size)
   (h:∀ st',Ba a₀ st'->pendingOf st'=((pendingOf st).setIfInBounds i (sa,na + nb,pw)).eraseIdxIfInBounds (i + 1)->Q true st'):wpS (model prog w) A E s (mergeAt' i) Q st:=by
 rw [oO]
 refine wpS_bind (wpS_get ?_)
 rw [h1,h2]
 refine wpS_bind (yB ?_)
 have hsz:(arrOf st).size=a₀.size:=hB.size
 have at0:∀ j,j < a₀.size->∃ p,(arrOf st)[j]?=some p/\p ∈ a₀.toList:=λj hj=>by
   obtain ⟨p,ep,_,mp⟩:=elA (arrOf st) (i:=j) (by omega)
   exact ⟨p,ep,hB.mem p mp⟩
 obtain ⟨b0,eb,mb⟩:=at0 (sa + na) (by omega)
 refine wpS_bind (aT eb ?_)
 refine wpS_bind (bW hL mb (λj hj=>at0 (sa + j) (by omega)) (by omega) hB.kind λk k1=>?_)
 dsimp only
 by_cases ck:na - k=0
 · rw [if_pos (by simpa using ck)]
   exact wpS_pure (h _ ⟨hB.perm,hB.failed,hB.kind⟩ rfl)
 rw [if_neg (by simpa using ck)]
 obtain ⟨al,el,ml⟩:=at0 (sa + k + (na - k) - 1) (by omega)
 refine wpS_bind (aT el ?_)
 refine wpS_bind (bW hL ml (λj hj=>at0 (sa + na + j) (by omega)) (by omega) hB.kind λm m1=>?_)
 dsimp only
 by_cases cm:m=0
 · rw [if_pos (by simpa using cm)]
   exact wpS_pure (h _ ⟨hB.perm,hB.failed,hB.kind⟩ rfl)
 rw [if_neg (by simpa using cm)]
 have ex:=xt1 (arrOf st) (sa + k) (na - k)
 rw [show sa + k + (na - k)=sa + na by omega] at ex
 have ey:=xt1 (arrOf st) (sa + na) m
 generalize hX:(arrOf st).toList=X at ex ey
 have hln:X.length=a₀.size:=by rw [<- hX,E3,hsz]
 have sx:((arrOf st).extract (sa + k) (sa + na)).size=na - k:=by rw [<- E3,ex,E1,GO]; omega
 have sy:((arrOf st).extract (sa + na) (sa + na + m)).size=m:=by rw [<- E3,ey,E1,GO]; omega
 have mx:∀ p ∈ ((arrOf st).extract (sa + k) (sa + na)).toList,p ∈ a₀.toList:=λp hp=>hB.mem p (by rw [ex] at hp; rw [hX]; exact IC (Ge hp))
 have my:∀ p ∈ ((arrOf st).extract (sa + na) (sa + na + m)).toList,p ∈ a₀.toList:=λp hp=>hB.mem p (by rw [ey] at hp; rw [hX]; exact IC (Ge hp))
 have fin:∀ (r:Array Keyed) (st':SortSt),Sg (setPending st (((pendingOf st).setIfInBounds i (sa,na + nb,pw)).eraseIdxIfInBounds (i + 1))) st'->r.toList.Perm (((arrOf st).extract (sa + k) (sa + na)).toList++((arrOf st).extract (sa + na) (sa + na + m)).toList) ->
     wpS (model prog w) A E s (do
       modify λs=>setArr s (r.toList.zipIdx.foldl (λ(a:Array Keyed) (x:Keyed × Nat)=>a.setIfInBounds (sa + k + x.2) x.1) (arrOf s))
       let z <- get
       pure (failedOf z).isNone) Q st':=by
   intro r st' sg rp
   rw [ex,ey] at rp
   have rl:r.toList.length=na - k + m:=by rw [rp.length_eq,EC,E1,GO,E1,GO]; omega
   refine wpS_bind (wpS_modify (wpS_bind (wpS_get ?_)))
   have ea:arrOf st'=arrOf st:=sg.2.1
   have pt:(r.toList.zipIdx.foldl (λ(a:Array Keyed) (x:Keyed × Nat)=>a.setIfInBounds (sa + k + x.2) x.1) (arrOf st')).toList=X.take (sa + k)++r.toList++X.drop (sa + k + (na - k + m)):=by
     have:=rM (sa + k) r.toList 0 (arrOf st') (by rw [ea,rl]; omega)
     rw [ea,hX,rl,He] at this
     rw [ea]
     exact this
   have hf:failedOf st'=none:=sg.2.2.2.trans hB.failed
   show wpS _ _ _ _ (pure (failedOf st').isNone) Q _
   rw [hf]
   refine wpS_pure (h _ ⟨?_,hf,sg.1.trans hB.kind⟩ sg.2.2.1)
   show (r.toList.zipIdx.foldl _ (arrOf st')).Perm a₀
   refine Array.Perm.trans ?_ hB.perm
   rw [Hv,pt,hX]
   have e:X=X.take (sa + k)++(((X.drop (sa + k)).take (na - k)++(X.drop (sa + na)).take m)++X.drop (sa + k + (na - k + m))):=by
     have e1:(X.drop (sa + k)).take (na - k)++(X.drop (sa + na)).take m=(X.drop (sa + k)).take (na - k + m):=by rw [List.take_add,IG,show sa + k + (na - k)=sa + na by omega]
     have e2:X.drop (sa + k + (na - k + m))=(X.drop (sa + k)).drop (na - k + m):=IG.symm
     rw [e1,e2,Fw,Fw]
   rw [EX]
   conv=>rhs; rw [e]
   exact Gr _ (Jz _ rp)
 by_cases cc:na - k<=m
 · rw [if_pos cc]
   exact wpS_bind (ow hL mx my (by omega) (by omega) hB.kind λr st' sg rs=>fin r st' sg rs)
 · rw [if_neg cc]
   exact wpS_bind (n8 hL mx my (by omega) (by omega) hB.kind λr st' sg rs=>fin r st' sg rs)
noncomputable def Runs:List (Nat × Nat × Nat)->Nat->Nat->Prop
 | [],a,b=>a=b
 | (st,n,_) :: p,a,b=>st=a/\1<=n/\Runs p (a + n) b
theorem Runs.le:∀ {p:List (Nat × Nat × Nat)} {a b:Nat},Runs p a b->a<=b
 | [],_,_,h=>Nat.le_of_eq h
 | (_,n,_) :: p,a,b,h=>by
   have:=Runs.le h.2.2
   omega
theorem Runs.app:∀ {p q:List (Nat × Nat × Nat)} {a b:Nat},Runs (p++q) a b ↔ ∃ c,Runs p a c/\Runs q c b
 | [],q,a,b=>⟨λh=>⟨a,rfl,h⟩,λ⟨c,h1,h2⟩=>by cases h1; exact h2⟩
 | (st,n,_) :: p,q,a,b=>⟨λh=>by
     obtain ⟨c,h1,h2⟩:=Runs.app.mp h.2.2
     exact ⟨c,⟨h.1,h.2.1,h1⟩,h2⟩,λ⟨c,h1,h2⟩=>⟨h1.1,h1.2.1,Runs.app.mpr ⟨c,h1.2.2,h2⟩⟩⟩
theorem Runs.pow:∀ {p:List (Nat × Nat × Nat)} {i pw:Nat} {a b:Nat},Runs p a b->Runs (p.modify i λx=>(x.1,x.2.1,pw)) a b
 | [],i,_,_,_,h=>by cases i <;> exact h
 | (_,n,_) :: p,0,_,a,b,h=>h
 | (_,n,_) :: p,i + 1,_,a,b,h=>⟨h.1,h.2.1,h.2.2.pow⟩
theorem AH {α:Type} {p:List α} {i:Nat} {x y:α} (h1:p[i]?=some x) (h2:p[i + 1]?=some y):∃ p1 p2,p=p1++x :: y :: p2/\p1.length=i/\∀ v,(p.set i v).eraseIdx (i + 1)=p1++v :: p2:=by
 induction p generalizing i with
 | nil=>cases h1
 | cons z p ih=>
   cases i with
   | zero=>
     cases p with
     | nil=>cases h2
     | cons y' p=>
       cases h1
       cases h2
       exact ⟨[],p,rfl,rfl,λv=>rfl⟩
   | succ i=>
     obtain ⟨p1,p2,rfl,e,f⟩:=ih (i:=i) h1 h2
     exact ⟨z :: p1,p2,rfl,by rw [ET,e],λv=>by
       rw [List.set_cons_succ,HS,f]
       rfl⟩
theorem oi (hL:iD prog w A s a₀) {st:SortSt} {i e:Nat} {Q:Bool->SortSt->Prop} (hB:Ba a₀ st) (hR:Runs (pendingOf st).toList 0 e) (hi:i + 1 < (pendingOf st).size) (he:e<=a₀.size)
   (h:∀ st',Ba a₀ st'->Runs (pendingOf st').toList 0 e->Q true st'):wpS (model prog w) A E s (mergeAt' i) Q st:=by
 obtain ⟨⟨sa,na,pw⟩,e1⟩:∃ x,(pendingOf st).toList[i]?=some x:=⟨_,El (by rw [E3]; omega)⟩
 obtain ⟨⟨sb,nb,pw2⟩,e2⟩:∃ x,(pendingOf st).toList[i + 1]?=some x:=⟨_,El (by rw [E3]; omega)⟩
 obtain ⟨p1,p2,ep,el,ef⟩:=AH e1 e2
 rw [G9] at e1 e2
 rw [ep] at hR
 obtain ⟨c,hR1,rfl,n1,rfl,n2,hR2⟩:=Runs.app.mp hR
 have l2:=hR2.le
 refine oP hL hB e1 e2 n1 n2 (by omega) λst' hB' hp=>h st' hB' ?_
 rw [hp,Array.toList_eraseIdxIfInBounds,JB,ef,Runs.app]
 refine ⟨sa,hR1,rfl,by omega,?_⟩
 rw [<- HY]
 exact hR2
set_option maxHeartbeats 4000000 in
theorem wM (hL:iD prog w A s a₀) {st:SortSt} {Q:Unit->SortSt->Prop} (hB:Ba a₀ st) (hp:pendingOf st=#[])
   (h:∀ st',Ba a₀ st'->Q () st'):wpS (model prog w) A E s sortRuns' Q st:=by
 rw [sortRuns'_eq]
 refine wpS_bind (wpS_get ?_)
 dsimp only
 rw [hB.size]
 refine wpS_bind (wpS_mono (wpS_forRange (I:=λx c st'=>∃ lo,c=(none,lo)/\Ba a₀ st'/\Runs (pendingOf st').toList 0 lo/\lo<=a₀.size) (Q:=λc st'=>∃ lo,c=(none,lo)/\Ba a₀ st'/\Runs (pendingOf st').toList 0 lo/\lo<=a₀.size) ?step (λ_ _ z=>z) ⟨0,rfl,hB,by rw [hp]; exact rfl,Fg _⟩) ?post)
 case step=>
   rintro x c st' _ hx ⟨lo,rfl,hB',hR,h1⟩
   dsimp only
   by_cases c1:lo ≥ a₀.size
   · rw [if_pos c1]
     exact wpS_pure ⟨lo,rfl,hB',hR,h1⟩
   rw [if_neg c1]
   refine wpS_bind (tX hL hB' (by omega) (by omega) λm st1 hR1 m1 m2=>?_)
   obtain ⟨hB1,p1⟩:=hR1
   rw [<- p1] at hR
   dsimp only
   by_cases c2:m < minRun' a₀.size a₀.size 0
   case' pos=>
     rw [if_pos c2]
     refine wpS_bind (wpS_lift (wpAny_rule ⟨rfl,?_⟩))
     refine wpS_bind (yi hL hB1 (lo:=lo) (n:=min (a₀.size - lo) (minRun' a₀.size a₀.size 0)) (ok:=m) (by omega) λst2 hR2=>?_)
     obtain ⟨hB2,p2⟩:=hR2
     rw [<- p2] at hR
     have n1:1<=min (a₀.size - lo) (minRun' a₀.size a₀.size 0):=by omega
     have n2:lo + min (a₀.size - lo) (minRun' a₀.size a₀.size 0)<=a₀.size:=by omega
     rw [if_neg (by decide)]
     generalize min (a₀.size - lo) (minRun' a₀.size a₀.size 0)=n at n1 n2 ⊢
   case' neg=>
     rw [if_neg c2]
     have hB2:=hB1
     have n1:=m1
     have n2:lo + m<=a₀.size:=by omega
     generalize m=n at n1 n2 ⊢
     generalize st1=st2 at hR hB2 ⊢
   all_goals
     refine wpS_bind (wpS_get ?_)
     cases eb:(pendingOf st2).back? with
     | none=>
       refine wpS_bind (wpS_modify (wpS_pure ⟨lo + n,rfl,⟨hB2.perm,hB2.failed,hB2.kind⟩,?_,n2⟩))
       show Runs ((pendingOf st2).push (lo,n,0)).toList 0 (lo + n)
       rw [Gf,Runs.app]
       exact ⟨lo,hR,rfl,n1,rfl⟩
     | some z=>
       obtain ⟨s1,k1,z3⟩:=z
       dsimp only
       generalize power' a₀.size (2 * s1 + k1) (2 * s1 + k1 + k1 + n) a₀.size=pw
       refine wpS_bind (wpS_mono (wpS_forRange (I:=λ_ c st'=>c=(none,())/\Ba a₀ st'/\Runs (pendingOf st').toList 0 lo) (Q:=λc st'=>c=(none,())/\Ba a₀ st'/\Runs (pendingOf st').toList 0 lo) ?step2 (λ_ _ z=>z) ⟨rfl,hB2,hR⟩) ?post2)
       case step2=>
         rintro y c st3 _ hy ⟨rfl,hB3,hR3⟩
         refine wpS_bind (wpS_get ?_)
         by_cases c3:(pendingOf st3).size > 1
         · rw [if_pos c3]
           obtain ⟨⟨q1,q2,older⟩,eo⟩:∃ x,(pendingOf st3)[(pendingOf st3).size - 2]?=some x:=⟨_,Hz (by omega)⟩
           rw [eo]
           dsimp only
           by_cases c4:older<=pw
           · rw [if_pos c4]
             exact wpS_pure ⟨rfl,hB3,hR3⟩
           · rw [if_neg c4]
             exact wpS_bind (oi hL hB3 hR3 (by omega) (by omega) λst4 hB4 hR4=>wpS_pure ⟨rfl,hB4,hR4⟩)
         · rw [if_neg c3]
           exact wpS_pure ⟨rfl,hB3,hR3⟩
       case post2=>
         rintro c st3 ⟨rfl,hB3,hR3⟩
         refine wpS_bind (wpS_modify (wpS_bind (wpS_modify (wpS_pure ⟨lo + n,rfl,⟨hB3.perm,hB3.failed,hB3.kind⟩,?_,n2⟩))))
         show Runs (((pendingOf st3).modify ((pendingOf st3).size - 1) λx=>(x.1,x.2.1,pw)).push (lo,n,0)).toList 0 (lo + n)
         rw [Gf,Runs.app,Array.toList_modify]
         exact ⟨lo,hR3.pow,rfl,n1,rfl⟩
 case post=>
   rintro c st' ⟨lo,rfl,hB',hR,hl⟩
   refine wpS_bind (wpS_mono (wpS_forRange (I:=λx c st'=>c=(none,())/\Ba a₀ st'/\Runs (pendingOf st').toList 0 lo) (Q:=λc st'=>c=(none,())/\Ba a₀ st'/\Runs (pendingOf st').toList 0 lo) ?step3 (λ_ _ z=>z) ⟨rfl,hB',hR⟩) ?post3)
   case step3=>
     rintro x c st3 _ hx ⟨rfl,hB3,hR3⟩
     refine wpS_bind (wpS_get ?_)
     by_cases c3:(pendingOf st3).size<=1
     · rw [if_pos c3]
       exact wpS_pure ⟨rfl,hB3,hR3⟩
     rw [if_neg c3]
     generalize hi:(if (Option.any (λx=>decide (x < ((pendingOf st3)[(pendingOf st3).size - 2 + 1]?).elim 0 λx=>x.snd.fst)) (if (pendingOf st3).size - 2 > 0 then Option.map (λx=>x.snd.fst) (pendingOf st3)[(pendingOf st3).size - 2 - 1]? else none))=true then (pendingOf st3).size - 2 - 1 else (pendingOf st3).size - 2)=i
     have hi':i + 1 < (pendingOf st3).size:=by
       rw [<- hi]
       repeat' split
       all_goals omega
     exact wpS_bind (oi hL hB3 hR3 hi' hl λst4 hB4 hR4=>wpS_pure ⟨rfl,hB4,hR4⟩)
   case post3=>
     rintro c st3 ⟨rfl,hB3,hR3⟩
     exact wpS_pure (h st3 hB3)
end
end Sp
namespace Lc
open PySem PySem.Spec PyProof.Rows L2
open PySem.AutoSeq1 (wpAny_loadPart')
open PySem.MeetsSeq PySem.MeetsSeq2 PySem.MeetsSeq3 PySem.SeqRoads2 PySem.SeqAt
open Ev (D Den ax eqD vQ toP cln eE dep fJ)
theorem Bs (l b:Addr) (items items2:Array Value) (n n2:Nat) (dd dd2:Option Addr) (sl sl2:Array (Option Value)) (k:Nat) :
   ∀ i:Nat,min items.size items2.size - i=k->i<=min items.size items2.size->Meets (Builtin.«list.__eq__.loop» ⟨[.ref l,.ref b,rawInt i,rawInt 0],[]⟩)
     (λA R s=>s.heap.get? l=some { cls:=.type "list",dict:=dd,data:=.seq items n,slots:=sl }/\s.heap.get? b=some { cls:=.type "list",dict:=dd2,data:=.seq items2 n2,slots:=sl2 } /\
       (∀ m (z1:m < items.size) (z2:m < items2.size),EqAt A.in1 s items[m] items2[m] true)/\R (.ok (.ret (.bool (decide (items.size < items2.size))))) s):=by
 induction k with
 | zero=>
   intro i hk hij prog w A R s h
   obtain ⟨hp,g,d,tk,os⟩:=s; obtain ⟨hl,hb,he,h⟩:=h
   wp_walk using wpAny_loadPart' hl,wpAny_loadPart' hb
   have hi:i=min items.size items2.size:=by omega
   by_cases c:items.size<=items2.size
   · have hi1:items[((i:Nat):Int).toNat]?=none:=J0 (by rw [Ey]; omega)
     rw [hi1]
     wp_walk using wpAny_loadPart' hl,wpAny_loadPart' hb
     exact h
   · have hi1:items[((i:Nat):Int).toNat]?=some (items[i]'(by omega)):=by simp [show i < items.size by omega]
     have hi2:items2[((i:Nat):Int).toNat]?=none:=J0 (by rw [Ey]; omega)
     rw [hi1,hi2]
     wp_walk using wpAny_loadPart' hl,wpAny_loadPart' hb
     exact h
 | succ k ih=>
   intro i hk hij prog w A R s h
   obtain ⟨hp,g,d,tk,os⟩:=s; obtain ⟨hl,hb,he,h⟩:=h
   wp_walk using wpAny_loadPart' hl,wpAny_loadPart' hb
   have hlt:i < items.size:=by omega
   have hlt2:i < items2.size:=by omega
   have hi1:items[((i:Nat):Int).toNat]?=some items[i]:=by simp [hlt]
   have hi2:items2[((i:Nat):Int).toNat]?=some items2[i]:=by simp [hlt2]
   have hcc:((i:Int) + 1)=((i + 1:Nat):Int):=by push_cast; rfl
   rw [hi1,hi2]
   refine wpAny_bind (he i hlt hlt2 prog w _ _ ?_)
   wp_walk
   rw [hcc]
   exact ⟨plainId_quiet plain_eq_loop _,codeAny_builtin entry_eq_loop (by
     rw [GA plain_eq_loop _]
     exact ih (i + 1) (by omega) (by omega) prog w A R _ ⟨hl,hb,he,h⟩)⟩
theorem vJ (l b:Addr) (items items2:Array Value) (n n2:Nat) (dd dd2:Option Addr) (sl sl2:Array (Option Value)) :
   Meets (Builtin.«list.__lt__» ⟨[.ref l,.ref b],[]⟩)
     (λA R s=>s.heap.get? l=some { cls:=.type "list",dict:=dd,data:=.seq items n,slots:=sl }/\s.heap.get? b=some { cls:=.type "list",dict:=dd2,data:=.seq items2 n2,slots:=sl2 } /\
       (∀ m (z1:m < items.size) (z2:m < items2.size),EqAt A.in1 s items[m] items2[m] true)/\R (.ok (.ret (.bool (decide (items.size < items2.size))))) s):=by
 intro prog w A R s h
 obtain ⟨hp,g,d,tk,os⟩:=s; obtain ⟨hl,hb,he,h⟩:=h
 have f3:=JH
 wp_walk using wpAny_loadPart' hl,wpAny_loadPart' hb
 exact ⟨plainId_quiet plain_eq_loop _,codeAny_builtin entry_eq_loop (by
   rw [GA plain_eq_loop _]
   exact Bs l b items items2 n n2 dd dd2 sl sl2 _ 0 rfl (Fg _) prog w A R _ ⟨hl,hb,he,h⟩)⟩
noncomputable def jO (A:Around) (s:Shared) (l b:Addr) (c:Bool):Prop:=
 ∀ (prog:Program) (w:World) (E:Value->Shared->Prop) (Q:Value->Shared->Prop),Q (.bool c) s->wpAny (model prog w) A (call (.builtin "list.__lt__") [.ref l,.ref b]) Q E s
theorem jO.rc {A:Around} {s:Shared} {l b:Addr} {c:Bool} (h:jO A s l b c) (hl:s.TypeIs (.ref l) "list") (hb:s.TypeIs (.ref b) "list") (hu:A.units < cLine):xA .Lt A s (.ref l) (.ref b) c:=λprog w E Q q=>
 wpAny_richCompare_same_room (op:=.Lt) hl hb IU (h prog w E _ ⟨(λx=>nomatch x),q⟩) hu
theorem jO.one {A:Around} {s:Shared} {l b:Addr} {c:Bool} (h:jO A s l b c) (hl:s.TypeIs (.ref l) "list") (hu:A.units < cLine) {prog:Program} {w:World} {E:Value->Shared->Prop} {Q:Bool->Shared->Prop} (q:Q c s):wpAny (model prog w) A (oneLt' true (.ref l) (.ref b)) Q E s:=by
 rw [oneLt'_eq]
 simp only [if_true]
 refine wpAny_bind (wpAny_cRoomFor hu ?_)
 refine wpAny_bind (wpAny_callSpecialIfBound?_slot hl IU (h prog w _ _ ?_))
 exact wpAny_truthy_bool q
theorem jO.dif {A:Around} {s:Shared} {l b:Addr} {items items2:Array Value} {j:Nat} {c:Bool} (hl:s.heap.IsList l items) (hb:s.heap.IsList b items2) (h1:j < items.size) (h2:j < items2.size)
   (he:∀ m (_:m < j) (z1:m < items.size) (z2:m < items2.size),EqAt A.in1 s items[m] items2[m] true) (hn:EqAt A.in1 s items[j] items2[j] false) (hc:xA .Lt A.in1 s items[j] items2[j] c):jO A s l b c:=λprog w E Q h=>by
 obtain ⟨⟨cls,dd,data,sl⟩,ho,hc1,n,hd⟩:=id hl
 obtain ⟨⟨cls2,dd2,data2,sl2⟩,ho2,hc2,n2,hd2⟩:=id hb
 simp only at hc1 hd hc2 hd2
 subst hc1 hd hc2 hd2
 exact call_meets IU ⟨_,ho,rfl⟩ F.entry_list_lt (F.args_list_lt_2 _ _) (yk l b items items2 n n2 dd dd2 sl sl2 j h1 h2 c) ⟨ho,ho2,he,hn,hc,h⟩
theorem jO.pre {A:Around} {s:Shared} {l b:Addr} {items items2:Array Value} (hl:s.heap.IsList l items) (hb:s.heap.IsList b items2)
   (he:∀ m (z1:m < items.size) (z2:m < items2.size),EqAt A.in1 s items[m] items2[m] true):jO A s l b (decide (items.size < items2.size)):=λprog w E Q h=>by
 obtain ⟨⟨cls,dd,data,sl⟩,ho,hc1,n,hd⟩:=id hl
 obtain ⟨⟨cls2,dd2,data2,sl2⟩,ho2,hc2,n2,hd2⟩:=id hb
 simp only at hc1 hd hc2 hd2
 subst hc1 hd hc2 hd2
 exact call_meets IU ⟨_,ho,rfl⟩ F.entry_list_lt (F.args_list_lt_2 _ _) (vJ l b items items2 n n2 dd dd2 sl sl2) ⟨ho,ho2,he,h⟩
inductive CmR:D->D->Bool->Prop where
 | int {i j:Int}:CmR (.int i) (.int j) (decide (i < j))
 | dif {xs ys:List D} {j:Nat} {x y:D} {c:Bool} (hx:xs[j]?=some x) (hy:ys[j]?=some y) (he:∀ (m:Nat) x y,m < j->xs[m]?=some x->ys[m]?=some y->eqD x y=true) (hn:eqD x y=false) (h:CmR x y c):CmR (.lst xs) (.lst ys) c
 | pre {xs ys:List D} (he:∀ (m:Nat) x y,xs[m]?=some x->ys[m]?=some y->eqD x y=true):CmR (.lst xs) (.lst ys) (decide (xs.length < ys.length))
section
variable {X:Cx} {pins:List (Addr × Obj)} {σ:L2.St} {H G:Hp} {s:Shared}
theorem D9 (I:Inv X pins σ H s) (e:aq G H) {x y:D} {c:Bool} (h:CmR x y c):∀ {A:Around} {v v':V} {u u':Value},Den X.K G v x->RelV v u->Den X.K G v' y->RelV v' u'->cln x=true->cln y=true->A.units + dep x < cLine->A.units + dep y < cLine->xA .Lt A s u u' c/\∀ l b,u=.ref l->u'=.ref b->jO A s l b c:=by
 induction h with
 | int=>
   intro A v v' u u' d r d' r' _ _ _ _
   cases d; cases d'
   obtain ⟨t,rfl⟩:=r
   obtain ⟨t',rfl⟩:=r'
   exact ⟨λprog w E Q q=>(Jx q:wpAny (model prog w) A (compareOp .Lt _ _) Q E s),λ_ _ z=>nomatch z⟩
 | @dif xs ys j x y c hx hy he hn _ ih=>
   intro A v v' u u' d r d' r' c1 c2 u1 u2
   rw [cln] at c1 c2
   rw [dep] at u1 u2
   cases d with
   | lst z q=>
   cases d' with
   | lst z' q'=>
   cases r; cases r'
   obtain ⟨its,rv,pl,_⟩:=I.list (Ev.aI e z)
   obtain ⟨its2,rv2,pl2,_⟩:=I.list (Ev.aI e z')
   obtain ⟨a,b,e1,da,ra⟩:=dZ q rv hx
   obtain ⟨a',b',e1',da',ra'⟩:=dZ q' rv2 hy
   obtain ⟨c3,k3⟩:=eJ c1 hx
   obtain ⟨c4,k4⟩:=eJ c2 hy
   have s1:=(Ew.mp e1).1
   have s2:=(Ew.mp e1').1
   have g1:its.toArray[j]'(by simpa using s1)=b:=by simpa using (Ew.mp e1).2
   have g2:its2.toArray[j]'(by simpa using s2)=b':=by simpa using (Ew.mp e1').2
   have i1:∀ A:Around,A.in1.units=A.units + 1:=λ_=>rfl
   have r1:=(ih (A:=A.in1) da ra da' ra' c3 c4 (by rw [i1]; omega) (by rw [i1]; omega)).1
   have q1:=q.length
   have q2:=q'.length
   have v1:=rv.length
   have v2:=rv2.length
   have eqs:∀ m,m < j->∀ (z1:m < its.toArray.size) (z2:m < its2.toArray.size),EqAt A.in1 s its.toArray[m] its2.toArray[m] true:=λm hm z1 z2=>by
     rw [EA] at z1 z2
     have f1:xs[m]?=some (xs[m]'(by omega)):=El _
     have f2:ys[m]?=some (ys[m]'(by omega)):=El _
     obtain ⟨a,b,e2,da,ra⟩:=dZ q rv f1
     obtain ⟨a',b',e2',da',ra'⟩:=dZ q' rv2 f2
     obtain ⟨c3,k3⟩:=eJ c1 f1
     obtain ⟨c4,k4⟩:=eJ c2 f2
     have g1:its.toArray[m]=b:=by simpa using (Ew.mp e2).2
     have g2:its2.toArray[m]=b':=by simpa using (Ew.mp e2').2
     rw [g1,g2]
     have k1:=kD (A:=A.in1) I e da ra da' ra' c3 c4 (by rw [i1]; omega)
     rwa [he m _ _ hm f1 f2] at k1
   have n1:=kD (A:=A.in1) I e da ra da' ra' c3 c4 (by rw [i1]; omega)
   rw [hn] at n1
   have ll:=jO.dif pl.isList pl2.isList (j:=j) (by simpa using s1) (by simpa using s2) (λm hm z1 z2=>eqs m hm z1 z2) (by rw [g1,g2]; exact n1) (by rw [g1,g2]; exact r1)
   exact ⟨ll.rc pl.isList.typeIs pl2.isList.typeIs (by omega),λl b z1 z2=>by cases z1; cases z2; exact ll⟩
 | @pre xs ys he=>
   intro A v v' u u' d r d' r' c1 c2 u1 u2
   rw [cln] at c1 c2
   rw [dep] at u1 u2
   cases d with
   | lst z q=>
   cases d' with
   | lst z' q'=>
   cases r; cases r'
   obtain ⟨its,rv,pl,_⟩:=I.list (Ev.aI e z)
   obtain ⟨its2,rv2,pl2,_⟩:=I.list (Ev.aI e z')
   have i1:∀ A:Around,A.in1.units=A.units + 1:=λ_=>rfl
   have q1:=q.length
   have q2:=q'.length
   have v1:=rv.length
   have v2:=rv2.length
   have ll:=jO.pre (A:=A) pl.isList pl2.isList λm z1 z2=>by
     rw [EA] at z1 z2
     have f1:xs[m]?=some (xs[m]'(by omega)):=El _
     have f2:ys[m]?=some (ys[m]'(by omega)):=El _
     obtain ⟨a,b,e2,da,ra⟩:=dZ q rv f1
     obtain ⟨a',b',e2',da',ra'⟩:=dZ q' rv2 f2
     obtain ⟨c3,k3⟩:=eJ c1 f1
     obtain ⟨c4,k4⟩:=eJ c2 f2
     have g1:its.toArray[m]'(by simpa using z1)=b:=by simpa using (Ew.mp e2).2
     have g2:its2.toArray[m]'(by simpa using z2)=b':=by simpa using (Ew.mp e2').2
     rw [g1,g2]
     have k1:=kD (A:=A.in1) I e da ra da' ra' c3 c4 (by rw [i1]; omega)
     rwa [he m _ _ f1 f2] at k1
   rw [EA,EA,<- v1,<- v2,q1,q2] at ll
   exact ⟨ll.rc pl.isList.typeIs pl2.isList.typeIs (by omega),λl b z1 z2=>by cases z1; cases z2; exact ll⟩
end
section
variable {α:Type} [DecidableEq α]
noncomputable def ltL (lt:α->α->Bool):List α->List α->Bool
 | [],[]=>false
 | [],_ :: _=>true
 | _ :: _,[]=>false
 | x :: xs,y :: ys=>if x=y then ltL lt xs ys else lt x y
theorem CmR.cons {x y:D} {xs ys:List D} {c:Bool} (e:eqD x y=true) (h:CmR (.lst xs) (.lst ys) c):CmR (.lst (x :: xs)) (.lst (y :: ys)) c:=by
 cases h with
 | @dif _ _ j x' y' _ hx hy he hn h=>
   refine .dif (j:=j + 1) (x:=x') (y:=y') hx hy (λm a b hm ha hb=>?_) hn h
   cases m with
   | zero=>cases ha; cases hb; exact e
   | succ m=>exact he m a b (by omega) ha hb
 | pre he=>
   rw [show decide (xs.length < ys.length)=decide ((x :: xs).length < (y :: ys).length) by simp]
   refine .pre λm a b ha hb=>?_
   cases m with
   | zero=>cases ha; cases hb; exact e
   | succ m=>exact he m a b ha hb
theorem vP {lt:α->α->Bool} {t:α->D} (he:∀ x y,eqD (t x) (t y)=decide (x=y)) (hc:∀ x y,CmR (t x) (t y) (lt x y)):∀ a b:List α,CmR (.lst (a.map t)) (.lst (b.map t)) (ltL lt a b)
 | [],[]=>.pre λm x y hx=>by cases hx
 | [],y :: b=>.pre λm x y hx=>by cases hx
 | x :: a,[]=>.pre λm x y _ hy=>by cases hy
 | x :: a,y :: b=>by
   rw [ltL]
   by_cases e:x=y
   · rw [if_pos e]
     exact CmR.cons (by rw [he,decide_eq_true e]) (vP he hc a b)
   · rw [if_neg e]
     exact .dif (j:=0) rfl rfl (λm _ _ hm=>by omega) (by rw [he,decide_eq_false e]) (hc x y)
theorem Du {t:α->D} (he:∀ x y,eqD (t x) (t y)=decide (x=y)):∀ a b:List α,eqD (.lst (a.map t)) (.lst (b.map t))=decide (a=b):=λa b=>by
 rw [eqD]
 induction a generalizing b with
 | nil=>cases b <;> simp [Ev.jA]
 | cons x a ih=>
   cases b with
   | nil=>simp [Ev.jA]
   | cons y b=>
     rw [Er,Er,Ev.jA,he,ih]
     by_cases e1:x=y
     · by_cases e2:a=b <;> simp [e1,e2]
     · simp [e1]
end
noncomputable def ltI:List Int->List Int->Bool:=ltL λi j=>decide (i < j)
noncomputable def ltF:List (List Int)->List (List Int)->Bool:=ltL ltI
noncomputable def gy (w:List Int):D:=.lst (w.map .int)
noncomputable def di (f:List (List Int)):D:=.lst (f.map gy)
theorem Bv (a b:List Int):eqD (gy a) (gy b)=decide (a=b):=Du (λx y=>by rw [eqD]; (by_cases h:x=y <;> simp [h])) a b
theorem AJ (a b:List Int):CmR (gy a) (gy b) (ltI a b):=vP (λx y=>by rw [eqD]; (by_cases h:x=y <;> simp [h])) (λ_ _=>.int) a b
theorem AZ (a b:List (List Int)):CmR (di a) (di b) (ltF a b):=vP Bv AJ a b
theorem wJ (w:List Int):cln (gy w)=true/\dep (gy w)<=1:=by
 have:eE (w.map .int)=true/\fJ (w.map .int)<=0:=by
   induction w with
   | nil=>simp [eE,fJ]
   | cons n ns ih=>rw [Er,eE,fJ,ih.1]; simp only [cln,dep]; exact ⟨rfl,by omega⟩
 unfold gy
 rw [cln,dep]
 exact ⟨this.1,by omega⟩
theorem wW (f:List (List Int)):cln (di f)=true/\dep (di f)<=2:=by
 have:eE (f.map gy)=true/\fJ (f.map gy)<=1:=by
   induction f with
   | nil=>simp [eE,fJ]
   | cons n ns ih=>rw [Er,eE,fJ,ih.1,(wJ n).1]; exact ⟨rfl,by have:=(wJ n).2; omega⟩
 unfold di
 rw [cln,dep]
 exact ⟨this.1,by omega⟩
end Lc
namespace Sp
open PySem PyProof.Rows
section
variable {prog:Program} {w:World} {A:Around} {E:Value->Shared->Prop} {s:Shared}
theorem bY {M:Model} {β:Type} {f:Value->Sem β} {b:β}:∀ {vs:List Value} {Q:List β->Shared->Prop},(∀ v ∈ vs,∀ Q:β->Shared->Prop,Q b s->wpAny M A (f v) Q E s)->Q (vs.map λ_=>b) s->wpAny M A (vs.mapM f) Q E s
 | [],_,_,h=>by rw [List.mapM_nil]; exact wpAny_pure h
 | v :: vs,_,hv,h=>by
   rw [List.mapM_cons]
   exact wpAny_bind (hv v (Es ..) _ (wpAny_bind (bY (λu hu=>hv u (Ep _ hu)) (wpAny_pure h))))
theorem iN (v:Value):firstOfTuple' v=(do
   if (<- typeOf v) != .type "tuple" then return none
   return (<- GN v)[0]?):=rfl
theorem vT {v₁:Value} {vs:List Value} {Q:SortKind->Shared->Prop} (hT:∀ v ∈ v₁ :: vs,s.TypeIs v "list") (h:Q oneType' s):wpAny (model prog w) A (keyKind' (v₁ :: vs).toArray) Q E s:=by
 rw [keyKind'_eq,HJ]
 refine wpAny_bind ?_
 rw [map_eq_pure_bind]
 refine wpAny_bind (bY (b:=none) (λv hv Q q=>?_) (wpAny_pure ?_))
 · rw [iN]
   refine wpAny_bind (wpAny_typeOf (hT v hv) ?_)
   rw [if_pos (by decide)]
   exact wpAny_pure q
 rw [if_neg (by simp),if_neg (by simp)]
 rw [oneTypeOnly'_eq,HJ]
 refine wpAny_bind (wpAny_bind ?_)
 rw [map_eq_pure_bind]
 refine wpAny_bind (bY (b:=Gd "list") (λv hv Q q=>wpAny_typeOf (hT v hv) q) (wpAny_pure ?_))
 have hall:((List.map (λ_=>Gd "list") (v₁ :: vs)).toArray.all λx=>x == Gd "list")=true:=by
   simp only [List.all_toArray,Gk,E9]
   intro _ _
   rfl
 have h0:(List.map (λ_=>Gd "list") (v₁ :: vs)).toArray[0]?=some (Gd "list"):=by simp
 rw [h0]
 dsimp only
 rw [if_pos hall]
 exact wpAny_pure (wpAny_pure h)
theorem qJ {a:Addr} {vs:List Value} {n:Nat} {P:Fin->Shared->Prop} (ho:s.heap.get? a=some (seqObj "list" vs.toArray n)) (hz:vs.length<=sizeLine)
   (hLt:∀ h':Heap,(∀ b o,b ≠ a->s.heap.get? b=some o->h'.get? b=some o)->iD prog w A { s with heap:=h' } (pairsOf vs)/\∀ v ∈ vs,({ s with heap:=h' }:Shared).TypeIs v "list")
   (h:∀ st':SortSt,(arrOf st').Perm (pairsOf vs)->P (.done (.ret .none)) { s with heap:=sortedHeap s.heap a vs ((arrOf st').map (·.2)) }) :
   wpAny (model prog w) A (Builtin.«list.sort» ⟨[.ref a],[]⟩) P E s:=by
 rw [list_sort_plain]
 have ha:a < s.heap.objs.size:=Ez ho
 have hsz:vs.toArray.size=vs.length:=by simp
 refine wpAny_bind (listItems_at ho rfl ?_)
 refine wpAny_bind (listUpdate_at ho rfl ?_ (hsz:=by omega))
 obtain ⟨e1,ho1⟩:∃ e1,(s.heap.update a (Fm λ_=>#[])).get? a=some (seqObj "list" #[] e1):=⟨_,get?_update_seq ho (λ_=>#[])⟩
 refine wpAny_bind (seqEpoch_at ho1 rfl ?_)
 refine wpAny_bind (wpAny_newTuple ?_ (by simpa using hz))
 refine wpAny_bind (wpAny_newList ?_)
 refine wpAny_holding ?_
 have ho6:(((s.heap.update a (Fm λ_=>#[])).push (seqObj "tuple" vs.toArray 0)).push (seqObj "list" #[] 0)).get? a=some (seqObj "list" #[] e1):=by
   rw [FZ _ _ _ (by rw [size_push',F5]; exact ES (FI ha)),FZ _ _ _ (by rw [F5]; exact ES ha)]
   exact ho1
 show wpAny (model prog w) A _ P E { s with heap:=((s.heap.update a (Fm λ_=>#[])).push (seqObj "tuple" vs.toArray 0)).push (seqObj "list" #[] 0) }
 dsimp only
 have fin:=h
 obtain ⟨hL6,hT6⟩:=hLt (((s.heap.update a (Fm λ_=>#[])).push (seqObj "tuple" vs.toArray 0)).push (seqObj "list" #[] 0)) λb o hb e=>En _ (En _ ((FF _ _ (FE hb)).trans e))
 by_cases h2:vs.toArray.size < 2
 · rw [if_pos h2,if_pos h2]
   refine wpAny_bind (wpAny_pure ?_)
   rw [StateT.run_pure]
   refine wpAny_bind (wpAny_pure ?_)
   dsimp only
   refine wpAny_bind (seqEpoch_at ho6 rfl ?_)
   refine wpAny_bind (listUpdate_at ho6 rfl ?_ (hsz2:=by rw [Array.size_map]; show (pairsOf vs).size<=_; rw [pairsOf_size,sizeLine_eq]; omega))
   simp only [bne_self_eq_false,FD,if_false]
   exact wpAny_pure (fin (IW general' (vs.toArray.zip vs.toArray) #[] 7 none) (Array.Perm.refl _))
 · rw [if_neg h2,if_neg h2]
   obtain ⟨v₁,rest,rfl⟩:∃ v₁ rest,vs=v₁ :: rest:=by
     match vs,hsz,h2 with
     | [],_,h2=>simp at h2
     | v₁ :: rest,_,_=>exact ⟨v₁,rest,rfl⟩
   refine wpAny_bind (vT hT6 ?_)
   refine wpAny_bind (wpAny_mono (wM (a₀:=pairsOf (v₁ :: rest)) hL6 (st:=IW oneType' ((v₁ :: rest).toArray.zip (v₁ :: rest).toArray) #[] 7 none)
     (Q:=λ_ st'=>(arrOf st').Perm (pairsOf (v₁ :: rest))/\failedOf st'=none)
     ⟨Array.Perm.refl _,rfl,rfl⟩ rfl λst' a1=>⟨a1.perm,a1.failed⟩) ?_ λ_ _ e=>e)
   rintro ⟨⟨⟩,st'⟩ s' ⟨rfl,hp,hf⟩
   dsimp only
   refine wpAny_bind (seqEpoch_at ho6 rfl ?_)
   refine wpAny_bind (listUpdate_at ho6 rfl ?_ (hsz2:=by refine EH (Nat.le_of_eq ((Array.size_map ..).trans (hp.size_eq.trans (pairsOf_size _)))) ?_; omega))
   rw [hf]
   simp only [bne_self_eq_false,FD,if_false]
   exact wpAny_pure (fin st' hp)
theorem mB {l:Addr} {vs:List Value} {Q:Value->Shared->Prop} (hl:s.heap.IsList l vs.toArray) (hz:vs.length<=sizeLine)
   (hLt:∀ h':Heap,(∀ b o,s.heap.get? b=some o->h'.get? b=some o)->iD prog w A.in1.in1 { s with heap:=h' } (pairsOf vs)/\∀ v ∈ vs,({ s with heap:=h' }:Shared).TypeIs v "list")
   (h:∀ st':SortSt,(arrOf st').Perm (pairsOf vs)->Q (.ref (s.heap.objs.size + 1)) { s with heap:=sortedAll s.heap vs ((arrOf st').map (·.2)) }) :
   wpAny (model prog w) A (call (.builtin "sorted") [.ref l]) Q E s:=by
 refine JF kind_sorted plain_sorted entry_sorted (args_sorted1 _) ?_
 unfold Builtin.«sorted»
 refine wpAny_bind (m:=checkCount "sorted" 1 1 _) (wpAny_pure ?_)
 refine wpAny_bind (collect_list hl ?_ (hsz:=hz))
 refine wpAny_bind (wpAny_newList ?_ (by simpa using hz))
 have hsz:((s.heap.push (seqObj "list" #[] 0)).update s.heap.objs.size (Fm (·++vs.toArray))).objs.size=s.heap.objs.size + 1:=by
   rw [F5,size_push']
 have hoL:(((s.heap.push (seqObj "list" #[] 0)).update s.heap.objs.size (Fm (·++vs.toArray))).push (seqObj "list" vs.toArray 0)).get? (s.heap.objs.size + 1)=some (seqObj "list" vs.toArray 0):=by
   rw [<- hsz]; exact EK _ rfl
 show wpAny _ _ _ _ _ { s with heap:=((s.heap.push (seqObj "list" #[] 0)).update s.heap.objs.size (Fm (·++vs.toArray))).push (seqObj "list" vs.toArray 0) }
 rw [hsz]
 have keep:∀ b o,s.heap.get? b=some o->(((s.heap.push (seqObj "list" #[] 0)).update s.heap.objs.size (Fm (·++vs.toArray))).push (seqObj "list" vs.toArray 0)).get? b=some o:=λb o e=>
   En _ ((FF _ _ (Iy (Ez e))).trans (En _ e))
 refine wpAny_bind (wpAny_holding (wpAny_call_entry slot_list_sort ⟨_,hoL,rfl⟩ entry_list_sort (qJ hoL hz (λh' hk=>?_) λst' a1=>⟨_,rfl,?_⟩) (args_list_sort _)))
 · exact hLt h' λb o e=>hk b o (ES (FI (Ez e))) (keep b o e)
 · exact wpAny_pure ⟨_,rfl,h st' a1⟩
end
end Sp
namespace Hy
open PySem PySem.Spec PyProof.Rows L2
open Ev (D Den ax aw)
open Lc (di gy)
noncomputable def dN (K:Ej) (C:Bool) (τ:List Sl) (Ψ:Sl->Prop):TE:=λσ H Q=>∃ A H₀ B,Sta K A H₀ τ B σ H/\∀ s,Ψ s->∀ v H' bs,aq H H'->Fr H H' bs->cq K (hd H' λb=>vw C A B b\/b ∈ bs) H' (some v) bs s->Q v H'
noncomputable def spE (K:Ej) (Φ:List D->Sl->Prop):Sp:=λvs H Q _=>∃ A ds,(∀ b,A b->∃ o,H b=some o)/\ax K (hd H A) vs ds/\(∃ s,Φ ds s)/\∀ s,Φ ds s->∀ v H' bs,aq H H'->Fr H H' bs->cq K (hd H' λb=>A b\/b ∈ bs) H' (some v) bs s->Q v H'
noncomputable def qO (P:Program) (w:World) (K:Ej) (mg:Str->Option Value) (base:Heap) (k:Nat) (n:Str) (Φ:List D->Sl->Prop):Prop:=
 ∃ f fd ps,aS P w K mg base CX0 k f fd ps (spE K Φ)/\mg n=some (.ref f)/\FU K (.ref f)=true/\Binds K fd ps []
theorem qO.mono {P:Program} {w:World} {K:Ej} {mg:Str->Option Value} {base:Heap} {j k:Nat} {n:Str} {Φ:List D->Sl->Prop} (c:qO P w K mg base j n Φ) (h:j<=k):qO P w K mg base k n Φ:=
 let ⟨f,fd,ps,F,r⟩:=c; ⟨f,fd,ps,F.mono h,r⟩
section
variable {P:Program} {w:World} {K:Ej} {mg:Str->Option Value} {base:Heap}
theorem fnE {x qual:Str} {st:Stmt} {f:Addr} {fd:FuncData} {N ps:List Str} {k:Nat} {Φ:List D->Sl->Prop} (F:Fun K x qual st f fd) (S:au N ps (ah st)) (hb:∀ x ∈ ao,mg x=none) (len:∀ ds r,Φ ds r->ds.length=ps.length)
   (body:∀ ds r,Φ ds r->∀ cdv A outer s H E,Bk (Xc P w K mg base N qual st f cdv A outer s H E) k->PSs (Xc P w K mg base N qual st f cdv A outer s H E) (bD st) (dS K (uK N ds) { nx:=λ_=>False,rt:=Φ ds })) :
   aS P w K mg base CX0 (k + 1) f fd ps (spE K Φ):=by
 refine F.ok S (λvs H Q E ⟨A,ds,_,d,⟨r,h⟩,_⟩=>d.length.trans (len ds r h)) λcdv A outer s H vs Q E hr ⟨A',ds,ha,d,⟨r,h⟩,q⟩=>⟨_,body ds r h cdv A outer s H E ⟨hr,rfl,hb,Jc⟩,A',H,λ_=>[],⟨aq.refl _,?_,λi s hi=>?_,λ_ _ z=>(nomatch z),λ_ _ _ z=>(nomatch z),ha,λ_ _ z=>(nomatch z)⟩,λτ B σ H' h S=>h.elim,λ_ _ _ _ h=>h.elim,λ_ _ _ _ h=>h.elim,λv H' bs s h e hf z=>q s h v H' bs e hf z,λ_ _=>trivial⟩
 · unfold L2.start uK
   simp [d.length]
 · have hl:=d.length
   unfold uK at hi
   unfold L2.start
   by_cases hlt:i < ds.length
   · rw [EI (by simpa using hlt),E5,El hlt] at hi
     cases hi
     obtain ⟨v,e,dv⟩:=d.get (El hlt)
     refine ⟨rfl,v,?_,dv.mono (aA (aq.refl _) λ_ z=>z.elim id λ⟨_,z⟩=>(nomatch z))⟩
     rw [EI (by simpa [hl] using hlt),E5,e]
     rfl
   · rw [Fi (by simpa using hlt),HR] at hi
     split at hi
     · cases hi; rfl
     · cases hi
theorem Dfn.Ea {x:Str} {st:Stmt} {f:Addr} {ps:List Str} {h:Heap} {k:Nat} {Φ:List D->Sl->Prop} (d:Dfn K x st f) (X:K.In h) (G:h.Ns mainGlobals mg) (b:BdA x st ps) (o:∀ fd,Fun K x x st f fd->aS P w K mg base CX0 k f fd ps (spE K Φ)):qO P w K mg base k x Φ:=by
 obtain ⟨fd,F,h1,h2,h3⟩:=d.fn X G b
 exact ⟨f,fd,ps,o fd F,h1,h2,h3⟩
end
section
variable {X:Cx} {C:Bool} {τ:List Sl} {e:Expr} {es:List Expr} {ds:List D} {p pos:Pos} {k n:Nat} {N:Po} {rest:List Stmt} {Ψ:Sl->Prop}
theorem yv {n:Str} {Φ:List D->Sl->Prop} (B:Bk X k) (c:qO X.prog X.w X.K X.mg X.base k n Φ) (ha:PA X (e :: es) (dA X.K C τ ds)) (h:∃ s,Φ ds s) (hg:Gl X n:=by rfl) (hdb:(n == ("__debug__" : Str))=false:=by decide)
   (he:starEach (e :: es) X.env=(false,eval e X.env) :: starEach es X.env:=by rfl) (hpl:(backTo pos (starEach es X.env)).any (·.1)=false:=by rfl):PE X (.Call (.Name n p) (e :: es) [] pos) (dN X.K C τ (Φ ds)):=by
 obtain ⟨f,fd,ps,F,hm,hk,hb⟩:=c
 refine peW (r6 F B.room hg hm hk hb .nil zO ha hdb he hpl) λσ H Q ⟨A,H₀,B,S,q⟩=>cZ S λvs H1 e1 d1=>?_
 rw [FC]
 exact ⟨vw C A B,ds,(S.mono e1).vd,d1,h,λs hs v H' bs e2 hf h2=>q s hs v H' bs (e1.trans e2) (λb hb=>⟨e1.free (hf b hb).1,(hf b hb).2⟩) h2⟩
theorem AQ (h:PE X e (dN X.K false τ Ψ)) (hr:∀ s,Ψ s->N.rt s):PSs X (.Return (some e) pos :: rest) (dS X.K τ N):=
 bo (M:=λ_=>False) (psW (mY h) λD σ H ⟨A,H₀,B,S,Me⟩=>⟨A,H₀,B,S,λs hs v H' bs e hf q=>Me.rt v H' bs s (hr s hs) (S.same.trans e) (λb hb=>⟨S.same.free (hf b hb).1,(hf b hb).2⟩) q⟩) λ_ e=>e.elim
end
section
variable {X:Cx} {pins:List (Addr × Obj)} {σ:L2.St} {H G:Hp} {s:Shared}
theorem mQ {v:V} {xs:List D} (d:Den X.K G v (.lst xs)):∃ a vs,v=.ref a/\SqL X.K G a vs/\ax X.K G vs xs:=by
 cases d with
 | lst h r=>exact ⟨_,_,rfl,h,r⟩
theorem rF {t:List (List Int)->D}:∀ {vs:List V} {us:List Value} {fs:List (List (List Int))},ax X.K G vs (fs.map t)->Vals vs us->∀ u ∈ us,∃ v f,RelV v u/\Den X.K G v (t f)
 | _,_,f :: fs,.cons d r,.cons q qs,u,hu=>by
   rcases EE.mp hu with rfl | hu
   · exact ⟨_,f,q,d⟩
   · exact rF r qs u hu
 | _,_,[],.nil,.nil,u,hu=>by cases hu
theorem uM {its out:List Value} (h:its.Perm out):∀ {vs:List V} {fs:List (List (List Int))},Vals vs its->ax X.K G vs (fs.map di)->∃ (vs':List V) (gs:List (List (List Int))),Vals vs' out/\ax X.K G vs' (gs.map di)/\gs.Perm fs:=by
 induction h with
 | nil=>exact λv d=>⟨_,_,v,d,.refl _⟩
 | cons x _ ih=>
   intro vs fs v d
   cases v with
   | cons v1 v2=>
     cases fs with
     | nil=>cases d
     | cons f fs=>
       cases d with
       | cons d1 d2=>
         obtain ⟨vs',gs,a1,a2,a3⟩:=ih v2 d2
         exact ⟨_,f :: gs,.cons v1 a1,.cons d1 a2,a3.cons _⟩
 | swap x y l=>
   intro vs fs v d
   cases v with
   | cons v1 v2=>
     cases v2 with
     | cons v2 v3=>
       match fs,d with
       | f :: g :: fs,.cons d1 (.cons d2 d3)=>exact ⟨_,g :: f :: fs,.cons v2 (.cons v1 v3),.cons d2 (.cons d1 d3),.swap _ _ _⟩
 | trans _ _ ih1 ih2=>
   intro vs fs v d
   obtain ⟨vs',gs,a1,a2,a3⟩:=ih1 v d
   obtain ⟨vs2,hs,b1,b2,b3⟩:=ih2 a1 a2
   exact ⟨vs2,hs,b1,b2,b3.trans a3⟩
theorem uH (hu:X.A.units + 64 < cLine):cW X (.builtin "sorted") (λxs H Q=>∃ G p vs,∃ fs:List (List (List Int)),xs=[.ref p]/\aq G H/\SqL X.K H p vs/\ax X.K G vs (fs.map di)/\∀ q vs' (gs:List (List (List Int))),H q=none->gs.Perm fs->ax X.K G vs' (gs.map di)->Q (.ref q) (upd H q (.lst vs'))):=by
 intro pins s σ H xs us Q I r q
 obtain ⟨G,p,vs,fs,rfl,sg,hp,dl,q⟩:=q
 obtain ⟨u,rfl,ru⟩:=vals1 r
 cases (show u=EF _ from ru)
 obtain ⟨its,rv,pl,hz⟩:=I.list hp
 have hln:=rv.length
 have mem:∀ u ∈ its,∃ a f,u=.ref a/\Den X.K G (.ref a) (di f):=λu hu=>by
   obtain ⟨v,f,rl,d⟩:=rF dl rv u hu
   obtain ⟨a,ws,rfl,_,_⟩:=mQ d
   exact ⟨a,f,rl,d⟩
 have mp:∀ p ∈ (pairsOf its).toList,p.1 ∈ its:=λp hp=>by
   rw [pairsOf_toList] at hp
   exact (Il hp).1
 refine Sp.mB pl.isList (by omega) (λh' hk=>?_) λst' a1=>?_
 · have I':Inv X pins σ H { s with heap:=h' }:=I.kept (t':=s.toks) hk
   refine ⟨λx hx y hy E Q q=>?_,λv hv=>?_⟩
   · obtain ⟨a,f,ea,da⟩:=mem _ (mp x hx)
     obtain ⟨b,g,eb,db⟩:=mem _ (mp y hy)
     rw [ea,eb]
     obtain ⟨o1,o2⟩:=Lc.wW f
     obtain ⟨o3,o4⟩:=Lc.wW g
     have hA:X.A.in1.in1.units=X.A.units + 2:=rfl
     have ll:=(Lc.D9 I' sg (Lc.AZ f g) (A:=X.A.in1.in1) da rfl db rfl o1 o3 (by omega) (by omega)).2 a b rfl rfl
     obtain ⟨p',ws,e1,sq,_⟩:=mQ da
     cases e1
     obtain ⟨_,_,pl',_⟩:=I'.list (Ev.aI sg sq)
     exact ll.one pl'.isList.typeIs (by omega) (q _)
   · obtain ⟨a,f,rfl,da⟩:=mem v hv
     obtain ⟨p',ws,e1,sq,_⟩:=mQ da
     cases e1
     obtain ⟨_,_,pl',_⟩:=I'.list (Ev.aI sg sq)
     exact pl'.isList.typeIs
 · have pp:=(Hv.mp a1).map (·.2)
   rw [pairsOf_toList,List.map_snd_zip (Ek _),<- Array.toList_map] at pp
   generalize (arrOf st').map (·.2)=out at pp
   obtain ⟨vs',gs,vv,dv,lg⟩:=uM pp.symm rv dl
   obtain ⟨c,hc'⟩:=sortedAll_at s.heap its out
   refine ⟨.ref (s.heap.objs.size + 1),upd H (s.heap.objs.size + 1) (.lst vs'),I.laid (t':=s.toks) (λb o z=>sortedAll_old z) (Fv _) (show bh X.prog X.w _ _ _ (.lst vs') from ⟨?_,out.toList,c,vv,?_⟩),rfl,q _ _ gs (I.hok.fresh (Fv _)) lg dv⟩
   · rw [vv.length,pp.length_eq]; omega
   · rw [hc']
end
section
variable {X:Cx} {C:Bool} {τ:List Sl} {a:Expr} {p pos:Pos} {k:Nat}
theorem As {fs:List (List (List Int))} (B:Bk X k) (h:PE X a (dE X.K C τ (.d (.lst (fs.map di))))) (hg:Gl X "sorted":=by rfl) (he:starEach [a] X.env=(false,eval a X.env) :: starEach [] X.env:=by rfl) (hpl:(backTo pos (starEach [] X.env)).any (·.1)=false:=by rfl):PE X (.Call (.Name "sorted" p) [a] [] pos) (dN X.K C τ λs=>∃ gs:List (List (List Int)),gs.Perm fs/\s=.o (gs.map di)):=
 peW (gE (uH B.room.units) hg (B.blt _ (by decide)) (by decide +kernel) (ae h ag he) (by decide) (by decide) he hpl) λσ H Q ⟨A,H₀,B,S,q⟩=>cZ S λvs H1 e1 d1=>by
   cases d1 with
   | cons d r=>
     cases r
     cases d with
     | lst h1 r=>
       refine ⟨_,_,_,fs,rfl,aF,Ev.aI aF h1,r,λq' vs' gs hq lg dv=>?_⟩
       obtain ⟨z1,z2,z3⟩:=iH (K:=X.K) (M:=vw C A B) hq dv
       exact q _ ⟨gs,lg,rfl⟩ _ _ [q'] (e1.trans z1) (λb hb=>⟨e1.free (z2 b hb).1,(z2 b hb).2⟩) z3
theorem Dq {e:Expr} {Ψ:Sl->Prop} (h:PE X e (dN X.K C τ Ψ)) (hx:∀ s,Ψ s->∃ x,fzD s=some x):PE X e (dN X.K C τ λs=>∃ s0 x,Ψ s0/\fzD s0=some x/\s=.d x):=peW h λσ H Q ⟨A,H₀,B,S,k⟩=>by
 refine ⟨A,H₀,B,S,λs hs v H' bs e hf q=>?_⟩
 obtain ⟨x,hx⟩:=hx s hs
 have vd:=S.vd (C:=C)
 obtain ⟨u,e1,d⟩:=q.den (G':=Hy.hd H' (vw C A B)) (aA (aq.refl _) λ_ z=>.inl z) (λb hb o ho=>ay.mpr ⟨λz=>(by obtain ⟨_,q⟩:=vd b z; rw [(hf b hb).1] at q; cases q),ho⟩) hx
 cases e1
 exact k _ ⟨s,x,hs,hx,rfl⟩ v H' [] e (λ_ z=>nomatch z) ⟨rfl,v,rfl,d.mono (aA (aq.refl _) λ_ z=>z.elim id λz=>nomatch z)⟩
noncomputable def dIE (K:Ej) (τ:List Sl) (Ψ:List D->Prop):TI:=λσ H R=>∃ A H₀ B,Sta K A H₀ τ B σ H/\∀ xs,Ψ xs->∀ J H',aq H H'->Yl K J xs (hd H' (own A B))->R J H'
theorem yC {it tg:Expr} {Ψ:Sl->Prop} {Θ:List D->Prop} (h:PE X it (dN X.K true τ Ψ)) (hp:∀ s,Ψ s->∃ xs,s=.o xs/\Θ xs) (hc:X.calm=true:=by first | rfl | assumption):PI X tg it (dIE X.K τ Θ):=
 piW (si hc (Dq h λs hs=>by obtain ⟨xs,rfl,_⟩:=hp s hs; exact ⟨_,rfl⟩)) λσ H R ⟨A,H₀,B,S,k⟩=>⟨A,H₀,B,S,λs ⟨s0,x,hs,hx,e⟩ v H1 bs e1 hf q=>by
   subst e
   obtain ⟨xs,rfl,hxs⟩:=hp s0 hs
   cases hx
   obtain ⟨hb,u,eu,d⟩:=q
   cases eu
   have d1:=d.mono (aA (aq.refl _) λ_ z=>.inl z:aq _ (Hy.hd H1 (own A B)))
   cases d1 with
   | lst h r=>exact ⟨_,rfl,⟨_,Ev.aI aF h⟩,k xs hxs _ H1 e1 (sr h r)⟩⟩
theorem Bp {it tg:Expr} {body:List Stmt} {N:Po} {Θ:List D->Prop} {M:List D->Nat->List Sl->Prop} {T:List D->Nat->List Sl->List Sl} (B:Bk X k) (hi:PI X tg it (dIE X.K τ Θ)) (h0:∀ xs,Θ xs->M xs 0 τ) (hg:∀ xs,Θ xs->∀ i (h:i < xs.length) τ',M xs i τ'->PG X tg (dG X.K τ' xs[i] (T xs i τ')))
   (hb:∀ xs,Θ xs->∀ i,i < xs.length->∀ τ',M xs i τ'->PSs X body (dS X.K (T xs i τ') { N with nx:=M xs (i + 1),ct:=M xs (i + 1),bk:=N.nx })) (hn:∀ xs,Θ xs->∀ τ',M xs xs.length τ'->N.nx τ')
   (hs:∀ x,foldedSetIterable it X.env x=pure x:=by intro _; rfl):PS X (.For tg it body [] pos) (dS X.K τ N):=by
 have hg':PG X tg λv σ H Q=>∃ (xs:List D) (i:Nat) (h:i < xs.length) (τ':List Sl),Θ xs/\M xs i τ'/\dG X.K τ' xs[i] (T xs i τ') v σ H Q:=λpins s σ H v u Q I r ⟨xs,i,h,τ',t,m,q⟩=>hg xs t i h τ' m pins s σ H v u Q I r q
 have hb':PSs X body λD σ H=>∃ xs i τ',Θ xs/\i < xs.length/\M xs i τ'/\dS X.K (T xs i τ') { N with nx:=M xs (i + 1),ct:=M xs (i + 1),bk:=N.nx } D σ H:=λpins s σ H D I ⟨xs,i,τ',t,h,m,q⟩=>hb xs t i h τ' m pins s σ H D I q
 refine psW (wx B.po hi hg' hb' hs) λD σ H ⟨A,H₀,B,S,Me⟩=>⟨A,H₀,B,S,λxs hT J H1 e1 yl=>?_⟩
 obtain ⟨s0,S1⟩:=(S.mono e1).base
 have sub:∀ {H'},aq (Hy.hd H1 λb=>∃ i,b ∈ B i) H'->aq (Hy.hd H1 (own A B)) H':=λe=>(aA (aq.refl _) λ_ z=>.inr z).trans e
 refine ⟨λi m σ' H'=>m=xs.length - i/\i<=xs.length/\∃ τ' B',M xs i τ'/\Sta X.K A (Hy.hd H1 λb=>∃ i,b ∈ B i) τ' B' σ' H',⟨xs.length,rfl,Fg _,τ,B,h0 xs hT,S1⟩,?_⟩
 rintro i m σ' H' ⟨rfl,hi,τ',B',hM,S'⟩
 obtain ⟨y1,y2⟩:=yl H' (sub S'.same)
 by_cases hlt:i < xs.length
 · obtain ⟨g,y⟩:=y2 i hlt
   refine .inr ⟨g,λσ2 H2=>∃ τ2 B2,M xs (i + 1) τ2/\Sta X.K A (Hy.hd H1 λb=>∃ i,b ∈ B i) τ2 B2 σ2 H2,λσ2 H2 q=>⟨xs.length - (i + 1),by omega,rfl,hlt,q⟩,λx H2 hy=>?_⟩
   obtain ⟨e2,dx⟩:=y x H2 hy
   have S2:=S'.mono e2
   refine ⟨xs,i,hlt,τ',hT,hM,A,_,B',S2,dx (own A B') S'.dm ?_,λσ3 B3 S3=>⟨xs,i,τ',hT,hlt,hM,A,_,B3,S3,?_⟩⟩
   · intro b o z
     obtain ⟨z1,z2⟩:=ay.mp z
     have z3:Hy.hd H1 (λb=>∃ i,b ∈ B i) b=some o:=ay.mpr ⟨λy=>z1 (.inr y),z2⟩
     refine ay.mpr ⟨λy=>?_,S'.same _ _ z3⟩
     rcases y with y | ⟨l,y⟩
     · exact z1 (.inl y)
     · rw [S'.fr l b y] at z3; cases z3
   · exact ⟨λτ3 B3 σ3 H3 m S3=>⟨τ3,B3,m,S3⟩,λτ3 B3 σ3 H3 m S3=>Me.nx τ3 B3 σ3 H3 m (S3.back s0 S.ad),λτ3 B3 σ3 H3 m S3=>⟨τ3,B3,m,S3⟩,
       λv H3 bs s3 hr e3 hf q=>Me.rt v H3 bs s3 hr (s0.trans e3) (λb hb=>⟨s0.free (hf b hb).1,(hf b hb).2⟩) q,λH3 e3=>Me.xc H3 (s0.trans e3)⟩
 · have e:i=xs.length:=by omega
   subst e
   exact .inl ⟨y1 _ (Ek _),Me.nx τ' B' σ' H' (hn xs hT τ' hM) (S'.back s0 S.ad)⟩
theorem Bc (j:Nat) {n:Str} {it:Expr} {body rest:List Stmt} {N:Po} {Θ:List D->Prop} (M:List D->Nat->List Sl->Prop) (B:Bk X k) (hN:X.N.Nodup) (hi:PI X (.Name n p) it (dIE X.K τ Θ)) (h0:∀ xs,Θ xs->M xs 0 τ)
   (hb:∀ xs,Θ xs->∀ i (_:i < xs.length),∀ τ',M xs i τ'->PSs X body (dS X.K (τ'.set j (.d (xs.getD i .non))) { N with nx:=M xs (i + 1),ct:=M xs (i + 1),bk:=λ_=>False }))
   (hr:∀ xs,Θ xs->∀ τ',M xs xs.length τ'->PSs X rest (dS X.K τ' N)) (hs:∀ x,foldedSetIterable it X.env x=pure x:=by intro _; rfl) (hi':X.N[j]?=some n:=by rfl) (hl:Loc X.env.scope n:=by first | exact .inl rfl | exact .inr rfl)
   (hf:X.fn n=true\/X.env.scope.names.lookup n=some .local:=by first | exact .inl rfl | exact .inr rfl | assumption):PSs X (.For (.Name n p) it body [] pos :: rest) (dS X.K τ N):=
 bo (M:=λτ'=>∃ xs,Θ xs/\M xs xs.length τ') (Bp (M:=M) (T:=λxs i τ'=>τ'.set j (.d (xs.getD i .non))) B hi h0 (λxs t i h τ' m=>by rw [show xs.getD i D.non=xs[i] by simp [h]]; exact xZ j hN hi' hl hf)
   (λxs t i h τ' m=>rA (hb xs t i h τ' m) λD σ H ⟨A,H₀,B,S,Me⟩=>⟨A,H₀,B,S,Me.nx,λ_ _ _ _ z=>z.elim,Me.ct,Me.rt,Me.xc⟩) (λxs t _ m=>⟨xs,t,m⟩) hs) λτ' ⟨xs,t,m⟩=>hr xs t τ' m
end
end Hy
namespace K26
open PySem PySem.Spec PyProof.Rows L2 Hy
noncomputable def top (i:Nat):Stmt:=PySem.Challenge.pw_signsmooth_k26_whole_determinant_by_fami.main.body.getD i (.Pass ⟨0,0,0,0⟩)
theorem gU:au ["_law_cell_here","_law_bases","_law_row","_law_base","_law_k","_law_mixed"] ["_law_cell_here","_law_bases"] (ah (top 49)):=⟨rfl,rfl,rfl,by decide +kernel,rfl,by decide +kernel,by decide +kernel⟩
theorem kg:au ["_law_cell_here","_law_most","_law_parts","_law_tracks"] ["_law_cell_here","_law_most"] (ah (top 58)):=⟨rfl,rfl,rfl,by decide +kernel,rfl,by decide +kernel,by decide +kernel⟩
theorem gD:au ["_law_one","_law_other","_law_rest"] ["_law_one","_law_other"] (ah (top 50)):=⟨rfl,rfl,rfl,by decide +kernel,rfl,by decide +kernel,by decide +kernel⟩
theorem k7:au ["_law_top","_law_bottom","_law_common"] ["_law_top","_law_bottom"] (ah (top 51)):=⟨rfl,rfl,rfl,by decide +kernel,rfl,by decide +kernel,by decide +kernel⟩
theorem pP:au ["_law_many","_law_number","_law_k"] ["_law_many"] (ah (top 47)):=⟨rfl,rfl,rfl,by decide +kernel,rfl,by decide +kernel,by decide +kernel⟩
theorem iU:au ["_law_part","_law_figures","_law_ten_here"] ["_law_part","_law_figures"] (ah (top 54)):=⟨rfl,rfl,rfl,by decide +kernel,rfl,by decide +kernel,by decide +kernel⟩
theorem iT:au ["_law_cell_here","_law_tracks","_law_rows_here","_law_columns","_law_many","_law_figures","_law_parts","_law_steps","_law_k","_law_word","_law_at"] ["_law_cell_here","_law_tracks","_law_rows_here","_law_columns","_law_many","_law_figures"] (ah (top 55)):=⟨rfl,rfl,rfl,by decide +kernel,rfl,by decide +kernel,by decide +kernel⟩
theorem ju:au ["_law_one","_law_other","_law_most","_law_figures","_law_sizes_here"] ["_law_one","_law_other","_law_most","_law_figures"] (ah (top 59)):=⟨rfl,rfl,rfl,by decide +kernel,rfl,by decide +kernel,by decide +kernel⟩
theorem iS:au ["_law_cell_here","_law_many","_law_size","_law_parts","_law_left"] ["_law_cell_here","_law_many","_law_size"] (ah (top 62)):=⟨rfl,rfl,rfl,by decide +kernel,rfl,by decide +kernel,by decide +kernel⟩
theorem lV:au ["_law_cell_here","_law_ladder_here","_law_most","_law_parts","_law_size"] ["_law_cell_here","_law_ladder_here"] (ah (top 64)):=⟨rfl,rfl,rfl,by decide +kernel,rfl,by decide +kernel,by decide +kernel⟩
theorem n4:au ["thing"] ["thing"] (ah (top 8)):=⟨rfl,rfl,rfl,by decide +kernel,rfl,by decide +kernel,by decide +kernel⟩
theorem k5:au ["thing","least","most"] ["thing","least","most"] (ah (top 9)):=⟨rfl,rfl,rfl,by decide +kernel,rfl,by decide +kernel,by decide +kernel⟩
theorem cU:au ["one","other","greater","lesser","rest"] ["one","other"] (ah (top 11)):=⟨rfl,rfl,rfl,by decide +kernel,rfl,by decide +kernel,by decide +kernel⟩
theorem jS:au ["thing"] ["thing"] (ah (top 10)):=⟨rfl,rfl,rfl,by decide +kernel,rfl,by decide +kernel,by decide +kernel⟩
theorem nO:au ["thing"] ["thing"] (ah (top 26)):=⟨rfl,rfl,rfl,by decide +kernel,rfl,by decide +kernel,by decide +kernel⟩
theorem qo:au ["thing","tracks"] ["thing","tracks"] (ah (top 27)):=⟨rfl,rfl,rfl,by decide +kernel,rfl,by decide +kernel,by decide +kernel⟩
theorem nk:au ["thing"] ["thing"] (ah (top 28)):=⟨rfl,rfl,rfl,by decide +kernel,rfl,by decide +kernel,by decide +kernel⟩
theorem kh:au ["thing"] ["thing"] (ah (top 29)):=⟨rfl,rfl,rfl,by decide +kernel,rfl,by decide +kernel,by decide +kernel⟩
theorem nU:au ["table","j"] ["table","j"] (ah (top 22)):=⟨rfl,rfl,rfl,by decide +kernel,rfl,by decide +kernel,by decide +kernel⟩
theorem kK:au ["table"] ["table"] (ah (top 21)):=⟨rfl,rfl,rfl,by decide +kernel,rfl,by decide +kernel,by decide +kernel⟩
theorem kW:au ["track","rows"] ["track","rows"] (ah (top 33)):=⟨rfl,rfl,rfl,by decide +kernel,rfl,by decide +kernel,by decide +kernel⟩
theorem df:au ["number","others","found","other"] ["number","others"] (ah (top 12)):=⟨rfl,rfl,rfl,by decide +kernel,rfl,by decide +kernel,by decide +kernel⟩
theorem eQ:au ["sums","weight","above","below","factor"] ["sums","weight"] (ah (top 35)):=⟨rfl,rfl,rfl,by decide +kernel,rfl,by decide +kernel,by decide +kernel⟩
theorem fZ:au ["one","other","shared","one_factor","other_factor","tops","divisor"] ["one","other"] (ah (top 36)):=⟨rfl,rfl,rfl,by decide +kernel,rfl,by decide +kernel,by decide +kernel⟩
theorem cR:au ["top","bottom","divisor"] ["top","bottom"] (ah (top 13)):=⟨rfl,rfl,rfl,by decide +kernel,rfl,by decide +kernel,by decide +kernel⟩
theorem pS:au ["top","bottom"] ["top","bottom"] (ah (top 14)):=⟨rfl,rfl,rfl,by decide +kernel,rfl,by decide +kernel,by decide +kernel⟩
theorem nM:au ["sums"] ["sums"] (ah (top 34)):=⟨rfl,rfl,rfl,by decide +kernel,rfl,by decide +kernel,by decide +kernel⟩
theorem o8:au ["step"] ["step"] (ah (top 31)):=⟨rfl,rfl,rfl,by decide +kernel,rfl,by decide +kernel,by decide +kernel⟩
theorem kM:au ["step"] ["step"] (ah (top 30)):=⟨rfl,rfl,rfl,by decide +kernel,rfl,by decide +kernel,by decide +kernel⟩
theorem iW:au ["ladder","tracks","step","carried"] ["ladder"] (ah (top 32)):=⟨rfl,rfl,rfl,by decide +kernel,rfl,by decide +kernel,by decide +kernel⟩
theorem k9:au ["_law_table","_law_rows_here","_law_all_bottoms","_law_row","_law_factor","_law_number"] ["_law_table"] (ah (top 52)):=⟨rfl,rfl,rfl,by decide +kernel,rfl,by decide +kernel,by decide +kernel⟩
theorem mT:au ["numbers"] ["numbers"] (ah (top 18)):=⟨rfl,rfl,rfl,by decide +kernel,rfl,by decide +kernel,by decide +kernel⟩
theorem nB:au ["thing","many"] ["thing","many"] (ah (top 17)):=⟨rfl,rfl,rfl,by decide +kernel,rfl,by decide +kernel,by decide +kernel⟩
theorem i6:au ["rows","columns","many_rows","many_columns"] ["rows","columns","many_rows","many_columns"] (ah (top 19)):=⟨rfl,rfl,rfl,by decide +kernel,rfl,by decide +kernel,by decide +kernel⟩
theorem nL:au ["ladder","rows","columns"] ["ladder","rows","columns"] (ah (top 43)):=⟨rfl,rfl,rfl,by decide +kernel,rfl,by decide +kernel,by decide +kernel⟩
theorem ux:au ["trail","k"] ["trail","k"] (ah (top 41)):=⟨rfl,rfl,rfl,by decide +kernel,rfl,by decide +kernel,by decide +kernel⟩
theorem mN:au ["trail"] ["trail"] (ah (top 45)):=⟨rfl,rfl,rfl,by decide +kernel,rfl,by decide +kernel,by decide +kernel⟩
theorem gb:au ["many","size","found","turn","longer","choice","least"] ["many","size"] (ah (top 20)):=⟨rfl,rfl,rfl,by decide +kernel,rfl,by decide +kernel,by decide +kernel⟩
theorem e8:au ["step","places","stopped","start","end"] ["step","places"] (ah (top 37)):=⟨rfl,rfl,rfl,by decide +kernel,rfl,by decide +kernel,by decide +kernel⟩
theorem eR:au ["ladder","ends","counts","all_places","step","behind","ahead","places","many"] ["ladder","ends"] (ah (top 38)):=⟨rfl,rfl,rfl,by decide +kernel,rfl,by decide +kernel,by decide +kernel⟩
theorem dr:au ["found","step","counts","longer","trail","places"] ["found","step","counts"] (ah (top 40)):=⟨rfl,rfl,rfl,by decide +kernel,rfl,by decide +kernel,by decide +kernel⟩
theorem lU:au ["ladder","starts","ends","counts","many","found","k","step"] ["ladder","starts","ends"] (ah (top 39)):=⟨rfl,rfl,rfl,by decide +kernel,rfl,by decide +kernel,by decide +kernel⟩
theorem oZ:au ["ladder","rows","columns"] ["ladder","rows","columns"] (ah (top 44)):=⟨rfl,rfl,rfl,by decide +kernel,rfl,by decide +kernel,by decide +kernel⟩
theorem uy:au ["_law_one","_law_other"] ["_law_one","_law_other"] (ah (top 56)):=⟨rfl,rfl,rfl,by decide +kernel,rfl,by decide +kernel,by decide +kernel⟩
theorem j6:au ["_law_way","_law_others","_law_other","_law_one","_law_two"] ["_law_way","_law_others"] (ah (top 63)):=⟨rfl,rfl,rfl,by decide +kernel,rfl,by decide +kernel,by decide +kernel⟩
theorem lI:au ["_law_step","_law_track","_law_word","_law_k","_law_weight_here"] ["_law_step","_law_track"] (ah (top 60)):=⟨rfl,rfl,rfl,by decide +kernel,rfl,by decide +kernel,by decide +kernel⟩
theorem dU:au ["_law_ladder_here","_law_family","_law_rows_here","_law_columns","_law_k","_law_way"] ["_law_ladder_here","_law_family","_law_rows_here","_law_columns"] (ah (top 65)):=⟨rfl,rfl,rfl,by decide +kernel,rfl,by decide +kernel,by decide +kernel⟩
theorem rh:au ["_law_one","_law_other"] ["_law_one","_law_other"] (ah (top 57)):=⟨rfl,rfl,rfl,by decide +kernel,rfl,by decide +kernel,by decide +kernel⟩
theorem eK:au ["_law_ladder_here","_law_way","_law_weight_here","_law_k","_law_step"] ["_law_ladder_here","_law_way"] (ah (top 61)):=⟨rfl,rfl,rfl,by decide +kernel,rfl,by decide +kernel,by decide +kernel⟩
theorem pF:au ["_law_ladder_here","_law_rows_here","_law_columns","_law_total","_law_family","_law_weight_here","_law_way"] ["_law_ladder_here","_law_rows_here","_law_columns"] (ah (top 66)):=⟨rfl,rfl,rfl,by decide +kernel,rfl,by decide +kernel,by decide +kernel⟩
theorem uv:au ["_law_script","_law_k"] ["_law_script","_law_k"] (ah (top 48)):=⟨rfl,rfl,rfl,by decide +kernel,rfl,by decide +kernel,by decide +kernel⟩
theorem ot:au ["_law_rows_here","_law_sums","_law_row","_law_longer","_law_mask","_law_behind_it","_law_j","_law_key","_law_sign"] ["_law_rows_here"] (ah (top 53)):=⟨rfl,rfl,rfl,by decide +kernel,rfl,by decide +kernel,by decide +kernel⟩
theorem u7:au ["_law_script","_law_k","_law_cell_here","_law_ladder_here","_law_rows_here","_law_columns","_law_table","_law_whole","_law_total"] ["_law_script"] (ah (top 67)):=⟨rfl,rfl,rfl,by decide +kernel,rfl,by decide +kernel,by decide +kernel⟩
end K26
namespace K26
open PySem PySem.Spec PyProof.Rows L2 Hy
open Ev (D Den ax aJ aH)
noncomputable def aK (f:Nat->Rat):Nat->Rat
 | 0=>0
 | n + 1=>aK f n + f n
theorem aM {f g:Nat->Rat}:∀ {n:Nat},(∀ k < n,f k=g k)->aK f n=aK g n
 | 0,_=>rfl
 | n + 1,h=>by rw [aK,aK,aM λk hk=>h k (by omega),h n (by omega)]
theorem bR (c:Rat) (f:Nat->Rat):∀ n:Nat,c * aK f n=aK (λk=>c * f k) n
 | 0=>FL c
 | n + 1=>by rw [aK,aK,Rat.mul_add,bR c f n]
theorem gX (f g:Nat->Rat):∀ n:Nat,aK (λk=>f k + g k) n=aK f n + aK g n
 | 0=>(E7 0).symm
 | n + 1=>by rw [aK,aK,aK,gX f g n]; grind
theorem ig:∀ n:Nat,aK (λ_=>0) n=0
 | 0=>rfl
 | n + 1=>by rw [aK,ig n,E7]
theorem iJ (f:Nat->Nat->Rat) (m:Nat):∀ n:Nat,aK (λk=>aK (λl=>f k l) m) n=aK (λl=>aK (λk=>f k l) n) m
 | 0=>by simp only [aK]; exact (ig m).symm
 | n + 1=>by simp only [aK]; rw [iJ f m n,<- gX]
noncomputable def dq (i j:Nat):Rat:=if i=j then 1 else 0
theorem pA (A:Nat->Rat) (j:Nat):∀ n:Nat,n<=j->aK (λk=>A k * dq k j) n=0
 | 0,_=>rfl
 | n + 1,h=>by
   rw [aK,pA A j n (by omega),dq,if_neg (by omega),FL,E7]
theorem fM (A:Nat->Rat) (j:Nat):∀ n:Nat,j < n->aK (λk=>A k * dq k j) n=A j
 | n + 1,h=>by
   rw [aK]
   by_cases e:j=n
   · subst e
     rw [pA A j j (Ek _),dq,if_pos rfl,Gx,HA]
   · rw [fM A j n (by omega),dq,if_neg (by omega),FL,E7]
noncomputable def skp (i r:Nat):Nat:=if r < i then r else r + 1
noncomputable def minor (M:Nat->Nat->Rat) (i r c:Nat):Rat:=M (skp i r) (c + 1)
noncomputable def sgn (i:Nat):Rat:=if i % 2=0 then 1 else -1
theorem ft (i:Nat):sgn (i + 1)=-sgn i:=by
 unfold sgn
 by_cases h:i % 2=0
 · rw [if_pos h,if_neg (by omega)]
 · rw [if_neg h,if_pos (by omega)]
   rfl
theorem z6 (i:Nat):sgn i * sgn i=1:=by
 unfold sgn
 split <;> grind
noncomputable def det:Nat->(Nat->Nat->Rat)->Rat
 | 0,_=>1
 | n + 1,M=>aK (λi=>sgn i * M i 0 * det n (minor M i)) (n + 1)
theorem lZ {i r n:Nat} (h:r < n):skp i r < n + 1:=by unfold skp; split <;> omega
theorem A3 (i r:Nat):skp i r ≠ i:=by unfold skp; split <;> omega
theorem aR:∀ {n:Nat} {M M':Nat->Nat->Rat},(∀ i < n,∀ j < n,M i j=M' i j)->det n M=det n M'
 | 0,_,_,_=>rfl
 | n + 1,M,M',h=>by
   unfold det
   refine aM λi hi=>?_
   rw [h i hi 0 (by omega),aR (M:=minor M i) (M':=minor M' i) λr hr c hc=>h _ (lZ hr) _ (by omega)]
noncomputable def av (M:Nat->Nat->Rat) (p:Nat) (v:Nat->Rat) (r c:Nat):Rat:=if r=p then v c else M r c
noncomputable def dg (M:Nat->Nat->Rat) (q:Nat) (v:Nat->Rat) (r c:Nat):Rat:=if c=q then v r else M r c
noncomputable def un (i p:Nat):Nat:=if p < i then p else p - 1
theorem gm (M:Nat->Nat->Rat) (p:Nat) (v:Nat->Rat):minor (av M p v) p=minor M p:=by
 funext r c
 unfold minor av
 rw [if_neg (A3 p r)]
theorem fA (M:Nat->Nat->Rat) {i p:Nat} (h:i ≠ p) (v:Nat->Rat):minor (av M p v) i=av (minor M i) (un i p) λc=>v (c + 1):=by
 funext r c
 unfold minor av
 have:skp i r=p ↔ r=un i p:=by unfold skp un; split <;> split <;> omega
 by_cases q:skp i r=p
 · rw [if_pos q,if_pos (this.mp q)]
 · rw [if_neg q,if_neg λz=>q (this.mpr z)]
theorem tI:∀ {n:Nat} (M:Nat->Nat->Rat) {p:Nat},p < n->∀ (a b:Rat) (x y:Nat->Rat),det n (av M p λc=>a * x c + b * y c)=a * det n (av M p x) + b * det n (av M p y)
 | 0,_,_,h,_,_,_,_=>absurd h (FN _)
 | n + 1,M,p,hp,a,b,x,y=>by
   unfold det
   rw [bR,bR,<- gX]
   refine aM λi hi=>?_
   by_cases h:i=p
   · subst h
     rw [gm,gm,gm]
     simp only [av,if_pos rfl]
     grind
   · rw [fA M h,fA M h,fA M h,tI (minor M i) (show un i p < n by unfold un; split <;> omega) a b]
     simp only [av,if_neg h]
     grind
theorem vB {f:Nat->Rat} {p:Nat} (h0:∀ i,i ≠ p->i ≠ p + 1->f i=0) (h:f p + f (p + 1)=0):∀ n,p + 1 < n->aK f n=0:=by
 have z:∀ n,n<=p->aK f n=0:=by
   intro n
   induction n with
   | zero=>intro _; rfl
   | succ n ih=>intro hn; rw [aK,ih (by omega),h0 n (by omega) (by omega),E7]
 intro n
 induction n with
 | zero=>intro hn; omega
 | succ n ih=>
   intro hn
   rw [aK]
   by_cases q:n=p + 1
   · subst q
     rw [aK,z p (Ek _),HA]
     exact h
   · rw [ih (by omega),h0 n (by omega) q,E7]
theorem fL {f:Nat->Rat} {n:Nat} (h:∀ i < n,f i=0):aK f n=0:=by
 rw [aM h]; exact ig n
theorem mD:∀ {n:Nat} {M:Nat->Nat->Rat} {p:Nat},p + 1 < n->(∀ c < n,M p c=M (p + 1) c)->det n M=0
 | 0,_,_,h,_=>absurd h (FN _)
 | n + 1,M,p,hp,h=>by
   unfold det
   let f:Nat->Rat:=λi=>if i < n + 1 then sgn i * M i 0 * det n (minor M i) else 0
   have e:aK (λi=>sgn i * M i 0 * det n (minor M i)) (n + 1)=aK f (n + 1):=aM λi hi=>by simp only [f]; rw [if_pos hi]
   rw [e]
   refine vB (p:=p) (λi h1 h2=>?_) ?_ _ hp
   · simp only [f]
     by_cases hi:i < n + 1
     · rw [if_pos hi]
       have:det n (minor M i)=0:=by
         by_cases q:i < p
         · refine mD (p:=p - 1) (by omega) λc hc=>?_
           unfold minor skp
           rw [if_neg (by omega),if_neg (by omega),show p - 1 + 1=p by omega]
           exact h (c + 1) (by omega)
         · refine mD (p:=p) (by omega) λc hc=>?_
           unfold minor skp
           rw [if_pos (by omega),if_pos (by omega)]
           exact h (c + 1) (by omega)
       rw [this,FL]
     · rw [if_neg hi]
   · simp only [f]
     rw [if_pos (by omega),if_pos hp,ft,<- h 0 (by omega)]
     have:det n (minor M p)=det n (minor M (p + 1)):=aR λr hr c hc=>by
       unfold minor skp
       by_cases q:r < p
       · rw [if_pos q,if_pos (by omega)]
       · rw [if_neg q]
         by_cases q2:r=p
         · subst q2
           rw [if_pos (by omega)]
           exact (h (c + 1) (by omega)).symm
         · rw [if_neg (by omega)]
     rw [this]
     grind
structure ML (n:Nat) (f:(Nat->Nat->Rat)->Rat):Prop where
 cong:∀ {M M':Nat->Nat->Rat},(∀ i < n,∀ j < n,M i j=M' i j)->f M=f M'
 lin:∀ (M:Nat->Nat->Rat) {p:Nat},p < n->∀ (a b:Rat) (x y:Nat->Rat),f (av M p λc=>a * x c + b * y c)=a * f (av M p x) + b * f (av M p y)
 alt:∀ {M:Nat->Nat->Rat} {p:Nat},p + 1 < n->(∀ c < n,M p c=M (p + 1) c)->f M=0
theorem gq (n:Nat):ML n (det n):=⟨aR,tI,mD⟩
section
variable {n:Nat} {f:(Nat->Nat->Rat)->Rat}
theorem a6 (M:Nat->Nat->Rat) (p:Nat):av M p (M p)=M:=by
 funext r c
 unfold av
 split
 · rename_i h; rw [h]
 · rfl
theorem bE {M:Nat->Nat->Rat} {p:Nat} {v:Nat->Rat}:av M p v p=v:=by funext c; unfold av; rw [if_pos rfl]
theorem bF {M:Nat->Nat->Rat} {p r:Nat} {v:Nat->Rat} (h:r ≠ p):av M p v r=M r:=by funext c; unfold av; rw [if_neg h]
theorem bb {M:Nat->Nat->Rat} {p q:Nat} {v u:Nat->Rat} (h:p ≠ q):av (av M p v) q u=av (av M q u) p v:=by
 funext r c
 unfold av
 by_cases h1:r=q
 · rw [if_pos h1,if_neg λz=>h (z.symm.trans h1),if_pos h1]
 · rw [if_neg h1,if_neg h1]
theorem ML.add (h:ML n f) (M:Nat->Nat->Rat) {p:Nat} (hp:p < n) (x y:Nat->Rat):f (av M p λc=>x c + y c)=f (av M p x) + f (av M p y):=by
 have:=h.lin M hp 1 1 x y
 simp only [Fn] at this
 exact this
theorem ML.nb (h:ML n f) (M:Nat->Nat->Rat) {p:Nat} (hp:p + 1 < n) (x y:Nat->Rat):f (av (av M p x) (p + 1) y)=-f (av (av M p y) (p + 1) x):=by
 have z:∀ u:Nat->Rat,f (av (av M p u) (p + 1) u)=0:=λu=>h.alt hp λc _=>by rw [bE,bF (by omega),bE]
 have e:=z λc=>x c + y c
 rw [h.add _ hp] at e
 rw [bb (by omega),h.add _ (show p < n by omega),bb (M:=M) (p:=p) (q:=p + 1) (v:=λc=>x c + y c) (u:=y) (by omega),h.add _ (show p < n by omega)] at e
 rw [bb (M:=M) (p:=p + 1) (q:=p) (v:=x) (u:=x) (by omega),z x,bb (M:=M) (p:=p + 1) (q:=p) (v:=y) (u:=y) (by omega),z y,bb (M:=M) (p:=p + 1) (q:=p) (v:=x) (u:=y) (by omega),bb (M:=M) (p:=p + 1) (q:=p) (v:=y) (u:=x) (by omega)] at e
 grind
theorem ML.two (h:ML n f):∀ (d:Nat) (M:Nat->Nat->Rat) (p:Nat),p + 1 + d < n->M p=M (p + 1 + d)->f M=0
 | 0,M,p,hp,e=>h.alt hp λc _=>by rw [e]
 | d + 1,M,p,hp,e=>by
   have s:=h.nb M (p:=p + 1 + d) (by omega) (M (p + 1 + d)) (M (p + 1 + d + 1))
   rw [a6,a6] at s
   rw [s,ML.two h d _ p (by omega) (by rw [bF (by omega),bF (by omega),bF (by omega),bE]; exact e)]
   rfl
theorem ML.same (h:ML n f) {M:Nat->Nat->Rat} {p q:Nat} (hp:p < n) (hq:q < n) (hpq:p ≠ q) (e:M p=M q):f M=0:=by
 rcases Nat.lt_or_lt_of_ne hpq with z | z
 · exact h.two (q - p - 1) M p (by omega) (by rw [show p + 1 + (q - p - 1)=q by omega]; exact e)
 · exact h.two (p - q - 1) M q (by omega) (by rw [show q + 1 + (p - q - 1)=p by omega]; exact e.symm)
theorem ML.swap (h:ML n f) {M:Nat->Nat->Rat} {p q:Nat} (hp:p < n) (hq:q < n) (hpq:p ≠ q) (x y:Nat->Rat):f (av (av M p x) q y)=-f (av (av M p y) q x):=by
 have z:∀ u:Nat->Rat,f (av (av M p u) q u)=0:=λu=>h.same hp hq hpq (by rw [bE,bF hpq,bE])
 have e:=z λc=>x c + y c
 have c1:∀ u v:Nat->Rat,av (av M q u) p v=av (av M p v) q u:=λu v=>bb λz=>hpq z.symm
 rw [h.add _ hq,bb hpq,h.add _ hp,bb (M:=M) (p:=p) (q:=q) (v:=λc=>x c + y c) (u:=y) hpq,h.add _ hp,c1,c1,c1,c1,z x,z y] at e
 grind
theorem ML.DD (h:ML n f) (M:Nat->Nat->Rat) {p:Nat} (hp:p < n):f (av M p λ_=>0)=0:=by
 have:=h.lin M hp 0 0 (λ_=>0) (λ_=>0)
 simp only [GX,E7] at this
 exact this
theorem ML.sum (h:ML n f) (M:Nat->Nat->Rat) {p:Nat} (hp:p < n) (v:Nat->Rat) (e:Nat->Nat->Rat):∀ m,f (av M p λj=>aK (λc=>v c * e c j) m)=aK (λc=>v c * f (av M p (e c))) m
 | 0=>h.DD M hp
 | m + 1=>by
   have:=h.lin M hp 1 (v m) (λj=>aK (λc=>v c * e c j) m) (e m)
   simp only [Fn] at this
   rw [aK,<- ML.sum h M hp v e m]
   exact this
theorem ML.comb (h:ML n f) (M:Nat->Nat->Rat) {p k:Nat} (hp:p < n) (hk:k<=p) (d:Rat) (β:Nat->Rat):f (av M p λj=>d * M p j + aK (λi=>β i * M i j) k)=d * f M:=by
 have e:=h.lin M hp d 1 (M p) (λj=>aK (λi=>β i * M i j) k)
 simp only [Fn] at e
 rw [e,a6,h.sum M hp β M k,fL,E7]
 intro i hi
 rw [h.same (p:=i) (q:=p) (by omega) hp (by omega) (by rw [bF (by omega),bE]),FL]
end
noncomputable def idQ (i j:Nat):Rat:=if i=j then 1 else 0
noncomputable def un1 (σ:Nat->Nat) (i j:Nat):Rat:=if σ i=j then 1 else 0
theorem wH:∀ (m:Nat) (σ:Nat->Nat),(∀ i < m + 1,σ i < m)->∃ i j,i < j/\j < m + 1/\σ i=σ j
 | 0,σ,h=>absurd (h 0 (by decide)) (FN _)
 | m + 1,σ,h=>by
   by_cases q:∃ i,i < m + 1/\σ i=σ (m + 1)
   · obtain ⟨i,hi,e⟩:=q
     exact ⟨i,m + 1,hi,by omega,e⟩
   · have q':∀ i < m + 1,σ i ≠ σ (m + 1):=λi hi z=>q ⟨i,hi,z⟩
     obtain ⟨i,j,h1,h2,e⟩:=wH m (λi=>if σ (m + 1) < σ i then σ i - 1 else σ i) λi hi=>by
       have a:=h i (by omega)
       have b:=h (m + 1) (by omega)
       have c:=q' i hi
       split <;> omega
     refine ⟨i,j,h1,by omega,?_⟩
     have a:=q' i (by omega)
     have b:=q' j h2
     split at e <;> split at e <;> omega
theorem xU {n k:Nat} {σ:Nat->Nat} (h:∀ i < n,σ i < n) (hk:k < n) (hn:∀ i < n,σ i ≠ k):∃ i j,i < j/\j < n/\σ i=σ j:=by
 obtain ⟨m,rfl⟩:∃ m,n=m + 1:=⟨n - 1,by omega⟩
 obtain ⟨i,j,h1,h2,e⟩:=wH m (λi=>if k < σ i then σ i - 1 else σ i) λi hi=>by
   have a:=h i hi
   have b:=hn i hi
   split <;> omega
 refine ⟨i,j,h1,h2,?_⟩
 have a:=hn i (by omega)
 have b:=hn j h2
 split at e <;> split at e <;> omega
section
variable {n:Nat} {h:(Nat->Nat->Rat)->Rat}
theorem ML.wF (H:ML n h) (h0:h idQ=0):∀ (d k:Nat),k + d=n->∀ σ:Nat->Nat,(∀ i < n,σ i < n)->(∀ i < k,σ i=i)->h (un1 σ)=0
 | 0,k,hk,σ,_,hf=>by
   rw [<- h0]
   exact H.cong λi hi j _=>by unfold un1 idQ; rw [hf i (by omega)]
 | d + 1,k,hk,σ,hs,hf=>by
   by_cases q:∃ j,k<=j/\j < n/\σ j=k
   · obtain ⟨j,h1,h2,h3⟩:=q
     by_cases z:j=k
     · subst z
       exact ML.wF H h0 d (j + 1) (by omega) σ hs λi hi=>by
         by_cases y:i=j
         · rw [y]; exact h3
         · exact hf i (by omega)
     · have e:un1 σ=av (av (un1 σ) k (un1 σ k)) j (un1 σ j):=by rw [a6,a6]
       have e2:av (av (un1 σ) k (un1 σ j)) j (un1 σ k)=un1 λi=>if i=j then σ k else if i=k then σ j else σ i:=by
         funext r c
         have zk:¬ k=j:=λy=>z y.symm
         by_cases y1:r=j <;> by_cases y2:r=k <;> simp [av,un1,y1,y2,zk]
       rw [e,H.swap (by omega) h2 (λy=>z y.symm),e2,ML.wF H h0 d (k + 1) (by omega) _ (λi hi=>?_) (λi hi=>?_)]
       · rfl
       · split
         · exact hs k (by omega)
         · split
           · exact hs j h2
           · exact hs i hi
       · rw [if_neg (by omega)]
         by_cases y:i=k
         · rw [if_pos y,h3,y]
         · rw [if_neg y]
           exact hf i (by omega)
   · obtain ⟨i,j,h1,h2,e⟩:=xU hs (show k < n by omega) λi hi z=>by
       by_cases y:i < k
       · have:=hf i y
         omega
       · exact q ⟨i,by omega,hi,z⟩
     exact H.same (p:=i) (q:=j) (by omega) h2 (by omega) (by funext c; unfold un1; rw [e])
noncomputable def mH (k:Nat) (M:Nat->Nat->Rat) (σ:Nat->Nat) (i j:Nat):Rat:=if i < k then M i j else un1 σ i j
theorem ML.Dx (H:ML n h) (h0:h idQ=0) (M:Nat->Nat->Rat):∀ (k:Nat),k<=n->∀ σ:Nat->Nat,(∀ i < n,σ i < n)->h (mH k M σ)=0
 | 0,_,σ,hs=>by
   rw [<- ML.wF H h0 n 0 (by omega) σ hs λi hi=>absurd hi (FN _)]
   exact H.cong λi _ j _=>by unfold mH; rw [if_neg (FN _)]
 | k + 1,hk,σ,hs=>by
   have e:h (mH (k + 1) M σ)=h (av (mH k M σ) k λj=>aK (λc=>M k c * idQ c j) n):=H.cong λi hi j hj=>by
     unfold av mH
     by_cases y:i=k
     · subst y
       rw [if_pos (by omega),if_pos rfl]
       exact (fM (M i) j n hj).symm
     · rw [if_neg y]
       by_cases z:i < k
       · rw [if_pos (by omega),if_pos z]
       · rw [if_neg (by omega),if_neg z]
   rw [e,H.sum _ (by omega),fL]
   intro c hc
   have e2:av (mH k M σ) k (idQ c)=mH k M λi=>if i=k then c else σ i:=by
     funext r j
     by_cases y:r=k <;> simp [av,mH,un1,idQ,y]
   rw [e2,ML.Dx H h0 M k (by omega) _ (λi hi=>?_),FL]
   split
   · exact hc
   · exact hs i hi
theorem ML.zero (H:ML n h) (h0:h idQ=0) (M:Nat->Nat->Rat):h M=0:=by
 rw [<- ML.Dx H h0 M n (Ek _) (λi=>i) λi hi=>hi]
 exact H.cong λi hi j _=>by unfold mH; rw [if_pos hi]
end
theorem vE:minor idQ 0=idQ:=by
 funext r c
 unfold minor idQ skp
 rw [if_neg (FN _)]
 by_cases h:r=c
 · rw [if_pos (by omega),if_pos h]
 · rw [if_neg (by omega),if_neg h]
theorem nc:∀ n,det n idQ=1
 | 0=>rfl
 | n + 1=>by
   unfold det
   rw [aM (g:=λi=>det n (minor idQ i) * idQ i 0) λi hi=>?_]
   · have:=fM (λi=>det n (minor idQ i)) 0 (n + 1) (by omega)
     have e:(λi=>det n (minor idQ i) * idQ i 0)=λk=>(λi=>det n (minor idQ i)) k * dq k 0:=rfl
     rw [e,this,vE,nc n]
   · by_cases z:i=0
     · subst z
       show 1 * 1 * _=_ * 1
       grind
     · unfold idQ
       rw [if_neg z]
       grind
theorem ML.uniq {n:Nat} {f:(Nat->Nat->Rat)->Rat} (F:ML n f) (M:Nat->Nat->Rat):f M=det n M * f idQ:=by
 have D:=gq n
 have H:ML n λM=>f M - det n M * f idQ:=by
   refine ⟨λ{M M'} e=>?_,λM p hp a b x y=>?_,λ{M p} hp e=>?_⟩
   · rw [F.cong e,D.cong e]
   · rw [F.lin M hp,D.lin M hp]
     grind
   · rw [F.alt hp e,D.alt hp e]
     grind
 have:=H.zero (by rw [nc]; grind) M
 grind
theorem pz:∀ {n:Nat} (M:Nat->Nat->Rat) {q:Nat},q < n->∀ (a b:Rat) (x y:Nat->Rat),det n (dg M q λc=>a * x c + b * y c)=a * det n (dg M q x) + b * det n (dg M q y)
 | 0,_,_,h,_,_,_,_=>absurd h (FN _)
 | n + 1,M,q,hq,a,b,x,y=>by
   unfold det
   rw [bR,bR,<- gX]
   refine aM λi hi=>?_
   cases q with
   | zero=>
     have e:∀ v,minor (dg M 0 v) i=minor M i:=λv=>by
       funext r c
       unfold minor dg
       rw [if_neg (by omega)]
     rw [e,e,e]
     simp only [dg,if_true]
     grind
   | succ q=>
     have e:∀ v,minor (dg M (q + 1) v) i=dg (minor M i) q λr=>v (skp i r):=λv=>by
       funext r c
       unfold minor dg
       by_cases z:c=q
       · rw [if_pos (by omega),if_pos z]
       · rw [if_neg (by omega),if_neg z]
     rw [e,e,e,pz (minor M i) (show q < n by omega) a b]
     have z:¬ (0=q + 1):=by omega
     simp only [dg,if_neg z]
     grind
theorem lG (g:Nat->Rat) (i:Nat):∀ n,i<=n->aK (λj=>g (skp i j)) n=aK g (n + 1) - g i
 | 0,h=>by
   have:i=0:=by omega
   subst this
   show (0:Rat)=0 + g 0 - g 0
   grind
 | n + 1,h=>by
   by_cases q:i=n + 1
   · subst q
     have e:aK (λj=>g (skp (n + 1) j)) (n + 1)=aK g (n + 1):=aM λk hk=>by unfold skp; rw [if_pos hk]
     rw [e,aK.eq_2 g (n + 1)]
     grind
   · rw [aK,lG g i n (by omega),aK.eq_2 g (n + 1)]
     have:skp i n=n + 1:=by unfold skp; rw [if_neg (by omega)]
     rw [this]
     grind
theorem uf {n:Nat} {G:Nat->Nat->Rat} (h:∀ i < n,∀ j < n,G i j=-G j i):aK (λi=>aK (λj=>G i j) n) n=0:=by
 have e:aK (λi=>aK (λj=>G i j) n) n=-1 * aK (λi=>aK (λj=>G i j) n) n:=by
   conv=>lhs; rw [iJ]
   rw [bR]
   refine aM λi hi=>?_
   rw [bR]
   refine aM λj hj=>?_
   rw [h j hj i hi]
   grind
 grind
theorem y8 {i j r:Nat} (h:i < j):skp i (skp (j - 1) r)=skp j (skp i r):=by
 unfold skp
 split <;> split <;> (try split) <;> (try split) <;> omega
theorem pB:∀ {n:Nat} {M:Nat->Nat->Rat} {q:Nat},q + 1 < n->(∀ r < n,M r q=M r (q + 1))->det n M=0
 | 0,_,_,h,_=>absurd h (FN _)
 | 1,_,_,h,_=>by omega
 | n + 2,M,q + 1,hq,h=>by
   rw [det]
   refine fL λi hi=>?_
   rw [pB (M:=minor M i) (q:=q) (by omega) λr hr=>h _ (lZ hr),FL]
 | n + 2,M,0,hq,h=>by
   let D:Nat->Nat->Rat:=λi j=>det n λr c=>M (skp i (skp j r)) (c + 2)
   let G:Nat->Nat->Rat:=λi j=>if i < j then -(sgn i * sgn j * M i 0 * M j 0 * D i (j - 1)) else if j < i then sgn i * sgn j * M i 0 * M j 0 * D i j else 0
   have inner:∀ i < n + 2,sgn i * M i 0 * det (n + 1) (minor M i)=aK (λj=>G i j) (n + 2):=λi hi=>by
     have e:aK (λj=>G i j) (n + 2)=aK (λj=>G i (skp i j)) (n + 1):=by
       have g0:G i i=0:=by simp only [G]; rw [if_neg (Fs i),if_neg (Fs i)]
       rw [lG (λj=>G i j) i (n + 1) (by omega),g0]
       grind
     rw [e,det,bR]
     refine aM λj hj=>?_
     have m0:minor M i j 0=M (skp i j) 0:=(h _ (lZ hj)).symm
     have mm:det n (minor (minor M i) j)=D i j:=rfl
     rw [m0,mm]
     simp only [G]
     by_cases z:j < i
     · have s:skp i j=j:=by unfold skp; rw [if_pos z]
       rw [s,if_neg (by omega),if_pos z]
       grind
     · have s:skp i j=j + 1:=by unfold skp; rw [if_neg z]
       rw [s,if_pos (by omega),ft,show j + 1 - 1=j by omega]
       grind
   rw [det,aM inner]
   refine uf λi hi j hj=>?_
   have sy:∀ {i j:Nat},i < j->D i (j - 1)=D j i:=λ{i j} z=>by
     simp only [D]
     congr 1
     funext r c
     rw [y8 z]
   simp only [G]
   rcases HN i j with z | z | z
   · rw [if_pos z,if_neg (by omega),if_pos z,sy z]
     grind
   · subst z
     rw [if_neg (Fs _),if_neg (Fs _)]
     rfl
   · rw [if_neg (by omega),if_pos z,if_pos z,sy z]
     grind
theorem zN (n:Nat) (M:Nat->Nat->Rat):det n (λi j=>M j i)=det n M:=by
 have H:ML n λM=>det n λi j=>M j i:=by
   refine ⟨λ{M M'} e=>aR λi hi j hj=>e j hj i hi,λM p hp a b x y=>?_,λ{M p} hp e=>pB hp λr hr=>e r hr⟩
   exact pz (λi j=>M j i) hp a b x y
 have u:=H.uniq M
 have i1:(det n λi j=>idQ j i)=1:=by
   rw [<- nc n]
   congr 1
   funext i j
   unfold idQ
   by_cases z:i=j
   · rw [if_pos z,if_pos z.symm]
   · rw [if_neg z,if_neg λy=>z y.symm]
 simp only [i1,Gx] at u
 exact u
noncomputable def bc (Y:Nat->Nat->Rat) (k p i:Nat):Rat:=det (k + 1) (av (λr c=>Y (if c < k then c else p) r) k (idQ i))
section
variable {Y:Nat->Nat->Rat} {k p q:Nat}
noncomputable def rho (k m r:Nat):Nat:=if r < k then r else if r=k then k + m else if r<=k + m then r - 1 else r
theorem sJ {n:Nat}:∀ (m:Nat) (Y:Nat->Nat->Rat),k + m < n->(det n λr=>Y (rho k m r))=sgn m * det n Y
 | 0,Y,_=>by
   have:(λr=>Y (rho k 0 r))=Y:=by
     funext r
     congr 1
     unfold rho
     split
     · rfl
     · split
       · omega
       · split <;> omega
   rw [this]
   show _=1 * _
   rw [Fn]
 | m + 1,Y,h=>by
   have ih:=sJ (n:=n) m (av (av Y (k + m) (Y (k + m + 1))) (k + m + 1) (Y (k + m))) (by omega)
   have s:=(gq n).nb Y (p:=k + m) (by omega) (Y (k + m + 1)) (Y (k + m))
   rw [a6,a6] at s
   rw [s] at ih
   rw [ft]
   have e:(λr=>av (av Y (k + m) (Y (k + m + 1))) (k + m + 1) (Y (k + m)) (rho k m r))=λr=>Y (rho k (m + 1) r):=by
     funext r
     by_cases z:rho k m r=k + m + 1
     · rw [z,bE]
       congr 1
       unfold rho at z ⊢
       split at z
       · omega
       · split at z
         · omega
         · split at z
           · omega
           · rename_i a b c
             rw [if_neg a,if_neg b,if_pos (by omega)]
             omega
     · rw [bF z]
       by_cases y:rho k m r=k + m
       · rw [y,bE]
         congr 1
         unfold rho at y z ⊢
         split at y
         · omega
         · split at y
           · rename_i a b
             rw [if_neg a,if_pos b]
             omega
           · split at y
             · omega
             · omega
       · rw [bF y]
         congr 1
         unfold rho at y z ⊢
         split at y
         · rename_i a
           rw [if_pos a,if_pos a]
         · rename_i a
           rw [if_neg a] at z
           split at y
           · omega
           · rename_i b
             rw [if_neg b] at z
             rw [if_neg a,if_neg b,if_neg a,if_neg b]
             split at y
             · rename_i c
               rw [if_pos c,if_pos (by omega)]
             · rename_i c
               rw [if_neg c] at z
               rw [if_neg c,if_neg (by omega)]
   rw [e] at ih
   rw [ih]
   grind
end
noncomputable def ZB (b:Nat) (x:Rat):Prop:=∃ z:Int,x=(z:Rat)/\z.natAbs<=2 ^ b
theorem ZB.mono {b c:Nat} {x:Rat} (h:ZB b x) (hc:b<=c):ZB c x:=by
 obtain ⟨z,e,l⟩:=h
 exact ⟨z,e,EH l (E8 (by decide) hc)⟩
theorem ZB.mul {b c:Nat} {x y:Rat} (h:ZB b x) (g:ZB c y):ZB (b + c) (x * y):=by
 obtain ⟨u,rfl,l⟩:=h
 obtain ⟨v,rfl,k⟩:=g
 exact ⟨u * v,(EJ u v).symm,by rw [HG,IS]; exact IH l k⟩
theorem ZB.sgn (i:Nat):ZB 0 (sgn i):=by
 show ZB 0 (if i % 2=0 then 1 else -1)
 split
 · exact ⟨1,rfl,by decide⟩
 · exact ⟨-1,rfl,by decide⟩
theorem ZB.sum {b:Nat} {f:Nat->Rat}:∀ {n:Nat},(∀ i < n,ZB b (f i))->∃ z:Int,aK f n=(z:Rat)/\z.natAbs<=n * 2 ^ b
 | 0,_=>⟨0,rfl,Fg _⟩
 | n + 1,h=>by
   obtain ⟨u,e,l⟩:=ZB.sum λi hi=>h i (FI hi)
   obtain ⟨v,e',l'⟩:=h n (Ju n)
   refine ⟨u + v,by rw [aK,e,e',Hr],?_⟩
   rw [F1]
   exact EH (Int.natAbs_add_le _ _) (Nat.add_le_add l l')
theorem xF {b:Nat}:∀ {n:Nat} {M:Nat->Nat->Rat},n<=8->(∀ i < n,∀ j < n,ZB b (M i j))->ZB (n * (b + 3)) (det n M)
 | 0,_,_,_=>⟨1,rfl,Nat.one_le_two_pow⟩
 | n + 1,M,hn,h=>by
   obtain ⟨z,e,l⟩:=ZB.sum (b:=b + n * (b + 3)) (f:=λi=>sgn i * M i 0 * det n (minor M i)) (n:=n + 1) λi hi=>by
     have:=((ZB.sgn i).mul (h i hi 0 (by omega))).mul (xF (n:=n) (M:=minor M i) (by omega) λr hr c hc=>h _ (lZ hr) _ (by omega))
     exact this.mono (by omega)
   refine ⟨z,e,EH l ?_⟩
   rw [show (n + 1) * (b + 3)=3 + (b + n * (b + 3)) by rw [F1]; omega,IS 2 3]
   exact Fd _ (by omega)
noncomputable def ki (s:Nat->Rat):Nat->Rat
 | 0=>1
 | n + 1=>ki s n * s n
theorem lj {n:Nat} (s:Nat->Rat) (M:Nat->Nat->Rat):∀ t,t<=n->det n (λi j=>if i < t then s i * M i j else M i j)=ki s t * det n M
 | 0,_=>by
   rw [ki,Fn]
   exact aR λi _ j _=>if_neg (FN _)
 | t + 1,h=>by
   have ih:=lj (n:=n) s M t (by omega)
   have c:=(gq n).comb (λi j=>if i < t then s i * M i j else M i j) (p:=t) (k:=0) (by omega) (Fg _) (s t) (λ_=>0)
   rw [ih] at c
   rw [ki,Hc (ki s t),GB,<- c]
   refine aR λi _ j _=>?_
   unfold av
   by_cases q:i=t
   · subst q
     rw [if_pos (Ju i),if_pos rfl]
     dsimp only
     rw [if_neg (Fs i)]
     show _=_ + 0
     rw [E7]
   · rw [if_neg q]
     dsimp only
     by_cases z:i < t
     · rw [if_pos (by omega),if_pos z]
     · rw [if_neg (by omega),if_neg z]
noncomputable def p6 (k:Int) (j:Nat):Bool:=decide (Jr (k / 2 ^ j) 1=1)
noncomputable def nF (k:Int) (j:Nat):Int:=JG k (1 * 2 ^ j)
noncomputable def sgZ (b:Int):Int:=1 - 2 * b.fmod 2
noncomputable def kT (row:List Int) (k v:Int) (j:Nat) (s:Int × List (Int × Int)):Int × List (Int × Int):=
 if p6 k j then (s.1 + 1,s.2) else (s.1,fV s.2 (nF k j) ((bI s.2 (nF k j)).getD 0 + sgZ s.1 * row.getD j 0 * v))
noncomputable def cD (n:Nat) (row:List Int) (k v:Int) (kv:List (Int × Int)):Nat->Int × List (Int × Int)
 | 0=>(0,kv)
 | c + 1=>kT row k v (n - 1 - c) (cD n row k v kv c)
noncomputable def bu (n:Nat) (row:List Int) (kv:List (Int × Int)):Nat->List (Int × Int)
 | 0=>[]
 | t + 1=>(cD n row (kv.getD t (0,0)).1 ((bI kv (kv.getD t (0,0)).1).getD 0) (bu n row kv t) n).2
noncomputable def bQ (Ms:List (List Int)):Nat->List (Int × Int)
 | 0=>[(0,1)]
 | i + 1=>bu Ms.length (Ms.getD i []) (bQ Ms i) (bQ Ms i).length
noncomputable def lim:Nat:=2 ^ 3900
noncomputable def okZ (Ms:List (List Int)):Prop:=Ms.length<=7/\(∀ r ∈ Ms,r.length=Ms.length/\∀ x ∈ r,x.natAbs < lim)/\∀ i,i < Ms.length->∀ p ∈ bQ Ms i,p.2.natAbs < lim
noncomputable def BQ (Ms:List (List Int)):Option Int:=open Classical in if okZ Ms then bI (bQ Ms Ms.length) (2 ^ Ms.length - 1) else none
theorem vZ (m:Nat) (Y:Nat->Nat->Rat):det (m + 1) Y=aK (λc=>sgn (m + c) * Y m c * det m λr q=>Y r (skp c q)) (m + 1):=by
 have e1:=sJ (k:=0) (n:=m + 1) m Y (by omega)
 have e2:=zN (m + 1) λr=>Y (rho 0 m r)
 rw [det] at e2
 have r0:rho 0 m 0=m:=by unfold rho; rw [if_neg (by omega),if_pos rfl]; omega
 have rs:∀ r,r < m->rho 0 m (r + 1)=r:=λr hr=>by
   unfold rho
   rw [if_neg (by omega),if_neg (by omega),if_pos (by omega)]
   omega
 have e3:aK (λc=>sgn c * Y m c * det m λr q=>Y r (skp c q)) (m + 1)=sgn m * det (m + 1) Y:=by
   rw [<- e1,<- e2]
   refine aM λc _=>?_
   rw [r0,<- zN m]
   congr 1
   exact aR λr hr q hq=>by
     unfold minor
     dsimp only
     rw [rs q hq]
 have sm:∀ c,sgn (m + c)=sgn m * sgn c:=λc=>by
   induction c with
   | zero=>rw [He,show sgn 0=1 from rfl,Gx]
   | succ c ih=>rw [<- HY,ft,ih,ft]; grind
 have:aK (λc=>sgn (m + c) * Y m c * det m λr q=>Y r (skp c q)) (m + 1)=sgn m * aK (λc=>sgn c * Y m c * det m λr q=>Y r (skp c q)) (m + 1):=by
   rw [bR]
   refine aM λc _=>?_
   rw [sm]
   grind
 rw [this,e3,<- GB,z6,Fn]
noncomputable def eY (M:Nat->Nat->Rat) (L:List Nat):Rat:=det L.length λr c=>M r (L.getD c 0)
theorem rj {M:Nat->Nat->Rat} {L:List Nat} {m:Nat} (h:L.length=m + 1):eY M L=aK (λc=>sgn (m - c) * M m (L.getD c 0) * eY M (L.eraseIdx c)) (m + 1):=by
 unfold eY
 rw [h,vZ]
 refine aM λc hc=>?_
 have e1:sgn (m + c)=sgn (m - c):=by
   unfold sgn
   by_cases z:(m + c) % 2=0
   · rw [if_pos z,if_pos (by omega)]
   · rw [if_neg z,if_neg (by omega)]
 have e2:(L.eraseIdx c).length=m:=by rw [JJ (by omega)]; omega
 rw [e1,e2]
 refine congrArg (λx=>sgn (m - c) * M m (L.getD c 0) * x) (aR λr _ q hq=>?_)
 rw [EB,EB,List.getElem?_eraseIdx]
 unfold skp
 split <;> rfl
noncomputable def cols (n S:Nat):List Nat:=(Eo n).filter λj=>S.testBit j
theorem j8 {n S j:Nat}:j ∈ cols n S ↔ j < n/\S.testBit j=true:=by
 unfold cols
 rw [Hn,EY]
theorem ze {n S j:Nat} (hj:j < n) (h:S.testBit j=false):cols n (S ||| 2 ^ j)=(cols j S)++j :: ((Eo (n - (j + 1))).map (j + 1 + ·)).filter (λk=>S.testBit k):=by
 unfold cols
 obtain ⟨d,rfl⟩:=HX (show j + 1<=n from hj)
 rw [List.range_add,Fz,FA,FA,show j + 1 + d - (j + 1)=d by omega,EX]
 have lo:(Eo j).filter (λk=>(S ||| 2 ^ j).testBit k)=(Eo j).filter λk=>S.testBit k:=G7 λk hk=>by
   have:=EY.mp hk
   rw [Ha,Gb (by omega),HV]
 have hi:((Eo d).map (j + 1 + ·)).filter (λk=>(S ||| 2 ^ j).testBit k)=((Eo d).map (j + 1 + ·)).filter λk=>S.testBit k:=G7 λk hk=>by
   obtain ⟨q,_,rfl⟩:=EL.mp hk
   rw [Ha,Gb (by omega),HV]
 rw [lo,hi,Gn (by rw [Ha,GY,Jk]),GZ]
 rfl
noncomputable def above (n j S:Nat):List Nat:=((Eo (n - (j + 1))).map (j + 1 + ·)).filter λk=>S.testBit k
theorem qi {n S j:Nat} (hj:j < n) (h:S.testBit j=false):cols n S=cols j S++above n j S:=by
 unfold cols above
 obtain ⟨d,rfl⟩:=HX (show j + 1<=n from hj)
 rw [List.range_add,Fz,FA,FA,show j + 1 + d - (j + 1)=d by omega,Gp (by rw [h]; decide),GZ,FC]
theorem jQ {n S j:Nat} (hj:j < n) (h:S.testBit j=false):(cols n (S ||| 2 ^ j)).length=(cols n S).length + 1/\(cols n (S ||| 2 ^ j)).getD (cols j S).length 0=j/\(cols n (S ||| 2 ^ j)).eraseIdx (cols j S).length=cols n S/\(cols n S).length - (cols j S).length=(above n j S).length/\(cols j S).length<=(cols n S).length:=by
 rw [ze hj h,qi hj h]
 refine ⟨by simp only [EC,ET]; rfl,?_,?_,by rw [EC]; omega,by rw [EC]; omega⟩
 · rw [EB,Fi (Ek _),Jm]
   rfl
 · rw [List.eraseIdx_append_of_length_le (Ek _),Jm]
   rfl
theorem uG (n S:Nat):cols (n + 1) S=if S.testBit n then cols n S++[n] else cols n S:=by
 unfold cols
 rw [Fz,FA]
 cases h:S.testBit n with
 | true=>rw [Gn h,GZ,if_pos rfl]
 | false=>rw [Gp (by rw [h]; decide),GZ,FC,if_neg (by decide)]
theorem oq (G:Nat->Nat->Rat) (S:Nat):∀ n,aK (λc=>G c ((cols n S).getD c 0)) (cols n S).length=aK (λj=>if S.testBit j then G (cols j S).length j else 0) n
 | 0=>rfl
 | n + 1=>by
   rw [uG,aK,<- oq G S n]
   cases h:S.testBit n with
   | true=>
     rw [if_pos rfl,if_pos rfl,EC,List.length_singleton,aK]
     have e1:(cols n S++[n]).getD (cols n S).length 0=n:=by
       rw [EB,Fi (Ek _),Jm]
       rfl
     rw [e1]
     refine congrArg (· + G (cols n S).length n) (aM λc hc=>?_)
     rw [EB,EI hc,<- EB]
   | false=>rw [if_neg (by decide),if_neg (by decide),E7]
theorem g8 {S j:Nat} (h:S.testBit j=true):(S ^^^ 2 ^ j).testBit j=false/\(S ^^^ 2 ^ j) ||| 2 ^ j=S/\∀ k,k ≠ j->(S ^^^ 2 ^ j).testBit k=S.testBit k:=by
 have a:∀ k,k ≠ j->(S ^^^ 2 ^ j).testBit k=S.testBit k:=λk hk=>by rw [Nat.testBit_xor,Gb (FE hk),Bool.xor_false]
 have b:(S ^^^ 2 ^ j).testBit j=false:=by rw [Nat.testBit_xor,GY,h]; rfl
 refine ⟨b,IE λk=>?_,a⟩
 rw [Ha]
 by_cases z:k=j
 · subst z
   rw [GY,Jk,h]
 · rw [a k z,Gb (FE z),HV]
theorem uo {M:Nat->Nat->Rat} {n m S:Nat} (h:(cols n S).length=m + 1):eY M (cols n S)=aK (λj=>if S.testBit j then sgn (above n j S).length * M m j * eY M (cols n (S ^^^ 2 ^ j)) else 0) n:=by
 rw [rj h,<- h,oq (λc j=>sgn (m - c) * M m j * eY M ((cols n S).eraseIdx c)) S n]
 refine aM λj hj=>?_
 cases hb:S.testBit j with
 | false=>rfl
 | true=>
   rw [if_pos rfl,if_pos rfl]
   obtain ⟨b1,b2,b3⟩:=g8 hb
   obtain ⟨c1,c2,c3,c4,c5⟩:=jQ hj b1
   rw [b2] at c1 c2 c3
   have l1:cols j (S ^^^ 2 ^ j)=cols j S:=G7 λk hk=>b3 k (by have:=EY.mp hk; omega)
   have l2:above n j (S ^^^ 2 ^ j)=above n j S:=G7 λk hk=>by
     obtain ⟨q,_,rfl⟩:=EL.mp hk
     exact b3 _ (by omega)
   rw [l1] at c3 c4
   rw [l2] at c4
   rw [c3,<- c4,show (cols n (S ^^^ 2 ^ j)).length=m by omega]
theorem B4 (S j:Nat):p6 (S:Int) j=S.testBit j:=by
 unfold p6
 have e:(S:Int) / 2 ^ j=((S / 2 ^ j:Nat):Int):=by simp
 rw [e,PyProof.Rows.bitAnd_pp (F9 _) (by decide),Ey,Nat.testBit_eq_decide_div_mod_eq]
 have:(S / 2 ^ j) &&& (1:Int).toNat=S / 2 ^ j % 2:=by show (S / 2 ^ j) &&& 1=_; rw [Nat.and_one_is_mod]
 rw [this]
 congr 1
 rw [eq_iff_iff]
 omega
theorem CL (S j:Nat):nF (S:Int) j=((S ||| 2 ^ j:Nat):Int):=by
 unfold nF
 have e:(1:Int) * 2 ^ j=((2 ^ j:Nat):Int):=by simp
 rw [e]
 generalize 2 ^ j=y
 unfold Builtin.bitOr
 have h1:¬ (0<=Ij (S:Int)):=by unfold Builtin.bitNot; omega
 have h2:¬ (0<=Ij (y:Int)):=by unfold Builtin.bitNot; omega
 rw [PyProof.Rows.bitAnd_nn h1 h2]
 have h3:∀ x:Int,Ij (Ij x)=x:=λx=>by unfold Builtin.bitNot; omega
 rw [h3,h3,h3,Ey,Ey]
theorem DW (k:Nat):((sgZ (k:Int):Int):Rat)=sgn k:=by
 unfold sgZ sgn
 rw [GG _ (by decide)]
 by_cases h:k % 2=0
 · rw [if_pos h,show (k:Int) % 2=0 by omega]; rfl
 · rw [if_neg h,show (k:Int) % 2=1 by omega]; rfl
theorem mJ (kv:List (Int × Int)) (k v j:Int):bI (fV kv k v) j=if j=k then some v else bI kv j:=by
 have e:=uY (Ev.cu kv) (G0 k) (G0 j) (V.int v)
 rw [rP,gS,gS] at e
 by_cases h:j=k
 · rw [if_pos (congrArg G0 h)] at e
   rw [if_pos h]
   cases z:bI (fV kv k v) j with
   | none=>rw [z] at e; cases e
   | some x=>rw [z] at e; cases e; rfl
 · rw [if_neg (λz=>h (Ji z))] at e
   rw [if_neg h]
   cases z:bI (fV kv k v) j <;> cases z':bI kv j <;> rw [z,z'] at e <;> cases e <;> rfl
theorem oX (kv:List (Int × Int)) (k v:Int):(fV kv k v).map (·.1)=if (kv.any λp=>decide (p.1=k))=true then kv.map (·.1) else kv.map (·.1)++[k]:=by
 unfold fV
 split
 · rw [EU]
   refine Fb λp _=>?_
   simp only [Gv]
   split <;> rfl
 · rw [EW]; rfl
theorem AV {kv:List (Int × Int)} {k v:Int} (h:(kv.map (·.1)).Nodup):((fV kv k v).map (·.1)).Nodup:=by
 rw [oX]
 split
 · exact h
 · rename_i z
   rw [Jf]
   refine ⟨h,by simp,λa ha b hb e=>z ?_⟩
   obtain ⟨p,hp,rfl⟩:=EL.mp ha
   rw [Em] at hb
   exact Jp.mpr ⟨p,hp,decide_eq_true (e.trans hb)⟩
theorem xN {kv:List (Int × Int)} {k v x:Int} (h:x ∈ (fV kv k v).map (·.1)):x=k\/x ∈ kv.map (·.1):=by
 rw [oX] at h
 split at h
 · exact .inr h
 · rcases Ff.mp h with h | h
   · exact .inr h
   · exact .inl (Em.mp h)
theorem qg:∀ {kv:List (Int × Int)} {q:Int × Int},(kv.map (·.1)).Nodup->q ∈ kv->bI kv q.1=some q.2
 | p :: t,q,h,hq=>by
   rw [Er,F4] at h
   unfold bI
   by_cases z:p.1=q.1
   · rw [Ie (by simp [z])]
     rcases EE.mp hq with e | hq
     · rw [e]; rfl
     · exact absurd (EL.mpr ⟨q,hq,z.symm⟩) h.1
   · rw [Ig (by simp [z])]
     rcases EE.mp hq with e | hq
     · exact absurd (by rw [e]) z
     · exact qg h.2 hq
theorem v5:∀ {kv:List (Int × Int)} {k v:Int},bI kv k=some v->(k,v) ∈ kv
 | p :: t,k,v,h=>by
   unfold bI at h
   by_cases z:p.1=k
   · rw [Ie (by simp [z])] at h
     cases h
     rw [<- z]
     exact Es ..
   · rw [Ig (by simp [z])] at h
     exact Ep _ (v5 h)
noncomputable def gv (kv:List (Int × Int)) (k:Int):Rat:=(((bI kv k).getD 0:Int):Rat)
theorem A1 (kv:List (Int × Int)) (k j x:Int):gv (fV kv k ((bI kv k).getD 0 + x)) j=gv kv j + if j=k then (x:Rat) else 0:=by
 unfold gv
 rw [mJ]
 by_cases h:j=k
 · rw [if_pos h,if_pos h,h,HM,Hr]
 · rw [if_neg h,if_neg h,E7]
theorem qS {n j S:Nat} (h:j + 1 < n):(above n j S).length=(if S.testBit (j + 1) then 1 else 0) + (above n (j + 1) S).length:=by
 unfold above
 obtain ⟨d,rfl⟩:=HX (show j + 2<=n from h)
 rw [show j + 2 + d - (j + 1)=d + 1 by omega,show j + 2 + d - (j + 1 + 1)=d by omega,Ic,Er,EU,Jo]
 have e:(Eo d).map ((j + 1 + ·) ∘ Nat.succ)=(Eo d).map (j + 1 + 1 + ·):=Fb λk _=>by simp only [Gv]; omega
 rw [e,He]
 split
 · rw [ET]; omega
 · omega
theorem qW {n S:Nat}:(above (n + 1) n S).length=0:=by
 unfold above
 rw [show n + 1 - (n + 1)=0 by omega]
 rfl
theorem jP (g:Nat->Rat):∀ n,aK g (n + 1)=g 0 + aK (λk=>g (k + 1)) n
 | 0=>by simp only [aK,E7,HA]
 | n + 1=>by
   rw [aK,jP g n,aK,HW]
theorem pd (f:Nat->Rat):∀ n,aK (λt=>f (n - 1 - t)) n=aK f n
 | 0=>rfl
 | n + 1=>by
   rw [jP,aK,Rat.add_comm,show n + 1 - 1 - 0=n by omega,<- pd f n]
   refine congrArg (· + f n) (aM λk hk=>?_)
   rw [show n + 1 - 1 - (k + 1)=n - 1 - k by omega]
noncomputable def p8 (n S:Nat):Nat->Nat
 | 0=>0
 | c + 1=>p8 n S c + if S.testBit (n - 1 - c) then 1 else 0
theorem lK {n S:Nat}:∀ c,c < n->p8 n S c=(above n (n - 1 - c) S).length
 | 0,h=>by
   obtain ⟨m,rfl⟩:=Nat.exists_eq_succ_of_ne_zero (show n ≠ 0 by omega)
   rw [show m.succ - 1 - 0=m by omega,qW]
   rfl
 | c + 1,h=>by
   rw [p8,lK c (by omega),qS (n:=n) (j:=n - 1 - (c + 1)) (by omega),show n - 1 - (c + 1) + 1=n - 1 - c by omega]
   omega
noncomputable def evQ (n:Nat) (row:List Int) (S:Nat) (v:Rat) (T:Int) (j:Nat):Rat:=if S.testBit j then 0 else if T=((S ||| 2 ^ j:Nat):Int) then sgn (above n j S).length * ((row.getD j 0:Int):Rat) * v else 0
structure CI (n S:Nat) (row:List Int) (v:Int) (lk:List (Int × Int)) (c:Nat) (r:Int × List (Int × Int)):Prop where
 cnt:r.1=(p8 n S c:Nat)
 val:∀ T,gv r.2 T=gv lk T + aK (λt=>evQ n row S v T (n - 1 - t)) c
 key:∀ x ∈ r.2.map (·.1),x ∈ lk.map (·.1)\/∃ j,j < n/\S.testBit j=false/\x=((S ||| 2 ^ j:Nat):Int)
 nd:(r.2.map (·.1)).Nodup
 old:∀ T,bI lk T ≠ none->bI r.2 T ≠ none
 new:∀ t < c,S.testBit (n - 1 - t)=false->bI r.2 ((S ||| 2 ^ (n - 1 - t):Nat):Int) ≠ none
theorem tG {n S:Nat} {row:List Int} {v:Int} {lk:List (Int × Int)} (hn:(lk.map (·.1)).Nodup):∀ c,c<=n->CI n S row v lk c (cD n row (S:Int) v lk c)
 | 0,_=>⟨rfl,λT=>by rw [aK,E7]; rfl,λx h=>.inl h,hn,λ_ h=>h,λt h=>by omega⟩
 | c + 1,hc=>by
   obtain ⟨h1,h2,h3,h4,h5,h6⟩:=tG (n:=n) (S:=S) (row:=row) (v:=v) hn c (by omega)
   rw [cD,kT,B4,CL]
   generalize cD n row (S:Int) v lk c=r at h1 h2 h3 h4 h5 h6 ⊢
   cases hb:S.testBit (n - 1 - c) with
   | true=>
     rw [if_pos rfl]
     refine ⟨by dsimp only; rw [h1,p8,hb,if_pos rfl]; omega,λT=>?_,h3,h4,h5,λt ht hf=>?_⟩
     · rw [aK,evQ,if_pos hb,E7]; exact h2 T
     · rcases HB t c with z | z
       · exact h6 t z hf
       · obtain rfl:t=c:=by omega
         rw [hb] at hf; cases hf
   | false=>
     rw [if_neg (by decide)]
     refine ⟨by dsimp only; rw [h1,p8,hb]; rfl,λT=>?_,λx hx=>?_,AV h4,λT hT=>?_,λt ht hf=>?_⟩
     · dsimp only
       have e:evQ n row S v T (n - 1 - c)=if T=((S ||| 2 ^ (n - 1 - c):Nat):Int) then sgn (p8 n S c) * ((row.getD (n - 1 - c) 0:Int):Rat) * v else 0:=by
         unfold evQ
         rw [if_neg (by rw [hb]; decide),<- lK (n:=n) (S:=S) c (by omega)]
       rw [A1,h2,aK,<- HW,e,h1,EJ,EJ,DW]
     · rcases xN hx with e | e
       · exact .inr ⟨n - 1 - c,by omega,hb,e⟩
       · exact h3 x e
     · dsimp only
       rw [mJ]
       split
       · exact nofun
       · exact h5 T hT
     · dsimp only
       rw [mJ]
       split
       · exact nofun
       · rename_i z
         rcases HB t c with y | y
         · exact h6 t y hf
         · obtain rfl:t=c:=by omega
           exact absurd rfl z
structure MI (n:Nat) (row:List Int) (Sf:Nat->Nat) (vf:Nat->Rat) (t:Nat) (r:List (Int × Int)):Prop where
 val:∀ T,gv r T=aK (λs=>aK (evQ n row (Sf s) (vf s) T) n) t
 key:∀ x ∈ r.map (·.1),∃ s < t,∃ j,j < n/\(Sf s).testBit j=false/\x=((Sf s ||| 2 ^ j:Nat):Int)
 nd:(r.map (·.1)).Nodup
 new:∀ s < t,∀ j < n,(Sf s).testBit j=false->bI r ((Sf s ||| 2 ^ j:Nat):Int) ≠ none
theorem n9 {n:Nat} {row:List Int} {kv:List (Int × Int)} {Sf:Nat->Nat} (hS:∀ s < kv.length,(kv.getD s (0,0)).1=(Sf s:Int)):∀ t,t<=kv.length->MI n row Sf (λs=>gv kv (Sf s)) t (bu n row kv t)
 | 0,_=>⟨λT=>rfl,λx h=>by simp [bu] at h,by simp [bu],λs h=>by omega⟩
 | t + 1,ht=>by
   obtain ⟨h1,h2,h3,h4⟩:=n9 (n:=n) (row:=row) hS t (by omega)
   rw [bu,hS t (by omega)]
   generalize bu n row kv t=r at h1 h2 h3 h4 ⊢
   obtain ⟨_,c2,c3,c4,c5,c6⟩:=tG (n:=n) (S:=Sf t) (row:=row) (v:=(bI kv (Sf t:Int)).getD 0) h3 n (Ek _)
   refine ⟨λT=>?_,λx hx=>?_,c4,λs hs j hj hf=>?_⟩
   · rw [c2,h1,aK,pd (evQ n row (Sf t) _ T)]
     rfl
   · rcases c3 x hx with e | ⟨j,e⟩
     · obtain ⟨s,hs,e⟩:=h2 x e
       exact ⟨s,by omega,e⟩
     · exact ⟨t,by omega,j,e⟩
   · rcases HB s t with z | z
     · exact c5 _ (h4 s z j hj hf)
     · obtain rfl:s=t:=by omega
       have:=c6 (n - 1 - j) (by omega)
       rw [show n - 1 - (n - 1 - j)=j by omega] at this
       exact this hf
structure RI (n i:Nat) (M:Nat->Nat->Rat) (kv:List (Int × Int)):Prop where
 key:∀ x ∈ kv.map (·.1),∃ S:Nat,x=(S:Int)/\S < 2 ^ n/\(cols n S).length=i
 nd:(kv.map (·.1)).Nodup
 all:∀ S:Nat,S < 2 ^ n->(cols n S).length=i->bI kv (S:Int) ≠ none/\gv kv (S:Int)=eY M (cols n S)
theorem wQ {S T j:Nat} (h:S.testBit j=false) (e:T=S ||| 2 ^ j):T.testBit j=true/\S=T ^^^ 2 ^ j:=by
 have h1:T.testBit j=true:=by rw [e,Ha,GY,Jk]
 refine ⟨h1,IE λk=>?_⟩
 obtain ⟨b1,_,b3⟩:=g8 h1
 by_cases z:k=j
 · subst z; rw [h,b1]
 · rw [b3 k z,e,Ha,Gb (FE z),HV]
theorem RI.step {n i:Nat} {M:Nat->Nat->Rat} {kv:List (Int × Int)} {row:List Int} (h:RI n i M kv) (hr:∀ j < n,((row.getD j 0:Int):Rat)=M i j):RI n (i + 1) M (bu n row kv kv.length):=by
 have hS:∀ s < kv.length,(kv.getD s (0,0)).1=((kv.getD s (0,0)).1.toNat:Int)/\(kv.getD s (0,0)).1.toNat < 2 ^ n/\(cols n (kv.getD s (0,0)).1.toNat).length=i:=λs hs=>by
   have hm:kv.getD s (0,0) ∈ kv:=by rw [EB,El hs]; exact Fe hs
   obtain ⟨S,e1,e2,e3⟩:=h.key _ (EL.mpr ⟨_,hm,rfl⟩)
   rw [e1,Ey]
   exact ⟨rfl,e2,e3⟩
 obtain ⟨m1,m2,m3,m4⟩:=n9 (n:=n) (row:=row) (kv:=kv) (Sf:=λs=>(kv.getD s (0,0)).1.toNat) (λs hs=>(hS s hs).1) kv.length (Ek _)
 have off:∀ {T j:Nat},T < 2 ^ n->(cols n T).length=i + 1->j < n->T.testBit j=true->T ^^^ 2 ^ j < 2 ^ n/\(cols n (T ^^^ 2 ^ j)).length=i/\∃ s < kv.length,(kv.getD s (0,0)).1.toNat=T ^^^ 2 ^ j:=λ{T j} hT hl hj hb=>by
   obtain ⟨b1,b2,_⟩:=g8 hb
   have l1:T ^^^ 2 ^ j < 2 ^ n:=Nat.xor_lt_two_pow hT (GH (by decide) hj)
   have l2:=(jQ hj b1).1
   rw [b2,hl] at l2
   refine ⟨l1,by omega,?_⟩
   obtain ⟨q,_⟩:=h.all _ l1 (by omega)
   cases z:bI kv ((T ^^^ 2 ^ j:Nat):Int) with
   | none=>exact absurd z q
   | some v=>
     obtain ⟨s,hs⟩:=List.getElem?_of_mem (v5 z)
     refine ⟨s,(Ew.mp hs).1,?_⟩
     rw [EB,hs]
     show (((T ^^^ 2 ^ j:Nat):Int)).toNat=_
     rw [Ey]
 refine ⟨λx hx=>?_,m3,λT hT hl=>⟨?_,?_⟩⟩
 · obtain ⟨s,hs,j,hj,hf,rfl⟩:=m2 x hx
   obtain ⟨_,e2,e3⟩:=hS s hs
   exact ⟨_,rfl,Nat.or_lt_two_pow e2 (GH (by decide) hj),by rw [(jQ hj hf).1,e3]⟩
 · obtain ⟨j,hj⟩:=List.exists_mem_of_length_pos (l:=cols n T) (by omega)
   obtain ⟨hj,hb⟩:=j8.mp hj
   obtain ⟨_,_,s,hs,e⟩:=off hT hl hj hb
   obtain ⟨b1,b2,_⟩:=g8 hb
   have:=m4 s hs j hj
   try dsimp only at this
   rw [e,b2] at this
   exact this b1
 · rw [m1,iJ (λs j=>evQ n row (kv.getD s (0,0)).1.toNat (gv kv ((kv.getD s (0,0)).1.toNat:Int)) (T:Int) j) n kv.length,uo hl]
   refine aM λj hj=>?_
   cases hb:T.testBit j with
   | false=>
     rw [if_neg (by decide)]
     refine fL λs hs=>?_
     unfold evQ
     cases hf:(kv.getD s (0,0)).1.toNat.testBit j with
     | true=>rw [if_pos rfl]
     | false=>
       rw [if_neg (by decide),if_neg λz=>?_]
       have:=(wQ hf (Int.ofNat.inj z)).1
       rw [hb] at this; cases this
   | true=>
     rw [if_pos rfl]
     obtain ⟨l1,l2,s0,hs0,e0⟩:=off hT hl hj hb
     obtain ⟨b1,b2,b3⟩:=g8 hb
     have ea:above n j (T ^^^ 2 ^ j)=above n j T:=G7 λk hk=>by
       obtain ⟨q,_,rfl⟩:=EL.mp hk
       exact b3 _ (by omega)
     rw [<- (h.all _ l1 l2).2,<- hr j hj,<- ea,<- fM (λ_=>sgn (above n j (T ^^^ 2 ^ j)).length * ((row.getD j 0:Int):Rat) * gv kv ((T ^^^ 2 ^ j:Nat):Int)) s0 kv.length hs0]
     refine aM λs hs=>?_
     unfold evQ dq
     by_cases z:s=s0
     · subst z
       rw [e0,b1,b2,if_neg (by decide),if_pos rfl,if_pos rfl,Gx]
     · rw [if_neg z,FL]
       cases hf:(kv.getD s (0,0)).1.toNat.testBit j with
       | true=>rw [if_pos rfl]
       | false=>
         rw [if_neg (by decide),if_neg λy=>z ?_]
         have e1:=(wQ hf (Int.ofNat.inj y)).2
         have e2:(kv.map (·.1))[s]?=(kv.map (·.1))[s0]?:=by
           have g:∀ s < kv.length,(kv.map (·.1))[s]?=some (kv.getD s (0,0)).1:=λs hs=>by
             rw [E5,EB,El hs]; rfl
           rw [g s hs,g s0 hs0,(hS s hs).1,(hS s0 hs0).1,e1,e0]
         exact (List.getElem?_inj (by rw [Ei]; exact hs) h.nd).mp e2
theorem RI.zero (n:Nat) (M:Nat->Nat->Rat):RI n 0 M [(0,1)]:=by
 have c0:∀ S:Nat,S < 2 ^ n->(cols n S).length=0->S=0:=λS hS h=>IE λk=>by
   rw [Nat.zero_testBit]
   rcases HB k n with z | z
   · cases hb:S.testBit k with
     | false=>rfl
     | true=>
       have:=j8.mpr ⟨z,hb⟩
       rw [HQ.mp h] at this
       cases this
   · exact Nat.testBit_lt_two_pow (EG hS (E8 (by decide) z))
 refine ⟨λx hx=>⟨0,?_,Gi n,?_⟩,by simp,λS hS h=>?_⟩
 · simpa using hx
 · unfold cols
   rw [List.filter_eq_nil_iff.mpr λa _=>by rw [Nat.zero_testBit]; decide]
   rfl
 · obtain rfl:=c0 S hS h
   refine ⟨nofun,?_⟩
   rw [eY,h]
   rfl
theorem jj {n:Nat} {M:Nat->Nat->Rat} {Ms:List (List Int)} (hl:Ms.length=n) (hM:∀ i < n,∀ j < n,(((Ms.getD i []).getD j 0:Int):Rat)=M i j):∀ i,i<=n->RI n i M (bQ Ms i)
 | 0,_=>RI.zero n M
 | i + 1,h=>by
   rw [bQ,hl]
   exact (jj hl hM i (by omega)).step (hM i (by omega))
theorem zi {n b:Nat} {M:Nat->Nat->Rat} (hn:n<=7) (hM:∀ i < n,∀ j < n,ZB b (M i j)) {S:Nat}:ZB (n * (b + 3)) (eY M (cols n S)):=by
 unfold eY
 have hl:(cols n S).length<=n:=by
   have:=Io (λj=>S.testBit j) (Eo n)
   rw [EN] at this
   exact this
 refine (xF (b:=b) (by omega) λi hi j hj=>hM i (by omega) _ ?_).mono (Fd _ hl)
 rw [EB,El hj]
 exact (j8.mp (Fe hj)).1
set_option exponentiation.threshold 4000 in
theorem AY {n b:Nat} {M:Nat->Nat->Rat} {Ms:List (List Int)} (hn:n<=7) (hl:Ms.length=n) (hr:∀ r ∈ Ms,r.length=n/\∀ x ∈ r,x.natAbs<=2 ^ b) (hM:∀ i < n,∀ j < n,(((Ms.getD i []).getD j 0:Int):Rat)=M i j) (hb:n * (b + 3)<=3800) (hb':b<=3800) :
   ∃ d:Int,BQ Ms=some d/\(d:Rat)=det n M:=by
 have zb:∀ i < n,∀ j < n,ZB b (M i j):=λi hi j hj=>by
   have h1:i < Ms.length:=by omega
   have h2:Ms.getD i [] ∈ Ms:=by rw [EB,El h1]; exact Fe h1
   refine ⟨_,(hM i hi j hj).symm,(hr _ h2).2 _ ?_⟩
   have h3:j < (Ms.getD i []).length:=by rw [(hr _ h2).1]; exact hj
   rw [EB (l:=Ms.getD i []),El h3]
   exact Fe h3
 have lm:∀ {x c:Nat},x<=2 ^ c->c<=3800->x < lim:=λ{x c} h hc=>EV h (GH (by decide) (by omega))
 have ok:okZ Ms:=by
   refine ⟨by omega,λr h=>⟨by rw [hl]; exact (hr r h).1,λx hx=>lm ((hr r h).2 x hx) hb'⟩,λi hi p hp=>?_⟩
   have R:=jj hl hM i (by omega)
   obtain ⟨S,e1,e2,e3⟩:=R.key _ (EL.mpr ⟨p,hp,rfl⟩)
   have e4:=(R.all S e2 e3).2
   rw [<- e1] at e4
   unfold gv at e4
   rw [qg R.nd hp,HM] at e4
   obtain ⟨z,e5,e6⟩:=zi (S:=S) hn zb
   rw [e5] at e4
   rw [Ir.mp e4]
   exact lm e6 hb
 have R:=jj hl hM n (Ek _)
 have bits:cols n (2 ^ n - 1)=Eo n:=II.mpr λk hk=>by
   rw [Nat.testBit_two_pow_sub_one]
   exact decide_eq_true (EY.mp hk)
 have p2:=Gi n
 obtain ⟨q1,q2⟩:=R.all (2 ^ n - 1) (by omega) (by rw [bits,EN])
 have e1:((2 ^ n - 1:Nat):Int)=2 ^ n - 1:=by rw [Int.natCast_sub p2]; simp
 unfold BQ
 rw [if_pos ok,hl,<- e1]
 cases z:bI (bQ Ms n) ((2 ^ n - 1:Nat):Int) with
 | none=>exact absurd z q1
 | some d=>
   refine ⟨d,rfl,?_⟩
   unfold gv at q2
   rw [z,HM] at q2
   rw [q2,eY,bits,EN]
   refine aR λi hi j hj=>?_
   rw [EB,List.getElem?_range hj]
   rfl
section
variable {P:Program} {w:World} {K:Ej} {mg:Str->Option Value} {base:Heap} {k:Nat} {f:Addr} {fd:FuncData} {qual:Str}
end
noncomputable def jT:Int->List Int->List Int
 | _,[]=>[]
 | c,b :: r=>c.fmod b :: jT (c.fdiv b) r
noncomputable def zg (c:Int) (bs:List Int):Int:=bs.foldl (λc b=>c.fdiv b) c
noncomputable def Ak (c:Int) (k:Nat) (b:Int):Int:=(((((c * 48271 + (k:Int) * k * 69621 + (k:Int) * 16807 + 11).fmod 2147483647) * 40692 + c + 31 * (k:Int)).fmod 2147483399).fdiv 7).fmod b
noncomputable def yO (c:Int) (bs:List Int):List Int:=(Eo bs.length).map λk=>Ak c k (bs.getD k 0)
noncomputable def nums (c:Int) (bs:List Int):List Int:=if (10:Int) ^ (18:Int).toNat<=yU c then jT c bs else yO c bs
theorem lF:∀ (bs:List Int) (c b:Int),jT c (bs++[b])=jT c bs++[(zg c bs).fmod b]
 | [],_,_=>rfl
 | a :: bs,c,b=>by rw [Hi,jT,jT,lF bs]; rfl
theorem j9:∀ (bs:List Int) (c:Int),(jT c bs).length=bs.length
 | [],_=>rfl
 | _ :: bs,c=>congrArg (· + 1) (j9 bs _)
theorem gF (c:Int) (bs:List Int):(nums c bs).length=bs.length:=by
 unfold nums
 split
 · exact j9 bs c
 · simp [yO]
theorem rL:∀ (bs:List Int) (c:Int),(∀ b ∈ bs,0 < b)->∀ (i:Nat),i < bs.length->0<=(jT c bs).getD i 0/\(jT c bs).getD i 0 < bs.getD i 0
 | b :: bs,c,h,0,_=>by
   have:=h b (Es ..)
   exact ⟨Ih c this,Jd c this⟩
 | b :: bs,c,h,i + 1,hi=>by
   have:=rL bs (c.fdiv b) (λx hx=>h x (Ep _ hx)) i (by simpa using hi)
   simpa [jT] using this
theorem fU {c:Int} {bs:List Int} (h:∀ b ∈ bs,0 < b) {i:Nat} (hi:i < bs.length):0<=(nums c bs).getD i 0/\(nums c bs).getD i 0 < bs.getD i 0:=by
 unfold nums
 split
 · exact rL bs c h i hi
 · have hp:0 < bs.getD i 0:=h _ (by simp [hi])
   have e:(yO c bs).getD i 0=Ak c i (bs.getD i 0):=by simp [yO,hi]
   rw [e]
   exact ⟨Ih _ hp,Jd _ hp⟩
theorem take_snoc {α:Type} {xs:List α} {i:Nat} (d:α) (h:i < xs.length):xs.take (i + 1)=xs.take i++[xs.getD i d]:=by
 rw [List.take_add_one,El h]
 simp [h]
theorem qG {b:Int} (h0:0 < b) (h:b < 2 ^ 60):0 < b/\aH b:=⟨h0,mkD (by omega) (by omega)⟩
noncomputable def bN (ds:List D) (r:Sl):Prop:=∃ (c:Int) (bs:List Int),ds=[.int c,.lst (bs.map .int)]/\bs.length<=10000/\(∀ b ∈ bs,0 < b/\aH b)/\r=.o ((nums c bs).map .int)
noncomputable def tpD (c:List Int):D:=.tup (c.map .int)
noncomputable def qj (cs:List (List Int)):D:=.lst (cs.map tpD)
noncomputable def ke (c:List Int):Int:=c.getD (c.length - 1) 0
noncomputable def lea (t:Nat) (c:List Int):Int:=if 0 < t then ke c + 1 else 0
noncomputable def onC (n t:Nat) (c:List Int):List (List Int):=(Eo ((n:Int) - lea t c).toNat).map λk=>c++[lea t c + (k:Nat)]
noncomputable def chs (n:Nat):Nat->List (List Int)
 | 0=>[[]]
 | t + 1=>(chs n t).flatMap (onC n t)
structure Chs (n t:Nat) (c:List Int):Prop where
 len:c.length=t
 at_:∀ i,i < t->0<=c.getD i 0/\c.getD i 0 < n
theorem v9 {c:List Int} {x:Int} {i:Nat}:(c++[x]).getD i 0=if i < c.length then c.getD i 0 else if i=c.length then x else 0:=by
 by_cases h:i < c.length
 · rw [if_pos h]; simp [Fh,EI h]
 · rw [if_neg h]
   by_cases e:i=c.length
   · subst e; simp
   · rw [if_neg e]
     simp [Fh]
     rw [Hb (by simp; omega)]
     rfl
theorem pX {n t:Nat} {c:List Int} (h:Chs n t c):0<=lea t c/\lea t c<=n:=by
 unfold lea
 by_cases ht:0 < t
 · have:=h.at_ (t - 1) (by omega)
   rw [if_pos ht,ke,h.len]
   omega
 · rw [if_neg ht]; omega
theorem iQ (n:Nat):∀ t,∀ c ∈ chs n t,Chs n t c
 | 0,c,h=>by
   rw [chs,Em] at h
   subst h
   exact ⟨rfl,λi hi=>absurd hi (by omega)⟩
 | t + 1,c,h=>by
   rw [chs,Hg] at h
   obtain ⟨d,hd,hc⟩:=h
   have ih:=iQ n t d hd
   have hl:=pX ih
   unfold onC at hc
   obtain ⟨k,hk,rfl⟩:=EL.mp hc
   rw [EY] at hk
   refine ⟨by rw [EC,ih.len]; rfl,λi hi=>?_⟩
   rw [v9,ih.len]
   by_cases e:i < t
   · rw [if_pos e]; exact ih.at_ i e
   · rw [if_neg e,if_pos (by omega)]; omega
theorem mZ {n t:Nat} {c:List Int} (h:Chs n t c):(onC n t c).length<=n:=by
 have:=pX h
 simp [onC]
 omega
theorem hJ {α β:Type} (f:α->List β) (m:Nat):∀ xs:List α,(∀ x ∈ xs,(f x).length<=m)->(xs.flatMap f).length<=xs.length * m
 | [],_=>by simp
 | x :: xs,h=>by
   rw [Jg,EC,ET,F1]
   have:=h x (Es ..)
   have:=hJ f m xs λy hy=>h y (Ep _ hy)
   omega
theorem mU {n:Nat} (hn:n<=7):∀ t,(chs n t).length<=7 ^ t
 | 0=>by simp [chs]
 | t + 1=>by
   rw [chs]
   have:=hJ (onC n t) 7 (chs n t) λc hc=>EH (mZ (iQ n t c hc)) hn
   have:=mU hn t
   rw [Nat.pow_succ]
   omega
noncomputable def eF (ds:List D) (r:Sl):Prop:=∃ n t:Nat,ds=[.int n,.int t]/\n<=7/\t<=7/\r=.d (qj (chs n t))
theorem vL {cs:List (List Int)} (i:Nat) (h:i < (cs.map tpD).length):(cs.map tpD)[i]=tpD (cs.getD i []):=by
 have:i < cs.length:=by simpa using h
 simp [this]
theorem jw {α:Type} {xs:List α} {i:Nat} {d:α} (h:i < xs.length):xs.getD i d ∈ xs:=by simp [h]
theorem nH {c:List Int} (h:c ≠ []):atI (c.map D.int) (-1)=some (.int (ke c)):=by
 have hl:0 < c.length:=GR.mpr h
 unfold atI ixN ke
 rw [if_neg (by decide),if_pos (by rw [Ei]; omega),Ei]
 simp only [Je]
 have e:(-1 + (c.length:Int)).toNat=c.length - 1:=by omega
 rw [e]
 simp [(by omega:c.length - 1 < c.length)]
section
variable {P:Program} {w:World} {K:Ej} {mg:Str->Option Value} {base:Heap} {k:Nat} {f:Addr} {fd:FuncData} {qual:Str}
theorem me (F:Fun K "_law_numbers" qual (top 49) f fd) (hb:∀ x ∈ ao,mg x=none):aS P w K mg base CX0 (k + 1) f fd ["_law_cell_here","_law_bases"] (spD K bN):=by
 refine fnD F gU hb (by rintro _ _ ⟨_,_,rfl,_⟩; rfl) ?_
 rintro _ _ ⟨c,bs,rfl,hl,hbs,rfl⟩ cdv A outer s H E b
 have nd:=gU.nd
 have hp:∀ i,i < bs.length->0 < bs.getD i 0/\aH (bs.getD i 0):=λi hi=>hbs _ (by simp [hi])
 refine aB 2 nd (bq ag) ?_
 refine cY (aN (bK b (ae (aa 0) ag) o9) (aC af af (xn ⟨by decide,by decide,by decide⟩)) yn) (λh=>?_) λh=>?_
 · refine bU 3 (λi τ=>∃ s3,τ=[.d (.int (zg c (bs.take i))),.d (.lst (bs.map .int)),.o ((jT c (bs.take i)).map .int),s3,.un,.un]) b nd (a4 (aa 1)) kG ⟨_,rfl⟩ (λi hi τ h=>?_) λτ h=>?_
   · obtain ⟨s3,rfl⟩:=h
     have hi:i < bs.length:=by simpa using hi
     obtain ⟨p1,p2⟩:=hp i hi
     refine lD 2 (aC (aa 0) (aa 3) (cb (by omega))) ?_ ?_
     · rw [Ei,j9,E1]; omega
     refine aB 0 nd (aC (aa 0) (aa 3) (bt p2)) (aQ ?_)
     apply ex1
     show [Sl.d (.int ((zg c (bs.take i)).fdiv (bs.getD i 0))),_,Sl.o _,_,_,_]=_
     rw [take_snoc 0 hi,lF,EW]
     unfold zg
     rw [Gh]
     rfl
   · obtain ⟨s3,rfl⟩:=h
     refine nJ 2 ?_
     rw [Ei,ED (Ek _)]
     unfold nums
     rw [if_pos (of_decide_eq_true h)]
 · refine iA 4 3 (λi τ=>∃ s3 s4 s5,τ=[.d (.int c),.d (.lst (bs.map .int)),.o (((Eo i).map λk=>Ak c k (bs.getD k 0)).map .int),s3,s4,s5]) b nd (lX b (aa 1)) zI ⟨_,_,_,rfl⟩ (λi hi τ h=>?_) λτ h=>?_
   · obtain ⟨s3,s4,s5,rfl⟩:=h
     have hi:i < bs.length:=by rw [a9,Ei] at hi; exact hi
     obtain ⟨p1,p2⟩:=hp i hi
     refine aB 5 nd (aC (aC (aC (aC (aC (aa 0) af (a7 (mkR (by decide)))) (aC (aC (aa 4) (aa 4) (a7 (mkL (by omega)))) af (a7 (mkR (by decide)))) a5) (aC (aa 4) af (a7 (mkR (by decide)))) a5) af a5) af (cb (by decide))) ?_
     refine lD 2 (aC (aC (aC (aC (aC (aC (aa 5) af (a7 (mkR (by decide)))) (aa 0) a5) (aC af (aa 4) (a7 (mkL (by decide)))) a5) af (cb (by decide))) af (bt (mkD (by decide) (by decide)))) (aa 3) (cb (by omega))) ?_ (aQ ?_)
     · rw [Ei,Ei,EN]; omega
     apply ex3
     rw [Fz,EW,EW]
     rfl
   · obtain ⟨s3,s4,s5,rfl⟩:=h
     refine nJ 2 ?_
     rw [a9,Ei]
     unfold nums
     rw [if_neg (of_decide_eq_false h)]
     rfl
theorem kL (F:Fun K "choices_of" qual (top 20) f fd) (hb:∀ x ∈ ao,mg x=none):aS P w K mg base CX0 (k + 1) f fd ["many","size"] (spD K eF):=by
 refine fnD F gb hb (by rintro _ _ ⟨_,_,rfl,_⟩; rfl) ?_
 rintro _ _ ⟨n,t,rfl,hn,ht,rfl⟩ cdv A outer s H E b
 have nd:=gb.nd
 refine aB 2 nd (a8 (bq (ae (cC ag) ag))) ?_
 refine bU 3 (λi τ=>∃ s3 s4 s5 s6,τ=[.d (.int n),.d (.int t),.d (qj (chs n i)),s3,s4,s5,s6]) b nd (iV b (aa 1) (by omega) (by omega)) i0 ⟨.un,.un,.un,.un,rfl⟩ (λi hi τ h=>?_) λτ h=>?_
 · obtain ⟨s3,s4,s5,s6,rfl⟩:=h
   have hi:i < t:=by rw [aO] at hi; omega
   have l1:=mU hn i
   have l2:7 ^ i<=7 ^ 6:=E8 (by decide) (by omega)
   refine aB 4 nd (bq ag) ?_
   refine bU 5 (g:=λl=>tpD ((chs n i).getD l [])) (λl τ=>∃ s5 s6,τ=[.d (.int n),.d (.int t),.d (qj (chs n i)),.d (.int (i:Nat)),.o ((((chs n i).take l).flatMap (onC n i)).map tpD),s5,s6]) b nd (a4 (aa 2)) vL ⟨s5,s6,rfl⟩ (λl hl τ h=>?_) λτ h=>?_
   · obtain ⟨s5,s6,rfl⟩:=h
     have hl:l < (chs n i).length:=by simpa using hl
     have ok:=iQ n i _ (jw (d:=[]) hl)
     have hle:=pX ok
     have len1:=hJ (onC n i) 7 ((chs n i).take l) λc hc=>EH (mZ (iQ n i c (Ge hc))) hn
     rw [E1] at len1
     have len2:=mZ ok
     refine aB 6 nd (j5 (s:=.d (.int (lea i ((chs n i).getD l [])))) (aN (aa 3) af mr) (λh=>?_) λh=>?_) ?_
     · have h:=of_decide_eq_true h
       have h0:0 < i:=by omega
       rw [show lea i ((chs n i).getD l [])=ke ((chs n i).getD l []) + 1 from if_pos h0]
       exact aC (az (aa 5) (oQ af) (ar (nH λz=>by have:=ok.len; rw [z] at this; simp at this; omega))) af a5
     · have h:=of_decide_eq_false h
       rw [show lea i ((chs n i).getD l [])=0 from if_neg (by omega)]
       exact af
     refine Dr 4 (du (cmp 0 (f:=λk=>tpD (((chs n i).getD l [])++[lea i ((chs n i).getD l []) + (k:Nat)])) b (uO b (aa 6) (aa 0) ⟨by omega,by omega,by omega,by omega⟩) (λk hk=>jn _ _ k hk) (by rw [aO]; omega) λk hk s0 H0 fp=>?_)) ?_ (aQ ⟨.d (tpD ((chs n i).getD l [])),.d (.int (lea i ((chs n i).getD l []))),?_⟩)
     · have e:tpD (((chs n i).getD l [])++[lea i ((chs n i).getD l []) + (k:Nat)])=.tup ((((chs n i).getD l []).map D.int)++[.int (lea i ((chs n i).getD l []) + (k:Nat))]):=by unfold tpD; rw [EW]; rfl
       rw [e]
       exact aC (aa 1) (cC (ae (aa 0) ag)) (By (by rw [Ei,ok.len]; show _ + 1 < _; omega))
     · rw [Ei,Ei,EN,aO]; omega
     · rw [take_snoc [] hl,List.flatMap_append,EW,aO]
       show [_,_,_,_,Sl.o (_++(Eo ((n:Int) - lea i ((chs n i).getD l [])).toNat).map _),_,_]=_
       simp [onC]
   · obtain ⟨s5,s6,rfl⟩:=h
     refine yM 4 (aB 2 nd (aa 4) (aQ ⟨.d (.int (i:Nat)),.d (qj (chs n (i + 1))),s5,s6,?_⟩))
     rw [Ei,ED (Ek _)]
     rfl
 · obtain ⟨s3,s4,s5,s6,rfl⟩:=h
   refine aL (aa 2) ?_
   rw [aO,Ey]
end
set_option exponentiation.threshold 4000 in
theorem sV {i:Int} (h:i.natAbs < lim):i.natAbs.log2 < 1000000:=by
 rcases FQ i.natAbs with h0 | hp
 · rw [h0]; decide
 · exact EG ((G8 (by omega)).mpr h) (by decide)
theorem oo (b:Int):sgZ b=1\/sgZ b=-1:=by
 unfold sgZ
 rw [GG _ (by decide)]
 omega
theorem kq (n:Nat) (row:List Int) (k v:Int) (kv:List (Int × Int)):∀ c,(cD n row k v kv c).2.length<=kv.length + c
 | 0=>Ek _
 | c + 1=>by
   have:=kq n row k v kv c
   rw [cD,kT]
   split
   · dsimp only; omega
   · have:=xQ (cD n row k v kv c).2 (nF k (n - 1 - c)) ((bI (cD n row k v kv c).2 (nF k (n - 1 - c))).getD 0 + sgZ (cD n row k v kv c).1 * row.getD (n - 1 - c) 0 * v)
     dsimp only
     omega
theorem iy (n:Nat) (row:List Int) (kv:List (Int × Int)):∀ t,(bu n row kv t).length<=t * n
 | 0=>by rw [bu,Gg]; omega
 | t + 1=>by
   have h1:=iy n row kv t
   have h2:=kq n row (kv.getD t (0,0)).1 ((bI kv (kv.getD t (0,0)).1).getD 0) (bu n row kv t) n
   rw [bu,F1]
   omega
theorem oJ (Ms:List (List Int)):∀ i,(bQ Ms i).length<=Ms.length ^ i
 | 0=>Ek 1
 | i + 1=>by
   rw [bQ,Nat.pow_succ]
   exact EH (iy _ _ _ _) (Fd _ (oJ Ms i))
noncomputable def dtR (r:List Int):D:=.lst (r.map .int)
noncomputable def dtZ (Ms:List (List Int)):Int:=(bI (bQ Ms Ms.length) (2 ^ Ms.length - 1)).getD 0
structure Dt (n b:Nat) (Ms:List (List Int)):Prop where
 n7:n<=7
 len:Ms.length=n
 row:∀ r ∈ Ms,r.length=n/\∀ x ∈ r,x.natAbs<=2 ^ b
 b1:n * (b + 3)<=3800
 b2:b<=3800
noncomputable def dtM (Ms:List (List Int)) (i j:Nat):Rat:=(((Ms.getD i []).getD j 0:Int):Rat)
theorem Dt.ok {n b:Nat} {Ms:List (List Int)} (h:Dt n b Ms):okZ Ms/\bI (bQ Ms n) (2 ^ n - 1)=some (dtZ Ms)/\((dtZ Ms:Int):Rat)=det n (dtM Ms):=by
 obtain ⟨d,e1,e2⟩:=AY (M:=dtM Ms) h.n7 h.len h.row (λ_ _ _ _=>rfl) h.b1 h.b2
 unfold BQ at e1
 split at e1
 · rename_i ok
   have e3:dtZ Ms=d:=by unfold dtZ; rw [e1]; rfl
   rw [h.len] at e1
   exact ⟨ok,by rw [e3]; exact e1,by rw [e3]; exact e2⟩
 · cases e1
theorem Dt.ri {n b:Nat} {Ms:List (List Int)} (h:Dt n b Ms) (i:Nat) (hi:i<=n):RI n i (dtM Ms) (bQ Ms i):=jj h.len (λ_ _ _ _=>rfl) i hi
theorem atR {row:List Int} {j:Nat} (h:j < row.length):atI (row.map D.int) (j:Int)=some (.int (row.getD j 0)):=aZ (i:=(j:Int)) (by omega) (by omega)
noncomputable def nA (ds:List D) (r:Sl):Prop:=∃ (n b:Nat) (Ms:List (List Int)),ds=[.lst (Ms.map dtR)]/\Dt n b Ms/\r=.d (.int (dtZ Ms))
theorem B8 {Ms:List (List Int)}:∀ i (h:i < (Ms.map dtR).length),(Ms.map dtR)[i]=dtR (Ms.getD i []):=λi h=>by
 have:i < Ms.length:=by simpa using h
 simp [this]
section
variable {P:Program} {w:World} {K:Ej} {mg:Str->Option Value} {base:Heap} {k:Nat} {f:Addr} {fd:FuncData} {qual:Str}
set_option exponentiation.threshold 4000 in
set_option maxHeartbeats 1000000 in
theorem xj (F:Fun K "_law_det" qual (top 53) f fd) (hb:∀ x ∈ ao,mg x=none):aS P w K mg base CX0 (k + 1) f fd ["_law_rows_here"] (spD K nA):=by
 refine fnD F ot hb (by rintro _ _ ⟨_,_,_,rfl,_⟩; rfl) ?_
 rintro _ _ ⟨n,b0,Ms,rfl,h,rfl⟩ cdv A outer s H E b
 have nd:=ot.nd
 obtain ⟨ok,eD,_⟩:=h.ok
 have hu:(Xc P w K mg base _ qual (top 53) f cdv A outer s H E).A.units + 1 < cLine:=EV (Gq (by decide) _) b.room.units
 have hlen:(Ms.map dtR).length=n:=by rw [Ei,h.len]
 have lim7:∀ i,i<=n->(bQ Ms i).length<=823543:=λi hi=>EH (oJ Ms i) (by
   rw [h.len]
   exact EH (Nat.pow_le_pow_left h.n7 i) (E8 (by decide) (EH hi h.n7)))
 refine aB 1 nd zZ (zM 1 ?_)
 refine bU 2 (g:=λi=>dtR (Ms.getD i [])) (λi τ=>i<=n/\∃ s2 s3 s4 s5 s6 s7 s8,τ=[.d (.lst (Ms.map dtR)),.d (.box (bxZ (bQ Ms i))),s2,s3,s4,s5,s6,s7,s8]) b nd (a4 (aa 0)) B8 ⟨Fg _,.un,.un,.un,.un,.un,.un,.un,rfl⟩ (λi hi τ z=>?_) λτ z=>?_
 · obtain ⟨_,s2,s3,s4,s5,s6,s7,s8,rfl⟩:=z
   have hi:i < n:=by rw [hlen] at hi; exact hi
   have hm:Ms.getD i [] ∈ Ms:=by rw [EB,El (by rw [h.len]; exact hi)]; exact Fe _
   have hrow:=h.row _ hm
   have hlim:∀ x ∈ Ms.getD i [],x.natAbs < lim:=(ok.2.1 _ hm).2
   have R:=h.ri i (by omega)
   have hkv:=ok.2.2 i (by rw [h.len]; exact hi)
   have hl7:=lim7 i (by omega)
   have eN:bQ Ms (i + 1)=bu n (Ms.getD i []) (bQ Ms i) (bQ Ms i).length:=by rw [bQ,h.len]
   rw [eN]
   generalize bQ Ms i=kv at R hkv hl7 ⊢
   generalize Ms.getD i []=row at hm hrow hlim ⊢
   refine aB 3 nd AO ?_
   refine bU 4 (g:=λt=>.int (kv.getD t (0,0)).1) (λt τ=>∃ s4 s5 s6 s7 s8,τ=[.d (.lst (Ms.map dtR)),.d (.box (bxZ kv)),.d (dtR row),.x (exZ (bu n row kv t)),s4,s5,s6,s7,s8]) b nd (xP (aa 1)) xK ⟨s4,s5,s6,s7,s8,rfl⟩ (λt ht τ z=>?_) λτ z=>?_
   · obtain ⟨s4,s5,s6,s7,s8,rfl⟩:=z
     have ht:t < kv.length:=by simpa using ht
     have hq:kv.getD t (0,0) ∈ kv:=by rw [EB,El ht]; exact Fe ht
     have hg:bI kv (kv.getD t (0,0)).1=some (kv.getD t (0,0)).2:=qg R.nd hq
     have hv:=hkv _ hq
     have hml:=iy n row kv t
     have hml2:t * n<=823543 * 7:=IH (by omega) h.n7
     have eM:bu n row kv (t + 1)=(cD n row (kv.getD t (0,0)).1 (kv.getD t (0,0)).2 (bu n row kv t) n).2:=by rw [bu,hg]; rfl
     rw [eM]
     generalize bu n row kv t=lk at hml ⊢
     generalize (kv.getD t (0,0)).1=m at hg ⊢
     generalize (kv.getD t (0,0)).2=v at hg hv ⊢
     refine aB 5 nd af ?_
     refine bU 6 (g:=λc=>.int ((n - 1 - c:Nat):Int)) (λc τ=>∃ s6 s7 s8,τ=[.d (.lst (Ms.map dtR)),.d (.box (bxZ kv)),.d (dtR row),.x (exZ (cD n row m v lk c).2),.d (.int m),.d (.int (cD n row m v lk c).1),s6,s7,s8]) b nd (Eb (n:=n) b (bK b (ae (aa 0) ag) (CG hlen)) (by have:=h.n7; omega)) DS ⟨s6,s7,s8,rfl⟩ (λc hc τ z=>?_) λτ z=>?_
     · obtain ⟨s6,s7,s8,rfl⟩:=z
       have hc:c < n:=by rw [gZ] at hc; exact hc
       have n7:=h.n7
       have hcl:=kq n row m v lk c
       have hj:n - 1 - c < row.length:=by rw [hrow.1]; omega
       have eC:cD n row m v lk (c + 1)=kT row m v (n - 1 - c) (cD n row m v lk c):=rfl
       rw [eC]
       generalize cD n row m v lk c=st at hcl ⊢
       generalize n - 1 - c=j at hj ⊢
       have j7:j < 7:=by have:=hrow.1; omega
       refine jv (M:=λτ=>∃ s6 s7 s8,τ=[.d (.lst (Ms.map dtR)),.d (.box (bxZ kv)),.d (dtR row),.x (exZ (kT row m v j st).2),.d (.int m),.d (.int (kT row m v j st).1),s6,s7,s8]) (aN (aC (aC (aa 4) (aa 6) (Cn (by omega))) af CK) af fW) (λz=>?_) (λz=>?_) λτ z=>by
         obtain ⟨s6,s7,s8,rfl⟩:=z
         exact aQ ⟨s6,s7,s8,rfl⟩
       · have z:p6 m j=true:=by
           unfold p6
           rw [Ey] at z
           exact z
         have e:kT row m v j st=(st.1 + 1,st.2):=by unfold kT; rw [if_pos z]
         rw [e]
         exact aB 5 nd (aC (aa 5) af a5) (aQ ⟨_,_,_,rfl⟩)
       · have z:p6 m j=false:=by
           unfold p6
           rw [Ey] at z
           exact z
         have e:kT row m v j st=(st.1,fV st.2 (nF m j) ((bI st.2 (nF m j)).getD 0 + sgZ st.1 * row.getD j 0 * v)):=by unfold kT; rw [if_neg (by rw [z]; decide)]
         have hx:(row.getD j 0).natAbs < lim:=hlim _ (by rw [EB,El hj]; exact Fe hj)
         have s1:aJ (sgZ st.1) (row.getD j 0):=mkL (by rcases oo st.1 with h | h <;> rw [h] <;> decide)
         have s2:aJ (sgZ st.1 * row.getD j 0) v:=by
           refine .inr (.inr ⟨sV ?_,sV hv⟩)
           rw [HG]
           rcases oo st.1 with h | h <;> rw [h] <;> simpa using hx
         rw [e]
         refine aB 7 nd (aC (aa 4) (aC af (aa 6) (zK ⟨by omega,by omega,by decide⟩)) DZ) ?_
         rw [Ey]
         show PSs _ _ (dS K [.d (.lst (Ms.map dtR)),.d (.box (bxZ kv)),.d (dtR row),.x (exZ st.2),.d (.int m),.d (.int st.1),.d (.int (j:Nat)),.d (.int (nF m j)),_] _)
         refine aB 8 nd (aC af (aC af (aC (aa 5) af (cb (by decide))) (a7 (mkL (by decide)))) i3) ?_
         refine Ac 3 hu rfl (aa 7) (aC (x9 3 hu rfl (aa 7) af) (aC (aC (aa 8) (az (aa 2) (aa 6) (aW (atR hj))) (a7 s1)) (wg hu (aa 1) (aa 4) hg yo) (a7 s2)) a5) ?_ (aQ ⟨_,_,_,rfl⟩)
         have:sizeLine > 10000000:=by decide
         omega
     · obtain ⟨s6,s7,s8,rfl⟩:=z
       rw [gZ]
       exact aQ ⟨_,_,_,_,_,rfl⟩
   · obtain ⟨s4,s5,s6,s7,s8,rfl⟩:=z
     rw [Ei]
     exact zM 3 (aB 1 nd (aa 3) (aQ ⟨hi,_,_,_,_,_,_,_,rfl⟩))
 · obtain ⟨_,s2,s3,s4,s5,s6,s7,s8,rfl⟩:=z
   rw [hlen]
   refine aL (wg hu (aa 1) (aC (aC af (bK b (ae (aa 0) ag) (CG hlen)) (zK ⟨by omega,by have:=h.n7; omega,by decide⟩)) af i3) ?_ xl) rfl
   rw [Ey,Int.one_mul]
   exact eD
end
noncomputable def frD (q:Rat):D:=.tup [.int q.num,.int (q.den:Nat)]
theorem c9 (x:Rat):x * (((x.den:Nat):Int):Rat)=(x.num:Rat):=by
 have h:mkRat x.num x.den=x:=by rw [<- Rat.normalize_eq_mkRat x.den_nz]; exact Rat.normalize_self x
 rw [Rat.mkRat_eq_div] at h
 have hd:((x.den:Nat):Rat) ≠ 0:=λz=>x.den_nz (J1.mp z)
 rw [Rat.intCast_natCast]
 conv=>lhs; lhs; rw [<- h]
 exact Rat.div_mul_cancel hd
theorem cH {t b:Int} {x:Rat} (hb:0 < b) (h:(t:Rat)=x * (b:Rat)):x.num=t / (EO t b:Int)/\((x.den:Nat):Int)=b / (EO t b:Int):=by
 have hb0:((b.toNat:Nat):Rat) ≠ 0:=λz=>by have:=J1.mp z; omega
 have hbb:((b:Int):Rat)=((b.toNat:Nat):Rat):=by rw [<- Rat.intCast_natCast,FJ (by omega)]
 have e:x=mkRat t b.toNat:=by
   rw [Rat.mkRat_eq_div,h,hbb,Rat.mul_div_cancel hb0]
 have g:b.toNat.gcd t.natAbs=EO t b:=by
   rw [EO,Iz,show b.natAbs=b.toNat by omega]
 have nz:¬ b.toNat=0:=by omega
 constructor
 · rw [e,Rat.num_mkRat,if_neg nz,g]
 · rw [e,Rat.den_mkRat,if_neg nz,g,Int.natCast_ediv,FJ (by omega)]
theorem den_pos (q:Rat):0 < ((q.den:Nat):Int):=by have:=q.den_pos; omega
theorem mz {b:Int} (hb:0 < b):(b:Rat) ≠ 0:=λz=>by have:=Rat.intCast_eq_zero_iff.mp z; omega
noncomputable def Bd (n:Nat) (i:Int):Prop:=i.natAbs < 2 ^ n
theorem Bd.mono {m n:Nat} {i:Int} (h:Bd m i) (hm:m<=n):Bd n i:=EG h (E8 (by decide) hm)
theorem Bd.log {n:Nat} {i:Int} (h:Bd n i) (hn:0 < n):i.natAbs.log2 < n:=by
 rcases FQ i.natAbs with z | z
 · rw [z]; exact hn
 · exact (G8 (by omega)).mpr h
theorem Bd.mul {m n:Nat} {i j:Int} (h:Bd m i) (g:Bd n j):Bd (m + n) (i * j):=by
 unfold Bd at *
 rw [HG,IS]
 rcases FQ j.natAbs with z | z
 · rw [z,Nat.mul_zero]; exact Nat.mul_pos (Gi m) (Gi n)
 · exact EG (Nat.mul_lt_mul_of_pos_right h z) (Hs _ (Gy g))
theorem Bd.aJ {m n:Nat} {i j:Int} (h:Bd m i) (g:Bd n j) (hm:m<=1000000) (hn:n<=1000000):aJ i j:=
 .inr (.inr ⟨(h.mono (Nat.le_succ_of_le hm)).log (by omega) |> λz=>by
   rcases FQ i.natAbs with q | q
   · rw [q]; decide
   · exact EG ((G8 (by omega)).mpr h) hm,by
   rcases FQ j.natAbs with q | q
   · rw [q]; decide
   · exact EG ((G8 (by omega)).mpr g) hn⟩)
theorem Bd.aH {n:Nat} {j:Int} (h:Bd n j) (h0:j ≠ 0) (hn:n<=9000):aH j:=⟨h0,EG ((G8 (by omega)).mpr h) hn⟩
theorem Bd.of_dvd {n:Nat} {i j:Int} (h:Bd n j) (hd:i ∣ j) (h0:j ≠ 0):Bd n i:=EV (Nat.le_of_dvd (by omega) (Int.natAbs_dvd_natAbs.mpr hd)) h
theorem Bd.ediv {n:Nat} {i:Int} (h:Bd n i) (j:Int):Bd n (i / j):=EV (JW i j) h
theorem Bd.gcd {n:Nat} {i j:Int} (h:Bd n j) (h0:j ≠ 0):Bd n (EO i j:Int):=h.of_dvd (Gj ..) h0
theorem ko {i j:Int} (h0:j ≠ 0):(EO i j:Int) ≠ 0:=λz=>h0 (by have:=Int.gcd_eq_zero_iff.mp (Int.ofNat_eq_zero.mp z); exact this.2)
theorem fI {i j:Int} (t:Int):t.fdiv (EO i j:Int)=t / (EO i j:Int):=F7 _ (F9 _)
structure Sq (n:Nat) (q:Rat):Prop where
 num:Bd n q.num
 den:Bd n (q.den:Nat)
theorem Sq.mono {m n:Nat} {q:Rat} (h:Sq m q) (hm:m<=n):Sq n q:=⟨h.num.mono hm,h.den.mono hm⟩
theorem Sq.cH {n:Nat} {t b:Int} {x:Rat} (hb:0 < b) (h:(t:Rat)=x * (b:Rat)) (h1:Bd n t) (h2:Bd n b):Sq n x:=by
 obtain ⟨e1,e2⟩:=K26.cH hb h
 exact ⟨by rw [e1]; exact h1.ediv _,by rw [e2]; exact h2.ediv _⟩
noncomputable def whl (x:D):Bool:=oB .int x && !oB .bool x
noncomputable def bX (ds:List D) (r:Sl):Prop:=∃ x,ds=[x]/\r=.d (.bl (whl x))
noncomputable def cE (ds:List D) (r:Sl):Prop:=∃ i l m:Int,ds=[.int i,.int l,.int m]/\r=.d (.bl (decide (l<=i) && decide (i<=m)))
noncomputable def aY (ds:List D) (r:Sl):Prop:=∃ a b:Int,ds=[.int a,.int b]/\r=.d (.int (EO a b:Int))
theorem gJ (i:Int):yU i=(i.natAbs:Int):=by unfold yU; omega
noncomputable def uA:D->Bool
 | .tup [.int a,.int b]=>decide (1<=b) && decide ((EO a b:Int)=1)
 | _=>false
theorem yJ (q:Rat):uA (frD q)=true:=by
 have h1:=den_pos q
 have h2:EO q.num (q.den:Nat)=1:=q.reduced
 show (decide ((1:Int)<=(q.den:Nat)) && decide ((EO q.num (q.den:Nat):Int)=1))=true
 rw [h2,decide_eq_true (show (1:Int)<=(q.den:Nat) by omega)]
 rfl
theorem uU {xs:List D} (h:xs.length ≠ 2):uA (.tup xs)=false:=by
 unfold uA
 split
 · rename_i e; cases e; exact absurd rfl h
 · rfl
noncomputable def dj (ds:List D) (r:Sl):Prop:=∃ x,ds=[x]/\r=.d (.bl (uA x))
noncomputable def eV (ds:List D) (r:Sl):Prop:=∃ q:Rat,ds=[frD q]/\0<=q.num/\r=.d (.bl true)
noncomputable abbrev Stp:=Str × Nat × Rat
noncomputable def stD (s:Stp):D:=.tup [.str s.1,.int (s.2.1:Nat),frD s.2.2]
noncomputable def okS (T:Nat) (s:Stp):Prop:=0<=s.2.2.num/\((s.1 = "weigh" /\ s.2.1 < T)\/((s.1 = "down" \/ s.1 = "up")/\s.2.1 + 1 < T))
noncomputable def iK (ds:List D) (r:Sl):Prop:=∃ (T:Nat) (s:Stp),ds=[stD s,.int T]/\okS T s/\r=.d (.bl true)
noncomputable def cw (T R C:Nat) (ss:List Stp):D:=.tup [.int T,.int R,.int C,.lst (ss.map stD)]
structure okL (T R C:Nat) (ss:List Stp):Prop where
 t1:1<=T
 t7:T<=7
 r1:1<=R
 rT:R<=T
 c1:1<=C
 cT:C<=T
 len:ss.length<=400
 st:∀ i,i < ss.length->okS T (ss.getD i ("weigh",0,0))
theorem Ci {ss:List Stp} (i:Nat) (h:i < (ss.map stD).length):(ss.map stD)[i]=stD (ss.getD i ("weigh",0,0)):=by
 have:i < ss.length:=by simpa using h
 simp [this]
noncomputable def eW (ds:List D) (r:Sl):Prop:=∃ (T R C:Nat) (ss:List Stp),ds=[cw T R C ss]/\okL T R C ss/\r=.d (.bl true)
noncomputable def b9 (ds:List D) (r:Sl):Prop:=∃ (T R C:Nat) (ss:List Stp),ds=[cw T R C ss]/\okL T R C ss/\r=.d .non
noncomputable def rgS (s:Stp):Nat:=if s.1 = "down" then s.2.1 else s.2.1 + 1
noncomputable def cF (ds:List D) (r:Sl):Prop:=∃ s:Stp,ds=[stD s]/\r=.d (.int (rgS s:Nat))
noncomputable def rgE (s:Stp):Nat:=if s.1 = "down" then s.2.1 + 1 else s.2.1
noncomputable def dY (ds:List D) (r:Sl):Prop:=∃ s:Stp,ds=[stD s]/\r=.d (.int (rgE s:Nat))
noncomputable def mvd (a b:Nat) (c:List Int):List Int:=c.map λt=>if t=(a:Int) then (b:Int) else t
noncomputable def has (c:List Int) (x:Int):Bool:=c.any λw=>decide (w=x)
noncomputable def nxp (s:Stp) (c:List Int):List (List Int):=
 if s.1 = "weigh" then (if s.2.2.num=0/\has c s.2.1=true then [] else [c])
 else if s.2.2.num=0\/has c (rgS s)=false\/has c (rgE s)=true then [c]
 else if HT.lexLt (mvd (rgS s) (rgE s) c) c then [mvd (rgS s) (rgE s) c,c] else [c,mvd (rgS s) (rgE s) c]
noncomputable def b7 (ds:List D) (r:Sl):Prop:=∃ (s:Stp) (c:List Int),ds=[stD s,tpD c]/\c ≠ []/\c.length<=1000/\r=.o ((nxp s c).map tpD)
theorem yS (a b:Nat) (c:List Int):(Eo (c.map D.int).length).map (λi=>D.int (if c.getD i 0=(a:Int) then (b:Int) else c.getD i 0))=(mvd a b c).map D.int:=by
 refine Fu (by simp [mvd]) λi h1 h2=>?_
 have:i < c.length:=by simpa [mvd] using h2
 simp [mvd,this]
section
variable {P:Program} {w:World} {K:Ej} {mg:Str->Option Value} {base:Heap} {k:Nat} {f:Addr} {fd:FuncData} {qual:Str}
theorem pJ (F:Fun K "is_whole" qual (top 8) f fd) (hb:∀ x ∈ ao,mg x=none):aS P w K mg base CX0 (k + 1) f fd ["thing"] (spD K bX):=by
 refine fnD F n4 hb (by rintro _ _ ⟨_,rfl,_⟩; rfl) ?_
 rintro _ _ ⟨x,rfl,rfl⟩ cdv A outer s H E b
 exact aL (kn (gc .int b (aa 0)) λh=>(lW (C2 (gc .bool b (aa 0))))) rfl
theorem kP (F:Fun K "is_between" qual (top 9) f fd) (hb:∀ x ∈ ao,mg x=none) (c_is_whole:Cal P w K mg base k "is_whole" bX):aS P w K mg base CX0 (k + 1) f fd ["thing","least","most"] (spD K cE):=by
 refine fnD F k5 hb (by rintro _ _ ⟨_,_,_,rfl,_⟩; rfl) ?_
 rintro _ _ ⟨i,l,m,rfl,rfl⟩ cdv A outer s H E b
 exact aL (kn (x_call b c_is_whole (ae (aa 0) ag) ⟨_,rfl,rfl⟩) λh=>(lW (yT (aa 1) (aa 0) (aa 2) CV CV).1)) rfl
theorem gO (F:Fun K "common_divisor" qual (top 11) f fd) (hb:∀ x ∈ ao,mg x=none):aS P w K mg base CX0 (k + 1) f fd ["one","other"] (spD K aY):=by
 refine fnD F cU hb (by rintro _ _ ⟨_,_,rfl,_⟩; rfl) ?_
 rintro _ _ ⟨x,y,rfl,rfl⟩ cdv A outer s H E b
 have nd:=cU.nd
 refine aB 2 nd (bK b (ae (aa 0) ag) o9) (aB 3 nd (bK b (ae (aa 1) ag) o9) ?_)
 rw [gJ,gJ]
 refine sf (λn t τ=>∃ (g:Nat) (s4:Sl),Nat.gcd g n=EO x y/\t=(!decide ((n:Int)=0))/\τ=[.d (.int x),.d (.int y),.d (.int g),.d (.int n),s4]) b ⟨_,_,_,_,rfl,rfl,rfl⟩ (λn t τ h=>?_) (λn τ h=>?_) λn τ h=>?_
 · obtain ⟨g,s4,_,rfl,rfl⟩:=h
   exact aN (aa 3) af j3
 · obtain ⟨g,s4,hg,ht,rfl⟩:=h
   have hl:n ≠ 0:=λz=>by simp [z] at ht
   have e:(g:Int).fmod n=((g % n:Nat):Int):=by rw [GG _ (by omega)]; rfl
   refine aB 4 nd (aC (aa 2) (aa 3) (cb (by omega))) ?_
   rw [e]
   refine aB 2 nd (aa 3) (aB 3 nd (aa 4) (aQ ⟨g % n,_,Nat.mod_lt g (Nat.pos_of_ne_zero hl),n,_,?_,rfl,rfl⟩))
   rw [<- hg,Iz n,<- Nat.gcd_rec,Iz]
 · obtain ⟨g,s4,hg,ht,rfl⟩:=h
   have hl:n=0:=by simpa using ht
   refine aL (aa 2) ?_
   rw [<- hg,hl,Nat.gcd_zero_right]
theorem ku (F:Fun K "is_fraction" qual (top 10) f fd) (hb:∀ x ∈ ao,mg x=none) (c_is_whole:Cal P w K mg base k "is_whole" bX) (c_common_divisor:Cal P w K mg base k "common_divisor" aY):aS P w K mg base CX0 (k + 1) f fd ["thing"] (spD K dj):=by
 refine fnD F jS hb (by rintro _ _ ⟨_,rfl,_⟩; rfl) ?_
 rintro _ _ ⟨x,rfl,rfl⟩ cdv A outer s H E b
 by_cases ht:oB .tuple x=true
 · obtain ⟨xs,rfl⟩:∃ xs,x=.tup xs:=by cases x <;> first | exact ⟨_,rfl⟩ | cases ht
   refine cY (PW.pt (dn (bx (bj (gc .tuple b (aa 0)))) λh=>(de (aN (bK b (ae (aa 0) ag) kC) af j3)))) (λh=>?_) λh=>?_
   · refine aL p7 ?_
     have h:(!decide ((xs.length:Int)=2))=true:=h
     have:xs.length ≠ 2:=λz=>by rw [z] at h; cases h
     rw [uU this]
   · have h:(!decide ((xs.length:Int)=2))=false:=h
     have h2:xs.length=2:=by simp at h; omega
     obtain ⟨u,v,rfl⟩:∃ u v,xs=[u,v]:=by
       match xs,h2 with
       | [u,v],_=>exact ⟨u,v,rfl⟩
     refine cY (PW.pt (dn (bx (bj (x_call b c_is_whole (ae (az (aa 0) af (ar (ak (i:=0) rfl))) ag) ⟨_,rfl,rfl⟩))) λh=>(de (bx (bj (x_call b c_is_whole (ae (az (aa 0) af (ar (ak (i:=1) rfl))) ag) ⟨_,rfl,rfl⟩)))))) (λh=>?_) λh=>?_
     · refine aL p7 ?_
       have:uA (.tup [u,v])=false:=by cases u <;> cases v <;> first | rfl | cases h
       rw [this]
     · obtain ⟨i,j,rfl,rfl⟩:∃ i j,u=.int i/\v=.int j:=by cases u <;> cases v <;> first | exact ⟨_,_,rfl,rfl⟩ | cases h
       exact aL (kn (gH (az (aa 0) af (ar (ak (i:=1) rfl))) af yn) λh=>(lW (gH (x_call b c_common_divisor (ae (az (aa 0) af (ar (ak (i:=0) rfl))) (ae (az (aa 0) af (ar (ak (i:=1) rfl))) ag)) ⟨_,_,rfl,rfl⟩) af fW))) rfl
 · have e:oB .tuple x=false:=by simpa using ht
   have ef:uA x=false:=by cases x <;> first | rfl | cases e
   refine cY (PW.pt (dn (q:=true) (bx (bj (gc .tuple b (aa 0)))) λh=>(by rw [e] at h; cases h))) (λh=>?_) λh=>?_
   · refine aL p7 ?_
     rw [ef]
   · rw [Jk] at h; cases h
theorem lY (F:Fun K "is_weight" qual (top 26) f fd) (hb:∀ x ∈ ao,mg x=none) (c_is_fraction:Cal P w K mg base k "is_fraction" dj):aS P w K mg base CX0 (k + 1) f fd ["thing"] (spD K eV):=by
 refine fnD F nO hb (by rintro _ _ ⟨_,rfl,_⟩; rfl) ?_
 rintro _ _ ⟨q,rfl,h0,rfl⟩ cdv A outer s H E b
 refine aL (kn (x_call b c_is_fraction (ae (aa 0) ag) ⟨_,rfl,rfl⟩) λh=>(lW (gH (az (aa 0) af (ar (ak (i:=0) rfl))) af yn))) ?_
 rw [yJ,decide_eq_true h0]
 rfl
theorem qE (F:Fun K "is_step" qual (top 27) f fd) (hb:∀ x ∈ ao,mg x=none) (c_is_between:Cal P w K mg base k "is_between" cE) (c_is_weight:Cal P w K mg base k "is_weight" eV):aS P w K mg base CX0 (k + 1) f fd ["thing","tracks"] (spD K iK):=by
 refine fnD F qo hb (by rintro _ _ ⟨_,_,rfl,_⟩; rfl) ?_
 rintro _ _ ⟨T,⟨u,n,q⟩,rfl,⟨h0,h1⟩,rfl⟩ cdv A outer s H E b
 refine bO (PW.pt (dn (bx (bj (gc .tuple b (aa 0)))) λh=>(dn (aN (bK b (ae (aa 0) ag) kC) af j3) λh=>(de (bx (bj (x_call b c_is_weight (ae (az (aa 0) af (ar (ak (i:=2) rfl))) ag) ⟨q,rfl,h0,rfl⟩))))))) rfl ?_
 refine cY (aN (az (aa 0) af (ar (ak (i:=0) rfl))) cj hU) (λh=>?_) λh=>?_
 · refine aL (x_call b c_is_between (ae (az (aa 0) af (ar (ak (i:=1) rfl))) (ae af (ae (aC (aa 1) af i3) ag))) ⟨_,_,_,rfl,rfl⟩) ?_
   have e:=of_decide_eq_true h
   have hn:n < T:=by
     rcases h1 with h1 | h1
     · exact h1.2
     · have:=h1.2; simp only at this; omega
   rw [decide_eq_true (show (0:Int)<=n by omega),decide_eq_true (show (n:Int)<=(T:Int) - 1 by omega)]
   rfl
 · have e:=of_decide_eq_false h
   obtain ⟨e1,e2⟩:(u = "down" \/ u = "up")/\n + 1 < T:=by
     rcases h1 with h1 | h1
     · exact absurd h1.1 e
     · exact h1
   refine aL (kn (gH (az (aa 0) af (ar (ak (i:=0) rfl))) (cC (ae cj (ae cj ag))) (CZ (us:=["down","up"]))) λh=>(lW (x_call b c_is_between (ae (az (aa 0) af (ar (ak (i:=1) rfl))) (ae af (ae (aC (aa 1) af i3) ag))) ⟨_,_,_,rfl,rfl⟩))) ?_
   rw [decide_eq_true (show (0:Int)<=n by omega),decide_eq_true (show (n:Int)<=(T:Int) - 2 by omega)]
   have:(([("down" : Str),"up"]:List Str).any λw=>decide (w=u))=true:=by
     clear h e h1 h0
     rcases e1 with rfl | rfl <;> decide +kernel
   show Sl.d (.bl ((([("down" : Str),"up"]:List Str).any λw=>decide (w=u)) && _))=_
   rw [this]
   rfl
theorem mR (F:Fun K "is_ladder" qual (top 28) f fd) (hb:∀ x ∈ ao,mg x=none) (y_MOST:∃ t,mg "MOST" = some (.int 7 t)) (y_MOST_STEPS:∃ t,mg "MOST_STEPS" = some (.int 400 t)) (c_is_between:Cal P w K mg base k "is_between" cE) (c_is_step:Cal P w K mg base k "is_step" iK):aS P w K mg base CX0 (k + 1) f fd ["thing"] (spD K eW):=by
 refine fnD F nk hb (by rintro _ _ ⟨_,_,_,_,rfl,_⟩; rfl) ?_
 rintro _ _ ⟨T,R,C,ss,rfl,h,rfl⟩ cdv A outer s H E b
 have ht:decide ((1:Int)<=T)=true/\decide ((T:Int)<=7)=true:=⟨decide_eq_true (by have:=h.t1; omega),decide_eq_true (by have:=h.t7; omega)⟩
 have hr:decide ((1:Int)<=R)=true/\decide ((R:Int)<=T)=true:=⟨decide_eq_true (by have:=h.r1; omega),decide_eq_true (by have:=h.rT; omega)⟩
 have hc:decide ((1:Int)<=C)=true/\decide ((C:Int)<=T)=true:=⟨decide_eq_true (by have:=h.c1; omega),decide_eq_true (by have:=h.cT; omega)⟩
 have hl:(ss.map stD).length=ss.length:=Ei ..
 have hlen:=h.len
 refine bO (PW.pt (dn (bx (bj (gc .tuple b (aa 0)))) λh=>(dn (aN (bK b (ae (aa 0) ag) kC) af j3) λh=>(de (bx (bj (x_call b c_is_between (ae (az (aa 0) af (ar (ak (i:=0) rfl))) (ae af (ae (qL y_MOST) ag))) ⟨_,_,_,rfl,rfl⟩))))))) ?_ ?_
 · rw [ht.1,ht.2]; rfl
 refine bO (PW.pt (dn (bx (bj (x_call b c_is_between (ae (az (aa 0) af (ar (ak (i:=1) rfl))) (ae af (ae (az (aa 0) af (ar (ak (i:=0) rfl))) ag))) ⟨_,_,_,rfl,rfl⟩))) λh=>(de (bx (bj (x_call b c_is_between (ae (az (aa 0) af (ar (ak (i:=2) rfl))) (ae af (ae (az (aa 0) af (ar (ak (i:=0) rfl))) ag))) ⟨_,_,_,rfl,rfl⟩)))))) ?_ ?_
 · rw [hr.1,hr.2,hc.1,hc.2]; rfl
 refine bO (PW.pt (dn (bx (bj (gc .list b (az (aa 0) af (ar (ak (i:=3) rfl)))))) λh=>(de (aN (bK b (ae (az (aa 0) af (ar (ak (i:=3) rfl))) ag) eP) (qL y_MOST_STEPS) mr)))) ?_ ?_
 · rw [hl,decide_eq_false (show ¬ (400:Int) < ss.length by omega)]; rfl
 refine aL (bK b (ae (a8 (du (cmp 0 (f:=λ_=>.bl true) b (a4 (az (aa 0) af (ar (ak (i:=3) rfl)))) Ci ?_ λi hi s0 H0 fp=>(x_call (b.comp s0 H0 _ fp) c_is_step (ae (aa 0) (ae (az (aa 1) af (ar (ak (i:=0) rfl))) ag)) ⟨T,_,rfl,h.st i (by omega),rfl⟩)))) ag) (rH b.calm ((Eo (ss.map stD).length).map λ_=>true) (by rw [EU]; rfl))) ?_
 · omega
 · have:((Eo (ss.map stD).length).map λ_=>true).all id=true:=by rw [Gk,E9]; intro _ _; rfl
   rw [this]
theorem jV (F:Fun K "look_ladder" qual (top 29) f fd) (hb:∀ x ∈ ao,mg x=none) (c_is_ladder:Cal P w K mg base k "is_ladder" eW):aS P w K mg base CX0 (k + 1) f fd ["thing"] (spD K b9):=by
 refine fnD F kh hb (by rintro _ _ ⟨_,_,_,_,rfl,_⟩; rfl) ?_
 rintro _ _ ⟨T,R,C,ss,rfl,h,rfl⟩ cdv A outer s H E b
 exact bO (bx (bj (x_call b c_is_ladder (ae (aa 0) ag) ⟨T,R,C,ss,rfl,h,rfl⟩))) rfl (aQ rfl)
theorem kS (F:Fun K "rung_start" qual (top 30) f fd) (hb:∀ x ∈ ao,mg x=none):aS P w K mg base CX0 (k + 1) f fd ["step"] (spD K cF):=by
 refine fnD F kM hb (by rintro _ _ ⟨_,rfl,_⟩; rfl) ?_
 rintro _ _ ⟨⟨u,n,q⟩,rfl,rfl⟩ cdv A outer s H E b
 refine aL (s:=.d (.int (rgS (u,n,q):Nat))) (j5 (aN (az (aa 0) af (ar (ak (i:=0) rfl))) cj hU) (λh=>?_) λh=>?_) rfl
 · rw [show rgS (u,n,q)=n from if_pos (of_decide_eq_true h)]
   exact az (aa 0) af (ar (ak (i:=1) rfl))
 · rw [show rgS (u,n,q)=n + 1 from if_neg (of_decide_eq_false h)]
   exact aC (az (aa 0) af (ar (ak (i:=1) rfl))) af a5
theorem nW (F:Fun K "rung_end" qual (top 31) f fd) (hb:∀ x ∈ ao,mg x=none):aS P w K mg base CX0 (k + 1) f fd ["step"] (spD K dY):=by
 refine fnD F o8 hb (by rintro _ _ ⟨_,rfl,_⟩; rfl) ?_
 rintro _ _ ⟨⟨u,n,q⟩,rfl,rfl⟩ cdv A outer s H E b
 refine aL (s:=.d (.int (rgE (u,n,q):Nat))) (j5 (aN (az (aa 0) af (ar (ak (i:=0) rfl))) cj hU) (λh=>?_) λh=>?_) rfl
 · rw [show rgE (u,n,q)=n + 1 from if_pos (of_decide_eq_true h)]
   exact aC (az (aa 0) af (ar (ak (i:=1) rfl))) af a5
 · rw [show rgE (u,n,q)=n from if_neg (of_decide_eq_false h)]
   exact az (aa 0) af (ar (ak (i:=1) rfl))
theorem km (F:Fun K "next_places" qual (top 37) f fd) (hb:∀ x ∈ ao,mg x=none) (c_rung_start:Cal P w K mg base k "rung_start" cF) (c_rung_end:Cal P w K mg base k "rung_end" dY):aS P w K mg base CX0 (k + 1) f fd ["step","places"] (spD K b7):=by
 refine fnD F e8 hb (by rintro _ _ ⟨_,_,rfl,_⟩; rfl) ?_
 rintro _ _ ⟨⟨u,n,q⟩,c,rfl,h0,hl,rfl⟩ cdv A outer s H E b
 have nd:=e8.nd
 have st0:∀ {C:Bool} {τ:List Sl} {p1 p2:Pos} {i j},τ[0]?=some (.d (stD (u,n,q)))->PE (Xc P w K mg base ["step","places","stopped","start","end"] qual (top 37) f cdv A outer s H E) (.Subscript (.Name "step" p1) (.Constant (.int 0) i j) p2) (dE K C τ (.d (.str u))):=λh=>az (aa 0 h) af (ar (ak (i:=0) rfl))
 have st1:∀ {C:Bool} {τ:List Sl} {p1 p2:Pos} {i j},τ[0]?=some (.d (stD (u,n,q)))->PE (Xc P w K mg base ["step","places","stopped","start","end"] qual (top 37) f cdv A outer s H E) (.Subscript (.Name "step" p1) (.Constant (.int 1) i j) p2) (dE K C τ (.d (.int (n:Nat)))):=λh=>az (aa 0 h) af (ar (ak (i:=1) rfl))
 refine aB 2 nd (gH (az (az (aa 0) af (ar (ak (i:=2) rfl))) af (ar (ak (i:=0) rfl))) af fW) ?_
 refine cY (aN (st0 rfl) cj hU) (λhw=>?_) λhw=>?_
 · have hw:u = "weigh":=of_decide_eq_true hw
   refine aL (s:=.o ((nxp (u,n,q) c).map tpD)) (j5 (PW.pt (gG (bj (aa 2)) λh=>(iq (aN (st1 rfl) (aa 1) zP)))) (λh=>?_) λh=>?_) rfl
   · rw [Fp] at h
     have:nxp (u,n,q) c=[]:=by
       unfold nxp
       rw [if_pos hw,if_pos ⟨of_decide_eq_true h.1,h.2⟩]
     rw [this]
     exact bq ag
   · have:nxp (u,n,q) c=[c]:=by
       unfold nxp
       rw [if_pos hw,if_neg]
       rintro ⟨z1,z2⟩
       rw [decide_eq_true z1] at h
       rw [show (c.any λw=>decide (w=((n:Nat):Int)))=true from z2] at h
       cases h
     rw [this]
     exact bq (ae (aa 1) ag)
 · have hw:¬ u = "weigh":=of_decide_eq_false hw
   refine aB 3 nd (x_call b c_rung_start (ae (aa 0) ag) ⟨_,rfl,rfl⟩) ?_
   refine aB 4 nd (x_call b c_rung_end (ae (aa 0) ag) ⟨_,rfl,rfl⟩) ?_
   refine cY (PW.pt (dn (bj (aa 2)) λh=>(dn (aN (aa 3) (aa 1) AB) λh=>(de (aN (aa 4) (aa 1) zP))))) (λh=>?_) λh=>?_
   · have:nxp (u,n,q) c=[c]:=by
       unfold nxp
       rw [if_neg hw,if_pos]
       rw [JA,JA] at h
       rcases h with h | h | h
       · exact .inl (of_decide_eq_true h)
       · exact .inr (.inl (by simpa [has] using h))
       · exact .inr (.inr h)
     exact aL (bq (ae (aa 1) ag)) (by rw [this]; rfl)
   · have e:nxp (u,n,q) c=if HT.lexLt (mvd (rgS (u,n,q)) (rgE (u,n,q)) c) c then [mvd (rgS (u,n,q)) (rgE (u,n,q)) c,c] else [c,mvd (rgS (u,n,q)) (rgE (u,n,q)) c]:=by
       rw [Bool.or_eq_false_iff,Bool.or_eq_false_iff] at h
       obtain ⟨h1,h2,h3⟩:=h
       unfold nxp
       rw [if_neg hw,if_neg]
       rintro (z | z | z)
       · exact of_decide_eq_false h1 z
       · rw [show (c.any λw=>decide (w=((rgS (u,n,q):Nat):Int)))=false from z] at h2
         cases h2
       · rw [show (c.any λw=>decide (w=((rgE (u,n,q):Nat):Int)))=true from z] at h3
         cases h3
     refine aL (bK b (ae (a8 (bq (ae (aa 1) (ae (BU b (ae (a8 (du (cmp 0 (f:=λi=>.int (if c.getD i 0=((rgS (u,n,q):Nat):Int) then ((rgE (u,n,q):Nat):Int) else c.getD i 0)) b (Cv (aa 1)) kG (by rw [Ei]; omega) λi hi s0 H0 fp=>(j5 (aN (aa 0) (aa 2) fW) (λh=>?_) λh=>?_)))) ag) q0) ag)))) ag) (by rw [yS]; exact Be h0 (λz=>h0 (List.map_eq_nil_iff.mp z)))) ?_
     · rw [if_pos (of_decide_eq_true h)]; exact aa 1
     · rw [if_neg (of_decide_eq_false h)]; exact aa 0
     · rw [e]
       split <;> rfl
end
noncomputable def cI (zs:List (List Int × Int)) (k:List Int):Option Int:=(zs.find? λx=>decide (x.1=k)).map (·.2)
noncomputable def mK (zs:List (List Int × Int)) (k:List Int) (v:Int):List (List Int × Int):=if (cI zs k).isSome then zs.map λy=>if y.1=k then (y.1,v) else y else zs++[(k,v)]
noncomputable def nZ (zs:List (List Int × Int)) (k:List Int):Int:=(cI zs k).getD 0
noncomputable def zE (zs:List (List Int × Int)):List (List Int × D):=zs.map λx=>(x.1,.int x.2)
theorem jq (zs:List (List Int × Int)) (k:List Int):getM (zE zs) k=(cI zs k).map .int:=by
 unfold getM cI zE
 induction zs with
 | nil=>rfl
 | cons x zs ih=>
   rw [Er,E6,E6]
   by_cases h:x.1=k
   · simp [h]
   · simpa [h] using ih
theorem x4 (zs:List (List Int × Int)) (k:List Int) (v:Int):tV (zE zs) k (.int v)=zE (mK zs k v):=by
 unfold tV mK
 rw [jq,IX]
 split
 · unfold zE
   rw [EU,EU]
   refine Fb λx _=>?_
   simp only [Gv]
   split <;> rfl
 · unfold zE
   rw [EW]
   rfl
theorem sj (zs:List (List Int × Int)) (k:List Int):(getM (zE zs) k).getD (.int 0)=.int (nZ zs k):=by
 rw [jq]
 unfold nZ
 cases cI zs k <;> rfl
theorem hdI:(Ev.cy Ev.eL).dep<=7:=by show 1<=7; decide
noncomputable def fE (P:Program) (w:World) (zs:List (List Int × Int)):D:=bxD (Ev.cy Ev.eL) hdI P w (zE zs)
theorem jN {K:Ej} (c:List Int):∀ (H:Hp) (v:V),Den K H v ((Ev.cy Ev.eL).toD c)->∃ b,v=.ref b:=λH v d=>by
 have d:Den K H v (.tup (c.map D.int)):=d
 cases d with
 | tup h r=>exact ⟨_,rfl⟩
noncomputable def cN (s:Stp) (prev:List (List Int × Int)) (p:List Int):Int:=((nxp s p).map (nZ prev)).sum
noncomputable def dM (s:Stp) (prev:List (List Int × Int)) (ps:List (List Int)):List (List Int × Int):=ps.foldl (λm p=>if 0 < cN s prev p then mK m p (cN s prev p) else m) []
noncomputable def cm (T:Nat) (e:List Int):List Stp->List (List Int × Int)
 | []=>[(e,1)]
 | s :: ss=>dM s (cm T e ss) (chs T e.length)
theorem vN (zs:List (List Int × Int)) (k q:List Int) (v:Int):cI (mK zs k v) q=if q=k then some v else cI zs q:=by
 unfold mK
 split
 · rename_i h
   unfold cI at h ⊢
   induction zs with
   | nil=>simp at h
   | cons x zs ih=>
     rw [Er,E6,E6]
     rw [E6] at h
     by_cases hx:x.1=k
     · by_cases hq:q=k
       · subst hq; simp [hx]
       · have:¬ k=q:=λz=>hq z.symm
         simp only [hx,if_true,this,decide_false,hq,if_false]
         by_cases hk:(zs.find? λx=>decide (x.1=k)).isSome
         · have:=ih (by simpa using hk)
           simp only [hq,if_false] at this
           exact this
         · have hn:∀ y ∈ zs,¬ y.1=k:=λy hy e=>hk (by rw [List.find?_isSome]; exact ⟨y,hy,by simp [e]⟩)
           have:zs.map (λy=>if y.1=k then (y.1,v) else y)=zs:=by
             conv=>rhs; rw [<- List.map_id zs]
             exact Fb λy hy=>by rw [if_neg (hn y hy)]; rfl
           rw [this]
     · simp only [hx,decide_false] at h
       simp only [hx,if_false]
       by_cases hq:x.1=q
       · have:¬ q=k:=λz=>hx (hq.trans z)
         simp [hq,this]
       · simp only [hq,decide_false]
         exact ih h
 · rename_i h
   have hn:cI zs k=none:=by simpa using h
   unfold cI at hn ⊢
   rw [List.find?_append]
   by_cases hq:q=k
   · subst hq
     rw [Option.map_eq_none_iff] at hn
     simp [hn]
   · have:¬ k=q:=λz=>hq z.symm
     simp [this,hq]
theorem gA (s:Stp) (prev:List (List Int × Int)) (ps:List (List Int)) (p:List Int):dM s prev (ps++[p])=if 0 < cN s prev p then mK (dM s prev ps) p (cN s prev p) else dM s prev ps:=by
 unfold dM
 rw [Gh]
 rfl
theorem u0 (zs:List (List Int × Int)) (k:List Int) (v:Int):(mK zs k v).length<=zs.length + 1:=by
 unfold mK
 split <;> simp
theorem um (s:Stp) (prev:List (List Int × Int)) (ps:List (List Int)) (p:List Int) (m:Nat) (h:(dM s prev ps).length<=m):(dM s prev (ps++[p])).length<=m + 1:=by
 rw [gA]
 split
 · exact EH (u0 _ _ _) (by omega)
 · omega
theorem gz (s:Stp) (prev:List (List Int × Int)) (ps:List (List Int)):∀ l,(dM s prev (ps.take l)).length<=l
 | 0=>by simp [dM]
 | l + 1=>by
   by_cases h:l < ps.length
   · rw [take_snoc [] h]
     exact um s prev _ _ l (gz s prev ps l)
   · rw [ED (by omega),<- ED (i:=l) (l:=ps) (by omega)]
     have:=gz s prev ps l
     omega
noncomputable def iI (P:Program) (w:World) (T:Nat) (e:List Int) (ss:List Stp) (i:Nat):List D:=(Eo (i + 1)).map λj=>fE P w (cm T e (ss.drop (ss.length - j)))
noncomputable def cP (P:Program) (w:World) (ds:List D) (r:Sl):Prop:=∃ (T R C:Nat) (ss:List Stp) (e:List Int),ds=[cw T R C ss,tpD e]/\okL T R C ss/\e ≠ []/\e.length<=7/\r=.o ((Eo (ss.length + 1)).map λk=>fE P w (cm T e (ss.drop k)))
theorem xp (P:Program) (w:World) (T:Nat) (e:List Int) (ss:List Stp) (i:Nat):atI (iI P w T e ss i) (-1)=some (fE P w (cm T e (ss.drop (ss.length - i)))):=by
 unfold atI ixN iI
 rw [if_neg (by decide),if_pos (by rw [Ei,EN]; omega),Ei,EN]
 simp only [Je]
 rw [show (-1 + ((i + 1:Nat):Int)).toNat=i by omega]
 simp
theorem yP (P:Program) (w:World) (T:Nat) (e:List Int) (ss:List Stp):(iI P w T e ss ss.length).reverse=(Eo (ss.length + 1)).map λk=>fE P w (cm T e (ss.drop k)):=by
 unfold iI
 refine Fu (by simp) λi h1 h2=>?_
 rw [ID]
 have hi:i < ss.length + 1:=by simpa using h2
 simp only [Hh,IZ,Ei,EN]
 rw [show ss.length - (ss.length + 1 - 1 - i)=i by omega]
theorem xO {ss:List Stp} (i:Nat) (h:i < (ss.map stD).reverse.length):(ss.map stD).reverse[i]=stD (ss.getD (ss.length - 1 - i) ("weigh",0,0)):=by
 have:i < ss.length:=by simpa using h
 rw [ID]
 simp only [Hh,Ei]
 simp [(by omega:ss.length - 1 - i < ss.length)]
theorem mw (s:Stp) (c:List Int):(nxp s c).length<=2:=by
 unfold nxp
 split
 · split <;> simp
 · split
   · simp
   · split <;> simp
section
variable {P:Program} {w:World} {K:Ej} {mg:Str->Option Value} {base:Heap} {k:Nat} {f:Addr} {fd:FuncData} {qual:Str}
theorem i8 (F:Fun K "counts_ahead" qual (top 38) f fd) (hb:∀ x ∈ ao,mg x=none) (c_choices_of:Cal P w K mg base k "choices_of" eF) (c_next_places:Cal P w K mg base k "next_places" b7):aS P w K mg base CX0 (k + 1) f fd ["ladder","ends"] (spD K (cP P w)):=by
 refine fnD F eR hb (by rintro _ _ ⟨_,_,_,_,_,rfl,_⟩; rfl) ?_
 rintro _ _ ⟨T,R,C,ss,e,rfl,ok,e0,e7,rfl⟩ cdv A outer s H E b
 have nd:=eR.nd
 have t7:=ok.t7
 have h400:=ok.len
 have hu:(Xc P w K mg base ["ladder","ends","counts","all_places","step","behind","ahead","places","many"] qual (top 38) f cdv A outer s H E).A.units + 16 < cLine:=EV (Gq (by decide:16<=64) _) b.room.units
 have el:1<=e.length:=GR.mpr e0
 have lp:=mU t7 e.length
 have lp7:7 ^ e.length<=7 ^ 7:=E8 (by decide) e7
 refine aB 2 nd (bq (ae (Co (a:=Ev.cy Ev.eL) (hd:=hdI) (m:=zE [(e,1)]) (AN (key:=e) hu (aa 1) af (jN e))) ag)) ?_
 refine aB 3 nd (x_call b c_choices_of (ae (az (aa 0) af (ar (ak (i:=0) rfl))) (ae (bK b (ae (aa 1) ag) kC) ag)) ⟨T,e.length,by rw [Ei],t7,e7,rfl⟩) ?_
 refine bU 4 (g:=λi=>stD (ss.getD (ss.length - 1 - i) ("weigh",0,0))) (λi τ=>∃ s4 s5 s6 s7 s8,τ=[.d (cw T R C ss),.d (tpD e),.o (iI P w T e ss i),.d (qj (chs T e.length)),s4,s5,s6,s7,s8]) b nd (C4 b (az (aa 0) af (ar (ak (i:=3) rfl)))) xO ⟨.un,.un,.un,.un,.un,?_⟩ (λi hi τ h=>?_) λτ h=>?_
 · have:iI P w T e ss 0=[fE P w [(e,1)]]:=by
     unfold iI
     rw [List.range_one,IY,Nat.sub_zero,Ia]
     rfl
   rw [this]
   rfl
 · obtain ⟨s4,s5,s6,s7,s8,rfl⟩:=h
   have hi:i < ss.length:=by simpa using hi
   have ed:ss.drop (ss.length - (i + 1))=ss.getD (ss.length - 1 - i) ("weigh",0,0) :: ss.drop (ss.length - i):=by
     rw [GK (by omega)]
     congr 1
     · simp [(by omega:ss.length - 1 - i < ss.length),show ss.length - (i + 1)=ss.length - 1 - i by omega]
     · congr 1; omega
   generalize hsg:ss.getD (ss.length - 1 - i) ("weigh",0,0)=sg at ed
   generalize hpv:cm T e (ss.drop (ss.length - i))=prev
   refine aB 5 nd (tu 2 (oQ af) (xp P w T e ss i)) ?_
   rw [hpv]
   refine aB 6 nd (Aj (a:=Ev.cy Ev.eL) (hd:=hdI)) ?_
   refine bU 7 (g:=λl=>tpD ((chs T e.length).getD l [])) (λl τ=>∃ s7 s8,τ=[.d (cw T R C ss),.d (tpD e),.o (iI P w T e ss i),.d (qj (chs T e.length)),.d (stD sg),.d (fE P w prev),.x (exK (Ev.cy Ev.eL) hdI P w (zE (dM sg prev ((chs T e.length).take l)))),s7,s8]) b nd (a4 (aa 3)) vL ⟨s7,s8,rfl⟩ (λl hl τ h=>?_) λτ h=>?_
   · obtain ⟨s7,s8,rfl⟩:=h
     have hl:l < (chs T e.length).length:=by simpa using hl
     have okc:=iQ T e.length _ (jw (d:=[]) hl)
     have cne:(chs T e.length).getD l [] ≠ []:=λz=>by have:=okc.len; rw [z] at this; simp at this; omega
     generalize hp:(chs T e.length).getD l []=p at okc cne ⊢
     refine aB 8 nd (bK b (ae (a8 (du (cmp 0 (g:=λj=>tpD ((nxp sg p).getD j [])) (f:=λj=>.int (nZ prev ((nxp sg p).getD j []))) b (a4 (a8 (x_call b c_next_places (ae (aa 4) (ae (aa 7) ag)) ⟨sg,p,rfl,cne,by rw [okc.len]; omega,rfl⟩))) vL ?_ λj hj s0 H0 fp=>?_))) ag) (B6 b.calm ((nxp sg p).map (nZ prev)) ?_)) ?_
     · rw [Ei]; have:=mw sg p; omega
     · rw [<- sj]
       exact sM (a:=Ev.cy Ev.eL) (hd:=hdI) (m:=zE prev) (key:=(nxp sg p).getD j []) (EV (Gq (by decide:16<=64) _) (b.comp s0 H0 _ fp).room.units) (aa 1) (aa 0) af (jN _)
     · rw [Ei]
       refine Fu (by simp) λj h1 h2=>?_
       have:j < (nxp sg p).length:=by simpa using h1
       simp [this]
     rw [show ((nxp sg p).map (nZ prev)).sum=cN sg prev p from rfl]
     have tk:(chs T e.length).take (l + 1)=(chs T e.length).take l++[p]:=by rw [take_snoc [] hl,hp]
     refine jv (M:=λτ=>τ=[.d (cw T R C ss),.d (tpD e),.o (iI P w T e ss i),.d (qj (chs T e.length)),.d (stD sg),.d (fE P w prev),.x (exK (Ev.cy Ev.eL) hdI P w (zE (dM sg prev ((chs T e.length).take (l + 1))))),.d (tpD p),.d (.int (cN sg prev p))]) (aN (aa 8) af mr) (λh=>?_) (λh=>?_) λτ h=>aQ ⟨_,_,h⟩
     · have h:0 < cN sg prev p:=of_decide_eq_true h
       refine A7 6 (a:=Ev.cy Ev.eL) (hd:=hdI) (key:=p) (x:=.int (cN sg prev p)) hu rfl (aa 7) (aa 8) ?_ (jN p) (aQ ?_)
       · unfold zE
         rw [Ei]
         have:=gz sg prev (chs T e.length) l
         have lim:1000000<=sizeLine:=by decide
         omega
       · rw [x4,tk,gA,if_pos h]
         rfl
     · have h:¬ 0 < cN sg prev p:=of_decide_eq_false h
       refine aQ ?_
       rw [tk,gA,if_neg h]
       rfl
   · obtain ⟨s7,s8,rfl⟩:=h
     refine CY 6 (a:=Ev.cy Ev.eL) (hd:=hdI) ?_
     refine lD 2 (aa 6) ?_ (aQ ⟨.d (stD sg),.d (fE P w prev),.d (fE P w (cm T e (ss.drop (ss.length - (i + 1))))),s7,s8,?_⟩)
     · unfold iI; rw [Ei,EN]; omega
     · have e1:cm T e (ss.drop (ss.length - (i + 1)))=dM sg prev (chs T e.length):=by rw [ed,cm,hpv]
       have e2:iI P w T e ss (i + 1)=iI P w T e ss i++[fE P w (cm T e (ss.drop (ss.length - (i + 1))))]:=by
         unfold iI
         rw [Fz,EW]
         rfl
       rw [e2,e1,Ei,ED (Ek _)]
       rfl
 · obtain ⟨s4,s5,s6,s7,s8,rfl⟩:=h
   refine BM 2 (nJ 2 ?_)
   rw [Ho,Ei,yP]
end
structure ChO (m:Int) (ns:List Int):Prop where
 ne:ns ≠ []
 up:∀ i,i + 1 < ns.length->ns.getD i 0 < ns.getD (i + 1) 0
 lo:0<=ns.getD 0 0
 hi:ke ns < m
 len:ns.length<=1000
noncomputable def fK (ds:List D) (r:Sl):Prop:=∃ ns:List Int,ds=[.lst (ns.map .int)]/\(∀ i,i + 1 < ns.length->ns.getD i 0 < ns.getD (i + 1) 0)/\ns.length<=1000/\r=.d (.bl true)
theorem xC (n:Nat) (f:Nat->Bool) (h:∀ i,i < n->f i=true):((Eo n).map f).all id=true:=by
 rw [Gk,E9]
 intro i hi
 exact h i (EY.mp hi)
noncomputable def eX (ds:List D) (r:Sl):Prop:=∃ (ns:List Int) (m:Int),ds=[.lst (ns.map .int),.int m]/\ChO m ns/\r=.d (.bl true)
noncomputable def cO (ds:List D) (r:Sl):Prop:=∃ (ns ms:List Int) (m n:Int),ds=[.lst (ns.map .int),.lst (ms.map .int),.int m,.int n]/\ChO m ns/\ChO n ms/\r=.d .non
noncomputable def fF (ds:List D) (r:Sl):Prop:=∃ (T R C:Nat) (ss:List Stp) (ns ms:List Int),ds=[cw T R C ss,.lst (ns.map .int),.lst (ms.map .int)]/\okL T R C ss/\ChO R ns/\ChO C ms/\ns.length=ms.length/\r=.d .non
section
variable {P:Program} {w:World} {K:Ej} {mg:Str->Option Value} {base:Heap} {k:Nat} {f:Addr} {fd:FuncData} {qual:Str}
theorem l6 (F:Fun K "is_rising" qual (top 18) f fd) (hb:∀ x ∈ ao,mg x=none):aS P w K mg base CX0 (k + 1) f fd ["numbers"] (spD K fK):=by
 refine fnD F mT hb (by rintro _ _ ⟨_,rfl,_⟩; rfl) ?_
 rintro _ _ ⟨ns,rfl,up,hl,rfl⟩ cdv A outer s H E b
 have el:(((ns.map D.int).length:Int) - 1).toNat=ns.length - 1:=by rw [Ei]; omega
 refine aL (bK b (ae (a8 (du (cmp 0 (g:=λi=>.int (1 + (i:Nat))) (f:=λi=>.bl (decide (ns.getD i 0 < ns.getD (i + 1) 0))) b (uO b af (bK b (ae (aa 0) ag) eP) (by rw [Ei]; omega)) (λi h=>jn 1 _ i h) (by rw [aO]; omega) λi hi s0 H0 fp=>?_))) ag) (rH b.calm ((Eo (ns.length - 1)).map λi=>decide (ns.getD i 0 < ns.getD (i + 1) 0)) (by rw [aO,el,EU]; rfl))) ?_
 · have hi:i < ns.length - 1:=by rw [aO,el] at hi; exact hi
   have k0:atI (ns.map D.int) (1 + (i:Int) - 1)=some (.int (ns.getD i 0)):=by
     have e:(1 + (i:Int) - 1).toNat=i:=by omega
     have:=aZ (ns:=ns) (i:=1 + (i:Int) - 1) (by omega) (by omega)
     rw [e] at this
     exact this
   have k1:atI (ns.map D.int) (1 + (i:Int))=some (.int (ns.getD (i + 1) 0)):=by
     have e:(1 + (i:Int)).toNat=i + 1:=by omega
     have:=aZ (ns:=ns) (i:=1 + (i:Int)) (by omega) (by omega)
     rw [e] at this
     exact this
   exact gH (az (aa 1) (aC (aa 0) af i3) (aW k0)) (az (aa 1) (aa 0) (aW k1)) x8
 · rw [xC (ns.length - 1) (λi=>decide (ns.getD i 0 < ns.getD (i + 1) 0)) λi hi=>decide_eq_true (up i (by omega))]
theorem mS (F:Fun K "is_choice" qual (top 17) f fd) (hb:∀ x ∈ ao,mg x=none) (c_is_rising:Cal P w K mg base k "is_rising" fK) (c_is_whole:Cal P w K mg base k "is_whole" bX):aS P w K mg base CX0 (k + 1) f fd ["thing","many"] (spD K eX):=by
 refine fnD F nB hb (by rintro _ _ ⟨_,_,rfl,_⟩; rfl) ?_
 rintro _ _ ⟨ns,m,rfl,h,rfl⟩ cdv A outer s H E b
 have hl:=h.len
 have l0:0 < ns.length:=GR.mpr h.ne
 refine bO (PW.pt (dn (bx (bj (x_call b c_is_whole (ae (aa 1) ag) ⟨_,rfl,rfl⟩))) λh=>(dn (bx (bj (gc .list b (aa 0)))) λh=>(de (aN (bK b (ae (aa 0) ag) eP) af fW))))) ?_ ?_
 · rw [decide_eq_false (by rw [Ei]; omega)]; rfl
 refine bO (bx (bj (bK b (ae (a8 (du (cmp 0 (f:=λl=>.bl true) b (a4 (aa 0)) kG (by rw [Ei]; omega) λl hl s0 H0 fp=>(x_call (b.comp s0 H0 _ fp) c_is_whole (ae (aa 0) ag) ⟨_,rfl,rfl⟩)))) ag) (rH b.calm ((Eo ns.length).map λ_=>true) (by rw [Ei,EU]; rfl))))) ?_ ?_
 · rw [xC ns.length (λ_=>true) λ_ _=>rfl]; rfl
 refine aL (kn (x_call b c_is_rising (ae (aa 0) ag) ⟨ns,rfl,h.up,hl,rfl⟩) λ_=>(kn (gH (az (aa 0) af (aW (aZ (ns:=ns) (i:=0) (by decide) l0))) af yn) λ_=>(lW (gH (az (aa 0) (oQ af) (aW (nH h.ne))) (aa 1) x8)))) ?_
 rw [decide_eq_true (show ns.getD (0:Int).toNat 0 ≥ 0 from h.lo),decide_eq_true h.hi]
 rfl
theorem jf (F:Fun K "look_choices" qual (top 19) f fd) (hb:∀ x ∈ ao,mg x=none) (c_is_choice:Cal P w K mg base k "is_choice" eX):aS P w K mg base CX0 (k + 1) f fd ["rows","columns","many_rows","many_columns"] (spD K cO):=by
 refine fnD F i6 hb (by rintro _ _ ⟨_,_,_,_,rfl,_⟩; rfl) ?_
 rintro _ _ ⟨ns,ms,m,n,rfl,h1,h2,rfl⟩ cdv A outer s H E b
 refine bO (bx (bj (x_call b c_is_choice (ae (aa 0) (ae (aa 2) ag)) ⟨ns,m,rfl,h1,rfl⟩))) rfl ?_
 exact bO (bx (bj (x_call b c_is_choice (ae (aa 1) (ae (aa 3) ag)) ⟨ms,n,rfl,h2,rfl⟩))) rfl (aQ rfl)
theorem nC (F:Fun K "look_ends" qual (top 43) f fd) (hb:∀ x ∈ ao,mg x=none) (c_look_ladder:Cal P w K mg base k "look_ladder" b9) (c_look_choices:Cal P w K mg base k "look_choices" cO):aS P w K mg base CX0 (k + 1) f fd ["ladder","rows","columns"] (spD K fF):=by
 refine fnD F nL hb (by rintro _ _ ⟨_,_,_,_,_,_,rfl,_⟩; rfl) ?_
 rintro _ _ ⟨T,R,C,ss,ns,ms,rfl,ok,h1,h2,hl,rfl⟩ cdv A outer s H E b
 refine mI (x_call b c_look_ladder (ae (aa 0) ag) ⟨T,R,C,ss,rfl,ok,rfl⟩) ?_
 refine mI (x_call b c_look_choices (ae (aa 1) (ae (aa 2) (ae (az (aa 0) af (ar (ak (i:=1) rfl))) (ae (az (aa 0) af (ar (ak (i:=2) rfl))) ag)))) ⟨ns,ms,R,C,rfl,h1,h2,rfl⟩) ?_
 refine bO (aN (bK b (ae (aa 1) ag) eP) (bK b (ae (aa 2) ag) eP) j3) ?_ (aQ rfl)
 rw [Ei,Ei,hl,decide_eq_true rfl]; rfl
end
noncomputable def trD (t:List (List Int)):D:=.lst (t.map tpD)
noncomputable def bg (t:List (List Int)):List Int:=t.getD (t.length - 1) []
noncomputable def alv (zs:List (List Int × Int)) (q:List Int):Bool:=(cI zs q).isSome
noncomputable def onT (s:Stp) (zs:List (List Int × Int)) (t:List (List Int)):List (List (List Int)):=((nxp s (bg t)).filter (alv zs)).map λq=>t++[q]
noncomputable def lgT (s:Stp) (zs:List (List Int × Int)) (fs:List (List (List Int))):List (List (List Int)):=fs.flatMap (onT s zs)
theorem yb (s:Stp) (zs:List (List Int × Int)) (t:List (List Int)):(onT s zs t).length<=2:=by
 unfold onT
 rw [Ei]
 exact EH (Io _ _) (mw s (bg t))
theorem vb {t:List (List Int)} (h:t ≠ []):atI (t.map tpD) (-1)=some (tpD (bg t)):=by
 have hl:0 < t.length:=GR.mpr h
 unfold atI ixN bg
 rw [if_neg (by decide),if_pos (by rw [Ei]; omega),Ei]
 simp only [Je]
 have e:(-1 + (t.length:Int)).toNat=t.length - 1:=by omega
 rw [e]
 simp [(by omega:t.length - 1 < t.length)]
structure TrO (m:Nat) (t:List (List Int)):Prop where
 ne:t ≠ []
 ln:bg t ≠ []
 l7:(bg t).length<=1000
 len:t.length<=m
noncomputable def cA (P:Program) (w:World) (ds:List D) (r:Sl):Prop:=∃ (fs:List (List (List Int))) (s:Stp) (zs:List (List Int × Int)),ds=[.lst (fs.map trD),stD s,fE P w zs]/\fs.length<=3000/\(∀ t ∈ fs,TrO 1000 t)/\r=.o ((lgT s zs fs).map trD)
theorem D0 {fs:List (List (List Int))} (i:Nat) (h:i < (fs.map trD).length):(fs.map trD)[i]=trD (fs.getD i []):=by
 have:i < fs.length:=by simpa using h
 simp [this]
theorem oF (s:Stp) (prev:List (List Int × Int)) (q:List Int):∀ (ps:List (List Int)) (m:List (List Int × Int)),cI (ps.foldl (λm p=>if 0 < cN s prev p then mK m p (cN s prev p) else m) m) q=if q ∈ ps/\0 < cN s prev q then some (cN s prev q) else cI m q
 | [],m=>by simp
 | p :: ps,m=>by
   rw [Ip,oF s prev q ps]
   by_cases h1:q ∈ ps/\0 < cN s prev q
   · rw [if_pos h1,if_pos ⟨Ep _ h1.1,h1.2⟩]
   · rw [if_neg h1]
     by_cases hp:0 < cN s prev p
     · rw [if_pos hp,vN]
       by_cases e:q=p
       · subst e
         rw [if_pos rfl,if_pos ⟨Es ..,hp⟩]
       · rw [if_neg e,if_neg]
         rintro ⟨z1,z2⟩
         exact h1 ⟨(EE.mp z1).resolve_left e,z2⟩
     · rw [if_neg hp,if_neg]
       rintro ⟨z1,z2⟩
       rcases EE.mp z1 with rfl | z1
       · exact hp z2
       · exact h1 ⟨z1,z2⟩
theorem step_get (s:Stp) (prev:List (List Int × Int)) (ps:List (List Int)) (q:List Int):cI (dM s prev ps) q=if q ∈ ps/\0 < cN s prev q then some (cN s prev q) else none:=oF s prev q ps []
theorem vY (T:Nat) (e:List Int):∀ (ss:List Stp) (q:List Int) (v:Int),cI (cm T e ss) q=some v->1<=v
 | [],q,v,h=>by
   rw [cm,cI,E6] at h
   split at h
   · cases h; exact Hu _
   · simp at h
 | s :: ss,q,v,h=>by
   rw [cm,step_get] at h
   split at h
   · cases h; rename_i z; omega
   · cases h
theorem gi {T:Nat} {e:List Int} {ss:List Stp} {q:List Int}:(alv (cm T e ss) q=true->1<=nZ (cm T e ss) q)/\(alv (cm T e ss) q=false->nZ (cm T e ss) q=0):=by
 unfold alv nZ
 cases h:cI (cm T e ss) q with
 | none=>exact ⟨λz=>(by cases z),λ_=>rfl⟩
 | some v=>exact ⟨λ_=>vY T e ss q v h,λz=>by cases z⟩
noncomputable def trK (T:Nat) (e st:List Int) (ss:List Stp):Nat->List (List (List Int))
 | 0=>if 0 < nZ (cm T e ss) st then [[st]] else []
 | k + 1=>lgT (ss.getD k ("weigh",0,0)) (cm T e (ss.drop (k + 1))) (trK T e st ss k)
theorem lst_snoc (t:List (List Int)) (q:List Int):bg (t++[q])=q:=by simp [bg]
theorem sum_filter (zs:List (List Int × Int)) (f:List Int->Int) (h:∀ q,alv zs q=false->f q=0):∀ qs:List (List Int),((qs.filter (alv zs)).map f).sum=(qs.map f).sum
 | []=>rfl
 | q :: qs=>by
   cases hq:alv zs q with
   | true=>rw [Gn hq,Er,Er,Fy,Fy,sum_filter zs f h qs]
   | false=>rw [Gp (by rw [hq]; decide),Er,Fy,sum_filter zs f h qs,h q hq,Int.zero_add]
theorem oW {α β:Type} (f:α->List β) (g:β->Int):∀ xs:List α,((xs.flatMap f).map g).sum=(xs.map λx=>((f x).map g).sum).sum
 | []=>rfl
 | x :: xs=>by rw [Jg,EW,List.sum_append,oW f g xs,Er,Fy]
theorem mf {ss:List Stp} {k:Nat} (h:k < ss.length):ss.drop k=ss.getD k ("weigh",0,0) :: ss.drop (k + 1):=by
 rw [GK h]
 simp [h]
theorem wt {α:Type} {f g:α->Int}:∀ {xs:List α},(∀ x ∈ xs,f x=g x)->(xs.map f).sum=(xs.map g).sum
 | [],_=>rfl
 | x :: xs,h=>by rw [Er,Er,Fy,Fy,h x (Es ..),wt λy hy=>h y (Ep _ hy)]
theorem gn (T:Nat) (e st:List Int) (ss:List Stp):∀ k,k<=ss.length->(∀ t ∈ trK T e st ss k,t.length=k + 1/\alv (cm T e (ss.drop k)) (bg t)=true)/\((trK T e st ss k).map λt=>nZ (cm T e (ss.drop k)) (bg t)).sum=nZ (cm T e ss) st
 | 0,_=>by
   rw [trK]
   split
   · rename_i h
     refine ⟨λt ht=>?_,by simp [bg]⟩
     rw [Em] at ht
     subst ht
     refine ⟨rfl,?_⟩
     show alv (cm T e ss) st=true
     cases hq:alv (cm T e ss) st with
     | true=>rfl
     | false=>rw [gi.2 hq] at h; omega
   · rename_i h
     refine ⟨λt ht=>(by cases ht),?_⟩
     show (0:Int)=_
     cases hq:alv (cm T e ss) st with
     | true=>have:=gi.1 hq; omega
     | false=>rw [gi.2 hq]
 | k + 1,hk=>by
   obtain ⟨i1,i2⟩:=gn T e st ss k (by omega)
   have ed:=mf (ss:=ss) (k:=k) (by omega)
   rw [trK]
   generalize ss.getD k ("weigh",0,0)=s at ed ⊢
   refine ⟨λt ht=>?_,?_⟩
   · unfold lgT onT at ht
     rw [Hg] at ht
     obtain ⟨t0,h0,h1⟩:=ht
     obtain ⟨q,hq,rfl⟩:=EL.mp h1
     refine ⟨by rw [EC,(i1 t0 h0).1]; rfl,?_⟩
     rw [lst_snoc]
     exact (Hn.mp hq).2
   · rw [<- i2]
     unfold lgT
     rw [oW]
     refine wt λt ht=>?_
     unfold onT
     rw [EU]
     have e1:((λt=>nZ (cm T e (ss.drop (k + 1))) (bg t)) ∘ λq=>t++[q])=nZ (cm T e (ss.drop (k + 1))):=funext λq=>by simp only [Gv,lst_snoc]
     rw [e1,sum_filter _ _ λq hq=>gi.2 hq]
     have h2:=(i1 t ht).2
     rw [ed] at h2 ⊢
     unfold alv at h2
     unfold nZ
     rw [cm,step_get] at h2 ⊢
     by_cases z:bg t ∈ chs T e.length/\0 < cN s (cm T e (ss.drop (k + 1))) (bg t)
     · rw [if_pos z]
       rfl
     · rw [if_neg z] at h2; cases h2
theorem sN {α:Type} {f:α->Int}:∀ {xs:List α},(∀ x ∈ xs,1<=f x)->(xs.length:Int)<=(xs.map f).sum
 | [],_=>by simp
 | x :: xs,h=>by
   rw [Er,Fy,ET]
   have:=h x (Es ..)
   have:=sN λy hy=>h y (Ep x hy)
   omega
theorem yg (T:Nat) (e st:List Int) (ss:List Stp) {k:Nat} (hk:k<=ss.length):((trK T e st ss k).length:Int)<=nZ (cm T e ss) st:=by
 obtain ⟨i1,i2⟩:=gn T e st ss k hk
 rw [<- i2]
 exact sN λt ht=>gi.1 (i1 t ht).2
theorem yj {T:Nat} {e:List Int} {ss:List Stp} {q:List Int} (h:alv (cm T e ss) q=true) (he:ss=[]->q.length=e.length):q.length=e.length:=by
 cases ss with
 | nil=>exact he rfl
 | cons s ss=>
   unfold alv at h
   rw [cm,step_get] at h
   split at h
   · rename_i z; exact (iQ T e.length q z.1).len
   · cases h
theorem mE {T:Nat} {e q:List Int} (h:alv (cm T e []) q=true):q=e:=by
 unfold alv at h
 rw [cm,cI,E6] at h
 split at h
 · rename_i z; exact (of_decide_eq_true z).symm
 · simp at h
theorem rE {T:Nat} {e:List Int} {ss:List Stp} {q:List Int} (h:alv (cm T e ss) q=true):q.length=e.length:=yj h λz=>by subst z; rw [mE h]
noncomputable def kz (ds:List D) (r:Sl):Prop:=∃ (T R C:Nat) (ss:List Stp) (st e:List Int),ds=[cw T R C ss,tpD st,tpD e]/\okL T R C ss/\e ≠ []/\e.length<=7/\nZ (cm T e ss) st<=3000/\r=.d (.lst ((trK T e st ss ss.length).map trD))
theorem uX {ss:List Stp} (i:Nat) (h:i < (gI (ss.map stD)).length):(gI (ss.map stD))[i]=.tup [.int (i:Nat),stD (ss.getD i ("weigh",0,0))]:=by
 rw [a9,Ei] at h
 rw [ji]
 simp [h]
noncomputable def cV (ds:List D) (r:Sl):Prop:=∃ a b:Int,ds=[.int a,.int b]/\r=.d (.int (EO a b:Int))
noncomputable def fD (ds:List D) (r:Sl):Prop:=∃ (t b:Int) (q:Rat),ds=[.int t,.int b]/\0 < b/\Bd 8999 b/\(t:Rat)=q * (b:Rat)/\r=.d (frD q)
noncomputable def jx (ds:List D) (r:Sl):Prop:=∃ (ns:List Int) (k:Nat),ds=[.lst (ns.map .int),.int k]/\r=.d (.int (ns.getD k 0))
noncomputable def rwD (r:List Int):D:=.lst (r.map .int)
noncomputable def tbD (m:List (List Int)):D:=.lst (m.map rwD)
noncomputable def jd (t:List (List Int)) (k:Nat):List Int:=t.map λc=>c.getD k 0
noncomputable def jD (ds:List D) (r:Sl):Prop:=∃ (t:List (List Int)) (k:Nat),ds=[trD t,.int k]/\t.length<=1000/\(∀ c ∈ t,k < c.length)/\r=.o ((jd t k).map .int)
theorem xB (T:Nat) (e st:List Int) (ss:List Stp) (hs:st.length=e.length):∀ k,k<=ss.length->∀ t ∈ trK T e st ss k,∀ c ∈ t,c.length=e.length
 | 0,_,t,ht,c,hc=>by
   rw [trK] at ht
   split at ht
   · rw [Em] at ht
     subst ht
     rw [Em] at hc
     rw [hc]; exact hs
   · cases ht
 | k + 1,hk,t,ht,c,hc=>by
   have al:=((gn T e st ss (k + 1) hk).1 t ht).2
   rw [trK] at ht
   unfold lgT onT at ht
   rw [Hg] at ht
   obtain ⟨t0,h0,h1⟩:=ht
   obtain ⟨q,hq,rfl⟩:=EL.mp h1
   rcases Ff.mp hc with z | z
   · exact xB T e st ss hs k (by omega) t0 h0 c z
   · rw [Em] at z
     subst z
     rw [lst_snoc] at al
     exact rE al
theorem pf {α:Type} {f:α->Int}:∀ {xs:List α},(∀ x ∈ xs,f x=1)->(xs.map f).sum=(xs.length:Int)
 | [],_=>rfl
 | x :: xs,h=>by
   rw [Er,Fy,h x (Es ..),pf λy hy=>h y (Ep _ hy),ET]
   omega
theorem vU (T:Nat) (e st:List Int) (ss:List Stp):((trK T e st ss ss.length).length:Int)=nZ (cm T e ss) st:=by
 obtain ⟨i1,i2⟩:=gn T e st ss ss.length (Ek _)
 rw [<- i2]
 refine (pf λt ht=>?_).symm
 have h:=(i1 t ht).2
 rw [Ia] at h ⊢
 rw [mE h]
 unfold nZ
 rw [cm,cI,E6]
 simp
section
variable {P:Program} {w:World} {K:Ej} {mg:Str->Option Value} {base:Heap} {k:Nat} {f:Addr} {fd:FuncData} {qual:Str}
theorem iM (F:Fun K "longer_trails" qual (top 40) f fd) (hb:∀ x ∈ ao,mg x=none) (c_next_places:Cal P w K mg base k "next_places" b7):aS P w K mg base CX0 (k + 1) f fd ["found","step","counts"] (spD K (cA P w)):=by
 refine fnD F dr hb (by rintro _ _ ⟨_,_,_,rfl,_⟩; rfl) ?_
 rintro _ _ ⟨fs,sg,zs,rfl,hl,hf,rfl⟩ cdv A outer s H E b
 have nd:=dr.nd
 have hu:(Xc P w K mg base ["found","step","counts","longer","trail","places"] qual (top 40) f cdv A outer s H E).A.units + 16 < cLine:=EV (Gq (by decide:16<=64) _) b.room.units
 refine aB 3 nd (bq ag) ?_
 refine bU 4 (g:=λi=>trD (fs.getD i [])) (λi τ=>∃ s4 s5,τ=[.d (.lst (fs.map trD)),.d (stD sg),.d (fE P w zs),.o ((lgT sg zs (fs.take i)).map trD),s4,s5]) b nd (a4 (aa 0)) D0 ⟨.un,.un,rfl⟩ (λi hi τ h=>?_) λτ h=>?_
 · obtain ⟨s4,s5,rfl⟩:=h
   have hi:i < fs.length:=by simpa using hi
   have ht:=hf _ (jw (d:=[]) hi)
   have lt:=hJ (onT sg zs) 2 (fs.take i) λt _=>yb sg zs t
   rw [E1] at lt
   have hlg:lgT sg zs (fs.take (i + 1))=lgT sg zs (fs.take i)++onT sg zs (fs.getD i []):=by
     unfold lgT
     rw [take_snoc [] hi,List.flatMap_append]
     simp
   generalize fs.getD i []=t at ht hlg ⊢
   refine bU 5 (g:=λl=>tpD ((nxp sg (bg t)).getD l [])) (λl τ=>∃ s5,τ=[.d (.lst (fs.map trD)),.d (stD sg),.d (fE P w zs),.o ((lgT sg zs (fs.take i)++(((nxp sg (bg t)).take l).filter (alv zs)).map λq=>t++[q]).map trD),.d (trD t),s5]) b nd (a4 (a8 (x_call b c_next_places (ae (aa 1) (ae (az (aa 4) (oQ af) (aW (vb ht.ne))) ag)) ⟨sg,bg t,rfl,ht.ln,ht.l7,rfl⟩))) vL ⟨s5,by simp⟩ (λl hl τ h=>?_) λτ h=>?_
   · obtain ⟨s5,rfl⟩:=h
     have hl:l < (nxp sg (bg t)).length:=by simpa using hl
     have n2:=mw sg (bg t)
     have tk:(nxp sg (bg t)).take (l + 1)=(nxp sg (bg t)).take l++[(nxp sg (bg t)).getD l []]:=take_snoc [] hl
     generalize (nxp sg (bg t)).getD l []=q at tk ⊢
     have lf:((((nxp sg (bg t)).take l).filter (alv zs)).map λq=>t++[q]).length<=2:=by
       rw [Ei]
       exact EH (Io _ _) (by rw [E1]; omega)
     refine jv (M:=λτ=>τ=[.d (.lst (fs.map trD)),.d (stD sg),.d (fE P w zs),.o ((lgT sg zs (fs.take i)++(((nxp sg (bg t)).take (l + 1)).filter (alv zs)).map λq=>t++[q]).map trD),.d (trD t),.d (tpD q)]) (aN (aa 5) (aa 2) (B7 (a:=Ev.cy Ev.eL) (hd:=hdI) (m:=zE zs) (key:=q) hu (jN q))) (λh=>?_) (λh=>?_) λτ h=>aQ ⟨_,h⟩
     · have h:alv zs q=true:=by rw [jq,IX] at h; exact h
       refine lD 3 (a8 (zx (aa 4) (a8 (bq (ae (aa 5) ag))) ?_)) ?_ (aQ ?_)
       · rw [Ei]; have:=ht.len; show _ + 1 < _; omega
       · rw [Ei,EC]
         show (lgT sg zs (fs.take i)).length + _ < _
         unfold lgT
         omega
       · have er:(lgT sg zs (fs.take i)++(((nxp sg (bg t)).take (l + 1)).filter (alv zs)).map λq=>t++[q]).map trD=(lgT sg zs (fs.take i)++(((nxp sg (bg t)).take l).filter (alv zs)).map λq=>t++[q]).map trD++[.lst (t.map tpD++[tpD q])]:=by
           rw [tk,FA,Gn h,GZ]
           simp [trD]
         rw [er]
         rfl
     · have h:alv zs q=false:=by rw [jq,IX] at h; exact h
       refine aQ ?_
       rw [tk,FA,Gp (by rw [h]; decide),GZ,FC]
       rfl
   · obtain ⟨s5,rfl⟩:=h
     refine aQ ⟨.d (trD t),s5,?_⟩
     rw [hlg,Ei,ED (Ek _)]
     rfl
 · obtain ⟨s4,s5,rfl⟩:=h
   refine nJ 3 ?_
   rw [Ei,ED (Ek _)]
theorem uI (F:Fun K "trails" qual (top 39) f fd) (hb:∀ x ∈ ao,mg x=none) (y_MOST_LISTED:∃ t,mg "MOST_LISTED" = some (.int 3000 t)) (c_counts_ahead:Cal P w K mg base k "counts_ahead" (cP P w)) (c_longer_trails:Cal P w K mg base k "longer_trails" (cA P w)):aS P w K mg base CX0 (k + 1) f fd ["ladder","starts","ends"] (spD K kz):=by
 refine fnD F lU hb (by rintro _ _ ⟨_,_,_,_,_,_,rfl,_⟩; rfl) ?_
 rintro _ _ ⟨T,R,C,ss,st,e,rfl,ok,e0,e7,h3,rfl⟩ cdv A outer s H E b
 have nd:=lU.nd
 have h400:=ok.len
 have el:1<=e.length:=GR.mpr e0
 have hu:(Xc P w K mg base ["ladder","starts","ends","counts","many","found","k","step"] qual (top 39) f cdv A outer s H E).A.units + 16 < cLine:=EV (Gq (by decide:16<=64) _) b.room.units
 have at_:∀ k:Nat,k<=ss.length->atI ((Eo (ss.length + 1)).map λk=>fE P w (cm T e (ss.drop k))) (k:Int)=some (fE P w (cm T e (ss.drop k))):=λk hk=>ak (by simp [(by omega:k < ss.length + 1)])
 refine aB 3 nd (a8 (x_call b c_counts_ahead (ae (aa 0) (ae (aa 2) ag)) ⟨T,R,C,ss,e,rfl,ok,e0,e7,rfl⟩)) ?_
 refine aB 4 nd (sM (a:=Ev.cy Ev.eL) (hd:=hdI) (m:=zE (cm T e ss)) (key:=st) hu (az (aa 3) af (aW (at_ 0 (Fg _)))) (aa 1) af (jN st)) ?_
 rw [sj]
 refine bO (aN (aa 4) (qL y_MOST_LISTED) mr) (decide_eq_false (by omega)) ?_
 refine aB 5 nd (j5 (s:=.d (.lst ((trK T e st ss 0).map trD))) (aN (aa 4) af mr) (λh=>?_) λh=>?_) ?_
 · rw [show trK T e st ss 0=[[st]] from if_pos (of_decide_eq_true h)]
   exact a8 (bq (ae (a8 (bq (ae (aa 1) ag))) ag))
 · rw [show trK T e st ss 0=[] from if_neg (of_decide_eq_false h)]
   exact a8 (bq ag)
 refine iA 6 7 (λi τ=>∃ s6 s7,τ=[.d (cw T R C ss),.d (tpD st),.d (tpD e),.d (.lst ((Eo (ss.length + 1)).map λk=>fE P w (cm T e (ss.drop k)))),.d (.int (nZ (cm T e ss) st)),.d (.lst ((trK T e st ss i).map trD)),s6,s7]) b nd (lX b (az (aa 0) af (ar (ak (i:=3) rfl)))) uX ⟨.un,.un,rfl⟩ (λi hi τ h=>?_) λτ h=>?_
 · obtain ⟨s6,s7,rfl⟩:=h
   have hi:i < ss.length:=by rw [a9,Ei] at hi; exact hi
   obtain ⟨i1,_⟩:=gn T e st ss i (by omega)
   have il:=yg T e st ss (k:=i) (by omega)
   refine aB 5 nd (a8 (x_call b c_longer_trails (ae (aa 5) (ae (aa 7) (ae (az (aa 3) (aC (aa 6) af a5) (aW (at_ (i + 1) (by omega)))) ag))) ⟨trK T e st ss i,_,cm T e (ss.drop (i + 1)),rfl,by omega,λt ht=>?_,rfl⟩)) (aQ ⟨_,_,rfl⟩)
   obtain ⟨z1,z2⟩:=i1 t ht
   have zl:=rE z2
   exact ⟨λz=>by rw [z] at z1; simp at z1,λz=>by rw [z] at zl; simp at zl; omega,by omega,by omega⟩
 · obtain ⟨s6,s7,rfl⟩:=h
   refine aL (aa 5) ?_
   rw [a9,Ei]
theorem ma (F:Fun K "_law_divisor" qual (top 50) f fd) (hb:∀ x ∈ ao,mg x=none):aS P w K mg base CX0 (k + 1) f fd ["_law_one","_law_other"] (spD K cV):=by
 refine fnD F gD hb (by rintro _ _ ⟨_,_,rfl,_⟩; rfl) ?_
 rintro _ _ ⟨x,y,rfl,rfl⟩ cdv A outer s H E b
 have nd:=gD.nd
 refine aB 0 nd (bK b (ae (aa 0) ag) o9) (aB 1 nd (bK b (ae (aa 1) ag) o9) ?_)
 rw [gJ,gJ]
 refine sf (λn t τ=>∃ (g:Nat) (s2:Sl),Nat.gcd g n=EO x y/\t=(decide ((0:Int) < n))/\τ=[.d (.int g),.d (.int n),s2]) b ⟨_,_,_,_,rfl,rfl,rfl⟩ (λn t τ h=>?_) (λn τ h=>?_) λn τ h=>?_
 · obtain ⟨g,s2,_,rfl,rfl⟩:=h
   exact aN (aa 1) af mr
 · obtain ⟨g,s2,hg,ht,rfl⟩:=h
   have hl:n ≠ 0:=λz=>by simp [z] at ht
   have e:(g:Int).fmod n=((g % n:Nat):Int):=by rw [GG _ (by omega)]; rfl
   refine aB 2 nd (aC (aa 0) (aa 1) (cb (by omega))) ?_
   rw [e]
   refine aB 0 nd (aa 1) (aB 1 nd (aa 2) (aQ ⟨g % n,_,Nat.mod_lt g (Nat.pos_of_ne_zero hl),n,_,?_,rfl,rfl⟩))
   rw [<- hg,Iz n,<- Nat.gcd_rec,Iz]
 · obtain ⟨g,s2,hg,ht,rfl⟩:=h
   have hl:n=0:=by have:=of_decide_eq_false ht.symm; omega
   refine aL (aa 0) ?_
   rw [<- hg,hl,Nat.gcd_zero_right]
theorem tZ (F:Fun K "_law_made" qual (top 51) f fd) (hb:∀ x ∈ ao,mg x=none) (c_l_divisor:Cal P w K mg base k "_law_divisor" cV):aS P w K mg base CX0 (k + 1) f fd ["_law_top","_law_bottom"] (spD K fD):=by
 refine fnD F k7 hb (by rintro _ _ ⟨_,_,_,rfl,_⟩; rfl) ?_
 rintro _ _ ⟨t,c,q,rfl,h0,h1,hq,rfl⟩ cdv A outer s H E b
 have nd:=k7.nd
 have dv:aH (EO t c:Int):=(h1.gcd (by omega)).aH (ko (by omega)) (by decide)
 obtain ⟨e1,e2⟩:=cH h0 hq
 refine aB 2 nd (x_call b c_l_divisor (ae (aa 0) (ae (aa 1) ag)) ⟨_,_,rfl,rfl⟩) (aL (cC (ae (aC (aa 0) (aa 2) (bt dv)) (ae (aC (aa 1) (aa 2) (bt dv)) ag))) ?_)
 rw [fI,fI,<- e1,<- e2]
 rfl
theorem ua (F:Fun K "_law_cell" qual (top 48) f fd) (hb:∀ x ∈ ao,mg x=none):aS P w K mg base CX0 (k + 1) f fd ["_law_script","_law_k"] (spD K jx):=by
 refine fnD F uv hb (by rintro _ _ ⟨_,_,rfl,_⟩; rfl) ?_
 rintro _ _ ⟨ns,n,rfl,rfl⟩ cdv A outer s H E b
 refine cY (aN (aa 1) (bK b (ae (aa 0) ag) eP) x8) (λh=>?_) λh=>?_
 · have h:=of_decide_eq_true h
   rw [Ei] at h
   exact aL (az (aa 0) (aa 1) (aW (aZ (by omega) (by omega)))) rfl
 · have h:=of_decide_eq_false h
   rw [Ei] at h
   refine aL af ?_
   show Sl.d (.int 0)=_
   rw [getD_none (by omega)]
theorem tO (F:Fun K "way_on" qual (top 41) f fd) (hb:∀ x ∈ ao,mg x=none):aS P w K mg base CX0 (k + 1) f fd ["trail","k"] (spD K jD):=by
 refine fnD F ux hb (by rintro _ _ ⟨_,_,rfl,_⟩; rfl) ?_
 rintro _ _ ⟨t,j,rfl,hl,hk,rfl⟩ cdv A outer s H E b
 refine aL (du (cmp 0 (f:=λi=>.int ((t.getD i []).getD j 0)) b (a4 (aa 0)) vL (by rw [Ei]; omega) λi hi s0 H0 fp=>(az (aa 0) (aa 1) (ar (aZ (ns:=t.getD i []) (i:=(j:Int)) (by omega) (hk _ (jw (by simpa using hi)))))))) ?_
 rw [Ei]
 congr 1
 unfold jd
 refine Fu (by simp) λi h1 h2=>?_
 have:i < t.length:=by simpa using h1
 simp [this]
end
noncomputable def u1 (L:Nat->Nat->Int) (n:Nat) (r:Nat->Int):Nat->Nat->Int:=λk=>if k=n then r else L k
noncomputable def W0 (k j:Nat):Int:=if j=k then 1 else 0
section
variable {P:Program} {w:World} {K:Ej} {mg:Str->Option Value} {base:Heap} {k:Nat} {f:Addr} {fd:FuncData} {qual:Str}
end
theorem mL (T:Nat) (e:List Int) (ss:List Stp) (q:List Int):0<=nZ (cm T e ss) q:=by
 unfold nZ
 cases h:cI (cm T e ss) q with
 | none=>exact Hu _
 | some v=>have:=vY T e ss q v h; show 0<=v; omega
structure Rs (T m:Nat) (p:List Int):Prop where
 len:p.length=m
 up:∀ a,a + 1 < m->p.getD a 0 < p.getD (a + 1) 0
 bd:∀ a,a < m->0<=p.getD a 0/\p.getD a 0 < T
theorem Rs.lt {T m:Nat} {p:List Int} (h:Rs T m p):∀ d a,a + d + 1 < m->p.getD a 0 < p.getD (a + d + 1) 0
 | 0,a,ha=>h.up a ha
 | d + 1,a,ha=>Int.lt_trans (Rs.lt h d a (by omega)) (h.up (a + d + 1) ha)
theorem Rs.mono {T m:Nat} {p:List Int} (h:Rs T m p) {a b:Nat} (hab:a < b) (hb:b < m):p.getD a 0 < p.getD b 0:=by
 have:=h.lt (b - a - 1) a (by omega)
 rwa [show a + (b - a - 1) + 1=b by omega] at this
theorem Rs.inj {T m:Nat} {p:List Int} (h:Rs T m p) {a b:Nat} (ha:a < m) (hb:b < m) (e:p.getD a 0=p.getD b 0):a=b:=by
 rcases HN a b with z | z | z
 · have:=h.mono z hb; omega
 · exact z
 · have:=h.mono z ha; omega
theorem yd {c:List Int} {x:Int} {i:Nat} (h:i < c.length):(c++[x]).getD i 0=c.getD i 0:=by simp [Fh,EI h]
theorem sO (T:Nat):∀ (m:Nat) (p:List Int),Rs T m p->p ∈ chs T m
 | 0,p,h=>by
   rw [chs,Em]
   exact HQ.mp h.len
 | m + 1,p,h=>by
   have hp:p=p.dropLast++[p.getD m 0]:=by
     have hne:p ≠ []:=λz=>by rw [z] at h; exact absurd h.len (by simp)
     have:p.getLast hne=p.getD m 0:=by
       rw [List.getLast_eq_getElem,EB]
       simp [h.len]
     rw [<- this,List.dropLast_concat_getLast]
   have hl:p.dropLast.length=m:=by rw [List.length_dropLast,h.len]; rfl
   have hg:∀ a,a < m->p.dropLast.getD a 0=p.getD a 0:=λa ha=>by
     conv=>rhs; rw [hp]
     rw [yd (by omega)]
   have hd:Rs T m p.dropLast:=⟨hl,λa ha=>by rw [hg a (by omega),hg (a + 1) ha]; exact h.up a (by omega),λa ha=>by rw [hg a ha]; exact h.bd a (by omega)⟩
   rw [chs,Hg]
   refine ⟨_,sO T m _ hd,?_⟩
   unfold onC
   have hb:=h.bd m (by omega)
   have hle:lea m p.dropLast<=p.getD m 0:=by
     unfold lea
     by_cases z:0 < m
     · rw [if_pos z,ke,hl,hg (m - 1) (by omega)]
       have:=h.up (m - 1) (by omega)
       rw [show m - 1 + 1=m by omega] at this
       omega
     · rw [if_neg z]; exact hb.1
   refine EL.mpr ⟨(p.getD m 0 - lea m p.dropLast).toNat,EY.mpr (by omega),?_⟩
   rw [FJ (by omega)]
   conv=>rhs; rw [hp]
   congr 2
   omega
theorem rR {T:Nat} {e p:List Int} {s:Stp} {ss:List Stp} (h:Rs T e.length p):nZ (cm T e (s :: ss)) p=cN s (cm T e ss) p:=by
 have nn:0<=cN s (cm T e ss) p:=by
   unfold cN
   have:∀ qs:List (List Int),0<=(qs.map (nZ (cm T e ss))).sum:=λqs=>by
     induction qs with
     | nil=>exact Hu _
     | cons q qs ih=>rw [Er,Fy]; have:=mL T e ss q; omega
   exact this _
 unfold nZ
 rw [cm,step_get]
 by_cases z:p ∈ chs T e.length/\0 < cN s (cm T e ss) p
 · rw [if_pos z]; rfl
 · rw [if_neg z]
   have:¬ 0 < cN s (cm T e ss) p:=λy=>z ⟨sO T _ p h,y⟩
   show (0:Int)=_
   omega
noncomputable def lgM (L:Nat->Nat->Int) (p e:List Int) (a b:Nat):Rat:=((L (p.getD a 0).toNat (e.getD b 0).toNat:Int):Rat)
theorem bJ {c:List Int} {x:Int}:has c x=true ↔ ∃ a,a < c.length/\c.getD a 0=x:=by
 unfold has
 rw [Jp]
 constructor
 · rintro ⟨y,hy,e⟩
   obtain ⟨a,ha,rfl⟩:=Gm hy
   exact ⟨a,ha,by simpa [ha] using of_decide_eq_true e⟩
 · rintro ⟨a,ha,e⟩
   exact ⟨c[a],Fe ha,decide_eq_true (by simpa [ha] using e)⟩
theorem tH {m:Nat} {g:Nat->Nat} (h:∀ a,a + 1 < m->g a < g (a + 1)):∀ a,a < m->a<=g a
 | 0,_=>Fg _
 | a + 1,ha=>by have:=tH h a (by omega); have:=h a ha; omega
theorem sX {m:Nat} {g:Nat->Nat} (h:∀ a,a + 1 < m->g a < g (a + 1)) (hm:∀ a,a < m->g a < m):∀ d a,a + d + 1=m->g a<=a
 | 0,a,e=>by have:=hm a (by omega); omega
 | d + 1,a,e=>by have:=sX h hm d (a + 1) (by omega); have:=h a (by omega); omega
theorem Ax {T m:Nat} {p e:List Int} (hp:Rs T m p) (he:Rs T m e):det m (lgM W0 p e)=if p=e then 1 else 0:=by
 by_cases z:p=e
 · subst z
   rw [if_pos rfl,<- nc m]
   refine aR λa ha b hb=>?_
   unfold lgM W0 idQ
   have h1:=hp.bd a ha
   have h2:=hp.bd b hb
   by_cases y:a=b
   · subst y; rw [if_pos rfl,if_pos rfl]; rfl
   · rw [if_neg (λq=>y (hp.inj ha hb (by omega))),if_neg y]; rfl
 · rw [if_neg z]
   by_cases y:∀ a,a < m->∃ b,b < m/\e.getD b 0=p.getD a 0
   · exfalso
     have hg:∃ g:Nat->Nat,∀ a,a < m->g a < m/\e.getD (g a) 0=p.getD a 0:=⟨λa=>if h:a < m then Classical.choose (y a h) else 0,λa ha=>by
       simp only [dif_pos ha]
       exact Classical.choose_spec (y a ha)⟩
     obtain ⟨g,hg⟩:=hg
     have mono:∀ a,a + 1 < m->g a < g (a + 1):=λa ha=>by
       have h1:=hp.up a ha
       rw [<- (hg a (by omega)).2,<- (hg (a + 1) ha).2] at h1
       rcases HN (g a) (g (a + 1)) with q | q | q
       · exact q
       · rw [q] at h1; omega
       · have:=he.mono q (hg a (by omega)).1; omega
     apply z
     refine Fu (by rw [hp.len,he.len]) λa h1 h2=>?_
     have ha:a < m:=by rw [<- hp.len]; exact h1
     have e1:=tH mono a ha
     have e2:=sX mono (λa ha=>(hg a ha).1) (m - a - 1) a (by omega)
     have e3:=(hg a ha).2
     rw [show g a=a by omega] at e3
     simpa [h1,h2] using e3.symm
   · obtain ⟨a,ha⟩:=Classical.not_forall.mp y
     obtain ⟨ha,hn⟩:=Classical.not_imp.mp ha
     have:lgM W0 p e=av (lgM W0 p e) a (lgM W0 p e a):=(a6 _ _).symm
     rw [<- ML.DD (gq m) (lgM W0 p e) ha]
     refine aR λr hr c hc=>?_
     unfold av
     split
     · rename_i q
       subst q
       unfold lgM W0
       rw [if_neg]
       · rfl
       · intro q
         have h1:=hp.bd r hr
         have h2:=he.bd c hc
         exact hn ⟨c,hc,by omega⟩
     · rfl
theorem gf {x y:Nat} {c:List Int} {a:Nat} (h:a < c.length):(mvd x y c).getD a 0=if c.getD a 0=(x:Int) then (y:Int) else c.getD a 0:=by simp [mvd,h]
theorem Bb {T m n k:Nat} {p:List Int} (hp:Rs T m p) (hnk:n=k + 1\/k=n + 1) (hk:k < T) (z:has p (k:Int)=false):Rs T m (mvd n k p):=by
 have no:∀ a,a < m->p.getD a 0 ≠ (k:Int):=λa ha q=>by
   have:has p (k:Int)=true:=bJ.mpr ⟨a,by rw [hp.len]; exact ha,q⟩
   rw [z] at this; cases this
 refine ⟨by simp [mvd,hp.len],λa ha=>?_,λa ha=>?_⟩
 · rw [gf (by rw [hp.len]; omega),gf (by rw [hp.len]; exact ha)]
   have h1:=hp.up a ha
   have h2:=no a (by omega)
   have h3:=no (a + 1) ha
   split <;> split <;> omega
 · rw [gf (by rw [hp.len]; exact ha)]
   have:=hp.bd a ha
   split <;> omega
section
variable {P:Program} {w:World} {K:Ej} {mg:Str->Option Value} {base:Heap} {k:Nat} {f:Addr} {fd:FuncData} {qual:Str}
end
theorem rQ {α:Type}:∀ (xs:List α) (i:Nat) (h:i < xs.length),(xs[i] :: xs.eraseIdx i).Perm xs
 | _ :: _,0,_=>.refl _
 | x :: xs,i + 1,h=>(List.Perm.swap x (xs[i]'(by simpa using h)) (xs.eraseIdx i)).trans (.cons x (rQ xs i (by simpa using h)))
theorem nY:∀ (ps xs:List Int),lC xs ps->((gx xs ps).1++(gx xs ps).2).Perm xs
 | [],xs,_=>by rw [gx]; exact .refl _
 | i :: ps,xs,h=>by
   obtain ⟨h0,h1,h2⟩:=h
   rw [gx]
   simp only [Hi]
   have ih:=nY ps _ h2
   have hk:i.toNat < xs.length:=by omega
   have e:xs.getD i.toNat 0=xs[i.toNat]:=by simp [hk]
   rw [e]
   refine (List.Perm.cons _ ih).trans ?_
   exact rQ xs _ hk
theorem rK:∀ (ps xs:List Int),(gx xs ps).1.length=ps.length
 | [],_=>rfl
 | i :: ps,xs=>by rw [gx]; simp only [ET]; rw [rK ps]
theorem oM:∀ {ps xs:List Int},(∀ t,t < ps.length->0<=ps.getD t 0/\ps.getD t 0 + t < xs.length)->lC xs ps
 | [],_,_=>trivial
 | i :: ps,xs,h=>by
   have h0:=h 0 (by simp)
   have h0:0<=i/\i + ((0:Nat):Int) < xs.length:=h0
   refine ⟨h0.1,by omega,oM λt ht=>?_⟩
   have:=h (t + 1) (by simpa using ht)
   have:0<=ps.getD t 0/\ps.getD t 0 + ((t + 1:Nat):Int) < xs.length:=this
   have e:(xs.eraseIdx i.toNat).length=xs.length - 1:=JJ (by omega)
   rw [e]
   omega
noncomputable def chP (c:Int) (m s:Nat):List Int:=nums c ((Eo s).map λk:Nat=>(m:Int) - (k:Int))
noncomputable def chX (m:Nat):List Int:=(Eo m).map λk:Nat=>(k:Int)
noncomputable def chC (c:Int) (m s:Nat):List Int:=mV (gx (chX m) (chP c m s)).1
theorem m9 (c:Int) (m s:Nat):(chP c m s).length=s:=by unfold chP; rw [gF]; simp
theorem vg {c:Int} {m s:Nat} (h:s<=m):lC (chX m) (chP c m s):=oM λt ht=>by
 rw [m9] at ht
 have hp:∀ b ∈ (Eo s).map (λk:Nat=>(m:Int) - (k:Int)),0 < b:=λb hb=>by
   obtain ⟨k,hk,rfl⟩:=EL.mp hb
   rw [EY] at hk
   omega
 have:=fU (c:=c) hp (i:=t) (by simpa using ht)
 have e:((Eo s).map (λk:Nat=>(m:Int) - (k:Int))).getD t 0=(m:Int) - (t:Int):=by simp [ht]
 rw [e] at this
 have l:(chX m).length=m:=by simp [chX]
 rw [l]
 unfold chP
 omega
theorem nu (c:Int) (m s:Nat):(chC c m s).length=s:=by
 unfold chC
 rw [(fT _).length_eq,rK,m9]
theorem rY {c:Int} {m s:Nat} (h:s<=m):(chC c m s).Nodup/\∀ x ∈ chC c m s,0<=x/\x < m:=by
 have pp:=nY _ _ (vg (c:=c) h)
 have nx:(chX m).Nodup:=by
   unfold chX
   exact List.pairwise_map.mpr (List.nodup_range.imp λ{a b} h z=>h (by omega))
 have n1:(gx (chX m) (chP c m s)).1.Nodup:=(Jf.mp (pp.nodup_iff.mpr nx)).1
 refine ⟨(fT _).nodup_iff.mpr n1,λx hx=>?_⟩
 have h1:x ∈ (gx (chX m) (chP c m s)).1:=(fT _).mem_iff.mp hx
 have h2:x ∈ chX m:=pp.mem_iff.mp (GF _ h1)
 unfold chX at h2
 obtain ⟨k,hk,rfl⟩:=EL.mp h2
 rw [EY] at hk
 omega
theorem BJ {c:Int} {m s:Nat} (h:s<=m):∀ a,a + 1 < s->(chC c m s).getD a 0 < (chC c m s).getD (a + 1) 0:=λa ha=>by
 have l:=nu c m s
 have nd:=(rY (c:=c) h).1
 have le:=sE (gx (chX m) (chP c m s)).1
 have h1:a < (chC c m s).length:=by omega
 have h2:a + 1 < (chC c m s).length:=by omega
 have g:=JO.mp le a (a + 1) h1 h2 (by omega)
 have ne:=JO.mp nd a (a + 1) h1 h2 (by omega)
 have e1:(chC c m s).getD a 0=(chC c m s)[a]:=by simp [h1]
 have e2:(chC c m s).getD (a + 1) 0=(chC c m s)[a + 1]:=by simp [h2]
 rw [e1,e2]
 have g:(chC c m s)[a]<=(chC c m s)[a + 1]:=g
 omega
noncomputable def gh (ds:List D) (r:Sl):Prop:=∃ (c:Int) (m s:Nat),ds=[.int c,.int m,.int s]/\1<=s/\s<=m/\m<=7/\r=.o ((chC c m s).map .int)
section
variable {P:Program} {w:World} {K:Ej} {mg:Str->Option Value} {base:Heap} {k:Nat} {f:Addr} {fd:FuncData} {qual:Str}
theorem oG (F:Fun K "_law_choice" qual (top 62) f fd) (hb:∀ x ∈ ao,mg x=none) (c_l_numbers:Cal P w K mg base k "_law_numbers" bN):aS P w K mg base CX0 (k + 1) f fd ["_law_cell_here","_law_many","_law_size"] (spD K gh):=by
 refine fnD F iS hb (by rintro _ _ ⟨_,_,_,rfl,_⟩; rfl) ?_
 rintro _ _ ⟨c,m,s0,rfl,h1,hm,h7,rfl⟩ cdv A outer s H E b
 have nd:=iS.nd
 refine aB 3 nd (a8 (x_call b c_l_numbers (ae (aa 0) (ae (a8 (du (cmp 0 (f:=λk=>.int ((m:Int) - (k:Int))) b (iV b (aa 2) (by omega) (by omega)) i0 (by rw [aO]; omega) λi hi s0 H0 fp=>(aC (aa 1) (aa 0) i3)))) ag)) ⟨c,(Eo s0).map λk:Nat=>(m:Int) - (k:Int),?_,?_,?_,rfl⟩)) ?_
 · rw [aO,Ey,EU]; rfl
 · simp; omega
 · intro x hx
   obtain ⟨k,hk,rfl⟩:=EL.mp hx
   rw [EY] at hk
   exact qG (by omega) (by omega)
 refine aB 4 nd (DA (n:=m) b (aa 1) (by omega)) ?_
 exact wN 4 1 0 (xs:=chX m) (ps:=chP c m s0) b rfl (a4 (aa 3)) (vg hm) (by simp [chX]; omega) (by rw [m9]; omega) rfl
end
noncomputable def stp (ss:List Stp) (k:Nat):Stp:=ss.getD k ("weigh",0,0)
noncomputable def gos (s:Stp) (t:Int):List Int:=
 if s.1 = "weigh" /\ t=(s.2.1:Nat)/\s.2.2.num=0 then []
 else if s.1 = "down" /\ t=(s.2.1:Nat)/\0 < s.2.2.num then [(s.2.1:Nat),(s.2.1:Nat) + 1]
 else if s.1 = "up" /\ t=(s.2.1:Nat) + 1/\0 < s.2.2.num then [(s.2.1:Nat),(s.2.1:Nat) + 1]
 else [t]
noncomputable def jB (ds:List D) (r:Sl):Prop:=∃ (s:Stp) (t:Int),ds=[stD s,.int t]/\r=.o ((gos s t).map .int)
noncomputable def act (s:Stp):Nat:=if s.1 ≠ "weigh" /\ s.2.2.num ≠ 0 then 1 else 0
noncomputable def ir:List Stp->Nat
 | []=>0
 | s :: ss=>act s + ir ss
theorem Ed {m:List (List Int)} (i:Nat) (h:i < (m.map rwD).length):(m.map rwD)[i]=rwD (m.getD i []):=by
 have:i < m.length:=by simpa using h
 simp [this]
theorem ym (s:Stp) (c:List Int):(nxp s c).length<=2 ^ act s:=by
 have one:1<=2 ^ act s:=Nat.one_le_two_pow
 unfold nxp
 split
 · split
   · simp
   · exact one
 · rename_i hw
   split
   · exact one
   · rename_i h
     have:s.2.2.num ≠ 0:=λz=>h (.inl z)
     rw [show act s=1 from if_pos ⟨hw,this⟩]
     split <;> exact Ek 2
theorem wc {f:List Int->Int} {m:Int}:∀ qs:List (List Int),(∀ q ∈ qs,f q<=m)->(qs.map f).sum<=qs.length * m
 | [],_=>by simp
 | q :: qs,h=>by
   rw [Er,Fy,ET]
   have h1:=h q (Es ..)
   have h2:=wc qs λx hx=>h x (Ep _ hx)
   have e:((qs.length + 1:Nat):Int) * m=qs.length * m + m:=by rw [Int.natCast_add,Int.add_mul]; simp
   rw [e]
   omega
theorem zJ (T:Nat) (e:List Int):∀ (ss:List Stp) (q:List Int),nZ (cm T e ss) q<=2 ^ ir ss
 | [],q=>by
   unfold nZ
   rw [cm,cI,E6]
   split
   · exact Hu _
   · show (0:Int)<=1; decide
 | s :: ss,q=>by
   have ih:=zJ T e ss
   have p0:(0:Int)<=2 ^ ir ss:=by have:=mL T e ss q; have:=ih q; omega
   unfold nZ
   rw [cm,step_get]
   split
   · show cN s (cm T e ss) q<=_
     unfold cN
     rw [ir,Int.pow_add]
     refine Int.le_trans (wc _ λx _=>ih x) (Int.mul_le_mul_of_nonneg_right ?_ p0)
     have:=ym s q
     have h2:(((nxp s q).length:Nat):Int)<=((2 ^ act s:Nat):Int):=Jq.mpr this
     simpa using h2
   · have:(0:Int)<=2 ^ ir (s :: ss):=by
       have:(0:Int)<=((2 ^ ir (s :: ss):Nat):Int):=F9 _
       simpa using this
     exact this
section
variable {P:Program} {w:World} {K:Ej} {mg:Str->Option Value} {base:Heap} {k:Nat} {f:Addr} {fd:FuncData} {qual:Str}
theorem uk (F:Fun K "_law_goes" qual (top 60) f fd) (hb:∀ x ∈ ao,mg x=none):aS P w K mg base CX0 (k + 1) f fd ["_law_step","_law_track"] (spD K jB):=by
 refine fnD F lI hb (by rintro _ _ ⟨_,_,rfl,_⟩; rfl) ?_
 rintro _ _ ⟨⟨u,n,q⟩,t,rfl,rfl⟩ cdv A outer s H E b
 have nd:=lI.nd
 have d3:∀ {p1 p2 p3:Prop} [Decidable p1] [Decidable p2] [Decidable p3],((decide p1 && (decide p2 && decide p3))=true ↔ (p1/\p2/\p3)):=by intros; simp
 have d3':∀ {p1 p2 p3:Prop} [Decidable p1] [Decidable p2] [Decidable p3],((decide p1 && (decide p2 && decide p3))=false->¬ (p1/\p2/\p3)):=λ{p1 p2 p3} _ _ _ h z=>by rw [d3.mpr z] at h; cases h
 refine vG (aa 0) (zF b.calm (gK 2 nd (gK 3 nd (gK 4 nd vR)))) ?_
 refine cY (PW.pt (gG (aN (aa 2) cj hU) λh=>(gG (aN (aa 1) (aa 3) fW) λh=>(iq (aN (az (aa 4) af (ar (ak (i:=0) rfl))) af fW))))) (λh=>?_) λh=>?_
 · refine aL (bq ag) ?_
   show Sl.o []=_
   rw [show gos (u,n,q) t=[] from if_pos (d3.mp h)]
   rfl
 have h1:=d3' h
 refine cY (PW.pt (gG (aN (aa 2) cj hU) λh=>(gG (aN (aa 1) (aa 3) fW) λh=>(iq (aN (az (aa 4) af (ar (ak (i:=0) rfl))) af mr))))) (λh=>?_) λh=>?_
 · refine aL (bq (ae (aa 3) (ae (aC (aa 3) af a5) ag))) ?_
   rw [show gos (u,n,q) t=[(n:Int),(n:Int) + 1] from (if_neg h1).trans (if_pos (d3.mp h))]
   rfl
 have h2:=d3' h
 refine cY (PW.pt (gG (aN (aa 2) cj hU) λh=>(gG (aN (aa 1) (aC (aa 3) af a5) fW) λh=>(iq (aN (az (aa 4) af (ar (ak (i:=0) rfl))) af mr))))) (λh=>?_) λh=>?_
 · refine aL (bq (ae (aa 3) (ae (aC (aa 3) af a5) ag))) ?_
   rw [show gos (u,n,q) t=[(n:Int),(n:Int) + 1] from (if_neg h1).trans ((if_neg h2).trans (if_pos (d3.mp h)))]
   rfl
 have h3:=d3' h
 refine aL (bq (ae (aa 1) ag)) ?_
 rw [show gos (u,n,q) t=[t] from (if_neg h1).trans ((if_neg h2).trans (if_neg h3))]
 rfl
end
end K26
namespace K26
open PySem PySem.Spec PyProof.Rows L2 Hy
open Ev (D Den ax aJ aH)
open Lc (di gy)
noncomputable def i7 (t:List (List Int)) (m:Nat):List (List Int):=(Eo m).map (jd t)
noncomputable def fj (ds:List D) (r:Sl):Prop:=∃ (t:List (List Int)) (m:Nat),ds=[trD t]/\t ≠ []/\t.length<=1000/\(∀ c ∈ t,c.length=m)/\m<=7/\r=.o ((i7 t m).map gy)
noncomputable def jb (T:Nat) (ms ns:List Int) (ss:List Stp):List (List (List Int)):=(trK T ms ns ss ss.length).map λt=>i7 t ms.length
noncomputable def gu (fs:List (List (List Int))) (ds:List D) (r:Sl):Prop:=(∃ (T R C:Nat) (ss:List Stp) (ns ms:List Int),ds=[cw T R C ss,.lst (ns.map .int),.lst (ms.map .int)]/\okL T R C ss/\ChO R ns/\ChO C ms/\ns.length=ms.length/\ms.length<=7/\nZ (cm T ms ss) ns<=3000/\jb T ms ns ss=fs)/\∃ gs:List (List (List Int)),gs.Perm fs/\r=.o (gs.map di)
section
variable {P:Program} {w:World} {K:Ej} {mg:Str->Option Value} {base:Heap} {k:Nat} {f:Addr} {fd:FuncData} {qual:Str}
theorem nN (F:Fun K "family_on" qual (top 45) f fd) (hb:∀ x ∈ ao,mg x=none) (c_way_on:Cal P w K mg base k "way_on" jD):aS P w K mg base CX0 (k + 1) f fd ["trail"] (spD K fj):=by
 refine fnD F mN hb (by rintro _ _ ⟨_,_,rfl,_⟩; rfl) ?_
 rintro _ _ ⟨t,m,rfl,t0,t1,hc,m7,rfl⟩ cdv A outer s H E b
 obtain ⟨c,t,rfl⟩:=List.exists_cons_of_ne_nil t0
 have cl:c.length=m:=hc c (Es ..)
 have e0:atI ((c :: t).map tpD) 0=some (tpD c):=ak (i:=0) rfl
 have el:ij (Xc P w K mg base ["trail"] qual (top 45) f cdv A outer s H E) (.builtin "len") [tpD c] (.d (.int (m:Nat))):=by
   have:=kC (X:=Xc P w K mg base ["trail"] qual (top 45) f cdv A outer s H E) (xs:=c.map .int)
   rw [Ei,cl] at this
   exact this
 refine aL (du (cmp 0 (f:=λi=>gy (jd (c :: t) i)) b (iV (n:=(m:Nat)) b (bK b (ae (az (aa 0) af (aW e0)) ag) el) (by omega) (by omega)) i0 (by rw [aO]; omega) λi hi s0 H0 fp=>?_)) ?_
 · rw [aO,Ey] at hi
   exact a8 (x_call (b.comp s0 H0 _ fp) c_way_on (ae (aa 1) (ae (aa 0) ag)) ⟨c :: t,i,rfl,t1,λx hx=>by rw [hc x hx]; exact hi,rfl⟩)
 · rw [aO,Ey]
   unfold i7
   rw [EU]
   rfl
theorem og (F:Fun K "families" qual (top 44) f fd) (hb:∀ x ∈ ao,mg x=none) (c_look_ends:Cal P w K mg base k "look_ends" fF) (c_family_on:Cal P w K mg base k "family_on" fj) (c_trails:Cal P w K mg base k "trails" kz) (fs:List (List (List Int))):aS P w K mg base CX0 (k + 1) f fd ["ladder","rows","columns"] (spE K (gu fs)):=by
 refine fnE F oZ hb (by rintro _ _ ⟨⟨_,_,_,_,_,_,rfl,_⟩,_⟩; rfl) ?_
 rintro _ _ ⟨⟨T,R,C,ss,ns,ms,rfl,ok,hr,hc,hl,l7,h3,rfl⟩,_⟩ cdv A outer s H E b
 have m0:ms ≠ []:=hc.ne
 have tl:=vU T ms ns ss
 have h400:=ok.len
 refine mI (x_call b c_look_ends (ae (aa 0) (ae (aa 1) (ae (aa 2) ag))) ⟨T,R,C,ss,ns,ms,rfl,ok,hr,hc,hl,rfl⟩) ?_
 refine AQ (As b (a8 (x:=.lst ((jb T ms ns ss).map di)) (du (cmp 0 (g:=λi=>trD ((trK T ms ns ss ss.length).getD i [])) (f:=λi=>di (i7 ((trK T ms ns ss ss.length).getD i []) ms.length)) b (a4 (x_call b c_trails (ae (aa 0) (ae (BU b (ae (aa 1) ag) q0) (ae (BU b (ae (aa 2) ag) q0) ag))) ⟨T,R,C,ss,ns,ms,rfl,ok,m0,l7,h3,rfl⟩)) (λi hi=>?_) (by rw [Ei]; omega) λi hi s0 H0 fp=>?_)) ?_)) (λs ⟨gs,lg,e⟩=>⟨⟨T,R,C,ss,ns,ms,rfl,ok,hr,hc,hl,l7,h3,rfl⟩,gs,lg,e⟩)
 · have:i < (trK T ms ns ss ss.length).length:=by simpa using hi
   simp [this]
 · rw [Ei] at hi
   have mt:(trK T ms ns ss ss.length).getD i [] ∈ trK T ms ns ss ss.length:=by
     rw [Fh,El hi]
     exact Fe hi
   have t1:=((gn T ms ns ss ss.length (Ek _)).1 _ mt).1
   refine a8 (x_call (b.comp s0 H0 _ fp) c_family_on (ae (aa 0) ag) ⟨_,ms.length,rfl,λz=>by rw [z] at t1; simp at t1,by omega,xB T ms ns ss hl ss.length (Ek _) _ mt,l7,rfl⟩)
 · unfold jb
   refine congrArg (λl=>some (D.lst l)) (Fu (by simp) λi g1 g2=>?_)
   have:i < (trK T ms ns ss ss.length).length:=by simpa using g2
   simp [this]
end
end K26
namespace K26
open PySem PySem.Spec PyProof.Rows L2 Hy
open Ev (D Den ax aJ aH)
theorem z5:("down" : Str) ≠ "weigh":=by decide +kernel
theorem z9:("up" : Str) ≠ "weigh":=by decide +kernel
theorem yK:("up" : Str) ≠ "down":=by decide +kernel
theorem qH {c:List Int} {x:Int} (h:has c x=false):∀ a,a < c.length->c.getD a 0 ≠ x:=λa ha e=>by
 have:has c x=true:=bJ.mpr ⟨a,ha,e⟩
 rw [h] at this; cases this
theorem zr (s:Stp):(rgS s:Int) ≠ rgE s:=by
 unfold rgS rgE
 split <;> omega
theorem gW {T:Nat} {s:Stp} (h:okS T s) (hw:s.1 ≠ "weigh") (t x:Int):x ∈ gos s t ↔ x=t\/(t=(rgS s:Nat)/\0 < s.2.2.num/\x=(rgE s:Nat)):=by
 rcases h.2 with ⟨h1,_⟩ | ⟨h1,_⟩
 · exact absurd h1 hw
 · rcases h1 with h1 | h1
   · unfold gos rgS rgE
     rw [h1,if_neg (λz=>z5 z.1),if_pos (show ("down" : Str) = "down" from rfl),if_pos (show ("down" : Str) = "down" from rfl)]
     by_cases c:t=(s.2.1:Nat)/\0 < s.2.2.num
     · rw [if_pos ⟨rfl,c⟩]
       simp only [EE,FR,or_false]
       constructor
       · rintro (rfl | rfl)
         · exact .inl c.1.symm
         · exact .inr ⟨c.1,c.2,by push_cast; rfl⟩
       · rintro (rfl | ⟨_,_,rfl⟩)
         · exact .inl c.1
         · exact .inr (by push_cast; rfl)
     · rw [if_neg (λz=>c z.2),if_neg (λz=>yK z.1.symm),Em]
       exact ⟨.inl,λz=>z.elim id λz=>absurd ⟨z.1,z.2.1⟩ c⟩
   · unfold gos rgS rgE
     rw [h1,if_neg (λz=>z9 z.1),if_neg (λz=>yK z.1),if_neg (λz=>yK z),if_neg (λz=>yK z)]
     by_cases c:t=(s.2.1:Nat) + 1/\0 < s.2.2.num
     · rw [if_pos ⟨rfl,c⟩]
       simp only [EE,FR,or_false]
       constructor
       · rintro (rfl | rfl)
         · exact .inr ⟨by push_cast; exact c.1,c.2,rfl⟩
         · exact .inl c.1.symm
       · rintro (rfl | ⟨_,_,rfl⟩)
         · exact .inr c.1
         · exact .inl rfl
     · rw [if_neg (λz=>c z.2),Em]
       exact ⟨.inl,λz=>z.elim id λz=>absurd ⟨by have:=z.1; push_cast at this; exact this,z.2.1⟩ c⟩
theorem dH {s:Stp} (hw:s.1 = "weigh") (t x:Int):x ∈ gos s t ↔ x=t/\¬(t=(s.2.1:Nat)/\s.2.2.num=0):=by
 unfold gos
 by_cases c:t=(s.2.1:Nat)/\s.2.2.num=0
 · rw [if_pos ⟨hw,c⟩]
   exact ⟨λz=>(nomatch z),λz=>absurd c z.2⟩
 · rw [if_neg (λz=>c z.2),hw,if_neg (λz=>z5 z.1.symm),if_neg (λz=>z9 z.1.symm),Em]
   exact ⟨λz=>⟨z,c⟩,λz=>z.1⟩
theorem jK {x y:List Int} (h:x.length=y.length) (e:∀ a,a < y.length->x.getD a 0=y.getD a 0):x=y:=by
 refine Fu h λi h1 h2=>?_
 have:=e i h2
 simpa [Fh,h1,h2] using this
theorem qU {T m:Nat} {s:Stp} {c q:List Int} (h:okS T s) (hc:Rs T m c):q ∈ nxp s c ↔ q.length=m/\(∀ a,a < m->q.getD a 0 ∈ gos s (c.getD a 0))/\∀ a b,a < b->b < m->q.getD a 0 ≠ q.getD b 0:=by
 have lc:=hc.len
 have dc:∀ a b,a < b->b < m->c.getD a 0 ≠ c.getD b 0:=λa b hab hb=>by have:=hc.mono hab hb; omega
 have ge:=zr s
 unfold nxp
 by_cases hw:s.1 = "weigh"
 · rw [if_pos hw]
   by_cases z:s.2.2.num=0/\has c s.2.1=true
   · rw [if_pos z]
     obtain ⟨a,ha,e⟩:=bJ.mp z.2
     refine ⟨λy=>(nomatch y),λ⟨_,y,_⟩=>absurd ⟨e,z.1⟩ ((dH hw _ _).mp (y a (by omega))).2⟩
   · rw [if_neg z,Em]
     constructor
     · rintro rfl
       refine ⟨lc,λa ha=>(dH hw _ _).mpr ⟨rfl,λy=>z ⟨y.2,bJ.mpr ⟨a,by omega,y.1⟩⟩⟩,dc⟩
     · rintro ⟨l,y,_⟩
       exact jK (l.trans lc.symm) λa ha=>((dH hw _ _).mp (y a (by omega))).1
 · rw [if_neg hw]
   have gr:=gW h hw
   have mv:∀ a,a < m->(mvd (rgS s) (rgE s) c).getD a 0=if c.getD a 0=(rgS s:Int) then (rgE s:Int) else c.getD a 0:=λa ha=>gf (by omega)
   have lm:(mvd (rgS s) (rgE s) c).length=m:=by unfold mvd; rw [Ei,lc]
   by_cases z:s.2.2.num=0\/has c (rgS s)=false\/has c (rgE s)=true
   · rw [if_pos z,Em]
     constructor
     · rintro rfl
       exact ⟨lc,λa ha=>(gr _ _).mpr (.inl rfl),dc⟩
     · rintro ⟨l,y,d⟩
       refine jK (l.trans lc.symm) λa ha=>?_
       have ha':a < m:=by omega
       rcases (gr _ _).mp (y a ha') with e | ⟨e1,e2,e3⟩
       · exact e
       · rcases z with z | z | z
         · omega
         · exact absurd e1 (qH z a ha)
         · obtain ⟨b,hb,eb⟩:=bJ.mp z
           have hb':b < m:=by omega
           have qb:q.getD b 0=(rgE s:Int):=by
             rcases (gr _ _).mp (y b hb') with e | ⟨f1,_,_⟩
             · rw [e,eb]
             · rw [eb] at f1; exact absurd f1.symm ge
           have ne:a ≠ b:=λe=>by rw [e,eb] at e1; exact ge e1.symm
           rcases Nat.lt_or_gt_of_ne ne with lt | lt
           · exact absurd (e3.trans qb.symm) (d a b lt hb')
           · exact absurd (qb.trans e3.symm) (d b a lt ha')
   · rw [if_neg z]
     have z1:0 < s.2.2.num:=by
       have:=h.1
       have:s.2.2.num ≠ 0:=λe=>z (.inl e)
       omega
     have z2:has c (rgE s)=false:=by
       cases e:has c (rgE s) with
       | false=>rfl
       | true=>exact absurd (.inr (.inr e)) z
     have key:(q ∈ if HT.lexLt (mvd (rgS s) (rgE s) c) c then [mvd (rgS s) (rgE s) c,c] else [c,mvd (rgS s) (rgE s) c]) ↔ q=c\/q=mvd (rgS s) (rgE s) c:=by
       split <;> simp [or_comm]
     rw [key]
     constructor
     · rintro (rfl | rfl)
       · exact ⟨lc,λa ha=>(gr _ _).mpr (.inl rfl),dc⟩
       · refine ⟨lm,λa ha=>?_,λa b hab hb=>?_⟩
         · rw [mv a ha]
           split
           · rename_i e; exact (gr _ _).mpr (.inr ⟨e,z1,rfl⟩)
           · exact (gr _ _).mpr (.inl rfl)
         · rw [mv a (by omega),mv b hb]
           have n1:=qH z2 a (by omega)
           have n2:=qH z2 b (by omega)
           have:=dc a b hab hb
           split <;> split <;> omega
     · rintro ⟨l,y,d⟩
       by_cases t:∃ a,a < m/\q.getD a 0 ≠ c.getD a 0
       · right
         obtain ⟨a,ha,ne⟩:=t
         obtain ⟨e1,e2,e3⟩:=((gr _ _).mp (y a ha)).resolve_left ne
         refine jK (l.trans lm.symm) λb hb=>?_
         have hb':b < m:=by omega
         rw [mv b hb']
         by_cases ab:c.getD b 0=(rgS s:Int)
         · have:a=b:=by
             rcases HN a b with lt | e | lt
             · exact absurd (e1.trans ab.symm) (dc a b lt hb')
             · exact e
             · exact absurd (ab.trans e1.symm) (dc b a lt ha)
           rw [if_pos ab,<- this,e3]
         · rw [if_neg ab]
           rcases (gr _ _).mp (y b hb') with e | ⟨f1,_,_⟩
           · exact e
           · exact absurd f1 ab
       · left
         exact jK (l.trans lc.symm) λa ha=>Classical.byContradiction λe=>t ⟨a,by omega,e⟩
theorem rZ {T m:Nat} {s:Stp} {c q:List Int} (h:okS T s) (hc:Rs T m c) (hq:q ∈ nxp s c):Rs T m q:=by
 obtain ⟨l,y,d⟩:=(qU h hc).mp hq
 have near:∀ a,a < m->(q.getD a 0=c.getD a 0\/q.getD a 0=c.getD a 0 + 1\/q.getD a 0=c.getD a 0 - 1)/\0<=q.getD a 0/\q.getD a 0 < T:=λa ha=>by
   have b:=hc.bd a ha
   by_cases hw:s.1 = "weigh"
   · have:=((dH hw _ _).mp (y a ha)).1
     omega
   · rcases (gW h hw _ _).mp (y a ha) with e | ⟨e1,_,e3⟩
     · omega
     · have hr:((rgE s:Int)=rgS s + 1\/(rgE s:Int)=rgS s - 1)/\(rgE s:Int) < T:=by
         rcases h.2 with ⟨z,_⟩ | ⟨_,z⟩
         · exact absurd z hw
         · unfold rgS rgE
           split <;> omega
       omega
 have one:∀ a b,a < b->b < m->¬(q.getD a 0 ≠ c.getD a 0/\q.getD b 0 ≠ c.getD b 0):=λa b hab hb ⟨h1,h2⟩=>by
   by_cases hw:s.1 = "weigh"
   · exact h1 ((dH hw _ _).mp (y a (by omega))).1
   · obtain ⟨e1,_,_⟩:=((gW h hw _ _).mp (y a (by omega))).resolve_left h1
     obtain ⟨f1,_,_⟩:=((gW h hw _ _).mp (y b hb)).resolve_left h2
     have:=hc.mono hab hb
     omega
 refine ⟨l,λa ha=>?_,λa ha=>(near a ha).2⟩
 have n1:=(near a (by omega)).1
 have n2:=(near (a + 1) ha).1
 have o:=one a (a + 1) (by omega) ha
 have u:=hc.up a ha
 have dd:=d a (a + 1) (by omega) ha
 omega
section
variable {P:Program} {w:World} {K:Ej} {mg:Str->Option Value} {base:Heap} {k:Nat} {f:Addr} {fd:FuncData} {qual:Str}
end
structure JT (ss:List Stp) (n:Nat) (st:List Int) (t:List (List Int)):Prop where
 len:t.length=n + 1
 beg:t.getD 0 []=st
 nx:∀ k,k < n->t.getD (k + 1) [] ∈ nxp (ss.getD k ("weigh",0,0)) (t.getD k [])
theorem JT.rs {T m n:Nat} {ss:List Stp} {st:List Int} {t:List (List Int)} (hs:∀ s ∈ ss,okS T s) (hn:n<=ss.length) (h:JT ss n st t) (r:Rs T m st):∀ k,k<=n->Rs T m (t.getD k [])
 | 0,_=>by rw [h.beg]; exact r
 | k + 1,hk=>rZ (hs _ (by rw [Fh,El (show k < ss.length by omega)]; exact Fe _)) (h.rs hs hn r k (by omega)) (h.nx k (by omega))
theorem p9 {f:List Int->Int} (h:∀ q,0<=f q):∀ {qs:List (List Int)} {q:List Int},q ∈ qs->f q<=(qs.map f).sum
 | x :: qs,q,hq=>by
   have nn:∀ qs:List (List Int),0<=(qs.map f).sum:=λqs=>by
     induction qs with
     | nil=>exact Hu _
     | cons x qs ih=>rw [Er,Fy]; have:=h x; omega
   rw [Er,Fy]
   rcases EE.mp hq with rfl | hq
   · have:=nn qs; omega
   · have:=p9 h hq; have:=h x; omega
theorem bL {t:List (List Int)} {q:List Int} {k:Nat} (h:k < t.length):(t++[q]).getD k []=t.getD k []:=by simp [Fh,EI h]
theorem jW {t:List (List Int)} {q:List Int} {k:Nat} (h:k=t.length):(t++[q]).getD k []=q:=by subst h; simp [Fh]
theorem fS {T m:Nat} {e st:List Int} {ss:List Stp} (hs:∀ s ∈ ss,okS T s) (he:e.length=m) (r:Rs T m st):∀ n,n<=ss.length->∀ t,t ∈ trK T e st ss n ↔ JT ss n st t/\0 < nZ (cm T e (ss.drop n)) (bg t)
 | 0,_,t=>by
   rw [trK,GJ]
   constructor
   · intro h
     split at h
     · rename_i z
       rw [Em] at h
       subst h
       exact ⟨⟨rfl,rfl,λk hk=>by omega⟩,z⟩
     · cases h
   · rintro ⟨⟨l,b,_⟩,z⟩
     match t,l with
     | [x],_=>
       have b:x=st:=b
       subst b
       rw [if_pos (show 0 < nZ (cm T e ss) x from z),Em]
 | n + 1,hn,t=>by
   have hk:n < ss.length:=by omega
   have ho:okS T (ss.getD n ("weigh",0,0)):=hs _ (by rw [Fh,El hk]; exact Fe _)
   have al:∀ q,alv (cm T e (ss.drop (n + 1))) q=true ↔ 0 < nZ (cm T e (ss.drop (n + 1))) q:=λq=>by
     have:=@gi T e (ss.drop (n + 1)) q
     constructor
     · intro h; have:=this.1 h; omega
     · intro h
       cases z:alv (cm T e (ss.drop (n + 1))) q with
       | true=>rfl
       | false=>rw [this.2 z] at h; omega
   rw [trK]
   unfold lgT onT
   simp only [Hg,EL,Hn]
   constructor
   · rintro ⟨t0,h0,q,⟨hq,hz⟩,rfl⟩
     obtain ⟨j,_⟩:=(fS hs he r n (by omega) t0).mp h0
     have l0:=j.len
     refine ⟨⟨by rw [EC,l0]; rfl,by rw [bL (by omega)]; exact j.beg,λk hk=>?_⟩,by rw [lst_snoc]; exact (al q).mp hz⟩
     by_cases c:k < n
     · rw [bL (by omega),bL (by omega)]; exact j.nx k c
     · have:k=n:=by omega
       subst this
       rw [jW l0.symm,bL (by omega)]
       have:bg t0=t0.getD k []:=by unfold bg; rw [l0]; rfl
       rw [<- this]; exact hq
   · rintro ⟨j,z⟩
     have lt:=j.len
     have e0:t=t.take (n + 1)++[t.getD (n + 1) []]:=by
       have hl:n + 1 < t.length:=by omega
       conv=>lhs; rw [<- Fw (n + 1) t,GK hl,List.drop_of_length_le (by omega)]
       simp [Fh,hl]
     have g:∀ k,k < n + 1->(t.take (n + 1)).getD k []=t.getD k []:=λk hk=>by simp [Fh,List.getElem?_take,hk]
     have j0:JT ss n st (t.take (n + 1)):=⟨by rw [E1]; omega,by rw [g 0 (by omega)]; exact j.beg,λk hk=>by rw [g _ (by omega),g _ (by omega)]; exact j.nx k (by omega)⟩
     have ll:bg (t.take (n + 1))=t.getD n []:=by
       unfold bg
       rw [j0.len]
       exact g n (by omega)
     have lq:bg t=t.getD (n + 1) []:=by unfold bg; rw [lt]; rfl
     rw [lq] at z
     have hq:=j.nx n (by omega)
     refine ⟨t.take (n + 1),(fS hs he r n (by omega) _).mpr ⟨j0,?_⟩,t.getD (n + 1) [],⟨by rw [ll]; exact hq,(al _).mpr z⟩,e0.symm⟩
     rw [ll,mf hk,rR (by rw [he]; exact j.rs hs hn r n (by omega))]
     unfold cN
     have:=p9 (f:=nZ (cm T e (ss.drop (n + 1)))) (λq=>mL T e _ q) hq
     omega
structure WO (ss:List Stp) (i j:Int) (w:List Int):Prop where
 len:w.length=ss.length + 1
 beg:w.getD 0 0=i
 nx:∀ k,k < ss.length->w.getD (k + 1) 0 ∈ gos (ss.getD k ("weigh",0,0)) (w.getD k 0)
 fin:w.getD ss.length 0=j
theorem gP {t:List (List Int)} {a k:Nat} (h:k < t.length):(jd t a).getD k 0=(t.getD k []).getD a 0:=by simp [jd,Fh,h]
structure FO (ss:List Stp) (ns ms:List Int) (f:List (List Int)):Prop where
 len:f.length=ns.length
 wy:∀ a,a < ns.length->WO ss (ns.getD a 0) (ms.getD a 0) (f.getD a [])
 ap:∀ a b,a < b->b < ns.length->∀ k,k<=ss.length->(f.getD a []).getD k 0 ≠ (f.getD b []).getD k 0
theorem xR {T m:Nat} {ns ms:List Int} {ss:List Stp} (hs:∀ s ∈ ss,okS T s) (rn:Rs T m ns) (rm:Rs T m ms) (f:List (List Int)):f ∈ jb T ms ns ss ↔ FO ss ns ms f:=by
 have ln:=rn.len
 have lm:=rm.len
 have hok:∀ k,k < ss.length->okS T (ss.getD k ("weigh",0,0)):=λk hk=>hs _ (by rw [Fh,El hk]; exact Fe _)
 have endp:∀ q,0 < nZ (cm T ms (ss.drop ss.length)) q ↔ q=ms:=λq=>by
   rw [Ia]
   unfold nZ
   rw [cm,cI,E6]
   by_cases c:ms=q
   · subst c; simp
   · have:¬ q=ms:=λz=>c z.symm
     simp [c,this]
 unfold jb
 rw [EL]
 constructor
 · rintro ⟨t,ht,rfl⟩
   obtain ⟨j,z⟩:=(fS hs lm rn ss.length (Ek _) t).mp ht
   have lt:=j.len
   have le:t.getD ss.length []=ms:=by
     have:bg t=t.getD ss.length []:=by unfold bg; rw [lt]; rfl
     rw [<- this]
     exact (endp _).mp z
   have fa:∀ a,a < m->(i7 t ms.length).getD a []=jd t a:=λa ha=>by unfold i7; simp [Fh,lm,ha]
   have wl:∀ a,(jd t a).length=ss.length + 1:=λa=>by unfold jd; rw [Ei,lt]
   refine ⟨by unfold i7; rw [Ei,EN,ln,lm],λa ha=>?_,λa b hab hb k hk=>?_⟩
   · rw [fa a (by omega)]
     refine ⟨wl a,by rw [gP (by omega),j.beg],λk hk=>?_,by rw [gP (by omega),le]⟩
     rw [gP (by omega),gP (by omega)]
     exact ((qU (hok k hk) (j.rs hs (Ek _) rn k (by omega))).mp (j.nx k hk)).2.1 a (by omega)
   · rw [fa a (by omega),fa b (by omega),gP (by omega),gP (by omega)]
     have:=(j.rs hs (Ek _) rn k hk).mono hab (by omega)
     omega
 · rintro ⟨lf,hw,hap⟩
   let t:List (List Int):=(Eo (ss.length + 1)).map λk=>(Eo m).map λa=>(f.getD a []).getD k 0
   have lt:t.length=ss.length + 1:=by simp [t]
   have tk:∀ k,k<=ss.length->t.getD k []=(Eo m).map λa=>(f.getD a []).getD k 0:=λk hk=>by simp [t,Fh,show k < ss.length + 1 by omega]
   have ta:∀ k a,k<=ss.length->a < m->(t.getD k []).getD a 0=(f.getD a []).getD k 0:=λk a hk ha=>by rw [tk k hk]; simp [Fh,ha]
   have tl:∀ k,k<=ss.length->(t.getD k []).length=m:=λk hk=>by rw [tk k hk]; simp
   have beg:t.getD 0 []=ns:=jK ((tl 0 (by omega)).trans ln.symm) λa ha=>by rw [ta 0 a (by omega) (by omega)]; exact (hw a ha).beg
   have rs:∀ k,k<=ss.length->Rs T m (t.getD k [])/\∀ i,i < k->t.getD (i + 1) [] ∈ nxp (ss.getD i ("weigh",0,0)) (t.getD i []):=by
     intro k
     induction k with
     | zero=>exact λ_=>⟨by rw [beg]; exact rn,λi hi=>by omega⟩
     | succ k ih=>
       intro hk
       obtain ⟨r,nx⟩:=ih (by omega)
       have q:t.getD (k + 1) [] ∈ nxp (ss.getD k ("weigh",0,0)) (t.getD k []):=(qU (hok k (by omega)) r).mpr ⟨tl (k + 1) hk,λa ha=>by
         rw [ta (k + 1) a hk ha,ta k a (by omega) ha]
         exact (hw a (by omega)).nx k (by omega),λa b hab hb=>by
         rw [ta (k + 1) a hk (by omega),ta (k + 1) b hk hb]
         exact hap a b hab (by omega) (k + 1) hk⟩
       refine ⟨rZ (hok k (by omega)) r q,λi hi=>?_⟩
       by_cases c:i < k
       · exact nx i c
       · rw [show i=k by omega]; exact q
   have last:bg t=ms:=by
     have:bg t=t.getD ss.length []:=by unfold bg; rw [lt]; rfl
     rw [this]
     exact jK ((tl _ (Ek _)).trans lm.symm) λa ha=>by rw [ta _ a (Ek _) (by omega)]; exact (hw a (by omega)).fin
   refine ⟨t,(fS hs lm rn ss.length (Ek _) t).mpr ⟨⟨lt,beg,λk hk=>(rs ss.length (Ek _)).2 k hk⟩,by rw [last]; exact (endp ms).mpr rfl⟩,?_⟩
   refine Fu (by unfold i7; rw [Ei,EN]; omega) λa h1 h2=>?_
   have ha:a < m:=by omega
   have e:(i7 t ms.length)[a]=jd t a:=by simp [i7]
   rw [e]
   have ef:f[a]=f.getD a []:=by simp [Fh,h2]
   rw [ef]
   refine jK (by unfold jd; rw [Ei,lt,(hw a (by omega)).len]) λk hk=>?_
   rw [(hw a (by omega)).len] at hk
   rw [gP (by omega),ta k a (by omega) ha]
section
variable {P:Program} {w:World} {K:Ej} {mg:Str->Option Value} {base:Heap} {k:Nat} {f:Addr} {fd:FuncData} {qual:Str}
end
noncomputable def apW (w o:List Int):Bool:=(w.zip o).all λp=>!decide (p.1=p.2)
noncomputable def apt (f:List (List Int)) (w:List Int):Bool:=f.all (apW w)
theorem yp {w o:List Int} {n:Nat} (h1:w.length=n + 1) (h2:o.length=n + 1):apW w o=true ↔ ∀ k,k<=n->w.getD k 0 ≠ o.getD k 0:=by
 unfold apW
 rw [E9]
 constructor
 · intro h k hk
   have:=h (w.getD k 0,o.getD k 0) (by
     rw [Im]
     refine ⟨k,?_⟩
     rw [HC]
     simp [Fh,show k < w.length by omega,show k < o.length by omega])
   simpa using this
 · rintro h ⟨x,y⟩ hp
   obtain ⟨k,hk⟩:=Im.mp hp
   rw [HC] at hk
   have hl:=(Ew.mp hk.1).1
   have:=h k (by omega)
   simp only [Fh,hk.1,hk.2,HM] at this
   simpa using this
section
variable {P:Program} {w:World} {K:Ej} {mg:Str->Option Value} {base:Heap} {k:Nat} {f:Addr} {fd:FuncData} {qual:Str}
end
noncomputable def iB (ds:List D) (r:Sl):Prop:=∃ (w:List Int) (f:List (List Int)),ds=[rwD w,tbD f]/\r=.d (.bl (apt f w))
theorem Bm {w o:List Int} {j:Nat} (hj:j < min w.length o.length) (h:((w.zip o).take j).all (λp=>!decide (p.1=p.2))=true) (e:w.getD j 0 ≠ o.getD j 0):((w.zip o).take (j + 1)).all (λp=>!decide (p.1=p.2))=true:=by
 have hl:j < (w.zip o).length:=by rw [List.length_zip]; exact hj
 rw [take_snoc (0,0) hl,List.all_append,h]
 have e1:(w.zip o).getD j (0,0)=(w.getD j 0,o.getD j 0):=by
   have a:j < w.length:=by omega
   have b:j < o.length:=by omega
   rw [Fh,El hl]
   simp [Fh,a,b]
 rw [e1]
 show (true && ((!decide (w.getD j 0=o.getD j 0)) && true))=true
 rw [decide_eq_false e]
 rfl
theorem BZ {w o:List Int} {j:Nat} (hj:j < min w.length o.length) (e:w.getD j 0=o.getD j 0):apW w o=false:=by
 cases h:apW w o with
 | false=>rfl
 | true=>
   unfold apW at h
   rw [E9] at h
   have a:j < w.length:=by omega
   have b:j < o.length:=by omega
   have:(!decide (w.getD j 0=o.getD j 0))=true:=h (w.getD j 0,o.getD j 0) (by
     rw [Im]
     refine ⟨j,?_⟩
     rw [HC]
     simp [Fh,a,b])
   rw [decide_eq_true e] at this
   cases this
noncomputable def cn (ds:List D) (r:Sl):Prop:=∃ (T R C:Nat) (ss:List Stp) (ns ms:List Int) (f:List (List Int)),ds=[cw T R C ss,tbD f,.lst (ns.map .int),.lst (ms.map .int)]/\ss.length<=400/\ns.length=ms.length/\f.length<=1000/\FO ss ns ms f/\r=.d (.bl true)
theorem zt {α:Type} {f:α->D} {xs:List α} (d:α) (i:Nat) (h:i < (gI (xs.map f)).length):(gI (xs.map f))[i]=.tup [.int (i:Nat),f (xs.getD i d)]:=by
 rw [a9,Ei] at h
 rw [ji]
 simp [h]
theorem FO.ap2 {ss:List Stp} {ns ms:List Int} {f:List (List Int)} (o:FO ss ns ms f) {k:Nat} (hk:k < ns.length):apt (f.take k) (f.getD k [])=true:=by
 have l:=o.len
 unfold apt
 rw [E9]
 intro w hw
 obtain ⟨a,ha,rfl⟩:=Gm hw
 rw [E1] at ha
 have e:(f.take k)[a]=f.getD a []:=by simp [Fh,show a < f.length by omega]
 rw [e]
 exact (yp (o.wy k hk).len (o.wy a (by omega)).len).mpr λi hi z=>o.ap a k (by omega) hk i hi z.symm
section
variable {P:Program} {w:World} {K:Ej} {mg:Str->Option Value} {base:Heap} {k:Nat} {f:Addr} {fd:FuncData} {qual:Str}
theorem qm (F:Fun K "_law_apart" qual (top 63) f fd) (hb:∀ x ∈ ao,mg x=none):aS P w K mg base CX0 (k + 1) f fd ["_law_way","_law_others"] (spD K iB):=by
 refine fnD F j6 hb (by rintro _ _ ⟨_,_,rfl,_⟩; rfl) ?_
 rintro _ _ ⟨wy,fm,rfl,rfl⟩ cdv A outer s H E b
 have nd:=j6.nd
 refine bU 2 (g:=λi=>rwD (fm.getD i [])) (λi τ=>((fm.take i).all (apW wy)=true)/\∃ s2 s3 s4,τ=[.d (rwD wy),.d (tbD fm),s2,s3,s4]) b nd (a4 (aa 1)) Ed ⟨rfl,_,_,_,rfl⟩ (λi hi τ h=>?_) λτ h=>?_
 · obtain ⟨ha,s2,s3,s4,rfl⟩:=h
   have hi:i < fm.length:=by simpa using hi
   have mi:=jw (d:=[]) hi
   have tk:fm.take (i + 1)=fm.take i++[fm.getD i []]:=take_snoc [] hi
   generalize fm.getD i []=o at mi tk
   refine iA 3 4 (λj τ=>(((wy.zip o).take j).all (λp=>!decide (p.1=p.2))=true)/\∃ s3 s4,τ=[.d (rwD wy),.d (tbD fm),.d (rwD o),s3,s4]) b nd (zU b (aa 0) (aa 2)) zD ⟨rfl,_,_,rfl⟩ (λj hj τ h=>?_) λτ h=>?_
   · obtain ⟨hz,s3,s4,rfl⟩:=h
     have hj:j < min wy.length o.length:=by rw [cK,Ei,Ei] at hj; omega
     refine cY (aN (aa 3) (aa 4) fW) (λh=>?_) λh=>aQ ⟨Bm hj hz (of_decide_eq_false h),_,_,rfl⟩
     refine aL p7 ?_
     have no:=BZ hj (of_decide_eq_true h)
     have:apt fm wy=false:=by
       cases e:apt fm wy with
       | false=>rfl
       | true=>
         unfold apt at e
         rw [E9] at e
         rw [e o mi] at no
         cases no
     rw [this]
   · obtain ⟨hz,s3,s4,rfl⟩:=h
     refine aQ ⟨?_,_,_,_,rfl⟩
     rw [cK,Ei,Ei,ED (by rw [List.length_zip]; omega)] at hz
     rw [tk,List.all_append,ha]
     show (true && (apW wy o && true))=true
     rw [show apW wy o=true from hz]
     rfl
 · obtain ⟨ha,s2,s3,s4,rfl⟩:=h
   rw [Ei,ED (Ek _)] at ha
   exact aL p7 (by rw [show apt fm wy=true from ha])
theorem iL (F:Fun K "_law_good_family" qual (top 65) f fd) (hb:∀ x ∈ ao,mg x=none) (c_l_apart:Cal P w K mg base k "_law_apart" iB) (c_l_goes:Cal P w K mg base k "_law_goes" jB):aS P w K mg base CX0 (k + 1) f fd ["_law_ladder_here","_law_family","_law_rows_here","_law_columns"] (spD K cn):=by
 refine fnD F dU hb (by rintro _ _ ⟨_,_,_,_,_,_,_,rfl,_⟩; rfl) ?_
 rintro _ _ ⟨T,R,C,ss,ns,ms,fm,rfl,h400,lnm,f1,o,rfl⟩ cdv A outer s H E b
 have nd:=dU.nd
 have fl:=o.len
 refine bO (PW.pt (dn (bx (bj (gc .list b (aa 1)))) λh=>(de (aN (bK b (ae (aa 1) ag) eP) (bK b (ae (aa 2) ag) eP) j3)))) ?_ ?_
 · rw [Ei,Ei,fl,decide_eq_true rfl]; rfl
 refine iA 4 5 (g:=λi=>.int (i:Nat)) (g':=λi=>rwD (fm.getD i [])) (λi τ=>∃ s4 s5,τ=[.d (cw T R C ss),.d (tbD fm),.d (.lst (ns.map .int)),.d (.lst (ms.map .int)),s4,s5]) b nd (lX b (aa 1)) (zt []) ⟨_,_,rfl⟩ (λi hi τ h=>?_) λτ h=>?_
 · obtain ⟨s4,s5,rfl⟩:=h
   have hi:i < ns.length:=by rw [a9,Ei] at hi; omega
   have wo:=o.wy i hi
   have ap:=o.ap2 hi
   have cut:cutD (fm.map rwD) none (some (i:Int))=(fm.take i).map rwD:=by rw [mG,<- List.map_take]
   generalize fm.getD i []=wy at wo ap
   have wl:=wo.len
   refine bO (PW.pt (dn (bx (bj (gc .list b (aa 5)))) λh=>(dn (aN (bK b (ae (aa 5) ag) eP) (aC (bK b (ae (az (aa 0) af (ar (ak (i:=3) rfl))) ag) eP) af a5) j3) λh=>(de (bx (bj (x_call b c_l_apart (ae (aa 5) (ae (a8 (Bg (aa 1) vz (m8 (aa 4)))) ag)) ⟨wy,fm.take i,by rw [cut]; rfl,rfl⟩))))))) ?_ ?_
   · rw [Ei,Ei,wl,ap,decide_eq_true (by omega)]; rfl
   have a0:atI (wy.map D.int) 0=some (.int (wy.getD 0 0)):=aZ (i:=0) (by decide) (by rw [wl]; simp)
   have ai:atI (ns.map D.int) (i:Int)=some (.int (ns.getD i 0)):=by have:=aZ (ns:=ns) (i:=(i:Int)) (by omega) (by simpa using hi); simpa using this
   have aj:atI (ms.map D.int) (i:Int)=some (.int (ms.getD i 0)):=by have:=aZ (ns:=ms) (i:=(i:Int)) (by omega) (by simp; omega); simpa using this
   have lw:ke wy=wy.getD ss.length 0:=by unfold ke; rw [wl]; rfl
   refine bO (PW.pt (dn (aN (az (aa 5) af (aW a0)) (az (aa 2) (aa 4) (aW ai)) j3) λh=>(de (aN (az (aa 5) (oQ af) (aW (nH λz=>by rw [z] at wl; simp at wl))) (az (aa 3) (aa 4) (aW aj)) j3)))) ?_ ?_
   · rw [lw,wo.beg,wo.fin,decide_eq_true rfl,decide_eq_true rfl]; rfl
   refine bO (bx (bj (bK b (ae (a8 (du (Cy 0 1 (g:=λj=>.int (j:Nat)) (g':=λj=>stD (ss.getD j ("weigh",0,0))) (f:=λj=>.bl ((gos (ss.getD j ("weigh",0,0)) (wy.getD j 0)).any λw=>decide (w=wy.getD (j + 1) 0))) b (lX b (az (aa 0) af (ar (ak (i:=3) rfl)))) (zt (("weigh",0,0):Stp)) (by rw [a9,Ei]; omega) λj hj s0 H0 fp=>?_))) ag) (rH b.calm ((Eo ss.length).map λj=>(gos (ss.getD j ("weigh",0,0)) (wy.getD j 0)).any λw=>decide (w=wy.getD (j + 1) 0)) ?_)))) ?_ (aQ ⟨_,_,rfl⟩)
   · have hj:j < ss.length:=by rw [a9,Ei] at hj; exact hj
     have b0:atI (wy.map D.int) (j:Int)=some (.int (wy.getD j 0)):=by have:=aZ (ns:=wy) (i:=(j:Int)) (by omega) (by simp; omega); simpa using this
     have b1:atI (wy.map D.int) ((j:Int) + 1)=some (.int (wy.getD (j + 1) 0)):=by have:=aZ (ns:=wy) (i:=(j:Int) + 1) (by omega) (by omega); rw [show ((j:Int) + 1).toNat=j + 1 by omega] at this; exact this
     exact gH (az (aa 2) (aC (aa 0) af a5) (aW b1)) (a8 (x_call (b.comp s0 H0 _ fp) c_l_goes (ae (aa 1) (ae (az (aa 2) (aa 0) (aW b0)) ag)) ⟨_,_,rfl,rfl⟩)) C7
   · rw [a9,Ei,EU]; rfl
   · have:(((Eo ss.length).map λj=>(gos (ss.getD j ("weigh",0,0)) (wy.getD j 0)).any λw=>decide (w=wy.getD (j + 1) 0)).all id)=true:=by
       rw [Gk,E9]
       intro j hj
       show (gos _ _).any _=true
       rw [Jp]
       exact ⟨_,wo.nx j (EY.mp hj),decide_eq_true rfl⟩
     rw [this]
     rfl
 · obtain ⟨s4,s5,rfl⟩:=h
   exact aL p7 rfl
end
noncomputable def bT (ds:List D) (r:Sl):Prop:=∃ (t b:Int) (q:Rat),ds=[.int t,.int b]/\0 < b/\Bd 8999 b/\(t:Rat)=q * (b:Rat)/\r=.d (frD q)
noncomputable def gd (ds:List D) (r:Sl):Prop:=∃ (t b:Int) (q:Rat),ds=[.int t,.int b]/\0 < b/\Bd 8999 b/\(t:Rat)=q * (b:Rat)/\r=.d (frD q)
noncomputable def fQ (ds:List D) (r:Sl):Prop:=∃ (m n:Nat) (p q:Rat),ds=[frD p,frD q]/\Sq m p/\Sq n q/\m + n<=8999/\r=.d (frD (p * q))
theorem nX (p q:Rat):((p.num * q.num:Int):Rat)=p * q * (((p.den:Nat):Int) * ((q.den:Nat):Int):Int):=by
 rw [EJ,EJ,<- c9 p,<- c9 q]
 grind
theorem l5 {a b:Int} (h:0 < a) (g:0 < b):0 < a * b:=GW h g
theorem Sq.mul {m n:Nat} {p q:Rat} (h:Sq m p) (g:Sq n q):Sq (m + n) (p * q):=Sq.cH (l5 (den_pos p) (den_pos q)) (nX p q) (h.num.mul g.num) (h.den.mul g.den)
noncomputable def j4 (ds:List D) (r:Sl):Prop:=∃ (m n:Nat) (p q:Rat),ds=[frD p,frD q]/\Sq m p/\Sq n q/\m + n<=8999/\r=.d (frD (p + q))
theorem u3 (p q:Rat):((p.num * ((q.den:Nat):Int) + q.num * ((p.den:Nat):Int):Int):Rat)=(p + q) * (((p.den:Nat):Int) * ((q.den:Nat):Int):Int):=by
 rw [Hr,EJ,EJ,EJ,<- c9 p,<- c9 q]
 grind
noncomputable def w6 (t:List (List Rat)):D:=.lst (t.map λr=>.lst (r.map frD))
theorem Cs {t:List (List Rat)} (i:Nat) (h:i < (t.map λr=>D.lst (r.map frD)).length):(t.map λr=>D.lst (r.map frD))[i]=.lst ((t.getD i []).map frD):=by
 have:i < t.length:=by simpa using h
 simp [this]
theorem B0 {r:List Rat} {i:Int} (h0:0<=i) (h:i.toNat < r.length):atI (r.map frD) i=some (frD (r.getD i.toNat 0)):=by
 obtain ⟨n,rfl⟩:=FY h0
 exact ak (by
   have h:n < r.length:=h
   simp [h])
theorem Dm {t:List (List Rat)} {i:Int} (h0:0<=i) (h:i.toNat < t.length):atI (t.map λr=>D.lst (r.map frD)) i=some (.lst ((t.getD i.toNat []).map frD)):=by
 obtain ⟨n,rfl⟩:=FY h0
 exact ak (by
   have h:n < t.length:=h
   simp [h])
noncomputable def xx (t:List (List Rat)) (j:Nat):List Rat:=(Eo t.length).map λi=>(t.getD i []).getD j 0
noncomputable def fq (ds:List D) (r:Sl):Prop:=∃ (t:List (List Rat)) (j:Nat),ds=[w6 t,.int j]/\t.length<=1000/\(∀ i,i < t.length->j < (t.getD i []).length)/\r=.o ((xx t j).map frD)
noncomputable def rN (t:List (List Rat)) (n:Nat):List (List Rat):=(Eo n).map (xx t)
noncomputable def vD (t:List (List Rat)):Nd:=.l (t.map λr=>.l ((r.map frD).map .d))
noncomputable def d8 (ds:List D) (r:Sl):Prop:=∃ (t:List (List Rat)) (n:Nat),ds=[w6 t]/\1<=t.length/\t.length<=1000/\n<=1000/\(∀ i,i < t.length->(t.getD i []).length=n)/\r=.n (vD (rN t n))
noncomputable def smD (s:List Int × Int):D:=.tup [.lst (s.1.map .int),.int s.2]
noncomputable def ka (k R:Nat):List Int × Int:=((Eo R).map λi=>if i=k then 1 else 0,1)
noncomputable def eG (ds:List D) (r:Sl):Prop:=∃ k R:Nat,ds=[.int k,.int R]/\R<=7/\r=.d (smD (ka k R))
noncomputable def dh (n:Int) (ns:List Int):Int:=ns.foldl (λf o=>(EO o f:Int)) n
noncomputable def bH (ds:List D) (r:Sl):Prop:=∃ (n:Int) (ns:List Int),ds=[.int n,.lst (ns.map .int)]/\r=.d (.int (dh n ns))
structure C0 (s:List Int × Int) (v:List Rat):Prop where
 len:s.1.length=v.length
 pos:0 < s.2
 val:∀ i,i < v.length->((s.1.getD i 0:Int):Rat)=v.getD i 0 * (s.2:Rat)
noncomputable def fu (ds:List D) (r:Sl):Prop:=∃ (s:List Int × Int) (v:List Rat),ds=[smD s]/\C0 s v/\v.length<=1000/\Bd 8999 s.2/\r=.o (v.map frD)
section
variable {P:Program} {w:World} {K:Ej} {mg:Str->Option Value} {base:Heap} {k:Nat} {f:Addr} {fd:FuncData} {qual:Str}
theorem gp (F:Fun K "in_lowest_terms" qual (top 13) f fd) (hb:∀ x ∈ ao,mg x=none) (c_common_divisor:Cal P w K mg base k "common_divisor" aY):aS P w K mg base CX0 (k + 1) f fd ["top","bottom"] (spD K bT):=by
 refine fnD F cR hb (by rintro _ _ ⟨_,_,_,rfl,_⟩; rfl) ?_
 rintro _ _ ⟨t,c,q,rfl,h0,h1,hq,rfl⟩ cdv A outer s H E b
 have nd:=cR.nd
 refine aB 2 nd (x_call b c_common_divisor (ae (aa 0) (ae (aa 1) ag)) ⟨_,_,rfl,rfl⟩) ?_
 have dv:aH (EO t c:Int):=(h1.gcd (by omega)).aH (ko (by omega)) (by decide)
 obtain ⟨e1,e2⟩:=cH h0 hq
 refine bO (aN (aa 1) af x8) (decide_eq_false (by omega)) (aL (cC (ae (aC (aa 0) (aa 2) (bt dv)) (ae (aC (aa 1) (aa 2) (bt dv)) ag))) ?_)
 rw [fI,fI,<- e1,<- e2]
 rfl
theorem oA (F:Fun K "fraction" qual (top 14) f fd) (hb:∀ x ∈ ao,mg x=none) (c_in_lowest_terms:Cal P w K mg base k "in_lowest_terms" bT) (c_is_whole:Cal P w K mg base k "is_whole" bX):aS P w K mg base CX0 (k + 1) f fd ["top","bottom"] (spD K gd):=by
 refine fnD F pS hb (by rintro _ _ ⟨_,_,_,rfl,_⟩; rfl) ?_
 rintro _ _ ⟨t,c,q,rfl,h0,h1,hq,rfl⟩ cdv A outer s H E b
 refine bO (PW.pt (dn (bx (bj (x_call b c_is_whole (ae (aa 0) ag) ⟨_,rfl,rfl⟩))) λh=>(de (bx (bj (x_call b c_is_whole (ae (aa 1) ag) ⟨_,rfl,rfl⟩)))))) rfl ?_
 refine bO (aN (aa 1) af fW) (decide_eq_false (by omega)) ?_
 exact aL (x_call b c_in_lowest_terms (ae (aa 0) (ae (aa 1) ag)) ⟨t,c,q,rfl,h0,h1,hq,rfl⟩) rfl
theorem pY (F:Fun K "_law_times" qual (top 57) f fd) (hb:∀ x ∈ ao,mg x=none) (c_l_made:Cal P w K mg base k "_law_made" fD):aS P w K mg base CX0 (k + 1) f fd ["_law_one","_law_other"] (spD K fQ):=by
 refine fnD F rh hb (by rintro _ _ ⟨_,_,_,_,rfl,_⟩; rfl) ?_
 rintro _ _ ⟨m,n,p,q,rfl,h1,h2,hl,rfl⟩ cdv A outer s H E b
 exact aL (x_call b c_l_made (ae (aC (az (aa 0) af (ar (ak (i:=0) rfl))) (az (aa 1) af (ar (ak (i:=0) rfl))) (a7 (h1.num.aJ h2.num (by omega) (by omega)))) (ae (aC (az (aa 0) af (ar (ak (i:=1) rfl))) (az (aa 1) af (ar (ak (i:=1) rfl))) (a7 (h1.den.aJ h2.den (by omega) (by omega)))) ag)) ⟨_,_,_,rfl,l5 (den_pos p) (den_pos q),(h1.den.mul h2.den).mono hl,nX p q,rfl⟩) rfl
theorem ui (F:Fun K "_law_plus" qual (top 56) f fd) (hb:∀ x ∈ ao,mg x=none) (c_l_made:Cal P w K mg base k "_law_made" fD):aS P w K mg base CX0 (k + 1) f fd ["_law_one","_law_other"] (spD K j4):=by
 refine fnD F uy hb (by rintro _ _ ⟨_,_,_,_,rfl,_⟩; rfl) ?_
 rintro _ _ ⟨m,n,p,q,rfl,h1,h2,hl,rfl⟩ cdv A outer s H E b
 exact aL (x_call b c_l_made (ae (aC (aC (az (aa 0) af (ar (ak (i:=0) rfl))) (az (aa 1) af (ar (ak (i:=1) rfl))) (a7 (h1.num.aJ h2.den (by omega) (by omega)))) (aC (az (aa 1) af (ar (ak (i:=0) rfl))) (az (aa 0) af (ar (ak (i:=1) rfl))) (a7 (h2.num.aJ h1.den (by omega) (by omega)))) a5) (ae (aC (az (aa 0) af (ar (ak (i:=1) rfl))) (az (aa 1) af (ar (ak (i:=1) rfl))) (a7 (h1.den.aJ h2.den (by omega) (by omega)))) ag)) ⟨_,_,_,rfl,l5 (den_pos p) (den_pos q),(h1.den.mul h2.den).mono hl,u3 p q,rfl⟩) rfl
theorem mX (F:Fun K "column_of" qual (top 22) f fd) (hb:∀ x ∈ ao,mg x=none):aS P w K mg base CX0 (k + 1) f fd ["table","j"] (spD K fq):=by
 refine fnD F nU hb (by rintro _ _ ⟨_,_,rfl,_⟩; rfl) ?_
 rintro _ _ ⟨t,j,rfl,hl,hj,rfl⟩ cdv A outer s H E b
 refine aL (du (cmp 0 (f:=λi=>frD ((t.getD i []).getD j 0)) b (a4 (aa 0)) Cs (by rw [Ei]; omega) λi hi s0 H0 fp=>(az (aa 0) (aa 1) (aW (B0 (r:=t.getD i []) (i:=(j:Int)) (by omega) (hj i (by rw [Ei] at hi; exact hi))))))) ?_
 rw [Ei]
 unfold xx
 rw [EU]
 rfl
theorem kU (F:Fun K "columns_of" qual (top 21) f fd) (hb:∀ x ∈ ao,mg x=none) (c_column_of:Cal P w K mg base k "column_of" fq):aS P w K mg base CX0 (k + 1) f fd ["table"] (spD K d8):=by
 refine fnD F kK hb (by rintro _ _ ⟨_,_,rfl,_⟩; rfl) ?_
 rintro _ _ ⟨t,n,rfl,h1,hl,hn,hj,rfl⟩ cdv A outer s H E b
 have e0:((t.getD 0 []).map frD).length=n:=by rw [Ei]; exact hj 0 h1
 refine aL (Ct (DU 0 (f:=λj=>.l (((xx t j).map frD).map .d)) b (iV b (bK b (ae (az (aa 0) af (aW (Dm (i:=0) (by omega) (by omega)))) ag) eP) ?_ ?_) i0 ?_ (λj hjn s0 H0 fp=>(x_call (b.comp s0 H0 _ fp) c_column_of (ae (aa 1) (ae (aa 0) ag)) ⟨t,j,rfl,hl,λi hi=>?_,rfl⟩)) λj _=>rfl)) ?_
 · omega
 · simp only [IL,e0]; omega
 · rw [aO]; simp only [IL,e0,Ey]; omega
 · rw [aO] at hjn; simp only [IL,e0,Ey] at hjn; rw [hj i hi]; exact hjn
 · rw [aO]
   simp only [IL,e0,Ey]
   unfold vD rN
   rw [EU]
   rfl
theorem kN (F:Fun K "first_sums" qual (top 33) f fd) (hb:∀ x ∈ ao,mg x=none):aS P w K mg base CX0 (k + 1) f fd ["track","rows"] (spD K eG):=by
 refine fnD F kW hb (by rintro _ _ ⟨_,_,rfl,_⟩; rfl) ?_
 rintro _ _ ⟨n,R,rfl,hR,rfl⟩ cdv A outer s H E b
 refine aL (cC (ae (a8 (du (cmp 0 (f:=λi=>.int (if i=n then 1 else 0)) b (iV b (aa 1) (by omega) (by omega)) i0 (by rw [aO]; omega) λi hi s0 H0 fp=>(j5 (aN (aa 0) (aa 1) fW) (λh=>?_) λh=>?_)))) (ae af ag))) ?_
 · have h:=of_decide_eq_true h
   rw [if_pos (by omega)]
   exact af
 · have h:=of_decide_eq_false h
   rw [if_neg (by omega)]
   exact af
 · rw [aO,Ey]
   unfold smD ka
   rw [EU]
   rfl
theorem gM (F:Fun K "shared_divisor" qual (top 12) f fd) (hb:∀ x ∈ ao,mg x=none) (c_common_divisor:Cal P w K mg base k "common_divisor" aY):aS P w K mg base CX0 (k + 1) f fd ["number","others"] (spD K bH):=by
 refine fnD F df hb (by rintro _ _ ⟨_,_,rfl,_⟩; rfl) ?_
 rintro _ _ ⟨n,ns,rfl,rfl⟩ cdv A outer s H E b
 have nd:=df.nd
 refine aB 2 nd (aa 0) ?_
 refine bU 3 (λi τ=>∃ s3,τ=[.d (.int n),.d (.lst (ns.map .int)),.d (.int (dh n (ns.take i))),s3]) b nd (a4 (aa 1)) kG ⟨_,rfl⟩ (λi hi τ h=>?_) λτ h=>?_
 · obtain ⟨s3,rfl⟩:=h
   rw [Ei] at hi
   refine aB 2 nd (x_call b c_common_divisor (ae (aa 3) (ae (aa 2) ag)) ⟨_,_,rfl,rfl⟩) (aQ ?_)
   apply ex1
   rw [take_snoc 0 hi]
   unfold dh
   rw [Gh]
   rfl
 · obtain ⟨s3,rfl⟩:=h
   refine aL (aa 2) ?_
   rw [Ei,ED (Ek _)]
theorem m6 (F:Fun K "told_sums" qual (top 34) f fd) (hb:∀ x ∈ ao,mg x=none) (c_fraction:Cal P w K mg base k "fraction" gd):aS P w K mg base CX0 (k + 1) f fd ["sums"] (spD K fu):=by
 refine fnD F nM hb (by rintro _ _ ⟨_,_,rfl,_⟩; rfl) ?_
 rintro _ _ ⟨⟨ns,d⟩,v,rfl,h,hl,hd,rfl⟩ cdv A outer s H E b
 have hlen:ns.length=v.length:=h.len
 refine aL (du (cmp 0 (f:=λi=>frD (v.getD i 0)) b (a4 (az (aa 0) af (ar (ak (i:=0) rfl)))) kG (by simp only [Ei]; omega) λi hi s0 H0 fp=>(x_call (b.comp s0 H0 _ fp) c_fraction (ae (aa 0) (ae (az (aa 1) af (ar (ak (i:=1) rfl))) ag)) ⟨_,d,v.getD i 0,rfl,h.pos,hd,h.val i (by simp only [Ei] at hi; omega),rfl⟩))) ?_
 rw [Ei,hlen]
 congr 1
 refine Fu (by simp) λi h1 h2=>?_
 have:i < v.length:=by simpa using h2
 simp [this]
end
theorem eZ:∀ (ns:List Int) (n:Int),dh n ns ∣ n/\∀ x ∈ ns,dh n ns ∣ x
 | [],n=>⟨Int.dvd_refl n,λ_ z=>nomatch z⟩
 | y :: ns,n=>by
   obtain ⟨h1,h2⟩:=eZ ns (EO y n:Int)
   refine ⟨Hl h1 (Gj ..),λx hx=>?_⟩
   rcases EE.mp hx with rfl | hx
   · exact Hl h1 (GS ..)
   · exact h2 x hx
theorem pV {i j:Int} (h:0 < j):0 < (EO i j:Int):=by
 have:=ko (i:=i) (j:=j) (by omega)
 omega
theorem fg:∀ (ns:List Int) (n:Int),0 < n->0 < dh n ns
 | [],_,h=>h
 | y :: ns,n,h=>fg ns (EO y n:Int) (pV h)
structure Sm (R:Nat) (P:Int) (s:List Int × Int) (v:Nat->Rat):Prop where
 len:s.1.length=R
 pos:0 < s.2
 dvd:s.2 ∣ P
 val:∀ i,i < R->((s.1.getD i 0:Int):Rat)=v i * (s.2:Rat)
theorem Sm.up {R:Nat} {P:Int} {s:List Int × Int} {v:Nat->Rat} (h:Sm R P s v) (c:Int):Sm R (P * c) s v:=⟨h.len,h.pos,Int.dvd_mul_of_dvd_left h.dvd,h.val⟩
noncomputable def wsm (s:List Int × Int) (q:Rat):List Int × Int:=(s.1.map λx=>x / dh (q.den:Nat) s.1 * (q.num / (EO q.num s.2:Int)),s.2 / (EO q.num s.2:Int) * (((q.den:Nat):Int) / dh (q.den:Nat) s.1))
theorem getD_map {f:Int->Int} {xs:List Int} {i:Nat} (h:i < xs.length):(xs.map f).getD i 0=f (xs.getD i 0):=by simp [h]
theorem getD_mem {xs:List Int} {i:Nat} (h:i < xs.length):xs.getD i 0 ∈ xs:=by simp [h]
theorem DE {a b c:Rat} (hc:c ≠ 0) (h:a * c=b * c):a=b:=by
 have:(a - b) * c=0:=by grind
 rcases Rat.mul_eq_zero.mp this with z | z
 · grind
 · exact absurd z hc
theorem jc {a b:Int} (h:0 < a * b) (ha:0 < a):0 < b:=by
 rcases Int.lt_or_le 0 b with z | z
 · exact z
 · have:=Int.mul_le_mul_of_nonneg_left z (Int.le_of_lt ha)
   rw [Int.mul_zero] at this
   omega
theorem quo {a b:Int} (h0:0 < a) (h:a ∣ b):∃ c,b=a * c/\b / a=c:=by
 obtain ⟨c,rfl⟩:=h
 exact ⟨c,rfl,HP _ (by omega)⟩
theorem kA {R:Nat} {P:Int} {s:List Int × Int} {v:Nat->Rat} {q:Rat} (h:Sm R P s v):Sm R (P * ((q.den:Nat):Int)) (wsm s q) λi=>q * v i:=by
 obtain ⟨ns,d⟩:=s
 have hd:0 < d:=h.pos
 have hB:=fg ns (q.den:Nat) (den_pos q)
 obtain ⟨b1,b2⟩:=eZ ns (q.den:Nat)
 have hG:0 < (EO q.num d:Int):=pV hd
 obtain ⟨f,ef,qf⟩:=quo hG (GS q.num d)
 obtain ⟨a,ea,qa⟩:=quo hG (Gj q.num d)
 obtain ⟨e,ee,qe⟩:=quo hB b1
 unfold wsm
 simp only
 rw [qf,qa,qe]
 generalize dh ((q.den:Nat):Int) ns=B at *
 generalize (EO q.num d:Int)=G at *
 have ap:0 < a:=jc (by rw [<- ea]; exact hd) (by assumption)
 have ep:0 < e:=jc (by rw [<- ee]; exact den_pos q) (by assumption)
 refine ⟨by rw [Ei]; exact h.len,GW ap ep,Int.mul_dvd_mul (Hl ⟨G,by rw [ea,IA]⟩ h.dvd) ⟨B,by rw [ee,IA]⟩,λi hi=>?_⟩
 have hi':i < ns.length:=by rw [show ns.length=R from h.len]; exact hi
 simp only
 rw [getD_map hi']
 obtain ⟨y,ey,qy⟩:=quo hB (b2 _ (getD_mem hi'))
 rw [qy]
 have hv:=h.val i hi
 simp only at hv
 rw [ey,ea] at hv
 have hq:=c9 q
 rw [ef,ee] at hq
 refine DE (c:=(B:Rat) * (G:Rat)) (λz=>(Rat.mul_eq_zero.mp z).elim (mz hB) (mz hG)) ?_
 simp only [EJ] at *
 grind
noncomputable def asm (s u:List Int × Int):List Int × Int:=
 let sh:Int:=(EO s.2 u.2:Int)
 let tops:=(Eo s.1.length).map λi=>s.1.getD i 0 * (u.2 / sh) + u.1.getD i 0 * (s.2 / sh)
 (tops.map λx=>x / dh sh tops,s.2 / sh * (u.2 / dh sh tops))
theorem A0 {R:Nat} {P:Int} {s u:List Int × Int} {v w:Nat->Rat} (h:Sm R P s v) (g:Sm R P u w):Sm R P (asm s u) λi=>v i + w i:=by
 obtain ⟨ns,d⟩:=s
 obtain ⟨ms,e⟩:=u
 have hd:0 < d:=h.pos
 have he:0 < e:=g.pos
 have hS:0 < (EO d e:Int):=pV he
 obtain ⟨a,ea,qa⟩:=quo hS (GS d e)
 obtain ⟨b,eb,qb⟩:=quo hS (Gj d e)
 have cop:EO a b=1:=by
   have h1:=Int.gcd_ediv (GS d e) (Gj d e)
   rw [qa,qb,HE,Nat.div_self (by omega)] at h1
   exact h1
 unfold asm
 simp only
 rw [qa,qb]
 generalize hT:((Eo ns.length).map λi=>ns.getD i 0 * b + ms.getD i 0 * a)=tops
 have tl:tops.length=R:=by rw [<- hT,Ei,EN]; exact h.len
 obtain ⟨b1,b2⟩:=eZ tops (EO d e:Int)
 have hV:=fg tops _ hS
 have hVe:dh (EO d e:Int) tops ∣ e:=Hl b1 (Gj d e)
 obtain ⟨c,ec,qc⟩:=quo hV hVe
 rw [qc]
 generalize dh (EO d e:Int) tops=V at *
 generalize (EO d e:Int)=S at *
 have ap:0 < a:=jc (by rw [<- ea]; exact hd) (by assumption)
 have cp:0 < c:=jc (by rw [<- ec]; exact he) (by assumption)
 refine ⟨by rw [Ei]; exact tl,GW ap cp,?_,λi hi=>?_⟩
 · obtain ⟨p1,e1⟩:=h.dvd
   obtain ⟨p2,e2⟩:=g.dvd
   simp only at e1 e2
   have e3:a * p1=b * p2:=by
     have:S * (a * p1)=S * (b * p2):=by rw [<- J6,<- J6,<- ea,<- eb,<- e1,<- e2]
     exact Int.eq_of_mul_eq_mul_left (by omega) this
   have e4:a ∣ p2:=by
     have:=Int.dvd_gcd_mul_iff_dvd_mul.mpr (show a ∣ b * p2 from ⟨p1,e3.symm⟩)
     rwa [cop,Int.natCast_one,Int.one_mul] at this
   obtain ⟨p3,e5⟩:=e4
   exact ⟨V * p3,by simp only; rw [e2,e5,ec]; grind⟩
 · simp only
   rw [getD_map (by omega)]
   obtain ⟨z,ez,qz⟩:=quo hV (b2 _ (getD_mem (i:=i) (by omega)))
   rw [qz]
   have et:tops.getD i 0=ns.getD i 0 * b + ms.getD i 0 * a:=by
     rw [<- hT]
     have:i < ns.length:=by rw [show ns.length=R from h.len]; exact hi
     simp [this]
   have hv:=h.val i hi
   have hw:=g.val i hi
   simp only at hv hw
   have t1:((tops.getD i 0:Int):Rat)=((ns.getD i 0:Int):Rat) * (b:Rat) + ((ms.getD i 0:Int):Rat) * (a:Rat):=by rw [et,Hr,EJ,EJ]
   rw [ez,hv,hw] at t1
   have cd:(d:Rat)=(S:Rat) * (a:Rat):=by rw [ea,EJ]
   have ce:(e:Rat)=(S:Rat) * (b:Rat):=by rw [eb,EJ]
   have cf:(e:Rat)=(V:Rat) * (c:Rat):=by rw [ec,EJ]
   refine DE (c:=(V:Rat)) (mz hV) ?_
   rw [EJ] at t1 ⊢
   grind
noncomputable def Zq (P:Int) (n:Nat) (v:Rat):Prop:=∃ z:Int,0<=z/\z<=2 ^ n/\(z:Rat)=v * (P:Rat)
structure Wq (e:Nat) (q:Rat):Prop where
 n0:0<=q.num
 sq:Sq e q
theorem p2 (m n:Nat):(2:Int) ^ (m + n)=2 ^ m * 2 ^ n:=Int.pow_add ..
theorem p0 (n:Nat):(0:Int)<=2 ^ n:=by
 have e:((2 ^ n:Nat):Int)=(2:Int) ^ n:=JK ..
 rw [<- e]
 exact F9 _
theorem bd2 {n:Nat} {i:Int} (h:Bd n i):i<=2 ^ n:=by
 have h:i.natAbs < 2 ^ n:=h
 have e:((2 ^ n:Nat):Int)=(2:Int) ^ n:=JK ..
 omega
theorem Zq.mul {P:Int} {n e:Nat} {v q:Rat} (h:Zq P n v) (g:Wq e q):Zq (P * ((q.den:Nat):Int)) (n + e) (q * v):=by
 obtain ⟨z,h0,h1,h2⟩:=h
 refine ⟨z * q.num,JX h0 g.n0,?_,?_⟩
 · rw [p2]; exact GP h1 (bd2 g.sq.num) g.n0 (p0 n)
 · have:=c9 q
   rw [EJ,EJ]; grind
theorem Zq.up {P:Int} {n e:Nat} {v q:Rat} (h:Zq P n v) (g:Wq e q):Zq (P * ((q.den:Nat):Int)) (n + e) v:=by
 obtain ⟨z,h0,h1,h2⟩:=h
 have:=den_pos q
 refine ⟨z * ((q.den:Nat):Int),JX h0 (by omega),?_,?_⟩
 · rw [p2]; exact GP h1 (bd2 g.sq.den) (by omega) (p0 n)
 · rw [EJ,EJ]; grind
theorem Zq.add {P:Int} {n:Nat} {v w:Rat} (h:Zq P n v) (g:Zq P n w):Zq P (n + 1) (v + w):=by
 obtain ⟨z,h0,h1,h2⟩:=h
 obtain ⟨y,g0,g1,g2⟩:=g
 refine ⟨z + y,by omega,by rw [p2]; omega,?_⟩
 rw [Hr]; grind
theorem Zq.mono {P:Int} {m n:Nat} {v:Rat} (h:Zq P m v) (g:m<=n):Zq P n v:=by
 obtain ⟨z,h0,h1,h2⟩:=h
 refine ⟨z,h0,Int.le_trans h1 ?_,h2⟩
 exact_mod_cast E8 (n:=2) (by decide) g
theorem oD {n:Nat} {i:Int} (h0:0<=i) (h:i<=2 ^ n):Bd (n + 1) i:=by
 unfold Bd
 have e:((2 ^ n:Nat):Int)=(2:Int) ^ n:=JK ..
 have:=Nat.pow_succ (n:=2) (m:=n)
 have:=Gi n
 omega
theorem Zq.sq {P:Int} {m n:Nat} {v:Rat} (h:Zq P n v) (hP:0 < P) (g:P<=2 ^ m) (hm:m<=n):Sq (n + 1) v:=by
 obtain ⟨z,h0,h1,h2⟩:=h
 exact Sq.cH hP h2 (oD h0 h1) ((oD (by omega) g).mono (by omega))
theorem Sm.bd {R:Nat} {P:Int} {s:List Int × Int} {v:Nat->Rat} {m n:Nat} (h:Sm R P s v) (hP:0 < P) (g:P<=2 ^ m) (hz:∀ i,i < R->Zq P n (v i)):Bd (m + 1) s.2/\∀ x ∈ s.1,Bd (n + 1) x:=by
 refine ⟨(oD (by omega) g).of_dvd h.dvd (by omega),λx hx=>?_⟩
 obtain ⟨i,hi,rfl⟩:=Gm hx
 have hR:i < R:=by rw [<- h.len]; exact hi
 obtain ⟨z,h0,h1,h2⟩:=hz i hR
 obtain ⟨c,ec⟩:=h.dvd
 have hv:=h.val i hR
 have eg:s.1.getD i 0=s.1[i]:=by simp [hi]
 rw [eg] at hv
 have ez:z=s.1[i] * c:=by
   apply Ir.mp
   rw [h2,ec,EJ,EJ,hv]; grind
 rcases Int.lt_or_eq_of_le h0 with z0 | z0
 · exact (oD h0 h1).of_dvd ⟨c,ez⟩ (by omega)
 · have cp:0 < c:=jc (by rw [<- ec]; exact hP) h.pos
   have:s.1[i]=0:=by
     rcases Int.mul_eq_zero.mp (ez.symm.trans z0.symm) with q | q
     · exact q
     · omega
   rw [this]
   exact Gi _
section
variable {P:Program} {w:World} {K:Ej} {mg:Str->Option Value} {base:Heap} {k:Nat} {f:Addr} {fd:FuncData} {qual:Str}
end
noncomputable def cG (ds:List D) (r:Sl):Prop:=∃ (s:List Int × Int) (q:Rat),ds=[smD s,frD q]/\0 < s.2/\Bd 8000 s.2/\(∀ x ∈ s.1,Bd 8000 x)/\Sq 140 q/\s.1.length<=1000/\r=.d (smD (wsm s q))
theorem cv {a b:Int} (h:0 < b):a.fdiv b=a / b:=F7 _ (by omega)
theorem sA (ns:List Int) (g:Int->D):(Eo (ns.map D.int).length).map (λi=>g (ns.getD i 0))=ns.map g:=by
 refine Fu (by simp) λi h1 h2=>?_
 have:i < ns.length:=by simpa using h2
 simp [this]
noncomputable def eA (ds:List D) (r:Sl):Prop:=∃ s u:List Int × Int,ds=[smD s,smD u]/\0 < s.2/\Bd 8000 s.2/\0 < u.2/\Bd 8000 u.2/\(∀ x ∈ s.1,Bd 8000 x)/\(∀ x ∈ u.1,Bd 8000 x)/\s.1.length=u.1.length/\s.1.length<=1000/\r=.d (smD (asm s u))
section
variable {P:Program} {w:World} {K:Ej} {mg:Str->Option Value} {base:Heap} {k:Nat} {f:Addr} {fd:FuncData} {qual:Str}
theorem i9 (F:Fun K "weighed_sums" qual (top 35) f fd) (hb:∀ x ∈ ao,mg x=none) (c_common_divisor:Cal P w K mg base k "common_divisor" aY) (c_shared_divisor:Cal P w K mg base k "shared_divisor" bH):aS P w K mg base CX0 (k + 1) f fd ["sums","weight"] (spD K cG):=by
 refine fnD F eQ hb (by rintro _ _ ⟨_,_,rfl,_⟩; rfl) ?_
 rintro _ _ ⟨⟨ns,d⟩,q,rfl,hd,hd2,hns,hq,hl,rfl⟩ cdv A outer s H E b
 have nd:=eQ.nd
 have hd:0 < d:=hd
 have hG:0 < (EO q.num d:Int):=pV hd
 have hB:=fg ns (q.den:Nat) (den_pos q)
 have dG:aH (EO q.num d:Int):=(Bd.gcd hd2 (by show d ≠ 0; omega)).aH (Int.ne_of_gt hG) (by decide)
 have dB:aH (dh (q.den:Nat) ns):=(hq.den.of_dvd (eZ ns _).1 (Int.ne_of_gt (den_pos q))).aH (Int.ne_of_gt hB) (by decide)
 have qn:Bd 8000 (q.num / (EO q.num d:Int)):=(hq.num.ediv _).mono (by decide)
 refine aB 2 nd (x_call b c_common_divisor (ae (az (aa 1) af (ar (ak (i:=0) rfl))) (ae (az (aa 0) af (ar (ak (i:=1) rfl))) ag)) ⟨_,_,rfl,rfl⟩) ?_
 refine aB 3 nd (x_call b c_shared_divisor (ae (az (aa 1) af (ar (ak (i:=1) rfl))) (ae (az (aa 0) af (ar (ak (i:=0) rfl))) ag)) ⟨_,_,rfl,rfl⟩) ?_
 refine aB 4 nd (aC (az (aa 1) af (ar (ak (i:=0) rfl))) (aa 2) (bt dG)) ?_
 rw [cv hG]
 refine aL (cC (ae (a8 (du (cmp 0 (f:=λi=>.int (ns.getD i 0 / dh (q.den:Nat) ns * (q.num / (EO q.num d:Int)))) b (a4 (az (aa 0) af (ar (ak (i:=0) rfl)))) kG (by rw [Ei]; have:ns.length<=1000:=hl; omega) λi hi s0 H0 fp=>?_))) (ae (aC (aC (az (aa 0) af (ar (ak (i:=1) rfl))) (aa 2) (bt dG)) (aC (az (aa 1) af (ar (ak (i:=1) rfl))) (aa 3) (bt dB)) (a7 ?_)) ag))) ?_
 · have hi:i < ns.length:=by rw [Ei] at hi; exact hi
   rw [<- cv hB]
   exact aC (aC (aa 0) (aa 1) (bt dB)) (aa 2) (a7 (by rw [cv hB]; exact ((hns _ (getD_mem hi)).ediv _).aJ qn (by decide) (by decide)))
 · rw [cv hG,cv hB]
   exact (hd2.ediv _).aJ (hq.den.ediv _) (by decide) (by decide)
 · rw [cv hG,cv hB,sA ns λx=>.int (x / dh (q.den:Nat) ns * (q.num / (EO q.num d:Int)))]
   unfold smD wsm
   rw [EU]
   rfl
theorem k6 (F:Fun K "added_sums" qual (top 36) f fd) (hb:∀ x ∈ ao,mg x=none) (c_common_divisor:Cal P w K mg base k "common_divisor" aY) (c_shared_divisor:Cal P w K mg base k "shared_divisor" bH):aS P w K mg base CX0 (k + 1) f fd ["one","other"] (spD K eA):=by
 refine fnD F fZ hb (by rintro _ _ ⟨_,_,rfl,_⟩; rfl) ?_
 rintro _ _ ⟨⟨ns,d⟩,⟨ms,e⟩,rfl,hd,hd2,he,he2,hns,hms,hll,hl,rfl⟩ cdv A outer s H E b
 have nd:=fZ.nd
 have hd:0 < d:=hd
 have he:0 < e:=he
 have hll:ns.length=ms.length:=hll
 have hl:ns.length<=1000:=hl
 have hS:0 < (EO d e:Int):=pV he
 have bS:Bd 8000 (EO d e:Int):=Bd.gcd he2 (by show e ≠ 0; omega)
 have dS:aH (EO d e:Int):=bS.aH (by omega) (by decide)
 refine aB 2 nd (x_call b c_common_divisor (ae (az (aa 0) af (ar (ak (i:=1) rfl))) (ae (az (aa 1) af (ar (ak (i:=1) rfl))) ag)) ⟨_,_,rfl,rfl⟩) ?_
 refine aB 3 nd (aC (az (aa 1) af (ar (ak (i:=1) rfl))) (aa 2) (bt dS)) ?_
 refine aB 4 nd (aC (az (aa 0) af (ar (ak (i:=1) rfl))) (aa 2) (bt dS)) ?_
 rw [cv hS,cv hS]
 have be:Bd 8000 (e / (EO d e:Int)):=Bd.ediv he2 _
 have bd:Bd 8000 (d / (EO d e:Int)):=Bd.ediv hd2 _
 have zl:(kO (ns.map D.int) (ms.map D.int)).length=ns.length:=by rw [cK,Ei,Ei]; omega
 refine uR 5 nd (Cy 0 1 (f:=λi=>.int (ns.getD i 0 * (e / (EO d e:Int)) + ms.getD i 0 * (d / (EO d e:Int)))) b (zU b (az (aa 0) af (ar (ak (i:=0) rfl))) (az (aa 1) af (ar (ak (i:=0) rfl)))) zD (by rw [zl]; omega) λi hi s0 H0 fp=>?_) (.inr rfl) ?_
 · have hi:i < ns.length:=by rw [zl] at hi; exact hi
   exact aC (aC (aa 0) (aa 2) (a7 ((hns _ (getD_mem hi)).aJ be (by decide) (by decide)))) (aC (aa 1) (aa 3) (a7 ((hms _ (getD_mem (xs:=ms) (by omega))).aJ bd (by decide) (by decide)))) a5
 rw [zl]
 have ec:((Eo ns.length).map λi=>D.int (ns.getD i 0 * (e / (EO d e:Int)) + ms.getD i 0 * (d / (EO d e:Int))))=((Eo ns.length).map λi=>ns.getD i 0 * (e / (EO d e:Int)) + ms.getD i 0 * (d / (EO d e:Int))).map .int:=by rw [EU]; rfl
 rw [ec]
 have er:asm (ns,d) (ms,e)=((((Eo ns.length).map λi=>ns.getD i 0 * (e / (EO d e:Int)) + ms.getD i 0 * (d / (EO d e:Int)))).map λx=>x / dh (EO d e:Int) ((Eo ns.length).map λi=>ns.getD i 0 * (e / (EO d e:Int)) + ms.getD i 0 * (d / (EO d e:Int))),d / (EO d e:Int) * (e / dh (EO d e:Int) ((Eo ns.length).map λi=>ns.getD i 0 * (e / (EO d e:Int)) + ms.getD i 0 * (d / (EO d e:Int))))):=rfl
 rw [er]
 have tl:((Eo ns.length).map λi=>ns.getD i 0 * (e / (EO d e:Int)) + ms.getD i 0 * (d / (EO d e:Int))).length<=1000:=by rw [Ei,EN]; exact hl
 generalize ((Eo ns.length).map λi=>ns.getD i 0 * (e / (EO d e:Int)) + ms.getD i 0 * (d / (EO d e:Int)))=tops at tl
 have hV:=fg tops _ hS
 have dV:aH (dh (EO d e:Int) tops):=(bS.of_dvd (eZ tops _).1 (by omega)).aH (by omega) (by decide)
 refine aB 6 nd (x_call b c_shared_divisor (ae (aa 2) (ae (aa 5) ag)) ⟨_,_,rfl,rfl⟩) ?_
 refine aL (cC (ae (a8 (du (cmp 0 (f:=λi=>.int (tops.getD i 0 / dh (EO d e:Int) tops)) b (a4 (aa 5)) kG (by rw [Ei]; omega) λi hi s0 H0 fp=>?_))) (ae (aC (aa 4) (aC (az (aa 1) af (ar (ak (i:=1) rfl))) (aa 6) (bt dV)) (a7 ?_)) ag))) ?_
 · rw [<- cv hV]
   exact aC (aa 0) (aa 1) (bt dV)
 · rw [cv hV]
   exact bd.aJ (Bd.ediv he2 _) (by decide) (by decide)
 · rw [cv hV,sA tops λx=>.int (x / dh (EO d e:Int) tops)]
   unfold smD
   rw [EU]
   rfl
end
noncomputable def fH (V:Nat->Nat->Rat) (n:Nat) (r:Nat->Rat):Nat->Nat->Rat:=λk=>if k=n then r else V k
noncomputable def stV (V:Nat->Nat->Rat) (st:Stp):Nat->Nat->Rat:=if st.1 = "weigh" then fH V st.2.1 λi=>st.2.2 * V st.2.1 i else fH V (rgE st) λi=>V (rgE st) i + st.2.2 * V (rgS st) i
noncomputable def V0 (k i:Nat):Rat:=if i=k then 1 else 0
noncomputable def fwd (ss:List Stp):Nat->Nat->Rat:=ss.foldl stV V0
theorem xm {n m:Nat} (h:m < n):ixN n (m:Int)=some m:=by
 unfold ixN
 rw [if_pos (by omega),if_pos (by omega)]
 simp
structure TrI (e T R t:Nat) (P:Int) (tr:List (List Int × Int)) (V:Nat->Nat->Rat):Prop where
 len:tr.length=T
 pos:0 < P
 le:P<=2 ^ (e * t)
 sm:∀ k,k < T->Sm R P (tr.getD k ([],1)) (V k)
 zq:∀ k,k < T->∀ i,i < R->Zq P ((e + 1) * t) (V k i)
theorem v7 {α:Type} {xs:List α} {k j:Nat} {x d:α} (h:k < xs.length):(xs.set k x).getD j d=if j=k then x else xs.getD j d:=by
 by_cases e:j=k
 · subst e; simp [h]
 · simp [Fh,e,E2 (FE e)]
theorem Zq.upn {P:Int} {e t:Nat} {v q:Rat} (h:Zq P ((e + 1) * t) v) (g:Wq e q):Zq (P * ((q.den:Nat):Int)) ((e + 1) * (t + 1)) v:=(h.up g).mono (by rw [F2]; omega)
theorem TrI.put {e T R t k:Nat} {P:Int} {tr:List (List Int × Int)} {V:Nat->Nat->Rat} {q:Rat} (h:TrI e T R t P tr V) (g:Wq e q) (hk:k < T) {s':List Int × Int} {v':Nat->Rat} (hs:Sm R (P * ((q.den:Nat):Int)) s' v')
   (hz:∀ i,i < R->Zq (P * ((q.den:Nat):Int)) ((e + 1) * (t + 1)) (v' i)):TrI e T R (t + 1) (P * ((q.den:Nat):Int)) (tr.set k s') (fH V k v'):=by
 refine ⟨by rw [Fl]; exact h.len,GW h.pos (den_pos q),?_,λj hj=>?_,λj hj i hi=>?_⟩
 · rw [F2,p2]
   exact GP h.le (bd2 g.sq.den) (by have:=den_pos q; omega) (p0 _)
 · rw [v7 (by rw [h.len]; exact hk)]
   unfold fH
   split
   · exact hs
   · exact (h.sm j hj).up _
 · unfold fH
   split
   · exact hz i hi
   · exact (h.zq j hj i hi).upn g
theorem TrI.start {e T R:Nat}:TrI e T R 0 1 ((Eo T).map λk=>ka k R) V0:=by
 refine ⟨by simp,by decide,by simp,λk hk=>?_,λk hk i hi=>?_⟩
 · rw [show ((Eo T).map λk=>ka k R).getD k ([],1)=ka k R by simp [hk]]
   refine ⟨by simp [ka],by show (0:Int) < 1; decide,Int.dvd_refl _,λi hi=>?_⟩
   rw [show (ka k R).1.getD i 0=if i=k then 1 else 0 by simp [ka,hi]]
   unfold V0 ka
   split
   · exact (Fn _).symm
   · exact (GX _).symm
 · unfold V0
   split
   · exact ⟨1,by decide,by simp,(Fn _).symm⟩
   · exact ⟨0,by decide,by simp,(GX _).symm⟩
theorem TrI.bd {e T R t:Nat} {P:Int} {tr:List (List Int × Int)} {V:Nat->Nat->Rat} (h:TrI e T R t P tr V) (hn:(e + 1) * t<=1500) {k:Nat} (hk:k < T):0 < (tr.getD k ([],1)).2/\Bd 8000 (tr.getD k ([],1)).2/\(∀ x ∈ (tr.getD k ([],1)).1,Bd 8000 x)/\(tr.getD k ([],1)).1.length=R:=by
 obtain ⟨h1,h2⟩:=(h.sm k hk).bd h.pos h.le (h.zq k hk)
 have:e * t<=(e + 1) * t:=Fd _ (by omega)
 exact ⟨(h.sm k hk).pos,h1.mono (by omega),λx hx=>(h2 x hx).mono (by omega),(h.sm k hk).len⟩
theorem xt {tr:List (List Int × Int)} {i:Nat} (h:i < tr.length):atI (tr.map smD) (i:Int)=some (smD (tr.getD i ([],1))):=ak (by simp [h])
theorem l9 {tr:List (List Int × Int)} {C:Nat} (h:C<=tr.length):(cutD (tr.map smD) none (some (C:Int))).length=C:=by rw [mG,E1,Ei]; omega
theorem C9 {tr:List (List Int × Int)} {C:Nat} (i:Nat) (h:i < (cutD (tr.map smD) none (some (C:Int))).length):(cutD (tr.map smD) none (some (C:Int)))[i]=smD (tr.getD i ([],1)):=by
 rw [List.getElem_of_eq (mG C)]
 rw [mG,E1,Ei] at h
 simp [show i < tr.length by omega]
theorem Sm.sums {R:Nat} {P:Int} {s:List Int × Int} {v:Nat->Rat} (h:Sm R P s v):C0 s ((Eo R).map v):=by
 refine ⟨by rw [h.len]; simp,h.pos,λi hi=>?_⟩
 have hi:i < R:=by simpa using hi
 rw [h.val i hi]
 simp [hi]
theorem xI {e T R t:Nat} {P:Int} {tr:List (List Int × Int)} {V:Nat->Nat->Rat} {n:Nat} {q:Rat} (h:TrI e T R t P tr V) (g:Wq e q) (hn:n < T):TrI e T R (t + 1) (P * ((q.den:Nat):Int)) (tr.set n (wsm (tr.getD n ([],1)) q)) (stV V ("weigh",n,q)):=by
 unfold stV
 rw [if_pos rfl]
 exact h.put g hn (kA (h.sm n hn)) λi hi=>((h.zq n hn i hi).mul g).mono (by rw [F2]; omega)
theorem BW {e T R t:Nat} {P:Int} {tr:List (List Int × Int)} {V:Nat->Nat->Rat} {st:Stp} (h:TrI e T R t P tr V) (g:Wq e st.2.2) (h0:st.1 ≠ "weigh") (h1:rgS st < T) (h2:rgE st < T):TrI e T R (t + 1) (P * ((st.2.2.den:Nat):Int)) (tr.set (rgE st) (asm (tr.getD (rgE st) ([],1)) (wsm (tr.getD (rgS st) ([],1)) st.2.2))) (stV V st):=by
 unfold stV
 rw [if_neg h0]
 exact h.put g h2 (A0 ((h.sm _ h2).up _) (kA (h.sm _ h1))) λi hi=>(((h.zq _ h2 i hi).up g).add ((h.zq _ h1 i hi).mul g)).mono (by rw [F2]; omega)
theorem Dk {T:Nat} {st:Stp} (h:okS T st) (h0:st.1 ≠ "weigh"):rgS st < T/\rgE st < T/\rgS st ≠ rgE st:=by
 obtain ⟨_,h | h⟩:=h
 · exact absurd h.1 h0
 · have:=h.2
   unfold rgS rgE
   split <;> omega
noncomputable def dP (C R:Nat) (V:Nat->Nat->Rat):List (List Rat):=(Eo R).map λi=>(Eo C).map λj=>V j i
noncomputable def gk (ds:List D) (r:Sl):Prop:=∃ (e T R C:Nat) (ss:List Stp),ds=[cw T R C ss]/\okL T R C ss/\(∀ i,i < ss.length->Wq e (ss.getD i ("weigh",0,0)).2.2)/\(e + 1) * ss.length<=1500/\e<=140/\r=.n (vD (dP C R (fwd ss)))
theorem ub (C R:Nat) (V:Nat->Nat->Rat):rN ((Eo C).map λj=>(Eo R).map λi=>V j i) R=dP C R V:=by
 unfold rN dP
 refine Fb λi hi=>?_
 have hi:i < R:=EY.mp hi
 unfold xx
 rw [Ei,EN]
 refine Fb λj hj=>?_
 have hj:j < C:=EY.mp hj
 simp [hi,hj]
noncomputable def bkV (L:Nat->Nat->Rat) (st:Stp):Nat->Nat->Rat:=if st.1 = "weigh" then fH L st.2.1 λi=>st.2.2 * L st.2.1 i else fH L (rgS st) λi=>L (rgS st) i + st.2.2 * L (rgE st) i
noncomputable def bwd (ss:List Stp):Nat->Nat->Rat:=ss.reverse.foldl bkV V0
noncomputable def dot:Nat->(Nat->Rat)->(Nat->Rat)->Rat
 | 0,_,_=>0
 | T + 1,f,g=>dot T f g + f T * g T
theorem oz {f f' g g':Nat->Rat}:∀ T,(∀ k,k < T->f k=f' k)->(∀ k,k < T->g k=g' k)->dot T f g=dot T f' g'
 | 0,_,_=>rfl
 | T + 1,h,e=>by rw [dot,dot,oz T (λk hk=>h k (by omega)) (λk hk=>e k (by omega)),h T (by omega),e T (by omega)]
theorem dR {f g:Nat->Rat}:∀ T,dot T f g=dot T g f
 | 0=>rfl
 | T + 1=>by rw [dot,dot,dR T,Hc]
theorem gQ {f g:Nat->Rat} {n:Nat} {x:Rat}:∀ T,n < T->dot T (λk=>if k=n then x else f k) g=dot T f g + (x - f n) * g n
 | T + 1,h=>by
   rw [dot,dot]
   by_cases e:T=n
   · subst e
     rw [if_pos rfl,oz (f':=f) (g':=g) T (λk hk=>if_neg (by omega)) λ_ _=>rfl]
     grind
   · rw [if_neg e,gQ T (by omega)]
     grind
theorem mW {g:Nat->Rat} {n:Nat}:∀ T,n < T->dot T (λk=>if n=k then 1 else 0) g=g n
 | T + 1,h=>by
   rw [dot]
   by_cases e:n=T
   · subst e
     have z:∀ m,m<=n->dot m (λk=>if n=k then 1 else 0) g=0:=by
       intro m
       induction m with
       | zero=>intro _; rfl
       | succ m ih=>intro hm; rw [dot,ih (by omega),if_neg (by omega)]; grind
     rw [z n (Ek _),if_pos rfl]
     grind
   · rw [if_neg e,mW T (by omega)]
     grind
theorem jo (V:Nat->Nat->Rat) (n:Nat) (r:Nat->Rat) (i:Nat):(λk=>fH V n r k i)=λk=>if k=n then r i else V k i:=by
 funext k
 unfold fH
 split <;> rfl
theorem vq {T:Nat} {V L:Nat->Nat->Rat} {st:Stp} (h:okS T st) (i j:Nat):dot T (λk=>stV V st k i) (λk=>L k j)=dot T (λk=>V k i) λk=>bkV L st k j:=by
 unfold stV bkV
 by_cases e:st.1 = "weigh"
 · rw [if_pos e,if_pos e,jo,jo]
   have hn:st.2.1 < T:=by
     rcases h.2 with z | z
     · exact z.2
     · have:=z.2; omega
   rw [gQ T hn,dR T (g:=λk=>if k=st.2.1 then _ else _),gQ T hn,dR T]
   grind
 · obtain ⟨h1,h2,h3⟩:=Dk h e
   rw [if_neg e,if_neg e,jo,jo,gQ T h2,dR T (g:=λk=>if k=rgS st then _ else _),gQ T h1,dR T]
   grind
theorem sI {T:Nat} (i j:Nat):∀ (ss:List Stp) (V L:Nat->Nat->Rat),(∀ st ∈ ss,okS T st)->dot T (λk=>ss.foldl stV V k i) (λk=>L k j)=dot T (λk=>V k i) λk=>ss.foldr (λst L=>bkV L st) L k j
 | [],_,_,_=>rfl
 | st :: ss,V,L,h=>by
   rw [Ip,List.foldr_cons,sI i j ss (stV V st) L λs hs=>h s (Ep _ hs)]
   exact vq (h st (Es ..)) i j
theorem yr {T:Nat} {ss:List Stp} {i j:Nat} (h:∀ st ∈ ss,okS T st) (hi:i < T) (hj:j < T):fwd ss j i=bwd ss i j:=by
 have:=sI i j ss V0 V0 h
 unfold fwd bwd
 rw [Ja]
 have e1:(λk=>V0 k j)=λk=>if j=k then (1:Rat) else 0:=rfl
 have e2:(λk=>V0 k i)=λk=>if i=k then (1:Rat) else 0:=rfl
 rw [e1,dR,mW T hj,e2,mW T hi] at this
 exact this
section
variable {P:Program} {w:World} {K:Ej} {mg:Str->Option Value} {base:Heap} {k:Nat} {f:Addr} {fd:FuncData} {qual:Str}
theorem oE (F:Fun K "table_of" qual (top 32) f fd) (hb:∀ x ∈ ao,mg x=none) (c_look_ladder:Cal P w K mg base k "look_ladder" b9) (c_columns_of:Cal P w K mg base k "columns_of" d8) (c_first_sums:Cal P w K mg base k "first_sums" eG) (c_weighed_sums:Cal P w K mg base k "weighed_sums" cG) (c_added_sums:Cal P w K mg base k "added_sums" eA) (c_told_sums:Cal P w K mg base k "told_sums" fu) (c_rung_end:Cal P w K mg base k "rung_end" dY) (c_rung_start:Cal P w K mg base k "rung_start" cF):aS P w K mg base CX0 (k + 1) f fd ["ladder"] (spD K gk):=by
 refine fnD F iW hb (by rintro _ _ ⟨_,_,_,_,_,rfl,_⟩; rfl) ?_
 rintro _ _ ⟨e,T,R,C,ss,rfl,h,hw,hn,he,rfl⟩ cdv A outer s H E b
 have nd:=iW.nd
 have hT:=h.t7
 have h00:=h
 have hRT:=h.rT
 have hCT:=h.cT
 refine mI (x_call b c_look_ladder (ae (aa 0) ag) ⟨T,R,C,ss,rfl,h,rfl⟩) ?_
 refine uR 1 nd (cmp 0 (f:=λk=>smD (ka k R)) b (iV b (az (aa 0) af (ar (ak (i:=0) rfl))) (by omega) (by omega)) i0 (by rw [aO]; omega) λi hi s0 H0 fp=>(x_call (b.comp s0 H0 _ fp) c_first_sums (ae (aa 0) (ae (az (aa 1) af (ar (ak (i:=1) rfl))) ag)) ⟨_,R,rfl,by omega,rfl⟩)) (.inl rfl) ?_
 rw [aO,Ey]
 refine bU 2 (λi τ=>∃ P tr s2 s3,TrI e T R i P tr ((ss.take i).foldl stV V0)/\τ=[.d (cw T R C ss),.o (tr.map smD),s2,s3]) b nd (a4 (az (aa 0) af (ar (ak (i:=3) rfl)))) Ci ⟨1,(Eo T).map λk=>ka k R,.un,.un,TrI.start,?_⟩ (λi hi τ h=>?_) λτ h=>?_
 · rw [EU]; rfl
 · obtain ⟨P,tr,s2,s3,I,rfl⟩:=h
   have hi:i < ss.length:=by rw [Ei] at hi; exact hi
   have hn':(e + 1) * i<=1500:=EH (Hs _ (by omega)) hn
   have hn2:(e + 1) * (i + 1)<=1500:=EH (Hs _ (by omega)) hn
   have g:=hw i hi
   have ok:=h00.st i hi
   have nx:∀ V,(ss.take (i + 1)).foldl stV V=stV ((ss.take i).foldl stV V) (ss.getD i ("weigh",0,0)):=λV=>by rw [take_snoc (("weigh",0,0):Stp) hi,Gh]; rfl
   rw [nx]
   generalize ss.getD i ("weigh",0,0)=st at *
   obtain ⟨u,n,q⟩:=st
   have sq:Sq 140 q:=g.sq.mono he
   refine jv (M:=λτ=>∃ P tr s2 s3,TrI e T R (i + 1) P tr (stV ((ss.take i).foldl stV V0) (u,n,q))/\τ=[.d (cw T R C ss),.o (tr.map smD),s2,s3]) (aN (az (aa 2) af (ar (ak (i:=0) rfl))) cj hU) (λh=>?_) (λh=>?_) λτ h=>aQ h
   · obtain rfl:=of_decide_eq_true h
     have hnT:n < T:=by
       rcases ok.2 with z | z
       · exact z.2
       · have:=z.2; simp only at this; omega
     obtain ⟨z1,z2,z3,z4⟩:=I.bd hn' hnT
     have hnl:n < tr.length:=by rw [I.len]; exact hnT
     refine zu 1 (xs:=tr.map smD) (j:=n) (az (aa 2) af (ar (ak (i:=1) rfl))) (x_call b c_weighed_sums (ae (tu 1 (az (aa 2) af (ar (ak (i:=1) rfl))) (xt hnl)) (ae (az (aa 2) af (ar (ak (i:=2) rfl))) ag)) ⟨_,q,rfl,z1,z2,z3,sq,by omega,rfl⟩) (by rw [Ei]; exact xm hnl) (aQ ⟨_,_,.d (stD ("weigh",n,q)),s3,xI I g hnT,?_⟩)
     rw [List.map_set]
     rfl
   · have h0:u ≠ "weigh":=of_decide_eq_false h
     obtain ⟨hS,hE,_⟩:=Dk ok h0
     obtain ⟨z1,z2,z3,z4⟩:=I.bd hn' hS
     obtain ⟨y1,y2,y3,y4⟩:=I.bd hn' hE
     have lS:rgS (u,n,q) < tr.length:=by rw [I.len]; exact hS
     have lE:rgE (u,n,q) < tr.length:=by rw [I.len]; exact hE
     obtain ⟨w1,w2⟩:=(kA (q:=q) (I.sm _ hS)).bd (m:=e * (i + 1)) (n:=(e + 1) * (i + 1)) (GW I.pos (den_pos q)) (by rw [F2,p2]; exact GP I.le (bd2 g.sq.den) (by have:=den_pos q; omega) (p0 _)) λr hr=>((I.zq _ hS r hr).mul g).mono (by rw [F2]; omega)
     have w0:=(kA (q:=q) (I.sm _ hS)).pos
     have w3:=(kA (q:=q) (I.sm _ hS)).len
     have:e * (i + 1)<=(e + 1) * (i + 1):=Fd _ (by omega)
     refine aB 3 nd (x_call b c_weighed_sums (ae (tu 1 (x_call b c_rung_start (ae (aa 2) ag) ⟨(u,n,q),rfl,rfl⟩) (xt lS)) (ae (az (aa 2) af (ar (ak (i:=2) rfl))) ag)) ⟨_,q,rfl,z1,z2,z3,sq,by omega,rfl⟩) ?_
     refine zu 1 (xs:=tr.map smD) (j:=rgE (u,n,q)) (x_call b c_rung_end (ae (aa 2) ag) ⟨(u,n,q),rfl,rfl⟩) (x_call b c_added_sums (ae (tu 1 (x_call b c_rung_end (ae (aa 2) ag) ⟨(u,n,q),rfl,rfl⟩) (xt lE)) (ae (aa 3) ag)) ⟨_,_,rfl,y1,y2,w0,w1.mono (by omega),y3,λx hx=>(w2 x hx).mono (by omega),by rw [y4,w3],by omega,rfl⟩) (by rw [Ei]; exact xm lE) (aQ ⟨_,_,.d (stD (u,n,q)),.d (smD (wsm (tr.getD (rgS (u,n,q)) ([],1)) q)),BW I g h0 hS hE,?_⟩)
     rw [List.map_set]
     rfl
 · obtain ⟨P,tr,s2,s3,I,rfl⟩:=h
   rw [Ei,ED (Ek _)] at I
   have bds:∀ j,j < T->_:=λj hj=>I.bd hn hj
   have hCl:C<=tr.length:=by rw [I.len]; exact hCT
   refine yM 1 (aL (x_call b c_columns_of (ae (a8 (du (cmp 0 (f:=λj=>.lst (((Eo R).map (fwd ss j)).map frD)) b (a4 (a8 (Bg (aa 1) vz (m8 (az (aa 0) af (ar (ak (i:=2) rfl))))))) C9 (by rw [l9 hCl]; omega) λj hj s0 H0 fp=>?_))) ag) ⟨(Eo C).map λj=>(Eo R).map (fwd ss j),R,?_,?_,?_,?_,?_,rfl⟩) ?_)
   · rw [l9 hCl] at hj
     have hjT:j < T:=by omega
     exact a8 (x_call (b.comp s0 H0 _ fp) c_told_sums (ae (aa 0) ag) ⟨tr.getD j ([],1),(Eo R).map (fwd ss j),rfl,(I.sm j hjT).sums,by rw [Ei,EN]; omega,(bds j hjT).2.1.mono (by decide),rfl⟩)
   · rw [l9 hCl]
     unfold w6
     rw [EU]
     rfl
   · rw [Ei,EN]; exact h00.c1
   · rw [Ei,EN]; omega
   · omega
   · intro j hj
     rw [Ei,EN] at hj
     simp [hj]
   · rw [ub]
end
noncomputable def uu (s:Stp) (a b:Int):Bool:=if s.1 = "weigh" then decide (a=(s.2.1:Nat)) else !decide (a=b)
noncomputable def wgK (ss:List Stp) (w:List Int):Nat->Rat
 | 0=>1
 | k + 1=>if uu (stp ss k) (w.getD k 0) (w.getD (k + 1) 0) then wgK ss w k * (stp ss k).2.2 else wgK ss w k
theorem wO:Sq 1 1:=⟨by show (1:Int).natAbs < 2; decide,by show ((1:Nat):Int).natAbs < 2; decide⟩
theorem A6 {ss:List Stp} {B:Nat} (h:∀ k,k < ss.length->Sq B (stp ss k).2.2) (w:List Int):∀ k,k<=ss.length->Sq (1 + k * B) (wgK ss w k)
 | 0,_=>wO.mono (by omega)
 | k + 1,hk=>by
   have ih:=A6 h w k (by omega)
   rw [wgK]
   split
   · exact (ih.mul (h k (by omega))).mono (by rw [F1]; omega)
   · exact ih.mono (by rw [F1]; omega)
theorem pw_B {k n B:Nat} (h:k < n):1 + k * B + B<=1 + n * B:=by
 have:(k + 1) * B<=n * B:=Fd B h
 rw [F1] at this
 omega
noncomputable def sR:List Rat->Rat
 | []=>0
 | x :: xs=>x + sR xs
theorem rB:∀ xs ys:List Rat,sR (xs++ys)=sR xs + sR ys
 | [],ys=>by rw [Jy,sR,HA]
 | x :: xs,ys=>by rw [Hi,sR,sR,rB xs ys,HW]
theorem sH {α β:Type} (f:α->List β) (g:β->Rat):∀ xs:List α,sR ((xs.flatMap f).map g)=sR (xs.map λx=>sR ((f x).map g))
 | []=>rfl
 | x :: xs=>by rw [Jg,EW,rB,sH f g xs,Er,sR]
theorem gL {α:Type} {f g:α->Rat}:∀ {xs:List α},(∀ x ∈ xs,f x=g x)->sR (xs.map f)=sR (xs.map g)
 | [],_=>rfl
 | x :: xs,h=>by rw [Er,Er,sR,sR,h x (Es ..),gL λy hy=>h y (Ep _ hy)]
theorem vx {α:Type} (c:Rat) (f:α->Rat):∀ xs:List α,sR (xs.map λx=>c * f x)=c * sR (xs.map f)
 | []=>by rw [FK,FK,sR,FL]
 | x :: xs=>by rw [Er,Er,sR,sR,vx c f xs,Rat.mul_add]
theorem iw {α:Type} (p:α->Bool) (f:α->Rat):∀ xs:List α,sR ((xs.filter p).map f)=sR (xs.map λx=>f x * if p x then 1 else 0)
 | []=>rfl
 | x :: xs=>by
   rw [Er,sR]
   cases h:p x with
   | true=>rw [Gn h,Er,sR,iw p f xs,if_pos rfl,Gx]
   | false=>rw [Gp (by rw [h]; decide),iw p f xs,if_neg Eu,FL,HA]
noncomputable def cof (s:Stp) (t x:Int):Rat:=if uu s t x then s.2.2 else 1
theorem xu (s:Stp) (ss:List Stp):bwd (s :: ss)=bkV (bwd ss) s:=by
 unfold bwd
 rw [Ja,Ja]
 rfl
noncomputable def dnP (ss:List Stp):Nat->Int
 | 0=>1
 | k + 1=>dnP ss k * (((stp ss k).2.2.den:Nat):Int)
theorem qw {ss:List Stp} {e:Nat} (h:∀ k,k < ss.length->Wq e (stp ss k).2.2):∀ k,k<=ss.length->0 < dnP ss k/\dnP ss k<=2 ^ (e * k)
 | 0,_=>by rw [dnP]; exact ⟨by decide,by simp⟩
 | k + 1,hk=>by
   obtain ⟨h1,h2⟩:=qw h k (by omega)
   have hd:=den_pos (stp ss k).2.2
   have hb:=bd2 (h k (by omega)).sq.den
   rw [dnP]
   refine ⟨GW h1 hd,?_⟩
   rw [F2,p2]
   exact GP h2 hb (Int.le_of_lt hd) (p0 _)
theorem w4 {ss:List Stp} {e:Nat} (h:∀ k,k < ss.length->Wq e (stp ss k).2.2) (w:List Int):∀ k,k<=ss.length->Zq (dnP ss k) (e * k) (wgK ss w k)
 | 0,_=>⟨1,by decide,by simp,by rw [dnP,wgK]; exact (Fn _).symm⟩
 | k + 1,hk=>by
   have ih:=w4 h w k (by omega)
   rw [wgK,dnP,F2]
   split
   · rw [Hc]; exact ih.mul (h k (by omega))
   · exact ih.up (h k (by omega))
theorem x6 (xs:List Rat) (x:Rat):sR (xs++[x])=sR xs + x:=by rw [rB,sR,sR,E7]
theorem xD {P:Int} {n:Nat}:∀ (l:Nat) (xs:List Rat),xs.length=l->(∀ x ∈ xs,Zq P n x)->Zq P (n + l) (sR xs)
 | 0,[],_,_=>⟨0,Hu _,p0 _,by rw [sR,GX]; rfl⟩
 | l + 1,x :: xs,hl,h=>by
   have ih:=xD l xs (by simpa using hl) λy hy=>h y (Ep _ hy)
   rw [sR]
   exact ((h x (Es ..)).mono (Jv n l)).add ih
noncomputable def lgR (L:Nat->Nat->Rat) (p e:List Int) (a b:Nat):Rat:=L (p.getD a 0).toNat (e.getD b 0).toNat
theorem sC {T m n:Nat} {L:Nat->Nat->Rat} {p e:List Int} (hp:Rs T m p) {a:Nat} (ha:a < m) (hn:p.getD a 0=(n:Nat)) (r:Nat->Rat):det m (lgR (fH L n r) p e)=det m (av (lgR L p e) a λb=>r (e.getD b 0).toNat):=aR λc hc b hb=>by
 unfold lgR av fH
 by_cases z:c=a
 · subst z
   rw [if_pos rfl,hn,Ey,if_pos rfl]
 · have:(p.getD c 0).toNat ≠ n:=λq=>z (hp.inj hc ha (by have:=hp.bd c hc; omega))
   rw [if_neg z,if_neg this]
theorem yF {T m:Nat} {p e:List Int} (hp:Rs T m p) (he:Rs T m e):det m (lgR V0 p e)=if p=e then 1 else 0:=by
 rw [<- Ax hp he]
 refine aR λa _ b _=>?_
 unfold lgR lgM V0 W0
 split <;> rfl
theorem xE {m a:Nat} (ha:a < m) (M:Nat->Nat->Rat) (q:Rat) (x:Nat->Rat):det m (av M a λb=>q * x b)=q * det m (av M a x):=by
 have:=ML.sum (gq m) M ha (λ_=>q) (λ_=>x) 1
 simpa [aK,HA] using this
theorem sY {T m n:Nat} {L:Nat->Nat->Rat} {p e:List Int} {r:Nat->Rat} (hp:Rs T m p) (z:has p (n:Int)=false):det m (lgR (fH L n r) p e)=det m (lgR L p e):=aR λa ha b _=>by
 unfold lgR fH
 rw [if_neg λq=>by
   have:has p (n:Int)=true:=bJ.mpr ⟨a,by rw [hp.len]; exact ha,by have:=hp.bd a ha; omega⟩
   rw [z] at this; cases this]
theorem wq {T m n k:Nat} {L:Nat->Nat->Rat} {p e:List Int} {q:Rat} (hp:Rs T m p) (hnk:n=k + 1\/k=n + 1) {a:Nat} (ha:a < m) (hn:p.getD a 0=(n:Nat)):det m (lgR (fH L n λj=>L n j + q * L k j) p e)=det m (lgR L p e) + if has p (k:Int)=true then 0 else q * det m (lgR L (mvd n k p) e):=by
 rw [sC hp ha hn]
 have e1:(λb=>L n (e.getD b 0).toNat + q * L k (e.getD b 0).toNat)=λb=>lgR L p e a b + q * L k (e.getD b 0).toNat:=by
   funext b
   unfold lgR
   rw [hn,Ey]
 rw [e1,ML.add (gq m) _ ha,xE ha]
 rw [show av (lgR L p e) a (λb=>lgR L p e a b)=lgR L p e from a6 _ _]
 congr 1
 by_cases z:has p (k:Int)=true
 · rw [if_pos z]
   obtain ⟨b,hb,eb⟩:=bJ.mp z
   rw [hp.len] at hb
   have ab:a ≠ b:=λq=>by rw [q,eb] at hn; omega
   have:=ML.same (gq m) (M:=av (lgR L p e) a λb=>L k (e.getD b 0).toNat) ha hb ab (by
     rw [bE,bF (FE ab)]
     funext c
     unfold lgR
     rw [eb,Ey])
   rw [this,FL]
 · rw [if_neg z]
   congr 1
   refine aR λr hr c hc=>?_
   unfold av lgR
   rw [gf (by rw [hp.len]; exact hr)]
   by_cases y:r=a
   · subst y
     rw [if_pos rfl,if_pos hn,Ey]
   · rw [if_neg y,if_neg]
     intro q
     exact y (hp.inj hr ha (by omega))
noncomputable def wst (s:Stp) (c d:List Int):Rat:=if s.1 = "weigh" then (if has c s.2.1=true then s.2.2 else 1) else if d=c then 1 else s.2.2
noncomputable def wZ (e:List Int):List Stp->List Int->Rat
 | [],c=>if c=e then 1 else 0
 | s :: ss,c=>sR ((nxp s c).map λd=>wst s c d * wZ e ss d)
theorem lgw {T m:Nat} {e:List Int} (he:Rs T m e):∀ (ss:List Stp),(∀ s ∈ ss,okS T s)->∀ p,Rs T m p->wZ e ss p=det m (lgR (bwd ss) p e)
 | [],_,p,hp=>(yF hp he).symm
 | s :: ss,h,p,hp=>by
   have hs:=h s (Es ..)
   have ih:=lgw he ss λs hs=>h s (Ep _ hs)
   rw [wZ,xu]
   have one:∀ c,wst s p p=c->sR ([p].map λd=>wst s p d * wZ e ss d)=c * wZ e ss p:=λc hc=>by
     rw [Er,FK,sR,sR,E7,hc]
   unfold bkV
   by_cases w:s.1 = "weigh"
   · rw [if_pos w]
     unfold nxp
     rw [if_pos w]
     cases z:has p (s.2.1:Int) with
     | false=>
       rw [if_neg (λk=>nomatch k.2),one 1 (by unfold wst; rw [if_pos w,z]; rfl),Fn,ih p hp,sY hp z]
     | true=>
       obtain ⟨a,ha,ea⟩:=bJ.mp z
       rw [hp.len] at ha
       have e2:(λb=>s.2.2 * bwd ss s.2.1 (e.getD b 0).toNat)=λb=>s.2.2 * lgR (bwd ss) p e a b:=by
         funext b
         unfold lgR
         rw [ea,Ey]
       rw [sC hp ha ea,e2,xE ha,show av (lgR (bwd ss) p e) a (lgR (bwd ss) p e a)=lgR (bwd ss) p e from a6 _ _,<- ih p hp]
       by_cases y:s.2.2.num=0
       · rw [if_pos ⟨y,rfl⟩,Rat.num_eq_zero.mp y,GX]
         rfl
       · rw [if_neg λk=>y k.1,one s.2.2 (by unfold wst; rw [if_pos w,if_pos z])]
   · rw [if_neg w]
     have rg:(rgS s=rgE s + 1\/rgE s=rgS s + 1)/\rgE s < T:=by
       rcases hs.2 with z | ⟨z,hn⟩
       · exact absurd z.1 w
       · unfold rgS rgE
         split <;> exact ⟨by omega,by omega⟩
     have w1:wst s p p=1:=by unfold wst; rw [if_neg w,if_pos rfl]
     have o1:=one 1 w1
     rw [Fn] at o1
     generalize hS:rgS s=n at rg
     generalize hE:rgE s=k at rg
     unfold nxp
     rw [if_neg w,hS,hE]
     by_cases y:s.2.2.num=0
     · rw [if_pos (.inl y),o1,ih p hp]
       refine aR λa _ b _=>?_
       unfold lgR fH
       rw [Rat.num_eq_zero.mp y]
       split
       · rename_i q
         show bwd ss (p.getD a 0).toNat _=bwd ss n _ + 0 * bwd ss k _
         rw [GX,E7,q]
       · rfl
     · cases z:has p (n:Int) with
       | false=>rw [if_pos (.inr (.inl rfl)),o1,ih p hp,sY hp z]
       | true=>
         obtain ⟨a,ha,ea⟩:=bJ.mp z
         rw [hp.len] at ha
         rw [wq hp rg.1 ha ea]
         cases x:has p (k:Int) with
         | true=>rw [if_pos (.inr (.inr rfl)),if_pos rfl,o1,ih p hp,E7]
         | false=>
           rw [if_neg (by rintro (q | q | q)
                          · exact y q
                          · cases q
                          · cases q),if_neg Eu]
           have ne:mvd n k p ≠ p:=λq=>by
             have:=congrArg (λl:List Int=>l.getD a 0) q
             simp only [gf (show a < p.length by rw [hp.len]; exact ha),ea,if_true] at this
             omega
           have w2:wst s p (mvd n k p)=s.2.2:=by unfold wst; rw [if_neg w,if_neg ne]
           have i1:=ih p hp
           have i2:=ih _ (Bb hp rg.1 rg.2 x)
           rw [<- i1,<- i2]
           split
           · rw [Er,Er,FK,sR,sR,sR,w1,w2,E7,Fn,Rat.add_comm]
           · rw [Er,Er,FK,sR,sR,sR,w1,w2,E7,Fn]
section
variable {P:Program} {w:World} {K:Ej} {mg:Str->Option Value} {base:Heap} {k:Nat} {f:Addr} {fd:FuncData} {qual:Str}
end
theorem so {α:Type} {f:α->Rat}:∀ {xs:List α},(∀ x ∈ xs,f x=0)->sR (xs.map f)=0
 | [],_=>rfl
 | x :: xs,h=>by rw [Er,sR,h x (Es ..),so λy hy=>h y (Ep _ hy),E7]
theorem nj {T m:Nat} {e:List Int} (he:e.length=m):∀ (ss:List Stp),(∀ s ∈ ss,okS T s)->∀ q,Rs T m q->nZ (cm T e ss) q<=0->wZ e ss q=0
 | [],_,q,_,z=>by
   rw [wZ]
   by_cases y:q=e
   · subst y
     unfold nZ at z
     rw [cm,cI,E6] at z
     simp at z
   · rw [if_neg y]
 | s :: ss,hs,q,r,z=>by
   rw [rR (by rw [he]; exact r)] at z
   unfold cN at z
   rw [wZ]
   refine so λd hd=>?_
   have:=p9 (f:=nZ (cm T e ss)) (λq=>mL T e _ q) hd
   rw [nj he ss (λs h=>hs s (Ep _ h)) d (rZ (hs s (Es ..)) r hd) (by omega),FL]
noncomputable def wT (ss:List Stp) (t:List (List Int)):Nat->Rat
 | 0=>1
 | k + 1=>wT ss t k * wst (ss.getD k ("weigh",0,0)) (t.getD k []) (t.getD (k + 1) [])
theorem xh {ss:List Stp} {t:List (List Int)} {q:List Int}:∀ k,k + 1<=t.length->wT ss (t++[q]) k=wT ss t k
 | 0,_=>rfl
 | k + 1,h=>by rw [wT,wT,xh k (by omega),bL (by omega),bL (by omega)]
theorem Dl {T m:Nat} {e st:List Int} {ss:List Stp} (hs:∀ s ∈ ss,okS T s) (he:e.length=m) (r:Rs T m st):∀ k,k<=ss.length->sR ((trK T e st ss k).map λt=>wT ss t k * wZ e (ss.drop k) (bg t))=wZ e ss st
 | 0,_=>by
   rw [trK,GJ]
   split
   · rw [Er,FK,sR,sR,E7,wT,Fn]
     rfl
   · rename_i z
     rw [nj he ss hs st r (by omega)]
     rfl
 | k + 1,hk=>by
   have hk':k < ss.length:=by omega
   rw [<- Dl hs he r k (by omega),trK]
   unfold lgT
   rw [sH]
   refine gL λt ht=>?_
   obtain ⟨j,_⟩:=(fS hs he r k (by omega) t).mp ht
   have lt:=j.len
   have ll:bg t=t.getD k []:=by unfold bg; rw [lt]; rfl
   have rk:=j.rs hs (by omega) r k (Ek _)
   have ho:okS T (ss.getD k ("weigh",0,0)):=hs _ (by rw [Fh,El hk']; exact Fe _)
   unfold onT
   rw [EU,iw,mf hk',wZ,<- vx]
   refine gL λq hq=>?_
   show wT ss (t++[q]) (k + 1) * wZ e (ss.drop (k + 1)) (bg (t++[q])) * _=_
   rw [wT,xh k (by omega),bL (by omega),jW lt.symm,lst_snoc,ll,GB (wT ss t k)]
   cases z:alv (cm T e (ss.drop (k + 1))) q with
   | true=>rw [if_pos rfl,Gx]
   | false=>
     rw [ll] at hq
     rw [nj he (ss.drop (k + 1)) (λs h=>hs s (IC h)) q (rZ ho rk hq) (by rw [gi.2 z]; exact Hu _)]
     simp only [FL,GX]
theorem vo {T m:Nat} {e st:List Int} {ss:List Stp} (hs:∀ s ∈ ss,okS T s) (he:e.length=m) (r:Rs T m st):sR ((trK T e st ss ss.length).map λt=>wT ss t ss.length)=wZ e ss st:=by
 rw [<- Dl hs he r ss.length (Ek _)]
 refine gL λt ht=>?_
 have al:=((gn T e st ss ss.length (Ek _)).1 t ht).2
 rw [Ia] at al ⊢
 rw [mE al,wZ,if_pos rfl,Gx]
noncomputable def pR:List Rat->Rat
 | []=>1
 | x :: xs=>x * pR xs
theorem uZ {α:Type} (f g:α->Rat):∀ xs:List α,pR (xs.map λa=>f a * g a)=pR (xs.map f) * pR (xs.map g)
 | []=>by rw [FK,FK,FK,pR,Fn]
 | x :: xs=>by
   rw [Er,Er,Er,pR,pR,pR,uZ f g xs]
   simp only [GB]
   rw [<- GB (g x),Hc (g x),GB]
theorem gR {α:Type} {f:α->Rat}:∀ {xs:List α},(∀ x ∈ xs,f x=1)->pR (xs.map f)=1
 | [],_=>rfl
 | x :: xs,h=>by rw [Er,pR,h x (Es ..),Fn,gR λy hy=>h y (Ep _ hy)]
theorem pZ {f:Nat->Rat} {a:Nat}:∀ {xs:List Nat},xs.Nodup->a ∈ xs->(∀ x ∈ xs,x ≠ a->f x=1)->pR (xs.map f)=f a
 | x :: xs,nd,ha,h=>by
   obtain ⟨n1,n2⟩:=F4.mp nd
   rw [Er,pR]
   by_cases z:x=a
   · subst z
     rw [gR λy hy=>h y (Ep _ hy) λq=>n1 (q ▸ hy),Gx]
   · rw [h x (Es ..) z,Fn]
     exact pZ n2 ((EE.mp ha).resolve_left λq=>z q.symm) λy hy=>h y (Ep _ hy)
theorem AD {T m:Nat} {s:Stp} {c d:List Int} (ho:okS T s) (r:Rs T m c) (hd:d ∈ nxp s c):pR ((Eo m).map λa=>cof s (c.getD a 0) (d.getD a 0))=wst s c d:=by
 have lc:=r.len
 have nd:(Eo m).Nodup:=List.nodup_range
 unfold wst
 by_cases w:s.1 = "weigh"
 · have dc:d=c:=by
     unfold nxp at hd
     rw [if_pos w] at hd
     split at hd
     · cases hd
     · exact Em.mp hd
   subst dc
   have cf:∀ a,cof s (d.getD a 0) (d.getD a 0)=if d.getD a 0=(s.2.1:Int) then s.2.2 else 1:=λa=>by
     unfold cof uu
     rw [if_pos w]
     by_cases y:d.getD a 0=(s.2.1:Int)
     · rw [decide_eq_true y,if_pos rfl,if_pos y]
     · rw [decide_eq_false y,if_neg Eu,if_neg y]
   rw [if_pos w]
   cases z:has d (s.2.1:Int) with
   | true=>
     rw [if_pos rfl]
     obtain ⟨a,ha,ea⟩:=bJ.mp z
     rw [lc] at ha
     rw [pZ (a:=a) nd (EY.mpr ha) λx hx hn=>?_,cf,if_pos ea]
     rw [cf,if_neg λq=>hn (r.inj (EY.mp hx) ha (q.trans ea.symm))]
   | false=>
     rw [if_neg Eu]
     refine gR λx hx=>?_
     rw [cf,if_neg λq=>?_]
     have:has d (s.2.1:Int)=true:=bJ.mpr ⟨x,by rw [lc]; exact EY.mp hx,q⟩
     rw [z] at this
     cases this
 · rw [if_neg w]
   have cf:∀ a,cof s (c.getD a 0) (d.getD a 0)=if c.getD a 0=d.getD a 0 then 1 else s.2.2:=λa=>by
     unfold cof uu
     rw [if_neg w]
     by_cases y:c.getD a 0=d.getD a 0
     · rw [decide_eq_true y,if_pos y]; rfl
     · rw [decide_eq_false y,if_neg y]; rfl
   by_cases y:d=c
   · rw [if_pos y]
     refine gR λx _=>?_
     rw [cf,y,if_pos rfl]
   · rw [if_neg y]
     have dm:d=mvd (rgS s) (rgE s) c/\has c (rgS s)=true:=by
       unfold nxp at hd
       rw [if_neg w] at hd
       split at hd
       · exact absurd (Em.mp hd) y
       · rename_i z
         have hz:has c (rgS s)=true:=by
           cases q:has c (rgS s) with
           | true=>rfl
           | false=>exact absurd (.inr (.inl q)) z
         refine ⟨?_,hz⟩
         split at hd
         · rcases EE.mp hd with q | q
           · exact q
           · exact absurd (Em.mp q) y
         · rcases EE.mp hd with q | q
           · exact absurd q y
           · exact Em.mp q
     obtain ⟨a,ha,ea⟩:=bJ.mp dm.2
     rw [lc] at ha
     have at_:∀ x,x < m->d.getD x 0=if c.getD x 0=(rgS s:Int) then (rgE s:Int) else c.getD x 0:=λx hx=>by rw [dm.1,gf (by rw [lc]; exact hx)]
     have ne:=zr s
     rw [pZ (a:=a) nd (EY.mpr ha) λx hx hn=>?_,cf,at_ a ha,if_pos ea,ea,if_neg λq=>ne (by omega)]
     have dx:d.getD x 0=c.getD x 0:=by rw [at_ x (EY.mp hx),if_neg λq=>hn (r.inj (EY.mp hx) ha (q.trans ea.symm))]
     rw [cf,dx,if_pos rfl]
theorem sP {T m n:Nat} {ss:List Stp} {st:List Int} {t:List (List Int)} (hs:∀ s ∈ ss,okS T s) (hn:n<=ss.length) (j:JT ss n st t) (r:Rs T m st):∀ k,k<=n->pR ((Eo m).map λa=>wgK ss (jd t a) k)=wT ss t k
 | 0,_=>gR λ_ _=>rfl
 | k + 1,hk=>by
   have lt:=j.len
   have hk':k < ss.length:=by omega
   have ho:okS T (ss.getD k ("weigh",0,0)):=hs _ (by rw [Fh,El hk']; exact Fe _)
   rw [wT,<- sP hs hn j r k (by omega),<- AD ho (j.rs hs hn r k (by omega)) (j.nx k (by omega)),<- uZ]
   congr 1
   refine Fb λa _=>?_
   rw [wgK,gP (by omega),gP (by omega)]
   unfold cof stp
   split
   · rfl
   · rw [Gx]
theorem yL {T m:Nat} {ns ms:List Int} {ss:List Stp} (hs:∀ s ∈ ss,okS T s) (rn:Rs T m ns) (rm:Rs T m ms):sR ((jb T ms ns ss).map λf=>pR (f.map λw=>wgK ss w ss.length))=det m (lgR (bwd ss) ns ms):=by
 rw [<- lgw rm ss hs ns rn,<- vo hs rm.len rn]
 unfold jb
 rw [EU]
 refine gL λt ht=>?_
 obtain ⟨j,_⟩:=(fS hs rm.len rn ss.length (Ek _) t).mp ht
 rw [<- sP hs (Ek _) j rn ss.length (Ek _)]
 show pR ((i7 t ms.length).map λw=>wgK ss w ss.length)=_
 unfold i7
 rw [EU,rm.len]
 rfl
noncomputable def vA (s:Stp) (a b:Int):Bool:=!decide (a=b) || (decide (s.1 = "weigh") && decide (((s.2.1:Nat):Int)=a))
noncomputable def wlK (ss:List Stp) (w:List Int):Nat->Rat
 | 0=>1
 | k + 1=>if vA (stp ss k) (w.getD k 0) (w.getD (k + 1) 0) then wlK ss w k * (stp ss k).2.2 else wlK ss w k
theorem wb {ss:List Stp} {B:Nat} (h:∀ k,k < ss.length->Sq B (stp ss k).2.2) (w:List Int):∀ k,k<=ss.length->Sq (1 + k * B) (wlK ss w k)
 | 0,_=>wO.mono (by omega)
 | k + 1,hk=>by
   have ih:=wb h w k (by omega)
   rw [wlK]
   split
   · exact (ih.mul (h k (by omega))).mono (by rw [F1]; omega)
   · exact ih.mono (by rw [F1]; omega)
noncomputable def cQ (ds:List D) (r:Sl):Prop:=∃ (T R C B:Nat) (ss:List Stp) (w:List Int),ds=[cw T R C ss,.lst (w.map .int)]/\w.length=ss.length + 1/\(∀ k,k < ss.length->Sq B (stp ss k).2.2)/\1 + ss.length * B<=8000/\ss.length<=400/\r=.d (frD (wlK ss w ss.length))
theorem A2 {s:Stp} {a b:Int} (h:b ∈ gos s a):uu s a b=vA s a b:=by
 unfold uu vA
 by_cases hw:s.1 = "weigh"
 · rw [if_pos hw,decide_eq_true hw]
   have e:b=a:=by
     unfold gos at h
     split at h
     · simp at h
     · split at h
       · rename_i z; exact absurd (z.1.symm.trans hw) z5
       · split at h
         · rename_i z; exact absurd (z.1.symm.trans hw) z9
         · simpa using h
   subst e
   rw [decide_eq_true rfl,JZ,Bool.false_or,Bool.true_and]
   rw [decide_eq_decide]
   exact eq_comm
 · rw [if_neg hw,decide_eq_false hw,Bool.false_and,HV]
theorem y7 {xs ys:List Rat} (h:xs.Perm ys):sR xs=sR ys:=by
 induction h with
 | nil=>rfl
 | cons x _ ih=>rw [sR,sR,ih]
 | swap x y l=>rw [sR,sR,sR,sR,<- HW,<- HW,Rat.add_comm y x]
 | trans _ _ h1 h2=>exact h1.trans h2
theorem rJ:∀ (xs:List Rat) (x:Rat),pR (xs++[x])=pR xs * x
 | [],x=>by rw [Jy,pR,pR,pR,Gx,Fn]
 | y :: xs,x=>by rw [Hi,pR,pR,rJ xs x,GB]
noncomputable def pwI (P:Int):Nat->Int
 | 0=>1
 | n + 1=>pwI P n * P
theorem qd {P:Int} {e:Nat} (h0:0 < P) (h:P<=2 ^ e):∀ n,0 < pwI P n/\pwI P n<=2 ^ (e * n)
 | 0=>⟨by rw [pwI]; decide,by rw [pwI]; simp⟩
 | n + 1=>by
   obtain ⟨h1,h2⟩:=qd h0 h n
   rw [pwI,F2,p2]
   exact ⟨GW h1 h0,GP h2 h (Int.le_of_lt h0) (p0 _)⟩
theorem Zq.DJ {P Q:Int} {m n:Nat} {v w:Rat} (h:Zq P m v) (g:Zq Q n w):Zq (P * Q) (m + n) (v * w):=by
 obtain ⟨a,a0,a1,a2⟩:=h
 obtain ⟨b,b0,b1,b2⟩:=g
 refine ⟨a * b,JX a0 b0,?_,?_⟩
 · rw [p2]
   exact GP a1 b1 b0 (p0 _)
 · rw [EJ,EJ,a2,b2]
   grind
theorem wm {P:Int} {e:Nat}:∀ (n:Nat) (xs:List Rat),xs.length=n->(∀ x ∈ xs,Zq P e x)->Zq (pwI P n) (e * n) (pR xs)
 | 0,[],_,_=>⟨1,by decide,by simp,by rw [pR,pwI]; exact (Fn _).symm⟩
 | n + 1,x :: xs,hl,h=>by
   have ih:=wm n xs (by simpa using hl) λy hy=>h y (Ep _ hy)
   rw [pR,pwI,F2,Hc]
   exact ih.DJ (h x (Es ..))
theorem uV {ss:List Stp} {i j:Int} {w:List Int} (h:WO ss i j w):∀ k,k<=ss.length->wgK ss w k=wlK ss w k
 | 0,_=>rfl
 | k + 1,hk=>by rw [wgK,wlK,uV h k (by omega),A2 (s:=stp ss k) (h.nx k (by omega))]
theorem Rs.cho {n m:Nat} {p:List Int} (h:Rs n m p) (h1:1<=m) (h7:m<=7):ChO n p:=by
 have l:=h.len
 refine ⟨λz=>?_,λi hi=>h.up i (by omega),(h.bd 0 (by omega)).1,?_,by omega⟩
 · rw [z] at l; simp at l; omega
 · unfold ke
   rw [l]
   exact (h.bd (m - 1) (by omega)).2
theorem Rs.up2 {n T m:Nat} {p:List Int} (h:Rs n m p) (hn:n<=T):Rs T m p:=⟨h.len,h.up,λa ha=>by have:=h.bd a ha; omega⟩
theorem okL.mem {T R C:Nat} {ss:List Stp} (h:okL T R C ss):∀ s ∈ ss,okS T s:=λs hs=>by
 obtain ⟨i,hi,rfl⟩:=Gm hs
 have:=h.st i hi
 simpa [hi] using this
theorem oS:∀ ss:List Stp,ir ss<=ss.length
 | []=>Ek _
 | s :: ss=>by
   rw [ir,ET]
   have:=oS ss
   have:act s<=1:=by unfold act; split <;> omega
   omega
section
variable {P:Program} {w:World} {K:Ej} {mg:Str->Option Value} {base:Heap} {k:Nat} {f:Addr} {fd:FuncData} {qual:Str}
theorem jg (F:Fun K "_law_way_weight" qual (top 61) f fd) (hb:∀ x ∈ ao,mg x=none) (c_l_times:Cal P w K mg base k "_law_times" fQ):aS P w K mg base CX0 (k + 1) f fd ["_law_ladder_here","_law_way"] (spD K cQ):=by
 refine fnD F eK hb (by rintro _ _ ⟨_,_,_,_,_,_,rfl,_⟩; rfl) ?_
 rintro _ _ ⟨T,R,C,B,ss,wy,rfl,hw,hB,hL,h4,rfl⟩ cdv A outer s H E b
 have nd:=eK.nd
 refine aB 2 nd (cC (ae af (ae af ag))) ?_
 refine iA 3 4 (g:=λi=>.int (i:Nat)) (g':=λi=>stD (stp ss i)) (λi τ=>∃ s3 s4,τ=[.d (cw T R C ss),.d (.lst (wy.map .int)),.d (frD (wlK ss wy i)),s3,s4]) b nd (lX b (az (aa 0) af (ar (ak (i:=3) rfl)))) uX ⟨.un,.un,rfl⟩ (λi hi τ h=>?_) λτ h=>?_
 · obtain ⟨s3,s4,rfl⟩:=h
   have hi:i < ss.length:=by rw [a9,Ei] at hi; exact hi
   have sq:=wb hB wy i (by omega)
   have hp:=pw_B (B:=B) hi
   have e1:((i:Int) + 1).toNat=i + 1:=by omega
   refine jv (M:=λτ=>∃ s3 s4,τ=[.d (cw T R C ss),.d (.lst (wy.map .int)),.d (frD (wlK ss wy (i + 1))),s3,s4]) (PW.pt (dn (aN (az (aa 1) (aa 3) (aW (aZ (i:=(i:Int)) (by omega) (by rw [Ey]; omega)))) (az (aa 1) (aC (aa 3) af a5) (aW (aZ (by omega) (by omega)))) j3) λh=>(de (PW.pt (gG (aN (az (aa 4) af (ar (ak (i:=0) rfl))) cj hU) λh=>(iq (aN (az (aa 4) af (ar (ak (i:=1) rfl))) (az (aa 1) (aa 3) (aW (aZ (i:=(i:Int)) (by omega) (by rw [Ey]; omega)))) fW))))))) (λh=>?_) (λh=>?_) λτ h=>aQ h
   · rw [Ey,e1] at h
     have h:vA (stp ss i) (wy.getD i 0) (wy.getD (i + 1) 0)=true:=h
     refine aB 2 nd (x_call b c_l_times (ae (aa 2) (ae (az (aa 4) af (ar (ak (i:=2) rfl))) ag)) ⟨_,_,_,_,rfl,sq,hB i hi,by omega,rfl⟩) (aQ ⟨.d (.int (i:Nat)),.d (stD (stp ss i)),?_⟩)
     rw [wlK,if_pos h]
     rfl
   · rw [Ey,e1] at h
     have h:vA (stp ss i) (wy.getD i 0) (wy.getD (i + 1) 0)=false:=h
     refine aQ ⟨.d (.int (i:Nat)),.d (stD (stp ss i)),?_⟩
     rw [wlK,if_neg (by rw [h]; decide)]
     rfl
 · obtain ⟨s3,s4,rfl⟩:=h
   refine aL (aa 2) ?_
   rw [a9,Ei]
end
noncomputable def rwQ (r:List Rat):D:=.lst (r.map frD)
noncomputable def tbQ (M:List (List Rat)):D:=.lst (M.map rwQ)
structure Tq (R C:Nat) (M:List (List Rat)):Prop where
 r1:1<=R
 r7:R<=7
 c1:1<=C
 c7:C<=7
 len:M.length=R
 row:∀ r ∈ M,r.length=C
theorem ly {α:Type} {f:α->D} {xs:List α} (d:α):∀ i (h:i < (xs.map f).length),(xs.map f)[i]=f (xs.getD i d):=λi h=>by
 have:i < xs.length:=by simpa using h
 simp [this]
theorem Bo {α:Type} {f:α->D} {xs:List α} (d:α) {i:Nat} (h:i < xs.length):atI (xs.map f) (i:Int)=some (f (xs.getD i d)):=ak (by simp [h])
theorem cM {α:Type} {xs:List α} {d:α} {i:Nat} (h:i < xs.length):xs.getD i d ∈ xs:=by simp [h]
theorem Tq.at_ {R C:Nat} {M:List (List Rat)} (h:Tq R C M) {i:Nat} (hi:i < R):(M.getD i []).length=C:=h.row _ (cM (by rw [h.len]; exact hi))
structure Qs (d v:Nat) (q:Rat):Prop where
 den:Bd d (q.den:Nat)
 val:q.num.natAbs<=2 ^ v * q.den
theorem mF {α:Type} (f:α->D) (xs:List α) (d:α) {m:Nat} (h:m=xs.length):(Eo m).map (λi=>f (xs.getD i d))=xs.map f:=by
 subst h
 refine Fu (by simp) λi h1 h2=>?_
 have:i < xs.length:=by simpa using h2
 simp [this]
noncomputable def pkL {α:Type} (xs:List α) (ps:List Int) (d:α):List α:=ps.map λp=>xs.getD p.toNat d
theorem zS {α:Type} {f:α->D} {xs:List α} (d:α) {p:Int} (h:0<=p/\p < xs.length):atI (xs.map f) p=some (f (xs.getD p.toNat d)):=by
 obtain ⟨n,rfl⟩:=FY h.1
 rw [Ey]
 exact Bo d (by omega)
theorem Ab {α:Type} (f:α->D) (xs:List α) (ps:List Int) (d:α) {m:Nat} (h:m=ps.length):(Eo m).map (λi=>f (xs.getD (ps.getD i 0).toNat d))=(pkL xs ps d).map f:=by
 unfold pkL
 rw [EU]
 exact mF (λp:Int=>f (xs.getD p.toNat d)) ps 0 h
noncomputable def chM (M:List (List Rat)) (rs cs:List Int):List (List Rat):=rs.map λr=>pkL (M.getD r.toNat []) cs 0
noncomputable def scS (s:Int) (q:Rat):Int:=s / (EO s (q.den:Nat):Int) * (q.den:Nat)
noncomputable def scL (r:List Rat):Int:=r.foldl scS 1
theorem AG {s:Int} (hs:0 < s) (q:Rat):0 < scS s q/\s ∣ scS s q/\((q.den:Nat):Int) ∣ scS s q:=by
 have hq:=den_pos q
 have g0:0 < (EO s (q.den:Nat):Int):=by
   have:=ko (i:=s) (j:=(q.den:Nat)) (by omega)
   have:=F9 (EO s (q.den:Nat))
   omega
 have d1:(EO s (q.den:Nat):Int) ∣ s:=GS ..
 have d2:(EO s (q.den:Nat):Int) ∣ ((q.den:Nat):Int):=Gj ..
 have p1:0 < s / (EO s (q.den:Nat):Int):=Int.ediv_pos_of_pos_of_dvd hs (by omega) d1
 refine ⟨GW p1 hq,?_,Int.dvd_mul_left ..⟩
 obtain ⟨k,hk⟩:=d2
 refine ⟨k,?_⟩
 unfold scS
 conv=>lhs; rhs; rw [hk]
 rw [<- J6,Int.ediv_mul_cancel d1]
theorem wd (r:List Rat) (q:Rat):scL (r++[q])=scS (scL r) q:=by unfold scL; rw [Gh]; rfl
theorem rf:∀ (r:List Rat) (s:Int),0 < s->0 < r.foldl scS s/\s ∣ r.foldl scS s/\∀ q ∈ r,((q.den:Nat):Int) ∣ r.foldl scS s
 | [],s,h=>⟨h,Int.dvd_refl _,λ_ z=>nomatch z⟩
 | q :: r,s,h=>by
   obtain ⟨a1,a2,a3⟩:=AG h q
   obtain ⟨b1,b2,b3⟩:=rf r _ a1
   exact ⟨b1,Hl a2 b2,λx hx=>(EE.mp hx).elim (λe=>by rw [e]; exact Hl a3 b2) (b3 x)⟩
theorem mM (r:List Rat):0 < scL r/\∀ q ∈ r,((q.den:Nat):Int) ∣ scL r:=⟨(rf r 1 (by decide)).1,(rf r 1 (by decide)).2.2⟩
theorem xf {d:Nat}:∀ (r:List Rat) (s:Int) (n:Nat),Bd n s->(∀ q ∈ r,Bd d (q.den:Nat))->Bd (n + r.length * d) (r.foldl scS s)
 | [],s,n,h,_=>by simpa using h
 | q :: r,s,n,h,hd=>by
   have h1:Bd (n + d) (scS s q):=(h.ediv _).mul (hd q (Es ..))
   have:=xf r _ _ h1 λx hx=>hd x (Ep _ hx)
   rw [ET,F1]
   rwa [show n + d + r.length * d=n + (r.length * d + d) by omega] at this
theorem iG {d:Nat} {r:List Rat} (h:∀ q ∈ r,Bd d (q.den:Nat)):Bd (1 + r.length * d) (scL r):=xf r 1 1 (by unfold Bd; decide) h
noncomputable def whR (r:List Rat) (s:Int):List Int:=r.map λq=>q.num * (s / (q.den:Nat))
theorem D5 {q:Rat} {s:Int} (h:((q.den:Nat):Int) ∣ s):((q.num * (s / (q.den:Nat)):Int):Rat)=q * (s:Rat):=by
 obtain ⟨k,rfl⟩:=h
 have:=den_pos q
 rw [HP _ (by omega),EJ,EJ,<- GB,c9]
theorem Dz {d v n:Nat} {q:Rat} {s:Int} (hq:Qs d v q) (h:((q.den:Nat):Int) ∣ s) (hs:Bd n s):Bd (v + n) (q.num * (s / (q.den:Nat))):=by
 obtain ⟨k,rfl⟩:=h
 have hd:=den_pos q
 rw [HP _ (by omega)]
 unfold Bd at hs ⊢
 rw [HG,IS]
 rw [HG,HE] at hs
 have h1:q.num.natAbs * k.natAbs<=2 ^ v * q.den * k.natAbs:=Fd _ hq.val
 rw [Nat.mul_assoc] at h1
 exact EV h1 (JN hs (Gi v))
noncomputable def prZ (ns:List Int):Int:=ns.foldl (· * ·) 1
theorem oK (ns:List Int) (n:Int):prZ (ns++[n])=prZ ns * n:=by unfold prZ; rw [Gh]; rfl
theorem u9 {d:Nat}:∀ (r:List Int) (s:Int) (n:Nat),Bd n s->(∀ q ∈ r,Bd d q)->Bd (n + r.length * d) (r.foldl (· * ·) s)
 | [],s,n,h,_=>by simpa using h
 | q :: r,s,n,h,hd=>by
   have:=u9 r _ _ (h.mul (hd q (Es ..))) λx hx=>hd x (Ep _ hx)
   rw [ET,F1]
   rwa [show n + d + r.length * d=n + (r.length * d + d) by omega] at this
theorem qZ {d:Nat} {r:List Int} (h:∀ q ∈ r,Bd d q):Bd (1 + r.length * d) (prZ r):=u9 r 1 1 (by unfold Bd; decide) h
theorem su:∀ (r:List Int) (s:Int),0 < s->(∀ q ∈ r,0 < q)->0 < r.foldl (· * ·) s
 | [],_,h,_=>h
 | q :: r,s,h,hq=>su r _ (GW h (hq q (Es ..))) λx hx=>hq x (Ep _ hx)
theorem yW {r:List Int} (h:∀ q ∈ r,0 < q):0 < prZ r:=su r 1 (by decide) h
noncomputable def whM (M:List (List Rat)) (ss:List Int):List (List Int):=(Eo M.length).map λi=>whR (M.getD i []) (ss.getD i 0)
theorem Dc {B c:Nat} {x:Rat} {z:Int} (h:ZB c x) (e:(z:Rat)=x) (hc:c < B):Bd B z:=by
 obtain ⟨y,e1,e2⟩:=h
 rw [e1] at e
 rw [Ir.mp e]
 exact EV e2 (GH (by decide) hc)
noncomputable def wdZ (Ms:List (List Int)):Int:=(det Ms.length (dtM Ms)).num
theorem vn {Ms:List (List Int)} {z:Int} (h:(z:Rat)=det Ms.length (dtM Ms)):wdZ Ms=z:=by unfold wdZ; rw [<- h]; rfl
noncomputable def qM (M:List (List Rat)) (i j:Nat):Rat:=(M.getD i []).getD j 0
structure Bz (m d v:Nat):Prop where
 b1:1 + m * d<=8999
 b2:m * (v + (1 + m * d) + 3)<=8998
 b3:1 + m * (1 + m * d)<=8999
 b4:v + d<=8999
theorem Qs.sq {d v:Nat} {q:Rat} (h:Qs d v q):Sq (v + d) q:=by
 refine ⟨?_,h.den.mono (by omega)⟩
 have h1:=h.den
 unfold Bd at h1 ⊢
 rw [HE] at h1
 rw [IS]
 exact EV h.val (JN h1 (Gi v))
theorem se (ns:List Int):∀ t,t<=ns.length->((prZ (ns.take t):Int):Rat)=ki (λi=>((ns.getD i 0:Int):Rat)) t
 | 0,_=>rfl
 | t + 1,h=>by
   have et:ns.take (t + 1)=ns.take t++[ns.getD t 0]:=by rw [IF,El (by omega)]; simp [show t < ns.length by omega]
   rw [et,oK,EJ,se ns t (by omega),ki]
theorem Bu {M:List (List Rat)} {ss:List Int} {i j:Nat} (hi:i < M.length) (hj:j < (M.getD i []).length):((whM M ss).getD i []).getD j 0=((M.getD i []).getD j 0).num * (ss.getD i 0 / (((M.getD i []).getD j 0).den:Nat)):=by
 have e:(whM M ss).getD i []=whR (M.getD i []) (ss.getD i 0):=by unfold whM; simp [hi]
 rw [e]
 unfold whR
 rw [EB,E5,El hj,EB (l:=M.getD i []),El hj]
 rfl
theorem zL {R d v:Nat} {M:List (List Rat)} (t:Tq R R M) (hq:∀ r ∈ M,∀ x ∈ r,Qs d v x) (z:Bz R d v):(whM M (M.map scL)).length=R/\(∀ r ∈ whM M (M.map scL),r.length=R/\∀ x ∈ r,x.natAbs<=2 ^ (v + (1 + R * d)))/\0 < prZ (M.map scL)/\Bd 8999 (prZ (M.map scL))/\((wdZ (whM M (M.map scL)):Int):Rat)=det R (qM M) * ((prZ (M.map scL):Int):Rat):=by
 have l1:(whM M (M.map scL)).length=R:=by unfold whM; simp [t.len]
 have sc:∀ i,i < R->(M.map scL).getD i 0=scL (M.getD i []):=λi hi=>by simp [show i < M.length by rw [t.len]; exact hi]
 have rowm:∀ r ∈ whM M (M.map scL),r.length=R/\∀ x ∈ r,x.natAbs<=2 ^ (v + (1 + R * d)):=λr hr=>by
   unfold whM at hr
   obtain ⟨i,hi,rfl⟩:=EL.mp hr
   rw [EY,t.len] at hi
   have mi:M.getD i [] ∈ M:=cM (by rw [t.len]; exact hi)
   refine ⟨by unfold whR; rw [Ei]; exact t.at_ hi,λx hx=>?_⟩
   unfold whR at hx
   obtain ⟨q,hq',rfl⟩:=EL.mp hx
   rw [sc i hi]
   have:=iG (d:=d) (r:=M.getD i []) λx hx=>(hq _ mi x hx).den
   rw [t.at_ hi] at this
   exact Gy (Dz (hq _ mi q hq') ((mM _).2 q hq') this)
 have bs:∀ s ∈ M.map scL,0 < s/\Bd (1 + R * d) s:=λs hs=>by
   obtain ⟨r,hr,rfl⟩:=EL.mp hs
   have:=iG (d:=d) (r:=r) λx hx=>(hq _ hr x hx).den
   rw [t.row r hr] at this
   exact ⟨(mM r).1,this⟩
 have bp:=qZ (d:=1 + R * d) (r:=M.map scL) λs hs=>(bs s hs).2
 rw [Ei,t.len] at bp
 refine ⟨l1,rowm,yW λs hs=>(bs s hs).1,bp.mono z.b3,?_⟩
 have zb:∀ i < R,∀ j < R,ZB (v + (1 + R * d)) (dtM (whM M (M.map scL)) i j):=λi hi j hj=>by
   have mi:=cM (xs:=whM M (M.map scL)) (d:=[]) (i:=i) (by rw [l1]; exact hi)
   exact ⟨_,rfl,(rowm _ mi).2 _ (cM (by rw [(rowm _ mi).1]; exact hj))⟩
 obtain ⟨w,e1,_⟩:=xF (n:=R) (by have:=t.r7; omega) zb
 have e2:wdZ (whM M (M.map scL))=w:=vn (by rw [l1,e1])
 rw [e2,<- e1]
 have pr:=se (M.map scL) R (by rw [Ei,t.len]; exact Ek _)
 rw [ED (by rw [Ei,t.len]; exact Ek _)] at pr
 rw [pr,Hc,<- lj (n:=R) _ (qM M) R (Ek _)]
 refine aR λi hi j hj=>?_
 rw [if_pos hi]
 have hj':j < (M.getD i []).length:=by rw [t.at_ hi]; exact hj
 unfold dtM
 rw [Bu (by rw [t.len]; exact hi) hj',sc i hi,D5 ((mM _).2 _ (cM hj')),Hc]
 rfl
theorem ChO.bd {m:Int} {ns:List Int} (h:ChO m ns):∀ i,i < ns.length->0<=ns.getD i 0/\ns.getD i 0 < m:=by
 have lo:∀ i,i < ns.length->0<=ns.getD i 0:=λi=>by
   induction i with
   | zero=>exact λ_=>h.lo
   | succ i ih=>exact λhi=>by have:=ih (by omega); have:=h.up i hi; omega
 have hi:∀ d i,i + d + 1=ns.length->ns.getD i 0 < m:=λd=>by
   induction d with
   | zero=>exact λi e=>by have:=h.hi; unfold ke at this; rwa [show ns.length - 1=i by omega] at this
   | succ d ih=>exact λi e=>by have:=ih (i + 1) (by omega); have:=h.up i (by omega); omega
 exact λi hi'=>⟨lo i hi',hi (ns.length - 1 - i) i (by omega)⟩
theorem qP {R C m:Nat} {M:List (List Rat)} {rs cs:List Int} (t:Tq R C M) (hr:ChO R rs) (hc:ChO C cs) (l1:rs.length=m) (l2:cs.length=m) (m7:m<=7):Tq m m (chM M rs cs):=by
 have m1:1<=m:=by
   rcases FQ m with z | z
   · exact absurd (HQ.mp (l1.trans z)) hr.ne
   · exact z
 refine ⟨m1,m7,m1,m7,by unfold chM; rw [Ei,l1],λr hr'=>?_⟩
 unfold chM at hr'
 obtain ⟨x,_,rfl⟩:=EL.mp hr'
 unfold pkL
 rw [Ei,l2]
theorem wL {M:List (List Rat)} {rs cs:List Int} {a b:Nat} (ha:a < rs.length) (hb:b < cs.length):qM (chM M rs cs) a b=qM M (rs.getD a 0).toNat (cs.getD b 0).toNat:=by
 unfold qM chM pkL
 simp [ha,hb]
theorem qk {R C d v:Nat} {M:List (List Rat)} {rs cs:List Int} (t:Tq R C M) (hr:ChO R rs) (hc:ChO C cs) (hq:∀ r ∈ M,∀ x ∈ r,Qs d v x):∀ r ∈ chM M rs cs,∀ x ∈ r,Qs d v x:=λr hr' x hx=>by
 unfold chM at hr'
 obtain ⟨p,hp,rfl⟩:=EL.mp hr'
 unfold pkL at hx
 obtain ⟨q,hq',rfl⟩:=EL.mp hx
 obtain ⟨a,ha,rfl⟩:=Gm hp
 obtain ⟨c,hc',rfl⟩:=Gm hq'
 have b1:=hr.bd a ha
 have b2:=hc.bd c hc'
 have e1:rs.getD a 0=rs[a]:=by simp [ha]
 have e2:cs.getD c 0=cs[c]:=by simp [hc']
 rw [e1] at b1
 rw [e2] at b2
 exact hq _ (cM (by rw [t.len]; omega)) _ (cM (by rw [t.at_ (by omega)]; omega))
noncomputable def mnQ (M:List (List Rat)) (rs cs:List Int):Rat:=det rs.length λa b=>qM M (rs.getD a 0).toNat (cs.getD b 0).toNat
theorem Cg {s:Int} (hs:0 < s) (q:Rat):(s * (q.den:Nat)) / (EO s (q.den:Nat):Int)=scS s q:=by
 unfold scS
 have d1:(EO s (q.den:Nat):Int) ∣ s:=GS ..
 rw [IA s,Int.mul_ediv_assoc _ d1,IA]
noncomputable def kj (ds:List D) (r:Sl):Prop:=∃ (R C d v:Nat) (M:List (List Rat)),ds=[tbQ M]/\Tq R C M/\(∀ r ∈ M,∀ x ∈ r,Qs d v x)/\1 + C * d<=8999/\v + d<=8999/\r=.d (.tup [.lst ((whM M (M.map scL)).map dtR),.int (prZ (M.map scL))])
theorem wU {M:List (List Rat)} {i:Nat} (h:i < M.length):((Eo (i + 1)).map λi=>whR (M.getD i []) (scL (M.getD i [])))=((Eo i).map λi=>whR (M.getD i []) (scL (M.getD i [])))++[whR (M.getD i []) (scL (M.getD i []))]:=by
 rw [Fz,EW]
 rfl
theorem xY (M:List (List Rat)):(Eo M.length).map (λi=>whR (M.getD i []) (scL (M.getD i [])))=whM M (M.map scL):=by
 unfold whM
 refine Fb λi hi=>?_
 have:i < M.length:=EY.mp hi
 simp [this]
noncomputable def lmZ (M:List (List Rat)) (rs cs:List Int):Int:=dtZ (whM (chM M rs cs) ((chM M rs cs).map scL))
noncomputable def lmB (M:List (List Rat)) (rs cs:List Int):Int:=prZ ((chM M rs cs).map scL)
structure Lz (m d v:Nat):Prop where
 z:Bz m d v
 b:m * (v + (1 + m * d) + 3)<=3800
 b':v + (1 + m * d)<=3800
theorem Ce {R C m d v:Nat} {M:List (List Rat)} {rs cs:List Int} (t:Tq R C M) (hr:ChO R rs) (hc:ChO C cs) (l1:rs.length=m) (l2:cs.length=m) (m7:m<=7) (hq:∀ r ∈ M,∀ x ∈ r,Qs d v x) (z:Lz m d v):Dt m (v + (1 + m * d)) (whM (chM M rs cs) ((chM M rs cs).map scL))/\0 < lmB M rs cs/\Bd (1 + m * (1 + m * d)) (lmB M rs cs)/\((lmZ M rs cs:Int):Rat)=mnQ M rs cs * ((lmB M rs cs:Int):Rat)/\Bd 3801 (lmZ M rs cs):=by
 have tq:=qP t hr hc l1 l2 m7
 have qq:=qk t hr hc hq
 obtain ⟨o1,o2,o3,o4,o5⟩:=zL tq qq z.z
 have hD:Dt m (v + (1 + m * d)) (whM (chM M rs cs) ((chM M rs cs).map scL)):=⟨m7,o1,o2,z.b,z.b'⟩
 have e:=hD.ok.2.2
 have ew:dtZ (whM (chM M rs cs) ((chM M rs cs).map scL))=wdZ (whM (chM M rs cs) ((chM M rs cs).map scL)):=(vn (by rw [o1]; exact e)).symm
 have zb:ZB (m * (v + (1 + m * d) + 3)) (det m (dtM (whM (chM M rs cs) ((chM M rs cs).map scL)))):=xF (by omega) λi hi j hj=>by
   have mi:=cM (xs:=whM (chM M rs cs) ((chM M rs cs).map scL)) (d:=[]) (i:=i) (by rw [o1]; exact hi)
   exact ⟨_,rfl,(o2 _ mi).2 _ (cM (by rw [(o2 _ mi).1]; exact hj))⟩
 refine ⟨hD,o3,?_,?_,Dc zb e (by have:=z.b; omega)⟩
 · have:=qZ (d:=1 + m * d) (r:=(chM M rs cs).map scL) λs hs=>by
     obtain ⟨r,hr',rfl⟩:=EL.mp hs
     have:=iG (d:=d) (r:=r) λx hx=>(qq _ hr' x hx).den
     rw [tq.row r hr'] at this
     exact this
   rw [Ei,tq.len] at this
   exact this
 · unfold lmZ lmB
   rw [ew,o5]
   unfold mnQ
   rw [l1,aR λa ha b hb'=>wL (M:=M) (rs:=rs) (cs:=cs) (by omega) (by omega)]
section
variable {P:Program} {w:World} {K:Ej} {mg:Str->Option Value} {base:Heap} {k:Nat} {f:Addr} {fd:FuncData} {qual:Str}
set_option maxHeartbeats 1000000 in
theorem uC (F:Fun K "_law_rows" qual (top 52) f fd) (hb:∀ x ∈ ao,mg x=none) (c_l_divisor:Cal P w K mg base k "_law_divisor" cV):aS P w K mg base CX0 (k + 1) f fd ["_law_table"] (spD K kj):=by
 refine fnD F k9 hb (by rintro _ _ ⟨_,_,_,_,_,rfl,_⟩; rfl) ?_
 rintro _ _ ⟨R,C,d,v,M,rfl,t,hq,z1,z2,rfl⟩ cdv A outer s H E b
 have nd:=k9.nd
 have r7:=t.r7
 have c7:=t.c7
 refine aB 1 nd (bq ag) ?_
 refine aB 2 nd af ?_
 refine bU 3 (g:=λi=>rwQ (M.getD i [])) (λi τ=>i<=M.length/\∃ s3 s4 s5,τ=[.d (tbQ M),.o (((Eo i).map λi=>whR (M.getD i []) (scL (M.getD i []))).map dtR),.d (.int (prZ ((M.map scL).take i))),s3,s4,s5]) b nd (a4 (aa 0)) (ly (f:=rwQ) (xs:=M) []) ⟨Fg _,.un,.un,.un,rfl⟩ (λi hi τ h=>?_) λτ h=>?_
 · obtain ⟨_,s3,s4,s5,rfl⟩:=h
   have hi:i < M.length:=by simpa using hi
   have mi:=cM (xs:=M) (d:=[]) hi
   have hiR:i < R:=by rw [<- t.len]; exact hi
   have hC:=t.at_ hiR
   have qr:=hq _ mi
   rw [wU hi]
   have et:(M.map scL).take (i + 1)=(M.map scL).take i++[scL (M.getD i [])]:=by
     rw [IF,E5,El hi]
     simp [hi]
   rw [et,oK]
   have bpr:Bd (1 + R * 8999) (prZ ((M.map scL).take i)):=(qZ (d:=8999) λx hx=>by
     obtain ⟨r,hr,rfl⟩:=EL.mp (Ge hx)
     have:=iG (d:=d) (r:=r) λx hx=>(hq r hr x hx).den
     rw [t.row r hr] at this
     exact this.mono z1).mono (by
       have:((M.map scL).take i).length<=R:=by rw [E1,Ei,t.len]; omega
       have:=Fd 8999 this
       omega)
   generalize prZ ((M.map scL).take i)=pr at bpr ⊢
   generalize hg:((Eo i).map λi=>whR (M.getD i []) (scL (M.getD i [])))=Gs
   have lGs:Gs.length=i:=by rw [<- hg]; simp
   generalize M.getD i []=row at mi hC qr ⊢
   refine aB 4 nd af ?_
   refine bU 5 (g:=λj=>frD (row.getD j 0)) (λj τ=>j<=row.length/\∃ s5,τ=[.d (tbQ M),.o (Gs.map dtR),.d (.int pr),.d (rwQ row),.d (.int (scL (row.take j))),s5]) b nd (a4 (aa 3)) (ly (f:=frD) (xs:=row) 0) ⟨Fg _,s5,rfl⟩ (λj hj τ h=>?_) λτ h=>?_
   · obtain ⟨_,s5,rfl⟩:=h
     have hj:j < row.length:=by simpa using hj
     have mm:=cM (d:=(0:Rat)) hj
     have hs:=(mM (row.take j)).1
     have bs:Bd (1 + C * d) (scL (row.take j)):=(iG λx hx=>(qr x (Ge hx)).den).mono (by
       have:(row.take j).length * d<=C * d:=Fd _ (by rw [E1]; omega)
       omega)
     have et:row.take (j + 1)=row.take j++[row.getD j 0]:=by rw [IF,El hj]; simp [hj]
     rw [et,wd]
     generalize scL (row.take j)=sc at hs bs ⊢
     generalize row.getD j 0=x at mm ⊢
     have hx:=den_pos x
     have sd:=(qr x mm).den
     have dv:aH (EO sc (x.den:Nat):Int):=(sd.gcd (by omega)).aH (ko (by omega)) (by omega)
     refine aB 4 nd (aC (aC (aa 4) (az (aa 5) af (ar (ak (i:=1) rfl))) (a7 (bs.aJ sd (by omega) (by omega)))) (x_call b c_l_divisor (ae (aa 4) (ae (az (aa 5) af (ar (ak (i:=1) rfl))) ag)) ⟨_,_,rfl,rfl⟩) (bt dv)) (aQ ⟨hj,.d (frD x),?_⟩)
     rw [fI,Cg hs]
     rfl
   · obtain ⟨_,s5,rfl⟩:=h
     rw [Ei,HZ]
     have br:=iG (d:=d) (r:=row) λx hx=>(qr x hx).den
     rw [hC] at br
     refine lD 1 (x:=dtR (whR row (scL row))) (a8 (du (cmp 0 (g:=λj=>frD (row.getD j 0)) (f:=λj=>.int ((row.getD j 0).num * ((scL row).fdiv ((row.getD j 0).den:Nat)))) b (a4 (aa 3)) (ly (f:=frD) (xs:=row) 0) (by rw [Ei]; omega) λj hj s0 H0 fp=>?_)) ?hx) ?_ ?_
     · have sq:=(qr _ (cM (d:=(0:Rat)) (show j < row.length by simpa using hj))).sq
       generalize row.getD j 0=x at sq ⊢
       have hx:=den_pos x
       have e:(scL row).fdiv (x.den:Nat)=scL row / (x.den:Nat):=F7 _ (by omega)
       exact aC (az (aa 0) af (ar (ak (i:=0) rfl))) (aC (aa 1) (az (aa 0) af (ar (ak (i:=1) rfl))) (bt (sq.den.aH (by omega) (by omega)))) (a7 (by rw [e]; exact sq.num.aJ (br.ediv _) (by omega) (by omega)))
     case hx=>
       refine congrArg (λl=>some (D.lst l)) ((mF (λx:Rat=>D.int (x.num * ((scL row).fdiv (x.den:Nat)))) row 0 (Ei ..)).trans ?_)
       unfold whR
       rw [EU]
       refine Fb λx _=>?_
       simp only [Gv]
       rw [F7 _ (by have:=den_pos x; omega)]
     · rw [Ei,lGs]; omega
     · refine aB 2 nd (aC (aa 2) (aa 4) (a7 (bpr.aJ br (by omega) (by omega)))) (aQ ⟨hi,.d (rwQ row),.d (.int (scL row)),s5,?_⟩)
       rw [EW]
       rfl
 · obtain ⟨_,s3,s4,s5,rfl⟩:=h
   rw [Ei,xY,ED (by rw [Ei]; exact Ek _)]
   exact aL (cC (ae (wV 1) (ae (aa 2) ag))) rfl
end
end K26
namespace K26
open PySem PySem.Spec PyProof.Rows L2 Hy
open Ev (D Den ax aJ aH)
open Lc (di gy)
noncomputable def wfR (ss:List Stp) (f:List (List Int)):Rat:=pR (f.map λw=>wgK ss w ss.length)
noncomputable def nR (ds:List D) (r:Sl):Prop:=∃ (T R C m e:Nat) (ss:List Stp) (ns ms:List Int),ds=[cw T R C ss,.lst (ns.map .int),.lst (ms.map .int)]/\okL T R C ss/\Rs R m ns/\Rs C m ms/\1<=m/\m<=7/\ss.length<=9/\(∀ k,k < ss.length->Wq e (stp ss k).2.2)/\e * ss.length * m<=1200/\e<=140/\r=.d (frD (det m (lgR (bwd ss) ns ms)))
theorem xS {T:Nat} {ms ns:List Int} {ss:List Stp} (h9:ss.length<=9):nZ (cm T ms ss) ns<=512:=by
 have h1:=zJ T ms ss ns
 have h2:ir ss<=9:=EH (oS ss) h9
 have h3:(2:Nat) ^ ir ss<=2 ^ 9:=E8 (by decide) h2
 have h4:((2 ^ ir ss:Nat):Int)<=((2 ^ 9:Nat):Int):=Jq.mpr h3
 have e:((2 ^ ir ss:Nat):Int)=2 ^ ir ss:=by simp
 have:((2 ^ 9:Nat):Int)=512:=by decide
 omega
section
variable {P:Program} {w:World} {K:Ej} {mg:Str->Option Value} {base:Heap} {k:Nat} {f:Addr} {fd:FuncData} {qual:Str}
theorem xv (F:Fun K "_law_sum" qual (top 66) f fd) (hb:∀ x ∈ ao,mg x=none) (c_families:∀ fs,qO P w K mg base k "families" (gu fs)) (c_l_good_family:Cal P w K mg base k "_law_good_family" cn) (c_l_way_weight:Cal P w K mg base k "_law_way_weight" cQ) (c_l_times:Cal P w K mg base k "_law_times" fQ) (c_l_plus:Cal P w K mg base k "_law_plus" j4):aS P w K mg base CX0 (k + 1) f fd ["_law_ladder_here","_law_rows_here","_law_columns"] (spD K nR):=by
 refine fnD F pF hb (by rintro _ _ ⟨_,_,_,_,_,_,_,_,rfl,_⟩; rfl) ?_
 rintro _ _ ⟨T,R,C,m,e,ss,ns,ms,rfl,ok,hr,hc,m1,m7,h9,hq,hz,he,rfl⟩ cdv A outer s H E b
 have nd:=pF.nd
 have hst:∀ s ∈ ss,okS T s:=ok.mem
 have rn:=hr.up2 ok.rT
 have rm:=hc.up2 ok.cT
 have ln:=hr.len
 have lm:=hc.len
 have few:=xS (T:=T) (ms:=ms) (ns:=ns) h9
 have wsum:=yL hst rn rm
 have iff:=xR hst rn rm
 have tc:((jb T ms ns ss).length:Int)<=512:=by
   have:=vU T ms ns ss
   unfold jb
   rw [Ei]
   omega
 have sqw:∀ k,k < ss.length->Sq e (stp ss k).2.2:=λk hk=>(hq k hk).sq
 have e9:e * ss.length<=1200:=EH (J5 _ m1) hz
 obtain ⟨dp,dl⟩:=qw hq ss.length (Ek _)
 obtain ⟨pp,pl⟩:=qd dp dl m
 have zq:∀ wy,Zq (dnP ss ss.length) (e * ss.length) (wgK ss wy ss.length):=λwy=>w4 hq wy ss.length (Ek _)
 have zf:∀ f,f.length=m->Zq (pwI (dnP ss ss.length) m) (e * ss.length * m) (wfR ss f):=λf hf=>wm m _ (by rw [Ei]; exact hf) λx hx=>by
   obtain ⟨wy,_,rfl⟩:=EL.mp hx
   exact zq wy
 refine aB 3 nd (cC (ae af (ae af ag))) ?_
 refine Bc 4 (Θ:=λxs=>∃ L:List (List (List Int)),L.Perm (jb T ms ns ss)/\xs=L.map di) (λxs l τ=>∃ (L:List (List (List Int))) (s4 s5 s6:Sl),L.Perm (jb T ms ns ss)/\xs=L.map di/\τ=[.d (cw T R C ss),.d (.lst (ns.map .int)),.d (.lst (ms.map .int)),.d (frD (sR ((L.take l).map (wfR ss)))),s4,s5,s6]) b nd (yC (yv b (c_families (jb T ms ns ss)) (ae (aa 0) (ae (aa 1) (ae (aa 2) ag))) ⟨_,⟨T,R,C,ss,ns,ms,rfl,ok,hr.cho m1 m7,hc.cho m1 m7,by omega,by omega,by omega,rfl⟩,_,.refl _,rfl⟩) (λs ⟨_,gs,pm,e⟩=>⟨_,e,gs,pm,rfl⟩)) (λxs ⟨L,pm,e⟩=>⟨L,.un,.un,.un,pm,e,rfl⟩) (λxs _ l hl τ h=>?_) λxs _ τ h=>?_
 · obtain ⟨L,s4,s5,s6,prm,rfl,rfl⟩:=h
   have hl:l < L.length:=by simpa using hl
   have fo:∀ f ∈ L,FO ss ns ms f:=λf hf=>(iff f).mp (prm.mem_iff.mp hf)
   have sl:=prm.length_eq
   have part:∀ l,l<=L.length->Sq 2000 (sR ((L.take l).map (wfR ss))):=λl hl=>by
     have h1:=xD (P:=pwI (dnP ss ss.length) m) (n:=e * ss.length * m) l ((L.take l).map (wfR ss)) (by rw [Ei,E1]; omega) (λx hx=>by
       obtain ⟨f,hf,rfl⟩:=EL.mp hx
       exact zf f (by rw [(fo f (Ge hf)).len,ln]))
     exact (h1.sq pp pl (by omega)).mono (by omega)
   have eg:(L.map di).getD l .non=tbD (L.getD l []):=by simp [hl]; rfl
   rw [eg]
   have tk:L.take (l + 1)=L.take l++[L.getD l []]:=take_snoc [] hl
   have o:=fo _ (cM (xs:=L) (d:=[]) hl)
   have pl:=part l (by omega)
   generalize L.getD l []=fm at tk o ⊢
   have fl:=o.len
   have sqf:∀ a,a<=m->Sq 1201 (pR ((fm.take a).map λw=>wgK ss w ss.length)):=λa ha=>by
     obtain ⟨pp,pl⟩:=qd dp dl a
     have h1:=wm (P:=dnP ss ss.length) (e:=e * ss.length) a ((fm.take a).map λw=>wgK ss w ss.length) (by rw [Ei,E1]; omega) (λx hx=>by obtain ⟨wy,_,rfl⟩:=EL.mp hx; exact zq wy)
     have:=Hs (e * ss.length) ha
     exact (h1.sq pp pl (Ek _)).mono (by omega)
   refine bO (bx (bj (x_call b c_l_good_family (ae (aa 0) (ae (aa 4) (ae (aa 1) (ae (aa 2) ag)))) ⟨T,R,C,ss,ns,ms,fm,rfl,by omega,by omega,by omega,o,rfl⟩))) rfl ?_
   refine aB 5 nd (cC (ae af (ae af ag))) ?_
   refine bU 6 (g:=λa=>rwD (fm.getD a [])) (λa τ=>∃ s6,τ=[.d (cw T R C ss),.d (.lst (ns.map .int)),.d (.lst (ms.map .int)),.d (frD (sR ((L.take l).map (wfR ss)))),.d (tbD fm),.d (frD (pR ((fm.take a).map λw=>wgK ss w ss.length))),s6]) b nd (a4 (aa 4)) (ly (f:=rwD) (xs:=fm) []) ⟨s6,rfl⟩ (λa ha τ h=>?_) λτ h=>?_
   · obtain ⟨s6,rfl⟩:=h
     have ha:a < fm.length:=by simpa using ha
     have tk2:fm.take (a + 1)=fm.take a++[fm.getD a []]:=take_snoc [] ha
     have wo:=o.wy a (by omega)
     have sa:=sqf a (by omega)
     have sw:Sq 1201 (wgK ss (fm.getD a []) ss.length):=((zq (fm.getD a [])).sq dp dl (Ek _)).mono (by omega)
     generalize fm.getD a []=wy at tk2 wo sw ⊢
     have wl:=uV wo ss.length (Ek _)
     have lb:ss.length * e<=1200:=by rw [Nat.mul_comm]; exact e9
     refine aB 5 nd (x_call b c_l_times (ae (aa 5) (ae (x_call b c_l_way_weight (ae (aa 0) (ae (aa 6) ag)) ⟨T,R,C,e,ss,wy,rfl,wo.len,sqw,by omega,by omega,rfl⟩) ag)) ⟨_,_,_,_,rfl,sa,wl ▸ sw,by omega,rfl⟩) (aQ ⟨.d (rwD wy),?_⟩)
     rw [tk2,EW,IY,rJ,wl]
     rfl
   · obtain ⟨s6,rfl⟩:=h
     rw [Ei,HZ]
     have sm:=sqf m (Ek _)
     rw [ED (by omega)] at sm
     refine aB 3 nd (x_call b c_l_plus (ae (aa 3) (ae (aa 5) ag)) ⟨_,_,_,_,rfl,pl,sm,by omega,rfl⟩) (aQ ⟨L,.d (tbD fm),.d (frD (wfR ss fm)),s6,prm,rfl,?_⟩)
     rw [tk,EW,IY,x6]
     rfl
 · obtain ⟨L,s4,s5,s6,prm,rfl,rfl⟩:=h
   refine aL (aa 3) ?_
   have tot:sR (L.map (wfR ss))=det m (lgR (bwd ss) ns ms):=(y7 (prm.map (wfR ss))).trans wsum
   rw [Ei,HZ,tot]
end
end K26
namespace K26
open PySem PySem.Spec PyProof.Rows L2 Hy
open Ev (D Den ax aJ aH)
noncomputable def jh (ds:List D) (r:Sl):Prop:=∃ n:Nat,ds=[.int n]/\n<=1000/\r=.d (.int (10 ^ n))
noncomputable def wgT (p:Int) (g:Nat):Int:=if 0 < g then p.fmod (10 ^ g) else p.fmod 7
noncomputable def wgB (p:Int) (g:Nat):Int:=if 0 < g then 1 + (p.fdiv (10 ^ g)).fmod (10 ^ g - 1) else 1 + (p.fdiv 7).fmod 4
noncomputable def wgt (p:Int) (g:Nat):Rat:=(wgT p g:Rat) / (wgB p g:Rat)
noncomputable def gj (ds:List D) (r:Sl):Prop:=∃ (p:Int) (g:Nat),ds=[.int p,.int g]/\g<=40/\r=.d (frD (wgt p g))
theorem fm {a b:Int} (h:0 < b):0<=a.fmod b/\a.fmod b < b:=⟨Ih a h,Jd a h⟩
theorem xq {g:Nat} (h:g<=40):(10:Int) ^ g < 2 ^ 140:=by
 have h1:(10:Nat) ^ g<=10 ^ 40:=E8 (by decide) h
 have h2:(10:Nat) ^ 40 < 2 ^ 140:=by decide
 have:((10 ^ g:Nat):Int) < ((2 ^ 140:Nat):Int):=Int.ofNat_lt.mpr (EV h1 h2)
 simpa using this
theorem sZ {g:Nat} (h:0 < g):(10:Int)<=10 ^ g:=by
 have h1:(10:Nat) ^ 1<=10 ^ g:=E8 (by decide) h
 have:((10 ^ 1:Nat):Int)<=((10 ^ g:Nat):Int):=Jq.mpr h1
 simpa using this
theorem pT {x:Int} (h0:0<=x) (h:x < 2 ^ 140):Bd 140 x:=by
 unfold Bd
 have:(x.natAbs:Int) < ((2 ^ 140:Nat):Int):=by rw [Int.natAbs_of_nonneg h0]; simpa using h
 exact Int.ofNat_lt.mp this
theorem sW (p:Int) {g:Nat} (h:g<=40):0<=wgT p g/\Bd 140 (wgT p g)/\0 < wgB p g/\Bd 140 (wgB p g):=by
 unfold wgT wgB
 by_cases h0:0 < g
 · have h1:=xq h
   have h2:=sZ h0
   have f1:=fm (a:=p) (b:=10 ^ g) (by omega)
   have f2:=fm (a:=p.fdiv (10 ^ g)) (b:=10 ^ g - 1) (by omega)
   rw [if_pos h0,if_pos h0]
   exact ⟨f1.1,pT f1.1 (by omega),by omega,pT (by omega) (by omega)⟩
 · have f1:=fm (a:=p) (b:=7) (by decide)
   have f2:=fm (a:=p.fdiv 7) (b:=4) (by decide)
   rw [if_neg h0,if_neg h0]
   exact ⟨f1.1,pT f1.1 (by omega),by omega,pT (by omega) (by omega)⟩
theorem js (p:Int) {g:Nat} (h:g<=40):(wgT p g:Rat)=wgt p g * (wgB p g:Rat):=(Rat.div_mul_cancel (mz (sW p h).2.2.1)).symm
theorem nE (p:Int) {g:Nat} (h:g<=40):0<=(wgt p g).num/\Sq 140 (wgt p g):=by
 obtain ⟨h1,h2,h3,h4⟩:=sW p h
 refine ⟨?_,Sq.cH h3 (js p h) h2 h4⟩
 rw [(cH h3 (js p h)).1]
 exact Int.ediv_nonneg h1 (F9 _)
noncomputable def szP (m:Nat) (c:Int):List Int:=nums c [8,4,7,7,7,(m:Int) + 1]
noncomputable def szT (m:Nat) (c:Int):Int:=if (szP m c).getD 0 0=1 then 1 + (szP m c).getD 2 0 else 1 + (szP m c).getD 1 0
noncomputable def szR (m:Nat) (c:Int):Int:=1 + ((szP m c).getD 3 0).fmod (szT m c)
noncomputable def szC (m:Nat) (c:Int):Int:=1 + ((szP m c).getD 4 0).fmod (szT m c)
theorem wk (m:Nat) (c:Int):1<=szT m c/\szT m c<=7/\1<=szR m c/\szR m c<=szT m c/\1<=szC m c/\szC m c<=szT m c/\0<=(szP m c).getD 5 0/\(szP m c).getD 5 0<=m:=by
 have hp:∀ b ∈ ([8,4,7,7,7,(m:Int) + 1]:List Int),0 < b:=by intro b hb; simp at hb; omega
 have h1:=fU (c:=c) hp (i:=1) (by simp)
 have h2:=fU (c:=c) hp (i:=2) (by simp)
 have h5:=fU (c:=c) hp (i:=5) (by simp)
 have e1:([8,4,7,7,7,(m:Int) + 1]:List Int).getD 1 0=4:=rfl
 have e2:([8,4,7,7,7,(m:Int) + 1]:List Int).getD 2 0=7:=rfl
 have e5:([8,4,7,7,7,(m:Int) + 1]:List Int).getD 5 0=(m:Int) + 1:=rfl
 rw [e1] at h1
 rw [e2] at h2
 rw [e5] at h5
 have hT:1<=szT m c/\szT m c<=7:=by
   unfold szT szP
   split <;> omega
 have hR:=fm (a:=(szP m c).getD 3 0) (b:=szT m c) (by omega)
 have hC:=fm (a:=(szP m c).getD 4 0) (b:=szT m c) (by omega)
 have h5':0<=(szP m c).getD 5 0/\(szP m c).getD 5 0 < (m:Int) + 1:=h5
 unfold szR szC
 omega
noncomputable def iR (ds:List D) (r:Sl):Prop:=∃ (m:Nat) (c:Int),ds=[.int c,.int m]/\m<=100/\r=.d (.tup [.int (szT m c),.int (szR m c),.int (szC m c),.int ((szP m c).getD 5 0)])
noncomputable def wrd (i:Int):Str:=if i=0 then "down" else if i=1 then "up" else "weigh"
theorem Bt {i:Int} (h0:0<=i) (h:i < 3):atI [D.str "down",D.str "up",D.str "weigh"] i=some (.str (wrd i)):=by
 obtain ⟨n,rfl⟩:=FY h0
 rcases (by omega:n=0\/n=1\/n=2) with rfl | rfl | rfl <;> rfl
theorem jk {α:Type} (a b c:α):∀ n,(ER n [a,b,c]).flatten.length=3 * n
 | 0=>rfl
 | n + 1=>by rw [Fo,FH,EC,jk a b c n]; simp; omega
theorem tm {a b c:Int} {n:Nat} {x:Int} (h:x ∈ (ER n [a,b,c]).flatten):x=a\/x=b\/x=c:=by
 obtain ⟨l,h1,h2⟩:=List.mem_flatten.mp h
 rw [(List.mem_replicate.mp h1).2] at h2
 simpa using h2
theorem vy {a b c:Int}:∀ (n k:Nat),k < n->(ER n [a,b,c]).flatten.getD (3 * k) 0=a/\(ER n [a,b,c]).flatten.getD (3 * k + 1) 0=b/\(ER n [a,b,c]).flatten.getD (3 * k + 2) 0=c
 | n + 1,0,_=>by rw [Fo,FH]; exact ⟨rfl,rfl,rfl⟩
 | n + 1,k + 1,h=>by
   have:=vy (a:=a) (b:=b) (c:=c) n k (by omega)
   rw [Fo,FH]
   exact this
theorem yG (a b c:Int) (n:Nat):(ER n [D.int a,D.int b,D.int c]).flatten=((ER n [a,b,c]).flatten).map .int:=by
 rw [List.map_flatten,List.map_replicate]; rfl
noncomputable def adB (g:Nat):Int:=10 ^ (2 * (if (g:Int) > 1 then (g:Int) else 1).toNat) * 28
noncomputable def adP (c:Int) (n g:Nat):List Int:=nums c (ER n [3,7,adB g]).flatten
noncomputable def adW (ps:List Int) (T k:Nat):Str:=if wrd (ps.getD (3 * k) 0) ≠ "weigh" /\ T=1 then "weigh" else wrd (ps.getD (3 * k) 0)
noncomputable def adA (ps:List Int) (T k:Nat):Int:=if adW ps T k = "weigh" then (ps.getD (3 * k + 1) 0).fmod T else (ps.getD (3 * k + 1) 0).fmod ((T:Int) - 1)
noncomputable def adS (ps:List Int) (T g k:Nat):Stp:=(adW ps T k,(adA ps T k).toNat,wgt (ps.getD (3 * k + 2) 0) g)
theorem zA {g:Nat} (h:g<=40):0 < adB g/\aH (adB g):=by
 unfold adB
 have hk:(2 * (if (g:Int) > 1 then (g:Int) else 1).toNat)<=80:=by split <;> omega
 generalize (2 * (if (g:Int) > 1 then (g:Int) else 1).toNat)=k at hk
 have h1:(10:Nat) ^ k<=10 ^ 80:=E8 (by decide) hk
 have h2:0 < (10:Nat) ^ k:=Nat.pow_pos (by decide)
 have e:(10:Int) ^ k * 28=((10 ^ k * 28:Nat):Int):=by simp
 rw [e]
 have h3:Bd 300 ((10 ^ k * 28:Nat):Int):=by
   unfold Bd
   rw [HE]
   exact EV (Fd 28 h1) (by decide)
 exact ⟨by omega,h3.aH (by omega) (by decide)⟩
theorem C8 {c:Int} {n g k:Nat} (h:g<=40) (hk:k < n):0<=(adP c n g).getD (3 * k) 0/\(adP c n g).getD (3 * k) 0 < 3:=by
 have hp:∀ b ∈ (ER n [3,7,adB g]).flatten,0 < b:=λb hb=>by
   have:=zA h
   rcases tm hb with rfl | rfl | rfl <;> omega
 have:=fU (c:=c) hp (i:=3 * k) (by rw [jk]; omega)
 rw [(vy n k hk).1] at this
 exact this
theorem wB {ps:List Int} {T k:Nat} (hT:1<=T):0<=adA ps T k/\(adW ps T k = "weigh" -> adA ps T k < T)/\(adW ps T k ≠ "weigh" -> 2<=T/\adA ps T k + 1 < T):=by
 unfold adA
 split
 · rename_i h
   have:=fm (a:=ps.getD (3 * k + 1) 0) (b:=T) (by omega)
   exact ⟨this.1,λ_=>this.2,λz=>absurd h z⟩
 · rename_i h
   have hT1:T ≠ 1:=λz=>h (by
     unfold adW
     split
     · rfl
     · rename_i y
       exact Decidable.byContradiction λx=>y ⟨x,z⟩)
   have:=fm (a:=ps.getD (3 * k + 1) 0) (b:=(T:Int) - 1) (by omega)
   exact ⟨this.1,λz=>absurd z h,λ_=>by omega⟩
theorem Aw (i:Int):wrd i = "weigh" \/ wrd i = "down" \/ wrd i = "up":=by
 unfold wrd
 split
 · exact .inr (.inl rfl)
 · split
   · exact .inr (.inr rfl)
   · exact .inl rfl
theorem ql {ps:List Int} {T g k:Nat} (hT:1<=T) (hg:g<=40):okS T (adS ps T g k)/\Sq 140 (adS ps T g k).2.2:=by
 obtain ⟨h1,h2,h3⟩:=wB (ps:=ps) (k:=k) hT
 have hw:=nE (ps.getD (3 * k + 2) 0) hg
 refine ⟨⟨hw.1,?_⟩,hw.2⟩
 by_cases e:adW ps T k = "weigh"
 · exact .inl ⟨e,by have:=h2 e; show (adA ps T k).toNat < T; omega⟩
 · refine .inr ⟨?_,by have:=h3 e; show (adA ps T k).toNat + 1 < T; omega⟩
   show adW ps T k = "down" \/ adW ps T k = "up"
   unfold adW at e ⊢
   split at e
   · exact absurd rfl e
   · rename_i y
     rw [if_neg y]
     exact (Aw _).resolve_left e
noncomputable def eI (ds:List D) (r:Sl):Prop:=∃ (c:Int) (T R C n g:Nat),ds=[.int c,.int T,.int R,.int C,.int n,.int g]/\1<=T/\n<=40/\g<=40/\r=.d (cw T R C ((Eo n).map (adS (adP c n g) T g)))
theorem ky {α:Type} (f:Nat->α) {n i:Nat} (h:i < n) (d:α):((Eo n).map f).getD i d=f i:=by simp [h]
noncomputable def drT (m:Nat) (c:Int):Nat:=(szT m c).toNat
noncomputable def drR (m:Nat) (c:Int):Nat:=(szR m c).toNat
noncomputable def drC (m:Nat) (c:Int):Nat:=(szC m c).toNat
noncomputable def drS (m:Nat) (c o:Int) (g:Nat):List Stp:=(Eo ((szP m c).getD 5 0).toNat).map (adS (adP o ((szP m c).getD 5 0).toNat g) (drT m c) g)
noncomputable def ie (ds:List D) (r:Sl):Prop:=∃ (m:Nat) (c o:Int) (g:Nat),ds=[.int c,.int o,.int m,.int g]/\g<=40/\m<=40/\r=.d (cw (drT m c) (drR m c) (drC m c) (drS m c o g))
theorem Di {m:Nat} (c o:Int) {g:Nat} (hg:g<=40) (hm:m<=40):okL (drT m c) (drR m c) (drC m c) (drS m c o g)/\(∀ i,i < (drS m c o g).length->Sq 140 ((drS m c o g).getD i ("weigh",0,0)).2.2)/\(drS m c o g).length<=m:=by
 obtain ⟨h1,h2,h3,h4,h5,h6,h7,h8⟩:=wk m c
 have hl:(drS m c o g).length=((szP m c).getD 5 0).toNat:=by simp [drS]
 have ha:∀ i,i < (drS m c o g).length->(drS m c o g).getD i ("weigh",0,0)=adS (adP o ((szP m c).getD 5 0).toNat g) (drT m c) g i:=λi hi=>by
   rw [hl] at hi
   exact ky _ hi _
 have hT:1<=drT m c:=by unfold drT; omega
 refine ⟨⟨hT,?_,?_,?_,?_,?_,?_,λi hi=>?_⟩,λi hi=>?_,by omega⟩
 · unfold drT; omega
 · unfold drR; omega
 · unfold drT drR; omega
 · unfold drC; omega
 · unfold drT drC; omega
 · omega
 · rw [ha i hi]; exact (ql hT hg).1
 · rw [ha i hi]; exact (ql hT hg).2
noncomputable def enM (R C:Nat):Int:=if (C:Int) < (R:Int) then (C:Int) else (R:Int)
noncomputable def enP (c:Int) (R C:Nat):List Int:=nums c [enM R C,10 ^ 9,10 ^ 9]
noncomputable def enS (c:Int) (R C:Nat):Nat:=(1 + (enP c R C).getD 0 0).toNat
noncomputable def enR (c:Int) (R C:Nat):List Int:=chC ((enP c R C).getD 1 0) R (enS c R C)
noncomputable def enC (c:Int) (R C:Nat):List Int:=chC ((enP c R C).getD 2 0) C (enS c R C)
theorem wC {R C:Nat} (hR:1<=R) (hC:1<=C) (h7:R<=7) (c7:C<=7):0 < enM R C/\enM R C<=R/\enM R C<=C:=by
 unfold enM
 split <;> omega
theorem vC {R C:Nat} (hR:1<=R) (hC:1<=C) (h7:R<=7) (c7:C<=7) (c:Int):1 + (enP c R C).getD 0 0=(enS c R C:Nat)/\1<=enS c R C/\enS c R C<=R/\enS c R C<=C:=by
 obtain ⟨h1,h2,h3⟩:=wC hR hC h7 c7
 have hp:∀ b ∈ ([enM R C,10 ^ 9,10 ^ 9]:List Int),0 < b:=by
   intro b hb
   simp only [EE,FR,or_false] at hb
   rcases hb with rfl | rfl | rfl
   · exact h1
   · decide
   · decide
 have h:0<=(enP c R C).getD 0 0/\(enP c R C).getD 0 0 < enM R C:=fU (c:=c) hp (i:=0) (by simp)
 unfold enS
 omega
theorem C6 {R C:Nat} (hR:1<=R) (hC:1<=C) (h7:R<=7) (c7:C<=7) (c:Int):Rs R (enS c R C) (enR c R C)/\Rs C (enS c R C) (enC c R C):=by
 obtain ⟨_,_,h2,h3⟩:=vC hR hC h7 c7 c
 have g:∀ (x:Int) (m s:Nat),s<=m->Rs m s (chC x m s):=λx m s h=>⟨nu ..,BJ h,λa ha=>by
   refine (rY (c:=x) h).2 _ ?_
   have:a < (chC x m s).length:=by rw [nu]; exact ha
   simp [this]⟩
 exact ⟨g _ _ _ h2,g _ _ _ h3⟩
noncomputable def kf (ds:List D) (r:Sl):Prop:=∃ (c:Int) (T R C:Nat) (ss:List Stp),ds=[.int c,cw T R C ss]/\okL T R C ss/\r=.d (.tup [.lst ((enR c R C).map .int),.lst ((enC c R C).map .int)])
section
variable {P:Program} {w:World} {K:Ej} {mg:Str->Option Value} {base:Heap} {k:Nat} {f:Addr} {fd:FuncData} {qual:Str}
theorem ve (F:Fun K "_law_ten" qual (top 47) f fd) (hb:∀ x ∈ ao,mg x=none):aS P w K mg base CX0 (k + 1) f fd ["_law_many"] (spD K jh):=by
 refine fnD F pP hb (by rintro _ _ ⟨_,rfl,_⟩; rfl) ?_
 rintro _ _ ⟨n,rfl,hn,rfl⟩ cdv A outer s H E b
 have nd:=pP.nd
 refine aB 1 nd af ?_
 refine bU 2 (λi τ=>∃ s2,τ=[.d (.int n),.d (.int (10 ^ i)),s2]) b nd (iV b (aa 0) (by omega) (by omega)) i0 ⟨_,rfl⟩ (λi hi τ h=>?_) λτ h=>?_
 · obtain ⟨s2,rfl⟩:=h
   refine aB 1 nd (aC af (aa 1) (a7 (mkL (by decide)))) (aQ ⟨.d (.int (i:Nat)),?_⟩)
   rw [Int.pow_succ,IA]
   rfl
 · obtain ⟨s2,rfl⟩:=h
   refine aL (aa 1) ?_
   rw [aO,Ey]
theorem oe (F:Fun K "_law_weight" qual (top 54) f fd) (hb:∀ x ∈ ao,mg x=none) (c_l_made:Cal P w K mg base k "_law_made" fD) (c_l_ten:Cal P w K mg base k "_law_ten" jh):aS P w K mg base CX0 (k + 1) f fd ["_law_part","_law_figures"] (spD K gj):=by
 refine fnD F iU hb (by rintro _ _ ⟨_,_,rfl,_⟩; rfl) ?_
 rintro _ _ ⟨p,g,rfl,hg,rfl⟩ cdv A outer s H E b
 have nd:=iU.nd
 obtain ⟨h1,h2,h3,h4⟩:=sW p hg
 have hm:=js p hg
 refine cY (aN (aa 1) af mr) (λh=>?_) λh=>?_
 · have h0:0 < g:=by have:=of_decide_eq_true h; omega
   have t2:=sZ h0
   have eT:wgT p g=p.fmod (10 ^ g):=if_pos h0
   have eB:wgB p g=1 + (p.fdiv (10 ^ g)).fmod (10 ^ g - 1):=if_pos h0
   have dv:aH ((10:Int) ^ g):=(pT (by omega) (xq hg)).aH (by omega) (by decide)
   refine aB 2 nd (x_call b c_l_ten (ae (aa 1) ag) ⟨g,rfl,by omega,rfl⟩) ?_
   exact aL (x_call b c_l_made (ae (aC (aa 0) (aa 2) (cb (by omega))) (ae (aC af (aC (aC (aa 0) (aa 2) (bt dv)) (aC (aa 2) af i3) (cb (by omega))) a5) ag)) ⟨wgT p g,wgB p g,wgt p g,by rw [eT,eB],h3,h4.mono (by decide),hm,rfl⟩) rfl
 · have h0:g=0:=by have:=of_decide_eq_false h; omega
   subst h0
   exact aL (x_call b c_l_made (ae (aC (aa 0) af (cb (by decide))) (ae (aC af (aC (aC (aa 0) af (bt (mkD (by decide) (by decide)))) af (cb (by decide))) a5) ag)) ⟨wgT p 0,wgB p 0,wgt p 0,rfl,h3,h4.mono (by decide),hm,rfl⟩) rfl
theorem qt (F:Fun K "_law_sizes" qual (top 58) f fd) (hb:∀ x ∈ ao,mg x=none) (c_l_numbers:Cal P w K mg base k "_law_numbers" bN):aS P w K mg base CX0 (k + 1) f fd ["_law_cell_here","_law_most"] (spD K iR):=by
 refine fnD F kg hb (by rintro _ _ ⟨_,_,rfl,_⟩; rfl) ?_
 rintro _ _ ⟨m,c,rfl,hm,rfl⟩ cdv A outer s H E b
 have nd:=kg.nd
 have hok:=wk m c
 have hl:(szP m c).length=6:=gF ..
 refine aB 2 nd (x_call b c_l_numbers (ae (aa 0) (ae (a8 (bq (ae af (ae af (ae af (ae af (ae af (ae (aC (aa 1) af a5) ag)))))))) ag)) ⟨c,[8,4,7,7,7,(m:Int) + 1],rfl,by simp,λb hb=>qG (by simp at hb; omega) (by simp at hb; omega),rfl⟩) (yM 2 ?_)
 refine aB 3 nd (aC af (az (aa 2) af (aW (aZ (ns:=szP m c) (i:=1) (by decide) (by rw [hl]; decide)))) a5) ?_
 refine jv (M:=λτ=>τ=[.d (.int c),.d (.int m),.d (.lst ((szP m c).map .int)),.d (.int (szT m c))]) (aN (az (aa 2) af (aW (aZ (ns:=szP m c) (i:=0) (by decide) (by rw [hl]; decide)))) af fW) (λh=>?_) (λh=>?_) ?_
 · refine aB 3 nd (aC af (az (aa 2) af (aW (aZ (ns:=szP m c) (i:=2) (by decide) (by rw [hl]; decide)))) a5) (aQ ?_)
   unfold szT
   rw [if_pos (show (szP m c).getD 0 0=1 from of_decide_eq_true h)]
   rfl
 · refine aQ ?_
   unfold szT
   rw [if_neg (show ¬ (szP m c).getD 0 0=1 from of_decide_eq_false h)]
   rfl
 · rintro _ rfl
   exact aL (cC (ae (aa 3) (ae (aC af (aC (az (aa 2) af (aW (aZ (ns:=szP m c) (i:=3) (by decide) (by rw [hl]; decide)))) (aa 3) (cb (by omega))) a5) (ae (aC af (aC (az (aa 2) af (aW (aZ (ns:=szP m c) (i:=4) (by decide) (by rw [hl]; decide)))) (aa 3) (cb (by omega))) a5) (ae (az (aa 2) af (aW (aZ (ns:=szP m c) (i:=5) (by decide) (by rw [hl]; decide)))) ag))))) rfl
theorem pN (F:Fun K "_law_ladder" qual (top 55) f fd) (hb:∀ x ∈ ao,mg x=none) (c_l_numbers:Cal P w K mg base k "_law_numbers" bN) (c_l_weight:Cal P w K mg base k "_law_weight" gj) (c_l_ten:Cal P w K mg base k "_law_ten" jh):aS P w K mg base CX0 (k + 1) f fd ["_law_cell_here","_law_tracks","_law_rows_here","_law_columns","_law_many","_law_figures"] (spD K eI):=by
 refine fnD F iT hb (by rintro _ _ ⟨_,_,_,_,_,_,rfl,_⟩; rfl) ?_
 rintro _ _ ⟨c,T,R,C,n,g,rfl,hT,hn,hg,rfl⟩ cdv A outer s H E b
 have nd:=iT.nd
 have hmx:0<=(if (g:Int) > 1 then (g:Int) else 1)/\(if (g:Int) > 1 then (g:Int) else 1)<=40:=by split <;> omega
 have hB:=zA hg
 have hlen:(adP c n g).length=3 * n:=by unfold adP; rw [gF,jk]
 refine aB 6 nd (x_call b c_l_numbers (ae (aa 0) (ae (a8 (Cf (a8 (bq (ae af (ae af (ae (aC (x_call b c_l_ten (ae (aC af (bK b (ae af (ae (aa 5) ag)) (Dj b.calm)) (a7 (mkL (by decide)))) ag) ⟨2 * (if (g:Int) > 1 then (g:Int) else 1).toNat,?_,by omega,rfl⟩) af (a7 (mkR (by decide)))) ag))))) (aa 4) (by omega) (by omega) ?_)) ag)) ⟨c,(ER n [3,7,adB g]).flatten,?_,?_,?_,rfl⟩) ?_
 · congr 2; omega
 · simp; omega
 · rw [Ey,<- yG]; rfl
 · rw [jk]; omega
 · intro x hx
   rcases tm hx with rfl | rfl | rfl
   · exact qG (by decide) (by decide)
   · exact qG (by decide) (by decide)
   · exact hB
 refine yM 6 ?_
 refine aB 7 nd (bq ag) ?_
 refine bU 8 (λi τ=>∃ s8 s9 s10,τ=[.d (.int c),.d (.int T),.d (.int R),.d (.int C),.d (.int n),.d (.int g),.d (.lst ((adP c n g).map .int)),.o (((Eo i).map (adS (adP c n g) T g)).map stD),s8,s9,s10]) b nd (iV b (aa 4) (by omega) (by omega)) i0 ⟨_,_,_,rfl⟩ (λi hi τ h=>?_) λτ h=>?_
 · obtain ⟨s8,s9,s10,rfl⟩:=h
   have hi:i < n:=by rw [aO] at hi; omega
   have lt3:=C8 (c:=c) hg hi
   have e0:(3 * (i:Int)).toNat=3 * i:=by omega
   have e1:(3 * (i:Int) + 1).toNat=3 * i + 1:=by omega
   have e2:(3 * (i:Int) + 2).toNat=3 * i + 2:=by omega
   have k0:atI ((adP c n g).map D.int) (3 * (i:Int))=some (.int ((adP c n g).getD (3 * i) 0)):=by rw [<- e0]; exact aZ (by omega) (by omega)
   have k1:atI ((adP c n g).map D.int) (3 * (i:Int) + 1)=some (.int ((adP c n g).getD (3 * i + 1) 0)):=by rw [<- e1]; exact aZ (by omega) (by omega)
   have k2:atI ((adP c n g).map D.int) (3 * (i:Int) + 2)=some (.int ((adP c n g).getD (3 * i + 2) 0)):=by rw [<- e2]; exact aZ (by omega) (by omega)
   obtain ⟨a1,a2,a3⟩:=wB (ps:=adP c n g) (k:=i) hT
   refine aB 9 nd (az (a8 (bq (ae cj (ae cj (ae cj ag))))) (az (aa 6) (aC af (aa 8) (a7 (mkL (by decide)))) (aW k0)) (aW (Bt lt3.1 lt3.2))) ?_
   refine aB 10 nd (aC (az (aa 6) (aC (aC af (aa 8) (a7 (mkL (by decide)))) af a5) (aW k1)) (aa 1) (cb (by omega))) ?_
   refine jv (M:=λτ=>τ=[.d (.int c),.d (.int T),.d (.int R),.d (.int C),.d (.int n),.d (.int g),.d (.lst ((adP c n g).map .int)),.o (((Eo i).map (adS (adP c n g) T g)).map stD),.d (.int i),.d (.str (adW (adP c n g) T i)),.d (.int (((adP c n g).getD (3 * i + 1) 0).fmod T))]) (PW.pt (gG (aN (aa 9) cj zV) λh=>(iq (aN (aa 1) af fW)))) (λh=>?_) (λh=>?_) ?_
   · refine aB 9 nd cj (aQ ?_)
     have:wrd ((adP c n g).getD (3 * i) 0) ≠ "weigh" /\ T=1:=by
       simp only [Fp,Bool.not_eq_true',decide_eq_true_eq,decide_eq_false_iff_not] at h
       exact ⟨h.1,by omega⟩
     unfold adW
     rw [if_pos this]
     rfl
   · refine aQ ?_
     have:¬ (wrd ((adP c n g).getD (3 * i) 0) ≠ "weigh" /\ T=1):=λ⟨z1,z2⟩=>by
       rw [decide_eq_false z1,decide_eq_true (show (T:Int)=1 by omega)] at h
       cases h
     unfold adW
     rw [if_neg this]
     rfl
   · rintro _ rfl
     refine jv (M:=λτ=>τ=[.d (.int c),.d (.int T),.d (.int R),.d (.int C),.d (.int n),.d (.int g),.d (.lst ((adP c n g).map .int)),.o (((Eo i).map (adS (adP c n g) T g)).map stD),.d (.int i),.d (.str (adW (adP c n g) T i)),.d (.int (adA (adP c n g) T i))]) (aN (aa 9) cj zV) (λh=>?_) (λh=>?_) ?_
     · have h:adW (adP c n g) T i ≠ "weigh":=by simpa using h
       have:=a3 h
       refine aB 10 nd (aC (az (aa 6) (aC (aC af (aa 8) (a7 (mkL (by decide)))) af a5) (aW k1)) (aC (aa 1) af i3) (cb (by omega))) (aQ ?_)
       unfold adA
       rw [if_neg h]
       rfl
     · have h:adW (adP c n g) T i = "weigh":=by simpa using h
       refine aQ ?_
       unfold adA
       rw [if_pos h]
     · rintro _ rfl
       refine lD 7 (cC (ae (aa 9) (ae (aa 10) (ae (x_call b c_l_weight (ae (az (aa 6) (aC (aC af (aa 8) (a7 (mkL (by decide)))) af a5) (aW k2)) (ae (aa 5) ag)) ⟨_,g,rfl,hg,rfl⟩) ag)))) ?_ (aQ ⟨.d (.int i),.d (.str (adW (adP c n g) T i)),.d (.int (adA (adP c n g) T i)),?_⟩)
       · rw [Ei,Ei,EN]; omega
       · rw [Fz,EW,EW]
         have:((adA (adP c n g) T i).toNat:Int)=adA (adP c n g) T i:=FJ a1
         show _=[_,_,_,_,_,_,_,Sl.o (_++[D.tup [.str _,.int ((adA (adP c n g) T i).toNat:Int),frD _]]),_,_,_]
         rw [this]
         rfl
 · obtain ⟨s8,s9,s10,rfl⟩:=h
   rw [aO,Ey]
   exact aL (cC (ae (aa 1) (ae (aa 2) (ae (aa 3) (ae (wV 7) ag))))) rfl
theorem qY (F:Fun K "_law_drawn" qual (top 59) f fd) (hb:∀ x ∈ ao,mg x=none) (c_l_sizes:Cal P w K mg base k "_law_sizes" iR) (c_l_ladder:Cal P w K mg base k "_law_ladder" eI):aS P w K mg base CX0 (k + 1) f fd ["_law_one","_law_other","_law_most","_law_figures"] (spD K ie):=by
 refine fnD F ju hb (by rintro _ _ ⟨_,_,_,_,rfl,_⟩; rfl) ?_
 rintro _ _ ⟨m,c,o,g,rfl,hg,hm,rfl⟩ cdv A outer s H E b
 have nd:=ju.nd
 obtain ⟨h1,h2,h3,h4,h5,h6,h7,h8⟩:=wk m c
 refine aB 4 nd (x_call b c_l_sizes (ae (aa 0) (ae (aa 2) ag)) ⟨m,c,rfl,by omega,rfl⟩) ?_
 refine aL (x_call b c_l_ladder (ae (aa 1) (ae (az (aa 4) af (ar (ak (i:=0) rfl))) (ae (az (aa 4) af (ar (ak (i:=1) rfl))) (ae (az (aa 4) af (ar (ak (i:=2) rfl))) (ae (az (aa 4) af (ar (ak (i:=3) rfl))) (ae (aa 3) ag)))))) ⟨o,drT m c,drR m c,drC m c,((szP m c).getD 5 0).toNat,g,?_,?_,?_,hg,rfl⟩) rfl
 · unfold drT drR drC
   rw [FJ (by omega),FJ (by omega),FJ (by omega),FJ (by omega)]
 · unfold drT; omega
 · omega
theorem t8 (F:Fun K "_law_ends" qual (top 64) f fd) (hb:∀ x ∈ ao,mg x=none) (c_l_numbers:Cal P w K mg base k "_law_numbers" bN) (c_l_choice:Cal P w K mg base k "_law_choice" gh):aS P w K mg base CX0 (k + 1) f fd ["_law_cell_here","_law_ladder_here"] (spD K kf):=by
 refine fnD F lV hb (by rintro _ _ ⟨_,_,_,_,_,rfl,_⟩; rfl) ?_
 rintro _ _ ⟨c,T,R,C,ss,rfl,ok,rfl⟩ cdv A outer s H E b
 have nd:=lV.nd
 have r1:=ok.r1
 have c1:=ok.c1
 have r7:R<=7:=EH ok.rT ok.t7
 have c7:C<=7:=EH ok.cT ok.t7
 obtain ⟨m0,m1,m2⟩:=wC r1 c1 r7 c7
 obtain ⟨s0,s1,s2,s3⟩:=vC r1 c1 r7 c7 c
 refine aB 2 nd (bK b (ae (az (aa 1) af (ar (ak (i:=1) rfl))) (ae (az (aa 1) af (ar (ak (i:=2) rfl))) ag)) (Cm b.calm)) ?_
 show PSs _ _ (dS K [_,_,.d (.int (enM R C)),_,_] _)
 refine aB 3 nd (a8 (x_call b c_l_numbers (ae (aa 0) (ae (a8 (bq (ae (aa 2) (ae (aC af af (xn ⟨by decide,by decide,by decide⟩)) (ae (aC af af (xn ⟨by decide,by decide,by decide⟩)) ag))))) ag)) ⟨c,[enM R C,10 ^ 9,10 ^ 9],rfl,by simp,?_,rfl⟩)) ?_
 · intro b hb
   simp only [EE,FR,or_false] at hb
   rcases hb with rfl | rfl | rfl
   · exact qG m0 (by omega)
   · exact qG (by decide) (by decide)
   · exact qG (by decide) (by decide)
 have l3:(enP c R C).length=3:=gF ..
 have a0:atI ((enP c R C).map D.int) 0=some (.int ((enP c R C).getD 0 0)):=aZ (i:=0) (by decide) (by rw [l3]; decide)
 have a1:atI ((enP c R C).map D.int) 1=some (.int ((enP c R C).getD 1 0)):=aZ (i:=1) (by decide) (by rw [l3]; decide)
 have a2:atI ((enP c R C).map D.int) 2=some (.int ((enP c R C).getD 2 0)):=aZ (i:=2) (by decide) (by rw [l3]; decide)
 refine aB 4 nd (aC af (az (aa 3) af (aW a0)) a5) ?_
 rw [s0]
 exact aL (cC (ae (a8 (x_call b c_l_choice (ae (az (aa 3) af (aW a1)) (ae (az (aa 1) af (ar (ak (i:=1) rfl))) (ae (aa 4) ag))) ⟨_,R,_,rfl,s1,s2,r7,rfl⟩)) (ae (a8 (x_call b c_l_choice (ae (az (aa 3) af (aW a2)) (ae (az (aa 1) af (ar (ak (i:=2) rfl))) (ae (aa 4) ag))) ⟨_,C,_,rfl,s1,s3,c7,rfl⟩)) ag))) rfl
end
theorem DB {R C m d v:Nat} {M:List (List Rat)} {rs cs:List Int} (t:Tq R C M) (hr:ChO R rs) (hc:ChO C cs) (l1:rs.length=m) (l2:cs.length=m) (m7:m<=7) (hq:∀ r ∈ M,∀ x ∈ r,Qs d v x) (z:Bz m d v):Sq 9000 (mnQ M rs cs):=by
 have tq:=qP t hr hc l1 l2 m7
 obtain ⟨o1,o2,o3,o4,o5⟩:=zL tq (qk t hr hc hq) z
 have zb:ZB (m * (v + (1 + m * d) + 3)) (det m (dtM (whM (chM M rs cs) ((chM M rs cs).map scL)))):=xF (by omega) λi hi j hj=>by
   have mi:=cM (xs:=whM (chM M rs cs) ((chM M rs cs).map scL)) (d:=[]) (i:=i) (by rw [o1]; exact hi)
   exact ⟨_,rfl,(o2 _ mi).2 _ (cM (by rw [(o2 _ mi).1]; exact hj))⟩
 obtain ⟨w,e1,e2⟩:=zb
 have ew:wdZ (whM (chM M rs cs) ((chM M rs cs).map scL))=w:=vn (by rw [o1,e1])
 have e:mnQ M rs cs=det m (qM (chM M rs cs)):=by
   unfold mnQ
   rw [l1,aR λa ha b hb'=>wL (M:=M) (rs:=rs) (cs:=cs) (by omega) (by omega)]
 rw [<- e,ew] at o5
 obtain ⟨g1,g2⟩:=cH o3 o5
 have bw:Bd 8999 w:=EV e2 (GH (by decide) (by have:=z.b2; omega))
 exact ⟨by rw [g1]; exact (bw.ediv _).mono (by decide),by rw [g2]; exact (o4.ediv _).mono (by decide)⟩
theorem CB (xs:List D):nG (xs.map .d)=xs:=by
 induction xs with
 | nil=>rfl
 | cons x xs ih=>rw [Er,nG,ndD,ih]
theorem uS {α:Type} (f:α->List Nd):∀ t:List α,nG (t.map λr=>.l (f r))=t.map λr=>D.lst (nG (f r))
 | []=>rfl
 | r :: t=>by rw [Er,nG,ndD,uS f t]; rfl
theorem Ai (t:List (List Rat)):ndD (vD t)=w6 t:=by
 unfold vD w6
 rw [ndD,uS]
 congr 1
 exact Fb λr _=>by rw [CB]
theorem Dg {xs:List D}:bP X (compareOp .Is) (.tup xs) .non (.bl false):=⟨_,A5,λ_ v w H Q _ d1 d2 k=>by
 cases d2
 cases d1
 exact ⟨rfl,by rw [decide_eq_false (by intro z; cases z)]; exact k _ H (aq.refl _) .bl⟩⟩
theorem Aq (p:Int):Wq 3 (wgt p 0):=by
 obtain ⟨h1,h2,h3,h4⟩:=sW p (g:=0) (by decide)
 have f1:=fm (a:=p) (b:=7) (by decide)
 have f2:=fm (a:=p.fdiv 7) (b:=4) (by decide)
 have e1:wgT p 0=p.fmod 7:=rfl
 have e2:wgB p 0=1 + (p.fdiv 7).fmod 4:=rfl
 exact ⟨(nE p (by decide)).1,Sq.cH h3 (js p (by decide)) (by unfold Bd; omega) (by unfold Bd; omega)⟩
theorem yI (p:Int):Wq 140 (wgt p 40):=⟨(nE p (by decide)).1,(nE p (by decide)).2⟩
theorem C1 {m:Nat} (c o:Int):∀ k,k < (drS m c o 0).length->Wq 3 (stp (drS m c o 0) k).2.2:=λk hk=>by
 have hl:(drS m c o 0).length=((szP m c).getD 5 0).toNat:=by simp [drS]
 rw [hl] at hk
 have:stp (drS m c o 0) k=adS (adP o ((szP m c).getD 5 0).toNat 0) (drT m c) 0 k:=ky _ hk _
 rw [this]
 exact Aq _
noncomputable def i5 (c:Int):List Stp:=(Eo 4).map (adS (adP c 4 40) 3 40)
theorem zh (c:Int):okL 3 3 2 (i5 c)/\(∀ k,k < (i5 c).length->Wq 140 (stp (i5 c) k).2.2):=by
 have hl:(i5 c).length=4:=by simp [i5]
 have ha:∀ i,i < 4->(i5 c).getD i ("weigh",0,0)=adS (adP c 4 40) 3 40 i:=λi hi=>ky _ hi _
 refine ⟨⟨by decide,by decide,by decide,by decide,by decide,by decide,by omega,λi hi=>?_⟩,λk hk=>?_⟩
 · rw [ha i (by omega)]; exact (ql (by decide) (by decide)).1
 · unfold stp
   rw [ha k (by omega)]
   exact yI _
theorem yD (x:Int):∃ n:Nat,n<=9/\atI [D.int 8,.int 8,.int 8,.int 9] (x.fmod 4)=some (.int (n:Nat)):=by
 have h:=fm (a:=x) (b:=4) (by decide)
 obtain ⟨n,hn⟩:=FY h.1
 rw [hn]
 have hn8:n < 4:=by omega
 clear h hn
 rcases (by omega:n=0\/n=1\/n=2\/n=3) with rfl | rfl | rfl | rfl
 · exact ⟨8,by decide,rfl⟩
 · exact ⟨8,by decide,rfl⟩
 · exact ⟨8,by decide,rfl⟩
 · exact ⟨9,by decide,rfl⟩
theorem xo {e:Nat} {ss:List Stp} (hw:∀ k,k < ss.length->Wq e (stp ss k).2.2):∀ t,t<=ss.length->∀ k i,Zq (dnP ss t) ((e + 1) * t) ((ss.take t).foldl stV V0 k i)
 | 0,_,k,i=>by
   show Zq 1 _ (V0 k i)
   unfold V0
   split
   · exact ⟨1,by decide,by simp,(Fn _).symm⟩
   · exact ⟨0,by decide,by simp,(GX _).symm⟩
 | t + 1,ht,k,i=>by
   have ih:=xo hw t (by omega)
   have g:=hw t (by omega)
   rw [take_snoc (("weigh",0,0):Stp) (show t < ss.length by omega),Gh,dnP]
   show Zq _ _ (stV _ (stp ss t) k i)
   generalize (ss.take t).foldl stV V0=V at ih ⊢
   generalize stp ss t=s at g ⊢
   unfold stV
   split
   · unfold fH
     split
     · exact ((ih _ _).mul g).mono (by rw [F2]; omega)
     · exact (ih _ _).upn g
   · unfold fH
     split
     · exact (((ih _ _).up g).add ((ih _ _).mul g)).mono (by rw [F2]; omega)
     · exact (ih _ _).upn g
theorem Cj {P:Int} {m n:Nat} {v:Rat} (h:Zq P n v) (hP:0 < P) (hle:P<=2 ^ m):Qs (m + 1) n v:=by
 obtain ⟨z,h0,h1,h2⟩:=h
 obtain ⟨g1,g2⟩:=cH hP h2
 refine ⟨by rw [g2]; exact (oD (by omega) hle).ediv _,?_⟩
 have hd:=v.den_pos
 have hn:v.num.natAbs<=z.natAbs:=by rw [g1]; exact JW _ _
 have hz:z.natAbs<=2 ^ n:=by
   have:((z.natAbs:Nat):Int)<=((2 ^ n:Nat):Int):=by rw [Int.natAbs_of_nonneg h0]; simpa using h1
   exact Jq.mp this
 exact EH (EH hn hz) (J5 _ hd)
theorem lzA:∀ m,m < 8->1 + m * 28<=8999/\m * (36 + (1 + m * 28) + 3)<=3800/\1 + m * (1 + m * 28)<=8999/\36 + (1 + m * 28)<=3800:=by decide
theorem lzB:∀ m,m < 3->1 + m * 561<=8999/\m * (564 + (1 + m * 561) + 3)<=3800/\1 + m * (1 + m * 561)<=8999/\564 + (1 + m * 561)<=3800:=by decide
theorem Qs.mono {d v d' v':Nat} {q:Rat} (h:Qs d v q) (hd:d<=d') (hv:v<=v'):Qs d' v' q:=⟨h.den.mono hd,EH h.val (Fd _ (E8 (by decide) hv))⟩
structure Sz6 (R C e:Nat) (ss:List Stp):Prop where
 w:∀ k,k < ss.length->Wq e (stp ss k).2.2
 z:(e=3/\ss.length<=9)\/(e=140/\ss.length<=4/\C<=2)
theorem Sz6.tab {R C e m:Nat} {ss:List Stp} (h:Sz6 R C e ss) (m7:m<=7) (mC:m<=C):∃ d v,Lz m d v/\∀ k i,Qs d v (fwd ss k i):=by
 obtain ⟨dp,dl⟩:=qw h.w ss.length (Ek _)
 have q:∀ k i,Qs (e * ss.length + 1) ((e + 1) * ss.length) (fwd ss k i):=λk i=>by
   have:=xo h.w ss.length (Ek _) k i
   rw [HZ] at this
   exact Cj this dp dl
 rcases h.z with ⟨rfl,h9⟩ | ⟨rfl,h4,h2⟩
 · obtain ⟨a,b,c,d⟩:=lzA m (by omega)
   exact ⟨28,36,⟨⟨a,by omega,c,by decide⟩,b,d⟩,λk i=>(q k i).mono (by omega) (by omega)⟩
 · obtain ⟨a,b,c,d⟩:=lzB m (by omega)
   exact ⟨561,564,⟨⟨a,by omega,c,by decide⟩,b,d⟩,λk i=>(q k i).mono (by omega) (by omega)⟩
theorem Sz6.lim {R C e m:Nat} {ss:List Stp} (h:Sz6 R C e ss) (m7:m<=7) (mC:m<=C):(e + 1) * ss.length<=1500/\e<=140/\ss.length<=9/\e * ss.length * m<=1200:=by
 rcases h.z with ⟨rfl,h9⟩ | ⟨rfl,h4,h2⟩
 · have:=IH (show 3 * ss.length<=27 by omega) m7
   exact ⟨by omega,by decide,h9,by omega⟩
 · have:=IH (show 140 * ss.length<=560 by omega) (show m<=2 by omega)
   exact ⟨by omega,by decide,by omega,by omega⟩
theorem uN {C R:Nat} {V:Nat->Nat->Rat} (r1:1<=R) (r7:R<=7) (c1:1<=C) (c7:C<=7):Tq R C (dP C R V):=⟨r1,r7,c1,c7,by simp [dP],λr hr=>by
 obtain ⟨i,_,rfl⟩:=EL.mp hr
 simp⟩
theorem uz {C R:Nat} {V:Nat->Nat->Rat} {p:Rat->Prop} (h:∀ k i,p (V k i)):∀ r ∈ dP C R V,∀ x ∈ r,p x:=λr hr x hx=>by
 obtain ⟨i,_,rfl⟩:=EL.mp hr
 obtain ⟨j,_,rfl⟩:=EL.mp hx
 exact h j i
theorem u4 {C R i j:Nat} {V:Nat->Nat->Rat} (hi:i < R) (hj:j < C):qM (dP C R V) i j=V j i:=by
 unfold qM dP
 simp [hi,hj]
theorem Ay {T R C m:Nat} {ss:List Stp} {rs cs:List Int} (ok:okL T R C ss) (hr:Rs R m rs) (hc:Rs C m cs):mnQ (dP C R (fwd ss)) rs cs=det m (lgR (bwd ss) rs cs):=by
 unfold mnQ
 rw [hr.len]
 refine aR λa ha b hb=>?_
 have h1:=hr.bd a ha
 have h2:=hc.bd b hb
 have:=ok.rT
 have:=ok.cT
 rw [u4 (by omega) (by omega),yr ok.mem (by omega) (by omega)]
 rfl
noncomputable def tw (ds:List D) (r:Sl):Prop:=∃ ns:List Int,ns.length<=63/\ds=[.lst (ns.map .int)]/\r=.d (.bl true)
section
variable {P:Program} {w:World} {K:Ej} {mg:Str->Option Value} {base:Heap} {k:Nat} {f:Addr} {fd:FuncData} {qual:Str}
set_option maxHeartbeats 1000000 in
theorem Az (F:Fun K "law" qual (top 67) f fd) (hb:∀ x ∈ ao,mg x=none) (c_l_drawn:Cal P w K mg base k "_law_drawn" ie) (c_l_ends:Cal P w K mg base k "_law_ends" kf) (c_table_of:Cal P w K mg base k "table_of" gk) (c_l_rows:Cal P w K mg base k "_law_rows" kj) (c_l_sum:Cal P w K mg base k "_law_sum" nR) (c_l_ladder:Cal P w K mg base k "_law_ladder" eI) (c_l_cell:Cal P w K mg base k "_law_cell" jx) (c_l_det:Cal P w K mg base k "_law_det" nA):aS P w K mg base CX0 (k + 1) f fd ["_law_script"] (spD K tw):=by
 refine fnD F u7 hb (by rintro _ _ ⟨_,_,rfl,_⟩; rfl) ?_
 rintro _ _ ⟨ns,hn,rfl,rfl⟩ cdv A outer s H E b
 have nd:=u7.nd
 have ex:∃ ms:List Int,ms.length<=64/\[D.int (ns.getD 1 0)]++Hy.cutD (ns.map D.int) (some 2) (some 5)=ms.map D.int:=by
   refine ⟨ns.getD 1 0 :: ((ns.take 5).drop 2),by simp; omega,?_⟩
   rw [show (2:Int)=((2:Nat):Int) from rfl,show (5:Int)=((5:Nat):Int) from rfl,x5,<- List.map_take,<- List.map_drop]
   rfl
 obtain ⟨ms,hms,ems⟩:=ex
 refine iA 1 2 (g:=λi=>.int (i:Nat)) (g':=λi=>.int (ms.getD i 0)) (λi τ=>∃ s1 s2 s3 s4 s5 s6 s7 s8,τ=[.d (.lst (ns.map .int)),s1,s2,s3,s4,s5,s6,s7,s8]) b nd (lX b (a8 (zx (a8 (bq (ae (x_call b c_l_cell (ae (aa 0) (ae af ag)) ⟨ns,1,rfl,rfl⟩) ag))) (a8 (Bg (aa 0) (m8 af) (m8 af))) ?_))) ?_ ⟨.un,.un,.un,.un,.un,.un,.un,.un,rfl⟩ (λi hi τ h=>?_) λτ h=>?_
 · have:=congrArg List.length ems
   rw [EC,Ei] at this
   show [D.int (ns.getD 1 0)].length + _ < _
   omega
 · intro i h
   show (gI ([D.int (ns.getD 1 0)]++Hy.cutD (ns.map D.int) (some 2) (some 5)))[i]=_
   simp only [ems]
   exact zI i _
 · obtain ⟨s1,s2,s3,s4,s5,s6,s7,s8,rfl⟩:=h
   generalize ms.getD i 0=c
   obtain ⟨mo,hm9,emo⟩:=yD c
   refine aB 3 nd (x_call b c_l_drawn (ae (aC (x_call b c_l_cell (ae (aa 0) (ae af ag)) ⟨ns,0,rfl,rfl⟩) (aC af (aa 1) (a7 (mkL (by decide)))) a5) (ae (aa 2) (ae (az (a8 (bq (ae af (ae af (ae af (ae af ag)))))) (aC (aa 2) af (cb (by decide))) (aW emo)) (ae af ag)))) ⟨mo,_,c,0,rfl,by decide,by omega,rfl⟩) ?_
   generalize ns.getD 0 0 + 17 * (i:Int)=c0
   obtain ⟨ok0,_,h9⟩:=Di (m:=mo) c0 c (g:=0) (by decide) (by omega)
   have hq0:=C1 (m:=mo) c0 c
   refine jv (M:=λτ=>∃ (T R C e:Nat) (ss:List Stp),okL T R C ss/\Sz6 R C e ss/\τ=[.d (.lst (ns.map .int)),.d (.int (i:Nat)),.d (.int c),.d (cw T R C ss),s4,s5,s6,s7,s8]) (aN (aC (aa 2) af (cb (by decide))) af fW) (λh=>?_) (λh=>aQ ⟨_,_,_,3,_,ok0,⟨hq0,.inl ⟨rfl,by omega⟩⟩,rfl⟩) ?_
   · obtain ⟨ok1,hq1⟩:=zh c
     exact aB 3 nd (x_call b c_l_ladder (ae (aa 2) (ae af (ae af (ae af (ae af (ae af ag)))))) ⟨c,3,3,2,4,40,rfl,by decide,by decide,by decide,rfl⟩) (aQ ⟨3,3,2,140,i5 c,ok1,⟨hq1,.inr ⟨rfl,by simp [i5],by decide⟩⟩,rfl⟩)
   clear ok0 h9 hq0
   rintro _ ⟨T,R,C,e,ss,ok,sz,rfl⟩
   have r7:R<=7:=EH ok.rT ok.t7
   have c7:C<=7:=EH ok.cT ok.t7
   obtain ⟨h1,h2⟩:=C6 ok.r1 ok.c1 r7 c7 (c + 5)
   obtain ⟨_,q1,q2,q3⟩:=vC ok.r1 ok.c1 r7 c7 (c + 5)
   refine vG (x_call b c_l_ends (ae (aC (aa 2) af a5) (ae (aa 3) ag)) ⟨c + 5,T,R,C,ss,rfl,ok,rfl⟩) (zF b.calm (gK 4 nd (gK 5 nd vR))) ?_
   generalize enS (c + 5) R C=m at h1 h2 q1 q2 q3
   generalize enR (c + 5) R C=rs at h1 ⊢
   generalize enC (c + 5) R C=cs at h2 ⊢
   have m7:m<=7:=by omega
   obtain ⟨l1,l2,l3,l4⟩:=sz.lim m7 q3
   obtain ⟨d,v,lz,qs⟩:=sz.tab m7 q3
   have hr:=h1.cho q1 m7
   have hc:=h2.cho q1 m7
   have t:Tq R C (dP C R (fwd ss)):=uN ok.r1 r7 ok.c1 c7
   have hq:∀ r ∈ dP C R (fwd ss),∀ x ∈ r,Qs d v x:=uz qs
   obtain ⟨hD,p1,p2,p3,p4⟩:=Ce t hr hc h1.len h2.len m7 hq lz
   have tq:=qP t hr hc h1.len h2.len m7
   have qq:=qk t hr hc hq
   have sqm:=DB t hr hc h1.len h2.len m7 hq lz.z
   have mn:=Ay ok h1 h2
   refine aB 6 nd (a8 (x:=tbQ (dP C R (fwd ss))) (x_call b c_table_of (ae (aa 3) ag) ⟨e,T,R,C,ss,rfl,ok,sz.w,l1,l2,rfl⟩) (congrArg some (Ai _))) ?_
   generalize dP C R (fwd ss)=M at *
   refine aB 7 nd (x_call b c_l_rows (ae (a8 (du (cmp 0 (g:=λi=>.int (rs.getD i 0)) (f:=λi=>rwQ (pkL (M.getD (rs.getD i 0).toNat []) cs 0)) b (a4 (aa 4)) (ly (f:=D.int) (xs:=rs) 0) (by rw [Ei]; have:=h1.len; omega) λi hi s0 H0 fp=>?_)) ?hx) ag) ⟨m,m,d,v,chM M rs cs,rfl,tq,qq,lz.z.b1,lz.z.b4,rfl⟩) ?_
   · have hi:=hr.bd i (by simpa using hi)
     have ai:atI (M.map rwQ) (rs.getD i 0)=some (rwQ (M.getD (rs.getD i 0).toNat [])):=zS [] (by rw [t.len]; exact hi)
     refine a8 (du (cmp 0 (g:=λj=>.int (cs.getD j 0)) (f:=λj=>frD ((M.getD (rs.getD i 0).toNat []).getD (cs.getD j 0).toNat 0)) (b.comp s0 H0 _ fp) (a4 (aa 1)) (ly (f:=D.int) (xs:=cs) 0) (by rw [Ei]; have:=h2.len; omega) λj hj s1 H1 fp1=>?_)) ?_
     · have hj:=hc.bd j (by simpa using hj)
       exact az (az (aa 2) (aa 1) (aW ai)) (aa 0) (aW (zS (f:=frD) 0 (by rw [t.at_ (by omega)]; exact hj)))
     · exact congrArg (λl=>some (D.lst l)) (Ab frD (M.getD (rs.getD i 0).toNat []) cs 0 (Ei ..))
   case hx=>
     refine congrArg (λl=>some (D.lst l)) ((mF (λr:Int=>rwQ (pkL (M.getD r.toNat []) cs 0)) rs 0 (Ei ..)).trans ?_)
     unfold chM
     rw [EU]
     rfl
   refine aB 8 nd (x_call b c_l_sum (ae (aa 3) (ae (aa 4) (ae (aa 5) ag))) ⟨T,R,C,m,e,ss,rs,cs,rfl,ok,h1,h2,q1,m7,l3,sz.w,l4,l2,rfl⟩) ?_
   rw [<- mn]
   have eq:(mnQ M rs cs).num * lmB M rs cs=lmZ M rs cs * ((mnQ M rs cs).den:Nat):=by
     have hd:=c9 (mnQ M rs cs)
     apply Ir.mp
     rw [EJ,EJ,p3,<- hd]
     grind
   refine bO (PW.pt (dn (aN (aa 8) Cu Dg) λh=>(de (aN (aC (az (aa 8) af (ar (ak (i:=0) rfl))) (az (aa 7) af (ar (ak (i:=1) rfl))) (a7 (sqm.num.aJ p2 (by omega) (by have:=lz.z.b3; omega)))) (aC (x_call b c_l_det (ae (az (aa 7) af (ar (ak (i:=0) rfl))) ag) ⟨m,_,_,rfl,hD,rfl⟩) (az (aa 8) af (ar (ak (i:=1) rfl))) (a7 (p4.aJ sqm.den (by omega) (by omega)))) j3)))) ?_ (aQ ⟨_,_,_,_,_,_,_,_,rfl⟩)
   show (false || !decide ((mnQ M rs cs).num * lmB M rs cs=lmZ M rs cs * ((mnQ M rs cs).den:Nat)))=false
   rw [decide_eq_true eq]
   rfl
 · obtain ⟨s1,s2,s3,s4,s5,s6,s7,s8,rfl⟩:=h
   exact aL p7 rfl
end
end K26
namespace K26
open PySem PySem.Spec PyProof.Rows L2 Hy
set_option maxHeartbeats 0 in
theorem all_mk {l:Jj} {w:World} {K:Ej} {h:Heap} {mg:Str->Option Value} {fa f0 f1 f2 f3 f4 f5 f6 f7 f8 f9 f10 f11 f12 f13 f14 f15 f16 f17 f18 f19 f20 f21 f22 f23 f24 f25 f26 f27 f28 f29 f30 f31 f32 f33 f34 f35 f36 f37 f38 f39 f40 f41 f42 f43 f44 f45 f46 f47 f48 f49 f50 f51 f52:Addr} {t0 t1 t2:Tok} (X:K.In h) (G:h.Ns mainGlobals mg) (hfa:mg "law" = some (.ref fa))
   (h0:Dfn K "_law_numbers" (top 49) f0) (h1:Dfn K "_law_sizes" (top 58) f1) (h2:Dfn K "_law_divisor" (top 50) f2) (h3:Dfn K "_law_made" (top 51) f3) (h4:Dfn K "_law_ten" (top 47) f4) (h5:Dfn K "_law_weight" (top 54) f5) (h6:Dfn K "_law_ladder" (top 55) f6) (h7:Dfn K "_law_drawn" (top 59) f7) (h8:Dfn K "_law_choice" (top 62) f8) (h9:Dfn K "_law_ends" (top 64) f9) (h10:Dfn K "is_whole" (top 8) f10) (h11:Dfn K "is_between" (top 9) f11) (h12:Dfn K "common_divisor" (top 11) f12) (h13:Dfn K "is_fraction" (top 10) f13) (h14:Dfn K "is_weight" (top 26) f14) (h15:Dfn K "is_step" (top 27) f15) (h16:Dfn K "is_ladder" (top 28) f16) (h17:Dfn K "look_ladder" (top 29) f17) (h18:Dfn K "column_of" (top 22) f18) (h19:Dfn K "columns_of" (top 21) f19) (h20:Dfn K "first_sums" (top 33) f20) (h21:Dfn K "shared_divisor" (top 12) f21) (h22:Dfn K "weighed_sums" (top 35) f22) (h23:Dfn K "added_sums" (top 36) f23) (h24:Dfn K "in_lowest_terms" (top 13) f24) (h25:vX K "fraction" (top 14) f25 (1)) (h26:Dfn K "told_sums" (top 34) f26) (h27:Dfn K "rung_end" (top 31) f27) (h28:Dfn K "rung_start" (top 30) f28) (h29:Dfn K "table_of" (top 32) f29) (h30:Dfn K "_law_rows" (top 52) f30) (h31:Dfn K "is_rising" (top 18) f31) (h32:Dfn K "is_choice" (top 17) f32) (h33:Dfn K "look_choices" (top 19) f33) (h34:Dfn K "look_ends" (top 43) f34) (h35:Dfn K "way_on" (top 41) f35) (h36:Dfn K "family_on" (top 45) f36) (h37:Dfn K "choices_of" (top 20) f37) (h38:Dfn K "next_places" (top 37) f38) (h39:Dfn K "counts_ahead" (top 38) f39) (h40:Dfn K "longer_trails" (top 40) f40) (h41:Dfn K "trails" (top 39) f41) (h42:Dfn K "families" (top 44) f42) (h43:Dfn K "_law_plus" (top 56) f43) (h44:Dfn K "_law_apart" (top 63) f44) (h45:Dfn K "_law_goes" (top 60) f45) (h46:Dfn K "_law_good_family" (top 65) f46) (h47:Dfn K "_law_times" (top 57) f47) (h48:Dfn K "_law_way_weight" (top 61) f48) (h49:Dfn K "_law_sum" (top 66) f49) (h50:Dfn K "_law_cell" (top 48) f50) (h51:Dfn K "_law_det" (top 53) f51) (h52:Dfn K "law" (top 67) f52) (hz:nsL K ao) (z0:GI K mainGlobals "MOST" = some (some (.int 7 t0))) (z1:GI K mainGlobals "MOST_STEPS" = some (some (.int 400 t1))) (z2:GI K mainGlobals "MOST_LISTED" = some (some (.int 3000 t2))) :
   ∃ fd:FuncData,(∀ (s:Shared) (v:Value),BindsTo s fd ⟨[v],[]⟩ [("_law_script",v)])/\∀ base:Heap,K.In base->base.Ns mainGlobals mg->aS l.prog w K mg base CX0 10 fa fd ["_law_script"] (spD K tw):=by
 have hb:=hz.none X G
 have y_MOST:∃ t,mg "MOST" = some (.int 7 t):=⟨_,Hd X G z0⟩
 have y_MOST_STEPS:∃ t,mg "MOST_STEPS" = some (.int 400 t):=⟨_,Hd X G z1⟩
 have y_MOST_LISTED:∃ t,mg "MOST_LISTED" = some (.int 3000 t):=⟨_,Hd X G z2⟩
 obtain ⟨a,⟨oc,od,kV,dc,pm,an,cd,ct,sl,l0,c⟩,r⟩:=h52
 cases hfa.symm.trans (Hd X G a)
 refine ⟨FV "law" "law" (bZ (top 67)) (bD (top 67)) (ah (top 67)) .none kV dc pm an cd ct,λs v=>.of_eq rfl,λbase _ _=>?_⟩
 have c_l_numbers:Cal l.prog w K mg base 1 "_law_numbers" bN:=h0.cal (ps:=["_law_cell_here","_law_bases"]) X G (λ_ _ _ _ _ _=>Hy.bd2 λ_ _=>rfl) λ_ F=>me (k:=0) F hb
 have c_l_sizes:Cal l.prog w K mg base 2 "_law_sizes" iR:=h1.cal (ps:=["_law_cell_here","_law_most"]) X G (λ_ _ _ _ _ _=>Hy.bd2 λ_ _=>rfl) λ_ F=>qt (k:=1) F hb c_l_numbers
 have c_l_divisor:Cal l.prog w K mg base 1 "_law_divisor" cV:=h2.cal (ps:=["_law_one","_law_other"]) X G (λ_ _ _ _ _ _=>Hy.bd2 λ_ _=>rfl) λ_ F=>ma (k:=0) F hb
 have c_l_made:Cal l.prog w K mg base 2 "_law_made" fD:=h3.cal (ps:=["_law_top","_law_bottom"]) X G (λ_ _ _ _ _ _=>Hy.bd2 λ_ _=>rfl) λ_ F=>tZ (k:=1) F hb c_l_divisor
 have c_l_ten:Cal l.prog w K mg base 1 "_law_ten" jh:=h4.cal (ps:=["_law_many"]) X G (λ_ _ _ _ _ _=>Hy.bd1 λ_=>rfl) λ_ F=>ve (k:=0) F hb
 have c_l_weight:Cal l.prog w K mg base 3 "_law_weight" gj:=h5.cal (ps:=["_law_part","_law_figures"]) X G (λ_ _ _ _ _ _=>Hy.bd2 λ_ _=>rfl) λ_ F=>oe (k:=2) F hb c_l_made (c_l_ten.mono (by decide))
 have c_l_ladder:Cal l.prog w K mg base 4 "_law_ladder" eI:=h6.cal (ps:=["_law_cell_here","_law_tracks","_law_rows_here","_law_columns","_law_many","_law_figures"]) X G (λ_ _ _ _ _ _=>Hy.bd6 λ_ _ _ _ _ _=>rfl) λ_ F=>pN (k:=3) F hb (c_l_numbers.mono (by decide)) c_l_weight (c_l_ten.mono (by decide))
 have c_l_drawn:Cal l.prog w K mg base 5 "_law_drawn" ie:=h7.cal (ps:=["_law_one","_law_other","_law_most","_law_figures"]) X G (λ_ _ _ _ _ _=>Hy.bd4 λ_ _ _ _=>rfl) λ_ F=>qY (k:=4) F hb (c_l_sizes.mono (by decide)) c_l_ladder
 have c_l_choice:Cal l.prog w K mg base 2 "_law_choice" gh:=h8.cal (ps:=["_law_cell_here","_law_many","_law_size"]) X G (λ_ _ _ _ _ _=>Hy.bd3 λ_ _ _=>rfl) λ_ F=>oG (k:=1) F hb c_l_numbers
 have c_l_ends:Cal l.prog w K mg base 3 "_law_ends" kf:=h9.cal (ps:=["_law_cell_here","_law_ladder_here"]) X G (λ_ _ _ _ _ _=>Hy.bd2 λ_ _=>rfl) λ_ F=>t8 (k:=2) F hb (c_l_numbers.mono (by decide)) c_l_choice
 have c_is_whole:Cal l.prog w K mg base 1 "is_whole" bX:=h10.cal (ps:=["thing"]) X G (λ_ _ _ _ _ _=>Hy.bd1 λ_=>rfl) λ_ F=>pJ (k:=0) F hb
 have c_is_between:Cal l.prog w K mg base 2 "is_between" cE:=h11.cal (ps:=["thing","least","most"]) X G (λ_ _ _ _ _ _=>Hy.bd3 λ_ _ _=>rfl) λ_ F=>kP (k:=1) F hb c_is_whole
 have c_common_divisor:Cal l.prog w K mg base 1 "common_divisor" aY:=h12.cal (ps:=["one","other"]) X G (λ_ _ _ _ _ _=>Hy.bd2 λ_ _=>rfl) λ_ F=>gO (k:=0) F hb
 have c_is_fraction:Cal l.prog w K mg base 2 "is_fraction" dj:=h13.cal (ps:=["thing"]) X G (λ_ _ _ _ _ _=>Hy.bd1 λ_=>rfl) λ_ F=>ku (k:=1) F hb c_is_whole c_common_divisor
 have c_is_weight:Cal l.prog w K mg base 3 "is_weight" eV:=h14.cal (ps:=["thing"]) X G (λ_ _ _ _ _ _=>Hy.bd1 λ_=>rfl) λ_ F=>lY (k:=2) F hb c_is_fraction
 have c_is_step:Cal l.prog w K mg base 4 "is_step" iK:=h15.cal (ps:=["thing","tracks"]) X G (λ_ _ _ _ _ _=>Hy.bd2 λ_ _=>rfl) λ_ F=>qE (k:=3) F hb (c_is_between.mono (by decide)) c_is_weight
 have c_is_ladder:Cal l.prog w K mg base 5 "is_ladder" eW:=h16.cal (ps:=["thing"]) X G (λ_ _ _ _ _ _=>Hy.bd1 λ_=>rfl) λ_ F=>mR (k:=4) F hb y_MOST y_MOST_STEPS (c_is_between.mono (by decide)) c_is_step
 have c_look_ladder:Cal l.prog w K mg base 6 "look_ladder" b9:=h17.cal (ps:=["thing"]) X G (λ_ _ _ _ _ _=>Hy.bd1 λ_=>rfl) λ_ F=>jV (k:=5) F hb c_is_ladder
 have c_column_of:Cal l.prog w K mg base 1 "column_of" fq:=h18.cal (ps:=["table","j"]) X G (λ_ _ _ _ _ _=>Hy.bd2 λ_ _=>rfl) λ_ F=>mX (k:=0) F hb
 have c_columns_of:Cal l.prog w K mg base 2 "columns_of" d8:=h19.cal (ps:=["table"]) X G (λ_ _ _ _ _ _=>Hy.bd1 λ_=>rfl) λ_ F=>kU (k:=1) F hb c_column_of
 have c_first_sums:Cal l.prog w K mg base 1 "first_sums" eG:=h20.cal (ps:=["track","rows"]) X G (λ_ _ _ _ _ _=>Hy.bd2 λ_ _=>rfl) λ_ F=>kN (k:=0) F hb
 have c_shared_divisor:Cal l.prog w K mg base 2 "shared_divisor" bH:=h21.cal (ps:=["number","others"]) X G (λ_ _ _ _ _ _=>Hy.bd2 λ_ _=>rfl) λ_ F=>gM (k:=1) F hb c_common_divisor
 have c_weighed_sums:Cal l.prog w K mg base 3 "weighed_sums" cG:=h22.cal (ps:=["sums","weight"]) X G (λ_ _ _ _ _ _=>Hy.bd2 λ_ _=>rfl) λ_ F=>i9 (k:=2) F hb (c_common_divisor.mono (by decide)) c_shared_divisor
 have c_added_sums:Cal l.prog w K mg base 3 "added_sums" eA:=h23.cal (ps:=["one","other"]) X G (λ_ _ _ _ _ _=>Hy.bd2 λ_ _=>rfl) λ_ F=>k6 (k:=2) F hb (c_common_divisor.mono (by decide)) c_shared_divisor
 have c_in_lowest_terms:Cal l.prog w K mg base 2 "in_lowest_terms" bT:=h24.cal (ps:=["top","bottom"]) X G (λ_ _ _ _ _ _=>Hy.bd2 λ_ _=>rfl) λ_ F=>gp (k:=1) F hb c_common_divisor
 have c_fraction:Cal l.prog w K mg base 3 "fraction" gd:=h25.cal (ps:=["top","bottom"]) X G (λ_ _ _ _ _ _ _ _=>Hy.bd2 λ_ _=>⟨_,rfl,rfl⟩) λ_ F=>oA (k:=2) F hb c_in_lowest_terms (c_is_whole.mono (by decide))
 have c_told_sums:Cal l.prog w K mg base 4 "told_sums" fu:=h26.cal (ps:=["sums"]) X G (λ_ _ _ _ _ _=>Hy.bd1 λ_=>rfl) λ_ F=>m6 (k:=3) F hb c_fraction
 have c_rung_end:Cal l.prog w K mg base 1 "rung_end" dY:=h27.cal (ps:=["step"]) X G (λ_ _ _ _ _ _=>Hy.bd1 λ_=>rfl) λ_ F=>nW (k:=0) F hb
 have c_rung_start:Cal l.prog w K mg base 1 "rung_start" cF:=h28.cal (ps:=["step"]) X G (λ_ _ _ _ _ _=>Hy.bd1 λ_=>rfl) λ_ F=>kS (k:=0) F hb
 have c_table_of:Cal l.prog w K mg base 7 "table_of" gk:=h29.cal (ps:=["ladder"]) X G (λ_ _ _ _ _ _=>Hy.bd1 λ_=>rfl) λ_ F=>oE (k:=6) F hb c_look_ladder (c_columns_of.mono (by decide)) (c_first_sums.mono (by decide)) (c_weighed_sums.mono (by decide)) (c_added_sums.mono (by decide)) (c_told_sums.mono (by decide)) (c_rung_end.mono (by decide)) (c_rung_start.mono (by decide))
 have c_l_rows:Cal l.prog w K mg base 2 "_law_rows" kj:=h30.cal (ps:=["_law_table"]) X G (λ_ _ _ _ _ _=>Hy.bd1 λ_=>rfl) λ_ F=>uC (k:=1) F hb c_l_divisor
 have c_is_rising:Cal l.prog w K mg base 1 "is_rising" fK:=h31.cal (ps:=["numbers"]) X G (λ_ _ _ _ _ _=>Hy.bd1 λ_=>rfl) λ_ F=>l6 (k:=0) F hb
 have c_is_choice:Cal l.prog w K mg base 2 "is_choice" eX:=h32.cal (ps:=["thing","many"]) X G (λ_ _ _ _ _ _=>Hy.bd2 λ_ _=>rfl) λ_ F=>mS (k:=1) F hb c_is_rising c_is_whole
 have c_look_choices:Cal l.prog w K mg base 3 "look_choices" cO:=h33.cal (ps:=["rows","columns","many_rows","many_columns"]) X G (λ_ _ _ _ _ _=>Hy.bd4 λ_ _ _ _=>rfl) λ_ F=>jf (k:=2) F hb c_is_choice
 have c_look_ends:Cal l.prog w K mg base 7 "look_ends" fF:=h34.cal (ps:=["ladder","rows","columns"]) X G (λ_ _ _ _ _ _=>Hy.bd3 λ_ _ _=>rfl) λ_ F=>nC (k:=6) F hb c_look_ladder (c_look_choices.mono (by decide))
 have c_way_on:Cal l.prog w K mg base 1 "way_on" jD:=h35.cal (ps:=["trail","k"]) X G (λ_ _ _ _ _ _=>Hy.bd2 λ_ _=>rfl) λ_ F=>tO (k:=0) F hb
 have c_family_on:Cal l.prog w K mg base 2 "family_on" fj:=h36.cal (ps:=["trail"]) X G (λ_ _ _ _ _ _=>Hy.bd1 λ_=>rfl) λ_ F=>nN (k:=1) F hb c_way_on
 have c_choices_of:Cal l.prog w K mg base 1 "choices_of" eF:=h37.cal (ps:=["many","size"]) X G (λ_ _ _ _ _ _=>Hy.bd2 λ_ _=>rfl) λ_ F=>kL (k:=0) F hb
 have c_next_places:Cal l.prog w K mg base 2 "next_places" b7:=h38.cal (ps:=["step","places"]) X G (λ_ _ _ _ _ _=>Hy.bd2 λ_ _=>rfl) λ_ F=>km (k:=1) F hb c_rung_start c_rung_end
 have c_counts_ahead:Cal l.prog w K mg base 3 "counts_ahead" (cP l.prog w):=h39.cal (ps:=["ladder","ends"]) X G (λ_ _ _ _ _ _=>Hy.bd2 λ_ _=>rfl) λ_ F=>i8 (k:=2) F hb (c_choices_of.mono (by decide)) c_next_places
 have c_longer_trails:Cal l.prog w K mg base 3 "longer_trails" (cA l.prog w):=h40.cal (ps:=["found","step","counts"]) X G (λ_ _ _ _ _ _=>Hy.bd3 λ_ _ _=>rfl) λ_ F=>iM (k:=2) F hb c_next_places
 have c_trails:Cal l.prog w K mg base 4 "trails" kz:=h41.cal (ps:=["ladder","starts","ends"]) X G (λ_ _ _ _ _ _=>Hy.bd3 λ_ _ _=>rfl) λ_ F=>uI (k:=3) F hb y_MOST_LISTED c_counts_ahead c_longer_trails
 have c_families:∀ fs,qO l.prog w K mg base 8 "families" (gu fs):=λfs=>h42.Ea (ps:=["ladder","rows","columns"]) X G (λ_ _ _ _ _ _=>Hy.bd3 λ_ _ _=>rfl) λ_ F=>og (k:=7) F hb (c_look_ends.mono (by decide)) (c_family_on.mono (by decide)) (c_trails.mono (by decide)) fs
 have c_l_plus:Cal l.prog w K mg base 3 "_law_plus" j4:=h43.cal (ps:=["_law_one","_law_other"]) X G (λ_ _ _ _ _ _=>Hy.bd2 λ_ _=>rfl) λ_ F=>ui (k:=2) F hb c_l_made
 have c_l_apart:Cal l.prog w K mg base 1 "_law_apart" iB:=h44.cal (ps:=["_law_way","_law_others"]) X G (λ_ _ _ _ _ _=>Hy.bd2 λ_ _=>rfl) λ_ F=>qm (k:=0) F hb
 have c_l_goes:Cal l.prog w K mg base 1 "_law_goes" jB:=h45.cal (ps:=["_law_step","_law_track"]) X G (λ_ _ _ _ _ _=>Hy.bd2 λ_ _=>rfl) λ_ F=>uk (k:=0) F hb
 have c_l_good_family:Cal l.prog w K mg base 2 "_law_good_family" cn:=h46.cal (ps:=["_law_ladder_here","_law_family","_law_rows_here","_law_columns"]) X G (λ_ _ _ _ _ _=>Hy.bd4 λ_ _ _ _=>rfl) λ_ F=>iL (k:=1) F hb c_l_apart c_l_goes
 have c_l_times:Cal l.prog w K mg base 3 "_law_times" fQ:=h47.cal (ps:=["_law_one","_law_other"]) X G (λ_ _ _ _ _ _=>Hy.bd2 λ_ _=>rfl) λ_ F=>pY (k:=2) F hb c_l_made
 have c_l_way_weight:Cal l.prog w K mg base 4 "_law_way_weight" cQ:=h48.cal (ps:=["_law_ladder_here","_law_way"]) X G (λ_ _ _ _ _ _=>Hy.bd2 λ_ _=>rfl) λ_ F=>jg (k:=3) F hb c_l_times
 have c_l_sum:Cal l.prog w K mg base 9 "_law_sum" nR:=h49.cal (ps:=["_law_ladder_here","_law_rows_here","_law_columns"]) X G (λ_ _ _ _ _ _=>Hy.bd3 λ_ _ _=>rfl) λ_ F=>xv (k:=8) F hb (λfs=>(c_families fs).mono (by decide)) (c_l_good_family.mono (by decide)) (c_l_way_weight.mono (by decide)) (c_l_times.mono (by decide)) (c_l_plus.mono (by decide))
 have c_l_cell:Cal l.prog w K mg base 1 "_law_cell" jx:=h50.cal (ps:=["_law_script","_law_k"]) X G (λ_ _ _ _ _ _=>Hy.bd2 λ_ _=>rfl) λ_ F=>ua (k:=0) F hb
 have c_l_det:Cal l.prog w K mg base 1 "_law_det" nA:=h51.cal (ps:=["_law_rows_here"]) X G (λ_ _ _ _ _ _=>Hy.bd1 λ_=>rfl) λ_ F=>xj (k:=0) F hb
 exact Az (k:=9) (qD l0 c r) hb (c_l_drawn.mono (by decide)) (c_l_ends.mono (by decide)) (c_table_of.mono (by decide)) (c_l_rows.mono (by decide)) c_l_sum (c_l_ladder.mono (by decide)) (c_l_cell.mono (by decide)) (c_l_det.mono (by decide))
theorem walk {l:Jj} {q:Program} {loose:List Str} {XP:(Str->Option Value)->Heap->Prop} {YP:World->Heap->Prop} {d:DefRec} {K:Params->Ej} (hn:l.most=some 63) (hdf:d.params.defaults=[])
   (hY:∀ (w:World) (h:Heap),YP w h->(K w.params).In h)
   (F:∀ (w:World) (mg:Str->Option Value) (fa:Addr) (h:Heap),(K w.params).In h->h.Ns mainGlobals mg->mg d.name=some (.ref fa) ->
     ∃ fd:FuncData,(∀ (s:Shared) (u:Value),BindsTo s fd ⟨[u],[]⟩ [("_law_script",u)])/\∀ base:Heap,(K w.params).In base->base.Ns mainGlobals mg->aS l.prog w (K w.params) mg base CX0 10 fa fd ["_law_script"] (spD (K w.params) tw)) :
   PySem.W.WalkO q loose XP YP l.row.toRowW d [] (λf vs=>PySem.call f vs):=
 L2.yV (n:=63) (k:=10) (x:="_law_script") (CX:=λ_=>CX0) (sp:=λw=>spD (K w.params) tw) hn (by decide) hdf ⟨rfl,by decide,by decide⟩ hY F
   (λw H a ns hl _ hS=>zp (λns h=>⟨ns,h,rfl,rfl⟩) H a ns hl hS) λ_ _ _ _ _ z=>z
end K26
open PySem PySem.W PyProof.Rows
namespace PySem.W.Fast
theorem tw4839209719189350522:True:=⟨⟩
theorem tw10560810801130973888:True:=⟨⟩
theorem tw9623550269566162472:True:=⟨⟩
theorem tw13814762819789826513:True:=⟨⟩
theorem tw6664113396309171630:True:=⟨⟩
theorem tw17272715620543229097:True:=⟨⟩
theorem tw16800336749159734940:True:=⟨⟩
theorem tw5419987530772599256:True:=⟨⟩
theorem tw11830887160561358405:True:=⟨⟩
theorem tw16205908232226708415:True:=⟨⟩
theorem tw3163487704209460034:True:=⟨⟩
theorem tw9565331725055560838:True:=⟨⟩
theorem tw13934000719336025296:True:=⟨⟩
theorem tw13934752963081807012:True:=⟨⟩
theorem tw12046540955088348539:True:=⟨⟩
theorem tw1458997731867124069:True:=⟨⟩
theorem tw1486145758616346675:True:=⟨⟩
theorem tw5457116341693431281:True:=⟨⟩
theorem tw16702698527052519301:True:=⟨⟩
theorem tw9209963649329611971:True:=⟨⟩
theorem tw15531152920839899668:True:=⟨⟩
theorem tw10009978937795787223:True:=⟨⟩
theorem tw6309536384880151668:True:=⟨⟩
theorem tw16740638897854927390:True:=⟨⟩
theorem tw2049032431594662121:True:=⟨⟩
theorem tw15100022784047014111:True:=⟨⟩
theorem tw17264245616204055199:True:=⟨⟩
theorem tw17982576560525423574:True:=⟨⟩
theorem tw1665455533704984762:True:=⟨⟩
theorem tw17829946203274339872:True:=⟨⟩
theorem tw1585218896071253625:True:=⟨⟩
theorem tw5110699400149446686:True:=⟨⟩
theorem tw17479814240950209396:True:=⟨⟩
theorem tw3236794014096176608:True:=⟨⟩
theorem tw11416369442234451771:True:=⟨⟩
theorem tw2193240902149735488:True:=⟨⟩
theorem tw6185630368359493820:True:=⟨⟩
theorem tw1164814199686098233:True:=⟨⟩
theorem tw706693014114316333:True:=⟨⟩
theorem tw7773496612343252248:True:=⟨⟩
theorem tw13284951003481332067:True:=⟨⟩
theorem tw9527594411530975802:True:=⟨⟩
theorem tw3265154329979683111:True:=⟨⟩
theorem tw17164541551274947644:True:=⟨⟩
theorem tw14779125408490683362:True:=⟨⟩
theorem tw11456539716340635048:True:=⟨⟩
theorem tw7309596203535503214:True:=⟨⟩
theorem tw17847614234514899166:True:=⟨⟩
theorem tw14101366532197341436:True:=⟨⟩
theorem tw5983366671962344813:True:=⟨⟩
theorem tw6709638303054112855:True:=⟨⟩
theorem tw2168934330949699589:True:=⟨⟩
theorem tw326772119248408891:True:=⟨⟩
theorem tw5756770469738670581:True:=⟨⟩
theorem tw1015413195519205082:True:=⟨⟩
theorem tw18173609111865496407:True:=⟨⟩
theorem tw12383971807580512256:True:=⟨⟩
theorem tw13118325923737212612:True:=⟨⟩
theorem tw12267863203987948005:True:=⟨⟩
theorem tw4836537943751082646:True:=⟨⟩
theorem tw14919974219425667512:True:=⟨⟩
theorem tw2101790461745139968:True:=⟨⟩
theorem tw14155291895449431259:True:=⟨⟩
theorem tw238601023536497707:True:=⟨⟩
theorem tw10286579650224876620:True:=⟨⟩
theorem tw12689631915274067904:True:=⟨⟩
theorem tw9776870201647331527:True:=⟨⟩
theorem tw5270531578482226002:True:=⟨⟩
theorem tw12161039594545525945:True:=⟨⟩
theorem tw17345814783507119142:True:=⟨⟩
theorem tw5714279914028119175:True:=⟨⟩
theorem tw5485016058626975231:True:=⟨⟩
theorem tw7755450231112958107:True:=⟨⟩
theorem tw16224283361921850577:True:=⟨⟩
theorem tw17211353453385651386:True:=⟨⟩
theorem tw2929023365119390527:True:=⟨⟩
theorem tw7799598380208206097:True:=⟨⟩
theorem tw9715665712505168936:True:=⟨⟩
theorem tw9068120731489340494:True:=⟨⟩
theorem tw6816389683641488110:True:=⟨⟩
theorem tw10863093778092803420:True:=⟨⟩
theorem tw13579248197958775716:True:=⟨⟩
theorem tw11479872265698507464:True:=⟨⟩
theorem tw11576321792194676700:True:=⟨⟩
theorem tw12132801340715829085:True:=⟨⟩
theorem tw7613444139723349661:True:=⟨⟩
theorem tw8080380425975150493:True:=⟨⟩
theorem tw2392081367077723015:True:=⟨⟩
theorem tw18175885917657641762:True:=⟨⟩
theorem tw4964744798991220400:True:=⟨⟩
theorem tw2980398767379057082:True:=⟨⟩
theorem tw2433528672403212034:True:=⟨⟩
theorem tw5718371677251764721:True:=⟨⟩
theorem tw199745023896016239:True:=⟨⟩
theorem tw11103617618717154806:True:=⟨⟩
theorem tw4938095380139751363:True:=⟨⟩
theorem tw17403358810284951096:True:=⟨⟩
theorem tw5005098844068284193:True:=⟨⟩
theorem tw9499457244789780563:True:=⟨⟩
theorem tw18163689949969289413:True:=⟨⟩
theorem tw5838849134788441517:True:=⟨⟩
theorem tw8114033278314439312:True:=⟨⟩
theorem tw4431976159657586579:True:=⟨⟩
theorem tw17267313278224327400:True:=⟨⟩
theorem tw5966739932782870663:True:=⟨⟩
theorem tw6835392060129274146:True:=⟨⟩
theorem tw10262777732985212846:True:=⟨⟩
theorem tw2957815056462513887:True:=⟨⟩
theorem tw3327602610150956873:True:=⟨⟩
theorem tw16247982591692932520:True:=⟨⟩
theorem tw16153002738732692728:True:=⟨⟩
theorem tw14365402108789437478:True:=⟨⟩
theorem tw14575352627828201064:True:=⟨⟩
theorem tw9686388607811385748:True:=⟨⟩
theorem tw9593077072461444814:True:=⟨⟩
theorem tw14715456742959063126:True:=⟨⟩
theorem tw14441781151183922522:True:=⟨⟩
theorem tw15588755425946796339:True:=⟨⟩
theorem tw9472684655839521691:True:=⟨⟩
theorem tw1713198739511950020:True:=⟨⟩
theorem tw599534975856339570:True:=⟨⟩
theorem tw6665417411215130735:True:=⟨⟩
theorem tw14089712359085690437:True:=⟨⟩
end PySem.W.Fast
set_option maxRecDepth 100000 in
set_option maxHeartbeats 0 in
theorem PySem.Challenge.cw_signsmooth_k26_whole_determinant_by_fami_holds : PySem.Challenge.rw_signsmooth_k26_whole_determinant_by_fami.Holds := by
 w_on; o_law; k_head; (case hw=>w_witness2)
 k_fill
 refine K26.walk (l:=PySem.Challenge.rw_signsmooth_k26_whole_determinant_by_fami) rfl rfl (λw h Y=>PySem.W.kIn_of Y) ?F
 case F=>
   intro w mg fa h KX G hmg
   refine' K26.all_mk KX G hmg (.of ?_ ?_ ?_ ?_) (.of ?_ ?_ ?_ ?_) (.of ?_ ?_ ?_ ?_) (.of ?_ ?_ ?_ ?_) (.of ?_ ?_ ?_ ?_) (.of ?_ ?_ ?_ ?_) (.of ?_ ?_ ?_ ?_) (.of ?_ ?_ ?_ ?_) (.of ?_ ?_ ?_ ?_) (.of ?_ ?_ ?_ ?_) (.of ?_ ?_ ?_ ?_) (.of ?_ ?_ ?_ ?_) (.of ?_ ?_ ?_ ?_) (.of ?_ ?_ ?_ ?_) (.of ?_ ?_ ?_ ?_) (.of ?_ ?_ ?_ ?_) (.of ?_ ?_ ?_ ?_) (.of ?_ ?_ ?_ ?_) (.of ?_ ?_ ?_ ?_) (.of ?_ ?_ ?_ ?_) (.of ?_ ?_ ?_ ?_) (.of ?_ ?_ ?_ ?_) (.of ?_ ?_ ?_ ?_) (.of ?_ ?_ ?_ ?_) (.of ?_ ?_ ?_ ?_) (.of ?_ ?_ ?_ ?_ ?_) (.of ?_ ?_ ?_ ?_) (.of ?_ ?_ ?_ ?_) (.of ?_ ?_ ?_ ?_) (.of ?_ ?_ ?_ ?_) (.of ?_ ?_ ?_ ?_) (.of ?_ ?_ ?_ ?_) (.of ?_ ?_ ?_ ?_) (.of ?_ ?_ ?_ ?_) (.of ?_ ?_ ?_ ?_) (.of ?_ ?_ ?_ ?_) (.of ?_ ?_ ?_ ?_) (.of ?_ ?_ ?_ ?_) (.of ?_ ?_ ?_ ?_) (.of ?_ ?_ ?_ ?_) (.of ?_ ?_ ?_ ?_) (.of ?_ ?_ ?_ ?_) (.of ?_ ?_ ?_ ?_) (.of ?_ ?_ ?_ ?_) (.of ?_ ?_ ?_ ?_) (.of ?_ ?_ ?_ ?_) (.of ?_ ?_ ?_ ?_) (.of ?_ ?_ ?_ ?_) (.of ?_ ?_ ?_ ?_) (.of ?_ ?_ ?_ ?_) (.of ?_ ?_ ?_ ?_) (.of ?_ ?_ ?_ ?_) (.of ?_ ?_ ?_ ?_) ⟨?_,?_,?_,?_,?_,?_,?_,?_,?_,?_,?_,?_,?_,?_,?_,?_,?_,?_,trivial⟩ ?_ ?_ ?_
   all_goals try k_is
#print axioms PySem.Challenge.cw_signsmooth_k26_whole_determinant_by_fami_holds
