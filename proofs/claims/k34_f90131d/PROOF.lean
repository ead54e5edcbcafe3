import PyProof.Rows.All
import Wide.All
import OpenK.AllK
import Wide.FinOn
import Lean
import PyProof.EqAt
import PyProof.EqKinds
import PyProof.TupleCall
import PyProof.DictKeyH
import PyProof.DictFindH
import PyProof.StrCalls2
import PyProof.StrCalls3
import PyProof.StrCalls
import PyProof.StrWalks
import PyProof.FString
import KE.KIntText
import PyProof.FitsReplace
import PyProof.StrLawsTight
import PyProof.StrLawsOcc
import PyProof.StrBlockI
import PyProof.SliceStr2
import PyProof.StrLawsChain
import PyProof.StrLaws
import PyProof.Rows.StrJoinMade
import PyProof.StrLawsIdx
import PyProof.StrLawsJoin
import KE.KDictList
import PyProof.DictWalks
import PySem.Challenge.RW_signsmooth_k34_large_ones_taken_apart
set_option genSizeOf false
set_option bootstrap.genMatcherCode false
set_option Elab.async false
set_option linter.all false
set_option maxRecDepth 100000
set_option exponentiation.threshold 4000
open PySem renaming wpAny_bind->AC,Shared->Da,starEach->Do,wpAny_pure->Fk,Program->FB,compareOp->Gc,FuncData->GE,wpAny_newObj_type->GM,Around->GT,mainGlobals->IR,binaryOp->KB,assignEach->KF,wpAny_truthy_bool->KM,cellsFrom->M4,backTo->M5,holding->M6,swapsWith->M7,wpAny_loadPart'->M8,attributeBase->M9,wpAny_of_eq->MV,Keyword->MW,wpAny_specialOf->MX,bootBuiltins->MY,sysModules->MZ,NameKind->N0,codeAny_builtin->N1,keywordEach->N2,behindInMarks->N3,wpAny_call_entry->N4,pushCells->N5,wpAny_typeNameOfWhole_keyiter->N6,IsRangeIter->N7,wpAny_pyIter_rangeiter->N8,wpAny_passesOwn->N9,wpAny_holding->Na,plainId_quiet->Nb,rawInt->Nc,wpAny_typeNameOf_keyiter->Nf,swapsWithSole->Ng,swappedStores->Nh,wpAny_callSpecial?_slot->Ni,backToKw->Nj,wpAny_forIn_list->Nk,eqIsQuiet->Nl,call_meets->Nm,sliceBounds->Nn,pushCells_keeps->Np,codeAny->Nq,wpAny_seqItems->Nr,wpAny_mono->Nt,standAt->Nu,setItem->Nv,pyNext->Nw,wpAny_isInstance->Nx,wpAny_rule->Ny,reduceHash->Nz,wpAny_execs_nil->NB,letOwnedTupleGo->NC,wpAny_callSpecialIfBoundUnlessNone?_slot->ND,wpAny_tryCatch->NF,wpAny_pyIter_keyiter->NG,wpAny_field->NH,firstArgMember->NI,release->NJ,getItem->NK,IsRange->NL,DictEntry->NM,wpAny_Call_Name_kw->NN,entryOfKey->NP
open PyProof.Rows renaming AllBare->NA,envOfC->NO,boot_range->NQ
open List renaming length_map->bp,mem_singleton->gV,range->ox,getElem?_eq_getElem->ph,getElem?_eq_some_iff->rp,mem_append_right->tf,length_append->vp,mem_append->x3,mem_cons_of_mem->Et,mem_map->Hu,getElem?_append_left->Hv,mem_cons->HA,map_append->HB,size_toArray->HD,mem_append_left->HE,getD_eq_getElem?_getD->HF,getElem?_set_ne->HI,mem_range->HN,take_of_length_le->HP,getElem?_map->HR,length_set->HV,replicate->HY,map_congr_left->HZ,getElem?_set_self->Ic,mem_or_eq_of_mem_set->Ig,mem_cons_self->Ih,map_cons->Ii,append_assoc->Ij,map_map->Ik,append_nil->Io,getElem?_append_right->Iu,length_range->Iw,range_succ->Iz,length_cons->IA,nodup_cons->IB,lookup_cons->IF,length_take->IG,nodup_append->II,cons_append->IL,all_eq_true->IM,mem_of_getElem?->IP,mem_flatMap->IW,ext_getElem->IX,filter_append->Jc,not_mem_nil->Jf,getElem_map->Jg,length_reverse->Jk,mem_filter->Jm,getElem?_eq_none->Jn,getElem_mem->Jt,replicate_succ->Jv,flatMap_append->Jw,find?_cons->Jx,length_eraseIdx_of_lt->JA,foldl_append->JH,flatten_cons->JI,nodup_nil->JO,mem_of_find?_eq_some->JY,any_eq_true->J0,getElem_of_mem->J5,length_eq_zero_iff->Ke,filter_congr->Kk,length_drop->Kr,filter_cons->Ks,mem_of_mem_take->Kt,foldl_cons->KG,getElem_range->KS,drop_eq_getElem_cons->KY,getD->K8,map_take->Lb,getElem?_replicate->Le,mem_reverse->Lj,find?_cons_of_pos->Ll,find?_cons_of_neg->Lm,take_append_drop->Lw,map_nil->Lx,length_singleton->Ly,length_nil->Lz,filter_nil->LA,filterMap_cons->LJ,flatten_replicate_singleton->LY,pairwise_map->L3,find?_append->L4,map_set->Mc,dropLast_concat_getLast->Ml,of_mem_zip->Mq,take_succ->MA,drop_zero->MB,getElem?_take_of_lt->MD,filter_cons_of_pos->MJ,filter_cons_of_neg->MK,any_cons->MM,range_succ_eq_map->MS,drop_of_length_le->MT
open PySem.W renaming Frag->fw,keepIn->JL,kia_one->JP,fnOf->JQ,nsIn->KA,codeIn->KI,mg_of->K4,methodObj->LM,OpenLaw->L7,cellsFrom_some->My
open PySem.Heap renaming get?_push_of_some->pq,lt_size->Hw,get?_push_size->Hz,get?_update_other->IT,size_push->Ja,get?_update_self->JS,SameBut->KO
open Int renaming toNat_natCast->HC,gcd->IE,natAbs_mul->Jd,fdiv_eq_ediv_of_nonneg->Ji,fmod_eq_emod_of_nonneg->JB,toNat->J1,natAbs_neg->J2,toNat_of_nonneg->J8,eq_ofNat_of_zero_le->Ki,fmod_nonneg_of_pos->Kl,natCast_nonneg->KZ,fmod_lt_of_pos->K0,ediv_one->K1,natCast_pow->LI,ofNat->LZ,natAbs_natCast->L1,gcd_dvd_left->Mm,mul_pos->Mx,natAbs_ediv_le_natAbs->ME,mul_le_mul->MF,mul_ediv_cancel_left->MN,mul_assoc->MU
open Bool renaming false_ne_true->HG,and_eq_true->Iy,false_eq_true->Je,eq_iff_iff->JJ,or_false->LR,not_true->LS,or_true->Md
open Nat renaming lt_of_lt_of_le->HH,le_trans->HJ,zero_le->HL,pow_le_pow_right->HS,mul_le_mul_right->HU,lt_of_le_of_lt->HX,le_refl->Ia,ne_of_lt->Il,succ_mul->IS,two_pow_pos->IU,mul_le_mul->IV,lt_trans->Jh,lt_or_ge->Jo,le_of_lt->Jp,pow_add->Jz,eq_zero_or_pos->JD,testBit_two_pow_of_ne->JF,add_assoc->JN,lt_succ_self->J4,zero_add->J9,testBit_two_pow_self->Ka,lt_succ_of_lt->Ko,testBit_or->Kp,pow_lt_pow_right->Kv,eq_of_testBit_eq->Kw,lt_irrefl->Kz,min_eq_left->KJ,log2_lt->KL,mul_lt_mul_of_pos_left->KR,sub_self->KW,le_succ->Lg,exists_eq_add_of_le->Lh,add_sub_cancel_left->Li,succ_ne_self->Lk,testBit_lt_two_pow->Ln,pow_succ->LD,le_of_ble_eq_true->LF,gcd_comm->LG,add_zero->LH,mul_le_mul_left->LO,add_le_add_left->LP,mul_assoc->LX,not_lt->Ma,lt_trichotomy->Mb,succ_le_succ->Mk,le_mul_of_pos_right->MR
open Classical renaming byContradiction->HM
open PySem.Builtin.Tuple renaming tupleHashOf->HQ,tupleExact->JT,tupleItemsOf->Kn
open Rat renaming intCast_mul->HW,mul_zero->Ie,zero_mul->Iq,add_zero->Ir,one_mul->IC,div_mul_cancel->Jq,intCast_neg->Jy,mul_assoc->JC,mul_one->JE,mul_comm->JK,zero_add->JU,intCast_add->Kg,le_refl->Km,mul_eq_zero->KH,mul_nonneg->K2,le_of_mul_le_mul_left->K3,num_eq_zero->LB,mul_pos->LK,le_iff_lt_or_eq->LL,mul_le_mul_of_nonneg_left->Mh,intCast_pos->Mt,natCast_eq_zero_iff->MO
open PyProof.Rows renaming callWith_type1->Ib,slot_tuple_getitem->Lv
open Option.some renaming inj->Im,injEq->Ky
open PySem.Value renaming ref->Ip,none->Jb,bool->Jj,builtin->JV,type->Lp,str->MP,int->MQ
open Ne renaming symm->ID
open Or renaming inr->IH,inl->JM
open PySem.F renaming plainAttrs_list->IJ,slot_dict_keyiterator_next->Ju,plain_min_loop->JR,slot_list_extend->Kc,slot_list_append->Kd,plain_reversed_new->KC,type_list_extend->KP,type_list_append->KQ,entry_tuple_add->K5,slot_tuple_add->K9,slot_tuple_hash->Lf,args_dict_keyiterator_next_1->Lq,entry_dict_keyiterator_next->LC,slot_list_insert->Mo,entry_min_loop->Mu,slot_dict_iter->Mz,slot_dict_get->MC,slot_range_iterator_next->MG
open PySem.PyData renaming eqv->IQ,canLay0->JW,depth->Kj,eqvAll->K7,canLayAll0->LQ,depthAll->Mg
open Array renaming length_toList->IY,getElem?_eq_getElem->JX,forIn_toList->KN,getElem?_toList->Lo,toList->L5
open PySem.NameKind renaming free->IZ,cell->Jr
open Option renaming map_some->Jl,map_eq_some_iff->Kh,isSome_iff_exists->KU,getD_some->La
open PySem.Around renaming under_plainId->Js
open True renaming intro->JG
open PySem renaming mem_of_lookup->JZ,Env->Kx
open ForInStep renaming yield->J3
open Function renaming comp->J6
open False renaming elim->J7
open PySem.Calls renaming spliced_cons->Kb,spliced_nil->K6,Name_function_global->Mp,callWith_builtin->MH
open Sum renaming inl->Kf,inr->Mr
open PySem.Builtin.Slice renaming slicePlaces->Kq,sliceAdjust->LN
open PySem.Builtin.List renaming listTooLong->Ku
open PySem.Builtin renaming bitNot->Lr,bitAnd->Mj,bitOr->Mv
open PySem.Builtin.Builtins renaming bindParams->Lu
open PySem.PassesOwn renaming never->LU
open PySem.Obj renaming mapFields->LV,mapSeq->L8
open PySem.Builtin.Range renaming rangeSize->LW
open Sum.inl renaming inj->L6
open PySem.IsRange renaming new->L9
open PySem.Str renaming ofString->Mf
open PySem.Walks renaming range->Mi
open PySem.Heap.SameBut renaming update->Mn
open List.Pairwise renaming nil->Mw
local macro_rules
 | `(.(0)) => `((by omega))
 | `(.(1)) => `(⟨rfl,rfl,rfl,by decide +kernel,rfl,by decide +kernel,by decide +kernel⟩)
 | `(.(2)) => `((by decide))
 | `(.(3)) => `((Ia _))
 | `(.(4)) => `((by simp))
 | `(.(5)) => `((Ih ..))
 | `(.(6)) => `((Nat.not_lt_zero _))
 | `(.(7)) => `((LP (by decide:16<=64) _))
 | `(.(8)) => `((IH rfl))
 | `(.(9)) => `((JM rfl))
 | `(.(10)) => `((Kz _))
 | `(.(11)) => `(⟨by omega,by omega⟩)
 | `(.(12)) => `(⟨by decide,by decide,by decide⟩)
 | `(.(13)) => `((by simp only[HD] <;> omega))
 | `(.(14)) => `(⟨by omega,by omega,by omega,by omega⟩)
 | `(.(15)) => `((by rw[bp]; omega))
 | `(.(16)) => `((by simp; omega))
 | `(.(17)) => `((Lg _))
 | `(.(18)) => `((bp ..))
 | `(.(19)) => `((by rw[HD]; omega))
 | `(.(20)) => `((by first | rfl | kernel_rfl))
 | `(.(21)) => `((by rw[Ik]; rfl))
 | `(.(22)) => `((by decide +kernel))
 | `(.(23)) => `((by rw[IG]; omega))
 | `(.(24)) => `((PySem.F.args_tuple_add_2 _ _))
 | `(.(25)) => `(⟨_,0,rfl,by decide,rfl⟩)
 | `(.(26)) => `((KZ _))
local macro_rules|`(tactic|omega)=>`(tactic|first|assumption|lia|omega +splitMinMax)
set_option hygiene false
local macro_rules
|`(.(100))=>`(model X.prog X.w)
|`(.(101))=>`(bN τ (bCp X.N scope)++[Sl.un])
|`(.(102))=>`(ao.refl _)
|`(.(103))=>`(Addr×Obj)
|`(.(104))=>`(cpX X s H scope fp)
|`(.(105))=>`(aT X s H scope N fp)
|`(.(106))=>`(.Name n p)
|`(.(107))=>`(model prog w)
|`(.(108))=>`(M.getD i [])
|`(.(109))=>`(b.comp s0 H0 _ fp)
|`(.(110))=>`(ae (aa 0) ag)
|`(.(111))=>`(bI (ae cw (ae (aa 5) (ae (x_call b c_l_weight (ae (aM (aa 2) (qQ (bh b (ae (jU 3) ag) gy)) (a6 (wt _ hp))) (ae af ag)) .(25)) ag))))
|`(.(112))=>`(mkM (vMn R n) (lks R n m))
|`(.(113))=>`(apF n A k)
|`(.(114))=>`(dS X.K τ N)
|`(.(115))=>`(rangeFitsLong m&&rangeFitsLong n&&rangeFitsLong 1&&rangeFitsLong (-1)&&rangeFitsLong (m-1)&&rangeFitsLong (rangeSize m n 1))
|`(.(116))=>`(rangeFitsLong 0&&rangeFitsLong n&&rangeFitsLong 1&&rangeFitsLong (-1)&&rangeFitsLong (0-1)&&rangeFitsLong (rangeSize 0 n 1))
|`(.(117))=>`((false,eval e X.env))
|`(.(118))=>`((false,eval a X.env))
|`(.(119))=>`(.Attribute (.Name n q) "pop" ap2)
|`(.(120))=>`(aT X s2 H2 scope N fp)
|`(.(121))=>`(ss.reverse.getD i ("weigh",0,0))
|`(.(122))=>`(mkM (vMn R n) (lks R n i))
|`(.(123))=>`(List Rat)
|`(.(124))=>`(.ListComp elt [⟨tg,iter,ifs,0⟩] scope pos)
|`(.(125))=>`(List Int)
|`(.(126))=>`(dE X.K C τ (.d x))
|`(.(127))=>`((chs n i).getD l [])
|`(.(128))=>`(Xc P w K mg base ["_law_rows_here","_law_wide","_law_made_here","_law_i","_law_lines","_law_longer","_law_mask","_law_behind_it","_law_j","_law_key","_law_part"] qual (top 50) f cdv A outer s H E)
|`(.(129))=>`(.ref s.heap.objs.size)
|`(.(130))=>`((items.toList.drop (sIx items.size 0 lo)).take (sIx items.size items.size hi-sIx items.size 0 lo))
|`(.(131))=>`(List Int×List Int)
|`(.(132))=>`(.Call (.Attribute .(106) "extend" ap) [e] [] cp)
namespace Hx
open PySem PySem.Spec PyProof.Rows
theorem mJ:entryFor table "proto.unchain" = some Builtin.«proto.unchain»:=entryFor_of_tree (by kernel_rfl)
section
variable {prog:FB}{w:World}{A:GT}{E:Value->Da->Prop}{s:Da}
theorem pR (hh:A.handled=some (.ref h))(hne:h≠a)(ha:s.heap.get? a=some oa)(hda:oa.data=.fields us)(hsz:2<us.size)
   (ho:s.heap.get? h=some oh) (hd:oh.data=.fields vs) (h2:vs[2]?=some .none)
   (q:E (.ref a) { s with heap:=s.heap.update a (LV (·.setIfInBounds 2 (.ref h))) }):wpAny .(107) A (raiseNew (.ref a):Sem α) Q E s:=by
 unfold raiseNew; refine AC (wpAny_handled ?_); rw[hh]
 dsimp only;rw[if_pos (show (Ip h != Ip a)=true by simp[hne])];refine AC (Na (wpAny_runValue (N1 mJ ?_)));unfold Builtin.«proto.unchain»;dsimp only;refine AC (NH ho hd h2 ?_);rw[if_pos (show (Jb==Jb)=true by decide)];refine Fk ?_;show wpAny _ A (do let _ <- updateField a 2 (.ref h); throw (Ip a)) _ _ _;unfold updateField;refine AC (AC (wpAny_load ha ?_));rw[hda];dsimp only;rw[if_pos hsz];exact wpAny_update ha (wpAny_throw q)
theorem tO {r h:Addr}{v left step:Int}{oh:Obj}{vs:Array Value}{Q:Option Value->Da->Prop}(hh:A.handled=some (.ref h))(ho:s.heap.get? h=some oh)(hd:oh.data=.fields vs)(h2:vs[2]?=some .none)
   (hr:N7 s.heap r v left step) (hl:left<=0) (k:∀h',Heap.ExtBut r s.heap h'->Q none { s with heap:=h' }):wpAny .(107) A (Nw (.ref r)) Q E s:=by
 have ty:s.TypeIs (.ref r) "range_iterator":=⟨_,hr,rfl⟩;have hlt:=Hw ho
 have fl:∀{α:Type} {B:GT} {F:Value->Da->Prop} {R:α->Da->Prop} (i:Nat) (y:Int) {f:Value->Sem α},(#[Nc v,Nc left,Nc step]:Array Value)[i]?=some (Nc y)->wpAny .(107) B (f (Nc y)) R F s->wpAny .(107) B (field (.ref r) i >>= f) R F s:=by
   intro α B F R i y f e q;exact AC (NH hr rfl e q)
 unfold Nw;refine AC (wpAny_attempt (Ni (name:=Mf "__next__") ty MG (N4 MG ty F.entry_range_iterator_next (fl 0 v rfl (fl 1 left rfl (fl 2 step rfl ?_))) (F.args_range_iterator_next_1 _))));show wpAny .(107) A.in1 (if left<=0 then _ else _) _ _ s;rw[if_pos hl];refine AC (Ny (AC ?_));show wpAny _ _ (do let e <- newExc (.type "StopIteration") []; _) _ _ _;refine AC ?_;simp only[newExc,newTuple];refine AC (GM (AC (m:=NI _ _) (MV (a:=.none) (by first | rfl | (simp only[NI]; rfl)) (GM ?_ (by size_fits)))) (by size_fits))
 have hg:((s.heap.push { cls:=.type "tuple",data:=.seq ([]:List Value).toArray }).push { cls:=.type "StopIteration",data:=.fields (#[Ip s.heap.objs.size,.none,.none,.none,.bool false,.none]++ownMembersOf (.type "StopIteration") []) }).get? (s.heap.push { cls:=.type "tuple",data:=.seq ([]:List Value).toArray }).objs.size
     = some { cls:=.type "StopIteration",data:=.fields (#[Ip s.heap.objs.size,.none,.none,.none,.bool false,.none]++ownMembersOf (.type "StopIteration") []) }:=Hz _ rfl
 refine pR (h:=h) (A:=A.in1) hh ?_ hg rfl (by rw[Array.size_append]; exact HH (by decide:2<6) (Nat.le_add_right _ _)) (pq _ (pq _ ho)) hd h2 ?_
 . intro z;rw[Ja]at z;exact absurd hlt (by rw[z]; exact Ma.mpr .(17))
 have hu:=JS (LV (·.setIfInBounds 2 (.ref h))) hg rfl;refine AC (Nx (T:="StopIteration") (b:=true) ⟨_,hu,rfl⟩ isSubtype_stop ?_);refine Fk (k _ λb o hb e=>?_);have bl:=Hw e;rw[IT _ _ (by intro z; rw[Ja]at z; exact absurd bl (by rw[<- z]; exact Ma.mpr .(17)))];exact pq _ (pq _ e)
end
end Hx
set_option linter.all false
set_option maxRecDepth 100000
namespace L2
open PySem PySem.Spec PyProof.Rows
noncomputable abbrev Key:=Sum Int Str
noncomputable def nA:Key->Value->Bool
 | .inl k,v=>Value.isInt k v
 | .inr x,v=>Value.isStrOf x v
noncomputable def Hf (w:World):Key->Int
 | .inl k=>hashInt k
 | .inr x=>hashStr w x
theorem bx:∀{k:Key} {v:Value},nA k v=true->(∃i t,k=Kf i/\v=MQ i t)\/(∃x t,k=Mr x/\v=MP x t)
 | .inl i,v,h=>by
   obtain⟨t,e⟩:=Value.isInt_shape (k:=i) (v:=v) h;exact .inl ⟨i,t,rfl,e⟩
 | .inr x,v,h=>by
   obtain⟨t,e⟩:=Value.isStrOf_shape (x:=x) (v:=v) h;exact .inr ⟨x,t,rfl,e⟩
theorem wo (i:Int)(t:Tok):nA (.inl i) (.int i t)=true:=by simp[nA,Value.isInt]
theorem wk (x:Str)(t:Tok):nA (.inr x) (.str x t)=true:=by simp[nA,Value.isStrOf]
theorem Dz (a b:Int):decide ((Kf a:Key)=Kf b)=(a==b):=by
 by_cases e:a=b
 . subst e; simp
 . have h:¬(Kf a:Key)=Kf b:=λq=>e (L6 q)
   rw[decide_eq_false h];exact(beq_eq_false_iff_ne.mpr e).symm
theorem EC (a b:Str):decide ((Mr a:Key)=Mr b)=decide (a=b):=by
 by_cases e:a=b
 . subst e; simp
 . have h:¬(Mr a:Key)=Mr b:=λq=>e (Sum.inr.inj q)
   rw[decide_eq_false h,decide_eq_false e]
theorem De (a:Int)(b:Str):decide ((Kf a:Key)=Mr b)=false:=decide_eq_false (λq=>nomatch q)
theorem DZ (a:Str)(b:Int):decide ((Mr a:Key)=Kf b)=false:=decide_eq_false (λq=>nomatch q)
noncomputable def bX (prog:FB)(w:World):PySem.KeyKind prog w Key where
 is:=nA
 hash:=Hf w
 inj:=λv a b ha hb=>by
   rcases bx ha with ⟨i,t,rfl,rfl⟩ | ⟨x,t,rfl,rfl⟩
   . rcases bx hb with ⟨j,u,rfl,e⟩ | ⟨y,u,rfl,e⟩
     . injection e with e1 _; rw[e1]
     . exact nomatch e
   . rcases bx hb with ⟨j,u,rfl,e⟩ | ⟨y,u,rfl,e⟩
     . exact nomatch e
     . injection e with e1 _; rw[e1]
 byValue:=λk v h=>by
   rcases bx h with ⟨i,t,rfl,rfl⟩ | ⟨x,t,rfl,rfl⟩ <;> rfl
 pyHash:=λhv h=>by
   rcases bx hv with ⟨i,t,rfl,rfl⟩ | ⟨x,t,rfl,rfl⟩
   . exact wpAny_pyHash_int h
   . exact wpAny_pyHash_str h
 eqBool:=λhu hv h=>by
   rcases bx hu with ⟨i,t,rfl,rfl⟩ | ⟨x,t,rfl,rfl⟩
   . rcases bx hv with ⟨j,u,rfl,rfl⟩ | ⟨y,u,rfl,rfl⟩
     . rw[Dz]at h; exact wpAny_eqBool_int h
     . rw[De]at h; exact SeqAt.EqAt.int_str i t y u _ _ _ _ h
   . rcases bx hv with ⟨j,u,rfl,rfl⟩ | ⟨y,u,rfl,rfl⟩
     . rw[DZ]at h; exact SeqAt.EqAt.str_int x t j u _ _ _ _ h
     . rw[EC]at h; exact wpAny_eqBool_str h
 «strs»:=λk x t v h=>by
   rcases bx h with ⟨i,u,rfl,e⟩ | ⟨y,u,rfl,e⟩
   . exact nomatch e
   . injection e with e1 _;subst e1;cases v <;> rfl
theorem qp (prog:FB)(w:World)(i:Int)(t:Tok):(bX prog w).is (.inl i) (.int i t)=true:=wo i t
theorem q9 (prog:FB)(w:World)(x:Str)(t:Tok):(bX prog w).is (.inr x) (.str x t)=true:=wk x t
inductive V where
 | non | bl (b:Bool) | int (i:Int) | str (x:Str) | byt (b:Array UInt8) | flt (b:UInt64) | ref (a:Addr) | ty (n:String)
 deriving DecidableEq
noncomputable def RelV:V->Value->Prop
 | .non,u=>u=Jb
 | .bl b,u=>u=Jj b
 | .int i,u=>∃t,u=MQ i t
 | .str x,u=>∃t,u=MP x t
 | .byt b,u=>∃t,u=Value.bytes b t
 | .flt b,u=>∃t,u=Value.float b t
 | .ref a,u=>u=Ip a
 | .ty n,u=>u=Lp n
noncomputable abbrev Vals:List V->List Value->Prop:=Paired RelV
theorem Vals.length (r:Vals xs us):xs.length=us.length:=Paired.length r
theorem Vals.get:∀{xs:List V} {us:List Value} {i:Nat} {x:V},Vals xs us->xs[i]?=some x->∃u,us[i]?=some u/\RelV x u
 | _,_,_,_,.nil,e=>by simp at e
 | _,_,0,_,.cons r _,e=>by simp at e; subst e; exact⟨_,rfl,r⟩
 | _,_,i+1,x,.cons _ t,e=>by
   obtain⟨u,h1,h2⟩:=Vals.get (i:=i) (x:=x) t (by simpa using e);exact⟨u,by simpa using h1,h2⟩
theorem Vals.set (r:RelV x u):∀{xs:List V} {us:List Value} (i:Nat),Vals xs us->Vals (xs.set i x) (us.set i u)
 | _,_,_,.nil=>.nil
 | _,_,0,.cons _ t=>.cons r t
 | _,_,i+1,.cons q t=>.cons q (Vals.set r i t)
theorem Vals.append:∀{xs ys:List V} {us ws:List Value},Vals xs us->Vals ys ws->Vals (xs++ys) (us++ws)
 | _,_,_,_,.nil,s=>s
 | _,_,_,_,.cons r t,s=>.cons r (Vals.append t s)
theorem Vals.take:∀{xs:List V} {us:List Value} (n:Nat),Vals xs us->Vals (xs.take n) (us.take n)
 | _,_,0,_=>.nil
 | _,_,_+1,.nil=>.nil
 | _,_,n+1,.cons r t=>.cons r (Vals.take n t)
theorem Vals.drop:∀{xs:List V} {us:List Value} (n:Nat),Vals xs us->Vals (xs.drop n) (us.drop n)
 | _,_,0,r=>r
 | _,_,_+1,.nil=>.nil
 | _,_,n+1,.cons _ t=>Vals.drop n t
noncomputable def qV:Option V->Option Value->Prop
 | some v,some u=>RelV v u
 | none,none=>True
 | _,_=>False
noncomputable def KV {κ:Type}:List (κ×V)->List (κ×Value)->Prop:=Paired λ(p:κ×V) (q:κ×Value)=>p.1=q.1/\RelV p.2 q.2
noncomputable def kV:Key->V
 | .inl i=>.int i
 | .inr x=>.str x
inductive HO where
 | lst (xs:List V)
 | tup (xs:List V)
 | dK (kvs:List (Key×V)) | dT (kvs:List (List Key×V))
 | set (S:Int->Bool) (n:Nat)
 | ins (C dx:Addr) (fs:List (Str×V))
 | own (x:Addr)
 | xd (fs:List (Str×V))
 | met (f x:Addr)
 | rng (lo hi:Int)
 | frz (o:Obj) (u:HO)
 | tbl (ps:Array Value)
 | ext (φ:Heap->Prop)
noncomputable abbrev Hp:=Addr->Option HO
noncomputable def upd (H:Hp)(a:Addr)(o:HO):Hp:=λb=>if b=a then some o else H b
theorem aK :upd H a o a=some o:=by unfold upd; rw[if_pos rfl]
theorem aE (h:b≠a):upd H a o b=H b:=by unfold upd; rw[if_neg h]
theorem aZ {H:Hp}{a b:Addr}{o:HO}(h:H a=some o)(h':H b=none):a≠b:=by
 intro e; subst e; rw[h]at h'; cases h'
section
variable (P:FB)(w:World)
noncomputable def bL (H:Hp)(h:Heap)(a:Addr):HO->Prop
 | .lst xs=>xs.length<=sizeLine/\∃(its:List Value) (n:Nat),Vals xs its/\h.get? a=some { cls:=.type "list",data:=.seq its.toArray n }
 | .tup xs=>xs.length<=sizeLine/\∃its:List Value,Vals xs its/\IsTup h a its.toArray
 | .dK kvs=>kvs.length<=sizeLine/\(a==MZ)=false/\∃vs,KV kvs vs/\h.DictOf (bX P w) a vs
 | .dT kvs=>kvs.length<=sizeLine/\(a==MZ)=false/\∃xs:List (List Key×Addr×Value),
     Paired (λ(p:List Key×V) (q:List Key×Addr×Value)=>p.1=q.1/\H q.2.1=some (.tup (p.1.map kV))/\RelV p.2 q.2.2) kvs xs /\
     ∃o es ep,h.get? a=some o/\o.ExactDict/\o.data=.dict es ep/\es.toList=xs.map (NP (tupleKind (bX P w)))/\(xs.map (·.1)).Nodup
 | .set S n=>h.SetOf (intKind P w) a S n
 | .ins C dx fs=>H dx=some (.own a)/\fs.length<=1000/\dx≠a/\h.get? a=some (PySem.W.instObj C dx) /\
     ∃mA,h.Ns1 dx mA/\(∀f,qV (fs.lookup f) (mA f))/\PySem.Within mA (fs.map (·.1))
 | .own _=>∃o,h.get? a=some o
 | .xd fs=>∃mA,h.Ns1 a mA/\∀f,qV (fs.lookup f) (mA f)
 | .rng lo hi=>∃t u v,h.get? a=some { cls:=.type "range",data:=.fields #[.int lo t,.int hi u,.int 1 v] }
 | .frz o u=>h.get? a=some o/\bL H h a u
 | .tbl ps=>h.get? a=some { cls:=.none,data:=.fields ps }
 | .met f x=>h.get? a=some (LM (.ref f) (.ref x))
 | .ext φ=>φ h/\(∃o,h.get? a=some o)/\∀h1 h2:Heap,φ h1->(∀o,h1.get? a=some o->h2.get? a=some o)->φ h2
def HOk (H:Hp)(h:Heap):Prop:=∀a o,H a=some o->bL P w H h a o
end
section
variable {P:FB}{w:World}{H H':Hp}{h h':Heap}{a:Addr}{o:HO}
theorem bL.lt (x:bL P w H h a o):a<h.objs.size:=by
 cases o with
 | lst xs=>obtain⟨_,_,_,_,e⟩:=x; exact Hw e
 | tup xs=>obtain⟨_,_,_,p⟩:=x; exact p.lt
 | dK kvs=>obtain⟨_,_,_,_,o,_,_,e,_⟩:=x; exact Hw e
 | dT kvs=>obtain⟨_,_,_,_,o,_,_,e,_⟩:=x; exact Hw e
 | set S n=>obtain⟨o,_,_,_,e,_⟩:=x; exact Hw e
 | ins C dx fs=>obtain⟨_,_,_,e,_⟩:=x; exact Hw e
 | own y=>obtain⟨_,e⟩:=x; exact Hw e
 | xd fs=>obtain⟨_,⟨_,_,_,e,_⟩,_⟩:=x; exact Hw e
 | rng lo hi=>obtain⟨_,_,_,e⟩:=x; exact Hw e
 | frz ob u=>obtain⟨e,_⟩:=x; exact Hw e
 | tbl ps=>exact Hw (show h.get? a=some _ from x)
 | met f y=>exact Hw (show h.get? a=some _ from x)
 | ext φ=>obtain⟨_,⟨_,e⟩,_⟩:=x; exact Hw e
theorem Paired.EW :∀{l₁:List α} {l₂:List β},Paired F l₁ l₂->(∀a b,F a b->G a b)->Paired G l₁ l₂
 | _,_,.nil,_=>.nil
 | _,_,.cons r t,f=>.cons (f _ _ r) (Paired.EW t f)
theorem bL.lq (x:bL P w H h a o)(k:∀b u,(b=a\/H b=some (.own a))->h.get? b=some u->h'.get? b=some u)
   (ho:∀b,H b=some (.own a)->H' b=some (.own a)) (ht:∀b xs,H b=some (.tup xs)->H' b=some (.tup xs)):bL P w H' h' a o:=by
 induction o with
 | lst xs=>obtain⟨z,its,n,r,e⟩:=x; exact⟨z,its,n,r,k _ _ (.inl rfl) e⟩
 | tup xs=>obtain⟨z,its,r,ob,e,c⟩:=x; exact⟨z,its,r,ob,k _ _ (.inl rfl) e,c⟩
 | dK kvs=>obtain⟨z,y,vs,r,ob,es,ep,e,c⟩:=x; exact⟨z,y,vs,r,ob,es,ep,k _ _ (.inl rfl) e,c⟩
 | dT kvs=>
   obtain⟨z,y,xs,r,ob,es,ep,e,c⟩:=x;exact⟨z,y,xs,Paired.EW r λp q z=>⟨z.1,ht _ _ z.2.1,z.2.2⟩,ob,es,ep,k _ _ (.inl rfl) e,c⟩
 | set S n=>obtain⟨ob,es,ep,t,e,c⟩:=x; exact⟨ob,es,ep,t,k _ _ (.inl rfl) e,c⟩
 | ins C dx fs=>
   obtain⟨d,z,ne,e,mA,⟨od,es,ep,e2,c⟩,r⟩:=x;exact⟨ho _ d,z,ne,k _ _ (.inl rfl) e,mA,⟨od,es,ep,k _ _ (.inr d) e2,c⟩,r⟩
 | own y=>obtain⟨ob,e⟩:=x; exact⟨ob,k _ _ (.inl rfl) e⟩
 | xd fs=>obtain⟨mA,⟨od,es,ep,e,c⟩,r⟩:=x; exact⟨mA,⟨od,es,ep,k _ _ (.inl rfl) e,c⟩,r⟩
 | rng lo hi=>obtain⟨t,u,v,e⟩:=x; exact⟨t,u,v,k _ _ (.inl rfl) e⟩
 | frz ob u ih=>obtain⟨e,q⟩:=x; exact⟨k _ _ (.inl rfl) e,ih q⟩
 | tbl ps=>
   have e:h.get? a=some { cls:=.none,data:=.fields ps }:=x;show h'.get? a=some { cls:=.none,data:=.fields ps };exact k a _ (.inl rfl) e
 | met f y=>
   have e:h.get? a=some (LM (.ref f) (.ref y)):=x;show h'.get? a=some (LM (.ref f) (.ref y));exact k a _ (.inl rfl) e
 | ext φ=>obtain⟨p,⟨o,e⟩,st⟩:=x; exact⟨st _ _ p λo q=>k _ _ (.inl rfl) q,⟨o,k _ _ (.inl rfl) e⟩,st⟩
theorem HOk.lt (x:HOk P w H h)(e:H a=some o):a<h.objs.size:=(x a o e).lt
theorem HOk.fresh (x:HOk P w H h)(e:h.objs.size<=a):H a=none:=by
 cases q:H a with
 | none=>rfl
 | some u=>exact absurd (HH (x.lt q) e) .(10)
theorem HOk.kept (x:HOk P w H h)(k:∀b u,h.get? b=some u->h'.get? b=some u):HOk P w H h':=λa o e=>
 (x a o e).lq (λb u _ q=>k b u q) (λ_ q=>q) λ_ _ q=>q
theorem HOk.laid (x:HOk P w H h)(k:∀b u,h.get? b=some u->h'.get? b=some u)(hp:h.objs.size<=a)(new:bL P w (upd H a o) h' a o):HOk P w (upd H a o) h':=λb u e=>by
 have hn:=x.fresh hp;by_cases hb:b=a
 . subst hb; rw[aK]at e; cases e; exact new
 . rw[aE hb]at e;exact(x b u e).lq (λc v _ q=>k c v q) (λc q=>by rw[aE (aZ q hn)]; exact q) λc xs q=>by rw[aE (aZ q hn)]; exact q
end
def Rd (H:Hp)(a:Addr)(u:HO):Prop:=H a=some u\/∃o,H a=some (.frz o u)
theorem Rd.ok (r:Rd H a u)(x:HOk P w H h):bL P w H h a u:=by
 rcases r with r | ⟨o,r⟩
 . exact x a u r
 . obtain⟨_,q⟩:=x a _ r;exact q
noncomputable def Mut:Option HO->Prop
 | some (.lst _)=>True
 | some (.dK _)=>True
 | some (.dT _)=>True
 | some (.set _ _)=>True
 | some (.ins _ _ _)=>True
 | some (.ext _)=>True
 | _=>False
section
variable {P:FB}{w:World}{H:Hp}{h h':Heap}{x e:Addr}{o':HO}
theorem HOk.write (ok:HOk P w H h)(mu:Mut (H x))(he:e=x\/H e=some (.own x))(k:∀b u,b≠e->h.get? b=some u->h'.get? b=some u)(heo:∃u,h'.get? e=some u)
   (new:bL P w (upd H x o') h' x o'):HOk P w (upd H x o') h':=λb u q=>by
 have nown:∀c y,H c=some (.own y)->c≠x:=λc y r z=>by subst z; rw[r]at mu; exact mu
 have ntup:∀c xs,H c=some (.tup xs)->c≠x:=λc xs r z=>by subst z; rw[r]at mu; exact mu
 by_cases hb:b=x
 . subst hb; rw[aK]at q; cases q; exact new
 . rw[aE hb]at q;by_cases hbe:b=e
   . have q':H b=some (.own x):=by
       rcases he with z | z
       . exact absurd (hbe.trans z) hb
       . rw[hbe]; exact z
     rw[q]at q'; cases q'
     obtain⟨v,hv⟩:=heo;exact⟨v,by rw[hbe]; exact hv⟩
   . refine(ok b u q).lq (λc v hc r=>k c v ?_ r) (λc r=>by rw[aE (nown c b r)]; exact r) λc xs r=>by rw[aE (ntup c xs r)]; exact r
     rcases hc with rfl | hc
     . exact hbe
     . rintro rfl;rcases he with z | z
       . exact nown c b hc z
       . rw[hc]at z; cases z; exact hb rfl
end
structure Un (fs ex:List Addr)(H H':Hp)(h h':Heap):Prop where
 keep:∀b o,h.get? b=some o->H b=none->b∉fs->b∉ex->h'.get? b=some o
 slot:∀b o,h.get? b=some o->H b=none->b∈fs->b∉ex->∃sl,h'.get? b=some { o with slots:=sl }
 free:∀b o,h.get? b=some o->H b=none->b∉ex->H' b=none
 there:∀b o,h.get? b=some o->b∉ex->∃o',h'.get? b=some o'
 tups:∀b xs,H b=some (.tup xs)->H' b=some (.tup xs)
 frzs:∀b o u,H b=some (.frz o u)->H' b=some (.frz o u)
 tbls:∀b ps,H b=some (.tbl ps)->∃more,H' b=some (.tbl (ps++more))
section
variable {fs ex:List Addr}{H H1:Hp}{h h1 h':Heap}{a x e:Addr}{o:HO}
theorem Un.any (u:Un fs ex H H1 h h1)(q:h.get? b=some ob)(n:H b=none)(hx:b∉ex):∃sl,h1.get? b=some { ob with slots:=sl }:=by
 by_cases hb:b∈fs
 . exact u.slot b ob q n hb hx
 . exact⟨ob.slots,u.keep b ob q n hb hx⟩
theorem Un.kept (k:∀b u,h.get? b=some u->h'.get? b=some u):Un fs ex H H h h':=
 ⟨λb ob q _ _ _=>k b ob q,λb ob q _ _ _=>⟨ob.slots,k b ob q⟩,λ_ _ _ n _=>n,λb ob q _=>⟨ob,k b ob q⟩,λ_ _ q=>q,λ_ _ _ q=>q,λ_ ps q=>⟨#[],by rw[q]; simp⟩⟩
theorem Un.refl:Un fs ex H H h h:=Un.kept λ_ _ q=>q
theorem Un.laid (k:∀b u,h.get? b=some u->h'.get? b=some u)(hp:h.objs.size<=a)(hn:H a=none):Un fs ex H (upd H a o) h h' where
 keep:=λb u q _ _ _=>k b u q
 slot:=λb u q _ _ _=>⟨u.slots,k b u q⟩
 free:=λb u q n _=>by rw[aE (Il (HH (Hw q) hp))]; exact n
 there:=λb u q _=>⟨u,k b u q⟩
 tups:=λb xs q=>by rw[aE (aZ q hn)]; exact q
 frzs:=λb u xs q=>by rw[aE (aZ q hn)]; exact q
 tbls:=λb ps q=>⟨#[],by rw[aE (aZ q hn),q]; simp⟩
theorem Un.write (mu:Mut (H x))(he:e=x\/H e=some (.own x))(k:∀b u,b≠e->h.get? b=some u->h'.get? b=some u)(heo:∃u,h'.get? e=some u):Un fs ex H (upd H x o) h h':=by
 have hx:∀b,H b=none->b≠x:=λb n z=>by subst z; rw[n]at mu; exact mu
 have hb:∀b,H b=none->b≠e:=λb n z=>by
   subst z;rcases he with r | r
   . exact hx b n r
   . rw[n]at r; cases r
 have hm:∀b u,H b=some u->¬Mut (some u)->b≠x:=λb u q nm z=>by subst z; rw[q]at mu; exact nm mu
 refine⟨λb u q n _ _=>k b u (hb b n) q,λb u q n _ _=>⟨u.slots,k b u (hb b n) q⟩,λb u q n _=>by rw[aE (hx b n)]; exact n,λb u q _=>?_,
   λb xs q=>by rw[aE (hm b _ q λz=>z)]; exact q,λb u xs q=>by rw[aE (hm b _ q λz=>z)]; exact q,λb ps q=>⟨#[],by rw[aE (hm b _ q λz=>z),q]; simp⟩⟩
 by_cases hbe:b=e
 . subst hbe; exact heo
 . exact⟨u,k b u hbe q⟩
end
noncomputable def trk (h:Heap)(H:Hp):List Addr:=(ox h.objs.size).filter λa=>(H a).isSome
noncomputable def mV (h:Heap)(H:Hp):Heap:=PySem.W.hideAll h (trk h H)
theorem wL (h:Heap)(H:Hp):(mV h H).objs.size=h.objs.size:=PySem.W.hideAll_size _ _
theorem yo (e:h.get? b=some o)(n:H b=none):(mV h H).get? b=some o:=
 PySem.W.hideAll_get _ e λhm=>by
   have q:(H b).isSome=true:=(Jm.mp hm).2;rw[n]at q; simp at q
theorem zL (e:(mV h H).get? b=some o):h.get? b=some o/\H b=none:=by
 have e':h.get? b=some o:=PySem.W.of_hideAll (trk h H) e;refine⟨e',?_⟩;cases q:H b with
 | none=>rfl
 | some x=>
   have hm:b∈trk h H:=Jm.mpr ⟨HN.mpr (Hw e'),by simp[q]⟩;have z:(mV h H).get? b=none:=PySem.W.hideAll_none (trk h H) hm;rw[z]at e; cases e
noncomputable def AN (g h:Heap)(L:Addr):List .(103):=(ox h.objs.size).filterMap λa=>if a=L\/(g.get? a).isSome=true then none else (h.get? a).map λo=>(a,o)
noncomputable def rest (g h:Heap)(L d:Addr):List .(103):=(AN g h L).filter λp=>decide (p.1≠d)
structure Mod (K:fw)(mg:Str->Option Value)(base:Heap):Prop where
 kin:K.In base
 glob:base.Ns IR mg
 blt:∃mb,base.Ns builtinsNs mb/\∀x:Str,x ≠ "__name__" -> mb x=MY x
 nolimit:base.NoLimit
structure Cx where
 prog:FB
 w:World
 K:fw
 mg:Str->Option Value
 base:Heap
 A:GT
 N:List Str
 s₀:Da
 H₀:Hp
 env:Env
 outer:List Env
 stack:List Env
 ex:List Addr
 fn:Str->Bool
 calm:Bool
 pn:List .(103)
 xe:Value->Da->Prop
noncomputable def frs (l:List Env):List Addr:=l.filterMap (·.frame)
noncomputable abbrev Cx.fs (X:Cx):List Addr:=frs X.outer
def Vis (sc:Scope)(x:Str):Prop:=sc.names.lookup x=some .local\/sc.names.lookup x=some .cell\/sc.names.lookup x=some .free
def Loc (sc:Scope)(x:Str):Prop:=sc.names.lookup x=some .local\/sc.names.lookup x=some .cell
def Look (env:Env)(h:Heap)(m:Str->Option Value)(x:Str)(u:Value):Prop:=
 (env.kindOf x=some .local/\m x=some u)\/((env.kindOf x=some .cell\/env.kindOf x=some .free)/\∃c,env.cells.lookup x=some c/\h.IsCell c (some u))
structure Cx.Ok (X:Cx):Prop where
 mod:Mod X.K X.mg X.base
 kind:X.env.scope.kind=.function
 glob:X.env.globals=IR
 blt:X.env.builtins=builtinsNs
 above:X.s₀.heap.objs.size<=X.env.locals
 inj:∀x y c,X.env.cells.lookup x=some c->X.env.cells.lookup y=some c->x=y
 has:∀x,(X.env.kindOf x=some .cell\/X.env.kindOf x=some .free)->∃c,X.env.cells.lookup x=some c
 cab:∀x c,X.fn x=true->X.env.cells.lookup x=some c->X.s₀.heap.objs.size<=c
 hd:X.calm=true->X.A.handled=none
 frames:X.A.frames=some X.stack
 stk:X.stack=X.outer\/(X.stack=X.env::X.outer/\X.env.frame=some X.env.locals)
 exf:∀b∈X.ex,b≠X.env.locals/\∀x c,X.env.cells.lookup x=some c->c≠b
 bs:∀b o,X.base.get? b=some o->X.s₀.heap.get? b=some o/\X.H₀ b=none
 bsz:X.base.objs.size<=X.s₀.heap.objs.size
 noex:∀b o,X.base.get? b=some o->b∉X.ex
 exfs:∀b∈X.ex,b∉X.fs
 lS:X.s₀.heap.FunFrames X.base X.outer
 frf:∀b∈X.fs,X.H₀ b=none
structure Inv (X:Cx)(pins:List .(103))(σ:List (Option V))(H:Hp)(s:Da):Prop where
 ok:X.Ok
 os:s.os=X.s₀.os
 bare:NA s.gens
 base:Un X.fs X.ex X.H₀ H X.s₀.heap s.heap
 loc:∃m,s.heap.Ns X.env.locals m/\∀(i:Nat) (x:Str) (v:V),X.N[i]?=some x->σ[i]?=some (some v)->Vis X.env.scope x->∃u,RelV v u/\Look X.env s.heap m x u
 cell:∀x c,X.env.cells.lookup x=some c->∃v,s.heap.IsCell c v
 free:H X.env.locals=none
 freeC:∀x c,X.env.cells.lookup x=some c->H c=none
 pin:∀p∈X.pn++pins,s.heap.get? p.1=some p.2/\H p.1=none/\p.1≠X.env.locals/\p.1∉X.fs/\∀v,p.2.data≠.cell v
 hok:HOk X.prog X.w H s.heap
 len:σ.length=X.N.length
section
variable {X:Cx}{pins:List .(103)}{σ:List (Option V)}{H H':Hp}{s:Da}{h':Heap}
theorem Cx.Ok.GX (ok:X.Ok)(e:X.base.get? b=some o):b∉X.fs:=λhb=>by
 have:=(ok.lS.mem hb).1;rw[e]at this; cases this
theorem Inv.bs (I:Inv X pins σ H s):∀b o,X.base.get? b=some o->s.heap.get? b=some o/\H b=none:=λb o e=>
 ⟨I.base.keep b o (I.ok.bs b o e).1 (I.ok.bs b o e).2 (I.ok.GX e) (I.ok.noex b o e),I.base.free b o (I.ok.bs b o e).1 (I.ok.bs b o e).2 (I.ok.noex b o e)⟩
theorem Inv.bk (I:Inv X pins σ H s):∀b o,X.base.get? b=some o->s.heap.get? b=some o:=λb o e=>(I.bs b o e).1
theorem Inv.mod (I:Inv X pins σ H s):Mod X.K X.mg X.base:=I.ok.mod
theorem Inv.kIn (I:Inv X pins σ H s):X.K.In s.heap:=I.ok.mod.kin.keeps I.bk
theorem Inv.nolimit (I:Inv X pins σ H s):s.heap.NoLimit:=I.ok.mod.nolimit.keeps I.bk
theorem Inv.lt (I:Inv X pins σ H s):X.env.locals<s.heap.objs.size:=let ⟨_,hn,_⟩:=I.loc; hn.lt
theorem Inv.sz (I:Inv X pins σ H s):X.s₀.heap.objs.size<=s.heap.objs.size:=HJ I.ok.above (Jp I.lt)
theorem Inv.G5 (I:Inv X pins σ H s){a:Addr}(h:s.heap.objs.size<=a):a∉X.fs:=λhb=>by
 obtain⟨_,o,ho,_⟩:=I.ok.lS.mem hb;exact absurd (HH (Hw ho) (HJ I.sz h)) .(10)
theorem Inv.cne (I:Inv X pins σ H s):∀x c,X.env.cells.lookup x=some c->c≠X.env.locals:=λx c e z=>by
 obtain⟨v,o,ho,hd⟩:=I.cell x c e;obtain⟨m,⟨o',es,ep,ho',hd',_⟩,_⟩:=I.loc;rw[z,ho']at ho; cases ho; rw[hd']at hd; cases hd
theorem Inv.lS (I:Inv X pins σ H s):s.heap.FunFrames X.base X.outer:=by
 have all:∀(l:List Env),(∀b∈frs l,b∈X.fs)->X.s₀.heap.FunFrames X.base l->s.heap.FunFrames X.base l:=by
   intro l;induction l with
   | nil=>intro _ _; trivial
   | cons env r ih=>
     intro hs hl;obtain⟨hk,⟨L,o,hf,hn,ho,hd⟩,hr⟩:=hl;have hL:L∈X.fs:=hs L (by unfold frs; rw[LJ,hf]; exact Ih);obtain⟨sl,e⟩:=I.base.slot L o ho (I.ok.frf L hL) hL λz=>I.ok.exfs L z hL
     exact⟨hk,⟨L,_,hf,hn,e,hd⟩,ih (λb hb=>hs b (by unfold frs; rw[LJ,hf]; exact Et _ hb)) hr⟩
 exact all X.outer (λ_ hb=>hb) I.ok.lS
theorem Inv.stack (I:Inv X pins σ H s):s.heap.FunFrames X.base X.stack:=by
 rcases I.ok.stk with e | ⟨e,hf⟩
 . rw[e]; exact I.lS
 . rw[e];obtain⟨m,hn,_⟩:=I.loc;refine .cons (by rw[I.ok.kind]; decide) hf hn ?_ I.lS;exact Heap.get?_none_of_le (HJ I.ok.bsz I.ok.above)
theorem Inv.tM (I:Inv X pins σ H s):∀b∈frs X.stack,b∈X.env.locals::X.fs:=λb hb=>by
 rcases I.ok.stk with e | ⟨e,hf⟩
 . rw[e]at hb; exact Et _ hb
 . rw[e]at hb;unfold frs at hb;rw[LJ,hf]at hb;exact hb
theorem Inv.t6 (I:Inv X pins σ H s):∀b∈frs X.stack,H b=none:=λb hb=>by
 rcases HA.mp (I.tM b hb) with e | hb
 . rw[e]; exact I.free
 . obtain⟨_,o,ho,_⟩:=I.ok.lS.mem hb;exact I.base.free b o ho (I.ok.frf b hb) λz=>I.ok.exfs b z hb
theorem Inv.step {g':Array GenState}{d':Drawn}{ch:List Addr}(I:Inv X pins σ H s)
   (hch:∀b∈ch,(b∈X.ex\/X.s₀.heap.objs.size<=b)/\b≠X.env.locals/\(∀x c,X.env.cells.lookup x=some c->c≠b)/\∀p∈X.pn++pins,p.1≠b)
   (keep:∀b o,b≠X.env.locals->b∉X.fs->b∉ch->s.heap.get? b=some o->H b=none->h'.get? b=some o)
   (slot:∀b o,b≠X.env.locals->b∈X.fs->b∉ch->s.heap.get? b=some o->H b=none->∃sl,h'.get? b=some { o with slots:=sl }) (free:∀b o,b∉ch->s.heap.get? b=some o->H b=none->H' b=none)
   (there:∀b o,b∉ch->s.heap.get? b=some o->∃o',h'.get? b=some o')
   (tups:∀b xs,H b=some (.tup xs)->H' b=some (.tup xs)) (frzs:∀b o u,H b=some (.frz o u)->H' b=some (.frz o u)) (tbls:∀b ps,H b=some (.tbl ps)->∃more,H' b=some (.tbl (ps++more)))
   (ns:∀m,s.heap.Ns X.env.locals m->h'.Ns X.env.locals m) (hok:HOk X.prog X.w H' h') (hg:NA g') :
   Inv X pins σ H' { s with heap:=h',gens:=g',drawn:=d',toks:=t' }:=by
 have neL:∀b o,X.s₀.heap.get? b=some o->b≠X.env.locals:=λb o e=>Il (HH (Hw e) I.ok.above)
 have neC:∀b o,X.s₀.heap.get? b=some o->b∉X.ex->b∉ch:=λb o e hx hb=>by
   rcases(hch b hb).1 with z | z
   . exact hx z
   . exact absurd (HH (Hw e) z) .(10)
 have cellK:∀x c,X.env.cells.lookup x=some c->∀v,s.heap.IsCell c v->h'.IsCell c v:=λx c e v ⟨o,ho,hd⟩=>by
   have nch:c∉ch:=λz=>(hch c z).2.2.1 x c e rfl
   by_cases hc:c∈X.fs
   . obtain⟨sl,q⟩:=slot c o (I.cne x c e) hc nch ho (I.freeC x c e);exact⟨_,q,hd⟩
   . exact⟨o,keep c o (I.cne x c e) hc nch ho (I.freeC x c e),hd⟩
 refine⟨I.ok,I.os,hg,⟨λb o e n hb hx=>?_,λb o e n hb hx=>?_,λb o e n hx=>?_,λb o e hx=>?_,λb xs e=>tups b xs (I.base.tups b xs e),λb o xs e=>frzs b o xs (I.base.frzs b o xs e),λb ps e=>?_⟩,?_,λx c e=>?_,?_,λx c e=>?_,λp hp=>?_,hok,I.len⟩
 . exact keep b o (neL b o e) hb (neC b o e hx) (I.base.keep b o e n hb hx) (I.base.free b o e n hx)
 . obtain⟨sl,e1⟩:=I.base.slot b o e n hb hx;obtain⟨sl',e2⟩:=slot b _ (neL b o e) hb (neC b o e hx) e1 (I.base.free b o e n hx);exact⟨sl',e2⟩
 . obtain⟨o',e1⟩:=I.base.there b o e hx;exact free b o' (neC b o e hx) e1 (I.base.free b o e n hx)
 . obtain⟨o',e1⟩:=I.base.there b o e hx;exact there b o' (neC b o e hx) e1
 . obtain⟨m1,e1⟩:=I.base.tbls b ps e;obtain⟨m2,e2⟩:=tbls b _ e1;exact⟨m1++m2,by rw[e2,Array.append_assoc]⟩
 . obtain⟨m,hn,hl⟩:=I.loc;refine⟨m,ns m hn,λi x v e1 e2 e3=>?_⟩;obtain⟨u,r,l⟩:=hl i x v e1 e2 e3;refine⟨u,r,?_⟩;rcases l with l | ⟨k,c,e,z⟩
   . exact .inl l
   . exact .inr ⟨k,c,e,cellK x c e _ z⟩
 . obtain⟨v,z⟩:=I.cell x c e;exact⟨v,cellK x c e v z⟩
 . obtain⟨m,⟨o,_,_,ho,_⟩,_⟩:=I.loc;exact free _ o (λz=>(hch _ z).2.1 rfl) ho I.free
 . obtain⟨v,o,ho,hd⟩:=I.cell x c e;exact free c o (λz=>(hch c z).2.2.1 x c e rfl) ho (I.freeC x c e)
 . obtain⟨e,n,ne,nf,d⟩:=I.pin p hp;have nch:p.1∉ch:=λz=>(hch p.1 z).2.2.2 p hp rfl
   exact⟨keep p.1 p.2 ne nf nch e n,free p.1 p.2 nch e n,ne,nf,d⟩
theorem Inv.un (I:Inv X pins σ H s)(u:Un X.fs [] H H' s.heap h')(hok:HOk X.prog X.w H' h'):Inv X pins σ H' { s with heap:=h',toks:=t' }:=by
 obtain⟨m,⟨o,es,ep,ho,r⟩,_⟩:=id I.loc;obtain⟨sl,hL⟩:=u.any ho I.free .(4)
 exact I.step (g':=s.gens) (d':=s.drawn) (ch:=[]) (λ_ z=>nomatch z) (λb o _ hb _ e n=>u.keep b o e n hb .(4)) (λb o _ hb _ e n=>u.slot b o e n hb .(4)) (λb o _ e n=>u.free b o e n .(4)) (λb o _ e=>u.there b o e .(4)) u.tups u.frzs u.tbls (λm' hm=>by
   obtain⟨o',es',ep',ho',r'⟩:=hm;rw[ho]at ho'; cases ho'
   exact⟨_,es',ep',hL,r'⟩) hok I.bare
theorem Inv.call (I:Inv X pins σ H s)(u:Un (frs X.stack) ch H H' s.heap h')(hok:HOk X.prog X.w H' h')(hg:NA g')
   (hch:∀b∈ch,(b∈X.ex\/X.s₀.heap.objs.size<=b)/\b≠X.env.locals/\(∀x c,X.env.cells.lookup x=some c->c≠b)/\∀p∈X.pn++pins,p.1≠b) :
   Inv X pins σ H' { s with heap:=h',gens:=g',drawn:=d',toks:=t' }:=by
 obtain⟨m,⟨o,es,ep,ho,r⟩,_⟩:=id I.loc;obtain⟨sl,hL⟩:=u.any ho I.free λz=>(hch _ z).2.1 rfl
 exact I.step (ch:=ch) hch (λb o hL hb hc e n=>u.keep b o e n (λz=>(HA.mp (I.tM b z)).elim hL hb) hc) (λb o _ _ hc e n=>u.any e n hc) (λb o hc e n=>u.free b o e n hc) (λb o hc e=>u.there b o e hc) u.tups u.frzs u.tbls (λm' hm=>by
   obtain⟨o',es',ep',ho',r'⟩:=hm;rw[ho]at ho'; cases ho'
   exact⟨_,es',ep',hL,r'⟩) hok hg
theorem Inv.turned (I:Inv X pins σ H s)(k:∀b o,b≠it->s.heap.get? b=some o->h'.get? b=some o)(hn:H it=none)(hL:it≠X.env.locals)
   (h1:it∈X.ex\/X.s₀.heap.objs.size<=it) (h2:∀x c,X.env.cells.lookup x=some c->c≠it) (h3:∀p∈X.pn++pins,p.1≠it):Inv X pins σ H { s with heap:=h',toks:=t' }:=by
 have nit:∀b u,H b=some u->b≠it:=λb u e z=>by rw[z,hn]at e; cases e
 refine I.step (g':=s.gens) (d':=s.drawn) (ch:=[it]) (λb hb=>?_) (λb o _ _ hc e _=>k b o (λz=>hc (by simp[z])) e) (λb o _ _ hc e _=>⟨o.slots,k b o (λz=>hc (by simp[z])) e⟩) (λ_ _ _ _ n=>n)
   (λb o hc e=>⟨o,k b o (λz=>hc (by simp[z])) e⟩) (λ_ _ e=>e) (λ_ _ _ e=>e) (λb ps e=>⟨#[],by rw[e]; simp⟩) (λm hm=>?_) (λb u e=>?_) I.bare
 . have e:b=it:=by simpa using hb
   subst e;exact⟨h1,hL,h2,h3⟩
 . obtain⟨o,es,ep,ho,r⟩:=hm;exact⟨o,es,ep,k _ o (ID hL) ho,r⟩
 . refine(I.hok b u e).lq (λc v hc q=>k c v ?_ q) (λ_ q=>q) λ_ _ q=>q
   rcases hc with z | z
   . rw[z]; exact nit b u e
   . exact nit c _ z
theorem Inv.tok (I:Inv X pins σ H s)(t:Nat):Inv X pins σ H { s with toks:=t }:=I.un (h':=s.heap) (t':=t) Un.refl I.hok
theorem Inv.kept (I:Inv X pins σ H s)(k:∀b u,s.heap.get? b=some u->h'.get? b=some u):Inv X pins σ H { s with heap:=h',toks:=t' }:=I.un (Un.kept k) (I.hok.kept k)
theorem Inv.laid {a:Addr}{o:HO}(I:Inv X pins σ H s)(k:∀b u,s.heap.get? b=some u->h'.get? b=some u)(hp:s.heap.objs.size<=a)(new:bL X.prog X.w (upd H a o) h' a o):
   Inv X pins σ (upd H a o) { s with heap:=h',toks:=t' }:=I.un (Un.laid k hp (I.hok.fresh hp)) (I.hok.laid k hp new)
theorem Inv.write (I:Inv X pins σ H s)(mu:Mut (H x))(he:e=x\/H e=some (.own x))(k:∀b u,b≠e->s.heap.get? b=some u->h'.get? b=some u)(heo:∃u,h'.get? e=some u)
   (new:bL X.prog X.w (upd H x o) h' x o):Inv X pins σ (upd H x o) { s with heap:=h',toks:=t' }:=I.un (Un.write mu he k heo) (I.hok.write mu he k heo new)
theorem Inv.u7 (I:Inv X pins σ H s)(h:∀p∈pins',s.heap.get? p.1=some p.2/\H p.1=none/\p.1≠X.env.locals/\p.1∉X.fs/\∀v,p.2.data≠.cell v):Inv X pins' σ H s:=
 ⟨I.ok,I.os,I.bare,I.base,I.loc,I.cell,I.free,I.freeC,λp hp=>(x3.mp hp).elim (λz=>I.pin p (HE _ z)) (h p),I.hok,I.len⟩
theorem qC {N:List Str}(hN:N.Nodup){i j:Nat}{x:Str}(a:N[i]?=some x)(b:N[j]?=some x):i=j:=by
 obtain⟨h1,e1⟩:=rp.mp a;obtain⟨h2,e2⟩:=rp.mp b;exact(List.getElem_inj hN).mp (e1.trans e2.symm)
theorem wD {M:Model}{A:GT}{E:Value->Da->Prop}{i:Nat}{x:Str}{v:V}{u:Value}{Q:Unit->Da->Prop}(I:Inv X pins σ H s)(hN:X.N.Nodup)(hi:X.N[i]?=some x)(hx:Loc X.env.scope x)(r:RelV v u)
   (h:∀s',Inv X pins (σ.set i (some v)) H s'->(∃a,KO a s.heap s'.heap/\(a=X.env.locals\/X.env.cells.lookup x=some a))->Q () s') (hf:X.fn x=true\/X.env.scope.names.lookup x=some .local:=by first | exact .inl rfl | exact .inr rfl | assumption):wpAny M A (storeName X.env x u) Q E s:=by
 obtain⟨m,hn,hl⟩:=id I.loc;have hcls:(X.env.scope.kind==.class||(X.env.scope.kind==.module&&X.env.locals != X.env.globals))=false:=by rw[I.ok.kind]; rfl
 have hiσ:i<σ.length:=by rw[I.len]; exact(rp.mp hi).1
 have cne:=I.cne
 have tracked:∀{a:Addr} {h':Heap},(∃o,s.heap.get? a=some o/\H a=none)->KO a s.heap h'->HOk X.prog X.w H h':=λ{a h'} ha hs b ob e=>by
   obtain⟨_,_,hfree⟩:=ha;refine(I.hok b ob e).lq (λc w' hc q=>(hs.2 c ?_).trans q) (λ_ q=>q) λ_ _ q=>q
   rintro rfl;rcases hc with rfl | hc
   . rw[hfree]at e; cases e
   . rw[hfree]at hc; cases hc
 rcases hx with hk | hk
 . refine wpAny_storeName_local hk hn (λh' hn' hs=>?_) hcls;obtain⟨oL,_,_,hoL,_⟩:=id hn;refine h _ ⟨I.ok,I.os,I.bare,⟨λb o e n hb hx=>?_,λb o e n hb hx=>?_,I.base.free,λb o e hx=>?_,I.base.tups,I.base.frzs,I.base.tbls⟩,⟨_,hn',λj y v' e1 e2 e3=>?_⟩,λy c e=>?_,I.free,I.freeC,λp hp=>?_,tracked ⟨oL,hoL,I.free⟩ hs,by simpa using I.len⟩ ⟨_,hs,.inl rfl⟩
   . exact(hs.2 b (Il (HH (Hw e) I.ok.above))).trans (I.base.keep b o e n hb hx)
   . obtain⟨sl,e1⟩:=I.base.slot b o e n hb hx;exact⟨sl,(hs.2 b (Il (HH (Hw e) I.ok.above))).trans e1⟩
   . obtain⟨o',e1⟩:=I.base.there b o e hx;exact⟨o',(hs.2 b (Il (HH (Hw e) I.ok.above))).trans e1⟩
   . by_cases hj:j=i
     . subst hj;rw[hi]at e1; cases e1
       rw[Ic hiσ]at e2;cases e2
       exact⟨u,r,.inl ⟨hk,by simp⟩⟩
     . rw[HI (ID hj)]at e2;obtain⟨u',r',q⟩:=hl j y v' e1 e2 e3;refine⟨u',r',?_⟩;rcases q with ⟨k,e⟩ | ⟨k,c,e,z⟩
       . refine .inl ⟨k,?_⟩;have:y≠x:=λe=>hj (qC hN e1 (e▸hi))
         simp[this,e]
       . exact .inr ⟨k,c,e,z.sameBut hs (cne y c e)⟩
   . obtain⟨w',z⟩:=I.cell y c e;exact⟨w',z.sameBut hs (cne y c e)⟩
   . obtain⟨e,n,ne,nf,d⟩:=I.pin p hp;exact⟨(hs.2 p.1 ne).trans e,n,ne,nf,d⟩
 . have hfn:X.fn x=true:=by
     rcases hf with z | z
     . exact z
     . rw[z]at hk; cases hk
   obtain⟨c,hc⟩:=I.ok.has x (.inl hk);obtain⟨w',z⟩:=I.cell x c hc;refine wpAny_storeName_cell I.ok.kind hk hc z (λh' hc' hs=>?_);obtain⟨oc,hoc,hocd⟩:=id z;refine h { s with heap:=h' } ⟨I.ok,I.os,I.bare,⟨λb o e n hb hx=>?_,λb o e n hb hx=>?_,I.base.free,λb o e hx=>?_,I.base.tups,I.base.frzs,I.base.tbls⟩,⟨m,hn.sameBut hs (ID (cne x c hc)),λj y v' e1 e2 e3=>?_⟩,λy c' e=>?_,I.free,I.freeC,λp hp=>?_,tracked ⟨oc,hoc,I.freeC x c hc⟩ hs,by simpa using I.len⟩ ⟨c,hs,.inr hc⟩
   . exact(hs.2 b (Il (HH (Hw e) (I.ok.cab x c hfn hc)))).trans (I.base.keep b o e n hb hx)
   . obtain⟨sl,e1⟩:=I.base.slot b o e n hb hx;exact⟨sl,(hs.2 b (Il (HH (Hw e) (I.ok.cab x c hfn hc)))).trans e1⟩
   . obtain⟨o',e1⟩:=I.base.there b o e hx;exact⟨o',(hs.2 b (Il (HH (Hw e) (I.ok.cab x c hfn hc)))).trans e1⟩
   . by_cases hj:j=i
     . subst hj;rw[hi]at e1; cases e1
       rw[Ic hiσ]at e2;cases e2
       exact⟨u,r,.inr ⟨.inl hk,c,hc,hc'⟩⟩
     . rw[HI (ID hj)]at e2;obtain⟨u',r',q⟩:=hl j y v' e1 e2 e3;refine⟨u',r',?_⟩;rcases q with q | ⟨k,c',e,z'⟩
       . exact .inl q
       . refine .inr ⟨k,c',e,z'.sameBut hs ?_⟩;rintro rfl;exact hj (qC hN e1 (I.ok.inj _ _ _ e hc▸hi))
   . by_cases hcc:c'=c
     . subst hcc; exact⟨_,hc'⟩
     . obtain⟨w2,z2⟩:=I.cell y c' e;exact⟨w2,z2.sameBut hs hcc⟩
   . obtain⟨e,n,ne,nf,d⟩:=I.pin p hp;refine⟨(hs.2 p.1 ?_).trans e,n,ne,nf,d⟩;intro q;rw[q,hoc]at e;have q':oc=p.2:=Im e;exact d w' (by rw[<- q']; exact hocd)
theorem qS {M:Model}{A:GT}{E:Value->Da->Prop}{i:Nat}{x:Str}{v:V}{u:Value}{Q:Unit->Da->Prop}(I:Inv X pins σ H s)(hN:X.N.Nodup)(hi:X.N[i]?=some x)(hx:Loc X.env.scope x)(r:RelV v u)
   (h:∀s',Inv X pins (σ.set i (some v)) H s'->Q () s') (hf:X.fn x=true\/X.env.scope.names.lookup x=some .local:=by first | exact .inl rfl | exact .inr rfl | assumption):wpAny M A (storeName X.env x u) Q E s:=
 wD I hN hi hx r (λs' I' _=>h s' I') hf
theorem Inv.BX (I:Inv X pins σ H s)(ho:s'.os=s.os)(u:Un (frs X.stack) ch H H' s.heap s'.heap)(hok:HOk X.prog X.w H' s'.heap)(hg:NA s'.gens)
   (hch:∀b∈ch,(b∈X.ex\/X.s₀.heap.objs.size<=b)/\b≠X.env.locals/\(∀x c,X.env.cells.lookup x=some c->c≠b)/\∀p∈X.pn++pins,p.1≠b):Inv X pins σ H' s':=by
 obtain⟨h',g',d',t',o'⟩:=s';have e:o'=s.os:=ho;subst e;exact I.call (g':=g') (t':=t') (d':=d') u hok hg hch
end
noncomputable abbrev XK:=Value->Option Addr->Hp->Prop
noncomputable abbrev St:=List (Option V)
noncomputable abbrev VK:=V->Hp->Prop
noncomputable abbrev TE:=St->Hp->VK->Prop
noncomputable abbrev TT:=St->Hp->(Bool->Hp->Prop)->Prop
noncomputable abbrev TA:=St->Hp->(List V->Hp->Prop)->Prop
structure Ends where
 nx:St->Hp->Prop
 rt:VK
 bk:St->Hp->Prop:=λ_ _=>False
 ct:St->Hp->Prop:=λ_ _=>False
noncomputable abbrev TS:=Ends->St->Hp->Prop
def EP (X:Cx)(pins:List .(103))(σ:St)(Q:VK)(u:Value)(s':Da):Prop:=∃v H',Inv X pins σ H' s'/\RelV v u/\Q v H'
def TP (X:Cx)(pins:List .(103))(σ:St)(Q:Bool->Hp->Prop)(b:Bool)(s':Da):Prop:=∃H',Inv X pins σ H' s'/\Q b H'
def AP (X:Cx)(pins:List .(103))(σ:St)(Q:List V->Hp->Prop)(us:List Value)(s':Da):Prop:=∃vs H',Inv X pins σ H' s'/\Vals vs us/\Q vs H'
def SP (X:Cx)(pins:List .(103))(D:Ends)(f:Flow)(s':Da):Prop:=
 match f with
 | .next=>∃σ' H',Inv X pins σ' H' s'/\D.nx σ' H'
 | .brk=>∃σ' H',Inv X pins σ' H' s'/\D.bk σ' H'
 | .cont=>∃σ' H',Inv X pins σ' H' s'/\D.ct σ' H'
 | .ret u=>∃v σ' H',Inv X pins σ' H' s'/\RelV v u/\D.rt v H'
def PE (X:Cx)(e:Expr)(t:TE):Prop:=
 ∀(pins:List .(103)) (s:Da) (σ:St) (H:Hp) (Q:VK),Inv X pins σ H s->t σ H Q->wpAny .(100) X.A (eval e X.env) (EP X pins σ Q) X.xe s
def PT (X:Cx)(e:Expr)(t:TT):Prop:=
 ∀(pins:List .(103)) (s:Da) (σ:St) (H:Hp) (Q:Bool->Hp->Prop),Inv X pins σ H s->t σ H Q->wpAny .(100) X.A (isTrue e X.env (eval e X.env)) (TP X pins σ Q) X.xe s
def PW (X:Cx)(e:Expr)(t:TT):Prop:=
 ∀(whole:Sem Value) (pins:List .(103)) (s:Da) (σ:St) (H:Hp) (Q:Bool->Hp->Prop),Inv X pins σ H s->t σ H Q->wpAny .(100) X.A (isTrue e X.env whole) (TP X pins σ Q) X.xe s
theorem PW.pt (h:PW X e t):PT X e t:=h _
def PA (X:Cx)(es:List Expr)(t:TA):Prop:=
 ∀(pos:Pos) (pins:List .(103)) (s:Da) (σ:St) (H:Hp) (Q:List V->Hp->Prop),Inv X pins σ H s->t σ H Q->wpAny .(100) X.A (spliced (M5 pos (Do es X.env))) (AP X pins σ Q) X.xe s
def PS (X:Cx)(st:Stmt)(t:TS):Prop:=
 ∀(pins:List .(103)) (s:Da) (σ:St) (H:Hp) (D:Ends),Inv X pins σ H s->t D σ H->wpAny .(100) X.A (exec st X.env) (SP X pins D) X.xe s
def PSs (X:Cx)(st:List Stmt)(t:TS):Prop:=
 ∀(pins:List .(103)) (s:Da) (σ:St) (H:Hp) (D:Ends),Inv X pins σ H s->t D σ H->wpAny .(100) X.A (execs st X.env) (SP X pins D) X.xe s
theorem thn (h:wpAny M A t Q E s)(hQ:∀a s,Q a s->Q' a s):wpAny M A t Q' E s:=Nt h hQ λ_ _ x=>x
section
variable {X:Cx}
theorem bin {a b:Expr}{ta tb:TE}(ha:PE X a ta)(hb:PE X b tb){pins:List .(103)}{s:Da}{σ:St}{R:V->V->Hp->Prop}(I:Inv X pins σ H s)(h:ta σ H λx H1=>tb σ H1 λy H2=>R x y H2)
   {α:Type} {Q:α->Da->Prop} {f:Value->Value->Sem α}
   (hf:∀v u s2 x y H2,Inv X pins σ H2 s2->RelV x v->RelV y u->R x y H2->wpAny .(100) X.A (f v u) Q X.xe s2) :
   wpAny .(100) X.A (eval a X.env) (λv s₁=>wpAny .(100) X.A (eval b X.env) (λu s₂=>wpAny .(100) X.A (f v u) Q X.xe s₂) X.xe s₁) X.xe s:=by
 refine thn (ha pins s σ H _ I h) λv s1 ⟨x,H1,I1,r1,q1⟩=>?_
 refine thn (hb pins s1 σ H1 _ I1 q1) λu s2 ⟨y,H2,I2,r2,q2⟩=>?_
 exact hf v u s2 x y H2 I2 r1 r2 q2
def Gy (i:Nat):TE:=λσ H Q=>∃v,σ[i]?=some (some v)/\Q v H
def tC (v:V):TE:=λ_ H Q=>Q v H
theorem bo {i:Nat}{x:Str}{pos:Pos}(hN:X.N[i]?=some x)(hv:Vis X.env.scope x)(hd:(x==("__debug__" : Str))=false:=by decide)(hcd:(x==("__classdict__" : Str))=false:=by decide):PE X (.Name x pos) (Gy i):=by
 intro pins s σ H Q I h;obtain⟨v,e,h⟩:=h;obtain⟨m,hn,hl⟩:=I.loc;obtain⟨u,r,l⟩:=hl i x v hN e hv;have fin:EP X pins σ Q u s:=⟨v,H,I,r,h⟩;rcases l with ⟨hk,hm⟩ | ⟨hk,c,hc,hcell⟩
 . exact wpAny_Name (wpAny_loadName_local I.ok.kind hk hn hm fin) hd
 . rcases hk with hk | hk
   . exact wpAny_Name (wpAny_loadName_cell I.ok.kind hk hc hcell fin) hd
   . exact wpAny_Name (wpAny_loadName_free I.ok.kind hk hc hcell fin hcd) hd
theorem sF :PE X (.Constant (.int i) j pos) (tC (.int i)):=λ_ _ _ H _ I h=>wpAny_Constant_int ⟨.int i,H,I.tok _,⟨_,rfl⟩,h⟩
theorem E8 :PE X (.Constant (.bool b) j pos) (tC (.bl b)):=λ_ _ _ H _ I h=>Constant_bool ⟨.bl b,H,I,rfl,h⟩
theorem DC :PE X (.Constant .none j pos) (tC .non):=λ_ _ _ H _ I h=>Constant_none ⟨.non,H,I,rfl,h⟩
theorem DU :PE X (.Constant (.str x) j pos) (tC (.str x)):=λ_ _ _ H _ I h=>Calls.Constant_str ⟨.str x,H,I.tok _,⟨_,rfl⟩,h⟩
def Gl (X:Cx)(x:Str):Prop:=X.env.kindOf x=some .globalImplicit
theorem vo {E:Value->Da->Prop}{pins:List .(103)}{s:Da}{σ:St}{H:Hp}{x:Str}{u:Value}{pos:Pos}{Q:Value->Da->Prop}(I:Inv X pins σ H s)(hg:Gl X x)(hm:X.mg x=some u)(h:Q u s)
   (hd:(x==("__debug__" : Str))=false:=by decide):wpAny .(100) X.A (eval (.Name x pos) X.env) Q E s:=
 Mp I.ok.kind hg (Calls.loadGlobal_global (by rw[I.ok.glob]; exact I.mod.glob.keeps I.bk) hm h) hd
theorem cV {E:Value->Da->Prop}{pins:List .(103)}{s:Da}{σ:St}{H:Hp}{x:Str}{u:Value}{pos:Pos}{Q:Value->Da->Prop}(I:Inv X pins σ H s)(hg:Gl X x)(hm:X.mg x=none)(hv:MY x=some u)(h:Q u s)
   (hn:x ≠ "__name__":=by decide) (hd:(x==("__debug__" : Str))=false:=by decide):wpAny .(100) X.A (eval (.Name x pos) X.env) Q E s:=by
 obtain⟨mb,h1,h2⟩:=I.mod.blt;exact Mp I.ok.kind hg (Calls.loadGlobal_builtin (by rw[I.ok.glob]; exact I.mod.glob.keeps I.bk) hm (by rw[I.ok.blt]; exact h1.keeps I.bk) ((h2 x hn).trans hv) h) hd
theorem vy {x:Str}{v:V}{u:Value}{pos:Pos}(hg:Gl X x)(hm:X.mg x=some u)(r:RelV v u)(hd:(x==("__debug__" : Str))=false:=by decide):PE X (.Name x pos) (tC v):=
 λ_ _ _ H _ I h=>vo I hg hm ⟨v,H,I,r,h⟩ hd
theorem A7 {x:Str}{v:V}{u:Value}{pos:Pos}(hg:Gl X x)(hm:X.mg x=none)(hv:MY x=some u)(r:RelV v u)(hn:x ≠ "__name__":=by decide)(hd:(x==("__debug__" : Str))=false:=by decide):PE X (.Name x pos) (tC v):=
 λ_ _ _ H _ I h=>cV I hg hm hv ⟨v,H,I,r,h⟩ hn hd
variable {a b:Expr}{ta tb:TE}{pos:Pos}
def PC (X:Cx)(op:CmpOp)(a b:Expr)(t:TE):Prop:=
 ∀(pins:List .(103)) (s:Da) (σ:St) (H:Hp) (Q:VK),Inv X pins σ H s->t σ H Q ->
   wpAny .(100) X.A (eval a X.env) (λv s₁=>wpAny .(100) X.A (eval b X.env) (λu s₂=>wpAny .(100) X.A (Gc op v u) (EP X pins σ Q) X.xe s₂) X.xe s₁) X.xe s
theorem wQ (b:Expr)(h:op≠.In)(h2:op≠.NotIn):N3 op b=false:=by
 have e1:(op==CmpOp.In)=false:=by cases op <;> first | rfl | exact absurd rfl h
 have e2:(op==CmpOp.NotIn)=false:=by cases op <;> first | rfl | exact absurd rfl h2
 cases b <;> simp[N3,e1,e2]
def tB (t:TE):TT:=λσ H Q=>t σ H λx H1=>∃c,x=.bl c/\Q c H1
theorem Hk {op:CmpOp}{t:TE}(h:PC X op a b t)(h1:N3 op b=false:=by first | exact wQ _ .(2) .(2) | rfl):PT X (.Compare a [op] [b] pos) (tB t):=by
 intro pins s σ H Q I hw;refine wpAny_isTrue_Compare1 (thn (h pins s σ H _ I hw) λv s1 h1=>thn h1 λu s2 h2=>thn h2 λc s3 ⟨x,H1,I1,r1,q1⟩=>?_) h1;obtain⟨d,rfl,q⟩:=q1;cases r1
 exact KM ⟨H1,I1,q⟩
theorem Di {e:Expr}{t:TE}(h:PE X e t)(he:∀whole,isTrue e X.env whole=(do let v <- whole; Nu e.pos; M6 [v] (truthy v)):=by intro _; rfl):PT X e (tB t):=by
 intro pins s σ H Q I hw;refine isTrue_plain (thn (h pins s σ H _ I hw) λv s1 ⟨x,H1,I1,r1,q1⟩=>?_) (he _);obtain⟨d,rfl,q⟩:=q1;cases r1
 exact KM ⟨H1,I1,q⟩
variable {tA tB':TT}{rest:List Expr}
def tOr (t u:TT):TT:=λσ H Q=>t σ H λc H1=>if c=true then Q true H1 else u σ H1 Q
def GQ (t:TT):TT:=λσ H Q=>t σ H λc H1=>Q (!c) H1
theorem pw_or1 (ha:PT X a tA):PW X (.BoolOp .Or [a] pos) tA:=by
 intro wh pins s σ H Q I h;refine isTrue_or (thn (ha pins s σ H Q I h) λc s1 e=>?_);cases c with
 | false=>exact isTrue_or_nil e
 | true=>exact e
theorem pw_or (ha:PT X a tA)(hb:PW X (.BoolOp .Or (b::rest) pos) tB'):PW X (.BoolOp .Or (a::b::rest) pos) (tOr tA tB'):=by
 intro wh pins s σ H Q I h;refine isTrue_or (thn (ha pins s σ H _ I h) λc s1 ⟨H1,I1,q1⟩=>?_);cases c with
 | true=>exact⟨H1,I1,q1⟩
 | false=>exact hb wh pins s1 σ H1 Q I1 q1
theorem Dp (ha:PT X a tA):PT X (.UnaryOp .Not a pos) (GQ tA):=by
 intro pins s σ H Q I h;exact isTrue_not (ha pins s σ H (λc H1=>Q (!c) H1) I h)
def F0 (ta tb:TE):TE:=λσ H Q=>ta σ H λx H1=>∃c,x=.bl c/\if c=true then tb σ H1 Q else Q (.bl false) H1
def Gq (ta:TE):TE:=λσ H Q=>ta σ H λx H1=>∃c,x=.bl c/\Q (.bl (!c)) H1
theorem Cf (h:PE X a t):PE X (.BoolOp op [a] pos) t:=λpins s σ H Q I hw=>BoolOp_one (h pins s σ H Q I hw)
theorem yr (ha:PE X a ta)(hb:PE X (.BoolOp .And (b::rest) pos) tb):PE X (.BoolOp .And (a::b::rest) pos) (F0 ta tb):=by
 intro pins s σ H Q I h;refine BoolOp_and (thn (ha pins s σ H _ I h) λv s1 ⟨x,H1,I1,r1,q1⟩=>?_);obtain⟨c,rfl,q1⟩:=q1;cases r1
 refine KM ?_;cases c with
 | true=>exact hb pins s1 σ H1 Q I1 q1
 | false=>exact⟨.bl false,H1,I1,rfl,q1⟩
theorem DV (ha:PE X a ta):PE X (.UnaryOp .Not a pos) (Gq ta):=by
 intro pins s σ H Q I h;refine UnaryOp_ (thn (ha pins s σ H _ I h) λv s1 ⟨x,H1,I1,r1,q1⟩=>?_);obtain⟨c,rfl,q1⟩:=q1;cases r1
 exact not_of (KM ⟨.bl (!c),H1,I1,rfl,q1⟩)
def tIf (t:TT)(ta tb:TE):TE:=λσ H Q=>t σ H λc H1=>if c=true then ta σ H1 Q else tb σ H1 Q
theorem qK (hc:PT X c tA)(ha:PE X a ta)(hb:PE X b tb):PE X (.IfExp c a b pos) (tIf tA ta tb):=by
 intro pins s σ H Q I h;refine wpAny_IfExp (thn (hc pins s σ H _ I h) λd s1 ⟨H1,I1,q1⟩=>?_);cases d with
 | true=>exact ha pins s1 σ H1 Q I1 q1
 | false=>exact hb pins s1 σ H1 Q I1 q1
end
def SqL (K:fw)(H:Hp)(a:Addr)(xs:List V):Prop:=
 Rd H a (.lst xs) \/
   ∃(o:Obj) (its:Array Value) (n:Nat),K.lookup a=some o/\o.cls=.type "list" /\ o.dict=none/\o.data=.seq its n/\its.size<=sizeLine/\Vals xs its.toList
def SqT (K:fw)(H:Hp)(a:Addr)(xs:List V):Prop:=
 Rd H a (.tup xs) \/
   ∃(o:Obj) (its:Array Value) (n:Nat),K.lookup a=some o/\o.cls=.type "tuple" /\ o.data=.seq its n/\its.size<=sizeLine/\Vals xs its.toList
noncomputable def GZ:Value->Option V
 | .none=>some .non
 | .bool b=>some (.bl b)
 | .int i _=>some (.int i)
 | .str x _=>some (.str x)
 | .bytes b _=>some (.byt b)
 | .float b _=>some (.flt b)
 | .ref a=>some (.ref a)
 | .type n=>some (.ty n)
 | _=>none
theorem RelV.abs (r:RelV x u):GZ u=some x:=by
 cases x with
 | non=>cases r; rfl
 | bl _=>cases r; rfl
 | int _=>obtain⟨t,rfl⟩:=r; rfl
 | str _=>obtain⟨t,rfl⟩:=r; rfl
 | byt _=>obtain⟨t,rfl⟩:=r; rfl
 | flt _=>obtain⟨t,rfl⟩:=r; rfl
 | ref _=>cases r; rfl
 | ty _=>cases r; rfl
theorem RelV.inj (r:RelV x u)(q:RelV y u):x=y:=Im (r.abs.symm.trans q.abs)
theorem Vals.inj:∀{xs ys:List V} {us:List Value},Vals xs us->Vals ys us->xs=ys
 | _,_,_,.nil,.nil=>rfl
 | _,_,_,.cons r t,.cons r' t'=>by rw[r.inj r',Vals.inj t t']
section
variable {X:Cx}{pins:List .(103)}{σ:St}{H:Hp}{s:Da}{a:Addr}{xs ys:List V}
theorem SqL.of {K:fw}(h:H a=some (.lst xs)):SqL K H a xs:=.inl (.inl h)
theorem SqT.of {K:fw}(h:H a=some (.tup xs)):SqT K H a xs:=.inl (.inl h)
theorem Inv.list (I:Inv X pins σ H s)(h:SqL X.K H a xs):∃its:List Value,Vals xs its/\PlainL s.heap a its.toArray/\xs.length<=sizeLine:=by
 rcases h with h | ⟨o,its,n,hk,hc,hd,hs,hz,r⟩
 . obtain⟨z,its,n,r,e⟩:=h.ok I.hok;exact⟨its,r,⟨_,n,e,rfl,rfl,rfl⟩,z⟩
 . refine⟨its.toList,r,⟨o,n,I.kIn a o hk,hc,hd,by simpa using hs⟩,?_⟩;have e:=r.length;simp only[IY]at e;omega
theorem Inv.tuple (I:Inv X pins σ H s)(h:SqT X.K H a xs):∃its:List Value,Vals xs its/\IsTup s.heap a its.toArray/\xs.length<=sizeLine:=by
 rcases h with h | ⟨o,its,n,hk,hc,hs,hz,r⟩
 . obtain⟨z,its,r,p⟩:=h.ok I.hok;exact⟨its,r,p,z⟩
 . refine⟨its.toList,r,⟨o,I.kIn a o hk,hc,n,by simpa using hs⟩,?_⟩;have e:=r.length;simp only[IY]at e;omega
theorem Inv.gJ (I:Inv X pins σ H s)(h:SqL X.K H a xs)(h':SqL X.K H a ys):xs=ys:=by
 obtain⟨its,r,⟨o,n,e,_,_,d⟩,_⟩:=I.list h;obtain⟨its',r',⟨o',n',e',_,_,d'⟩,_⟩:=I.list h';rw[e]at e'; cases e'
 rw[d]at d';injection d' with d1 _;have:its=its':=by simpa using congrArg L5 d1
 subst this;exact r.inj r'
theorem Inv.vR (I:Inv X pins σ H s)(h:SqT X.K H a xs)(h':SqT X.K H a ys):xs=ys:=by
 obtain⟨its,r,⟨o,e,_,n,d⟩,_⟩:=I.tuple h;obtain⟨its',r',⟨o',e',_,n',d'⟩,_⟩:=I.tuple h';rw[e]at e'; cases e'
 rw[d]at d';injection d' with d1 _;have:its=its':=by simpa using congrArg L5 d1
 subst this;exact r.inj r'
end
noncomputable abbrev Cx.mI (X:Cx)(E:Value->Da->Prop):Cx:={ X with xe:=E }
noncomputable abbrev Cx.nox (X:Cx):Cx:=X.mI λ_ _=>False
theorem Cx.Ok.mI {X:Cx}(ok:X.Ok)(E:Value->Da->Prop):(X.mI E).Ok:=
 ⟨ok.mod,ok.kind,ok.glob,ok.blt,ok.above,ok.inj,ok.has,ok.cab,ok.hd,ok.frames,ok.stk,ok.exf,ok.bs,ok.bsz,ok.noex,ok.exfs,ok.lS,ok.frf⟩
theorem Cx.Ok.gO {X:Cx}(ok:(X.mI E).Ok):X.Ok:=
 ⟨ok.mod,ok.kind,ok.glob,ok.blt,ok.above,ok.inj,ok.has,ok.cab,ok.hd,ok.frames,ok.stk,ok.exf,ok.bs,ok.bsz,ok.noex,ok.exfs,ok.lS,ok.frf⟩
section
variable {X:Cx}{pins:List .(103)}{σ:St}{H:Hp}{s:Da}{E:Value->Da->Prop}
theorem Inv.mI (I:Inv X pins σ H s)(E:Value->Da->Prop):Inv (X.mI E) pins σ H s:=⟨I.ok.mI E,I.os,I.bare,I.base,I.loc,I.cell,I.free,I.freeC,I.pin,I.hok,I.len⟩
theorem Inv.gO (I:Inv (X.mI E) pins σ H s):Inv X pins σ H s:=⟨I.ok.gO,I.os,I.bare,I.base,I.loc,I.cell,I.free,I.freeC,I.pin,I.hok,I.len⟩
theorem SP.gO (h:SP (X.mI E) pins D f s'):SP X pins D f s':=by
 cases f with
 | next=>obtain⟨σ',H',I,q⟩:=h; exact⟨σ',H',I.gO,q⟩
 | brk=>obtain⟨σ',H',I,q⟩:=h; exact⟨σ',H',I.gO,q⟩
 | cont=>obtain⟨σ',H',I,q⟩:=h; exact⟨σ',H',I.gO,q⟩
 | ret u=>obtain⟨v,σ',H',I,r,q⟩:=h; exact⟨v,σ',H',I.gO,r,q⟩
theorem PSs.nox {st:List Stmt}{t:TS}(h:PSs X.nox st t):PSs X st t:=λpins s σ H D I hw=>
 Nt (h pins s σ H D (I.mI _) hw) (λ_ _ q=>q.gO) λ_ _ z=>J7 z
end
section
variable {X:Cx}{st:Stmt}{rest:List Stmt}{t u:TS}{e:Expr}{te:TE}{pos:Pos}
def Fi:TS:=λD σ H=>D.nx σ H
def Hd (t u:TS):TS:=λD σ H=>t { D with nx:=u D } σ H
theorem jm:PSs X [] Fi:=λ_ _ σ H _ I h=>NB ⟨σ,H,I,h⟩
theorem dJ (h1:PS X st t)(h2:PSs X rest u):PSs X (st::rest) (Hd t u):=by
 intro pins s σ H D I h;refine wpAny_execs_cons (thn (h1 pins s σ H { D with nx:=u D } I h) λf s1 q=>?_);cases f with
 | next=>
   obtain⟨σ',H',I',q⟩:=q;exact h2 pins s1 σ' H' D I' q
 | ret v=>exact q
 | brk=>exact q
 | cont=>exact q
theorem Bn (h1:PS X st t):PSs X [st] t:=by
 intro pins s σ H D I h;refine wpAny_execs_cons (thn (h1 pins s σ H D I h) λf s1 q=>?_);cases f with
 | next=>exact NB q
 | ret v=>exact q
 | brk=>exact q
 | cont=>exact q
def EO:TS:=λD σ H=>D.ct σ H
theorem qz:PS X (.Continue pos) EO:=λ_ _ σ H _ I h=>wpAny_Continue ⟨σ,H,I,h⟩
theorem Inv.quiet {pins:List .(103)}{σ:St}{s:Da}(I:Inv X pins σ H s):interactive X.env=false:=by simp[interactive,I.ok.kind]
def EX (te:TE):TS:=λD σ H=>te σ H λ_ H1=>D.nx σ H1
theorem eA (he:PE X e te)(hs:M7 e none pos.line X.env=pure false:=by rfl):PS X (.Expr e pos) (EX te):=by
 intro pins s σ H D I h;exact wpAny_Expr_any (thn (he pins s σ H _ I h) λv s1 ⟨x,H1,I1,r1,q1⟩=>⟨σ,H1,I1,q1⟩) I.quiet hs
def GL (te:TE):TS:=λD σ H=>te σ H D.rt
theorem lE (he:PE X e te):PS X (.Return (some e) pos) (GL te):=by
 intro pins s σ H D I h;exact wpAny_Return_some (thn (he pins s σ H _ I h) λv s1 ⟨x,H1,I1,r1,q1⟩=>⟨x,σ,H1,I1,r1,q1⟩)
def GD (c:TT)(t u:TS):TS:=λD σ H=>c σ H λb H1=>if b=true then t D σ H1 else u D σ H1
theorem ny (hc:PT X c tc)(ha:PSs X a t)(hb:PSs X b u):PS X (.If c a b pos) (GD tc t u):=by
 intro pins s σ H D I h;refine wpAny_If (thn (hc pins s σ H _ I h) λd s1 ⟨H1,I1,q1⟩=>?_);cases d with
 | true=>exact ha pins s1 σ H1 D I1 q1
 | false=>exact hb pins s1 σ H1 D I1 q1
def D5:TS:=λ_ _ _=>False
theorem cC :PSs X sts D5:=λ_ _ _ _ _ _ h=>h.elim
end
noncomputable abbrev TG:=V->St->Hp->(St->Hp->Prop)->Prop
noncomputable abbrev TGs:=List V->St->Hp->(St->Hp->Prop)->Prop
def PG (X:Cx)(target:Expr)(t:TG):Prop:=
 ∀(pins:List .(103)) (s:Da) (σ:St) (H:Hp) (v:V) (u:Value) (Q:St->Hp->Prop),Inv X pins σ H s->RelV v u->t v σ H Q ->
   wpAny .(100) X.A (assign target X.env u) (λ_ s'=>∃σ' H',Inv X pins σ' H' s'/\Q σ' H') X.xe s
def PGs (X:Cx)(ts:List Expr)(t:TGs):Prop:=
 ∀(pins:List .(103)) (s:Da) (σ:St) (H:Hp) (vs:List V) (us:List Value) (Q:St->Hp->Prop),Inv X pins σ H s->Vals vs us->t vs σ H Q ->
   wpAny .(100) X.A (assignInOrder ((KF ts X.env).map (·.2)) us) (λ_ s'=>∃σ' H',Inv X pins σ' H' s'/\Q σ' H') X.xe s
noncomputable abbrev Cp:=V->V->V->Hp->(Hp->Prop)->Prop
def Gw (X:Cx)(t:Cp):Prop:=
 ∀(pins:List .(103)) (s:Da) (σ:St) (H:Hp) (o i v:V) (ov iv u:Value) (Q:Hp->Prop),Inv X pins σ H s->RelV o ov->RelV i iv->RelV v u->t o i v H Q ->
   wpAny .(100) X.A (Nv ov iv u) (λ_ s'=>∃H',Inv X pins σ H' s'/\Q H') X.xe s
section
variable {X:Cx}{pos:Pos}
def BE (i:Nat):TG:=λv σ H Q=>Q (σ.set i (some v)) H
theorem eP {i:Nat}{x:Str}(hN:X.N.Nodup)(hi:X.N[i]?=some x)(hx:Loc X.env.scope x)(hf:X.fn x=true\/X.env.scope.names.lookup x=some .local:=by first | exact .inl rfl | exact .inr rfl | assumption):PG X (.Name x pos) (BE i):=by
 intro pins s σ H v u Q I r h;exact wpAny_assign_Name (qS I hN hi hx r (λs' I'=>⟨_,H,I',h⟩) hf)
noncomputable def Ha:TGs:=λvs σ H Q=>vs=[]/\Q σ H
noncomputable def E2 (t:TG)(u:TGs):TGs:=λvs σ H Q=>∃v r,vs=v::r/\t v σ H λσ' H'=>u r σ' H' Q
theorem kM:PGs X [] Ha:=by
 intro pins s σ H vs us Q I r h;obtain⟨e,h⟩:=h;subst e;cases r
 exact assignInOrder_nil ⟨σ,H,I,h⟩
theorem dR {e:Expr}{es:List Expr}{t:TG}{u:TGs}(h1:PG X e t)(h2:PGs X es u)
   (hs:(KF (e::es) X.env).map (·.2)=assign e X.env::(KF es X.env).map (·.2):=by rfl):PGs X (e::es) (E2 t u):=by
 intro pins s σ H vs us Q I r h;obtain⟨v,vr,e1,h⟩:=h;subst e1;cases r with
 | cons r rr=>
   rw[hs];refine assignInOrder_cons (thn (h1 pins s σ H _ _ _ I r h) λ_ s1 ⟨σ1,H1,I1,q1⟩=>?_);exact h2 pins s1 σ1 H1 _ _ Q I1 rr q1
def GY (K:fw)(n:Nat)(t:TGs):TG:=λv σ H Q=>∃a xs,v=.ref a/\SqT K H a xs/\xs.length=n/\t xs σ H Q
theorem oH {es:List Expr}{k:Nat}{t:TGs}{n:Nat}(hc:X.calm=true)(h:PGs X es t)
   (hn:(KF es X.env).length=n:=by rfl) (hst:(KF es X.env).findIdx? (·.1)=none:=by rfl):PG X (.Tuple es k pos) (GY X.K n t):=by
 intro pins s σ H v u Q I r hw;obtain⟨a,xs,e1,hq,hl,hw⟩:=hw;subst e1;cases r
 obtain⟨its,rv,ht,hz⟩:=I.tuple hq;refine assign_Tuple_tuple (I.ok.hd hc) ht (by simp[hn,<- hl,rv.length]) hst λh' hx=>?_
 have I1:Inv X pins σ H { s with heap:=h' }:=I.kept (t':=s.toks) λb o e=>hx b o (Il (Hw e)) e
 exact h pins _ σ H xs _ Q I1 (by simpa using rv) hw
def Hl (to ti:TE)(t:Cp):TG:=λv σ H Q=>to σ H λo H1=>ti σ H1 λi H2=>t o i v H2 λH3=>Q σ H3
theorem iO {o i:Expr}{to ti:TE}{t:Cp}(ho:PE X o to)(hi:PE X i ti)(hs:Gw X t)
   (ha:∀v,assign (.Subscript o i pos) X.env v=(do
     let ov <- M6 [v] (eval o X.env)
     let iv <- M6 [v,ov] (eval i X.env)
     Nu pos
     M6 [v,ov,iv] (Nv ov iv v)
     NJ [v,ov,iv] []):=by intro _; rfl):PG X (.Subscript o i pos) (Hl to ti t):=by
 intro pins s σ H v u Q I r h;rw[ha];refine AC (Na (thn (ho pins s σ H _ I h) λov s1 ⟨x,H1,I1,r1,q1⟩=>?_));refine AC (Na (thn (hi pins s1 σ H1 _ I1 q1) λiv s2 ⟨y,H2,I2,r2,q2⟩=>?_));refine AC (wpAny_standAt (AC (Na (thn (hs pins s2 σ H2 x y v ov iv u _ I2 r1 r2 r q2) λ_ s3 ⟨H3,I3,q3⟩=>?_))));exact wpAny_release ⟨σ,H3,I3,q3⟩
def C3 (te:TE)(g:TG):TS:=λD σ H=>te σ H λx H1=>g x σ H1 D.nx
theorem jL {tg e:Expr}{te:TE}{g:TG}(he:PE X e te)(hg:PG X tg g)(hs:Ng [tg] e pos.line X.env=pure false:=by rfl)(hw:Nh [tg] e X.env=pure none:=by rfl)
   (h1:(KF [tg] X.env).map (·.2)=[assign tg X.env]:=by rfl):PS X (.Assign [tg] e pos) (C3 te g):=by
 intro pins s σ H D I h;refine wpAny_Assign_stores (thn (he pins s σ H _ I h) λv s1 ⟨x,H1,I1,r1,q1⟩=>?_) hs hw;rw[h1];exact thn (hg pins s1 σ H1 x v _ I1 r1 q1) λ_ s2 q=>q
theorem yD {i:Nat}{x:Str}{e:Expr}{te:TE}{pos':Pos}(hN:X.N.Nodup)(hi:X.N[i]?=some x)(hx:Loc X.env.scope x)(he:PE X e te)(hs:M7 e (some (.Name x pos')) pos.line X.env=pure false:=by rfl)(hf:X.fn x=true\/X.env.scope.names.lookup x=some .local:=by first | exact .inl rfl | exact .inr rfl | assumption):
   PS X (.Assign [.Name x pos'] e pos) (C3 te (BE i)):=by
 intro pins s σ H D I h;refine wpAny_Assign_Name (thn (he pins s σ H _ I h) λv s1 ⟨y,H1,I1,r1,q1⟩=>?_) hs;exact qS I1 hN hi hx r1 (λs2 I2=>⟨_,H1,I2,q1⟩) hf
end
section
variable {X:Cx}{pos:Pos}
def Cr (c:TT)(tb:TS):TS:=λD σ H=>∃W:Nat->St->Hp->Prop,(∃m,W m σ H)/\∀m σ H,W m σ H ->
 c σ H λb H1=>if b=true then ∃N:St->Hp->Prop,(∀σ' H',N σ' H'->∃m',m'<m/\W m' σ' H')/\tb { D with nx:=N,ct:=N,bk:=D.nx } σ H1 else D.nx σ H1
theorem yG (hp:PassesOwn .(100) X.A X.env X.xe)(hc:PT X c tc)(hb:PSs X body tb):PS X (.While c body [] pos) (Cr tc tb):=by
 intro pins s σ H D I h;obtain⟨W,⟨m0,w0⟩,turn⟩:=h;refine wpAny_While (codeAny_whileLoop (λn s'=>∃σ' H',Inv X pins σ' H' s'/\W n σ' H') ?_ m0 ⟨σ,H,I,w0⟩);rintro n s1 ⟨σ1,H1,I1,w1⟩;refine N9 hp (thn (hc pins s1 σ1 H1 _ I1 (turn n σ1 H1 w1)) λb s2 ⟨H2,I2,q2⟩=>?_);cases b with
 | true=>
   obtain⟨N,hN,q2⟩:=q2;rw[if_pos rfl];refine N9 hp (thn (hb pins s2 σ1 H2 _ I2 q2) λf s3 q3=>?_);cases f with
   | next=>
     obtain⟨σ3,H3,I3,n3⟩:=q3;obtain⟨m',hm,w3⟩:=hN σ3 H3 n3;exact⟨m',hm,σ3,H3,I3,w3⟩
   | cont=>
     obtain⟨σ3,H3,I3,n3⟩:=q3;obtain⟨m',hm,w3⟩:=hN σ3 H3 n3;exact⟨m',hm,σ3,H3,I3,w3⟩
   | brk=>exact q3
   | ret v=>exact q3
 | false=>
   rw[if_neg HG];exact NB ⟨σ1,H2,I2,q2⟩
end
structure It where
 go:Nat->Hp->Prop
 yld:Nat->Hp->V->Hp->Prop
 stop:Nat->Hp->Prop
def mN (X:Cx)(pins:List .(103))(H:Hp)(b:Addr):Prop:=
 H b=none/\b≠X.env.locals/\b∉X.fs/\(b∈X.ex\/X.s₀.heap.objs.size<=b)/\(∀x c,X.env.cells.lookup x=some c->c≠b)/\∀p∈X.pn++pins,p.1≠b
theorem Inv.jH {X:Cx}{pins:List .(103)}{σ:St}{H H':Hp}{s:Da}{b:Addr}(I:Inv X pins σ H s)(hb:s.heap.objs.size<=b)(hn:H' b=none):mN X pins H' b:=by
 refine⟨hn,Nat.ne_of_gt (HH I.lt hb),I.G5 hb,.inr (HJ I.sz hb),λx c e z=>?_,λp hp z=>?_⟩
 . obtain⟨v,q⟩:=I.cell x c e;exact absurd (HH q.lt (by rw[z]; exact hb)) .(10)
 . exact absurd (HH (Hw (I.pin p hp).1) (by rw[z]; exact hb)) .(10)
def GO (X:Cx):Prop:=∃h o u vs,X.A.handled=some (.ref h)/\X.H₀ h=some (.frz o u)/\o.data=.fields vs/\vs[2]?=some .none
def Ck (kd:Bool)(X:Cx):Prop:=X.calm=true\/(kd=true/\GO X)
theorem Ck.calm (h:Ck false X):X.calm=true:=h.resolve_right λz=>nomatch z.1
structure Turn (P:FB)(w:World)(K:fw)(kd:Bool)(tg:Expr)(J:It)(fp:List Addr)(it:Addr)(tn:Nat->Heap->Prop):Prop where
 mem:it∈fp
 obj:∀i h,tn i h->∀b∈fp,∃o,h.get? b=some o/\∀v,o.data≠.cell v
 keep:∀i h h',tn i h->(∀b∈fp,∀o,h.get? b=some o->h'.get? b=some o)->tn i h'
 item:∀(X:Cx),X.prog=P->X.w=w->X.K=K->Ck kd X->∀(i:Nat) (pins:List .(103)) (s:Da) (σ:St) (H:Hp) (E:Value->Da->Prop),Inv X pins σ H s->(∀b∈fp,mN X pins H b)->tn i s.heap->J.go i H ->
   wpAny (model P w) X.A (Nw (.ref it)) (λr s1=>∃u,r=some u /\
     wpAny (model P w) X.A (NC tg (.ref it) u) (λ_ s2=>∃x H',Inv X pins σ H' s2/\RelV x u/\J.yld i H x H'/\tn (i+1) s2.heap/\∀b∈fp,H' b=none) E s1) E s
 done:∀(X:Cx),X.prog=P->X.w=w->X.K=K->Ck kd X->∀(i:Nat) (pins:List .(103)) (s:Da) (σ:St) (H:Hp) (E:Value->Da->Prop),Inv X pins σ H s->(∀b∈fp,mN X pins H b)->tn i s.heap->J.stop i H ->
   wpAny (model P w) X.A (Nw (.ref it)) (λr s1=>r=none/\Inv X pins σ H s1) E s
 self:∀(A:GT) (i:Nat) (s:Da) (Q:Value->Da->Prop) (E:Value->Da->Prop),tn i s.heap->Q (.ref it) s->wpAny (model P w) A (pyIter (.ref it)) Q E s
noncomputable abbrev TI:=St->Hp->(It->Hp->Prop)->Prop
def PIE (X:Cx)(pins:List .(103))(σ:St)(tg:Expr)(R:It->Hp->Prop)(itv:Value)(s2:Da):Prop:=
 ∃(kd:Bool) (it:Addr) (fp:List Addr) (tn:Nat->Heap->Prop) (J:It) (H':Hp),itv=.ref it/\Inv X pins σ H' s2/\Ck kd X/\Turn X.prog X.w X.K kd tg J fp it tn/\tn 0 s2.heap/\(∀b∈fp,mN X pins H' b)/\R J H'
def PI (X:Cx)(tg iter:Expr)(wi:TI):Prop:=
 ∀(pins:List .(103)) (s:Da) (σ:St) (H:Hp) (R:It->Hp->Prop),Inv X pins σ H s->wi σ H R ->
   wpAny .(100) X.A (eval iter X.env) (λv s1=>wpAny .(100) X.A (pyIter v) (PIE X pins σ tg R) X.xe s1) X.xe s
theorem kj (ho:s.heap.get? it=some o)(hc:o.cls=.type n)(hd:o.data=.fields vs)
   (hn:["enumerate","zip","dict_itemiterator","dict_reverseitemiterator","odict_iterator","itertools.zip_longest","itertools.pairwise"].contains n=false) (hQ:Q () s):wpAny M A (NC tg (.ref it) u) Q E s:=by
 unfold NC
 cases tg <;> first
   | exact Fk hQ
   | (cases u <;> first
       | exact Fk hQ
       | (refine AC (wpAny_load ho ?_)
          rw[hc,hd];show wpAny M A (if (["enumerate","zip","dict_itemiterator","dict_reverseitemiterator","odict_iterator","itertools.zip_longest","itertools.pairwise"].contains n&&vs[0]?==some (Nc _))=true then _ else _) Q E s;rw[if_neg (by intro h; rw[hn,Bool.false_and]at h; cases h)];exact Fk hQ))
noncomputable def Itl (K:fw)(a:Addr):It:=
 ⟨λi H=>∃xs x,SqL K H a xs/\xs[i]?=some x,λi H x H'=>H'=H/\∀xs,SqL K H a xs->xs[i]?=some x,λi H=>∃xs,SqL K H a xs/\xs.length<=i⟩
noncomputable def Itt (K:fw)(a:Addr):It:=
 ⟨λi H=>∃xs x,SqT K H a xs/\xs[i]?=some x,λi H x H'=>H'=H/\∀xs,SqT K H a xs->xs[i]?=some x,λi H=>∃xs,SqT K H a xs/\xs.length<=i⟩
noncomputable def Itr (lo:Int)(n:Nat):It:=⟨λi _=>i<n,λi H x H'=>H'=H/\x=.int (lo+i),λi _=>n<=i⟩
theorem v3 {P:FB}{w:World}{K:fw}{tg:Expr}(a it:Addr):Turn P w K false tg (Itl K a) [it] it (λi h=>h.IsListIter it a i) where
 mem:=by simp
 obj:=λi h st b hb=>by
   have e:b=it:=by simpa using hb
   subst e;obtain⟨o,e,c,d⟩:=st;exact⟨o,e,λv z=>by rw[d]at z; cases z⟩
 keep:=λi h h' st k=>st.at λo e=>k it .(4) o e
 item:=by
   intro X hP hw hK hc i pins s σ H E I hf st hg;subst hP hw hK;obtain⟨xs,x,hq,hx⟩:=hg;obtain⟨its,rv,p,hz⟩:=I.list hq;obtain⟨u,hu,ru⟩:=rv.get hx;obtain⟨f0,f1,f2,f3,f4,f5⟩:=hf it .(4);refine wpAny_pyNext_list_item st p.isList (x:=u) (by simpa using hu) λh' st' sb=>?_
   have I1:Inv X pins σ H { s with heap:=h' }:=I.turned (t':=s.toks) (λb o hb e=>(sb.2 b hb).trans e) f0 f1 f3 f4 f5;obtain⟨o,e,c,d⟩:=id st';exact⟨u,rfl,kj (s:={ s with heap:=h' }) e c d .(2) ⟨x,H,I1,ru,⟨rfl,λys hy=>by rw[I.gJ hy hq]; exact hx⟩,st',λb hb=>(hf b hb).1⟩⟩
 done:=by
   intro X hP hw hK hc i pins s σ H E I hf st hg;subst hP hw hK;obtain⟨xs,hq,hx⟩:=hg;obtain⟨its,rv,p,hz⟩:=I.list hq;obtain⟨f0,f1,f2,f3,f4,f5⟩:=hf it .(4);have hl:=rv.length;exact wpAny_pyNext_list_end (I.ok.hd hc.calm) st p.isList .(16) λh' eb=>⟨rfl,I.turned (t':=s.toks) (λb o hb e=>eb b o hb e) f0 f1 f3 f4 f5⟩
 self:=λ_ _ _ _ _ st h=>wpAny_pyIter_listiter st h
theorem tS {P:FB}{w:World}{K:fw}{tg:Expr}(a it:Addr):Turn P w K false tg (Itt K a) [it] it (λi h=>h.IsTupleIter it a i) where
 mem:=by simp
 obj:=λi h st b hb=>by
   have e:b=it:=by simpa using hb
   subst e;obtain⟨o,e,c,d⟩:=st;exact⟨o,e,λv z=>by rw[d]at z; cases z⟩
 keep:=λi h h' st k=>st.at λo e=>k it .(4) o e
 item:=by
   intro X hP hw hK hc i pins s σ H E I hf st hg;subst hP hw hK;obtain⟨xs,x,hq,hx⟩:=hg;obtain⟨its,rv,p,hz⟩:=I.tuple hq;obtain⟨u,hu,ru⟩:=rv.get hx;obtain⟨f0,f1,f2,f3,f4,f5⟩:=hf it .(4);refine wpAny_pyNext_tuple_item st (show s.heap.IsTuple a its.toArray from p) (x:=u) (by simpa using hu) λh' st' sb=>?_
   have I1:Inv X pins σ H { s with heap:=h' }:=I.turned (t':=s.toks) (λb o hb e=>(sb.2 b hb).trans e) f0 f1 f3 f4 f5;obtain⟨o,e,c,d⟩:=id st';exact⟨u,rfl,kj (s:={ s with heap:=h' }) e c d .(2) ⟨x,H,I1,ru,⟨rfl,λys hy=>by rw[I.vR hy hq]; exact hx⟩,st',λb hb=>(hf b hb).1⟩⟩
 done:=by
   intro X hP hw hK hc i pins s σ H E I hf st hg;subst hP hw hK;obtain⟨xs,hq,hx⟩:=hg;obtain⟨its,rv,p,hz⟩:=I.tuple hq;obtain⟨f0,f1,f2,f3,f4,f5⟩:=hf it .(4);have hl:=rv.length;exact wpAny_pyNext_tuple_end (I.ok.hd hc.calm) st (show s.heap.IsTuple a its.toArray from p) .(16) λh' eb=>⟨rfl,I.turned (t':=s.toks) (λb o hb e=>eb b o hb e) f0 f1 f3 f4 f5⟩
 self:=λ_ _ _ _ _ st h=>wpAny_pyIter_tupleiter st h
theorem rX {P:FB}{w:World}{K:fw}{tg:Expr}(it:Addr)(lo:Int)(n:Nat):Turn P w K true tg (Itr lo n) [it] it (λi h=>N7 h it (lo+(i:Nat)*1) ((n:Int)-(i:Nat)) 1) where
 mem:=by simp
 obj:=λi h st b hb=>by
   have e:b=it:=by simpa using hb
   subst e
   exact⟨_,st,λv z=>by
     have z':Data.fields _=Data.cell v:=z;cases z'⟩
 keep:=λi h h' st k=>k it .(4) _ st
 item:=by
   intro X hP hw hK hc i pins s σ H E I hf st hg;subst hP hw hK;obtain⟨f0,f1,f2,f3,f4,f5⟩:=hf it .(4);refine wpAny_pyNext_range_item st (by have:i<n:=hg; omega) λh' st0 sb=>?_
   have st':N7 h' it (lo+((i+1:Nat):Int)*1) ((n:Int)-((i+1:Nat):Int)) 1:=by
     have e1:lo+((i+1:Nat):Int)*1=lo+(i:Nat)*1+1:=by omega
     have e2:(n:Int)-((i+1:Nat):Int)=(n:Int)-(i:Nat)-1:=by omega
     rw[e1,e2]; exact st0
   have I1:Inv X pins σ H { s with heap:=h',toks:=s.toks+1 }:=I.turned (λb o hb e=>(sb.2 b hb).trans e) f0 f1 f3 f4 f5;refine⟨_,rfl,kj (s:={ s with heap:=h',toks:=s.toks+1 }) (n:="range_iterator") st' rfl rfl .(2) ⟨.int (lo+i),H,I1,⟨s.toks,?_⟩,⟨rfl,rfl⟩,st',λb hb=>(hf b hb).1⟩⟩;rw[Int.mul_one]
 done:=by
   intro X hP hw hK hc i pins s σ H E I hf st hg;subst hP hw hK;obtain⟨f0,f1,f2,f3,f4,f5⟩:=hf it .(4);rcases hc with hc | ⟨_,q,o,u,vs,e1,e2,e3,e4⟩
   . exact wpAny_pyNext_range_end (I.ok.hd hc) st (by have:n<=i:=hg; omega) λh' eb=>⟨rfl,I.turned (t':=s.toks) (λb o hb e=>eb b o hb e) f0 f1 f3 f4 f5⟩
   . have e5:=I.hok q _ (I.base.frzs q o u e2);exact Hx.tO e1 e5.1 e3 e4 st (by have:n<=i:=hg; omega) λh' eb=>⟨rfl,I.turned (t':=s.toks) (λb o hb e=>eb b o hb e) f0 f1 f3 f4 f5⟩
 self:=λ_ _ _ _ _ st h=>N8 st h
section
variable {X:Cx}{tg:Expr}
def Gu (K:fw)(tl:TE):TI:=λσ H R=>tl σ H λx H1=>∃a,x=.ref a/\(∃xs,SqL K H1 a xs)/\R (Itl K a) H1
def GW (K:fw)(tl:TE):TI:=λσ H R=>tl σ H λx H1=>∃a,x=.ref a/\(∃xs,SqT K H1 a xs)/\R (Itt K a) H1
theorem t9 (hc:X.calm=true)(hl:PE X l tl):PI X tg l (Gu X.K tl):=by
 intro pins s σ H R I h;refine thn (hl pins s σ H _ I h) λv s1 ⟨x,H1,I1,r1,q1⟩=>?_
 obtain⟨a,e,⟨xs,hq⟩,q⟩:=q1;subst e;cases r1
 obtain⟨its,rv,p,hz⟩:=I1.list hq;refine wpAny_pyIter_list p.isList ?_;refine⟨false,s1.heap.objs.size,[s1.heap.objs.size],_,_,H1,rfl,I1.kept (t':=s1.toks) λb o e=>pq _ e,.inl hc,v3 a _,⟨_,Hz _ rfl,rfl,rfl⟩,λb hb=>?_,q⟩;have e:b=s1.heap.objs.size:=by simpa using hb
 subst e;exact I1.jH .(3) (I1.hok.fresh .(3))
theorem DR (hc:X.calm=true)(hl:PE X l tl):PI X tg l (GW X.K tl):=by
 intro pins s σ H R I h;refine thn (hl pins s σ H _ I h) λv s1 ⟨x,H1,I1,r1,q1⟩=>?_
 obtain⟨a,e,⟨xs,hq⟩,q⟩:=q1;subst e;cases r1
 obtain⟨its,rv,p,hz⟩:=I1.tuple hq;refine wpAny_pyIter_tuple (show s1.heap.IsTuple a its.toArray from p) ?_;refine⟨false,s1.heap.objs.size,[s1.heap.objs.size],_,_,H1,rfl,I1.kept (t':=s1.toks) λb o e=>pq _ e,.inl hc,tS a _,⟨_,Hz _ rfl,rfl,rfl⟩,λb hb=>?_,q⟩;have e:b=s1.heap.objs.size:=by simpa using hb
 subst e;exact I1.jH .(3) (I1.hok.fresh .(3))
theorem qt {pins:List .(103)}{σ:St}{H:Hp}{s:Da}{R:It->Hp->Prop}{E:Value->Da->Prop}{lo hi:Int}{t u v:Tok}(hc:Ck true X)(I:Inv X pins σ H s)(h1:-(2^62)<=lo)(h2:lo<2^62)(h3:-(2^62)<=hi)(h4:hi<2^62)
   (q:R (Itr lo (hi-lo).toNat) H):wpAny .(100) X.A (pyIter .(129)) (PIE X pins σ tg R) E { s with heap:=s.heap.push { cls:=.type "range",data:=.fields #[.int lo t,.int hi u,.int 1 v] },toks:=tk }:=by
 refine wpAny_pyIter_range (L9 ..) (small_one h1 h2 h3 h4) ?_;have I1:Inv X pins σ H { s with heap:=s.heap.push { cls:=.type "range",data:=.fields #[.int lo t,.int hi u,.int 1 v] },toks:=tk }:=I.kept λb o e=>pq _ e
 refine⟨true,(s.heap.push { cls:=.type "range",data:=.fields #[.int lo t,.int hi u,.int 1 v] }).objs.size,[(s.heap.push { cls:=.type "range",data:=.fields #[.int lo t,.int hi u,.int 1 v] }).objs.size],_,_,H,rfl,
   I1.kept (t':=tk) λb o e=>pq _ e,hc,rX _ lo (hi-lo).toNat,?_,λb hb=>?_,q⟩
 . have e1:lo+((0:Nat):Int)*1=lo:=by simp
   have e2:(((hi-lo).toNat:Nat):Int)-((0:Nat):Int)=LW lo hi 1:=by rw[rangeSize_one]; split <;> omega
   show N7 _ _ (lo+((0:Nat):Int)*1) ((((hi-lo).toNat:Nat):Int)-((0:Nat):Int)) 1;rw[e1,e2];exact Hz _ rfl
 . have e:b=(s.heap.push { cls:=.type "range",data:=.fields #[.int lo t,.int hi u,.int 1 v] }).objs.size:=by simpa using hb
   subst e;exact I1.jH .(3) (I1.hok.fresh .(3))
def Ff (ta:TA):TI:=λσ H R=>ta σ H λvs H1=>∃j:Int,vs=[.int j]/\-(2^62)<=j/\j<2^62/\R (Itr 0 j.toNat) H1
def FN (ta:TA):TI:=λσ H R=>ta σ H λvs H1=>∃i j:Int,vs=[.int i,.int j]/\(-(2^62)<=i/\i<2^62/\-(2^62)<=j/\j<2^62)/\R (Itr i (j-i).toNat) H1
theorem wd {a:Expr}{ta:TA}{p pos:Pos}(hc:Ck true X)(hg:Gl X "range")(hm:X.mg "range" = none)(ha:PA X [a] ta)(hs:Do [a] X.env=[.(118)]:=by rfl):PI X tg (.Call (.Name "range" p) [a] [] pos) (Ff ta):=by
 intro pins s σ H R I h;refine Call_ (cV I hg hm NQ (Ib (thn (ha pos pins s σ H _ I h) λus s1 ⟨vs,H1,I1,r1,q1⟩=>?_) hs rfl));obtain⟨j,e,q1,q2,q⟩:=q1;subst e;cases r1 with
 | cons r rr=>
   cases rr
   obtain⟨t,rfl⟩:=r;exact call_range_1 (qt hc I1 .(0) .(0) q1 q2 (by simpa using q))
theorem wu {a b:Expr}{ta:TA}{p pos:Pos}(hc:Ck true X)(hg:Gl X "range")(hm:X.mg "range" = none)(ha:PA X [a,b] ta)(hs:Do [a,b] X.env=[.(118),(false,eval b X.env)]:=by rfl)(hs2:Do [b] X.env=[(false,eval b X.env)]:=by rfl):
   PI X tg (.Call (.Name "range" p) [a,b] [] pos) (FN ta):=by
 intro pins s σ H R I h;refine Call_ (cV I hg hm NQ (Ib (thn (ha pos pins s σ H _ I h) λus s1 ⟨vs,H1,I1,r1,q1⟩=>?_) (by rw[hs,hs2]) (by rw[hs2]; rfl)));obtain⟨i,j,e,⟨q1,q2,q3,q4⟩,q⟩:=q1;subst e;cases r1 with
 | cons r rr=>
   cases rr with
   | cons r' rr=>
     cases rr
     obtain⟨t,rfl⟩:=r;obtain⟨t',rfl⟩:=r';exact call_range_2 (qt hc I1 q1 q2 q3 q4 q)
def Hj (wi:TI)(g:TG)(tb:TS):TS:=λD σ H=>wi σ H λJ H1=>∃W:Nat->Nat->St->Hp->Prop,(∃m,W 0 m σ H1)/\∀i m σ H,W i m σ H ->
 (J.stop i H/\D.nx σ H)\/(J.go i H/\∃N:St->Hp->Prop,(∀σ' H',N σ' H'->∃m',m'<m/\W (i+1) m' σ' H')/\∀x H',J.yld i H x H'->g x σ H' λσ2 H2=>tb { D with nx:=N,ct:=N,bk:=D.nx } σ2 H2)
noncomputable def iY (fp:List Addr)(h:Heap):List .(103):=fp.filterMap λb=>(h.get? b).map λo=>(b,o)
theorem cy (hb:b∈fp)(e:h.get? b=some o):(b,o)∈iY fp h:=List.mem_filterMap.mpr ⟨b,hb,by rw[e]; rfl⟩
theorem vK (hp:p∈iY fp h):p.1∈fp/\h.get? p.1=some p.2:=by
 obtain⟨b,hb,e⟩:=List.mem_filterMap.mp hp;cases q:h.get? b with
 | none=>rw[q]at e; cases e
 | some o=>
   rw[q]at e;have e':(b,o)=p:=Im e;subst e';exact⟨hb,q⟩
theorem Inv.pinned {pins:List .(103)}{σ:St}{s:Da}(I:Inv X pins σ H s)(hf:∀b∈fp,mN X pins H b)(ho:∀b∈fp,∃o,s.heap.get? b=some o/\∀v,o.data≠.cell v):Inv X (pins++iY fp s.heap) σ H s:=
 I.u7 λp hp=>(x3.mp hp).elim (λz=>I.pin p (tf _ z)) λz=>by
   obtain⟨hb,e⟩:=vK z;obtain⟨f0,f1,f2,_⟩:=hf p.1 hb;obtain⟨o,e',d⟩:=ho p.1 hb;rw[e]at e'; cases e'
   exact⟨e,f0,f1,f2,d⟩
theorem Inv.fx {pins pl:List .(103)}{σ:St}{s:Da}(I:Inv X (pins++pl) σ H s):Inv X pins σ H s:=I.u7 λp hp=>I.pin p (tf _ (HE _ hp))
theorem si {iter:Expr}{body:List Stmt}{wi:TI}{g:TG}{tb:TS}{pos:Pos}(hp:PassesOwn .(100) X.A X.env X.xe)(hi:PI X tg iter wi)(hg:PG X tg g)(hb:PSs X body tb)
   (hs:∀x,foldedSetIterable iter X.env x=pure x:=by intro _; rfl):PS X (.For tg iter body [] pos) (Hj wi g tb):=by
 intro pins s σ H D I h;refine wpAny_For (thn (hi pins s σ H _ I h) λv s1 h1=>thn h1 λitv s2 h2=>?_) hs;obtain⟨kd,it,fp,tn,J,H2,e,I2,hc,T,st2,f2,W,⟨m0,w0⟩,turn⟩:=h2;subst e;have stat:∀{H':Hp},(∀b∈fp,H' b=none)->∀b∈fp,mN X pins H' b:=λhn b hb=>⟨hn b hb,(f2 b hb).2⟩
 refine codeAny_forLoop_any (λn s'=>∃i σ' H',Inv X pins σ' H' s'/\tn i s'.heap/\(∀b∈fp,H' b=none)/\W i n σ' H') ?_ m0 ⟨0,σ,H2,I2,st2,λb hb=>(f2 b hb).1,w0⟩;rintro n s3 ⟨i,σ3,H3,I3,st3,fr3,w3⟩;rcases turn i n σ3 H3 w3 with ⟨stop,qn⟩ | ⟨go,N,hN,step⟩
 . refine N9 hp (thn (T.done X rfl rfl rfl hc i pins s3 σ3 H3 X.xe I3 (stat fr3) st3 stop) λr s4 ⟨hr,I4⟩=>?_);subst hr;exact NB ⟨σ3,H3,I4,qn⟩
 . refine N9 hp (thn (T.item X rfl rfl rfl hc i pins s3 σ3 H3 X.xe I3 (stat fr3) st3 go) λr s4 ⟨u,hr,h4⟩=>?_);subst hr;refine N9 hp (thn h4 λ_ s5 ⟨x,H5,I5,r5,y5,st5,fr5⟩=>?_);have I5':=I5.pinned (stat fr5) (T.obj _ _ st5);refine N9 hp (thn (hg _ s5 σ3 H5 x u _ I5' r5 (step x H5 y5)) λ_ s6 ⟨σ6,H6,I6,q6⟩=>?_);refine N9 hp (thn (hb _ s6 σ6 H6 _ I6 q6) λf s7 q7=>?_)
   have again:∀{σ7:St} {H7:Hp},Inv X (pins++iY fp s5.heap) σ7 H7 s7->N σ7 H7->∃m,m<n/\∃i σ' H',Inv X pins σ' H' s7/\tn i s7.heap/\(∀b∈fp,H' b=none)/\W i m σ' H':=λ{σ7 H7} I7 n7=>by
     obtain⟨m',hm,w7⟩:=hN σ7 H7 n7;refine⟨m',hm,i+1,σ7,H7,I7.fx,T.keep _ _ _ st5 λb hb o e=>(I7.pin (b,o) (tf _ (tf _ (cy hb e)))).1,λb hb=>?_,w7⟩;obtain⟨o,e,d⟩:=T.obj _ _ st5 b hb;exact(I7.pin (b,o) (tf _ (tf _ (cy hb e)))).2.1
   cases f with
   | next=>obtain⟨σ7,H7,I7,n7⟩:=q7; exact again I7 n7
   | cont=>obtain⟨σ7,H7,I7,n7⟩:=q7; exact again I7 n7
   | brk=>obtain⟨σ7,H7,I7,q7⟩:=q7; exact⟨σ7,H7,I7.fx,q7⟩
   | ret v=>obtain⟨x7,σ7,H7,I7,r7,q7⟩:=q7; exact⟨x7,σ7,H7,I7.fx,r7,q7⟩
end
noncomputable abbrev R2:=V->V->Hp->VK->Prop
def OpR (X:Cx)(f:Value->Value->Sem Value)(r:R2):Prop:=
 ∀(pins:List .(103)) (s:Da) (σ:St) (H:Hp) (x y:V) (v u:Value) (Q:VK),Inv X pins σ H s->RelV x v->RelV y u->r x y H Q ->
   wpAny .(100) X.A (f v u) (EP X pins σ Q) X.xe s
def UnR (X:Cx)(f:Value->Sem Value)(r:V->Hp->VK->Prop):Prop:=
 ∀(pins:List .(103)) (s:Da) (σ:St) (H:Hp) (x:V) (v:Value) (Q:VK),Inv X pins σ H s->RelV x v->r x H Q ->
   wpAny .(100) X.A (f v) (EP X pins σ Q) X.xe s
def fG (X:Cx)(f:Value)(r:List V->Hp->VK->Prop):Prop:=
 ∀(pins:List .(103)) (s:Da) (σ:St) (H:Hp) (xs:List V) (us:List Value) (Q:VK),Inv X pins σ H s->Vals xs us->r xs H Q ->
   wpAny .(100) X.A (call f us) (EP X pins σ Q) X.xe s
def tOp (r:R2)(ta tb:TE):TE:=λσ H Q=>ta σ H λx H1=>tb σ H1 λy H2=>r x y H2 Q
def tUn (r:V->Hp->VK->Prop)(ta:TE):TE:=λσ H Q=>ta σ H λx H1=>r x H1 Q
noncomputable def rI (C:Int->Int->Prop)(g:Int->Int->V):R2:=λx y H Q=>∃i j,x=.int i/\y=.int j/\C i j/\Q (g i j) H
noncomputable def rI0 (g:Int->Int->V):R2:=λx y H Q=>∃i j,x=.int i/\y=.int j/\Q (g i j) H
noncomputable def rU (g:Int->V):V->Hp->VK->Prop:=λx H Q=>∃i,x=.int i/\Q (g i) H
section
variable {X:Cx}{a b:Expr}{ta tb:TE}{pos:Pos}
theorem DJ (ha:PE X a ta)(hb:PE X b tb){pins:List .(103)}{s:Da}{σ:St}{R:V->V->Hp->Prop}(I:Inv X pins σ H s)
   (h:ta σ H λx H1=>tb σ H1 λy H2=>R x y H2) {Q:Value->Da->Prop} {f:Value->Value->Sem Value}
   (hf:∀v u s2 x y H2,Inv X pins σ H2 s2->RelV x v->RelV y u->R x y H2->wpAny .(100) X.A (f v u) Q X.xe s2) :
   wpAny .(100) X.A (eval a X.env) (λv s₁=>wpAny .(100) X.A (eval b X.env) (λu s₂=>wpAny .(100) X.A (f v u) Q X.xe s₂) X.xe s₁) X.xe s:=by
 refine thn (ha pins s σ H _ I h) λv s1 ⟨x,H1,I1,r1,q1⟩=>?_
 refine thn (hb pins s1 σ H1 _ I1 q1) λu s2 ⟨y,H2,I2,r2,q2⟩=>?_
 exact hf v u s2 x y H2 I2 r1 r2 q2
theorem wM (ho:OpR X (KB op) r)(ha:PE X a ta)(hb:PE X b tb):PE X (.BinOp a op b pos) (tOp r ta tb):=by
 intro pins s σ H Q I h;exact wpAny_BinOp (DJ ha hb I h λv u s2 x y H2 I2 rx ry q=>ho pins s2 σ H2 x y v u Q I2 rx ry q)
theorem F3 (ho:UnR X (unaryOp op) r)(ha:PE X a ta):PE X (.UnaryOp op a pos) (tUn r ta):=by
 intro pins s σ H Q I h;exact UnaryOp_ (thn (ha pins s σ H _ I h) λv s1 ⟨x,H1,I1,r1,q1⟩=>ho pins s1 σ H1 x v Q I1 r1 q1)
theorem opI {f:Value->Value->Sem Value}{C:Int->Int->Prop}{g:Int->Int->Int}
   (rule:∀(i j:Int) (t u:Tok) (s:Da) (Q:Value->Da->Prop) (E:Value->Da->Prop),C i j->Q (.int (g i j) s.toks) { s with toks:=s.toks+1 }->wpAny .(100) X.A (f (.int i t) (.int j u)) Q E s) :
   OpR X f (rI C λi j=>.int (g i j)):=by
 intro pins s σ H x y v u Q I rx ry h;obtain⟨i,j,rfl,rfl,hc,q⟩:=h;obtain⟨t,rfl⟩:=rx;obtain⟨t',rfl⟩:=ry;exact rule i j t t' s _ _ hc ⟨.int (g i j),H,I.tok _,⟨_,rfl⟩,q⟩
theorem Ax {f:Value->Value->Sem Value}{g:Int->Int->Int}
   (rule:∀(i j:Int) (t u:Tok) (s:Da) (Q:Value->Da->Prop) (E:Value->Da->Prop),Q (.int (g i j) s.toks) { s with toks:=s.toks+1 }->wpAny .(100) X.A (f (.int i t) (.int j u)) Q E s) :
   OpR X f (rI0 λi j=>.int (g i j)):=by
 intro pins s σ H x y v u Q I rx ry h;obtain⟨i,j,rfl,rfl,q⟩:=h;obtain⟨t,rfl⟩:=rx;obtain⟨t',rfl⟩:=ry;exact rule i j t t' s _ _ ⟨.int (g i j),H,I.tok _,⟨_,rfl⟩,q⟩
theorem Bu {f:Value->Value->Sem Value}{g:Int->Int->Bool}
   (rule:∀(i j:Int) (t u:Tok) (s:Da) (Q:Value->Da->Prop) (E:Value->Da->Prop),Q (.bool (g i j)) s->wpAny .(100) X.A (f (.int i t) (.int j u)) Q E s) :
   OpR X f (rI0 λi j=>.bl (g i j)):=by
 intro pins s σ H x y v u Q I rx ry h;obtain⟨i,j,rfl,rfl,q⟩:=h;obtain⟨t,rfl⟩:=rx;obtain⟨t',rfl⟩:=ry;exact rule i j t t' s _ _ ⟨.bl (g i j),H,I,rfl,q⟩
def A9 (i j:Int):Prop:=0<=j/\j<=1000000/\i.natAbs<2^64
theorem tF (k:Nat):(0:Int)<=2^k:=by
 rw[two_pow_cast];exact KZ _
theorem DL:OpR X (KB .Add) (rI0 λi j=>.int (i+j)):=Ax λ_ _ _ _ _ _ _ q=>add_int q
theorem Dr:OpR X (KB .Sub) (rI0 λi j=>.int (i-j)):=Ax λ_ _ _ _ _ _ _ q=>sub_int q
theorem zS:OpR X (KB .Mod) (rI (λ_ j=>j≠0) λi j=>.int (i.fmod j)):=opI λ_ _ _ _ _ _ _ hc q=>mod_int' hc q
theorem Cw:OpR X (KB .Pow) (rI A9 λi j=>.int (i^j.toNat)):=opI λ_ _ _ _ _ _ _ hc q=>pow_int_small hc.1 hc.2.1 hc.2.2 q
theorem Du:OpR X (KB .LShift) (rI A9 λi j=>.int (i*2^j.toNat)):=opI λ_ _ _ _ _ _ _ hc q=>lshift_int_small hc.1 hc.2.1 hc.2.2 q
theorem Er:OpR X (KB .RShift) (rI (λ_ j=>0<=j) λi j=>.int (i/2^j.toNat)):=opI λi j _ _ _ _ _ hc q=>
 rshift_int hc (by rw[Ji i (tF _)]; exact q)
theorem DF:OpR X (KB .BitAnd) (rI0 λi j=>.int (Mj i j)):=Ax λ_ _ _ _ _ _ _ q=>and_int q
theorem Fh:OpR X (KB .BitOr) (rI0 λi j=>.int (Mv i j)):=Ax λ_ _ _ _ _ _ _ q=>or_int q
theorem unI {f:Value->Sem Value}{g:Int->Int}
   (rule:∀(i:Int) (t:Tok) (s:Da) (Q:Value->Da->Prop) (E:Value->Da->Prop),Q (.int (g i) s.toks) { s with toks:=s.toks+1 }->wpAny .(100) X.A (f (.int i t)) Q E s) :
   UnR X f (rU λi=>.int (g i)):=by
 intro pins s σ H x v Q I rx h;obtain⟨i,rfl,q⟩:=h;obtain⟨t,rfl⟩:=rx;exact rule i t s _ _ ⟨.int (g i),H,I.tok _,⟨_,rfl⟩,q⟩
theorem CH:UnR X (unaryOp .USub) (rU λi=>.int (-i)):=unI λ_ _ _ _ _ q=>neg_int q
end
noncomputable def ET:V->V->Bool
 | .non,.non=>true | .non,.int _=>true | .int _,.non=>true | .non,.bl _=>true | .bl _,.non=>true | .non,.str _=>true | .str _,.non=>true
 | .int _,.int _=>true | .bl _,.bl _=>true | .str _,.str _=>true | .byt _,.byt _=>true
 | .int _,.str _=>true | .str _,.int _=>true | .bl _,.str _=>true | .str _,.bl _=>true
 | _,_=>false
noncomputable def rEq:R2:=λx y H Q=>ET x y=true/\Q (.bl (decide (x=y))) H
noncomputable def rNe:R2:=λx y H Q=>ET x y=true/\Q (.bl (!decide (x=y))) H
theorem u0 :decide (V.int i=V.int j)=(i==j):=by
 rw[JJ];simp
theorem wW :decide (V.bl i=V.bl j)=(i==j):=by
 rw[JJ];simp
theorem ug :decide (V.str i=V.str j)=(i==j):=by
 rw[JJ];simp
theorem vg :decide (V.byt i=V.byt j)=(i.toList==j.toList):=by
 rw[JJ];cases i
 cases j
 simp
section
variable {X:Cx}{a b c:Expr}{ta tb tc:TE}{pos:Pos}
theorem a7 {pins:List .(103)}{σ:St}{s:Da}{Q:VK}(I:Inv X pins σ H s)(q:Q (.bl k) H)(e:k=k'):EP X pins σ Q (.bool k') s:=by
 subst e;exact⟨.bl k,H,I,rfl,q⟩
theorem Bv:OpR X (Gc .Eq) rEq:=by
 intro pins s σ H x y v u Q I rx ry h;obtain⟨hs,q⟩:=h;cases x with
 | non=>
   cases rx
   cases y with
   | non=>cases ry; exact PySem.EqNone.eq_none_none (a7 I q .(4))
   | bl j=>cases ry; exact PySem.EqNone.eq_none_bool (a7 I q .(4))
   | int j=>obtain⟨t',rfl⟩:=ry; exact PySem.EqNone.eq_none_int (a7 I q .(4))
   | str j=>obtain⟨t',rfl⟩:=ry; exact PySem.EqNone.eq_none_str (a7 I q .(4))
   | _=>exact absurd (show false=true from hs) HG
 | bl i=>
   cases rx
   cases y with
   | non=>cases ry; exact PySem.EqNone.eq_bool_none (a7 I q .(4))
   | bl j=>cases ry; exact eq_bool (a7 I q wW)
   | str j=>obtain⟨t',rfl⟩:=ry; exact PySem.EqMixed.eq_bool_str (a7 I q .(4))
   | _=>exact absurd (show false=true from hs) HG
 | int i=>
   obtain⟨t,rfl⟩:=rx;cases y with
   | non=>cases ry; exact PySem.EqNone.eq_int_none (a7 I q .(4))
   | int j=>obtain⟨t',rfl⟩:=ry; exact eq_int (a7 I q u0)
   | str j=>obtain⟨t',rfl⟩:=ry; exact PySem.EqMixed.eq_int_str (a7 I q .(4))
   | _=>exact absurd (show false=true from hs) HG
 | str i=>
   obtain⟨t,rfl⟩:=rx;cases y with
   | non=>cases ry; exact PySem.EqNone.eq_str_none (a7 I q .(4))
   | bl j=>cases ry; exact PySem.EqMixed.eq_str_bool (a7 I q .(4))
   | int j=>obtain⟨t',rfl⟩:=ry; exact PySem.EqMixed.eq_str_int (a7 I q .(4))
   | str j=>obtain⟨t',rfl⟩:=ry; exact eq_str (a7 I q ug)
   | _=>exact absurd (show false=true from hs) HG
 | byt i=>
   obtain⟨t,rfl⟩:=rx;cases y with
   | byt j=>obtain⟨t',rfl⟩:=ry; exact PySem.W.eq_bytes (a7 I q vg)
   | _=>exact absurd (show false=true from hs) HG
 | _=>cases y <;> exact absurd (show false=true from hs) HG
theorem B5:OpR X (Gc .NotEq) rNe:=by
 intro pins s σ H x y v u Q I rx ry h;obtain⟨hs,q⟩:=h;cases x with
 | non=>
   cases rx
   cases y with
   | non=>cases ry; exact PySem.EqNone.ne_none_none (a7 I q .(4))
   | bl j=>cases ry; exact PySem.EqNone.ne_none_bool (a7 I q .(4))
   | int j=>obtain⟨t',rfl⟩:=ry; exact PySem.EqNone.ne_none_int (a7 I q .(4))
   | str j=>obtain⟨t',rfl⟩:=ry; exact PySem.EqNone.ne_none_str (a7 I q .(4))
   | _=>exact absurd (show false=true from hs) HG
 | bl i=>
   cases rx
   cases y with
   | non=>cases ry; exact PySem.EqNone.ne_bool_none (a7 I q .(4))
   | bl j=>cases ry; exact ne_bool (a7 I q (congrArg not wW))
   | str j=>obtain⟨t',rfl⟩:=ry; exact PySem.EqMixed.ne_bool_str (a7 I q .(4))
   | _=>exact absurd (show false=true from hs) HG
 | int i=>
   obtain⟨t,rfl⟩:=rx;cases y with
   | non=>cases ry; exact PySem.EqNone.ne_int_none (a7 I q .(4))
   | int j=>obtain⟨t',rfl⟩:=ry; exact ne_int (a7 I q (congrArg not u0))
   | str j=>obtain⟨t',rfl⟩:=ry; exact PySem.EqMixed.ne_int_str (a7 I q .(4))
   | _=>exact absurd (show false=true from hs) HG
 | str i=>
   obtain⟨t,rfl⟩:=rx;cases y with
   | non=>cases ry; exact PySem.EqNone.ne_str_none (a7 I q .(4))
   | bl j=>cases ry; exact PySem.EqMixed.ne_str_bool (a7 I q .(4))
   | int j=>obtain⟨t',rfl⟩:=ry; exact PySem.EqMixed.ne_str_int (a7 I q .(4))
   | str j=>obtain⟨t',rfl⟩:=ry; exact ne_str (a7 I q (congrArg not ug))
   | _=>exact absurd (show false=true from hs) HG
 | byt i=>
   obtain⟨t,rfl⟩:=rx;cases y with
   | byt j=>obtain⟨t',rfl⟩:=ry; exact PySem.W.ne_bytes (a7 I q (congrArg not vg))
   | _=>exact absurd (show false=true from hs) HG
 | _=>cases y <;> exact absurd (show false=true from hs) HG
theorem FA:OpR X (Gc .Lt) (rI0 λi j=>.bl (decide (i<j))):=Bu λ_ _ _ _ _ _ _ q=>lt_int q
theorem Fg:OpR X (Gc .LtE) (rI0 λi j=>.bl (decide (i<=j))):=Bu λ_ _ _ _ _ _ _ q=>le_int q
theorem ER:OpR X (Gc .Gt) (rI0 λi j=>.bl (decide (j<i))):=Bu λ_ _ _ _ _ _ _ q=>gt_int q
theorem E5:OpR X (Gc .GtE) (rI0 λi j=>.bl (decide (j<=i))):=Bu λ_ _ _ _ _ _ _ q=>ge_int q
theorem C6:OpR X (Gc .Is) (λx y H Q=>y=.non/\Q (.bl (decide (x=.non))) H):=by
 intro pins s σ H x y v u Q I rx ry h;obtain⟨rfl,q⟩:=h;cases ry
 refine is_none_gen (a7 I q ?_)
 cases x <;> first
   | (cases rx; rfl)
   | (obtain⟨t,rfl⟩:=rx; rfl)
theorem Aw:OpR X (Gc .IsNot) (λx y H Q=>y=.non/\Q (.bl (!decide (x=.non))) H):=by
 intro pins s σ H x y v u Q I rx ry h;obtain⟨rfl,q⟩:=h;cases ry
 refine isnot_none_gen (a7 I q ?_)
 cases x <;> first
   | (cases rx; rfl)
   | (obtain⟨t,rfl⟩:=rx; rfl)
theorem xw (b:Expr){op:CmpOp}(h:op≠.In:=by decide)(h2:op≠.NotIn:=by decide):N3 op b=false:=by
 have e1:(op==CmpOp.In)=false:=by cases op <;> first | rfl | exact absurd rfl h
 have e2:(op==CmpOp.NotIn)=false:=by cases op <;> first | rfl | exact absurd rfl h2
 cases b <;> simp[N3,e1,e2]
theorem zJ (ho:OpR X (Gc op) r)(ha:PE X a ta)(hb:PE X b tb)(hm:N3 op b=false):PE X (.Compare a [op] [b] pos) (tOp r ta tb):=by
 intro pins s σ H Q I h;exact wpAny_Compare1 (DJ ha hb I h λv u s2 x y H2 I2 rx ry q=>ho pins s2 σ H2 x y v u Q I2 rx ry q) hm
def BD (t:TE):TT:=λσ H Q=>t σ H λx H'=>∃k,x=.bl k/\Q k H'
theorem Av (ho:OpR X (Gc op) r)(ha:PE X a ta)(hb:PE X b tb)(hm:N3 op b=false):PT X (.Compare a [op] [b] pos) (BD (tOp r ta tb)):=by
 intro pins s σ H Q I h
 refine wpAny_isTrue_Compare1 (thn (ha pins s σ H _ I h) λv s1 ⟨x,H1,I1,r1,q1⟩=>thn (hb pins s1 σ H1 _ I1 q1) λu s2 ⟨y,H2,I2,r2,q2⟩=>
   thn (ho pins s2 σ H2 x y v u _ I2 r1 r2 q2) λc s3 ⟨z,H3,I3,r3,k,e,q3⟩=>?_) hm
 subst e;cases r3
 exact KM ⟨H3,I3,q3⟩
def rV (r r':R2)(ta tb tc:TE):TE:=λσ H Q=>ta σ H λx H1=>tb σ H1 λy H2=>r x y H2 λz H3=>∃k,z=.bl k /\
 (if k=true then tc σ H3 λw' H4=>r' y w' H4 Q else Q (.bl false) H3)
theorem yw {op op':CmpOp}{r r':R2}(ho:OpR X (Gc op) r)(ho':OpR X (Gc op') r')(ha:PE X a ta)(hb:PE X b tb)(hc:PE X c tc)
   (hm:lastMarks [op,op'] [b,c]=false:=by with_unfolding_all rfl):PE X (.Compare a [op,op'] [b,c] pos) (rV r r' ta tb tc):=by
 intro pins s σ H Q I h
 refine Compare_chain (thn (ha pins s σ H _ I h) λv s1 ⟨x,H1,I1,r1,q1⟩=>chain_link (thn (hb pins s1 σ H1 _ I1 q1) λu s2 ⟨y,H2,I2,r2,q2⟩=>
   thn (ho pins s2 σ H2 x y v u _ I2 r1 r2 q2) λd s3 ⟨z,H3,I3,r3,k,e,q3⟩=>?_)) hm
 subst e;cases r3
 refine KM ?_;cases k with
 | false=>exact ite_ff ⟨.bl false,H3,I3,rfl,q3⟩
 | true=>exact ite_tt (chain_last (thn (hc pins s3 σ H3 _ I3 q3) λw' s4 ⟨z',H4,I4,r4,q4⟩=>ho' pins s4 σ H4 y z' u w' Q I4 r2 r4 q4))
theorem zC {op op':CmpOp}{r r':R2}(ho:OpR X (Gc op) r)(ho':OpR X (Gc op') r')(ha:PE X a ta)(hb:PE X b tb)(hc:PE X c tc)
   (hm:lastMarks [op,op'] [b,c]=false:=by with_unfolding_all rfl):PT X (.Compare a [op,op'] [b,c] pos) (BD (rV r r' ta tb tc)):=by
 intro pins s σ H Q I h
 refine isTrue_chain (thn (ha pins s σ H _ I h) λv s1 ⟨x,H1,I1,r1,q1⟩=>test_link (thn (hb pins s1 σ H1 _ I1 q1) λu s2 ⟨y,H2,I2,r2,q2⟩=>
   thn (ho pins s2 σ H2 x y v u _ I2 r1 r2 q2) λd s3 ⟨z,H3,I3,r3,k,e,q3⟩=>?_)) hm
 subst e;cases r3
 refine KM ?_;cases k with
 | false=>
   obtain⟨k',e',q'⟩:=q3;cases e'
   exact ite_ff ⟨H3,I3,q'⟩
 | true=>
   refine ite_tt (test_last (thn (hc pins s3 σ H3 _ I3 q3) λw' s4 ⟨z',H4,I4,r4,q4⟩=>thn (ho' pins s4 σ H4 y z' u w' _ I4 r2 r4 q4) λd' s5 ⟨z2,H5,I5,r5,k2,e2,q5⟩=>?_));subst e2;cases r5
   exact KM ⟨H5,I5,q5⟩
theorem oV:(sizeLine:Nat)<2^63:=by rw[sizeLine_eq]; decide
theorem vals1 (r:Vals [x] us):∃u,us=[u]/\RelV x u:=by
 cases r with
 | cons r1 r2=>cases r2; exact⟨_,rfl,r1⟩
theorem vals2 (r:Vals [x,y] us):∃u w',us=[u,w']/\RelV x u/\RelV y w':=by
 cases r with
 | cons r1 r2=>
   cases r2 with
   | cons r3 r4=>cases r4; exact⟨_,_,rfl,r1,r3⟩
theorem xF:fG X (.builtin "abs") (λxs H Q=>∃i,xs=[.int i]/\Q (.int (if i<0 then -i else i)) H):=by
 intro pins s σ H xs us Q I r h;obtain⟨i,rfl,q⟩:=h;obtain⟨u,rfl,t,rfl⟩:=vals1 r;exact call_abs_int λu tk=>⟨.int (if i<0 then -i else i),H,I.tok _,⟨_,rfl⟩,q⟩
theorem wF (hc:X.calm=true):fG X (.builtin "max") (λxs H Q=>∃i j,xs=[.int i,.int j]/\Q (.int (if j>i then j else i)) H):=by
 intro pins s σ H xs us Q I r h;obtain⟨i,j,rfl,q⟩:=h;obtain⟨u,w',rfl,⟨t,rfl⟩,⟨t',rfl⟩⟩:=vals2 r;refine max_two_ints (I.ok.hd hc) λh' tk k=>⟨_,H,I.kept k,?_,q⟩
 by_cases hj:j>i
 . rw[if_pos hj,if_pos hj]; exact⟨_,rfl⟩
 . rw[if_neg hj,if_neg hj]; exact⟨_,rfl⟩
theorem wK (hc:X.calm=true):fG X (.builtin "min") (λxs H Q=>∃i j,xs=[.int i,.int j]/\Q (.int (if j<i then j else i)) H):=by
 intro pins s σ H xs us Q I r h;obtain⟨i,j,rfl,q⟩:=h;obtain⟨u,w',rfl,⟨t,rfl⟩,⟨t',rfl⟩⟩:=vals2 r;refine min_two_ints (I.ok.hd hc) λh' tk k=>⟨_,H,I.kept k,?_,q⟩
 by_cases hj:j<i
 . rw[if_pos hj,if_pos hj]; exact⟨_,rfl⟩
 . rw[if_neg hj,if_neg hj]; exact⟨_,rfl⟩
theorem wx:fG X (.type "int") (λxs H Q=>(∃i,xs=[.int i]/\Q (.int i) H)\/∃k,xs=[.bl k]/\Q (.int (if k then 1 else 0)) H):=by
 intro pins s σ H xs us Q I r h;rcases h with ⟨i,rfl,q⟩ | ⟨k,rfl,q⟩
 . obtain⟨u,rfl,t,rfl⟩:=vals1 r;exact call_int_int ⟨.int i,H,I,⟨_,rfl⟩,q⟩
 . obtain⟨u,rfl,r1⟩:=vals1 r;cases r1
   exact call_int_bool ⟨.int (if k then 1 else 0),H,I.tok _,⟨_,rfl⟩,q⟩
end
theorem qV.some_of (r:qV (some v) o):∃u,o=some u/\RelV v u:=by
 cases o with
 | none=>exact(show False from r).elim
 | some u=>exact⟨u,rfl,r⟩
structure gq (k:Nat)(A:GT):Prop where
 hd:A.handled=none
 dp:A.depth+3*k+5<recursionLimit
 un:A.units+16*k+200<cLine
theorem gq.mono (r:gq k A)(h:j<=k):gq j A:=⟨r.hd,by have:=r.dp; omega,by have:=r.un; omega⟩
theorem gq.deeper (r:gq (k+1) A)(env:Env):gq k (A.deeper env):=
 ⟨r.hd,by have:=r.dp; show A.depth+1+3*k+5<_; omega,by have:=r.un; show A.units+3+16*k+200<_; omega⟩
theorem gq.depth (r:gq k A):A.depth<recursionLimit:=by have:=r.dp; omega
theorem gq.units (r:gq k A):A.units+64<cLine:=by have:=r.un; omega
def G9:TA:=λ_ H Q=>Q [] H
def Gj (ta:TE)(tr:TA):TA:=λσ H Q=>ta σ H λx H1=>tr σ H1 λxs H2=>Q (x::xs) H2
section
variable {X:Cx}{e:Expr}{es:List Expr}{te:TE}{t:TA}{pos:Pos}
theorem cB:PA X [] G9:=λ_ _ _ _ H Q I h=>K6 ⟨[],H,I,.nil,h⟩
theorem bj (ha:PE X e te)(hr:PA X es t)(hs:Do (e::es) X.env=.(117)::Do es X.env:=by rfl):PA X (e::es) (Gj te t):=by
 intro pos pins s σ H Q I h;rw[hs];show wpAny _ _ (spliced (.(117)::M5 pos (Do es X.env))) _ _ s;refine Kb (thn (ha pins s σ H _ I h) λu s1 ⟨x,H1,I1,r1,q1⟩=>?_);exact thn (hr pos pins s1 σ H1 _ I1 q1) λus s2 ⟨xs,H2,I2,r2,q2⟩=>⟨x::xs,H2,I2,.cons r1 r2,q2⟩
def Hn (t:TA):TE:=λσ H Q=>t σ H λxs H1=>xs.length<=sizeLine/\∀p,H1 p=none->Q (.ref p) (upd H1 p (.tup xs))
def Hr (t:TA):TE:=λσ H Q=>t σ H λxs H1=>xs.length<=sizeLine/\∀p,H1 p=none->Q (.ref p) (upd H1 p (.lst xs))
theorem k7 (h:PA X es t):PE X (.Tuple es x1 pos) (Hn t):=by
 intro pins s σ H Q I hq;refine wpAny_Tuple_spliced (thn (h pos pins s σ H _ I hq) λus s1 ⟨xs,H1,I1,r,z,q⟩=>⟨by rw[<- r.length]; exact z,?_⟩);have hf:H1 s1.heap.objs.size=none:=I1.hok.fresh .(3);refine⟨.ref s1.heap.objs.size,upd H1 s1.heap.objs.size (.tup xs),I1.laid (t':=s1.toks) (λb u e=>pq _ e) .(3) ?_,rfl,q _ hf⟩;exact⟨z,us,r,⟨_,Hz _ rfl,rfl,_,rfl⟩⟩
theorem EG (h:PA X es t):PE X (.List es pos) (Hr t):=by
 intro pins s σ H Q I hq;refine wpAny_List_spliced (thn (h pos pins s σ H _ I hq) λus s1 ⟨xs,H1,I1,r,z,q⟩=>⟨by rw[<- r.length]; exact z,?_⟩);have hf:H1 s1.heap.objs.size=none:=I1.hok.fresh .(3);refine⟨.ref s1.heap.objs.size,upd H1 s1.heap.objs.size (.lst xs),I1.laid (t':=s1.toks) (λb u e=>pq _ e) .(3) ?_,rfl,q _ hf⟩;exact⟨z,us,0,r,Hz _ rfl⟩
end
noncomputable abbrev Sp:=List V->Hp->VK->XK->Prop
noncomputable abbrev CXT:=List Env->Hp->Da->XK->Value->Da->Prop
structure AO (P:FB)(w:World)(K:fw)(mg:Str->Option Value)(base:Heap)(A:GT)(outer:List Env)(s:Da)(H:Hp):Prop where
 frames:A.frames=some outer
 mod:Mod K mg base
 bs:∀b o,base.get? b=some o->s.heap.get? b=some o/\H b=none
 bsz:base.objs.size<=s.heap.objs.size
 lS:s.heap.FunFrames base outer
 frf:∀b∈frs outer,H b=none
 hok:HOk P w H s.heap
 bare:NA s.gens
def CE (outer:List Env)(P:FB)(w:World)(H:Hp)(s:Da)(Q:VK)(u:Value)(s':Da):Prop:=
 ∃v H',s'.os=s.os/\NA s'.gens/\Un (frs outer) [] H H' s.heap s'.heap/\HOk P w H' s'.heap/\RelV v u/\Q v H'
def CR (CX:CXT)(outer:List Env)(P:FB)(w:World)(H:Hp)(s:Da)(Q:VK)(E:XK)(r:Result)(s':Da):Prop:=
 match r with
 | .ok (.ret u)=>CE outer P w H s Q u s'
 | .ok _=>False
 | .error e=>CX outer H s E e s'
structure a8 (P:FB)(w:World)(K:fw)(mg:Str->Option Value)(base:Heap)(CX:CXT)(k:Nat)(f:Addr)(fd:GE)(ps:List Str)(sp:Sp):Prop where
 len:∀vs H Q E,sp vs H Q E->vs.length=ps.length
 run:∀(A:GT) (outer:List Env) (s:Da) (H:Hp) (args:Args) (us:List Value) (vs:List V) (Q:VK) (E:XK),gq k A->AO P w K mg base A outer s H->BindsTo s fd args (ps.zip us)->Vals vs us->sp vs H Q E ->
   Nq (model P w) A (.call (.ref f) args) (CR CX outer P w H s Q E) s
theorem a8.mono {P:FB}{w:World}{K:fw}{mg:Str->Option Value}{CX:CXT}{fd:GE}{ps:List Str}{sp:Sp}(F:a8 P w K mg base CX j f fd ps sp)(h:j<=k):
   a8 P w K mg base CX k f fd ps sp:=⟨F.len,λA outer s H args us vs Q E hr=>F.run A outer s H args us vs Q E (hr.mono h)⟩
section
variable {X:Cx}{pins:List .(103)}{σ:St}{H:Hp}{s s':Da}
theorem Inv.GV (I:Inv X pins σ H s):AO X.prog X.w X.K X.mg X.base X.A X.stack s H:=
 ⟨I.ok.frames,I.ok.mod,I.bs,HJ I.ok.bsz I.sz,I.stack,I.t6,I.hok,I.bare⟩
theorem Inv.after (I:Inv X pins σ H s)(h:CE X.stack X.prog X.w H s Q u s'):EP X pins σ Q u s':=by
 obtain⟨v,H',os,bare,un,hok,r,q⟩:=h;obtain⟨hh,g,d,t,os'⟩:=s';obtain rfl:os'=s.os:=os;exact⟨v,H',I.call (h':=hh) (g':=g) (d':=d) (t':=t) (ch:=[]) un hok bare (λb z=>absurd z .(4)),r,q⟩
end
def Fd (sp:Sp)(dvs:List V)(E:XK)(t:TA):TE:=λσ H Q=>t σ H λvs H1=>sp (vs++dvs) H1 Q E
def Binds (K:fw)(fd:GE)(ps:List Str)(ds:List Value):Prop:=
 ∀(s:Da) (us:List Value),K.In s.heap->(us++ds).length=ps.length->BindsTo s fd ⟨us,[]⟩ (ps.zip (us++ds))
theorem Binds.all {K:fw}{fd:GE}{ps:List Str}(h:∀us:List Value,us.length=ps.length->bindArgs fd ⟨us,[]⟩=pure (ps.zip us)):Binds K fd ps []:=λs us _ hl=>by
 rw[Io]at hl ⊢;exact .of_eq (h us hl)
def Passes (CX:CXT)(X:Cx)(E:XK):Prop:=∀(pins:List .(103)) (σ:St) (H:Hp) (s:Da) (e:Value) (s':Da),Inv X pins σ H s->CX X.stack H s E e s'->X.xe e s'
section
variable {X:Cx}{CX:CXT}{k:Nat}{f:Addr}{fd:GE}{ps:List Str}{sp:Sp}{dvs:List V}{ds:List Value}{E:XK}{x:Str}{p pos:Pos}{e:Expr}{es:List Expr}{t:TA}
theorem ED {pins:List .(103)}{σ:St}{s:Da}{Q:VK}{us:List Value}{vs:List V}(F:a8 X.prog X.w X.K X.mg X.base CX k f fd ps sp)(hr:gq k X.A)(hb:Binds X.K fd ps ds)(hd:Vals dvs ds)(hx:Passes CX X E)
   (I:Inv X pins σ H s) (r:Vals vs us) (h:sp (vs++dvs) H Q E):wpAny .(100) X.A (call (.ref f) us) (EP X pins σ Q) X.xe s:=by
 have r2:Vals (vs++dvs) (us++ds):=r.append hd;have hl:(us++ds).length=ps.length:=by rw[<- r2.length]; exact F.len _ _ _ _ h
 refine wpAny_call (codeAny_mono (F.run X.A X.stack s H ⟨us,[]⟩ (us++ds) (vs++dvs) Q E hr I.GV (hb s us I.kIn hl) r2 h) λr s' hq=>?_);cases r with
 | error e=>exact hx pins σ H s e s' I hq
 | ok fl=>
   cases fl with
   | ret u=>exact I.after hq
   | next=>exact J7 hq
   | brk=>exact J7 hq
   | cont=>exact J7 hq
theorem vC (F:a8 X.prog X.w X.K X.mg X.base CX k f fd ps sp)(hr:gq k X.A)(hg:Gl X x)(hm:X.mg x=some (.ref f))(hk:JL X.K (.ref f)=true)(hb:Binds X.K fd ps ds)(hd:Vals dvs ds)(hx:Passes CX X E)
   (ha:PA X (e::es) t) (hdb:(x==("__debug__" : Str))=false:=by decide) (he:Do (e::es) X.env=.(117)::Do es X.env:=by rfl) (hpl:(M5 pos (Do es X.env)).any (·.1)=false:=by rfl) :
   PE X (.Call (.Name x p) (e::es) [] pos) (Fd sp dvs E t):=by
 intro pins s σ H Q I h;refine NN (vo I hg hm ?_ hdb);refine PySem.W.callWith_K (h₀:=X.base) I.ok.mod.kin hk (thn (ha pos pins s σ H _ I h) λus s1 ⟨vs,H1,I1,r,q⟩=>⟨I1.kIn,?_⟩) he hpl;exact ED F hr hb hd hx I1 r q
end
structure aJ (N P:List Str)(sc:Scope):Prop where
 kind:sc.kind=.function
 co:sc.isCoroutine=false
 gen:sc.isGenerator=false
 nd:N.Nodup
 pre:N.take P.length=P
 par:∀x∈P,sc.names.lookup x=some .local\/sc.names.lookup x=some .cell
 nofree:∀y∈sc.names,y.2≠.free
theorem nK {kindOf:Str->Option N0}:∀{binds:List (Str×Value)} {m:Str->Option Value},(∀v,(x,v)∉binds)->bindL kindOf binds m x=m x
 | [],_,_=>rfl
 | (n,v)::r,m,h=>by
   unfold bindL;rw[nK λw hw=>h w (Et _ hw)];split
   . have:x≠n:=by rintro rfl; exact h v Ih
     simp[this]
   . rfl
theorem mX {kindOf:Str->Option N0}:∀{binds:List (Str×Value)} {m:Str->Option Value},(∀v,(x,v)∉binds)->bindC kindOf binds m x=m x
 | [],_,_=>rfl
 | (n,v)::r,m,h=>by
   unfold bindC;rw[mX λw hw=>h w (Et _ hw)];split
   . rfl
   . have:x≠n:=by rintro rfl; exact h v Ih
     simp[this]
theorem nM {kindOf:Str->Option N0}:∀{P:List Str} {vs:List Value} {i:Nat} {m:Str->Option Value},P.Nodup->P[i]?=some x->vs[i]?=some v->kindOf x=some .local ->
   bindL kindOf (P.zip vs) m x=some v
 | [],_,_,_,_,h,_,_=>by simp at h
 | _::_,[],_,_,_,_,h,_=>by simp at h
 | p::P,w::vs,0,m,nd,h1,h2,hk=>by
   simp at h1 h2; subst h1; subst h2
   show bindL kindOf ((p,w)::P.zip vs) m p=_;unfold bindL;rw[nK λv hv=>(IB.mp nd).1 (Mq hv).1,if_pos hk];simp
 | p::P,w::vs,i+1,m,nd,h1,h2,hk=>by
   show bindL kindOf ((p,w)::P.zip vs) m x=_;unfold bindL;exact nM (i:=i) (IB.mp nd).2 (by simpa using h1) (by simpa using h2) hk
theorem nJ {kindOf:Str->Option N0}:∀{P:List Str} {vs:List Value} {i:Nat} {m:Str->Option Value},P.Nodup->P[i]?=some x->vs[i]?=some v->kindOf x≠some .local ->
   bindC kindOf (P.zip vs) m x=some v
 | [],_,_,_,_,h,_,_=>by simp at h
 | _::_,[],_,_,_,_,h,_=>by simp at h
 | p::P,w::vs,0,m,nd,h1,h2,hk=>by
   simp at h1 h2; subst h1; subst h2
   show bindC kindOf ((p,w)::P.zip vs) m p=_;unfold bindC;rw[mX λv hv=>(IB.mp nd).1 (Mq hv).1,if_neg hk];simp
 | p::P,w::vs,i+1,m,nd,h1,h2,hk=>by
   show bindC kindOf ((p,w)::P.zip vs) m x=_;unfold bindC;exact nJ (i:=i) (IB.mp nd).2 (by simpa using h1) (by simpa using h2) hk
noncomputable def start (N:List Str)(vs:List V):St:=vs.map some++HY (N.length-vs.length) none
noncomputable def sI (CX:CXT)(P:FB)(w:World)(K:fw)(mg:Str->Option Value)(base:Heap)(N:List Str)(qual:Str)(scope:Scope)(f:Addr)(cd:Value)(A:GT)(outer:List Env)(s:Da)(H:Hp)(E:XK):Cx where
 prog:=P
 w:=w
 K:=K
 mg:=mg
 base:=base
 A:=A.deeper (NO qual scope s.heap.objs.size f cd)
 N:=N
 s₀:=s
 H₀:=H
 env:=NO qual scope s.heap.objs.size f cd
 outer:=outer
 stack:=NO qual scope s.heap.objs.size f cd::outer
 ex:=[]
 calm:=true
 fn:=λ_=>true
 pn:=[]
 xe:=λe s'=>wpAny (model P w) (A.deeper (NO qual scope s.heap.objs.size f cd)) (leaving (NO qual scope s.heap.objs.size f cd) e) (λ_ s''=>CX outer H s E e s'') (λe' s''=>CX outer H s E e' s'') s'
theorem qG {sc:Scope}(h:sc.names.lookup x=some .cell):∃c,(M4 n sc.names []).lookup x=some c:=by
 have q:=My sc.names n [] (.inl h);exact KU.mp q
theorem wj {CX:CXT}{P:FB}{w:World}{K:fw}{mg:Str->Option Value}{N ps:List Str}{scope:Scope}{A:GT}{outer:List Env}{s s1:Da}{E:XK}{us:List Value}{vs:List V}
   (S:aJ N ps scope)  (hd:cm=true->A.handled=none) (e0:AO P w K mg base A outer s H) (hl:vs.length=ps.length) (r:Vals vs us)
   (x:InCallC s s.heap.objs.size (bindL (NO qual scope s.heap.objs.size f cd).kindOf (ps.zip us) λ_=>none) (M4 (s.heap.objs.size+1) scope.names []) (bindC (NO qual scope s.heap.objs.size f cd).kindOf (ps.zip us) λ_=>none) s1) :
   Inv { sI CX P w K mg base N qual scope f cd A outer s H E with calm:=cm } [] (start N vs) H s1:=by
 have hpl:ps.length<=N.length:=by have:=congrArg List.length S.pre; rw[IG]at this; omega
 obtain⟨h1,tk,rfl,hk⟩:=x.done;have noA:∀b:Addr,b∉(sI CX P w K mg base N qual scope f cd A outer s H E).ex:=λb z=>absurd (show b∈([]:List Addr) from z) .(4)
 refine⟨⟨e0.mod,S.kind,rfl,rfl,Ia _,λy z c h1 h2=>?_,λy hy=>?_,λy c _ h=>?_,hd,Around.frames_deeper e0.frames,.inr ⟨rfl,rfl⟩,λb z=>absurd z (noA b),e0.bs,e0.bsz,λb _ _=>noA b,λb z=>absurd z (noA b),e0.lS,e0.frf⟩,
   rfl,e0.bare,Un.kept hk,⟨_,x.toInCall.ns,λi y v h1 h2 h3=>?_⟩,λy c h=>⟨_,x.cell y c h⟩,e0.hok.fresh .(3),λy c h=>?_,λp hp=>absurd (show p∈([]:List .(103)) from hp) .(4),e0.hok.kept hk,?_⟩
 . exact name_of_addr x.apart (JZ h1) (JZ h2)
 . have hy:scope.names.lookup y=some .cell\/scope.names.lookup y=some .free:=hy;rcases hy with hy | hy
   . exact qG hy
   . exact absurd rfl (S.nofree _ (JZ hy))
 . exact Jp (x.above y c (JZ h))
 . have hi:i<vs.length:=by
     unfold start at h2;by_cases hi:i<vs.length
     . exact hi
     . rw[Iu (by simpa using hi)]at h2;rw[Le]at h2;split at h2 <;> cases h2
   have ha:vs[i]?=some v:=by
     unfold start at h2;rw[Hv (by simpa using hi),HR]at h2;cases e:vs[i]? with
     | none=>rw[e]at h2; cases h2
     | some a=>rw[e]at h2; cases h2; rfl
   obtain⟨u,hu,rv⟩:=r.get ha
   have hp:ps[i]?=some y:=by
     rw[<- S.pre,MD .(0)]; exact h1
   have ndP:ps.Nodup:=by rw[<- S.pre]; exact S.nd.sublist (List.take_sublist _ _)
   refine⟨u,rv,?_⟩;rcases S.par y (IP hp) with k | k
   . exact .inl ⟨k,nM ndP hp hu k⟩
   . obtain⟨c,e⟩:=qG (n:=s.heap.objs.size+1) k;refine .inr ⟨.inl k,c,e,?_⟩;have q:=x.cell y c e;rw[nJ ndP hp hu (by show scope.names.lookup y≠_; rw[k]; decide)]at q;exact q
 . exact e0.hok.fresh (Jp (x.above y c (JZ h)))
 . unfold start;show _=N.length;rw[vp,bp,List.length_replicate];omega
theorem FG {CX:CXT}{P:FB}{w:World}{K:fw}{mg:Str->Option Value}{base:Heap}{f:Addr}{name qual:Str}{params:Arguments}{body:List Stmt}{scope:Scope}{dV kV doc pm cdv ct oc:Value}{an od:Option Addr}
   {osl:Array (Option Value)} {N ps:List Str} {sp:Sp} (lk:K.lookup f=some ⟨oc,od,.func (JQ name qual params body scope dV kV doc pm an cdv ct),osl⟩) (hcd:KI K cdv qual=true) (S:aJ N ps scope)
   (len:∀vs H Q E,sp vs H Q E->vs.length=ps.length)
   (hbody:∀(A:GT) (outer:List Env) (s:Da) (H:Hp) (vs:List V) (Q:VK) (E:XK),gq k (A.deeper (NO qual scope s.heap.objs.size f cdv))->sp vs H Q E ->
     ∃t,PSs (sI CX P w K mg base N qual scope f cdv A outer s H E) body t/\t { nx:=λ_ H'=>Q .non H',rt:=Q } (start N vs) H) :
   a8 P w K mg base CX (k+1) f (JQ name qual params body scope dV kV doc pm an cdv ct) ps sp:=by
 refine⟨len,λA outer s H args us vs Q E hr e0 hb r hsp=>?_⟩;have hl:=len _ _ _ _ hsp;have KX:K.In s.heap:=e0.mod.kin.keeps λb o e=>(e0.bs b o e).1
 have lim:s.heap.NoLimit:=e0.mod.nolimit.keeps λb o e=>(e0.bs b o e).1
 have hkind:∀y∈ps.zip us,scope.names.lookup y.1=some .local\/(scope.names.lookup y.1=some .cell/\((M4 (s.heap.objs.size+1) scope.names []).lookup y.1).isSome=true):=λ⟨n,v⟩ hy=>by
   rcases S.par n (Mq hy).1 with q | q
   . exact .inl q
   . exact .inr ⟨q,My _ _ _ (.inl q)⟩
 refine codeAny_call_function hr.depth (KX _ _ lk) rfl S.co S.gen rfl (PySem.W.codeRec_of KX hcd) (hb _ _ _ _ ?_);refine wpAny_newFunctionEnv_cells S.kind hkind λenv he s1 x=>?_
 subst he;refine⟨lim.keeps x.toInCall.keep,codeAny_func ?_⟩;obtain⟨t,ht,hq⟩:=hbody A outer s H vs Q E (hr.deeper _) hsp;have I:Inv (sI CX P w K mg base N qual scope f cdv A outer s H E) [] (start N vs) H s1:=wj (cm:=true) S (λ_=>hr.hd) e0 hl r x;refine Nt (ht [] s1 (start N vs) H _ I hq) (λfl s' hs=>?_) λe s' hs=>hs
 have fin:∀{σ':St} {H':Hp} {v:V} {u:Value},Inv (sI CX P w K mg base N qual scope f cdv A outer s H E) [] σ' H' s'->RelV v u->Q v H'->CE outer P w H s Q u s':=
   λ{σ' H' v u} J rv q=>⟨v,H',J.os,J.bare,J.base,J.hok,rv,q⟩
 cases fl with
 | ret u=>
   obtain⟨v,σ',H',J,rv,q⟩:=hs;exact fin J rv q
 | next=>
   obtain⟨σ',H',J,q⟩:=hs;exact fin (v:=V.non) (u:=Jb) J rfl q
 | brk=>
   obtain⟨_,_,_,q⟩:=hs;exact J7 q
 | cont=>
   obtain⟨_,_,_,q⟩:=hs;exact J7 q
section
variable {X:Cx}{x:Str}{p pos:Pos}{e:Expr}{es:List Expr}{t:TA}{id T:String}{r:List V->Hp->VK->Prop}
def tCB (r:List V->Hp->VK->Prop)(t:TA):TE:=λσ H Q=>t σ H λvs H1=>r vs H1 Q
theorem qZ (hc:fG X (.builtin id) r)(hg:Gl X x)(hm:X.mg x=none)(hv:MY x=some (.builtin id))(ha:PA X (e::es) t)(hn:x ≠ "__name__":=by decide)(hdb:(x==("__debug__" : Str))=false:=by decide)
   (he:Do (e::es) X.env=.(117)::Do es X.env:=by rfl) (hpl:(M5 pos (Do es X.env)).any (·.1)=false:=by rfl):PE X (.Call (.Name x p) (e::es) [] pos) (tCB r t):=by
 intro pins s σ H Q I h;refine NN (cV I hg hm hv ?_ hn hdb);exact PyProof.Rows.callWith_builtin1 (thn (ha pos pins s σ H _ I h) λus s1 ⟨vs,H1,I1,r1,q1⟩=>hc pins s1 σ H1 vs us Q I1 r1 q1) he hpl
theorem nR (hc:fG X (.type T) r)(hg:Gl X x)(hm:X.mg x=none)(hv:MY x=some (.type T))(ha:PA X (e::es) t)(hn:x ≠ "__name__":=by decide)(hdb:(x==("__debug__" : Str))=false:=by decide)
   (he:Do (e::es) X.env=.(117)::Do es X.env:=by rfl) (hpl:(M5 pos (Do es X.env)).any (·.1)=false:=by rfl):PE X (.Call (.Name x p) (e::es) [] pos) (tCB r t):=by
 intro pins s σ H Q I h;refine NN (cV I hg hm hv ?_ hn hdb);exact Ib (thn (ha pos pins s σ H _ I h) λus s1 ⟨vs,H1,I1,r1,q1⟩=>hc pins s1 σ H1 vs us Q I1 r1 q1) he hpl
end
end L2
namespace HT
open PySem PyProof.Rows
section
open PySem.SeqAt
open PySem.AutoSeq1 (wpAny_loadPart')
open PySem.MeetsSeq PySem.MeetsSeq2 PySem.MeetsSeq3
end
section
variable {prog:FB}{w:World}{A:GT}{E:Value->Da->Prop}{s:Da}
theorem A8 (ht:IsTup s.heap t vs.toArray)(hb:IsTup s.heap b ws.toArray)(hv:vs≠[])
   (h1:ws=[]->Q (.ref t) s) (h2:ws≠[]->Q .(129) { s with heap:=s.heap.push { cls:=.type "tuple",data:=.seq (vs++ws).toArray } })
   (hsz:vs.length+ws.length<=sizeLine):wpAny .(107) A (KB .Add (.ref t) (.ref b)) Q E s:=by
 obtain⟨⟨cls,dd,data,sl⟩,ho,hc,n,hd⟩:=id ht;obtain⟨⟨cls2,dd2,data2,sl2⟩,ho2,hc2,n2,hd2⟩:=id hb;simp only at hc hd hc2 hd2;subst hc hd hc2 hd2;have e:vs.toArray++ws.toArray=(vs++ws).toArray:=by simp
 by_cases hw:ws=[]
 . exact concat_meets ⟨_,ho,rfl⟩ ⟨_,ho2,rfl⟩ noFill_tuple_add seq_tuple_add K9 K5 .(24)
     (tuple_addW1 t b vs.toArray ws.toArray n n2 dd dd2 sl sl2 (by simpa using hv) (by simp[hw])) ⟨ho,ho2,h1 hw⟩
 . refine concat_meets ⟨_,ho,rfl⟩ ⟨_,ho2,rfl⟩ noFill_tuple_add seq_tuple_add K9 K5 .(24)
     (tuple_addW2 t b vs.toArray ws.toArray n n2 dd dd2 sl sl2 (by simpa using hv) (by simpa using hw) (by rw[HD,HD]; exact hsz)) ⟨ho,ho2,?_⟩
   rw[e];exact h2 hw
noncomputable def sIx (n d:Nat):Option Int->Nat
 | none=>d
 | some v=>if v<0 then (v+(n:Int)).toNat else min v.toNat n
theorem mw (n d:Nat):sIx n d none=d:=rfl
theorem kQ (n d k:Nat):sIx n d (some (k:Int))=min k n:=by
 show (if (k:Int)<0 then ((k:Int)+(n:Int)).toNat else min (k:Int).toNat n)=min k n;rw[if_neg .(0),HC]
theorem CW (n d:Nat)(hd:d<=n)(o:Option Int):sIx n d o<=n:=by
 cases o with
 | none=>exact hd
 | some v=>
   show (if v<0 then (v+(n:Int)).toNat else min v.toNat n)<=n;by_cases hv:v<0
   . rw[if_pos hv]; omega
   . rw[if_neg hv]; exact Nat.min_le_right _ _
theorem t5 (v:Int)(n d:Nat):(if v<0 then max (v+(n:Int)) 0 else min v (n:Int))=((sIx n d (some v):Nat):Int):=by
 show (if v<0 then max (v+(n:Int)) 0 else min v (n:Int))=(((if v<0 then (v+(n:Int)).toNat else min v.toNat n):Nat):Int);by_cases hv:v<0
 . simp only[if_pos hv]; omega
 . simp only[if_neg hv]; omega
theorem tm (lo hi:Option Int)(n:Nat):LN lo hi 1 (n:Int)=(((sIx n 0 lo:Nat):Int),((sIx n n hi:Nat):Int)):=by
 have h1:¬((1:Int)<0):=by omega
 unfold Builtin.Slice.sliceAdjust;simp only[h1,if_false];refine Prod.ext ?_ ?_
 . cases lo with
   | none=>rfl
   | some v=>exact t5 v n 0
 . cases hi with
   | none=>rfl
   | some v=>exact t5 v n n
theorem tw (i j:Nat):Kq (i:Int) (j:Int) 1=j-i:=by
 unfold Builtin.Slice.slicePlaces;have h1:(1:Int)>0:=by omega
 simp only[h1,if_true,K1];split <;> omega
theorem kZ (p:IsPart v o)(h:Q o s):wpAny .(107) A (Builtin.Slice.slicePartIndex v) Q E s:=by
 cases p with
 | none=>exact slicePart_none h
 | int i t=>exact slicePart_int h
theorem j4 {lo hi:Option Int}{Q:Int×Int×Nat->Da->Prop}(hs:s.heap.IsSliceOf sl vl vu .none)(pl:IsPart vl lo)(pu:IsPart vu hi)
   (h:Q (((sIx n 0 lo:Nat):Int),1,sIx n n hi-sIx n 0 lo) s):wpAny .(107) A (Builtin.Slice.sliceApplied (.ref sl) (pure (n:Int))) Q E s:=by
 obtain⟨os,hos,hcs,hds⟩:=id hs;unfold Builtin.Slice.sliceApplied Builtin.Slice.sliceFields;refine AC (AC (NH hos hds (x:=vl) rfl (AC (NH hos hds (x:=vu) rfl (AC (NH hos hds (x:=.none) rfl (Fk ?_)))))));refine AC (slicePart_none ?_);show wpAny _ _ (if ((1:Int)==0)=true then _ else _) _ _ s;rw[if_neg .(2)];refine AC (kZ pl (AC (kZ pu (AC (Fk ?_)))));show wpAny _ _ (match LN lo hi 1 (n:Int) with | (lo,hi)=>pure (lo,(1:Int),Kq lo hi 1)) _ _ s;rw[tm lo hi n];show wpAny _ _ (pure (((sIx n 0 lo:Nat):Int),(1:Int),Kq ((sIx n 0 lo:Nat):Int) ((sIx n n hi:Nat):Int) 1)) _ _ s;rw[tw];exact Fk h
theorem wU (xs:Array Value)(i k:Nat):((ox k).filterMap λ(m:Nat)=>xs[((i:Int)+(m:Int)*1).toNat]?).toArray=((xs.toList.drop i).take k).toArray:=by
 have e:(λ(m:Nat)=>xs[((i:Int)+(m:Int)*1).toNat]?)=λm=>xs[i+m]?:=by
   funext m;have:((i:Int)+(m:Int)*1).toNat=i+m:=by omega
   rw[this]
 rw[e];have:=pick_run xs i k;rw[List.filterMap_map]at this;have e2:((λx=>xs[x]?)∘λx=>i+x)=λm=>xs[i+m]?:=rfl
 rw[e2]at this;rw[this]
theorem jx {items:Array Value}{lo hi:Option Int}{Q:Value->Da->Prop}(ht:IsTup s.heap t items)(hs:s.heap.IsSliceOf sl vl vu .none)(pl:IsPart vl lo)(pu:IsPart vu hi)
   (hw:¬(sIx items.size 0 lo=0/\sIx items.size items.size hi=items.size))
   (h:Q .(129) { s with heap:=s.heap.push { cls:=.type "tuple",data:=.seq .(130).toArray } })
   (hsz:items.size<=sizeLine):wpAny .(107) A (NK (.ref t) (.ref sl)) Q E s:=by
 have htake:sizeOk (.seq .(130).toArray):=by
   show .(130).toArray.size<=sizeLine;rw[HD,IG,Kr,IY];omega
 have hj:sIx items.size items.size hi<=items.size:=CW _ _ .(3) hi;obtain⟨os,hos,hcs,hds⟩:=id hs;have hTs:s.TypeIs (.ref sl) "slice":=⟨os,hos,hcs⟩;unfold NK
 try with_reducible refine Na ?_
 first | refine AC (Fk ?_) | skip
 refine AC (wpAny_sequenceKey ht.typeIs .(2) ?_)
 refine AC (Ni (name:=Mf "__getitem__") ht.typeIs Lv
   (N4 Lv ht.typeIs entry_tuple_getitem ?_ (args_tuple_getitem _ _)))
 show wpAny _ _ (Kn (.ref t) >>= _) _ _ s;refine AC (tupleItemsOf_ ht ?_);refine AC (wpAny_typeOf hTs ?_);rw[if_pos .(2)];refine AC (j4 hs pl pu ?_)
 have hno:¬((((sIx items.size 0 lo:Nat):Int)==0&&(1:Int)==1&&(sIx items.size items.size hi-sIx items.size 0 lo)==items.size)=true):=by
   intro q;rw[Iy,Iy]at q;have q1:((sIx items.size 0 lo:Nat):Int)=0:=eq_of_beq q.1.1;have q2:sIx items.size items.size hi-sIx items.size 0 lo=items.size:=eq_of_beq q.2;exact hw .(11)
 show wpAny _ _ (if (((sIx items.size 0 lo:Nat):Int)==0&&(1:Int)==1&&(sIx items.size items.size hi-sIx items.size 0 lo)==items.size)=true then _ else _) _ _ s;rw[if_neg hno,wU]
 first
   | exact AC (m:=JT _) (GM (Fk ⟨_,rfl,Fk h⟩) htake)
   | exact AC (m:=JT _) (GM (AC (Fk (Fk ⟨_,rfl,Fk h⟩))) htake)
   | exact AC (AC (m:=JT _) (GM (Fk (Fk ⟨_,rfl,Fk h⟩)) htake))
   | exact AC (AC (m:=JT _) (GM (Fk ⟨_,rfl,Fk h⟩) htake))
end
end HT
namespace L2
open PySem PySem.Spec PyProof.Rows
noncomputable abbrev TO:=St->Hp->(Option Int->Hp->Prop)->Prop
def PO (X:Cx)(e:Option Expr)(t:TO):Prop:=
 ∀(pins:List .(103)) (s:Da) (σ:St) (H:Hp) (Q:Option Int->Hp->Prop),Inv X pins σ H s->t σ H Q ->
   wpAny .(100) X.A (evalPart e X.env) (λu s'=>∃o H',Inv X pins σ H' s'/\IsPart u o/\Q o H') X.xe s
def A6:TO:=λ_ H Q=>Q none H
def FE (t:TE):TO:=λσ H Q=>t σ H λx H1=>∃i,x=.int i/\Q (some i) H1
section
variable {X:Cx}{e:Expr}{te:TE}{lo hi:Option Expr}{tl th:TO}{pos p2:Pos}
theorem AW:PO X none A6:=by
 intro pins s σ H Q I h;rw[evalPart_none];exact Fk ⟨none,H,I,.none,h⟩
theorem Bg (h:PE X e te):PO X (some e) (FE te):=by
 intro pins s σ H Q I hw;rw[evalPart_some];refine thn (h pins s σ H _ I hw) λu s1 ⟨x,H1,I1,r1,q1⟩=>?_
 obtain⟨i,rfl,q⟩:=q1;obtain⟨t,rfl⟩:=r1;exact⟨some i,H1,I1,.int i t,q⟩
def SlR (X:Cx)(r:V->Option Int->Option Int->Hp->VK->Prop):Prop:=
 ∀(pins:List .(103)) (s:Da) (σ:St) (H:Hp) (x:V) (v vl vu:Value) (lo hi:Option Int) (sl:Addr) (Q:VK),Inv X pins σ H s->RelV x v->s.heap.IsSliceOf sl vl vu .none->IsPart vl lo->IsPart vu hi->r x lo hi H Q ->
   ∃T id,typeLookup (.type T) "__getitem__" = pure (some (.builtin id))/\s.TypeIs v T/\wpAny .(100) X.A (NK v (.ref sl)) (EP X pins σ Q) X.xe s
def tSl (r:V->Option Int->Option Int->Hp->VK->Prop)(te:TE)(tl th:TO):TE:=λσ H Q=>te σ H λx H1=>tl σ H1 λl H2=>th σ H2 λu H3=>r x l u H3 Q
theorem qX (hr:SlR X r)(he:PE X e te)(hl:PO X lo tl)(hu:PO X hi th):PE X (.Subscript e (.Slice lo hi none p2) pos) (tSl r te tl th):=by
 intro pins s σ H Q I h;refine Subscript_ (thn (he pins s σ H _ I h) λv s1 ⟨x,H1,I1,r1,q1⟩=>?_);refine wpAny_Slice (thn (hl pins s1 σ H1 _ I1 q1) λvl s2 ⟨l,H2,I2,pl,q2⟩=>thn (hu pins s2 σ H2 _ I2 q2) λvu s3 ⟨u,H3,I3,pu,q3⟩=>?_);rw[evalPart_none];refine Fk ?_;have I4:Inv X pins σ H3 { s3 with heap:=s3.heap.push { cls:=.type "slice",data:=.fields #[vl,vu,.none] } }:=I3.kept (t':=s3.toks) λb ob q=>pq _ q
 obtain⟨T,id,hT,ht,hg⟩:=hr pins { s3 with heap:=s3.heap.push { cls:=.type "slice",data:=.fields #[vl,vu,.none] } } σ H3 x v vl vu l u s3.heap.objs.size Q I4 r1 (Heap.IsSliceOf.new ..) pl pu q3;show wpAny .(100) X.A (subscriptTail e (.Slice lo hi none p2) v (.ref s3.heap.objs.size)) (EP X pins σ Q) X.xe { s3 with heap:=s3.heap.push { cls:=.type "slice",data:=.fields #[vl,vu,.none] } };exact tail_any (ops:=[.ref s3.heap.objs.size,v]) ht hT hg (by with_unfolding_all rfl)
noncomputable def lp (xs:List V)(lo hi:Option Int):List V:=(xs.drop (HT.sIx xs.length 0 lo)).take (HT.sIx xs.length xs.length hi-HT.sIx xs.length 0 lo)
theorem j8 (xs:List V)(lo hi:Option Int):(lp xs lo hi).length<=xs.length:=by
 unfold lp;rw[IG,Kr];omega
noncomputable def G7 (K:fw):V->Option Int->Option Int->Hp->VK->Prop:=λx lo hi H Q=>∃a xs,x=.ref a/\SqT K H a xs /\
 ¬(HT.sIx xs.length 0 lo=0/\HT.sIx xs.length xs.length hi=xs.length)/\∀p,H p=none->Q (.ref p) (upd H p (.tup (lp xs lo hi)))
theorem El:SlR X (G7 X.K):=by
 intro pins s σ H x v vl vu lo hi sl Q I rx hs pl pu h;obtain⟨a,xs,rfl,hx,hw,q⟩:=h;cases rx
 obtain⟨its,r,ht,hz⟩:=I.tuple hx;have hlen:its.toArray.size=xs.length:=by rw[HD]; exact r.length.symm
 refine⟨"tuple",_,PyProof.Rows.slot_tuple_getitem.lookup,ht.typeIs,?_⟩;refine HT.jx ht hs pl pu (by rw[hlen]; exact hw) ?_ (by rw[hlen]; exact hz);rw[hlen];refine⟨.ref s.heap.objs.size,_,I.laid (t':=s.toks) (o:=.tup (lp xs lo hi)) (λb ob q=>pq _ q) .(3) ?_,rfl,q _ (I.hok.fresh .(3))⟩;exact⟨HJ (j8 xs lo hi) hz,_,(r.drop (HT.sIx xs.length 0 lo)).take (HT.sIx xs.length xs.length hi-HT.sIx xs.length 0 lo),IsTup.new _ _⟩
noncomputable def Gk (K:fw):R2:=λx y H Q=>∃a b xs ys,x=.ref a/\y=.ref b/\SqT K H a xs/\SqT K H b ys/\xs≠[]/\xs.length+ys.length<=sizeLine /\
 (ys=[]->Q (.ref a) H)/\(ys≠[]->∀p,H p=none->Q (.ref p) (upd H p (.tup (xs++ys))))
theorem Vals.ou (r:Vals xs us):us=[]↔xs=[]:=by
 cases r with
 | nil=>simp
 | cons _ _=>simp
theorem zX:OpR X (KB .Add) (Gk X.K):=by
 intro pins s σ H x y v u Q I rx ry h;obtain⟨a,b,xs,ys,rfl,rfl,ha,hb,hx,hz,q1,q2⟩:=h;cases rx
 cases ry
 obtain⟨its,r1,p1,_⟩:=I.tuple ha;obtain⟨its2,r2,p2,_⟩:=I.tuple hb;refine HT.A8 p1 p2 (λz=>hx (r1.ou.mp z)) (λz=>⟨.ref a,H,I,rfl,q1 (r2.ou.mp z)⟩) (λz=>?_) (by rw[<- r1.length,<- r2.length]; exact hz);refine⟨.ref s.heap.objs.size,_,I.laid (t':=s.toks) (o:=.tup (xs++ys)) (λb ob q=>pq _ q) .(3) ?_,rfl,q2 (λw=>z (r2.ou.mpr w)) _ (I.hok.fresh .(3))⟩;exact⟨by rw[vp]; exact hz,_,r1.append r2,IsTup.new _ _⟩
end
noncomputable def ixN (n:Nat)(i:Int):Option Nat:=if 0<=i then (if i<n then some i.toNat else none) else if -(n:Int)<=i then some (i+n).toNat else none
noncomputable def atI {α:Type}(xs:List α)(i:Int):Option α:=(ixN xs.length i).bind λj=>xs[j]?
theorem uw (h:ixN n i=some j):seqIndex? i n=some j/\j<n/\-(n:Int)<=i/\i<n:=by
 unfold ixN at h;by_cases h0:0<=i
 . rw[if_pos h0]at h;by_cases h1:i<n
   . rw[if_pos h1]at h;have e:i.toNat=j:=Im h;exact⟨by rw[seqIndex_of h0 h1,e],by omega,by omega,h1⟩
   . rw[if_neg h1]at h; cases h
 . rw[if_neg h0]at h;by_cases h1:-(n:Int)<=i
   . rw[if_pos h1]at h;have e:(i+n).toNat=j:=Im h;exact⟨by rw[seqIndex_neg .(0) h1,e],by omega,h1,by omega⟩
   . rw[if_neg h1]at h; cases h
theorem uW (h:atI xs i=some v):∃j,seqIndex? i xs.length=some j/\xs[j]?=some v/\j<xs.length/\-(xs.length:Int)<=i/\i<xs.length:=by
 unfold atI at h;cases e:ixN xs.length i with
 | none=>rw[e]at h; cases h
 | some j=>
   rw[e]at h;obtain⟨h1,h2,h3,h4⟩:=uw e;exact⟨j,h1,h,h2,h3,h4⟩
def du (b:Expr):Prop:=∀o i,subscripted b false o i=operate [o,i] (NK o i)
def IxR (X:Cx)(r:R2):Prop:=
 ∀(value slice:Expr) (pins:List .(103)) (s:Da) (σ:St) (H:Hp) (x y:V) (v u:Value) (Q:VK),Inv X pins σ H s->RelV x v->RelV y u->r x y H Q ->
   subscripted slice false v u=operate [v,u] (NK v u)->wpAny .(100) X.A (subscriptTail value slice v u) (EP X pins σ Q) X.xe s
def MtR (X:Cx)(id:String)(r:V->List V->Hp->VK->Prop):Prop:=
 ∀(pins:List .(103)) (s:Da) (σ:St) (H:Hp) (x:V) (xs:List V) (v:Value) (us:List Value) (Q:VK),Inv X pins σ H s->RelV x v->Vals xs us->r x xs H Q ->
   wpAny .(100) X.A (call (.builtin id) (v::us)) (EP X pins σ Q) X.xe s
section
variable {X:Cx}{a b:Expr}{ta tb:TE}{pos:Pos}
theorem uo (hr:IxR X r)(ha:PE X a ta)(hb:PE X b tb)(hs:du b):PE X (.Subscript a b pos) (tOp r ta tb):=by
 intro pins s σ H Q I h;exact Subscript_ (DJ ha hb I h λv u s2 x y H2 I2 rx ry q=>hr a b pins s2 σ H2 x y v u Q I2 rx ry q (hs _ _))
noncomputable def Ho (K:fw):R2:=λx y H Q=>∃p xs i v,x=.ref p/\y=.int i/\SqL K H p xs/\atI xs i=some v/\Q v H
noncomputable def G0 (K:fw):R2:=λx y H Q=>∃p xs i v,x=.ref p/\y=.int i/\SqT K H p xs/\atI xs i=some v/\Q v H
theorem kK:IxR X (Ho X.K):=by
 intro value slice pins s σ H x y v u Q I rx ry h hs;obtain⟨p,xs,i,z,rfl,rfl,hq,he,q⟩:=h;cases rx
 obtain⟨t,rfl⟩:=ry;obtain⟨its,r,pl,hz⟩:=I.list hq;obtain⟨j,h1,h2,h3,h4,h5⟩:=uW he;obtain⟨w,ew,rw'⟩:=r.get h2;have hl:=r.length;have hn:=oV;have fin:EP X pins σ Q w s:=⟨z,H,I,rw',q⟩;by_cases h0:0<=i
 . have hj:i.toNat=j:=by
     rw[seqIndex_of h0 h5]at h1;exact Im h1
   exact item_listR pl.isList h0 .(0) (by rw[hj]; simpa using ew) fin hs
 . have hj:(i+(its.toArray.size:Int)).toNat=j:=by
     rw[seqIndex_neg .(0) h4]at h1;rw[HD,<- hl];exact Im h1
   exact subscriptTail_builtinR (x:=w) pl.isList.typeIs slot_list_getitem.lookup
     (wpAny_getItem_list_neg (Q:=λr s'=>r=w/\EP X pins σ Q r s') pl.isList .(0) (by rw[HD] <;> omega) .(0) (by rw[hj]; simpa using ew) ⟨rfl,fin⟩) hs
theorem D8:IxR X (G0 X.K):=by
 intro value slice pins s σ H x y v u Q I rx ry h hs;obtain⟨p,xs,i,z,rfl,rfl,hq,he,q⟩:=h;cases rx
 obtain⟨t,rfl⟩:=ry;obtain⟨its,r,pl,hz⟩:=I.tuple hq;obtain⟨j,h1,h2,h3,h4,h5⟩:=uW he;obtain⟨w,ew,rw'⟩:=r.get h2;have hl:=r.length;have hn:=oV;have fin:EP X pins σ Q w s:=⟨z,H,I,rw',q⟩
 exact subscriptTail_builtinR (x:=w) pl.typeIs slot_tuple_getitem.lookup
   (getItem_tuple (j:=j) (Q:=λr s'=>r=w/\EP X pins σ Q r s') pl .(0) .(0) (by rw[HD,<- hl]; exact h1) (by simpa using ew) ⟨rfl,fin⟩) hs
theorem tI (its:List Value)(n j:Nat)(u:Value):L8 (·.setIfInBounds j u) { cls:=.type "list",data:=.seq its.toArray n }={ cls:=.type "list",data:=.seq (its.set j u).toArray n }:=by
 simp[L8]
theorem Inv.lst {pins:List .(103)}{σ:St}{H:Hp}{s:Da}{p:Addr}{xs:List V}(I:Inv X pins σ H s)(h:H p=some (.lst xs)):
   ∃(its:List Value) (n:Nat),Vals xs its/\s.heap.get? p=some { cls:=.type "list",data:=.seq its.toArray n }/\xs.length<=sizeLine:=by
 obtain⟨z,its,n,r,e⟩:=I.hok p _ h;exact⟨its,n,r,e,z⟩
theorem Inv.DS {pins:List .(103)}{σ:St}{s:Da}{xs ys:List V}{its its':List Value}{f:Obj->Obj}(I:Inv X pins σ H s)(h:H p=some (.lst xs))
   (ho:s.heap.get? p=some { cls:=.type "list",data:=.seq its.toArray n }) (hf:f { cls:=.type "list",data:=.seq its.toArray n }={ cls:=.type "list",data:=.seq its'.toArray n' }) (r:Vals ys its') (hz:ys.length<=sizeLine) (t:Nat) :
   Inv X pins σ (upd H p (.lst ys)) { s with heap:=s.heap.update p f,toks:=t }:=by
 have e:(s.heap.update p f).get? p=some { cls:=.type "list",data:=.seq its'.toArray n' }:=by
   rw[JS f ho (by rw[hf] <;> rfl),hf]
 refine I.write (x:=p) (e:=p) (by rw[h]; trivial) (.inl rfl) (λb u hb q=>(IT _ _ (ID hb)).trans q) ⟨_,e⟩ ?_;exact⟨hz,its',n',r,e⟩
noncomputable def Fe:V->V->V->Hp->(Hp->Prop)->Prop:=λo i v H Q=>∃p xs k j,o=.ref p/\i=.int k/\H p=some (.lst xs)/\ixN xs.length k=some j/\Q (upd H p (.lst (xs.set j v)))
theorem set_list:Gw X Fe:=by
 intro pins s σ H o i v ov iv u Q I ro ri rv h;obtain⟨p,xs,k,j,rfl,rfl,hp,hj,q⟩:=h;cases ro
 obtain⟨t,rfl⟩:=ri;obtain⟨its,n,r,ho,hz⟩:=I.lst hp;obtain⟨h1,h2,h3,h4⟩:=uw hj;have hl:=r.length;have hn:=oV
 have I':Inv X pins σ (upd H p (.lst (xs.set j v))) { s with heap:=s.heap.update p (L8 (·.setIfInBounds j u)) }:=
   I.DS hp ho (tI its n j u) (r.set rv j) (by rw[HV]; exact hz) s.toks
 by_cases h0:0<=k
 . have hk:k.toNat=j:=by
     rw[seqIndex_of h0 h4]at h1;exact Im h1
   exact PySem.W.ki_setAt ho h0 .(0) (by rw[HD,<- hl]; exact h4) (by rw[hk]; exact⟨_,I',q⟩)
 . have hk:(k+(its.toArray.size:Int)).toNat=j:=by
     rw[seqIndex_neg .(0) h3]at h1;rw[HD,<- hl];exact Im h1
   exact PySem.W.ki_setBack ho .(0) (by rw[HD,<- hl]; exact h3) .(0) (by rw[hk]; exact⟨_,I',q⟩)
theorem oT (lo hi:Option Int)(n:Nat):(Nn lo hi none n).1=((HT.sIx n 0 lo:Nat):Int)/\(Nn lo hi none n).2.1=((HT.sIx n n hi:Nat):Int)/\(Nn lo hi none n).2.2=1:=by
 refine⟨?_,?_,rfl⟩
 . cases lo with
   | none=>simp[Nn,HT.sIx]
   | some i=>
     simp only[Nn,HT.sIx,Option.getD_none,show (1:Int)>0 by decide,if_true];by_cases h:i<0
     . simp only[h,if_true] <;> omega
     . simp only[h,if_false] <;> omega
 . cases hi with
   | none=>simp[Nn,HT.sIx]
   | some i=>
     simp only[Nn,HT.sIx,Option.getD_none,show (1:Int)>0 by decide,if_true];by_cases h:i<0
     . simp only[h,if_true] <;> omega
     . simp only[h,if_false] <;> omega
theorem mQ (its:List Value)(lo hi:Option Int):slicePick its.toArray lo hi none=((its.drop (HT.sIx its.length 0 lo)).take (HT.sIx its.length its.length hi-HT.sIx its.length 0 lo)).toArray:=by
 obtain⟨h1,h2,h3⟩:=oT lo hi its.toArray.size;unfold slicePick;rw[h1,h2,h3];simp only[sliceRange_one,pick_run,HD] <;> rfl
noncomputable def GK (K:fw):V->Option Int->Option Int->Hp->VK->Prop:=λx lo hi H Q=>∃a xs,x=.ref a/\SqL K H a xs/\∀p,H p=none->Q (.ref p) (upd H p (.lst (lp xs lo hi)))
theorem Aj:SlR X (GK X.K):=by
 intro pins s σ H x v vl vu lo hi sl Q I rx hs pl pu h;obtain⟨a,xs,rfl,hx,q⟩:=h;cases rx
 obtain⟨its,r,ht,hz⟩:=I.list hx;have hlen:=r.length;refine⟨"list",_,slot_list_getitem.lookup,ht.isList.typeIs,?_⟩;refine wpAny_getItem_list_slice ht.isList hs pl pu .none .(4) ?_ (by rw[HD] <;> omega);rw[mQ,<- hlen];refine⟨.ref s.heap.objs.size,_,I.laid (t':=s.toks) (o:=.lst (lp xs lo hi)) (λb ob q=>pq _ q) .(3) ?_,rfl,q _ (I.hok.fresh .(3))⟩;exact⟨HJ (j8 xs lo hi) hz,_,0,(r.drop (HT.sIx xs.length 0 lo)).take (HT.sIx xs.length xs.length hi-HT.sIx xs.length 0 lo),Hz _ rfl⟩
theorem jF:fG X (.builtin "len") (λxs H Q=>∃p ys,xs=[.ref p]/\(SqL X.K H p ys\/SqT X.K H p ys)/\Q (.int ys.length) H):=by
 intro pins s σ H xs us Q I r h;obtain⟨p,ys,rfl,hq,q⟩:=h;obtain⟨u,rfl,rx⟩:=vals1 r;cases rx
 have hn:=oV;rcases hq with hq | hq
 . obtain⟨its,r',pl,hz⟩:=I.list hq;have hlen:=r'.length;exact Calls.call_len_list pl.isList .(13) ⟨.int ys.length,H,I.tok _,⟨s.toks+1,by rw[HD,hlen]⟩,q⟩
 . obtain⟨its,r',pl,hz⟩:=I.tuple hq;have hlen:=r'.length;exact len_tuple pl .(13) ⟨.int ys.length,H,I.tok _,⟨s.toks+1,by rw[HD,hlen]⟩,q⟩
theorem je:fG X (.type "list") (λxs H Q=>∃p ys,xs=[.ref p]/\(SqL X.K H p ys\/SqT X.K H p ys)/\∀l,H l=none->Q (.ref l) (upd H l (.lst ys))):=by
 intro pins s σ H xs us Q I r h;obtain⟨p,ys,rfl,hq,q⟩:=h;obtain⟨u,rfl,rx⟩:=vals1 r;cases rx
 have fin:∀(its:List Value),Vals ys its->ys.length<=sizeLine->∀(h':Heap) (c':Nat),(∀b o',s.heap.get? b=some o'->h'.get? b=some o') ->
     h'.get? s.heap.objs.size=some { cls:=.type "list",dict:=none,data:=.seq its.toArray c',slots:=#[] }->EP X pins σ Q .(129) { s with heap:=h' }:=λits r' hz h' c' kp e=>
   ⟨.ref s.heap.objs.size,_,I.laid (t':=s.toks) kp .(3) (show bL X.prog X.w _ h' _ (.lst ys) from⟨hz,its,c',r',e⟩),rfl,q _ (I.hok.fresh .(3))⟩
 rcases hq with hq | hq
 . obtain⟨its,r',pl,hz⟩:=I.list hq;have hlen:=r'.length;obtain⟨o,ho,hc,n,hd⟩:=pl.isList;exact call_list_seq p (.inl rfl) ho hc hd (λh' c' kp e=>fin its r' hz h' c' kp e) .(13)
 . obtain⟨its,r',pl,hz⟩:=I.tuple hq;have hlen:=r'.length;obtain⟨o,ho,hc,n,hd⟩:=pl;exact call_list_seq p (.inr rfl) ho hc hd (λh' c' kp e=>fin its r' hz h' c' kp e) .(13)
def tyV (K:fw)(T:String)(x:V)(H:Hp):Prop:=match x with
 | .str _=>T = "str"
 | .int _=>T = "int"
 | .ref p=>(T = "list" /\ ∃xs,SqL K H p xs)\/(T = "tuple" /\ ∃o,K.lookup p=some o/\o.cls=.type "tuple" /\ o.dict=none) \/
     (T = "dict" /\ ((∃kvs,H p=some (.dK kvs))\/∃kvs,H p=some (.dT kvs)))\/(T = "set" /\ ∃S n,H p=some (.set S n))
 | _=>False
theorem DK {pins:List .(103)}{σ:St}{s:Da}{T:String}(I:Inv X pins σ H s)(r:RelV x v)(ty:tyV X.K T x H):
   s.TypeIs v T/\∀a,v=.ref a->∃ob,s.heap.get? a=some ob/\ob.dict=none:=by
 cases x with
 | str z=>
   obtain⟨t,rfl⟩:=r;cases (show T = "str" from ty)
   exact⟨typeIs_str s z t,λ_ e=>nomatch e⟩
 | int i=>
   obtain⟨t,rfl⟩:=r;cases (show T = "int" from ty)
   exact⟨typeIs_int s i t,λ_ e=>nomatch e⟩
 | ref p=>
   cases r
   rcases ty with ⟨rfl,xs,hq⟩ | ⟨rfl,o,hk,hc,hd⟩ | ⟨rfl,hk⟩ | ⟨rfl,S,n,hk⟩
   . obtain⟨its,_,pl,_⟩:=I.list hq;refine⟨pl.isList.typeIs,λa e=>?_⟩;cases e
     obtain⟨o,n,e,c,hd,_⟩:=pl;exact⟨o,e,hd⟩
   . refine⟨⟨o,I.kIn p o hk,hc⟩,λa e=>?_⟩;cases e
     exact⟨o,I.kIn _ o hk,hd⟩
   . have z:∃o,s.heap.get? p=some o/\o.ExactDict:=by
       rcases hk with ⟨kvs,hk⟩ | ⟨kvs,hk⟩
       . obtain⟨_,_,_,_,o,_,_,e,ex,_⟩:=I.hok p _ hk;exact⟨o,e,ex⟩
       . obtain⟨_,_,_,_,o,_,_,e,ex,_⟩:=I.hok p _ hk;exact⟨o,e,ex⟩
     obtain⟨o,e,ex⟩:=z;refine⟨⟨o,e,ex.1⟩,λa e2=>?_⟩;cases e2
     exact⟨o,e,ex.2.1⟩
   . obtain⟨o,_,_,_,e,ex,_⟩:=I.hok p _ hk;refine⟨⟨o,e,ex.1⟩,λa e2=>?_⟩;cases e2
     exact⟨o,e,ex.2.1⟩
 | _=>exact J7 ty
def tBM (K:fw)(T:String)(r:V->List V->Hp->VK->Prop)(to:TE)(t:TA):TE:=λσ H Q=>to σ H λx H1=>tyV K T x H1/\t σ H1 λxs H2=>r x xs H2 Q
variable {o e:Expr}{es:List Expr}{to:TE}{t:TA}{name:Str}{apos cpos:Pos}{T id:String}{r:V->List V->Hp->VK->Prop}
theorem kh (pa:PlainAttrs T)(slot:Slot T name id)(hty:typeOf (.builtin id)=pure (.type "method_descriptor"))(hm:MtR X id r)(ho:PE X o to)(ha:PA X (e::es) t)
   (hbase:M9 o name X.env (eval o X.env)=eval o X.env:=by rfl)
   (hfew:((M5 cpos (Do (e::es) X.env)).all (λx=>!x.1)&&(Nj cpos (N2 [] X.env)).all (λx=>x.1.isSome)
     && decide ((e::es).length+([]:List MW).length+(if ([]:List MW).isEmpty then 0 else 1)<30))=true:=by rfl)
   (hline:(apos.endLine==cpos.line)=true:=by rfl) (hs:Do (e::es) X.env=.(117)::Do es X.env:=by rfl) (hplain:(M5 cpos (Do es X.env)).any (·.1)=false:=by rfl) :
   PE X (.Call (.Attribute o name apos) (e::es) [] cpos) (tBM X.K T r to t):=by
 intro pins s σ H Q I h;refine wpAny_Call_method_late hbase hfew hline rfl (thn (ho pins s σ H _ I h) λv s1 ⟨x,H1,I1,r1,ty,q1⟩=>?_);obtain⟨h1,h2⟩:=DK I1 r1 ty;refine⟨T,id,pa,slot,hty,h1,h2,?_⟩;have hA:=ha cpos pins s1 σ H1 _ I1 q1;rw[hs]at hA ⊢;refine MH (by show (false||(M5 cpos (Do es X.env)).any (·.1))=false; rw[hplain] <;> rfl) (Calls.evalArgs_plain ?_);exact thn hA λus s2 ⟨vs,H2,I2,r2,q2⟩=>hm pins s2 σ H2 x vs v us Q I2 r1 r2 q2
end
def MtM (X:Cx)(id:String)(r:V->List V->Hp->VK->Prop):Prop:=
 ∀(pins:List .(103)) (s:Da) (σ:St) (H:Hp) (x:V) (xs:List V) (v:Value) (us:List Value) (Q:VK),Inv X pins σ H s->RelV x v->Vals xs us->r x xs H Q ->
   wpAny .(100) X.A (call (.builtin id) (v::us)) (EP X pins σ Q) X.xe s
theorem Vals.one:∀{x:V} {us:List Value},Vals [x] us->∃u,us=[u]/\RelV x u
 | _,_,.cons r .nil=>⟨_,rfl,r⟩
theorem Vals.two:∀{x y:V} {us:List Value},Vals [x,y] us->∃u v,us=[u,v]/\RelV x u/\RelV y v
 | _,_,_,.cons r (.cons q .nil)=>⟨_,_,rfl,r,q⟩
theorem Vals.eraseIdx:∀{xs:List V} {us:List Value} (i:Nat),Vals xs us->Vals (xs.eraseIdx i) (us.eraseIdx i)
 | _,_,_,.nil=>.nil
 | _,_,0,.cons _ t=>t
 | _,_,i+1,.cons r t=>.cons r (Vals.eraseIdx i t)
theorem Vals.rep (h:Vals xs us):∀k:Nat,Vals (HY k xs).flatten (HY k us).flatten
 | 0=>.nil
 | k+1=>by
   rw[Jv,Jv,JI,JI];exact Vals.append h (Vals.rep h k)
theorem nL {α:Type}:∀(l:List α) (i:Nat),(l.eraseIdx i).length<=l.length
 | [],_=>Ia _
 | _::_,0=>Lg _
 | _::r,i+1=>Mk (nL r i)
theorem foldl_rep (its:List Value):∀(k:Nat) (acc:List Value),
   List.foldl (λx1 x2=>x1++x2) acc.toArray (HY k its.toArray)=(acc++(HY k its).flatten).toArray
 | 0,acc=>by simp
 | k+1,acc=>by
   have e:acc.toArray++its.toArray=(acc++its).toArray:=by simp
   have e2:(acc++its)++(HY k its).flatten=acc++(HY (k+1) its).flatten:=by
     rw[Jv,JI,Ij]
   rw[<- e2,<- foldl_rep its k (acc++its),<- e,Jv,KG]
section
variable {X:Cx}{pins:List .(103)}{σ:St}{H:Hp}{s:Da}{l:Addr}{xs ys:List V}
theorem Inv.Bc {its its':List Value}(I:Inv X pins σ H s)(hH:H l=some (.lst xs))
   (e:s.heap.get? l=some { cls:=.type "list",data:=.seq its.toArray n }) (hf:f its.toArray=its'.toArray) (hv:Vals ys its') (hz:ys.length<=sizeLine) :
   Inv X pins σ (upd H l (.lst ys)) { s with heap:=s.heap.update l (L8 f),toks:=t' }:=by
 have q:=PySem.IsL.update e f;rw[hf]at q;refine I.write (x:=l) (e:=l) (by rw[hH]; exact trivial) (.inl rfl) (λb' u hb hu=>(IT s.heap (L8 f) (ID hb)).trans hu) ⟨_,q⟩ ?_;exact⟨hz,its',_,hv,q⟩
theorem Inv.FY (I:Inv X pins σ H s)(hv:Vals ys its)(hz:ys.length<=sizeLine):
   Inv X pins σ (upd H s.heap.objs.size (.lst ys)) { s with heap:=s.heap.push { cls:=.type "list",data:=.seq its.toArray },toks:=t' }:=
 I.laid (λ_ _ q=>pq _ q) .(3) ⟨hz,its,0,hv,Hz _ rfl⟩
theorem Inv.fresh (I:Inv X pins σ H s):H s.heap.objs.size=none:=I.hok.fresh .(3)
theorem Inv.xi (I:Inv X pins σ H s)(hH:H l=some (.lst xs)):xs.length<=sizeLine/\∃(its:List Value) (n:Nat),Vals xs its/\xs.length=its.length/\s.heap.get? l=some { cls:=.type "list",data:=.seq its.toArray n }:=by
 obtain⟨z,its,n,r,e⟩:=I.hok l _ hH;exact⟨z,its,n,r,r.length,e⟩
theorem qy (h:n<=sizeLine):Ku n=false:=by
 unfold Builtin.List.listTooLong;exact decide_eq_false .(0)
end
section
variable {X:Cx}
noncomputable def Bo:V->List V->Hp->VK->Prop:=λx vs H Q=>∃l xs y,x=.ref l/\vs=[y]/\H l=some (.lst xs)/\xs.length<sizeLine/\Q .non (upd H l (.lst (xs++[y])))
theorem fJ:MtM X "list.append" Bo:=by
 intro pins s σ H x vs v us Q I rx rv h;obtain⟨l,xs,y,rfl,rfl,hH,hz,q⟩:=h;cases rx
 obtain⟨u,rfl,ru⟩:=rv.one;obtain⟨z,its,n,r,hl,e⟩:=I.xi hH;refine Nm Kd ⟨_,e,rfl⟩ F.entry_list_append (F.args_list_append_2 _ _) (PySem.list_append l its.toArray n u .(19)) ⟨e,?_⟩;refine⟨.non,_,I.Bc (its':=its++[u]) hH e .(4) (r.append (.cons ru .nil)) ?_,rfl,q⟩;rw[vp,Ly];omega
noncomputable def Ac:V->List V->Hp->VK->Prop:=λx vs H Q=>∃l b xs zs,x=.ref l/\vs=[.ref b]/\H l=some (.lst xs)/\H b=some (.lst zs)/\xs.length+zs.length<=sizeLine/\Q .non (upd H l (.lst (xs++zs)))
theorem jP:MtM X "list.extend" Ac:=by
 intro pins s σ H x vs v us Q I rx rv h;obtain⟨l,b,xs,zs,rfl,rfl,hH,hB,hz,q⟩:=h;cases rx
 obtain⟨u,rfl,ru⟩:=rv.one;cases ru
 obtain⟨z,its,n,r,hl,e⟩:=I.xi hH;obtain⟨z2,its2,n2,r2,hl2,e2⟩:=I.xi hB;have hsz:its.toArray.size+its2.toArray.size<=sizeLine:=by rw[HD,HD]; omega
 have hlong:¬(!its.toArray.isEmpty&&Ku (its.toArray.size+its2.toArray.size))=true:=by
   rw[qy hsz,Bool.and_false];exact HG
 refine Nm Kc ⟨_,e,rfl⟩ F.entry_list_extend (F.args_list_extend_2 _ _)
   (AutoSeq1.list_extend_list_list_0 l its.toArray n b its2.toArray n2 hlong .(19) .(0)) ⟨e,e2,?_⟩
 refine⟨.non,_,I.Bc (its':=its++its2) hH e .(4) (r.append r2) ?_,rfl,q⟩;rw[vp];omega
noncomputable def D1:V->List V->Hp->VK->Prop:=λx vs H Q=>∃l xs i k y,x=.ref l/\vs=[.int i]/\H l=some (.lst xs)/\-(2^63)<=i/\i<2^63/\seqIndex? i xs.length=some k/\xs[k]?=some y/\Q y (upd H l (.lst (xs.eraseIdx k)))
theorem zi:MtM X "list.pop" D1:=by
 intro pins s σ H x vs v us Q I rx rv h;obtain⟨l,xs,i,k,y,rfl,rfl,hH,h1,h2,hk,hy,q⟩:=h;cases rx
 obtain⟨u,rfl,ru⟩:=rv.one;obtain⟨t,rfl⟩:=ru;obtain⟨z,its,n,r,hl,e⟩:=I.xi hH;obtain⟨w,hw,rw'⟩:=r.get hy
 refine Nm F.slot_list_pop ⟨_,e,rfl⟩ F.entry_list_pop (F.args_list_pop_2 _ _)
   (MeetsSeq.list_pop_at l its.toArray n i t k w (fitsIndex_both h1 h2) (by rw[HD,<- hl]; exact hk) (by rw[<- Lo]; exact hw) .(19)) ⟨e,?_⟩
 refine⟨y,_,I.Bc (its':=its.eraseIdx k) hH e ?_ (r.eraseIdx k) ?_,rw',q⟩
 . show its.toArray.eraseIdxIfInBounds k=(its.eraseIdx k).toArray;rw[List.eraseIdxIfInBounds_toArray]
 . have:=nL xs k;omega
theorem len_rep {α:Type}(xs:List α)(k:Nat):(HY k xs).flatten.length=k*xs.length:=by
 induction k with
 | zero=>simp
 | succ k ih=>rw[Jv,JI,vp,ih,IS,Nat.add_comm]
end
end L2
namespace Att
open PySem PySem.W PySem.Calls PyProof.Rows
theorem kF :∀(ns:List Int) (vs:List Value),WellAll P h vs (ns.map WData.int)->IntsAre vs ns:=by
 intro ns;induction ns with
 | nil=>
   intro vs w;rw[Lx]at w;cases w
   exact .nil
 | cons n ns ih=>
   intro vs w;rw[Ii]at w;cases w with
   | cons a b=>
     cases a
     exact .cons _ _ (ih _ b)
theorem v9 {l:OpenLaw}(hn:l.most=some n){h:Heap}
   (hpre:l.row.toRowW.claim.pre args=true) (hwl:WellAll P h vals args) :
   ∃a vs ns,vals=[Ip a]/\args=[WData.list (ns.map WData.int)]/\h.get? a=some { cls:=.type "list",data:=.seq vs.toArray }/\IntsAre vs ns/\ns.length<=n:=by
 have hsh:WShape.hasAll [] args [.list .int]=true:=(pre_splitW hpre).1;have hc:l.pre.holds [] { args:=args }=true:=(pre_splitW hpre).2;obtain⟨d,r,rfl,h1,h2⟩:=hasAllW_cons hsh;obtain rfl:=hasAllW_nil h2;obtain⟨xs,rfl,h3⟩:=hasW_list h1;obtain⟨ns,rfl⟩:=items_int h3
 have hlen:ns.length<=n:=by
   unfold OpenLaw.pre at hc
   have h4:(WTm.not (.lt (.lit (.int (n:Int))) (.len (.arg 0)))).holds [] { args:=[.list (ns.map .int)] }=true:=by
     have h4:=(holds_andW hc).1;rw[hn]at h4;exact h4
   have h5:=condW_of h4 (w_not (w_lt w_lit (w_len_list (w_arg rfl))));rw[bp]at h5;refine Nat.le_of_not_lt λq=>?_
   have q':(n:Int)<((ns.length:Nat):Int):=by omega
   first
     | (rw[decide_eq_true q']at h5; exact absurd h5 .(2))
     | (simp at h5; omega)
 cases hwl with
 | cons w1 w2=>
   cases w2
   cases w1 with
   | list ho hall=>exact⟨_,_,ns,rfl,rfl,ho,kF ns _ hall,hlen⟩
theorem vX (l:OpenLaw)(args:List WData):l.row.toRowW.claim.post args (.bool true) args=true:=
 postW_of (r:=l.row.toRowW) (X:=(true==true))
   (show WShape.has [] (.bool true) .bool=true by first | rfl | decide | simp[WShape.has,WShape.arms,WShape.armsAll])
   (show (WTm.eq .res (.lit (.bool true))).value [] { args:=args,res:=some (.bool true),after:=args }=some (.bool (true==true)) from w_eq_bool (w_res rfl) w_lit) rfl
theorem qD {l:OpenLaw}{d:DefRec}
   (hn:l.most=some n) (hdf:d.params.defaults=[])
   (call:∀(w:World) (s₀ s₁:Da) (mg mb:Str->Option Value) (fa:Addr) (o:Obj) (pm cd doc:Value) (a:Addr) (vs:List Value) (ns:List Int),
     Ground q loose [] XP w s₀ mg mb s₁.heap->YP w s₁.heap ->
     s₁.heap.get? fa=some o->o.data=.func (docDef d.name d.params d.body d.scope pm cd doc)->s₁.heap.CodeRec cd d.name->mg d.name=some (.ref fa) ->
     s₁.heap.get? a=some { cls:=.type "list",data:=.seq vs.toArray }->IntsAre vs ns->ns.length<=n->s₁.gens=#[] ->
     Nq (model l.prog w) callerA (.call (.ref fa) ⟨[.ref a],[]⟩) (λr s'=>r=.ok (.ret (.bool true))/\OldK s₁.heap s'.heap/\s'.os=s₁.os/\NA s'.gens) s₁) :
   WalkO q loose XP YP l.row.toRowW d [] (λf vs=>PySem.call f vs):=by
 intro w s₀ s₁ mg mb G Y fa o pm cd doc dV kV ho hd hcd hD hmg hg args vals as hpre hlay hrd hwl hlo;obtain rfl:dV=.none:=Dflts.none hD hdf;obtain rfl:kV=.none:=Dflts.noKw hD;obtain⟨a,vs,ns,rfl,rfl,hobj,hints,hlen⟩:=v9 hn hpre hwl;refine enter_call (codeAny_mono (call w s₀ s₁ mg mb fa o pm cd doc a vs ns G Y ho (fd_plain hd) hcd hmg hobj hints hlen hg) λr s' hq=>?_);obtain⟨rfl,h2,h3,h4⟩:=hq;exact⟨.inl ⟨.bool true,.bool true,[],rfl,λ_=>rfl,.bool true,vX l _,λ_=>⟨Mw,λ_ hm=>(nomatch hm)⟩⟩,h2,h3,h4⟩
end Att
namespace L2
open PySem PySem.Spec PyProof.Rows
theorem nX:∀{vs:List Value} {ns:List Int},IntsAre vs ns->Vals (ns.map V.int) vs
 | _,_,.nil=>.nil
 | _,_,.cons n t h=>.cons ⟨t,rfl⟩ (nX h)
def DX (H:Hp):Prop:=∀b,H b=none\/∃o xs,H b=some (.frz o (.lst xs))
end L2
namespace L2
open PySem PySem.Spec PyProof.Rows
noncomputable def fM (s:Stmt):Arguments:=match s with
 | .FunctionDef _ a _ _ _ _ _ _ _ _=>a
 | _=>{ posonlyargs:=[],args:=[],vararg:=none,kwonlyargs:=[],kw_defaults:=[],kwarg:=none,defaults:=[] }
noncomputable def cX (s:Stmt):List Stmt:=match s with
 | .FunctionDef _ _ b _ _ _ _ _ _ _=>b
 | _=>[]
noncomputable def aw (s:Stmt):Scope:=match s with
 | .FunctionDef _ _ _ _ _ _ sc _ _ _=>sc
 | _=>{ kind:=.function,names:=[],isGenerator:=false,isCoroutine:=false }
noncomputable abbrev CX0:CXT:=λ_ _ _ _ _ _=>False
noncomputable abbrev E0:XK:=λ_ _ _=>False
theorem BI :Passes CX0 X E0:=λ_ _ _ _ _ _ _ h=>h.elim
structure Fun (K:fw)(x qual:Str)(st:Stmt)(f:Addr)(fd:GE):Prop where
 ex:∃(oc:Value) (od:Option Addr) (dV kV doc pm:Value) (an:Option Addr) (cdv ct:Value) (osl:Array (Option Value)),
   fd=JQ x qual (fM st) (cX st) (aw st) dV kV doc pm an cdv ct/\K.lookup f=some ⟨oc,od,.func fd,osl⟩/\KI K cdv qual=true
 kp:JL K (.ref f)=true
section
variable {P:FB}{w:World}{K:fw}{mg:Str->Option Value}{base:Heap}
theorem Fun.ok {st:Stmt}{fd:GE}{N ps:List Str}{sp:Sp}(F:Fun K x qual st f fd)(S:aJ N ps (aw st))(len:∀vs H Q E,sp vs H Q E->vs.length=ps.length)
   (hbody:∀(cdv:Value) (A:GT) (outer:List Env) (s:Da) (H:Hp) (vs:List V) (Q:VK) (E:XK),gq k (A.deeper (NO qual (aw st) s.heap.objs.size f cdv))->sp vs H Q E ->
     ∃t,PSs (sI CX0 P w K mg base N qual (aw st) f cdv A outer s H E).nox (cX st) t/\t { nx:=λ_ H'=>Q .non H',rt:=Q } (start N vs) H):a8 P w K mg base CX0 (k+1) f fd ps sp:=by
 obtain⟨oc,od,dV,kV,doc,pm,an,cdv,ct,osl,rfl,lk,hcd⟩:=F.ex;refine FG lk hcd S len λA outer s H vs Q E hr hsp=>?_
 obtain⟨t,h,q⟩:=hbody cdv A outer s H vs Q E hr hsp;exact⟨t,h.nox,q⟩
theorem Fun.binds {x qual:Str}{st:Stmt}{f:Addr}{fd:GE}{ps:List Str}(_:Fun K x qual st f fd)(h:∀us:List Value,us.length=ps.length->bindArgs fd ⟨us,[]⟩=pure (ps.zip us)):Binds K fd ps []:=.all h
theorem wO {x qual:Str}{st:Stmt}{f:Addr}{oc:Value}{od an:Option Addr}{osl:Array (Option Value)}{dV kV doc pm cdv ct:Value}(l:K.lookup f=some ⟨oc,od,.func (JQ x qual (fM st) (cX st) (aw st) dV kV doc pm an cdv ct),osl⟩)
   (c:KI K cdv qual=true) (k:JL K (.ref f)=true):Fun K x qual st f (JQ x qual (fM st) (cX st) (aw st) dV kV doc pm an cdv ct):=⟨⟨oc,od,dV,kV,doc,pm,an,cdv,ct,osl,rfl,l,c⟩,k⟩
end
theorem jO (h:n<=1000):n<sizeLine:=HX h .(2)
section
variable {X:Cx}
theorem pv (i:Nat){x:Str}{pos:Pos}(hN:X.N[i]?=some x:=by rfl)(hv:Vis X.env.scope x:=by first | exact JM rfl | exact IH .(9) | exact IH .(8))(hd:(x==("__debug__" : Str))=false:=by decide)
   (hcd:(x==("__classdict__" : Str))=false:=by decide):PE X (.Name x pos) (Gy i):=bo hN hv hd hcd
end
theorem rO {A B:Prop}(h:B):if false=true then A else B:=by
 rw[if_neg HG];exact h
theorem rE {A B:Prop}(h:A):if true=true then A else B:=by
 rw[if_pos rfl];exact h
def ao (H H':Hp):Prop:=∀b o,H b=some o->H' b=some o
theorem ao.refl (H:Hp):ao H H:=λ_ _ h=>h
theorem ao.trans (a:ao H H1)(b:ao H1 H2):ao H H2:=λc o h=>b c o (a c o h)
theorem ao.free (e:ao H H')(h:H' l=Option.none):H l=Option.none:=by
 cases q:H l with
 | none=>rfl
 | some o=>
   rw[e l o q]at h;cases h
theorem ao.seq {K:fw}{xs:List V}(e:ao H H')(h:SqL K H a xs):SqL K H' a xs:=by
 rcases h with (h | ⟨o,h⟩) | h
 . exact .inl (.inl (e _ _ h))
 . exact .inl (.inr ⟨o,e _ _ h⟩)
 . exact .inr h
end L2
set_option linter.all false
set_option maxRecDepth 100000
namespace Ev
open PySem PySem.Spec PyProof.Rows L2
structure Bx where
 p:fw->Hp->Addr->Prop
 mono:∀{K:fw} {H H':Hp} {a:Addr},ao H H'->p K H a->p K H' a
 isd:∀{K:fw} {H:Hp} {a:Addr},p K H a->∃o:HO,H a=some o/\∀(P:FB) (w:World) (H':Hp) (h:Heap),bL P w H' h a o->∃ob,h.get? a=some ob/\ob.cls=.type "dict"
inductive D where
 | non | bl (b:Bool) | int (i:Int) | str (x:Str) | tup (xs:List D) | lst (xs:List D) | box (x:Bx)
noncomputable instance:Inhabited D:=⟨.non⟩
mutual
inductive Den (K:fw)(H:Hp):V->D->Prop where
 | non:Den K H .non .non
 | bl {b:Bool}:Den K H (.bl b) (.bl b)
 | int {i:Int}:Den K H (.int i) (.int i)
 | str {x:Str}:Den K H (.str x) (.str x)
 | tup {a:Addr} {vs:List V} {ds:List D} (h:SqT K H a vs) (r:av K H vs ds):Den K H (.ref a) (.tup ds)
 | lst {a:Addr} {vs:List V} {ds:List D} (h:SqL K H a vs) (r:av K H vs ds):Den K H (.ref a) (.lst ds)
 | box {a:Addr} {x:Bx} (h:x.p K H a):Den K H (.ref a) (.box x)
inductive av (K:fw)(H:Hp):List V->List D->Prop where
 | nil:av K H [] []
 | cons {v:V} {d:D} {vs:List V} {ds:List D} (h:Den K H v d) (r:av K H vs ds):av K H (v::vs) (d::ds)
end
section
variable {K:fw}{H H':Hp}
theorem aY (e:ao H H')(h:SqT K H a xs):SqT K H' a xs:=by
 rcases h with (h | ⟨o,h⟩) | h
 . exact .inl (.inl (e _ _ h))
 . exact .inl (.inr ⟨o,e _ _ h⟩)
 . exact .inr h
theorem aR (e:ao H H')(h:SqL K H a xs):SqL K H' a xs:=e.seq h
mutual
theorem Den.mono (e:ao H H'):∀{v:V} {d:D},Den K H v d->Den K H' v d
 | _,_,.non=>.non
 | _,_,.bl=>.bl
 | _,_,.int=>.int
 | _,_,.str=>.str
 | _,_,.tup h r=>.tup (aY e h) (av.mono e r)
 | _,_,.lst h r=>.lst (aR e h) (av.mono e r)
 | _,_,.box (x:=x) h=>.box (x.mono e h)
theorem av.mono (e:ao H H'):∀{vs:List V} {ds:List D},av K H vs ds->av K H' vs ds
 | _,_,.nil=>.nil
 | _,_,.cons h r=>.cons (Den.mono e h) (av.mono e r)
end
theorem av.length:∀{vs:List V} {ds:List D},av K H vs ds->vs.length=ds.length
 | _,_,.nil=>rfl
 | _,_,.cons _ r=>congrArg (·+1) r.length
theorem av.get:∀{vs:List V} {ds:List D} {i:Nat} {d:D},av K H vs ds->ds[i]?=some d->∃v,vs[i]?=some v/\Den K H v d
 | _,_,_,_,.nil,e=>by simp at e
 | _,_,0,_,.cons h _,e=>by simp at e; subst e; exact⟨_,rfl,h⟩
 | _,_,i+1,d,.cons _ r,e=>by
   obtain⟨v,h1,h2⟩:=av.get (i:=i) (d:=d) r (by simpa using e);exact⟨v,by simpa using h1,h2⟩
theorem av.append:∀{xs ys:List V} {ds es:List D},av K H xs ds->av K H ys es->av K H (xs++ys) (ds++es)
 | _,_,_,_,.nil,s=>s
 | _,_,_,_,.cons h r,s=>.cons h (av.append r s)
theorem av.take:∀{xs:List V} {ds:List D} (n:Nat),av K H xs ds->av K H (xs.take n) (ds.take n)
 | _,_,0,_=>.nil
 | _,_,_+1,.nil=>.nil
 | _,_,n+1,.cons h r=>.cons h (av.take n r)
theorem av.drop:∀{xs:List V} {ds:List D} (n:Nat),av K H xs ds->av K H (xs.drop n) (ds.drop n)
 | _,_,0,r=>r
 | _,_,_+1,.nil=>.nil
 | _,_,n+1,.cons _ r=>av.drop n r
end
def aH (i j:Int):Prop:=i.natAbs.log2<64\/j.natAbs.log2<64\/(i.natAbs.log2<1000000/\j.natAbs.log2<1000000)
def aL (j:Int):Prop:=j≠0/\j.natAbs.log2<9000
theorem aq (h:H p=none)(o:HO):ao H (upd H p o):=λb u q=>by rw[aE (aZ q h)]; exact q
noncomputable def Ite (K:fw)(a:Addr):L2.It:=
 ⟨λi H=>∃xs x,SqL K H a xs/\xs[i]?=some x,λi H v H'=>∃p x,H p=none/\v=.ref p/\H'=upd H p (.tup [.int (i:Nat),x])/\∀xs,SqL K H a xs->xs[i]?=some x,λi H=>∃xs,SqL K H a xs/\xs.length<=i⟩
theorem wC {P:FB}{w:World}{K:fw}{ts:List Expr}{q:Nat}{tp:Pos}(a e it:Addr)(hne:e≠it):
   Turn P w K false (.Tuple ts q tp) (Ite K a) [e,it] e (λi h=>(∃old,IsEnum h e it (i:Nat) old)/\h.IsListIter it a i) where
 mem:=by simp
 obj:=λi h st b hb=>by
   obtain⟨⟨old,h1⟩,o,h2,h3,h4⟩:=st;rcases HA.mp hb with rfl | hb
   . exact⟨_,h1,λv z=>nomatch z⟩
   . have z:b=it:=by simpa using hb
     subst z;exact⟨o,h2,λv z=>by rw[h4]at z; cases z⟩
 keep:=λi h h' st k=>by
   obtain⟨⟨old,h1⟩,o,h2,h3,h4⟩:=st;exact⟨⟨old,k e .(4) _ h1⟩,o,k it .(4) o h2,h3,h4⟩
 item:=by
   intro X hP hw hK hc i pins s σ H E I hf st hg;subst hP hw hK;obtain⟨xs,x,hq,hx⟩:=hg;obtain⟨its,rv,p,hz⟩:=I.list hq;obtain⟨u,hu,ru⟩:=rv.get hx;obtain⟨⟨old,h1⟩,h2⟩:=st;have fe:=hf e .(4);have fi:=hf it .(4);refine wpAny_pyNext_enum_item h1 h2 p.isList (x:=u) (by simpa using hu) hne λh' g1 g2 g3 g4 g5=>⟨_,rfl,?_⟩
   refine wpAny_letOwnedTupleGo_enum (s:={ s with heap:=h',toks:=s.toks+1 }) g1 λh2' k1 k2=>?_
   have hn:H s.heap.objs.size=none:=I.hok.fresh .(3);have le1:e<s.heap.objs.size:=Hw h1;have le2:it<s.heap.objs.size:=by obtain⟨o,z,_⟩:=h2; exact Hw z
   have kp:∀b o,b≠e->b≠it->s.heap.get? b=some o->h2'.get? b=some o:=λb o b1 b2 z=>(k2.2 b b1).trans (g5 b o b1 b2 z)
   have nt:h2'.get? s.heap.objs.size=some { cls:=.type "tuple",data:=.seq #[.int (i:Nat) s.toks,u] }:=(k2.2 _ (Nat.ne_of_gt le1)).trans g3;have ne1:∀b v,H b=some v->b≠e:=λb v z q=>by rw[q,fe.1]at z; cases z
   have ne2:∀b v,H b=some v->b≠it:=λb v z q=>by rw[q,fi.1]at z; cases z
   have hok0:HOk X.prog X.w H h2':=λb v z=>(I.hok b v z).lq (λc v' hc' q=>kp c v' (by
       rcases hc' with hc' | hc'
       . rw[hc']; exact ne1 b v z
       . exact ne1 c _ hc') (by
       rcases hc' with hc' | hc'
       . rw[hc']; exact ne2 b v z
       . exact ne2 c _ hc') q) (λ_ q=>q) λ_ _ q=>q
   have hok1:HOk X.prog X.w (upd H s.heap.objs.size (.tup [.int (i:Nat),x])) h2':=λb v z=>by
     by_cases hb:b=s.heap.objs.size
     . subst hb;rw[aK]at z; cases z
       exact⟨(by show 2<=sizeLine; decide),[.int (i:Nat) s.toks,u],.cons ⟨_,rfl⟩ (.cons ru .nil),_,nt,rfl,_,rfl⟩
     . rw[aE hb]at z;exact(hok0 b v z).lq (λc v' _ q=>q) (λc q=>by rw[aE (aZ q hn)]; exact q) λc ys q=>by rw[aE (aZ q hn)]; exact q
   have I1:Inv X pins σ (upd H s.heap.objs.size (.tup [.int (i:Nat),x])) { s with heap:=h2',toks:=s.toks+1 }:=by
     refine I.step (g':=s.gens) (d':=s.drawn) (ch:=[e,it]) (λb hb=>?_) (λb o _ _ hc' z _=>kp b o (λq=>hc' (by simp[q])) (λq=>hc' (by simp[q])) z)
       (λb o _ _ hc' z _=>⟨o.slots,kp b o (λq=>hc' (by simp[q])) (λq=>hc' (by simp[q])) z⟩)
       (λb o hc' z n=>by rw[aE (Il (Hw z))]; exact n) (λb o hc' z=>⟨o,kp b o (λq=>hc' (by simp[q])) (λq=>hc' (by simp[q])) z⟩)
       (λb ys z=>by rw[aE (aZ z hn)]; exact z) (λb o u z=>by rw[aE (aZ z hn)]; exact z) (λb ps z=>⟨#[],by rw[aE (aZ z hn),z]; simp⟩) (λm hm=>?_) hok1 I.bare
     . rcases HA.mp hb with rfl | hb
       . exact⟨fe.2.2.2.1,fe.2.1,fe.2.2.2.2.1,fe.2.2.2.2.2⟩
       . have z:b=it:=by simpa using hb
         subst z;exact⟨fi.2.2.2.1,fi.2.1,fi.2.2.2.2.1,fi.2.2.2.2.2⟩
     . obtain⟨o,es,ep,ho,r⟩:=hm;exact⟨o,es,ep,kp _ o (ID fe.2.1) (ID fi.2.1) ho,r⟩
   refine⟨.ref s.heap.objs.size,_,I1,rfl,⟨s.heap.objs.size,x,hn,rfl,rfl,λys hy=>by rw[I.gJ hy hq]; exact hx⟩,⟨⟨_,k1⟩,?_⟩,λb hb=>?_⟩
   . obtain⟨o,z1,z2,z3⟩:=g2;exact⟨o,(k2.2 it (ID hne)).trans z1,z2,z3⟩
   . rcases HA.mp hb with rfl | hb
     . rw[aE (Il le1)]; exact fe.1
     . have z:b=it:=by simpa using hb
       subst z;rw[aE (Il le2)]; exact fi.1
 done:=by
   intro X hP hw hK hc i pins s σ H E I hf st hg;subst hP hw hK;obtain⟨xs,hq,hx⟩:=hg;obtain⟨its,rv,p,hz⟩:=I.list hq;obtain⟨⟨old,h1⟩,h2⟩:=st;obtain⟨f0,f1,f2,f3,f4,f5⟩:=hf it .(4);have hl:=rv.length;exact wpAny_pyNext_enum_end (I.ok.hd hc.calm) h1 h2 p.isList .(16) λh' eb=>⟨rfl,I.turned (t':=s.toks) (λb o hb z=>eb b o hb z) f0 f1 f3 f4 f5⟩
 self:=λ_ _ _ _ _ st h=>by
   obtain⟨⟨old,h1⟩,_⟩:=st;exact wpAny_pyIter_enum h1 h
section
variable {X:Cx}
def Cb (K:fw)(ta:TA):TI:=λσ H R=>ta σ H λvs H1=>∃a,vs=[.ref a]/\(∃xs,SqL K H1 a xs)/\R (Ite K a) H1
theorem vH:MY "enumerate" = some (.type "enumerate"):=by decide +kernel
theorem pe (hc:X.calm=true)(hg:Gl X "enumerate")(hm:X.mg "enumerate" = none)(ha:PA X [a] ta)(hs:Do [a] X.env=[.(118)]):
   PI X (.Tuple ts q tp) (.Call (.Name "enumerate" p) [a] [] pos) (Cb X.K ta):=by
 intro pins s σ H R I h;refine Call_ (cV I hg hm vH (Ib (thn (ha pos pins s σ H _ I h) λus s1 ⟨vs,H1,I1,r1,q1⟩=>?_) hs rfl));obtain⟨l,e,⟨xs,hq⟩,q⟩:=q1;subst e;obtain⟨u,rfl,ru⟩:=vals1 r1;cases ru
 obtain⟨its,rv,pl,hz⟩:=I1.list hq;refine call_enumerate_list pl.isList λh' g1 g2 g3 g4=>?_
 refine wpAny_pyIter_enum (s:={ s1 with heap:=h' }) g1 ?_;have I2:Inv X pins σ H1 { s1 with heap:=h' }:=I1.kept (t':=s1.toks) g4;have n1:H1 (s1.heap.objs.size+1)=none:=I1.hok.fresh .(0);have n2:H1 s1.heap.objs.size=none:=I1.hok.fresh .(3);refine⟨false,s1.heap.objs.size+1,[s1.heap.objs.size+1,s1.heap.objs.size],_,_,H1,rfl,I2,.inl hc,wC l (s1.heap.objs.size+1) s1.heap.objs.size (Lk _),⟨⟨_,g1⟩,g2⟩,λb hb=>?_,q⟩;rcases HA.mp hb with rfl | hb
 . exact I1.jH .(0) n1
 . have z:b=s1.heap.objs.size:=by simpa using hb
   subst z;exact I1.jH .(3) n2
end
noncomputable def Itz (K:fw)(a b:Addr):L2.It:=
 ⟨λi H=>∃xs ys x y,SqL K H a xs/\SqL K H b ys/\xs[i]?=some x/\ys[i]?=some y,
  λi H v H'=>∃p x y,H p=none/\v=.ref p/\H'=upd H p (.tup [x,y])/\(∀xs,SqL K H a xs->xs[i]?=some x)/\∀ys,SqL K H b ys->ys[i]?=some y,
  λi H=>∃xs ys,SqL K H a xs/\SqL K H b ys/\(xs.length<=i\/ys.length<=i)⟩
def zSt (a b z TI TO i1 i2:Addr)(i:Nat)(h:Heap):Prop:=
 IsZip h z TI TO .none/\IsPair h TI (.ref i1) (.ref i2)/\(∃u v,IsPair h TO u v)/\h.IsListIter i1 a i/\h.IsListIter i2 b i
theorem nC {h:Heap}{a b z TI TO i1 i2:Addr}{xs ys:Array Value}(n:TI≠TO)(m:i1≠i2)(s:zSt a b z TI TO i1 i2 i h)(l1:h.IsList a xs)(l2:h.IsList b ys):ZipApart z TI TO i1 i2 a b:=by
 obtain⟨h1,h2,⟨u,v,h3⟩,⟨o4,h4,c4,d4⟩,⟨o5,h5,c5,d5⟩⟩:=s;obtain⟨o6,h6,c6,n6,d6⟩:=l1;obtain⟨o7,h7,c7,n7,d7⟩:=l2;have kk:∀{x y:Addr} {o p:Obj},h.get? x=some o->h.get? y=some p->o.cls≠p.cls->x≠y:=λe1 e2 c q=>by subst q; rw[e1]at e2; cases e2; exact c rfl
 have cz:∀{s t:String},s≠t->Lp s≠Lp t:=λn q=>n (by cases q; rfl)
 refine⟨kk h2 h1 (cz .(2)),kk h3 h1 (cz .(2)),kk h4 h1 ?_,kk h5 h1 ?_,n,kk h2 h4 ?_,kk h2 h5 ?_,kk h3 h4 ?_,kk h3 h5 ?_,m,kk h6 h1 ?_,kk h6 h3 ?_,kk h6 h4 ?_,kk h6 h5 ?_,kk h7 h1 ?_,kk h7 h3 ?_,kk h7 h4 ?_,kk h7 h5 ?_⟩
 all_goals first | (rw[c4]; exact cz .(2)) | (rw[c5]; exact cz .(2)) | (rw[c6]; exact cz .(2)) | (rw[c7]; exact cz .(2)) | (rw[c6,c4]; exact cz .(2)) | (rw[c6,c5]; exact cz .(2)) | (rw[c7,c4]; exact cz .(2)) | (rw[c7,c5]; exact cz .(2))
theorem yJ {P:FB}{w:World}{K:fw}{ts:List Expr}{q:Nat}{tp:Pos}(a b z TI TO i1 i2:Addr)(nT:TI≠TO)(nI:i1≠i2):
   Turn P w K false (.Tuple ts q tp) (Itz K a b) [z,TI,TO,i1,i2] z (zSt a b z TI TO i1 i2) where
 mem:=by simp
 obj:=λi h st c hb=>by
   obtain⟨h1,h2,⟨u,v,h3⟩,⟨o4,h4,c4,d4⟩,⟨o5,h5,c5,d5⟩⟩:=st;simp only[HA,Jf,or_false]at hb;rcases hb with rfl | rfl | rfl | rfl | rfl
   . exact⟨_,h1,λv z=>nomatch z⟩
   . exact⟨_,h2,λv z=>nomatch z⟩
   . exact⟨_,h3,λv z=>nomatch z⟩
   . exact⟨_,h4,λv z=>by rw[d4]at z; cases z⟩
   . exact⟨_,h5,λv z=>by rw[d5]at z; cases z⟩
 keep:=λi h h' st k=>by
   obtain⟨h1,h2,⟨u,v,h3⟩,⟨o4,h4,c4,d4⟩,⟨o5,h5,c5,d5⟩⟩:=st;exact⟨k z .(4) _ h1,k TI .(4) _ h2,⟨u,v,k TO .(4) _ h3⟩,⟨o4,k i1 .(4) _ h4,c4,d4⟩,⟨o5,k i2 .(4) _ h5,c5,d5⟩⟩
 item:=by
   intro X hP hw hK hc i pins s σ H E I hf st hg;subst hP hw hK;obtain⟨xs,ys,x,y,hq1,hq2,hx,hy⟩:=hg;obtain⟨its1,rv1,p1,hz1⟩:=I.list hq1;obtain⟨its2,rv2,p2,hz2⟩:=I.list hq2;obtain⟨u1,hu1,ru1⟩:=rv1.get hx;obtain⟨u2,hu2,ru2⟩:=rv2.get hy;have D:=nC nT nI st p1.isList p2.isList;obtain⟨h1,h2,⟨u,v,h3⟩,h4,h5⟩:=st;refine wpAny_pyNext_zip_item D h1 h2 h3 h4 h5 p1.isList p2.isList (x:=u1) (y:=u2) (by simpa using hu1) (by simpa using hu2) λh' g1 g2 g3 g4 g5 g6 g7=>⟨_,rfl,?_⟩
   refine wpAny_letOwnedTupleGo_zip (s:={ s with heap:=h' }) g1 λh2' k1 k2=>?_
   have hn:H s.heap.objs.size=none:=I.hok.fresh .(3);have le1:z<s.heap.objs.size:=Hw h1;have lt2:TI<s.heap.objs.size:=Hw h2;have lt3:TO<s.heap.objs.size:=Hw h3;have lt4:i1<s.heap.objs.size:=by obtain⟨o,z,_⟩:=h4; exact Hw z
   have lt5:i2<s.heap.objs.size:=by obtain⟨o,z,_⟩:=h5; exact Hw z
   have kp:∀c o,c≠z->c≠TO->c≠i1->c≠i2->s.heap.get? c=some o->h2'.get? c=some o:=λc o b1 b2 b3 b4 e=>(k2.2 c b1).trans (g7 c o b1 b2 b3 b4 e)
   have nt:IsPair h2' s.heap.objs.size u1 u2:=(k2.2 _ (Nat.ne_of_gt le1)).trans g5
   have ne:∀c,c∈[z,TI,TO,i1,i2]->∀d v,H d=some v->d≠c:=λc hc d v e q=>by
     have:=(hf c hc).1;rw[q,this]at e; cases e
   have hok0:HOk X.prog X.w H h2':=λd v e=>(I.hok d v e).lq (λc v' hc' q=>kp c v'
       (by rcases hc' with hc' | hc'
           . rw[hc']; exact ne z .(4) d v e
           . exact ne z .(4) c _ hc')
       (by rcases hc' with hc' | hc'
           . rw[hc']; exact ne TO .(4) d v e
           . exact ne TO .(4) c _ hc')
       (by rcases hc' with hc' | hc'
           . rw[hc']; exact ne i1 .(4) d v e
           . exact ne i1 .(4) c _ hc')
       (by rcases hc' with hc' | hc'
           . rw[hc']; exact ne i2 .(4) d v e
           . exact ne i2 .(4) c _ hc') q) (λ_ q=>q) λ_ _ q=>q
   have hok1:HOk X.prog X.w (upd H s.heap.objs.size (.tup [x,y])) h2':=λd v e=>by
     by_cases hb:d=s.heap.objs.size
     . subst hb;rw[aK]at e; cases e
       exact⟨(by show 2<=sizeLine; decide),[u1,u2],.cons ru1 (.cons ru2 .nil),_,nt,rfl,_,rfl⟩
     . rw[aE hb]at e;exact(hok0 d v e).lq (λc v' _ q=>q) (λc q=>by rw[aE (aZ q hn)]; exact q) λc ys q=>by rw[aE (aZ q hn)]; exact q
   have I1:Inv X pins σ (upd H s.heap.objs.size (.tup [x,y])) { s with heap:=h2' }:=by
     refine I.step (t':=s.toks) (g':=s.gens) (d':=s.drawn) (ch:=[z,TO,i1,i2]) (λc hb=>?_) (λc o _ _ hc' e _=>kp c o (λq=>hc' (by simp[q])) (λq=>hc' (by simp[q])) (λq=>hc' (by simp[q])) (λq=>hc' (by simp[q])) e)
       (λc o _ _ hc' e _=>⟨o.slots,kp c o (λq=>hc' (by simp[q])) (λq=>hc' (by simp[q])) (λq=>hc' (by simp[q])) (λq=>hc' (by simp[q])) e⟩)
       (λc o hc' e n=>by rw[aE (Il (Hw e))]; exact n) (λc o hc' e=>⟨o,kp c o (λq=>hc' (by simp[q])) (λq=>hc' (by simp[q])) (λq=>hc' (by simp[q])) (λq=>hc' (by simp[q])) e⟩)
       (λc ys e=>by rw[aE (aZ e hn)]; exact e) (λc o u e=>by rw[aE (aZ e hn)]; exact e) (λc ps e=>⟨#[],by rw[aE (aZ e hn),e]; simp⟩) (λm hm=>?_) hok1 I.bare
     . have hb':c∈[z,TI,TO,i1,i2]:=by
         simp only[HA,Jf,or_false]at hb ⊢;rcases hb with h | h | h | h <;> simp[h]
       have fe:=hf c hb';exact⟨fe.2.2.2.1,fe.2.1,fe.2.2.2.2.1,fe.2.2.2.2.2⟩
     . obtain⟨o,es,ep,ho,r⟩:=hm;exact⟨o,es,ep,kp _ o (ID (hf z .(4)).2.1) (ID (hf TO .(4)).2.1) (ID (hf i1 .(4)).2.1) (ID (hf i2 .(4)).2.1) ho,r⟩
   refine⟨.ref s.heap.objs.size,_,I1,rfl,⟨s.heap.objs.size,x,y,hn,rfl,rfl,λzs hy'=>by rw[I.gJ hy' hq1]; exact hx,λzs hy'=>by rw[I.gJ hy' hq2]; exact hy⟩,⟨k1,?_,⟨u1,u2,(k2.2 TO D.TOz).trans g2⟩,?_,?_⟩,λc hb=>?_⟩
   . exact kp TI _ D.TIz D.TITO D.TIi1 D.TIi2 h2
   . obtain⟨o,z1,z2,z3⟩:=g3;exact⟨o,(k2.2 i1 D.i1z).trans z1,z2,z3⟩
   . obtain⟨o,z1,z2,z3⟩:=g4;exact⟨o,(k2.2 i2 D.i2z).trans z1,z2,z3⟩
   . have fc:=(hf c hb).1
     have lt:c<s.heap.objs.size:=by
       simp only[HA,Jf,or_false]at hb;rcases hb with rfl | rfl | rfl | rfl | rfl <;> assumption
     rw[aE (Il lt)];exact fc
 done:=by
   intro X hP hw hK hc i pins s σ H E I hf st hg;subst hP hw hK;obtain⟨xs,ys,hq1,hq2,hx⟩:=hg;obtain⟨its1,rv1,p1,hz1⟩:=I.list hq1;obtain⟨its2,rv2,p2,hz2⟩:=I.list hq2;have D:=nC nT nI st p1.isList p2.isList;obtain⟨h1,h2,⟨u,v,h3⟩,h4,h5⟩:=st;have hl1:=rv1.length;have hl2:=rv2.length
   refine wpAny_pyNext_zip_end (I.ok.hd hc.calm) D h1 h2 h3 h4 h5 p1.isList p2.isList (by
     rcases hx with hx | hx
     . left; simp; omega
     . right; simp; omega) λh' eb=>⟨rfl,?_⟩
   have ne:∀c,c∈[z,TI,TO,i1,i2]->∀d v,H d=some v->d≠c:=λc hc d v e q=>by
     have:=(hf c hc).1;rw[q,this]at e; cases e
   have hok0:HOk X.prog X.w H h':=λd v e=>(I.hok d v e).lq (λc v' hc' q=>eb c v'
       (by rcases hc' with hc' | hc'
           . rw[hc']; exact ne z .(4) d v e
           . exact ne z .(4) c _ hc')
       (by rcases hc' with hc' | hc'
           . rw[hc']; exact ne TO .(4) d v e
           . exact ne TO .(4) c _ hc')
       (by rcases hc' with hc' | hc'
           . rw[hc']; exact ne i1 .(4) d v e
           . exact ne i1 .(4) c _ hc')
       (by rcases hc' with hc' | hc'
           . rw[hc']; exact ne i2 .(4) d v e
           . exact ne i2 .(4) c _ hc') q) (λ_ q=>q) λ_ _ q=>q
   refine I.step (t':=s.toks) (g':=s.gens) (d':=s.drawn) (ch:=[z,TO,i1,i2]) (λc hb=>?_) (λc o _ _ hc' e _=>eb c o (λq=>hc' (by simp[q])) (λq=>hc' (by simp[q])) (λq=>hc' (by simp[q])) (λq=>hc' (by simp[q])) e)
       (λc o _ _ hc' e _=>⟨o.slots,eb c o (λq=>hc' (by simp[q])) (λq=>hc' (by simp[q])) (λq=>hc' (by simp[q])) (λq=>hc' (by simp[q])) e⟩)
       (λc o hc' e n=>n) (λc o hc' e=>⟨o,eb c o (λq=>hc' (by simp[q])) (λq=>hc' (by simp[q])) (λq=>hc' (by simp[q])) (λq=>hc' (by simp[q])) e⟩)
       (λc ys e=>e) (λc o u e=>e) (λc ps e=>⟨#[],by rw[e]; simp⟩) (λm hm=>?_) hok0 I.bare
   . have hb':c∈[z,TI,TO,i1,i2]:=by
       simp only[HA,Jf,or_false]at hb ⊢;rcases hb with h | h | h | h <;> simp[h]
     have fe:=hf c hb';exact⟨fe.2.2.2.1,fe.2.1,fe.2.2.2.2.1,fe.2.2.2.2.2⟩
   . obtain⟨o,es,ep,ho,r⟩:=hm;exact⟨o,es,ep,eb _ o (ID (hf z .(4)).2.1) (ID (hf TO .(4)).2.1) (ID (hf i1 .(4)).2.1) (ID (hf i2 .(4)).2.1) ho,r⟩
 self:=λ_ _ _ _ _ st h=>wpAny_pyIter_zip st.1 h
section
variable {X:Cx}
def D3 (K:fw)(ta:TA):TI:=λσ H R=>ta σ H λvs H1=>∃a b,vs=[.ref a,.ref b]/\(∃xs,SqL K H1 a xs)/\(∃ys,SqL K H1 b ys)/\R (Itz K a b) H1
theorem sN (hc:X.calm=true)(hg:Gl X "zip")(hm:X.mg "zip" = none)(ha:PA X [a,b] ta)(hs:Do [a,b] X.env=.(118)::Do [b] X.env)(hs2:Do [b] X.env=[(false,eval b X.env)]):
   PI X (.Tuple ts q tp) (.Call (.Name "zip" p) [a,b] [] pos) (D3 X.K ta):=by
 intro pins s σ H R I h;refine Call_ (cV I hg hm boot_zip (Ib (thn (ha pos pins s σ H _ I h) λus s1 ⟨vs,H1,I1,r1,q1⟩=>?_) hs (by rw[hs2]; rfl)));obtain⟨l,l',e,⟨xs,hq1⟩,⟨ys,hq2⟩,q⟩:=q1;subst e;obtain⟨u,u',rfl,ru,ru'⟩:=vals2 r1;cases ru
 cases ru'
 obtain⟨its1,rv1,pl1,hz1⟩:=I1.list hq1;obtain⟨its2,rv2,pl2,hz2⟩:=I1.list hq2;refine call_zip_2 pl1.isList pl2.isList λh' g1 g2 g3 g4 g5 g6 g7=>?_
 refine wpAny_pyIter_zip (s:={ s1 with heap:=h' }) g1 ?_;have I2:Inv X pins σ H1 { s1 with heap:=h' }:=I1.kept (t':=s1.toks) g7;have nn:∀j,H1 (s1.heap.objs.size+j)=none:=λj=>I1.hok.fresh .(0)
 refine⟨false,s1.heap.objs.size+4,[s1.heap.objs.size+4,s1.heap.objs.size+2,s1.heap.objs.size+3,s1.heap.objs.size,s1.heap.objs.size+1],_,_,H1,rfl,I2,.inl hc,yJ l l' (s1.heap.objs.size+4) (s1.heap.objs.size+2) (s1.heap.objs.size+3) s1.heap.objs.size (s1.heap.objs.size+1) .(4) (ID (Lk _)),⟨g1,g2,⟨_,_,g3⟩,g4,g5⟩,λc hb=>?_,q⟩
 have hb':∃j,c=s1.heap.objs.size+j:=by
   simp only[HA,Jf,or_false]at hb;rcases hb with h | h | h | h | h
   . exact⟨_,h⟩
   . exact⟨_,h⟩
   . exact⟨_,h⟩
   . exact⟨0,h⟩
   . exact⟨_,h⟩
 obtain⟨j,rfl⟩:=hb';exact I1.jH (Nat.le_add_right _ _) (nn j)
end
noncomputable def Itv (K:fw)(a:Addr)(n:Nat):L2.It:=
 ⟨λi H=>i<n/\∃xs x,SqL K H a xs/\xs[n-1-i]?=some x,λi H x H'=>H'=H/\∀xs,SqL K H a xs->xs[n-1-i]?=some x,λi _=>n<=i⟩
theorem xN {P:FB}{w:World}{K:fw}{tg:Expr}(a it:Addr)(n:Nat):
   Turn P w K false tg (Itv K a n) [it] it (λi h=>i<=n/\h.IsRevIter it a ((n:Int)-1-(i:Int))) where
 mem:=by simp
 obj:=λi h st b hb=>by
   have e:b=it:=by simpa using hb
   subst e;obtain⟨o,e,c,d⟩:=st.2;exact⟨o,e,λv z=>by rw[d]at z; cases z⟩
 keep:=λi h h' st k=>⟨st.1,st.2.at λo e=>k it .(4) o e⟩
 item:=by
   intro X hP hw hK hc i pins s σ H E I hf st hg;subst hP hw hK;obtain⟨hi,xs,x,hq,hx⟩:=hg;obtain⟨its,rv,p,hz⟩:=I.list hq;obtain⟨u,hu,ru⟩:=rv.get hx;obtain⟨f0,f1,f2,f3,f4,f5⟩:=hf it .(4);have st2:=st.2;rw[show (n:Int)-1-(i:Int)=((n-1-i:Nat):Int) by omega]at st2;refine wpAny_pyNext_rev_item st2 p.isList (x:=u) (by simpa using hu) λh' st' sb=>?_
   have I1:Inv X pins σ H { s with heap:=h' }:=I.turned (t':=s.toks) (λb o hb e=>(sb.2 b hb).trans e) f0 f1 f3 f4 f5;obtain⟨o,e,c,d⟩:=id st';refine⟨u,rfl,kj (s:={ s with heap:=h' }) e c d .(2) ⟨x,H,I1,ru,⟨rfl,λys hy=>by rw[I.gJ hy hq]; exact hx⟩,⟨hi,?_⟩,λb hb=>(hf b hb).1⟩⟩;rw[show (n:Int)-1-((i+1:Nat):Int)=((n-1-i:Nat):Int)-1 by omega];exact st'
 done:=by
   intro X hP hw hK hc i pins s σ H E I hf st hg;subst hP hw hK;obtain⟨f0,f1,f2,f3,f4,f5⟩:=hf it .(4);have st2:=st.2;have hg:n<=i:=hg;rw[show (n:Int)-1-(i:Int)=-1 by have:=st.1; omega]at st2;exact wpAny_pyNext_rev_end (I.ok.hd hc.calm) st2 λh' eb=>⟨rfl,I.turned (t':=s.toks) (λb o hb e=>eb b o hb e) f0 f1 f3 f4 f5⟩
 self:=λ_ _ _ _ _ st h=>wpAny_pyIter_revIter st.2 h
section
variable {X:Cx}{tg:Expr}
def Dg (K:fw)(ta:TA):TI:=λσ H R=>ta σ H λvs H1=>∃a xs,vs=[.ref a]/\SqL K H1 a xs/\R (Itv K a xs.length) H1
theorem lI:MY "reversed" = some (.type "reversed"):=by decide +kernel
theorem sj (hc:X.calm=true)(hg:Gl X "reversed")(hm:X.mg "reversed" = none)(ha:PA X [a] ta)(hs:Do [a] X.env=[.(118)]):PI X tg (.Call (.Name "reversed" p) [a] [] pos) (Dg X.K ta):=by
 intro pins s σ H R I h;refine Call_ (cV I hg hm lI (Ib (thn (ha pos pins s σ H _ I h) λus s1 ⟨vs,H1,I1,r1,q1⟩=>?_) hs rfl));obtain⟨l,xs,e,hq,q⟩:=q1;subst e;obtain⟨u,rfl,ru⟩:=vals1 r1;cases ru
 obtain⟨its,rv,pl,hz⟩:=I1.list hq;have hl:=rv.length;refine call_reversed_list pl.isList ?_;have st:({ s1 with heap:=s1.heap.push (revObj l ((its.toArray.size:Int)-1)) }:Da).heap.IsRevIter s1.heap.objs.size l ((its.toArray.size:Int)-1):=⟨_,Hz _ rfl,rfl,rfl⟩;refine wpAny_pyIter_revIter st ?_;refine⟨false,s1.heap.objs.size,[s1.heap.objs.size],_,_,H1,rfl,I1.kept (t':=s1.toks) (λb o e=>pq _ e),.inl hc,xN l _ xs.length,⟨HL _,?_⟩,λb hb=>?_,q⟩
 . rw[show (xs.length:Int)-1-((0:Nat):Int)=(its.toArray.size:Int)-1 by rw[HD,<- hl]; omega];exact st
 . have e:b=s1.heap.objs.size:=by simpa using hb
   subst e;exact I1.jH .(3) (I1.hok.fresh .(3))
end
theorem xS:∀(names:List (Str×N0)) (n:Nat) (acc:List (Str×Addr)) (x:Str) (c:Addr),(M4 n names acc).lookup x=some c->n<=c\/acc.lookup x=some c
 | [],_,_,_,_,h=>.inr h
 | (y,k)::r,n,acc,x,c,h=>by
   unfold M4 at h;split at h
   . rcases xS r (n+1) _ x c h with q | q
     . exact .inl .(0)
     . rw[IF]at q;split at q
       . cases q; exact .inl .(3)
       . exact .inr q
   . exact xS r n acc x c h
theorem k9:∀(names:List (Str×N0)) (n:Nat) (acc:List (Str×Addr)) (x:Str),(x,Jr)∉names->(M4 n names acc).lookup x=acc.lookup x
 | [],_,_,_,_=>rfl
 | (y,k)::r,n,acc,x,h=>by
   have h1:(x,Jr)∉r:=λz=>h (Et _ z)
   unfold M4;split
   . rename_i hk;rw[k9 r _ _ x h1,IF]
     have:(x==y)=false:=by
       rw[beq_eq_false_iff_ne];rintro rfl;exact h (by rw[eq_of_beq hk]; exact Ih)
     rw[this]
   . exact k9 r n acc x h1
theorem oI:∀(names:List (Str×N0)) (n:Nat) (acc:List (Str×Addr)) (x:Str),(x,Jr)∈names->∃c,(M4 n names acc).lookup x=some c/\n<=c
 | (y,k)::r,n,acc,x,h=>by
   unfold M4;by_cases hr:(x,Jr)∈r
   . split
     . obtain⟨c,e,l⟩:=oI r (n+1) ((y,n)::acc) x hr;exact⟨c,e,by omega⟩
     . exact oI r n acc x hr
   . rcases HA.mp h with q | q
     . cases q
       rw[if_pos (by rfl),k9 r _ _ _ hr];exact⟨n,by simp[IF],Ia _⟩
     . exact absurd q hr
theorem sR:∀(names:List (Str×N0)) (n:Nat) (acc:List (Str×Addr)),(∀x c,acc.lookup x=some c->c<n)->(∀x y c,acc.lookup x=some c->acc.lookup y=some c->x=y) ->
   ∀x y c,(M4 n names acc).lookup x=some c->(M4 n names acc).lookup y=some c->x=y
 | [],_,_,_,h=>h
 | (z,k)::r,n,acc,hl,h=>by
   unfold M4;split
   . refine sR r (n+1) _ (λx c e=>?_) (λx y c e1 e2=>?_)
     . rw[IF]at e;split at e
       . cases e; exact J4 _
       . exact Ko (hl x c e)
     . rw[IF]at e1 e2;split at e1
       . rename_i q1;cases e1
         split at e2
         . rename_i q2;exact(eq_of_beq q1).trans (eq_of_beq q2).symm
         . exact absurd (hl y _ e2) .(10)
       . split at e2
         . cases e2
           exact absurd (hl x _ e1) .(10)
         . exact h x y c e1 e2
   . exact sR r n acc hl h
theorem pJ:∀(names:List (Str×N0)) (h:Heap) (acc:List (Str×Addr)),(∀x c,acc.lookup x=some c->∃v,h.IsCell c v)->∀x c,(M4 h.objs.size names acc).lookup x=some c->∃v,(N5 h names).IsCell c v
 | [],_,_,ha,x,c,e=>ha x c e
 | (z,k)::r,h,acc,ha,x,c,e=>by
   unfold M4 at e;unfold N5;split at e
   . rename_i hk;rw[if_pos hk];refine pJ r _ ((z,h.objs.size)::acc) (λy d q=>?_) x c (by rw[Ja]; exact e);rw[IF]at q;split at q
     . cases q
       exact⟨none,_,Hz _ rfl,rfl⟩
     . obtain⟨v,o,ho,hd⟩:=ha y d q;exact⟨v,o,pq _ ho,hd⟩
   . rename_i hk;rw[if_neg hk];exact pJ r h acc ha x c e
noncomputable def dr (env:Kx):List (Str×N0)->List (Str×Addr)->List (Str×Addr)
 | [],acc=>acc
 | (n,k)::r,acc=>if k==.free then (match env.cells.lookup n with | some c=>dr env r ((n,c)::acc) | none=>dr env r acc) else dr env r acc
theorem mn (env:Kx):∀(names:List (Str×N0)) (acc:List (Str×Addr)),(∀x∈names,x.2=.free->∃c,env.cells.lookup x.1=some c) ->
   (forIn (m:=Sem) names acc λx cs=>do
     let (name,kind):=x
     if kind==.free then do
       let c <- cellOf env name
       pure (J3 ((name,c)::cs))
     else pure (J3 cs))=pure (dr env names acc)
 | [],acc,_=>rfl
 | (n,k)::r,acc,h=>by
   rw[List.forIn_cons];unfold dr;by_cases hk:(k==.free)=true
   . obtain⟨c,hc⟩:=h (n,k) Ih (eq_of_beq hk);simp only[hk,if_true,cellOf,hc,pure_bind];exact mn env r _ λx hx=>h x (Et _ hx)
   . simp only[hk,Je,if_false,pure_bind];exact mn env r _ λx hx=>h x (Et _ hx)
theorem vG (h:∀x∈scope.names,x.2=.free->∃c,env.cells.lookup x.1=some c):closureFor scope env=pure (dr env scope.names []):=by
 unfold closureFor;have:=mn env scope.names [] h;simp only[bind_pure];exact this
theorem fV (env:Kx):∀(names:List (Str×N0)) (acc:List (Str×Addr)) (x:Str) (c:Addr),(∀y d,acc.lookup y=some d->env.cells.lookup y=some d)->(dr env names acc).lookup x=some c->env.cells.lookup x=some c
 | [],_,x,c,ha,h=>ha x c h
 | (n,k)::r,acc,x,c,ha,h=>by
   unfold dr at h;split at h
   . split at h
     . rename_i c' hc;refine fV env r _ x c (λy d q=>?_) h;rw[IF]at q;split at q
       . rename_i qq;cases q
         rw[eq_of_beq qq]; exact hc
       . exact ha y d q
     . exact fV env r acc x c ha h
   . exact fV env r acc x c ha h
theorem dY (env:Kx):∀(names:List (Str×N0)) (acc:List (Str×Addr)) (x:Str) (c:Addr),(∀y d,acc.lookup y=some d->env.cells.lookup y=some d)->env.cells.lookup x=some c->((x,IZ)∈names\/acc.lookup x=some c)->(dr env names acc).lookup x=some c
 | [],_,x,c,_,_,h=>h.elim (λz=>absurd z .(4)) id
 | (n,k)::r,acc,x,c,ha,hc,h=>by
   unfold dr;split
   . split
     . rename_i c' hc';refine dY env r _ x c (λy d q=>?_) hc ?_
       . rw[IF]at q;split at q
         . rename_i qq;cases q
           rw[eq_of_beq qq]; exact hc'
         . exact ha y d q
       . by_cases q:x=n
         . subst q;rw[hc]at hc'; cases hc'
           exact .inr (by simp[IF])
         . rcases h with h | h
           . rcases HA.mp h with z | z
             . cases z; exact absurd rfl q
             . exact .inl z
           . refine .inr ?_;rw[IF,beq_eq_false_iff_ne.mpr q];exact h
     . rename_i hc';refine dY env r acc x c ha hc ?_;rcases h with h | h
       . rcases HA.mp h with z | z
         . cases z; rw[hc]at hc'; cases hc'
         . exact .inl z
       . exact .inr h
   . rename_i hk;refine dY env r acc x c ha hc ?_;rcases h with h | h
     . rcases HA.mp h with z | z
       . cases z; exact absurd rfl hk
       . exact .inl z
     . exact .inr h
theorem nU 
   (h:Q (newEnv scope s.heap.objs.size env.globals (M4 (s.heap.objs.size+1) scope.names cl) env.qual none .none (some env) builtinsNs) { s with heap:=N5 (s.heap.push { cls:=.type "dict",data:=.dict #[] }) scope.names }) :
   wpAny M A (newFunctionEnv scope env.globals cl [] env.qual none .none (some env)) Q E s:=by
 simp only[newFunctionEnv,Option.isSome_some,if_true];refine AC (wpAny_alloc ?_);refine AC (wpAny_layCells _ (λname kind cells=>by cases hkc:kind==Jr <;> simp[hkc]) _ _ _ _ ?_);rw[show ({ s with heap:=s.heap.push { cls:=.type "dict",data:=.dict #[] } }:Da).heap.objs.size=s.heap.objs.size+1 from Ja ..];exact AC (Fk (Fk h))
noncomputable def aT (X:Cx)(s:Da)(H:Hp)(scope:Scope)(N:List Str)(fp:List Addr):Cx:=
 { prog:=X.prog,w:=X.w,K:=X.K,mg:=X.mg,base:=X.base,A:=X.A,N:=N,s₀:=s,H₀:=H
   env:=compEnvC scope (M4 (s.heap.objs.size+1+1) scope.names (dr X.env scope.names [])) (s.heap.objs.size+1) X.env
   outer:=X.stack,stack:=X.stack,ex:=fp,fn:=λx=>decide ((x,Jr)∈scope.names),calm:=X.calm,pn:=[],xe:=λ_ _=>False }
noncomputable def gu (σ:L2.St)(caps:List (Option Nat)):L2.St:=caps.map λo=>o.bind λi=>(σ[i]?).join
structure eF (X:Cx)(scope:Scope)(N:List Str)(caps:List (Option Nat)):Prop where
 kind:scope.kind=.function
 loc:∀x∈scope.names,x.2=.local->scope.names.lookup x.1=some .local
 fre:∀x∈scope.names,x.2=.free->X.env.kindOf x.1=some .cell
 one:∀x,(x,IZ)∈scope.names->(x,Jr)∉scope.names
 noboth:∀x,(x,IZ)∈scope.names->(x,NameKind.local)∉scope.names
 len:N.length=caps.length+1
 cap:∀(j i:Nat),caps[j]?=some (some i)->∃x,N[j]?=some x/\X.N[i]?=some x/\(x,IZ)∈scope.names
 acc:∃z,N[caps.length]?=some z/\¬Vis (relabel scope X.env) z
section
variable {X:Cx}{pins:List .(103)}{σ:L2.St}{H:Hp}{s:Da}{scope:Scope}{N:List Str}{caps:List (Option Nat)}{fp:List Addr}
theorem fP {env:Kx}{names:List (Str×N0)}(h:∀y,(y,IZ)∈names->env.kindOf y=some .cell)(hk:env.scope.kind=.function)
   (e:(names.map λ(n,k)=>if (k==IZ&&env.scope.kind==.function&&env.kindOf n==some .cell) then (n,Jr) else (n,k)).lookup x=some k) :
   (x,k)∈names\/((x,IZ)∈names/\k=.cell):=by
 induction names with
 | nil=>cases e
 | cons p r ih=>
   obtain⟨n,q⟩:=p;rw[Ii]at e;have hr:∀y,(y,IZ)∈r->env.kindOf y=some .cell:=λy hy=>h y (Et _ hy)
   have sub:((x,k)∈r\/((x,IZ)∈r/\k=.cell))->(x,k)∈(n,q)::r\/((x,IZ)∈(n,q)::r/\k=.cell):=λz=>
     z.elim (λy=>.inl (Et _ y)) λy=>.inr ⟨Et _ y.1,y.2⟩
   dsimp only at e;split at e
   . rename_i c;rw[IF]at e;split at e
     . rename_i qq;cases e
       rw[Iy,Iy]at c;rw[eq_of_beq qq,eq_of_beq c.1.1];exact .inr ⟨Ih,rfl⟩
     . exact sub (ih hr e)
   . rename_i c;rw[IF]at e;split at e
     . rename_i qq;cases e
       rw[eq_of_beq qq];exact .inl Ih
     . exact sub (ih hr e)
theorem iL (I:Inv X pins σ H s)(c:eF X scope N caps):∀x∈scope.names,x.2=.free->∃d,X.env.cells.lookup x.1=some d:=λx hx hf=>I.ok.has x.1 (.inl (c.fre x hx hf))
theorem qj (I:Inv X pins σ H s)(hf:∀b∈fp,mN X pins H b)(ho:∀b∈fp,∃o,s.heap.get? b=some o)(c:eF X scope N caps):
   Inv .(105) [] (gu σ caps++[some .(129)]) (upd H s.heap.objs.size (.lst []))
     { s with heap:=N5 ((s.heap.push { cls:=.type "list",data:=.seq ([]:List Value).toArray }).push { cls:=.type "dict",data:=.dict #[] }) scope.names }:=by
 have hcl:∀x d,(dr X.env scope.names []).lookup x=some d->X.env.cells.lookup x=some d:=λx d=>fV X.env scope.names [] x d (λy d z=>by simp at z)
 have kp:∀b o,s.heap.get? b=some o->(N5 ((s.heap.push { cls:=.type "list",data:=.seq ([]:List Value).toArray }).push { cls:=.type "dict",data:=.dict #[] }) scope.names).get? b=some o:=λb o e=>
   Np _ _ b o (pq _ (pq _ e))
 have sz2:((s.heap.push { cls:=.type "list",data:=.seq ([]:List Value).toArray }).push { cls:=.type "dict",data:=.dict #[] }).objs.size=s.heap.objs.size+1+1:=by rw[Ja,Ja]
 have oldc:∀x d,X.env.cells.lookup x=some d->d<s.heap.objs.size:=λx d e=>by
   obtain⟨v,o,q,_⟩:=I.cell x d e;exact Hw q
 have cel:∀x d,.(105).env.cells.lookup x=some d->s.heap.objs.size+1+1<=d\/X.env.cells.lookup x=some d:=λx d e=>by
   rcases xS _ _ _ x d e with q | q
   . exact .inl q
   . exact .inr (hcl x d q)
 have ok:.(105).Ok:=by
   refine⟨I.ok.mod,c.kind,I.ok.glob,I.ok.blt,Lg _,?_,?_,?_,I.ok.hd,I.ok.frames,.inl rfl,?_,I.bs,HJ I.ok.bsz I.sz,?_,?_,I.stack,I.t6⟩
   . exact sR _ _ _ (λx d e=>HH (oldc x d (hcl x d e)) .(0)) λx y d e1 e2=>I.ok.inj x y d (hcl x d e1) (hcl y d e2)
   . intro x hx;have hfk:∀y,(y,IZ)∈scope.names->X.env.kindOf y=some .cell:=λy hy=>c.fre _ hy rfl
     have fre:(x,IZ)∈scope.names->∃d,.(105).env.cells.lookup x=some d:=λhm=>by
       obtain⟨d,hd⟩:=iL I c _ hm rfl
       exact⟨d,by
         show (M4 _ scope.names _).lookup x=_;rw[k9 _ _ _ x (c.one x hm)];exact dY X.env scope.names [] x d (λy e z=>by simp at z) hd (.inl hm)⟩
     have own:(x,Jr)∈scope.names->∃d,.(105).env.cells.lookup x=some d:=λhm=>by
       obtain⟨d,e,_⟩:=oI scope.names (s.heap.objs.size+1+1) (dr X.env scope.names []) x hm;exact⟨d,e⟩
     rcases hx with hx | hx
     . rcases fP hfk I.ok.kind (show (scope.names.map _).lookup x=some .cell from hx) with q | q
       . exact own q
       . exact fre q.1
     . rcases fP hfk I.ok.kind (show (scope.names.map _).lookup x=some .free from hx) with q | q
       . exact fre q
       . exact fre q.1
   . intro x d hfn e;have hm:(x,Jr)∈scope.names:=of_decide_eq_true hfn;obtain⟨d',e',l⟩:=oI scope.names (s.heap.objs.size+1+1) (dr X.env scope.names []) x hm;have e2:(M4 (s.heap.objs.size+1+1) scope.names (dr X.env scope.names [])).lookup x=some d:=e;rw[e']at e2; cases e2
     exact HJ (HJ .(17) .(17)) l
   . intro b hb;obtain⟨o,q⟩:=ho b hb;have bl:=Hw q;refine⟨λz=>?_,λx d e z=>?_⟩
     . have z':b=s.heap.objs.size+1:=z;rw[z']at bl;exact absurd bl (Ma.mpr .(17))
     . subst z;rcases cel x d e with q | q
       . exact absurd (HH bl (HJ (HJ .(17) .(17)) q)) .(10)
       . exact(hf d hb).2.2.2.2.1 x d q rfl
   . intro b o e hb;rcases(hf b hb).2.2.2.1 with q | q
     . exact I.ok.noex b o e q
     . have:=HH (Hw e) I.ok.bsz;exact absurd (HH this q) .(10)
   . intro b hb hm;rcases HA.mp (I.tM b hm) with q | q
     . exact(hf b hb).2.1 q
     . exact(hf b hb).2.2.1 q
 have hD:(N5 ((s.heap.push { cls:=.type "list",data:=.seq ([]:List Value).toArray }).push { cls:=.type "dict",data:=.dict #[] }) scope.names).get? s.heap.objs.size=some { cls:=.type "list",data:=.seq ([]:List Value).toArray }:=
   Np _ _ _ _ (pq _ (Hz _ rfl))
 have fr:∀a,s.heap.objs.size<=a->a≠s.heap.objs.size->(upd H s.heap.objs.size (.lst [])) a=none:=λa h1 h2=>by rw[aE h2]; exact I.hok.fresh h1
 refine⟨ok,rfl,I.bare,Un.laid kp .(3) (I.hok.fresh .(3)),⟨λ_=>none,?_,λi x v e1 e2 e3=>?_⟩,λx d e=>?_,?_,λx d e=>?_,λp hp=>absurd (show p∈([]:List .(103)) from hp) .(4),?_,?_⟩
 . have:=Heap.Ns.new (s.heap.push { cls:=.type "list",data:=.seq ([]:List Value).toArray }) (.type "dict");rw[Ja]at this;exact this.keeps (Np _ _)
 . by_cases hi:i<caps.length
   . rw[Hv (by unfold gu; rw[bp]; exact hi)]at e2;unfold gu at e2;rw[HR]at e2;cases hc:caps[i]? with
     | none=>rw[hc]at e2; cases e2
     | some o=>
       rw[hc]at e2;cases o with
       | none=>cases e2
       | some j=>
         have e2':(σ[j]?).join=some v:=Im e2
         have e4:σ[j]?=some (some v):=by
           cases q:σ[j]? with
           | none=>rw[q]at e2'; cases e2'
           | some y=>rw[q]at e2'; exact congrArg some e2'
         obtain⟨x',g1,g2,g3⟩:=c.cap i j hc;rw[show .(105).N=N from rfl,g1]at e1;cases e1
         have hkc:=c.fre _ g3 rfl;obtain⟨m,_,hl⟩:=I.loc;obtain⟨u,ru,look⟩:=hl j x v g2 e4 (.inr (.inl hkc));refine⟨u,ru,?_⟩;rcases look with ⟨k,_⟩ | ⟨k,d,hd,hcell⟩
         . rw[hkc]at k; cases k
         . have e5:.(105).env.cells.lookup x=some d:=by
             show (M4 _ scope.names _).lookup x=_;rw[k9 _ _ _ x (c.one x g3)];exact dY X.env scope.names [] x d (λy e z=>by simp at z) hd (.inl g3)
           have hcell':Heap.IsCell (N5 ((s.heap.push { cls:=.type "list",data:=.seq ([]:List Value).toArray }).push { cls:=.type "dict",data:=.dict #[] }) scope.names) d (some u):=by
             obtain⟨o,q1,q2⟩:=hcell;exact⟨o,kp _ _ q1,q2⟩
           refine .inr ⟨?_,d,e5,hcell'⟩;rcases e3 with e3 | e3 | e3
           . exfalso;rcases fP (λy hy=>c.fre _ hy rfl) I.ok.kind (show (scope.names.map _).lookup x=some .local from e3) with q | q
             . have q1:=c.loc _ q rfl;exact c.noboth x g3 q
             . cases q.2
           . exact .inl e3
           . exact .inr e3
   . exfalso;obtain⟨z,z1,z2⟩:=c.acc;have hl:i<N.length:=(rp.mp e1).1;have:i=caps.length:=by have:=c.len; omega
     subst this;rw[show .(105).N=N from rfl,z1]at e1;cases e1
     exact z2 e3
 . rw[show .(105).env.cells=M4 (s.heap.objs.size+1+1) scope.names (dr X.env scope.names []) from rfl,<- sz2]at e;refine pJ scope.names _ _ (λy d' q=>?_) x d e;obtain⟨v,o,q1,q2⟩:=I.cell y d' (hcl y d' q);exact⟨v,o,pq _ (pq _ q1),q2⟩
 . exact fr _ .(17) (Lk _)
 . rcases cel x d e with q | q
   . exact fr d .(0) (by intro z; omega)
   . rw[aE (Il (oldc x d q))]; exact I.freeC x d q
 . exact I.hok.laid kp .(3) ⟨HL _,[],0,.nil,hD⟩
 . rw[vp];unfold gu;rw[bp,show .(105).N=N from rfl,c.len];rfl
end
def PTs (X:Cx)(ifs:List Expr)(t:TT):Prop:=
 ∀(pins:List .(103)) (s:Da) (σ:L2.St) (H:Hp) (Q:Bool->Hp->Prop),Inv X pins σ H s->t σ H Q ->
   wpAny .(100) X.A (forIn ifs true λc r=>if r=true then do let ok <- isTrue c X.env (eval c X.env); pure (J3 ok) else pure (J3 r)) (TP X pins σ Q) X.xe s
section
variable {prog:FB}{w:World}{A:GT}{R:Result->Da->Prop}{s:Da}
theorem kX (Iv:Nat->Da->Prop)
   (step:∀n s,Iv n s->wpAny .(107) A (Nw it) (λr s₁=>match r with
     | none=>R (.ok .next) s₁
     | some v=>wpAny .(107) A (NC target it v) (λ_ s₀=>wpAny .(107) A (assign target env v) (λ_ s₂=>
         wpAny .(107) A (forIn ifs true λc r=>if r=true then do let ok <- isTrue c env (eval c env); pure (J3 ok) else pure (J3 r)) (λok s₃=>
           if ok=true then wpAny .(107) A (eval elt env) (λx s₄=>
             wpAny .(107) A (call (.builtin "list.append") [acc,x]) (λ_ s₅=>∃m,m<n/\Iv m s₅) (λ_ _=>False) s₄) (λ_ _=>False) s₃
           else ∃m,m<n/\Iv m s₃) (λ_ _=>False) s₂) (λ_ _=>False) s₀) (λ_ _=>False) s₁) (λ_ _=>False) s)
   (n:Nat) (h:Iv n s):Nq .(107) A (.compLoop (.ListComp elt [⟨target,iter,ifs,0⟩] scope pos) 0 it acc env) R s:=by
 have no:∀{α:Type} {t:Sem α} {Q:α->Da->Prop} {s:Da} {E:Value->Da->Prop},wpAny .(107) A t Q (λ_ _=>False) s->wpAny .(107) A t Q E s:=λh=>Nt h (λ_ _ q=>q) λ_ _ q=>q.elim
 refine codeAny_loop rfl Iv (λn s hI=>?_) n h;show wpAny _ A (Sem.onRaise (compTurn (.ListComp elt [⟨target,iter,ifs,0⟩] scope pos) 0 it acc env) (λx=>do noteFrame x env; theTreesLotGoes x)) _ _ s;refine wpAny_noted ?_;rw[compTurn_list];refine AC (wpAny_standAt (AC (thn (no (step n s hI)) λr s₁ h₁=>?_)));cases r with
 | none=>exact Fk h₁
 | some v=>
   refine AC (thn (no h₁) λ_ s₀ h₀=>AC (thn (no h₀) λ_ s₂ h₂=>AC (thn (no h₂) λok s₃ h₃=>?_)));cases ok with
   | false=>exact Fk ⟨rfl,h₃⟩
   | true=>exact AC (AC (thn (no h₃) λx s₄ h₄=>AC (thn (no h₄) λ_ s₅ h₅=>Fk (Fk ⟨rfl,h₅⟩))))
end
theorem ub {X:Cx}{pins:List .(103)}{σ:L2.St}{s:Da}{scope:Scope}{N:List Str}(h:Ck kd X)(I:Inv X pins σ H s):Ck kd .(105):=by
 rcases h with h | ⟨hk,q,o,u,vs,e1,e2,e3,e4⟩
 . exact .inl h
 . exact .inr ⟨hk,q,o,u,vs,e1,I.base.frzs q o u e2,e3,e4⟩
def fy (In:TG->TT->TE->Prop)(caps:List (Option Nat))(wi:TI):TE:=λσ H Q=>wi σ H λJ H1=>∃g tt te,In g tt te/\∀D,H1 D=none ->
 ∃Z:Nat->Nat->L2.St->Hp->Prop,(∃m,Z 0 m (gu σ caps++[some (.ref D)]) (upd H1 D (.lst [])))/\∀i m σ' H',Z i m σ' H' ->
   (J.stop i H'/\Q (.ref D) H')\/(J.go i H'/\∀x H2,J.yld i H' x H2->g x σ' H2 λσ2 H3=>tt σ2 H3 λb H4=>
     if b=true then te σ2 H4 λv H5=>∃vs m',H5 D=some (.lst vs)/\vs.length<sizeLine/\m'<m/\Z (i+1) m' σ2 (upd H5 D (.lst (vs++[v]))) else ∃m',m'<m/\Z (i+1) m' σ2 H4)
theorem dB {X:Cx}{In:TG->TT->TE->Prop}(c:eF X scope N caps)(hi:PI X tg iter wi)
   (hs:∀x,foldedSetIterable iter X.env x=pure x)
   (hin:∀g tt te,In g tt te->∀s H fp,PG .(105) tg g/\PTs .(105) ifs tt/\PE .(105) elt te) :
   PE X .(124) (fy In caps wi):=by
 intro pins s σ H Q I h;rw[eval_ListComp];have hcl:=vG (iL I c);refine wpAny_comprehension_free (use:=none) (g:=⟨tg,iter,ifs,0⟩) (gs:=[]) rfl hs hcl c.kind c.loc ?_;show wpAny _ _ (eval iter X.env) _ _ s;refine thn (hi pins s σ H _ I h) λv s1 h1=>thn h1 λitv s2 h2=>?_
 obtain⟨kd,it,fp,tn,J,H2,e,I2,hck,T,st2,f2,g,tt,te,hI,q⟩:=h2;have hc:=ub (scope:=scope) (N:=N) (fp:=fp) hck I2;subst e;obtain⟨Z,⟨m0,z0⟩,turn⟩:=q s2.heap.objs.size (I2.hok.fresh .(3));have ho:∀b∈fp,∃o,s2.heap.get? b=some o:=λb hb=>let ⟨o,e,_⟩:=T.obj _ _ st2 b hb; ⟨o,e⟩
 have I4:=qj (scope:=scope) (N:=N) (caps:=caps) I2 f2 ho c;obtain⟨hg,ht,he⟩:=hin g tt te hI s2 H2 fp;refine GM (nU ?_) (by show 0<=sizeLine; decide);have hC:(s2.heap.push { cls:=.type "list",dict:=none,data:=.seq ([]:List Value).toArray }).objs.size=s2.heap.objs.size+1:=Ja ..;dsimp only;rw[hC]
 have kp:∀b o,s2.heap.get? b=some o->(N5 ((s2.heap.push { cls:=.type "list",data:=.seq ([]:List Value).toArray }).push { cls:=.type "dict",data:=.dict #[] }) scope.names).get? b=some o:=λb o e=>
   Np _ _ b o (pq _ (pq _ e))
 have st4:tn 0 (N5 ((s2.heap.push { cls:=.type "list",data:=.seq ([]:List Value).toArray }).push { cls:=.type "dict",data:=.dict #[] }) scope.names):=T.keep _ _ _ st2 λb _ o e=>kp b o e
 have stat:∀{H':Hp},(∀b∈fp,H' b=none)->∀b∈fp,mN .(120) [] H' b:=λhn b hb=>
   ⟨hn b hb,(I4.ok.exf b hb).1,I4.ok.exfs b hb,.inl hb,(I4.ok.exf b hb).2,λp hp=>absurd (show p∈([]:List .(103)) from hp) .(4)⟩
 have fr4:∀b∈fp,(upd H2 s2.heap.objs.size (.lst [])) b=none:=λb hb=>by
   obtain⟨o,e⟩:=ho b hb;rw[aE (Il (Hw e))]; exact(f2 b hb).1
 have loop:Nq .(100) X.A (.compLoop .(124) 0 (.ref it) (.ref s2.heap.objs.size) .(120).env)
     (compPost .(100) X.A X.xe none (EP X pins σ Q) (.ref s2.heap.objs.size) (s2.heap.objs.size+1))
     { s2 with heap:=N5 ((s2.heap.push { cls:=.type "list",data:=.seq ([]:List Value).toArray }).push { cls:=.type "dict",data:=.dict #[] }) scope.names }:=by
   refine kX (λn s'=>∃i σ' H',Inv .(120) [] σ' H' s'/\tn i s'.heap/\(∀b∈fp,H' b=none)/\Z i n σ' H') ?_ m0 ⟨0,_,_,I4,st4,fr4,z0⟩;rintro n s3 ⟨i,σ3,H3,I3,st3,fr3,w3⟩;rcases turn i n σ3 H3 w3 with ⟨stop,qn⟩ | ⟨go,step⟩
   . refine thn (T.done .(120) rfl rfl rfl hc i [] s3 σ3 H3 _ I3 (stat fr3) st3 stop) λr s5 ⟨hr,I5⟩=>?_
     subst hr;obtain⟨m,hn,_⟩:=id I5.loc;refine⟨m,hn,λh' sb=>⟨.ref s2.heap.objs.size,H3,?_,rfl,qn⟩⟩;have lt:∀b o,s2.heap.get? b=some o->b≠s2.heap.objs.size+1:=λb o e=>Il (Ko (Hw e))
     have u:=I5.base
     have u':Un (frs X.stack) fp H2 H3 s2.heap h':=⟨λb o e n1 n2 n3=>(sb.2 b (lt b o e)).trans (u.keep b o e n1 n2 n3),λb o e n1 n2 n3=>let ⟨sl,z⟩:=u.slot b o e n1 n2 n3; ⟨sl,(sb.2 b (lt b o e)).trans z⟩,
       u.free,λb o e n1=>let ⟨o',z⟩:=u.there b o e n1; ⟨o',(sb.2 b (lt b o e)).trans z⟩,u.tups,u.frzs,u.tbls⟩
     have fC:H3 (s2.heap.objs.size+1)=none:=I5.free;refine I2.BX (s':={ s5 with heap:=h' }) I5.os u' (λb o e=>(I5.hok b o e).lq (λd v hd z=>(sb.2 d ?_).trans z) (λ_ z=>z) λ_ _ z=>z) I5.bare λb hb=>⟨(f2 b hb).2.2.2.1,(f2 b hb).2.1,(f2 b hb).2.2.2.2.1,(f2 b hb).2.2.2.2.2⟩
     rcases hd with hd | hd
     . rw[hd]; exact aZ e fC
     . exact aZ hd fC
   . refine thn (T.item .(120) rfl rfl rfl hc i [] s3 σ3 H3 _ I3 (stat fr3) st3 go) λr s4 ⟨u,hr,h4⟩=>?_
     subst hr;refine thn h4 λ_ s5 ⟨x,H5,I5,r5,y5,st5,fr5⟩=>?_
     have I5':=I5.pinned (stat fr5) (T.obj _ _ st5);refine thn (hg _ s5 σ3 H5 x u _ I5' r5 (step x H5 y5)) λ_ s6 ⟨σ6,H6,I6,q6⟩=>?_
     have again:∀{s7:Da} {σ7:L2.St} {H7:Hp} {m':Nat},Inv .(120) ([]++iY fp s5.heap) σ7 H7 s7->m'<n->Z (i+1) m' σ7 H7 ->
         ∃m,m<n/\∃i σ' H',Inv .(120) [] σ' H' s7/\tn i s7.heap/\(∀b∈fp,H' b=none)/\Z i m σ' H':=λ{s7 σ7 H7 m'} I7 hm z7=>by
       refine⟨m',hm,i+1,σ7,H7,I7.fx,T.keep _ _ _ st5 λb hb o e=>(I7.pin (b,o) (tf _ (tf _ (cy hb e)))).1,λb hb=>?_,z7⟩;obtain⟨o,e,d⟩:=T.obj _ _ st5 b hb;exact(I7.pin (b,o) (tf _ (tf _ (cy hb e)))).2.1
     refine thn (ht _ s6 σ6 H6 _ I6 q6) λok s7 ⟨H7,I7,q7⟩=>?_
     cases ok with
     | false=>
       rw[if_neg .(2)]at q7;obtain⟨m',hm,z7⟩:=q7;exact again I7 hm z7
     | true=>
       rw[if_pos rfl]at q7;refine thn (he _ s7 σ6 H7 _ I7 q7) λv' s8 ⟨v,H8,I8,r8,vs,m',q8,l8,hm,z8⟩=>?_
       refine thn (fJ (X:=aT X s2 H2 scope N fp) _ s8 σ6 H8 (.ref s2.heap.objs.size) [v] (.ref s2.heap.objs.size) [v'] (λ_ H9=>H9=upd H8 s2.heap.objs.size (.lst (vs++[v]))) I8 rfl (.cons r8 .nil) ⟨_,vs,v,rfl,rfl,q8,l8,rfl⟩) λ_ s9 ⟨_,H9,I9,_,e9⟩=>?_
       subst e9;exact again I9 hm z8
 exact codeAny_compStart_list loop (T.self _ 0 _ _ _ st4 loop)
end Ev
namespace Hy
open PySem PySem.Spec PyProof.Rows L2
open Ev (D Den av)
open Classical in
noncomputable def hd (H:Hp)(M:Addr->Prop):Hp:=λb=>if M b then none else H b
theorem au :hd H M b=some o↔¬M b/\H b=some o:=by
 unfold hd;by_cases h:M b
 . rw[if_pos h]; exact⟨λz=>(nomatch z),λz=>absurd h z.1⟩
 . rw[if_neg h]; exact⟨λz=>⟨h,z⟩,λz=>z.2⟩
theorem aC (e:ao H H')(m:∀b,M' b->M b):ao (hd H M) (hd H' M'):=λb _ h=>au.mpr ⟨λz=>(au.mp h).1 (m b z),e b _ (au.mp h).2⟩
theorem aS :ao (hd H M) H:=λ_ _ h=>(au.mp h).2
inductive Nd where
 | d (x:D) | l (xs:List Nd) | t (xs:List Nd)
structure Ex where
 p:fw->Hp->HO->Addr->Prop
 mono:∀{K:fw} {G G':Hp} {o:HO} {a:Addr},ao G G'->p K G o a->p K G' o a
 ext:∀{K:fw} {G:Hp} {o:HO} {a:Addr},p K G o a->(∃φ,o=.ext φ)\/(∃ob φ,o=.frz ob (.ext φ))\/∃kvs,o=.dK kvs\/∃ob,o=.frz ob (.dK kvs)
inductive Sl where
 | un | d (x:D) | o (xs:List D) | n (t:Nd) | x (E:Ex)
mutual
inductive cg (K:fw)(G H:Hp):V->List Addr->Nd->Prop where
 | d {u:V} {x:D} (h:Den K G u x):cg K G H u [] (.d x)
 | l {a:Addr} {vs:List V} {bs:List Addr} {xs:List Nd} (h:H a=some (.lst vs)) (r:aX K G H vs bs xs):cg K G H (.ref a) (a::bs) (.l xs)
 | t {a:Addr} {vs:List V} {bs:List Addr} {xs:List Nd} (h:H a=some (.tup vs)) (r:aX K G H vs bs xs):cg K G H (.ref a) (a::bs) (.t xs)
inductive aX (K:fw)(G H:Hp):List V->List Addr->List Nd->Prop where
 | nil:aX K G H [] [] []
 | cons {v:V} {vs:List V} {b1 b2:List Addr} {s:Nd} {ss:List Nd} (h:cg K G H v b1 s) (r:aX K G H vs b2 ss):aX K G H (v::vs) (b1++b2) (s::ss)
end
noncomputable def cE (K:fw)(G H:Hp)(v:Option V)(bs:List Addr):Sl->Prop
 | .un=>bs=[]
 | .d x=>bs=[]/\∃u,v=some u/\Den K G u x
 | .o xs=>∃a vs,bs=[a]/\v=some (.ref a)/\H a=some (.lst vs)/\av K G vs xs
 | .n t=>bs.Nodup/\∃u,v=some u/\cg K G H u bs t
 | .x E=>∃a o,bs=[a]/\v=some (.ref a)/\H a=some o/\E.p K G o a
section
variable {K:fw}{G G' H H':Hp}
mutual
theorem cg.frame (g:ao G G'):∀{u:V} {bs:List Addr} {t:Nd},(∀b∈bs,H' b=H b)->cg K G H u bs t->cg K G' H' u bs t
 | _,_,_,_,.d h=>.d (h.mono g)
 | _,_,_,e,.l h r=>.l (by rw[e _ .(5)]; exact h) (aX.frame g (λb hb=>e b (Et _ hb)) r)
 | _,_,_,e,.t h r=>.t (by rw[e _ .(5)]; exact h) (aX.frame g (λb hb=>e b (Et _ hb)) r)
theorem aX.frame (g:ao G G'):∀{vs:List V} {bs:List Addr} {xs:List Nd},(∀b∈bs,H' b=H b)->aX K G H vs bs xs->aX K G' H' vs bs xs
 | _,_,_,_,.nil=>.nil
 | _,_,_,e,.cons h r=>.cons (cg.frame g (λb hb=>e b (HE _ hb)) h) (aX.frame g (λb hb=>e b (tf _ hb)) r)
end
mutual
theorem cg.some_of:∀{u:V} {bs:List Addr} {t:Nd},cg K G H u bs t->∀b∈bs,∃o,H b=some o
 | _,_,_,.d _,_,z=>nomatch z
 | _,_,_,.l h r,b,z=>(HA.mp z).elim (λe=>e▸⟨_,h⟩) λz=>aX.some_of r b z
 | _,_,_,.t h r,b,z=>(HA.mp z).elim (λe=>e▸⟨_,h⟩) λz=>aX.some_of r b z
theorem aX.some_of:∀{vs:List V} {bs:List Addr} {xs:List Nd},aX K G H vs bs xs->∀b∈bs,∃o,H b=some o
 | _,_,_,.nil,_,z=>nomatch z
 | _,_,_,.cons h r,b,z=>(x3.mp z).elim (λz=>cg.some_of h b z) λz=>aX.some_of r b z
end
theorem cg.mono (g:ao G G')(e:ao H H'){t:Nd}(h:cg K G H u bs t):cg K G' H' u bs t:=h.frame g λb hb=>by
 obtain⟨o,q⟩:=h.some_of b hb;rw[q,e b o q]
theorem cE.mono (g:ao G G')(e:ao H H'):∀{s:Sl},cE K G H v bs s->cE K G' H' v bs s
 | .un,h=>h
 | .d _,⟨h,u,e1,h2⟩=>⟨h,u,e1,h2.mono g⟩
 | .o _,⟨a,vs,h1,h2,h3,h4⟩=>⟨a,vs,h1,h2,e _ _ h3,h4.mono g⟩
 | .n _,⟨h0,u,h1,h2⟩=>⟨h0,u,h1,h2.mono g e⟩
 | .x E,⟨a,o,h1,h2,h3,h4⟩=>⟨a,o,h1,h2,e _ _ h3,E.mono g h4⟩
end
def own (A:Addr->Prop)(B:Nat->List Addr)(b:Addr):Prop:=A b\/∃i,b∈B i
noncomputable def vw (C:Bool)(A:Addr->Prop)(B:Nat->List Addr):Addr->Prop:=match C with
 | true=>own A B
 | false=>A
structure Sta (K:fw)(A:Addr->Prop)(H₀:Hp)(τ:List Sl)(B:Nat->List Addr)(σ:L2.St)(H:Hp):Prop where
 same:ao H₀ H
 len:σ.length=τ.length
 sl:∀i s,τ[i]?=some s->cE K (hd H (own A B)) H (σ[i]?).join (B i) s
 fr:∀i b,b∈B i->H₀ b=none
 uq:∀i j b,b∈B i->b∈B j->i=j
 ad:∀b,A b->∃o,H₀ b=some o
 bd:∀i b,b∈B i->∃o,H b=some o
noncomputable def upB (B:Nat->List Addr)(i:Nat)(bs:List Addr):Nat->List Addr:=λj=>if j=i then bs else B j
section
variable {K:fw}{A:Addr->Prop}{H₀ H H':Hp}{τ:List Sl}{B:Nat->List Addr}{σ:L2.St}
theorem Sta.dm (S:Sta K A H₀ τ B σ H)(b:Addr)(h:own A B b):∃o,H b=some o:=h.elim (λz=>let ⟨o,q⟩:=S.ad b z; ⟨o,S.same _ _ q⟩) λ⟨i,z⟩=>S.bd i b z
theorem Sta.mono (S:Sta K A H₀ τ B σ H)(e:ao H H'):Sta K A H₀ τ B σ H' where
 same:=S.same.trans e
 len:=S.len
 sl:=λi s h=>(S.sl i s h).mono (aC e λ_ z=>z) e
 fr:=S.fr
 uq:=S.uq
 ad:=S.ad
 bd:=λi b h=>let ⟨o,q⟩:=S.bd i b h; ⟨o,e _ _ q⟩
theorem ba (h:b∈upB B i bs j):(j=i/\b∈bs)\/(j≠i/\b∈B j):=by
 unfold upB at h;by_cases e:j=i
 . rw[if_pos e]at h; exact .inl ⟨e,h⟩
 . rw[if_neg e]at h; exact .inr ⟨e,h⟩
theorem Sta.set (S:Sta K A H₀ τ B σ H)(e:ao H H')(hf:∀b∈bs,H b=none/\∃o,H' b=some o)(h:cE K (hd H' λb=>own A B b\/b∈bs) H' (some v) bs s):
   Sta K A H₀ (τ.set i s) (upB B i bs) (σ.set i (some v)) H':=by
 have sub:∀b,own A (upB B i bs) b->own A B b\/b∈bs:=λb z=>z.elim (λz=>.inl (.inl z)) λ⟨j,z⟩=>(ba z).elim (λz=>.inr z.2) λz=>.inl (.inr ⟨j,z.2⟩)
 have some_of:∀b j,b∈B j->∃o,H b=some o:=λb j z=>S.dm b (.inr ⟨j,z⟩)
 refine⟨S.same.trans e,by rw[HV,HV,S.len],λj t hj=>?_,λj b hb=>?_,λj k b h1 h2=>?_,S.ad,λj b hb=>?_⟩
 . by_cases ej:j=i
   . subst ej
     have hl:j<τ.length:=by
       have:=(rp.mp hj).1
       rwa [HV]at this
     rw[Ic hl]at hj;cases hj
     rw[Ic (by rw[S.len]; exact hl)];unfold upB;rw[if_pos rfl];exact h.mono (aC .(102) sub) .(102)
   . rw[HI (λz=>ej z.symm)]at hj;rw[HI (λz=>ej z.symm)];unfold upB;rw[if_neg ej];have q:=S.sl j t hj;refine q.mono (λb o z=>?_) e;obtain⟨z1,z2⟩:=au.mp z;refine au.mpr ⟨λy=>?_,e _ _ z2⟩;rcases sub b y with y | y
     . exact z1 y
     . rw[(hf b y).1]at z2; cases z2
 . rcases ba hb with ⟨_,z⟩ | ⟨_,z⟩
   . exact S.same.free (hf b z).1
   . exact S.fr j b z
 . rcases ba h1 with ⟨e1,z1⟩ | ⟨e1,z1⟩ <;> rcases ba h2 with ⟨e2,z2⟩ | ⟨e2,z2⟩
   . exact e1.trans e2.symm
   . obtain⟨o,q⟩:=some_of b k z2; rw[(hf b z1).1]at q; cases q
   . obtain⟨o,q⟩:=some_of b j z1; rw[(hf b z2).1]at q; cases q
   . exact S.uq j k b z1 z2
 . rcases ba hb with ⟨_,z⟩ | ⟨_,z⟩
   . exact(hf b z).2
   . obtain⟨o,q⟩:=S.bd j b z; exact⟨o,e _ _ q⟩
theorem Sta.less (S:Sta K A H₀ τ B σ H)(hb:∀b∈bs,b∈B i)(h:∀G:Hp,ao (hd H (own A B)) G->(∀b o,b∈B i->b∉bs->H b=some o->G b=some o)->cE K G H (σ[i]?).join bs s):Sta K A H₀ (τ.set i s) (upB B i bs) σ H:=by
 have sub:∀b,own A (upB B i bs) b->own A B b:=λb z=>z.elim .inl λ⟨j,z⟩=>(ba z).elim (λz=>.inr ⟨i,hb b z.2⟩) λz=>.inr ⟨j,z.2⟩
 refine⟨S.same,by rw[HV,S.len],λj t hj=>?_,λj b h=>?_,λj k b h1 h2=>?_,S.ad,λj b h=>(ba h).elim (λz=>S.bd i b (hb b z.2)) λz=>S.bd j b z.2⟩
 . by_cases ej:j=i
   . subst ej
     have hl:j<τ.length:=by
       have:=(rp.mp hj).1
       rwa [HV]at this
     rw[Ic hl]at hj;cases hj
     unfold upB;rw[if_pos rfl];refine h _ (aC .(102) sub) λb o z1 z2 z3=>au.mpr ⟨λy=>?_,z3⟩
     rcases y with y | ⟨m,y⟩
     . obtain⟨_,q⟩:=S.ad b y;rw[S.fr j b z1]at q; cases q
     . rcases ba y with ⟨e,y⟩ | ⟨e,y⟩
       . exact z2 y
       . exact e (S.uq m j b y z1)
   . rw[HI (λz=>ej z.symm)]at hj;unfold upB;rw[if_neg ej];exact(S.sl j t hj).mono (aC .(102) sub) .(102)
 . rcases ba h with ⟨e,z⟩ | ⟨_,z⟩
   . exact S.fr i b (hb b z)
   . exact S.fr j b z
 . rcases ba h1 with ⟨e1,z1⟩ | ⟨e1,z1⟩ <;> rcases ba h2 with ⟨e2,z2⟩ | ⟨e2,z2⟩
   . exact e1.trans e2.symm
   . exact absurd (S.uq k i b z2 (hb b z1)) e2
   . exact absurd (S.uq j i b z1 (hb b z2)) e1
   . exact S.uq j k b z1 z2
end
end Hy
namespace Hy
open PySem PySem.Spec PyProof.Rows L2
open Ev (D Den av aH aL aq aY aR)
def Fr (H H':Hp)(bs:List Addr):Prop:=∀b∈bs,H b=none/\∃o,H' b=some o
def dE (K:fw)(C:Bool)(τ:List Sl)(s:Sl):TE:=λσ H Q=>∃A H₀ B,Sta K A H₀ τ B σ H /\
 ∀v H' bs,ao H H'->Fr H H' bs->cE K (hd H' λb=>vw C A B b\/b∈bs) H' (some v) bs s->Q v H'
def dA (K:fw)(C:Bool)(τ:List Sl)(ds:List D):TA:=λσ H Q=>∃A H₀ B,Sta K A H₀ τ B σ H /\
 ∀vs H',ao H H'->av K (hd H' (vw C A B)) vs ds->Q vs H'
def dT (K:fw)(τ:List Sl)(c:Bool):TT:=λσ H Q=>∃A H₀ B,Sta K A H₀ τ B σ H/\∀H',ao H H'->Q c H'
structure Po where
 nx:List Sl->Prop
 rt:Sl->Prop
 bk:List Sl->Prop:=λ_=>False
 ct:List Sl->Prop:=λ_=>False
 xc:Hp->Prop:=λ_=>True
structure Meets (K:fw)(A:Addr->Prop)(H₀:Hp)(N:Po)(D:Ends):Prop where
 nx:∀τ B σ H,N.nx τ->Sta K A H₀ τ B σ H->D.nx σ H
 bk:∀τ B σ H,N.bk τ->Sta K A H₀ τ B σ H->D.bk σ H
 ct:∀τ B σ H,N.ct τ->Sta K A H₀ τ B σ H->D.ct σ H
 rt:∀v H bs s,N.rt s->ao H₀ H->Fr H₀ H bs->cE K (hd H λb=>A b\/b∈bs) H (some v) bs s->D.rt v H
 xc:∀H,ao H₀ H->N.xc H
def dS (K:fw)(τ:List Sl)(N:Po):TS:=λD σ H=>∃A H₀ B,Sta K A H₀ τ B σ H/\Meets K A H₀ N D
theorem peW (h:PE X e t)(f:∀σ H Q,t' σ H Q->t σ H Q):PE X e t':=λpins s σ H Q I q=>h pins s σ H Q I (f σ H Q q)
theorem ptW (h:PT X e t)(f:∀σ H Q,t' σ H Q->t σ H Q):PT X e t':=λpins s σ H Q I q=>h pins s σ H Q I (f σ H Q q)
theorem pwW (h:PW X e t)(f:∀σ H Q,t' σ H Q->t σ H Q):PW X e t':=λwh pins s σ H Q I q=>h wh pins s σ H Q I (f σ H Q q)
theorem paW (h:PA X e t)(f:∀σ H Q,t' σ H Q->t σ H Q):PA X e t':=λp pins s σ H Q I q=>h p pins s σ H Q I (f σ H Q q)
theorem psW (h:PS X e t)(f:∀D σ H,t' D σ H->t D σ H):PS X e t':=λpins s σ H D I q=>h pins s σ H D I (f D σ H q)
theorem gQ (h:PSs X e t)(f:∀D σ H,t' D σ H->t D σ H):PSs X e t':=λpins s σ H D I q=>h pins s σ H D I (f D σ H q)
section
variable {K:fw}{C:Bool}{τ:List Sl}{A:Addr->Prop}{H₀ H H':Hp}{B:Nat->List Addr}{σ:L2.St}{x y z:D}{Q:VK}
theorem iX (h:vw C A B b):own A B b:=by
 cases C with
 | true=>exact h
 | false=>exact .inl h
theorem Sta.vd (S:Sta K A H₀ τ B σ H)(b:Addr)(h:vw C A B b):∃o,H b=some o:=S.dm b (iX h)
theorem aU (S:Sta K A H₀ τ B σ H)(k:∀v H',ao H H'->Den K (hd H' (vw C A B)) v x->Q v H'):dE K C τ (.d x) σ H Q:=
 ⟨A,H₀,B,S,λv H' bs e _ ⟨hb,u,eu,h⟩=>by
   cases eu
   exact k v H' e (h.mono (aC .(102) λ_ z=>.inl z))⟩
theorem dj (h:dE K C τ (.d x) σ H Q):∃A H₀ B,Sta K A H₀ τ B σ H/\∀v H',ao H H'->Den K (hd H' (vw C A B)) v x->Q v H':=by
 obtain⟨A,H₀,B,S,k⟩:=h;exact⟨A,H₀,B,S,λv H' e d=>k v H' [] e (λ_ z=>nomatch z) ⟨rfl,v,rfl,d.mono (aC .(102) λ_ z=>z.elim id λz=>nomatch z)⟩⟩
theorem eQ {Q:List V->Hp->Prop}(S:Sta K A H₀ τ B σ H)(k:∀vs H',ao H H'->av K (hd H' (vw C A B)) vs ds->Q vs H'):dA K C τ ds σ H Q:=⟨A,H₀,B,S,k⟩
theorem lV (hM:∀b,M b->∃o,H b=some o)(hp:H p=none):hd (upd H p o) M p=some o:=
 au.mpr ⟨λz=>(by obtain⟨o,q⟩:=hM p z; rw[hp]at q; cases q),aK⟩
mutual
noncomputable def ndD:Nd->D
 | .d x=>x
 | .l xs=>.lst (kC xs)
 | .t xs=>.tup (kC xs)
noncomputable def kC:List Nd->List D
 | []=>[]
 | x::xs=>ndD x::kC xs
end
noncomputable def fzD:Sl->Option D
 | .un=>none
 | .d x=>some x
 | .o xs=>some (.lst xs)
 | .n t=>some (ndD t)
 | .x _=>none
mutual
theorem cg.den {G G':Hp}(g:ao G G'):∀{u:V} {bs:List Addr} {t:Nd},(∀b∈bs,∀o,H b=some o->G' b=some o)->cg K G H u bs t->Den K G' u (ndD t)
 | _,_,_,_,.d h=>h.mono g
 | _,_,_,e,.l h r=>.lst (SqL.of (e _ .(5) _ h)) (aX.den g (λb hb=>e b (Et _ hb)) r)
 | _,_,_,e,.t h r=>.tup (SqT.of (e _ .(5) _ h)) (aX.den g (λb hb=>e b (Et _ hb)) r)
theorem aX.den {G G':Hp}(g:ao G G'):∀{vs:List V} {bs:List Addr} {xs:List Nd},(∀b∈bs,∀o,H b=some o->G' b=some o)->aX K G H vs bs xs->av K G' vs (kC xs)
 | _,_,_,_,.nil=>.nil
 | _,_,_,e,.cons h r=>.cons (cg.den g (λb hb=>e b (HE _ hb)) h) (aX.den g (λb hb=>e b (tf _ hb)) r)
end
theorem cE.den (h:cE K G H v bs s)(g:ao G G')(hv:∀b∈bs,∀o,H b=some o->G' b=some o)(e:fzD s=some x):∃u,v=some u/\Den K G' u x:=by
 cases s with
 | un=>cases e
 | d y=>cases e; obtain⟨_,u,e,q⟩:=h; exact⟨u,e,q.mono g⟩
 | o xs=>
   cases e
   obtain⟨a,vs,rfl,h2,h3,h4⟩:=h;exact⟨_,h2,.lst (SqL.of (hv a .(5) _ h3)) (h4.mono g)⟩
 | n t=>
   cases e
   obtain⟨_,u,e,q⟩:=h;exact⟨u,e,q.den g hv⟩
 | x E=>cases e
theorem slot_of {i:Nat}{u:V}(h:(σ[i]?).join=some u):σ[i]?=some (some u):=by
 cases e:σ[i]? with
 | none=>rw[e]at h; cases h
 | some o=>rw[e]at h; exact congrArg some h
end
section
variable {X:Cx}{C:Bool}{τ:List Sl}{x y z:D}{a b e:Expr}{es:List Expr}{pos:Pos}
theorem aa (i:Nat){n:Str}{x:D}(h:τ[i]?=some (.d x):=by rfl)(hN:X.N[i]?=some n:=by rfl)(hv:Vis X.env.scope n:=by first | exact JM rfl | exact IH .(9) | exact IH .(8))
   (hd:(n==("__debug__" : Str))=false:=by decide) (hcd:(n==("__classdict__" : Str))=false:=by decide):PE X (.Name n pos) .(126):=peW (bo hN hv hd hcd) λσ H Q q=>by
 obtain⟨A,H₀,B,S,k⟩:=dj q;obtain⟨_,u,e,d⟩:=S.sl i _ h;exact⟨u,slot_of e,k u H .(102) (d.mono (aC .(102) λ_ z=>iX z))⟩
theorem jU (i:Nat){n:Str}{s:Sl}{x:D}(h:τ[i]?=some s:=by rfl)(hx:fzD s=some x:=by rfl)(hN:X.N[i]?=some n:=by rfl)(hv:Vis X.env.scope n:=by first | exact JM rfl | exact IH .(9) | exact IH .(8))
   (hd:(n==("__debug__" : Str))=false:=by decide) (hcd:(n==("__classdict__" : Str))=false:=by decide):PE X (.Name n pos) (dE X.K false τ (.d x)):=peW (bo hN hv hd hcd) λσ H Q q=>by
 obtain⟨A,H₀,B,S,k⟩:=dj q;obtain⟨u,e,d⟩:=(S.sl i _ h).den (G':=Hy.hd H A) (aC .(102) λ_ z=>.inl z) (λb hb o ho=>au.mpr ⟨λz=>(by obtain⟨_,q⟩:=S.ad b z; rw[S.fr i b hb]at q; cases q),ho⟩) hx;exact⟨u,slot_of e,k u H .(102) d⟩
theorem nW (h:PE X e (tC v))(d:∀H,Den X.K H v x):PE X e .(126):=peW h λσ H Q q=>by
 obtain⟨A,H₀,B,S,k⟩:=dj q;exact k v H .(102) (d _)
theorem af :PE X (.Constant (.int i) j pos) (dE X.K C τ (.d (.int i))):=nW sF λ_=>.int
theorem DG {b j}:PE X (.Constant (.bool b) j pos) (dE X.K C τ (.d (.bl b))):=nW E8 λ_=>.bl
theorem tV :PE X (.Constant .none j pos) (dE X.K C τ (.d .non)):=nW DC λ_=>.non
theorem cw :PE X (.Constant (.str s) j pos) (dE X.K C τ (.d (.str s))):=nW DU λ_=>.str
theorem Ce {n:Str}{i:Int}(hm:∃t,X.mg n=some (.int i t))(hg:Gl X n:=by rfl)(hd:(n==("__debug__" : Str))=false:=by decide):PE X (.Name n pos) (dE X.K C τ (.d (.int i))):=by
 obtain⟨t,hm⟩:=hm;exact nW (vy (v:=.int i) hg hm ⟨t,rfl⟩ hd) λ_=>.int
theorem bE {s:Sl}(h:PE X e (dE X.K C τ s))(hx:fzD s=some x:=by rfl):PE X e .(126):=peW h λσ H Q q=>by
 obtain⟨A,H₀,B,S,k⟩:=dj q;refine⟨A,H₀,B,S,λv H' bs e hf q=>?_⟩;have vd:=S.vd (C:=C);obtain⟨u,e1,d⟩:=q.den (G':=Hy.hd H' (vw C A B)) (aC .(102) λ_ z=>.inl z) (λb hb o ho=>au.mpr ⟨λz=>(by obtain⟨_,q⟩:=vd b z; rw[(hf b hb).1]at q; cases q),ho⟩) hx;cases e1
 exact k v H' e d
noncomputable def flat:D->Bool
 | .tup _=>false
 | .lst _=>false
 | .box _=>false
 | _=>true
theorem yN {K:fw}(h:Den K G v x)(f:flat x=true):Den K G' v x:=by
 cases h with
 | non=>exact .non
 | bl=>exact .bl
 | int=>exact .int
 | str=>exact .str
 | tup _ _=>cases f
 | lst _ _=>cases f
 | box _=>cases f
theorem qQ (h:PE X e (dE X.K false τ (.d x)))(f:flat x=true:=by rfl):PE X e .(126):=peW h λσ H Q q=>by
 obtain⟨A,H₀,B,S,k⟩:=dj q;exact aU S λv H' e d=>k v H' e (yN d f)
def cF (X:Cx)(f:Value->Value->Sem Value)(x y z:D):Prop:=∃r:R2,OpR X f r /\
 ∀(M:Addr->Prop) (v w:V) (H:Hp) (Q:VK),(∀b,M b->∃o,H b=some o)->Den X.K (hd H M) v x->Den X.K (hd H M) w y->(∀u H',ao H H'->Den X.K (hd H' M) u z->Q u H')->r v w H Q
theorem two (hr:∀(M:Addr->Prop) (v w:V) (H:Hp) (Q:VK),(∀b,M b->∃o,H b=some o)->Den X.K (hd H M) v x->Den X.K (hd H M) w y->(∀u H',ao H H'->Den X.K (hd H' M) u z->Q u H')->r v w H Q):
   ∀σ H Q,dE X.K C τ (.d z) σ H Q->tOp r .(126) (dE X.K C τ (.d y)) σ H Q:=by
 intro σ H Q h;obtain⟨A,H₀,B,S,k⟩:=dj h;refine aU S λv H1 e1 d1=>aU (S.mono e1) λw H2 e2 d2=>hr (vw C A B) v w H2 Q ((S.mono e1).mono e2).vd (d1.mono (aC e2 λ_ z=>z)) d2 λu H' e3 d3=>k u H' (e1.trans (e2.trans e3)) d3
theorem aI (ha:PE X a .(126))(hb:PE X b (dE X.K C τ (.d y)))(ho:cF X (KB op) x y z):PE X (.BinOp a op b pos) (dE X.K C τ (.d z)):=by
 obtain⟨r,h1,h2⟩:=ho;exact peW (wM h1 ha hb) (two h2)
theorem iD {op:CmpOp}(ha:PE X a .(126))(hb:PE X b (dE X.K C τ (.d y)))(ho:cF X (Gc op) x y z)(hm:N3 op b=false:=by first | exact xw _ | rfl):PE X (.Compare a [op] [b] pos) (dE X.K C τ (.d z)):=by
 obtain⟨r,h1,h2⟩:=ho;exact peW (zJ h1 ha hb hm) (two h2)
theorem x6 {t:TE}(h:∀σ H Q,dE X.K false τ (.d (.bl c)) σ H Q->t σ H Q):∀σ H Q,dT X.K τ c σ H Q->t σ H λx H'=>∃k,x=.bl k/\Q k H':=λσ H Q ⟨A,H₀,B,S,k⟩=>
 h σ H _ (aU S λv H' e d=>by cases d; exact⟨c,rfl,k H' e⟩)
theorem a9 {op:CmpOp}{c:Bool}(ha:PE X a (dE X.K false τ (.d x)))(hb:PE X b (dE X.K false τ (.d y)))(ho:cF X (Gc op) x y (.bl c))(hm:N3 op b=false:=by first | exact xw _ | rfl):PT X (.Compare a [op] [b] pos) (dT X.K τ c):=by
 obtain⟨r,h1,h2⟩:=ho;exact ptW (Av h1 ha hb hm) (x6 (two h2))
theorem c9 {c:Bool}(h:PE X e (dE X.K false τ (.d (.bl c))))(he:∀whole,isTrue e X.env whole=(do let v <- whole; Nu e.pos; M6 [v] (truthy v)):=by intro _; rfl):PT X e (dT X.K τ c):=
 ptW (Di h he) (x6 λ_ _ _ q=>q)
theorem my (hc:P i j)(hz:∀K H,Den K H (g i j) z):∀(M:Addr->Prop) (v w:V) (H:Hp) (Q:VK),(∀b,M b->∃o,H b=some o)->Den X.K (hd H M) v (.int i)->Den X.K (hd H M) w (.int j) ->
   (∀u H',ao H H'->Den X.K (hd H' M) u z->Q u H')->rI P g v w H Q:=λ_ v w H Q _ d1 d2 k=>by
 cases d1
 cases d2
 exact⟨i,j,rfl,rfl,hc,k _ H .(102) (hz _ _)⟩
theorem ke (hz:∀K H,Den K H (g i j) z):∀(M:Addr->Prop) (v w:V) (H:Hp) (Q:VK),(∀b,M b->∃o,H b=some o)->Den X.K (hd H M) v (.int i)->Den X.K (hd H M) w (.int j) ->
   (∀u H',ao H H'->Den X.K (hd H' M) u z->Q u H')->rI0 g v w H Q:=λ_ v w H Q _ d1 d2 k=>by
 cases d1
 cases d2
 exact⟨i,j,rfl,rfl,k _ H .(102) (hz _ _)⟩
variable {i j:Int}
theorem ck:cF X (KB .Add) (.int i) (.int j) (.int (i+j)):=⟨_,DL,ke λ_ _=>.int⟩
theorem bO:cF X (KB .Sub) (.int i) (.int j) (.int (i-j)):=⟨_,Dr,ke λ_ _=>.int⟩
theorem BZ:cF X (KB .BitAnd) (.int i) (.int j) (.int (Mj i j)):=⟨_,DF,ke λ_ _=>.int⟩
theorem GF:cF X (KB .BitOr) (.int i) (.int j) (.int (Mv i j)):=⟨_,Fh,ke λ_ _=>.int⟩
theorem aH.ok' (h:aH i j):IntMulOk i j:=by
 have b:∀{k:Int} {n:Nat},k.natAbs.log2<n->Builtin.Int.intBits k<=n:=λ{k n} q=>by
   unfold Builtin.Int.intBits;split
   . exact HL _
   . exact q
 rcases h with h | h | ⟨h1,h2⟩
 . exact .of_left (b h)
 . exact .of_right (b h)
 . exact .of_bits (HJ (b h1) .(2)) (HJ (b h2) .(2))
theorem bK (h:aH i j):cF X (KB .Mult) (.int i) (.int j) (.int (i*j)):=⟨rI aH λi j=>.int (i*j),opI λ_ _ _ _ _ _ _ hc q=>mul_int q (aH.ok' hc),my h λ_ _=>.int⟩
theorem di (h:aL j):cF X (KB .FloorDiv) (.int i) (.int j) (.int (i.fdiv j)):=⟨rI (λ_ j=>aL j) λi j=>.int (i.fdiv j),opI λ_ _ _ _ _ _ _ hc q=>floordiv_int hc.1 q (.inl (PyProof.noPylong_of_log2 hc.2)),my h λ_ _=>.int⟩
theorem bW (h:j≠0):cF X (KB .Mod) (.int i) (.int j) (.int (i.fmod j)):=⟨_,zS,my h λ_ _=>.int⟩
theorem qL (h:A9 i j):cF X (KB .Pow) (.int i) (.int j) (.int (i^j.toNat)):=⟨_,Cw,my h λ_ _=>.int⟩
theorem FR (h:A9 i j):cF X (KB .LShift) (.int i) (.int j) (.int (i*2^j.toNat)):=⟨_,Du,my h λ_ _=>.int⟩
theorem By (h:0<=j):cF X (KB .RShift) (.int i) (.int j) (.int (i/2^j.toNat)):=⟨_,Er,my h λ_ _=>.int⟩
theorem vV:cF X (Gc .Lt) (.int i) (.int j) (.bl (decide (i<j))):=⟨_,FA,ke λ_ _=>.bl⟩
theorem Eu:cF X (Gc .LtE) (.int i) (.int j) (.bl (decide (i<=j))):=⟨_,Fg,ke λ_ _=>.bl⟩
theorem xk:cF X (Gc .Gt) (.int i) (.int j) (.bl (decide (j<i))):=⟨_,ER,ke λ_ _=>.bl⟩
theorem CZ:cF X (Gc .GtE) (.int i) (.int j) (.bl (decide (j<=i))):=⟨_,E5,ke λ_ _=>.bl⟩
theorem gB:cF X (Gc .Eq) (.int i) (.int j) (.bl (decide (i=j))):=⟨_,Bv,λ_ v w H Q _ d1 d2 k=>by
 cases d1
 cases d2
 exact⟨rfl,by rw[show decide (V.int i=V.int j)=decide (i=j) by simp]; exact k _ H .(102) .bl⟩⟩
theorem vO:cF X (Gc .NotEq) (.int i) (.int j) (.bl (!decide (i=j))):=⟨_,B5,λ_ v w H Q _ d1 d2 k=>by
 cases d1
 cases d2
 exact⟨rfl,by rw[show decide (V.int i=V.int j)=decide (i=j) by simp]; exact k _ H .(102) .bl⟩⟩
theorem l4 (h:PE X a (dE X.K C τ (.d (.int i)))):PE X (.UnaryOp .USub a pos) (dE X.K C τ (.d (.int (-i)))):=peW (F3 CH h) λσ H Q q=>by
 obtain⟨A,H₀,B,S,k⟩:=dj q;refine aU S λv H1 e1 d1=>?_
 cases d1
 exact⟨i,rfl,k _ H1 e1 .int⟩
theorem zB :PE X e λ_ _ _=>False:=λ_ _ _ _ _ _ h=>h.elim
theorem pw_no :PW X e λ_ _ _=>False:=λ_ _ _ _ _ _ _ h=>h.elim
variable {p q:Bool}{c:Expr}{rest:List Expr}
theorem mj (h:PE X a (dE X.K C τ s)):PE X (.BoolOp op [a] pos) (dE X.K C τ s):=Cf h
theorem km (ha:PE X a (dE X.K C τ (.d (.bl p))))(hb:p=true->PE X (.BoolOp .And (b::rest) pos) (dE X.K C τ (.d (.bl q)))):PE X (.BoolOp .And (a::b::rest) pos) (dE X.K C τ (.d (.bl (p&&q)))):=by
 cases p with
 | false=>
   refine peW (yr ha zB) λσ H Q z=>?_
   obtain⟨A,H₀,B,S,k⟩:=dj z;exact aU S λv H' e d=>by cases d; exact⟨_,rfl,k _ H' e .bl⟩
 | true=>
   refine peW (yr ha (hb rfl)) λσ H Q z=>?_
   obtain⟨A,H₀,B,S,k⟩:=dj z;exact aU S λv H' e d=>by cases d; exact⟨_,rfl,aU (S.mono e) λv H2 e2 d2=>k v H2 (e.trans e2) d2⟩
theorem BG (ha:PE X a (dE X.K C τ (.d (.bl p)))):PE X (.UnaryOp .Not a pos) (dE X.K C τ (.d (.bl (!p)))):=peW (DV ha) λσ H Q z=>by
 obtain⟨A,H₀,B,S,k⟩:=dj z;exact aU S λv H' e d=>by cases d; exact⟨_,rfl,k _ H' e .bl⟩
theorem jr (ha:PT X a (dT X.K τ p)):PW X (.BoolOp .Or [a] pos) (dT X.K τ p):=pw_or1 ha
theorem iN (ha:PT X a (dT X.K τ p))(hb:p=false->PW X (.BoolOp .Or (b::rest) pos) (dT X.K τ q)):PW X (.BoolOp .Or (a::b::rest) pos) (dT X.K τ (p||q)):=by
 cases p with
 | true=>exact pwW (pw_or ha pw_no) λσ H Q ⟨A,H₀,B,S,k⟩=>⟨A,H₀,B,S,λH' e=>rE (k H' e)⟩
 | false=>exact pwW (pw_or ha (hb rfl)) λσ H Q ⟨A,H₀,B,S,k⟩=>⟨A,H₀,B,S,λH' e=>rO (⟨A,H₀,B,S.mono e,λH2 e2=>k H2 (e.trans e2)⟩)⟩
theorem cO (ha:PT X a (dT X.K τ p)):PT X (.UnaryOp .Not a pos) (dT X.K τ (!p)):=ptW (Dp ha) λσ H Q ⟨A,H₀,B,S,k⟩=>⟨A,H₀,B,S,λH' e=>k H' e⟩
theorem xC (hc:PT X c (dT X.K τ p))(ha:p=true->PE X a (dE X.K C τ s))(hb:p=false->PE X b (dE X.K C τ s)):PE X (.IfExp c a b pos) (dE X.K C τ s):=by
 have fin:∀{σ H H' Q} {A:Addr->Prop} {H₀ B},Sta X.K A H₀ τ B σ H->(∀v H' bs,ao H H'->Fr H H' bs->cE X.K (hd H' λb=>vw C A B b\/b∈bs) H' (some v) bs s->Q v H')->ao H H'->dE X.K C τ s σ H' Q:=λS k e=>
   ⟨_,_,_,S.mono e,λv H2 bs e2 hf h=>k v H2 bs (e.trans e2) (λb hb=>⟨e.free (hf b hb).1,(hf b hb).2⟩) h⟩
 cases p with
 | true=>exact peW (qK hc (ha rfl) zB) λσ H Q ⟨A,H₀,B,S,k⟩=>⟨A,H₀,B,S,λH' e=>rE (fin S k e)⟩
 | false=>exact peW (qK hc zB (hb rfl)) λσ H Q ⟨A,H₀,B,S,k⟩=>⟨A,H₀,B,S,λH' e=>rO (fin S k e)⟩
theorem ud {op op':CmpOp}(ha:PE X a .(126))(hb:PE X b (dE X.K C τ (.d y)))(hc:PE X c (dE X.K C τ (.d z)))(h1:cF X (Gc op) x y (.bl p))(h2:cF X (Gc op') y z (.bl q))
   (hm:lastMarks [op,op'] [b,c]=false:=by with_unfolding_all rfl):PE X (.Compare a [op,op'] [b,c] pos) (dE X.K C τ (.d (.bl (p&&q))))/\(C=false->PT X (.Compare a [op,op'] [b,c] pos) (dT X.K τ (p&&q))):=by
 obtain⟨r,o1,k1⟩:=h1;obtain⟨r',o2,k2⟩:=h2
 have key:∀σ H Q,dE X.K C τ (.d (.bl (p&&q))) σ H Q->rV r r' .(126) (dE X.K C τ (.d y)) (dE X.K C τ (.d z)) σ H Q:=λσ H Q h=>by
   obtain⟨A,H₀,B,S,k⟩:=dj h;refine aU S λv H1 e1 d1=>aU (S.mono e1) λw H2 e2 d2=>k1 (vw C A B) v w H2 _ ((S.mono e1).mono e2).vd (d1.mono (aC e2 λ_ z=>z)) d2 λu H3 e3 d3=>?_
   cases d3
   refine⟨p,rfl,?_⟩;cases p with
   | false=>exact rO (k _ H3 (e1.trans (e2.trans e3)) .bl)
   | true=>exact rE (aU (((S.mono e1).mono e2).mono e3) λw' H4 e4 d4=>k2 (vw C A B) w w' H4 Q ((((S.mono e1).mono e2).mono e3).mono e4).vd (d2.mono (aC (e3.trans e4) λ_ z=>z)) d4 λu H5 e5 d5=>k u H5 (e1.trans (e2.trans (e3.trans (e4.trans e5)))) d5)
 exact⟨peW (yw o1 o2 ha hb hc hm) key,λhC=>by subst hC; exact ptW (zC o1 o2 ha hb hc hm) (x6 key)⟩
theorem ag:PA X [] (dA X.K C τ []):=paW cB λσ H Q ⟨A,H₀,B,S,k⟩=>k [] H .(102) .nil
theorem ae {ds:List D}(ha:PE X e .(126))(hr:PA X es (dA X.K C τ ds))(hs:Do (e::es) X.env=.(117)::Do es X.env:=by rfl):PA X (e::es) (dA X.K C τ (x::ds)):=paW (bj ha hr hs) λσ H Q ⟨A,H₀,B,S,k⟩=>
 aU S λv H1 e1 d1=>eQ (S.mono e1) λvs H2 e2 d2=>k _ H2 (e1.trans e2) (.cons (d1.mono (aC e2 λ_ z=>z)) d2)
theorem bI {ds:List D}{m}(h:PA X es (dA X.K C τ ds))(hl:Nat.ble ds.length 1000=true:=by rfl):PE X (.Tuple es m pos) (dE X.K C τ (.d (.tup ds))):=peW (k7 h) λσ H Q q=>by
 obtain⟨A,H₀,B,S,k⟩:=dj q;refine eQ S λvs H1 e1 d1=>⟨by rw[d1.length]; exact Jp (jO (LF hl)),λp hp=>k _ _ (e1.trans (aq hp _)) ?_⟩
 exact .tup (SqT.of (lV (S.mono e1).vd hp)) (d1.mono (aC (aq hp _) λ_ z=>z))
theorem cM {ds:List D}(h:PA X es (dA X.K C τ ds))(hl:Nat.ble ds.length 1000=true:=by rfl):PE X (.List es pos) (dE X.K C τ (.o ds)):=peW (EG h) λσ H Q ⟨A,H₀,B,S,k⟩=>
 eQ S λvs H1 e1 d1=>⟨by rw[d1.length]; exact Jp (jO (LF hl)),λp hp=>k _ _ [p] (e1.trans (aq hp _)) (λb hb=>by
   obtain rfl:=gV.mp hb
   exact⟨e1.free hp,_,aK⟩) ⟨p,vs,rfl,rfl,aK,d1.mono λb o z=>by
     obtain⟨z1,z2⟩:=au.mp z;refine au.mpr ⟨λy=>?_,aq hp _ _ _ z2⟩;rcases y with y | y
     . exact z1 y
     . rw[gV.mp y]at z2; rw[hp]at z2; cases z2⟩⟩
end
def spD (K:fw)(Φ:List D->Sl->Prop):Sp:=λvs H Q _=>∃A ds s,(∀b,A b->∃o,H b=some o)/\av K (hd H A) vs ds/\Φ ds s /\
 ∀v H' bs,ao H H'->Fr H H' bs->cE K (hd H' λb=>A b\/b∈bs) H' (some v) bs s->Q v H'
def Cal (P:FB)(w:World)(K:fw)(mg:Str->Option Value)(base:Heap)(k:Nat)(n:Str)(Φ:List D->Sl->Prop):Prop:=
 ∃f fd ps,a8 P w K mg base CX0 k f fd ps (spD K Φ)/\mg n=some (.ref f)/\JL K (.ref f)=true/\Binds K fd ps []
theorem Cal.mono {P:FB}{w:World}{K:fw}{mg:Str->Option Value}{Φ:List D->Sl->Prop}(c:Cal P w K mg base j n Φ)(h:j<=k):Cal P w K mg base k n Φ:=
 let ⟨f,fd,ps,F,r⟩:=c; ⟨f,fd,ps,F.mono h,r⟩
noncomputable def aD:List Str:=["len","abs","max","min","int","bool","list","tuple","str","isinstance","range","enumerate","all","zip","sorted","sum","any","reversed"]
structure Bk (X:Cx)(k:Nat):Prop where
 room:gq k X.A
 calm:X.calm=true
 blt:∀x∈aD,X.mg x=none
 po:PassesOwn .(100) X.A X.env X.xe
section
variable {X:Cx}{C:Bool}{τ:List Sl}{x y z:D}{a b e:Expr}{es:List Expr}{pos p:Pos}{k:Nat}{s:Sl}{ds:List D}{i j:Int}
theorem x_call {n:Str}{Φ:List D->Sl->Prop}(B:Bk X k)(c:Cal X.prog X.w X.K X.mg X.base k n Φ)(ha:PA X (e::es) (dA X.K C τ ds))(h:Φ ds s)(hg:Gl X n:=by rfl)(hdb:(n==("__debug__" : Str))=false:=by decide)
   (he:Do (e::es) X.env=.(117)::Do es X.env:=by rfl) (hpl:(M5 pos (Do es X.env)).any (·.1)=false:=by rfl):PE X (.Call .(106) (e::es) [] pos) (dE X.K C τ s):=by
 obtain⟨f,fd,ps,F,hm,hk,hb⟩:=c;refine peW (vC F B.room hg hm hk hb .nil BI ha hdb he hpl) λσ H Q ⟨A,H₀,B,S,q⟩=>eQ S λvs H1 e1 d1=>?_
 rw[Io];exact⟨vw C A B,ds,s,(S.mono e1).vd,d1,h,λv H' bs e2 hf h2=>q v H' bs (e1.trans e2) (λb hb=>⟨e1.free (hf b hb).1,(hf b hb).2⟩) h2⟩
def gw (X:Cx)(f:Value)(ds:List D)(s:Sl):Prop:=∃r:List V->Hp->VK->Prop,fG X f r /\
 ∀(M:Addr->Prop) (vs:List V) (H:Hp) (Q:VK),(∀b,M b->∃o,H b=some o)->av X.K (hd H M) vs ds->(∀u H' bs,ao H H'->Fr H H' bs->cE X.K (hd H' λb=>M b\/b∈bs) H' (some u) bs s->Q u H')->r vs H Q
theorem xA (hr:∀(M:Addr->Prop) (vs:List V) (H:Hp) (Q:VK),(∀b,M b->∃o,H b=some o)->av X.K (hd H M) vs ds->(∀u H' bs,ao H H'->Fr H H' bs->cE X.K (hd H' λb=>M b\/b∈bs) H' (some u) bs s->Q u H')->r vs H Q):
   ∀σ H Q,dE X.K C τ s σ H Q->tCB r (dA X.K C τ ds) σ H Q:=λσ H Q ⟨A,H₀,B,S,q⟩=>
 eQ S λvs H1 e1 d1=>hr (vw C A B) vs H1 Q (S.mono e1).vd d1 λv H' bs e2 hf h2=>q v H' bs (e1.trans e2) (λb hb=>⟨e1.free (hf b hb).1,(hf b hb).2⟩) h2
theorem bh {n:Str}{id:String}(B:Bk X k)(ha:PA X (e::es) (dA X.K C τ ds))(c:gw X (.builtin id) ds s)(hn:n∈aD:=by decide)(hg:Gl X n:=by rfl)(hv:MY n=some (.builtin id):=by decide +kernel)(h1:n ≠ "__name__":=by decide)(hdb:(n==("__debug__" : Str))=false:=by decide)
   (he:Do (e::es) X.env=.(117)::Do es X.env:=by rfl) (hpl:(M5 pos (Do es X.env)).any (·.1)=false:=by rfl):PE X (.Call .(106) (e::es) [] pos) (dE X.K C τ s):=by
 obtain⟨r,h1,h2⟩:=c;exact peW (qZ h1 hg (B.blt _ hn) hv ha (by assumption) hdb he hpl) (xA h2)
theorem rF {n:Str}{T:String}(B:Bk X k)(ha:PA X (e::es) (dA X.K C τ ds))(c:gw X (.type T) ds s)(hn:n∈aD:=by decide)(hg:Gl X n:=by rfl)(hv:MY n=some (.type T):=by decide +kernel)(h1:n ≠ "__name__":=by decide)(hdb:(n==("__debug__" : Str))=false:=by decide)
   (he:Do (e::es) X.env=.(117)::Do es X.env:=by rfl) (hpl:(M5 pos (Do es X.env)).any (·.1)=false:=by rfl):PE X (.Call .(106) (e::es) [] pos) (dE X.K C τ s):=by
 obtain⟨r,h1,h2⟩:=c;exact peW (nR h1 hg (B.blt _ hn) hv ha (by assumption) hdb he hpl) (xA h2)
theorem jC {K:fw}{M:Addr->Prop}(h:Den K (hd H M) v x):cE K (hd H λb=>M b\/b∈([]:List Addr)) H (some v) [] (.d x):=⟨rfl,v,rfl,h.mono (aC .(102) λ_ z=>z.elim id λz=>nomatch z)⟩
theorem e8 :Fr H H' []:=λ_ z=>nomatch z
theorem gy :gw X (.builtin "len") [.lst xs] (.d (.int xs.length)):=⟨_,jF,λM vs H Q _ d q=>by
 cases d with
 | cons d r=>
   cases r
   cases d with
   | lst h r=>
     refine⟨_,_,rfl,.inl (aR aS h),?_⟩;rw[r.length];exact q _ H [] .(102) e8 (jC .int)⟩
theorem fX :gw X (.builtin "len") [.tup xs] (.d (.int xs.length)):=⟨_,jF,λM vs H Q _ d q=>by
 cases d with
 | cons d r=>
   cases r
   cases d with
   | tup h r=>
     refine⟨_,_,rfl,.inr (aY aS h),?_⟩;rw[r.length];exact q _ H [] .(102) e8 (jC .int)⟩
noncomputable def zO (i:Int):Int:=if i<0 then -i else i
theorem rh:gw X (.builtin "abs") [.int i] (.d (.int (zO i))):=⟨_,xF,λM vs H Q _ d q=>by
 cases d with
 | cons d r=>
   cases r
   cases d
   exact⟨_,rfl,q _ H [] .(102) e8 (jC .int)⟩⟩
theorem BC (hc:X.calm=true):gw X (.builtin "max") [.int i,.int j] (.d (.int (if j>i then j else i))):=⟨_,wF hc,λM vs H Q _ d q=>by
 cases d with
 | cons d r=>
   cases r with
   | cons d' r=>
     cases r
     cases d
     cases d'
     exact⟨_,_,rfl,q _ H [] .(102) e8 (jC .int)⟩⟩
theorem Fu (hc:X.calm=true):gw X (.builtin "min") [.int i,.int j] (.d (.int (if j<i then j else i))):=⟨_,wK hc,λM vs H Q _ d q=>by
 cases d with
 | cons d r=>
   cases r with
   | cons d' r=>
     cases r
     cases d
     cases d'
     exact⟨_,_,rfl,q _ H [] .(102) e8 (jC .int)⟩⟩
theorem B1 :gw X (.type "int") [.bl c] (.d (.int (if c then 1 else 0))):=⟨_,wx,λM vs H Q _ d q=>by
 cases d with
 | cons d r=>
   cases r
   cases d
   exact .inr ⟨_,rfl,q _ H [] .(102) e8 (jC .int)⟩⟩
theorem jX {K:fw}{H:Hp}{M:Addr->Prop}{p:Addr}{vs:List V}{xs:List D}(hp:H p=none)(d:av K (hd H M) vs xs):
   ao H (upd H p (.lst vs))/\Fr H (upd H p (.lst vs)) [p]/\cE K (hd (upd H p (.lst vs)) λb=>M b\/b∈[p]) (upd H p (.lst vs)) (some (.ref p)) [p] (.o xs):=
 ⟨aq hp _,λb hb=>by
   obtain rfl:=gV.mp hb
   exact⟨hp,_,aK⟩,p,vs,rfl,rfl,aK,d.mono λb o z=>by
     obtain⟨z1,z2⟩:=au.mp z;refine au.mpr ⟨λy=>?_,aq hp _ _ _ z2⟩;rcases y with y | y
     . exact z1 y
     . rw[gV.mp y]at z2; rw[hp]at z2; cases z2⟩
theorem sQ :gw X (.type "list") [.lst xs] (.o xs):=⟨_,je,λM vs H Q _ d q=>by
 cases d with
 | cons d r=>
   cases r
   cases d with
   | lst h r=>
     refine⟨_,_,rfl,.inl (aR aS h),λp hp=>?_⟩;obtain⟨z1,z2,z3⟩:=jX (K:=X.K) (M:=M) hp r;exact q _ _ [p] z1 z2 z3⟩
theorem oG :gw X (.type "list") [.tup xs] (.o xs):=⟨_,je,λM vs H Q _ d q=>by
 cases d with
 | cons d r=>
   cases r
   cases d with
   | tup h r=>
     refine⟨_,_,rfl,.inr (aY aS h),λp hp=>?_⟩;obtain⟨z1,z2,z3⟩:=jX (K:=X.K) (M:=M) hp r;exact q _ _ [p] z1 z2 z3⟩
theorem tN {K:fw}{vs:List V}{ds:List D}{d:D}(r:av K H vs ds)(h:atI ds i=some d):∃v,atI vs i=some v/\Den K H v d:=by
 unfold atI at h ⊢;rw[r.length];cases e:ixN ds.length i with
 | none=>rw[e]at h; cases h
 | some j=>rw[e]at h; exact r.get h
def A1 (X:Cx)(x y z:D):Prop:=∃r:R2,IxR X r /\
 ∀(M:Addr->Prop) (v w:V) (H:Hp) (Q:VK),(∀b,M b->∃o,H b=some o)->Den X.K (hd H M) v x->Den X.K (hd H M) w y->(∀u H',ao H H'->Den X.K (hd H' M) u z->Q u H')->r v w H Q
theorem aM (ha:PE X a .(126))(hb:PE X b (dE X.K C τ (.d y)))(ho:A1 X x y z)(hs:du b:=by exact λ_ _=>rfl):PE X (.Subscript a b pos) (dE X.K C τ (.d z)):=by
 obtain⟨r,h1,h2⟩:=ho;exact peW (uo h1 ha hb hs) (two h2)
theorem a6 (h:atI xs i=some z):A1 X (.lst xs) (.int i) z:=⟨_,kK,λM v w H Q _ d1 d2 q=>by
 cases d2
 cases d1 with
 | lst hs r=>
   obtain⟨v,e,d⟩:=tN r h;exact⟨_,_,_,_,rfl,rfl,aR aS hs,e,q _ H .(102) d⟩⟩
theorem aQ (h:atI xs i=some z):A1 X (.tup xs) (.int i) z:=⟨_,D8,λM v w H Q _ d1 d2 q=>by
 cases d2
 cases d1 with
 | tup hs r=>
   obtain⟨v,e,d⟩:=tN r h;exact⟨_,_,_,_,rfl,rfl,aY aS hs,e,q _ H .(102) d⟩⟩
theorem fj (n:Nat){nm:Str}{xs:List D}(hb:PE X b (dE X.K false τ (.d (.int i))))(hz:atI xs i=some z)(h:τ[n]?=some (.o xs):=by rfl)(hs:du b:=by exact λ_ _=>rfl)(hN:X.N[n]?=some nm:=by rfl)
   (hv:Vis X.env.scope nm:=by first | exact JM rfl | exact IH .(9) | exact IH .(8)) (hd:(nm==("__debug__" : Str))=false:=by decide) (hcd:(nm==("__classdict__" : Str))=false:=by decide):PE X (.Subscript (.Name nm p) b pos) (dE X.K C τ (.d z)):=
 peW (uo kK (bo (i:=n) hN hv hd hcd) hb hs) λσ H Q q=>by
   obtain⟨A,H₀,B,S,k⟩:=dj q;obtain⟨l,vs,hb,e1,e2,d⟩:=S.sl n _ h;refine⟨_,slot_of e1,aU S λw H1 e3 d1=>?_⟩;cases d1
   obtain⟨v,e4,d4⟩:=tN d hz;exact⟨l,vs,i,v,rfl,rfl,SqL.of (e3 _ _ e2),e4,k v H1 e3 (d4.mono (aC e3 λ_ z=>iX z))⟩
def dO (K:fw)(τ:List Sl)(c:Option Int):TO:=λσ H Q=>∃A H₀ B,Sta K A H₀ τ B σ H/\∀H',ao H H'->Q c H'
theorem FD {e:Option Expr}{t t':TO}(h:PO X e t)(f:∀σ H Q,t' σ H Q->t σ H Q):PO X e t':=λpins s σ H Q I q=>h pins s σ H Q I (f σ H Q q)
theorem j5:PO X none (dO X.K τ none):=FD AW λσ H Q ⟨A,H₀,B,S,k⟩=>k H .(102)
theorem i5 (h:PE X e (dE X.K false τ (.d (.int i)))):PO X (some e) (dO X.K τ (some i)):=FD (Bg h) λσ H Q ⟨A,H₀,B,S,k⟩=>aU S λv H1 e1 d1=>by
 cases d1
 exact⟨_,rfl,k H1 e1⟩
noncomputable def cutD (xs:List D)(lo hi:Option Int):List D:=(xs.drop (HT.sIx xs.length 0 lo)).take (HT.sIx xs.length xs.length hi-HT.sIx xs.length 0 lo)
theorem GI {lo hi:Option Expr}{l u:Option Int}{xs:List D}(ha:PE X a (dE X.K C τ (.d (.lst xs))))(hl:PO X lo (dO X.K τ l))(hu:PO X hi (dO X.K τ u)):PE X (.Subscript a (.Slice lo hi none p2) pos) (dE X.K C τ (.o (cutD xs l u))):=
 peW (qX Aj ha hl hu) λσ H Q ⟨A,H₀,B,S,k⟩=>aU S λv H1 e1 d1=>⟨A,H₀,B,S.mono e1,λH2 e2=>⟨A,H₀,B,(S.mono e1).mono e2,λH3 e3=>by
   cases d1 with
   | @lst _ ws _ h r=>
     have h:=aR (e2.trans e3) (aR aS h);refine⟨_,_,rfl,h,λp hp=>?_⟩;have r:=r.mono (aC (e2.trans e3) λ_ z=>z)
     have r':av X.K (hd H3 (vw C A B)) (lp ws l u) (cutD xs l u):=by
       unfold lp cutD;rw[r.length];exact(r.drop _).take _
     obtain⟨z1,z2,z3⟩:=jX (K:=X.K) hp r';exact k _ _ [p] (e1.trans (e2.trans (e3.trans z1))) (λb hb=>⟨(e1.trans (e2.trans e3)).free (z2 b hb).1,(z2 b hb).2⟩) z3⟩⟩
inductive Ty where
 | int | bool | str | list | tuple
noncomputable def tyN:Ty->String
 | .int=>"int" | .bool=>"bool" | .str=>"str" | .list=>"list" | .tuple=>"tuple"
noncomputable def Gv:D->String
 | .non=>"NoneType" | .bl _=>"bool" | .int _=>"int" | .str _=>"str" | .tup _=>"tuple" | .lst _=>"list" | .box _=>"dict"
noncomputable def mT:Ty->D->Bool
 | .int,.int _=>true
 | .int,.bl _=>true
 | .bool,.bl _=>true
 | .str,.str _=>true
 | .list,.lst _=>true
 | .tuple,.tup _=>true
 | _,_=>false
theorem Cd (K:fw)(d:D)(t:Ty):PySem.W.kitOne K (.type (Gv d)) (.type (tyN t))=some (mT t d):=by
 cases d <;> cases t <;> (show PySem.W.kitOne K (.type _) (.type _)=some _) <;> with_unfolding_all rfl
theorem CJ (t:Ty):fG X (.builtin "isinstance") (λxs H Q=>∃G x d,ao G H/\xs=[x,.ty (tyN t)]/\Den X.K G x d/\Q (.bl (mT t d)) H):=by
 intro pins s σ H xs us Q I r q;obtain⟨G,x,d,sg,rfl,dx,q⟩:=q
 obtain⟨u,w,rfl,rx,rt⟩:∃u w,us=[u,w]/\RelV x u/\RelV (.ty (tyN t)) w:=by
   cases r with
   | cons r1 r=>cases r with
     | cons r2 r=>cases r; exact⟨_,_,rfl,r1,r2⟩
 cases (show w=Lp (tyN t) from rt)
 have kt:=Cd X.K d t;have fin:∀tk,EP X pins σ Q (.bool (mT t d)) { s with toks:=tk }:=λtk=>⟨.bl _,H,I.tok _,rfl,q⟩
 cases dx with
 | non=>cases (show u=Jb from rx); exact JP PySem.W.kitx_none I.kIn JG kt (λz=>nomatch z) fin
 | bl=>cases (show u=Jj _ from rx); exact JP PySem.W.kitx_bool I.kIn JG kt (λz=>nomatch z) fin
 | int=>obtain⟨t',z⟩:=(show ∃t,u=MQ _ t from rx); cases z; exact JP PySem.W.kitx_int I.kIn JG kt (λz=>nomatch z) fin
 | str=>obtain⟨t',z⟩:=(show ∃t,u=MP _ t from rx); cases z; exact JP PySem.W.kitx_str I.kIn JG kt (λz=>nomatch z) fin
 | tup h r1=>
   cases (show u=Ip _ from rx)
   obtain⟨its,_,⟨o,h1,h2,_⟩,_⟩:=I.tuple (aY sg h);exact JP PySem.W.kitx_tuple I.kIn ⟨o,h1,h2⟩ kt (λz=>nomatch z) fin
 | lst h r1=>
   cases (show u=Ip _ from rx)
   obtain⟨its,_,⟨o,n,h1,h2,_⟩,_⟩:=I.list (aR sg h);exact JP PySem.W.kitx_list I.kIn ⟨o,h1,h2⟩ kt (λz=>nomatch z) fin
 | @box a x h=>
   cases (show u=Ip _ from rx)
   obtain⟨o',h1,h2⟩:=x.isd h;obtain⟨o,h3,h4⟩:=h2 _ _ _ _ (I.hok a _ (sg _ _ h1));exact JP PySem.W.kitx_dict I.kIn ⟨o,h3,h4⟩ kt (λz=>nomatch z) fin
theorem fE {n:Str}{q:Pos}(t:Ty)(B:Bk X k)(ha:PE X a (dE X.K false τ (.d x)))(hn:n∈aD:=by decide)(ht:MY n=some (.type (tyN t)):=by decide +kernel)(hg:Gl X "isinstance":=by rfl)(hg':Gl X n:=by rfl)(h1:n ≠ "__name__":=by decide)(hdb:(n==("__debug__" : Str))=false:=by decide)
   (he:Do [a,.Name n q] X.env=.(118)::Do [.Name n q] X.env:=by rfl) (hpl:(M5 pos (Do [.Name n q] X.env)).any (·.1)=false:=by rfl):PE X (.Call (.Name "isinstance" p) [a,.Name n q] [] pos) (dE X.K C τ (.d (.bl (mT t x)))):=by
 refine peW (qZ (CJ t) hg (B.blt _ .(2)) .(22) (bj ha (bj (A7 (v:=.ty (tyN t)) hg' (B.blt _ hn) ht rfl h1 hdb) cB) he) .(2) .(2) he hpl) λσ H Q q=>?_
 obtain⟨A,H₀,B,S,k⟩:=dj q;exact aU S λv H1 e1 d1=>⟨_,v,x,aS,rfl,d1,k _ H1 e1 .bl⟩
end
section
variable {K:fw}{A:Addr->Prop}{H₀ H:Hp}{τ:List Sl}{B:Nat->List Addr}{σ:L2.St}
theorem Sta.put (S:Sta K A H₀ τ B σ H)(hi:τ[i]?=some (.o xs))(hB:B i=[a])(d:av K (hd H (own A B)) vs ys):Sta K A H₀ (τ.set i (.o ys)) B σ (upd H a (.lst vs)):=by
 have ha:own A B a:=.inr ⟨i,by rw[hB]; exact gV.mpr rfl⟩;have ne:∀b,b≠a->upd H a (.lst vs) b=H b:=λb h=>aE h
 have sm:ao (hd H (own A B)) (hd (upd H a (.lst vs)) (own A B)):=λb o z=>by
   obtain⟨z1,z2⟩:=au.mp z;exact au.mpr ⟨z1,by rw[ne b (λe=>z1 (e▸ha))]; exact z2⟩
 have f0:H₀ a=none:=S.fr i a (by rw[hB]; exact gV.mpr rfl);have hs:ao H₀ (upd H a (.lst vs)):=λb o z=>by rw[ne b (λe=>by rw[e,f0]at z; cases z)]; exact S.same b o z
 refine⟨hs,by rw[HV,S.len],λj t hj=>?_,S.fr,S.uq,S.ad,λj b hb=>?_⟩
 . by_cases ej:j=i
   . subst ej;have hl:=(rp.mp hi).1;rw[Ic hl]at hj;cases hj
     obtain⟨a',vs',e1,e2,_,_⟩:=S.sl j _ hi;rw[hB]at e1;cases e1
     exact⟨a,vs,hB,e2,aK,d.mono sm⟩
   . rw[HI (λz=>ej z.symm)]at hj;have q:=S.sl j t hj;have off:∀b∈B j,b≠a:=λb hb e=>ej (S.uq j i a (e▸hb) (by rw[hB]; exact gV.mpr rfl))
     cases t with
     | un=>exact q
     | d x=>obtain⟨z,u,e,d⟩:=q; exact⟨z,u,e,d.mono sm⟩
     | o zs=>
       obtain⟨c,ws,z1,z2,z3,z4⟩:=q;exact⟨c,ws,z1,z2,by rw[ne c (off c (by rw[z1]; exact gV.mpr rfl))]; exact z3,z4.mono sm⟩
     | n t=>
       obtain⟨z0,u,z1,z2⟩:=q;exact⟨z0,u,z1,z2.frame sm λb hb=>ne b (off b hb)⟩
     | x E=>
       obtain⟨c,o,z1,z2,z3,z4⟩:=q;exact⟨c,o,z1,z2,by rw[ne c (off c (by rw[z1]; exact gV.mpr rfl))]; exact z3,E.mono sm z4⟩
 . by_cases e:b=a
   . subst e; exact⟨_,aK⟩
   . rw[ne b e]; exact S.bd j b hb
theorem Sta.fz (S:Sta K A H₀ τ B σ H)(hi:τ[i]?=some s)(hx:fzD s=some x):Sta K A H₀ (τ.set i (.d x)) (upB B i []) σ H:=
 S.less (λ_ z=>nomatch z) λG g hv=>by
   obtain⟨u,e,d⟩:=(S.sl i s hi).den (G':=G) g (λb hb o ho=>hv b o hb (λz=>nomatch z) ho) hx;exact⟨rfl,u,e,d⟩
end
section
variable {X:Cx}{τ:List Sl}{x z:D}{b e c:Expr}{pos p:Pos}{s:Sl}{ds:List D}{N:Po}{st:Stmt}{rest body els:List Stmt}
theorem aV (h:N.nx τ):PSs X [] .(114):=gQ jm λD σ H ⟨A,H₀,B,S,M⟩=>M.nx τ B σ H h S
theorem bw (h1:PS X st (dS X.K τ { N with nx:=M }))(h2:∀τ',M τ'->PSs X rest (dS X.K τ' N)):PSs X (st::rest) .(114):=by
 have h:PSs X rest λD σ H=>∃τ',M τ'/\dS X.K τ' N D σ H:=λpins s σ H D I ⟨τ',m,q⟩=>h2 τ' m pins s σ H D I q
 exact gQ (dJ h1 h) λD σ H ⟨A,H₀,B,S,Me⟩=>⟨A,H₀,B,S,λτ' B' σ' H' m S'=>⟨τ',m,A,H₀,B',S',Me⟩,Me.bk,Me.ct,Me.rt,Me.xc⟩
theorem kz (i:Nat){s:Sl}{x:D}(h:PSs X rest (dS X.K (τ.set i (.d x)) N))(hi:τ[i]?=some s:=by rfl)(hx:fzD s=some x:=by rfl):PSs X rest .(114):=gQ h λD σ H ⟨A,H₀,B,S,Me⟩=>⟨A,H₀,_,S.fz hi hx,Me⟩
theorem aN (i:Nat){n:Str}{p:Pos}(hN:X.N.Nodup)(he:PE X e (dE X.K true τ s))(hr:PSs X rest (dS X.K (τ.set i s) N))(hi:X.N[i]?=some n:=by rfl)(hx:Loc X.env.scope n:=by first | exact .inl rfl | exact .inr rfl)(hs:M7 e (some (.Name n p)) pos.line X.env=pure false:=by rfl)
   (hf:X.fn n=true\/X.env.scope.names.lookup n=some .local:=by first | exact .inl rfl | exact .inr rfl | assumption):PSs X (.Assign [.Name n p] e pos::rest) (dS X.K τ N):=
 bw (M:=(·=τ.set i s)) (psW (yD hN hi hx he hs hf) λD σ H ⟨A,H₀,B,S,Me⟩=>⟨A,H₀,B,S,λv H' bs e hf h=>Me.nx _ _ _ _ rfl (S.set e hf h)⟩) λ_ e=>e▸hr
theorem CQ (he:PE X e (dE X.K true τ s))(hr:PSs X rest .(114))(hs:M7 e none pos.line X.env=pure false:=by rfl):PSs X (.Expr e pos::rest) .(114):=
 bw (M:=(·=τ)) (psW (eA he hs) λD σ H ⟨A,H₀,B,S,Me⟩=>⟨A,H₀,B,S,λv H' bs e hf h=>Me.nx _ _ _ _ rfl (S.mono e)⟩) λ_ e=>e▸hr
theorem aW (he:PE X e (dE X.K false τ s))(h:N.rt s):PSs X (.Return (some e) pos::rest) .(114):=
 bw (M:=λ_=>False) (psW (lE he) λD σ H ⟨A,H₀,B,S,Me⟩=>⟨A,H₀,B,S,λv H' bs e hf q=>Me.rt v H' bs s h (S.same.trans e) (λb hb=>⟨S.same.free (hf b hb).1,(hf b hb).2⟩) q⟩) λ_ e=>e.elim
theorem px (i:Nat){n:Str}(h:N.rt s)(hi:τ[i]?=some s:=by rfl)(h0:s≠.un:=by exact nofun)(hN:X.N[i]?=some n:=by rfl)(hv:Vis X.env.scope n:=by first | exact JM rfl | exact IH .(9) | exact IH .(8))
   (hd:(n==("__debug__" : Str))=false:=by decide) (hcd:(n==("__classdict__" : Str))=false:=by decide):PSs X (.Return (some .(106)) pos::rest) .(114):=
 bw (M:=λ_=>False) (psW (lE (bo hN hv hd hcd)) λD σ H ⟨A,H₀,B,S,Me⟩=>by
   have q:=S.sl i s hi
   obtain⟨u,e⟩:∃u,(σ[i]?).join=some u:=by
     cases s with
     | un=>exact absurd rfl h0
     | d x=>obtain⟨_,u,e,_⟩:=q; exact⟨u,e⟩
     | o xs=>obtain⟨_,_,_,e,_⟩:=q; exact⟨_,e⟩
     | n t=>obtain⟨_,u,e,_⟩:=q; exact⟨u,e⟩
     | x E=>obtain⟨_,_,_,e,_⟩:=q; exact⟨_,e⟩
   rw[e]at q;exact⟨u,slot_of e,Me.rt u H (B i) s h S.same (λb hb=>⟨S.fr i b hb,S.bd i b hb⟩) (q.mono (aC .(102) λb z=>z.elim .inl λz=>.inr ⟨i,z⟩) .(102))⟩) λ_ e=>e.elim
theorem B7 {σ:L2.St}{D:Ends}{A:Addr->Prop}{B:Nat->List Addr}(S:Sta X.K A H₀ τ B σ H)(Me:Meets X.K A H₀ N D)(e:ao H H'):dS X.K τ N D σ H':=⟨A,H₀,B,S.mono e,Me⟩
theorem GG (hc:PT X c (dT X.K τ t))(ha:t=true->PSs X body .(114))(hb:t=false->PSs X els .(114)):PS X (.If c body els pos) .(114):=by
 cases t with
 | true=>exact psW (ny hc (ha rfl) cC) λD σ H ⟨A,H₀,B,S,Me⟩=>⟨A,H₀,B,S,λH' e=>rE (B7 S Me e)⟩
 | false=>exact psW (ny hc cC (hb rfl)) λD σ H ⟨A,H₀,B,S,Me⟩=>⟨A,H₀,B,S,λH' e=>rO (B7 S Me e)⟩
theorem i8 (hc:PT X c (dT X.K τ t))(ha:t=true->PSs X body (dS X.K τ { N with nx:=M }))(hb:t=false->PSs X els (dS X.K τ { N with nx:=M }))(hr:∀τ',M τ'->PSs X rest (dS X.K τ' N)):PSs X (.If c body els pos::rest) .(114):=
 bw (GG hc ha hb) hr
theorem dW (hc:PT X c (dT X.K τ t))(ha:t=true->PSs X body (dS X.K τ { N with nx:=λ_=>False }))(hr:t=false->PSs X rest .(114)):PSs X (.If c body [] pos::rest) .(114):=by
 cases t with
 | true=>exact i8 (M:=λ_=>False) hc ha (λz=>nomatch z) λ_ z=>z.elim
 | false=>exact i8 (M:=(·=τ)) hc (λz=>nomatch z) (λ_=>aV rfl) λ_ e=>e▸hr rfl
theorem gk (hc:PT X c (dT X.K τ t))(ht:t=false)(hr:PSs X rest .(114)):PSs X (.If c body [] pos::rest) .(114):=dW hc (λz=>by rw[ht]at z; cases z) λ_=>hr
theorem nY (i:Nat){n:Str}{xs:List D}{ap cp:Pos}(he:PE X e (dE X.K true τ (.d x)))(hl:xs.length<1000000)(hr:PSs X rest (dS X.K (τ.set i (.o (xs++[x]))) N))(hi:τ[i]?=some (.o xs):=by rfl)(hN:X.N[i]?=some n:=by rfl)
   (hv:Vis X.env.scope n:=by first | exact JM rfl | exact IH .(9) | exact IH .(8)) (hd:(n==("__debug__" : Str))=false:=by decide) (hcd:(n==("__classdict__" : Str))=false:=by decide)
   (hfew:((M5 cp (Do [e] X.env)).all (λx=>!x.1)&&(Nj cp (N2 [] X.env)).all (λx=>x.1.isSome)&&decide (([e]:List Expr).length+([]:List MW).length+(if ([]:List MW).isEmpty then 0 else 1)<30))=true:=by rfl)
   (hline:(ap.endLine==cp.line)=true:=by rfl) (hst:Do [e] X.env=.(117)::Do [] X.env:=by rfl) (hpl:(M5 cp (Do [] X.env)).any (·.1)=false:=by rfl)
   (hs:M7 (.Call (.Attribute .(106) "append" ap) [e] [] cp) none pos.line X.env=pure false:=by rfl) (hbase:M9 .(106) "append" X.env (eval .(106) X.env)=eval .(106) X.env:=by rfl) :
   PSs X (.Expr (.Call (.Attribute .(106) "append" ap) [e] [] cp) pos::rest) .(114):=
 bw (M:=(·=τ.set i (.o (xs++[x])))) (psW (eA (kh IJ Kd KQ fJ (bo hN hv hd hcd) (bj he cB hst) hbase hfew hline hst hpl) hs) λD σ H ⟨A,H₀,B,S,Me⟩=>by
   obtain⟨l,vs,hb,e1,e2,d⟩:=S.sl i _ hi;refine⟨_,slot_of e1,.inl ⟨rfl,_,SqL.of e2⟩,aU S λv H1 e3 d1=>⟨l,vs,v,rfl,rfl,e3 _ _ e2,by rw[d.length]; exact Jh hl .(2),?_⟩⟩;exact Me.nx _ _ _ _ rfl ((S.mono e3).put hi hb ((d.mono (aC e3 λ_ z=>z)).append (.cons d1 .nil)))) λ_ e=>e▸hr
theorem fZ {K:fw}:∀{vs:List V} {ds:List D} {v:V} {d:D} (j:Nat),av K H vs ds->Den K H v d->av K H (vs.set j v) (ds.set j d)
 | _,_,_,_,_,.nil,_=>.nil
 | _,_,_,_,0,.cons _ r,h=>.cons h r
 | _,_,_,_,j+1,.cons h' r,h=>.cons h' (fZ j r h)
theorem yy (i:Nat){n:Str}{xs:List D}{m:Int}{j:Nat}{ix:Expr}{sp:Pos}(hx:PE X ix (dE X.K false τ (.d (.int m))))(he:PE X e (dE X.K true τ (.d x)))(hj:ixN xs.length m=some j)(hr:PSs X rest (dS X.K (τ.set i (.o (xs.set j x))) N))(hi:τ[i]?=some (.o xs):=by rfl)(hN:X.N[i]?=some n:=by rfl)
   (hv:Vis X.env.scope n:=by first | exact JM rfl | exact IH .(9) | exact IH .(8)) (hd:(n==("__debug__" : Str))=false:=by decide) (hcd:(n==("__classdict__" : Str))=false:=by decide)
   (hs:Ng [.Subscript .(106) ix sp] e pos.line X.env=pure false:=by rfl) (hw:Nh [.Subscript .(106) ix sp] e X.env=pure none:=by rfl) (h1:(KF [.Subscript .(106) ix sp] X.env).map (·.2)=[assign (.Subscript .(106) ix sp) X.env]:=by rfl)
   (ha:∀v,assign (.Subscript .(106) ix sp) X.env v=(do
     let ov <- M6 [v] (eval .(106) X.env)
     let iv <- M6 [v,ov] (eval ix X.env)
     Nu sp
     M6 [v,ov,iv] (Nv ov iv v)
     NJ [v,ov,iv] []):=by intro _; rfl) :
   PSs X (.Assign [.Subscript .(106) ix sp] e pos::rest) .(114):=
 bw (M:=(·=τ.set i (.o (xs.set j x)))) (psW (jL he (iO (bo hN hv hd hcd) hx set_list ha) hs hw h1) λD σ H ⟨A,H₀,B,S,Me⟩=>aU S λv H1 e1 d1=>by
   obtain⟨l,vs,hb,f1,f2,d⟩:=(S.mono e1).sl i _ hi;refine⟨_,slot_of f1,aU (S.mono e1) λw H2 e2 d2=>?_⟩;cases d2
   refine⟨l,vs,m,j,rfl,rfl,e2 _ _ f2,by rw[d.length]; exact hj,?_⟩;exact Me.nx _ _ _ _ rfl (((S.mono e1).mono e2).put hi hb (fZ j (d.mono (aC e2 λ_ z=>z)) (d1.mono (aC e2 λ_ z=>z))))) λ_ e=>e▸hr
end
end Hy
namespace Hy
open PySem PySem.Spec PyProof.Rows L2
open Ev (D Den av aq aY aR Ite Itz Itv Cb D3 Dg pe sN sj aT gu eF PTs dB fy)
def Yl (K:fw)(J:L2.It)(xs:List D)(G:Hp):Prop:=∀H,ao G H->(∀i,xs.length<=i->J.stop i H)/\∀(i:Nat) (h:i<xs.length),J.go i H /\
 ∀x H',J.yld i H x H'->ao H H'/\∀M:Addr->Prop,(∀b,M b->∃o,H b=some o)->ao G (hd H M)->Den K (hd H' M) x xs[i]
def dI (K:fw)(τ:List Sl)(xs:List D):TI:=λσ H R=>∃A H₀ B,Sta K A H₀ τ B σ H/\∀J H',ao H H'->Yl K J xs (hd H' (own A B))->R J H'
def dG (K:fw)(τ:List Sl)(x:D)(τ':List Sl):TG:=λv σ H Q=>∃A H₀ B,Sta K A H₀ τ B σ H/\Den K (hd H (own A B)) v x/\∀σ' B',Sta K A H₀ τ' B' σ' H->Q σ' H
theorem piW (h:PI X tg e t)(f:∀σ H Q,t' σ H Q->t σ H Q):PI X tg e t':=λpins s σ H Q I q=>h pins s σ H Q I (f σ H Q q)
theorem pgW (h:PG X e t)(f:∀v σ H Q,t' v σ H Q->t v σ H Q):PG X e t':=λpins s σ H v u Q I r q=>h pins s σ H v u Q I r (f v σ H Q q)
section
variable {K:fw}{G:Hp}{a:Addr}{vs:List V}{xs:List D}
theorem AU (h:SqL K G a vs)(r:av K G vs xs):Yl K (Itl K a) xs G:=by
 intro H sg;have hl:=r.length;refine⟨λi hi=>⟨vs,aR sg h,by omega⟩,λi hi=>?_⟩;obtain⟨v,hv,dv⟩:=r.get (ph hi);refine⟨⟨vs,v,aR sg h,hv⟩,λx H' ⟨e1,e2⟩=>?_⟩;subst e1;have ex:x=v:=by have:=e2 vs (aR sg h); rw[hv]at this; exact(Im this).symm
 subst ex;exact⟨ao.refl _,λM _ sv=>dv.mono sv⟩
theorem CV (h:SqT K G a vs)(r:av K G vs xs):Yl K (Itt K a) xs G:=by
 intro H sg;have hl:=r.length;refine⟨λi hi=>⟨vs,aY sg h,by omega⟩,λi hi=>?_⟩;obtain⟨v,hv,dv⟩:=r.get (ph hi);refine⟨⟨vs,v,aY sg h,hv⟩,λx H' ⟨e1,e2⟩=>?_⟩;subst e1;have ex:x=v:=by have:=e2 vs (aY sg h); rw[hv]at this; exact(Im this).symm
 subst ex;exact⟨ao.refl _,λM _ sv=>dv.mono sv⟩
noncomputable def i6 (lo:Int)(n:Nat):List D:=(ox n).map λk=>D.int (lo+(k:Nat))
theorem aP (lo:Int)(n:Nat):(i6 lo n).length=n:=by simp[i6]
theorem ji (lo:Int)(n i:Nat)(h:i<(i6 lo n).length):(i6 lo n)[i]=.int (lo+(i:Nat)):=by simp[i6]
theorem xh (lo:Int)(n:Nat):Yl K (Itr lo n) (i6 lo n) G:=by
 intro H sg;refine⟨λi hi=>by rw[aP]at hi; exact hi,λi hi=>?_⟩;have hi':i<n:=by rw[aP]at hi; exact hi
 refine⟨hi',λx H' ⟨e1,e2⟩=>?_⟩;subst e1 e2;refine⟨ao.refl _,λM _ sv=>?_⟩;rw[ji];exact .int
noncomputable def pd (xs:List D):List D:=(ox xs.length).map λi=>D.tup [.int (i:Nat),xs.getD i .non]
theorem jb (xs:List D):(pd xs).length=xs.length:=by simp[pd]
theorem tW (xs:List D)(i:Nat)(h:i<(pd xs).length):(pd xs)[i]=.tup [.int (i:Nat),xs.getD i .non]:=by simp[pd]
theorem CY (h:SqL K G a vs)(r:av K G vs xs):Yl K (Ite K a) (pd xs) G:=by
 intro H sg;have hl:=r.length;have el:=jb xs;refine⟨λi hi=>⟨vs,aR sg h,by omega⟩,λi hi=>?_⟩;have hi':i<xs.length:=by omega
 obtain⟨v,hv,dv⟩:=r.get (ph hi');refine⟨⟨vs,v,aR sg h,hv⟩,λy H' ⟨p,x,hp,e0,e1,e2⟩=>?_⟩;subst e0 e1;have ex:x=v:=by have:=e2 vs (aR sg h); rw[hv]at this; exact(Im this).symm
 subst ex;refine⟨aq hp _,λM hM sv=>?_⟩;rw[tW,show xs.getD i .non=xs[i] by simp[K8,hi']];exact .tup (SqT.of (lV hM hp)) (.cons .int (.cons (dv.mono (sv.trans (aC (aq hp _) λ_ z=>z))) .nil))
end
section
variable {X:Cx}{τ:List Sl}{x y z:D}{a b e tg it:Expr}{pos p q:Pos}{k:Nat}{s:Sl}{xs:List D}{N:Po}{rest body:List Stmt}
theorem bD (h:PE X it (dE X.K true τ (.d (.lst xs))))(hc:X.calm=true:=by first | rfl | assumption):PI X tg it (dI X.K τ xs):=piW (t9 hc h) λσ H R ⟨A,H₀,B,S,k⟩=>aU S λv H1 e1 d1=>by
 cases d1 with
 | lst h r=>exact⟨_,rfl,⟨_,aR aS h⟩,k _ H1 e1 (AU h r)⟩
theorem FU (h:PE X it (dE X.K true τ (.d (.tup xs))))(hc:X.calm=true:=by first | rfl | assumption):PI X tg it (dI X.K τ xs):=piW (DR hc h) λσ H R ⟨A,H₀,B,S,k⟩=>aU S λv H1 e1 d1=>by
 cases d1 with
 | tup h r=>exact⟨_,rfl,⟨_,aY aS h⟩,k _ H1 e1 (CV h r)⟩
theorem fH {n:Int}(B:Bk X k)(h:PE X a (dE X.K false τ (.d (.int n))))(h1:-(2^62)<=n)(h2:n<2^62)(hg:Gl X "range":=by rfl)(hs:Do [a] X.env=[.(118)]:=by rfl):PI X tg (.Call (.Name "range" p) [a] [] pos) (dI X.K τ (i6 0 n.toNat)):=
 piW (wd (.inl B.calm) hg (B.blt _ .(2)) (ae h ag hs) hs) λσ H R ⟨A,H₀,B,S,k⟩=>eQ S λvs H1 e1 d1=>by
   cases d1 with
   | cons d r=>
     cases r
     cases d
     exact⟨n,rfl,h1,h2,k _ H1 e1 (xh 0 _)⟩
theorem sW {m n:Int}(B:Bk X k)(h:PE X a (dE X.K false τ (.d (.int m))))(h':PE X b (dE X.K false τ (.d (.int n))))(h1:-(2^62)<=m/\m<2^62/\-(2^62)<=n/\n<2^62)(hg:Gl X "range":=by rfl)(hs:Do [a,b] X.env=[.(118),(false,eval b X.env)]:=by rfl)
   (hs2:Do [b] X.env=[(false,eval b X.env)]:=by rfl):PI X tg (.Call (.Name "range" p) [a,b] [] pos) (dI X.K τ (i6 m (n-m).toNat)):=
 piW (wu (.inl B.calm) hg (B.blt _ .(2)) (ae h (ae h' ag hs2) (by rw[hs,hs2])) hs hs2) λσ H R ⟨A,H₀,B,S,k⟩=>eQ S λvs H1 e1 d1=>by
   cases d1 with
   | cons d r=>
     cases r with
     | cons d' r=>
       cases r
       cases d
       cases d'
       exact⟨m,n,rfl,h1,k _ H1 e1 (xh m _)⟩
theorem EY {ts:List Expr}{m:Nat}{tp:Pos}(B:Bk X k)(h:PE X a (dE X.K true τ (.d (.lst xs))))(hg:Gl X "enumerate":=by rfl)(hs:Do [a] X.env=[.(118)]:=by rfl):PI X (.Tuple ts m tp) (.Call (.Name "enumerate" p) [a] [] pos) (dI X.K τ (pd xs)):=
 piW (pe B.calm hg (B.blt _ .(2)) (ae h ag hs) hs) λσ H R ⟨A,H₀,B,S,k⟩=>eQ S λvs H1 e1 d1=>by
   cases d1 with
   | cons d r=>
     cases r
     cases d with
     | lst h r=>exact⟨_,rfl,⟨_,aR aS h⟩,k _ H1 e1 (CY h r)⟩
theorem Bs (i:Nat){n:Str}(hN:X.N.Nodup)(hi:X.N[i]?=some n:=by rfl)(hx:Loc X.env.scope n:=by first | exact .inl rfl | exact .inr rfl)(hf:X.fn n=true\/X.env.scope.names.lookup n=some .local:=by first | exact .inl rfl | exact .inr rfl | assumption):PG X (.Name n p) (dG X.K τ x (τ.set i (.d x))):=
 pgW (eP (i:=i) hN hi hx hf) λv σ H Q ⟨A,H₀,B,S,d,k⟩=>k _ _ (S.set .(102) (bs:=[]) (λ_ z=>nomatch z) (jC d))
theorem BA (i j:Nat){n m:Str}{p2 pt:Pos}{md:Nat}(hc:X.calm=true)(hN:X.N.Nodup)(hi:X.N[i]?=some n:=by rfl)(hj:X.N[j]?=some m:=by rfl)(hx:Loc X.env.scope n:=by first | exact .inl rfl | exact .inr rfl)(hy:Loc X.env.scope m:=by first | exact .inl rfl | exact .inr rfl)
   (hf:X.fn n=true\/X.env.scope.names.lookup n=some .local:=by first | exact .inl rfl | exact .inr rfl | assumption) (hf':X.fn m=true\/X.env.scope.names.lookup m=some .local:=by first | exact .inl rfl | exact .inr rfl | assumption) :
   PG X (.Tuple [.Name n p,.Name m p2] md pt) (dG X.K τ (.tup [x,y]) ((τ.set i (.d x)).set j (.d y))):=by
 refine pgW (oH hc (dR (eP (i:=i) hN hi hx hf) (dR (eP (i:=j) hN hj hy hf') kM))) λv σ H Q ⟨A,H₀,B,S,d,k⟩=>?_
 cases d with
 | tup h r=>
   cases r with
   | cons d1 r=>
     cases r with
     | cons d2 r=>
       cases r
       have S1:=S.set (i:=i) .(102) (bs:=[]) (λ_ z=>nomatch z) (jC d1);have sub:∀b,own A (upB B i []) b->own A B b:=λb z=>z.elim .inl λ⟨j,z⟩=>(ba z).elim (λz=>nomatch z.2) λz=>.inr ⟨j,z.2⟩
       exact⟨_,_,rfl,aY aS h,rfl,_,_,rfl,_,_,rfl,rfl,k _ _ (S1.set (i:=j) .(102) (bs:=[]) (λ_ z=>nomatch z) (jC (d2.mono (aC .(102) sub))))⟩
theorem Sta.base {K:fw}{A:Addr->Prop}{τ:List Sl}{B:Nat->List Addr}{σ:L2.St}(S:Sta K A H₀ τ B σ H):ao H₀ (hd H λb=>∃i,b∈B i)/\Sta K A (hd H λb=>∃i,b∈B i) τ B σ H:=by
 have s0:ao H₀ (hd H λb=>∃i,b∈B i):=λb o h=>au.mpr ⟨λ⟨i,z⟩=>(by rw[S.fr i b z]at h; cases h),S.same _ _ h⟩
 exact⟨s0,aS,S.len,S.sl,λi b hb=>by
   cases e:hd H (λb=>∃i,b∈B i) b with
   | none=>rfl
   | some o=>exact absurd ⟨i,hb⟩ (au.mp e).1,S.uq,λb hb=>let ⟨o,q⟩:=S.ad b hb; ⟨o,s0 _ _ q⟩,S.bd⟩
theorem Sta.back {K:fw}{A:Addr->Prop}{τ:List Sl}{B:Nat->List Addr}{σ:L2.St}(S:Sta K A G τ B σ H)(s:ao H₀ G)(ad:∀b,A b->∃o,H₀ b=some o):Sta K A H₀ τ B σ H:=
 ⟨s.trans S.same,S.len,S.sl,λi b hb=>s.free (S.fr i b hb),S.uq,ad,S.bd⟩
theorem yW {M:Nat->List Sl->Prop}{T:Nat->List Sl->List Sl}(B:Bk X k)(hi:PI X tg it (dI X.K τ xs))(h0:M 0 τ)(hg:∀i (h:i<xs.length) τ',M i τ'->PG X tg (dG X.K τ' xs[i] (T i τ')))
   (hb:∀i,i<xs.length->∀τ',M i τ'->PSs X body (dS X.K (T i τ') { N with nx:=M (i+1),ct:=M (i+1),bk:=N.nx })) (hn:∀τ',M xs.length τ'->N.nx τ')
   (hs:∀x,foldedSetIterable it X.env x=pure x:=by intro _; rfl):PS X (.For tg it body [] pos) .(114):=by
 have hg':PG X tg λv σ H Q=>∃(i:Nat) (h:i<xs.length) (τ':List Sl),M i τ'/\dG X.K τ' xs[i] (T i τ') v σ H Q:=λpins s σ H v u Q I r ⟨i,h,τ',m,q⟩=>hg i h τ' m pins s σ H v u Q I r q
 have hb':PSs X body λD σ H=>∃i τ',i<xs.length/\M i τ'/\dS X.K (T i τ') { N with nx:=M (i+1),ct:=M (i+1),bk:=N.nx } D σ H:=λpins s σ H D I ⟨i,τ',h,m,q⟩=>hb i h τ' m pins s σ H D I q
 refine psW (si B.po hi hg' hb' hs) λD σ H ⟨A,H₀,B,S,Me⟩=>⟨A,H₀,B,S,λJ H1 e1 yl=>?_⟩
 obtain⟨s0,S1⟩:=(S.mono e1).base;have sub:∀{H'},ao (hd H1 λb=>∃i,b∈B i) H'->ao (hd H1 (own A B)) H':=λe=>(aC .(102) λ_ z=>.inr z).trans e
 refine⟨λi m σ' H'=>m=xs.length-i/\i<=xs.length/\∃τ' B',M i τ'/\Sta X.K A (hd H1 λb=>∃i,b∈B i) τ' B' σ' H',⟨xs.length,rfl,HL _,τ,B,h0,S1⟩,?_⟩;rintro i m σ' H' ⟨rfl,hi,τ',B',hM,S'⟩;obtain⟨y1,y2⟩:=yl H' (sub S'.same);by_cases hlt:i<xs.length
 . obtain⟨g,y⟩:=y2 i hlt;refine .inr ⟨g,λσ2 H2=>∃τ2 B2,M (i+1) τ2/\Sta X.K A (hd H1 λb=>∃i,b∈B i) τ2 B2 σ2 H2,λσ2 H2 q=>⟨xs.length-(i+1),by omega,rfl,hlt,q⟩,λx H2 hy=>?_⟩;obtain⟨e2,dx⟩:=y x H2 hy;have S2:=S'.mono e2;refine⟨i,hlt,τ',hM,A,_,B',S2,dx (own A B') S'.dm ?_,λσ3 B3 S3=>⟨i,τ',hlt,hM,A,_,B3,S3,?_⟩⟩
   . intro b o z;obtain⟨z1,z2⟩:=au.mp z;have z3:hd H1 (λb=>∃i,b∈B i) b=some o:=au.mpr ⟨λy=>z1 (.inr y),z2⟩;refine au.mpr ⟨λy=>?_,S'.same _ _ z3⟩;rcases y with y | ⟨l,y⟩
     . exact z1 (.inl y)
     . rw[S'.fr l b y]at z3; cases z3
   . exact⟨λτ3 B3 σ3 H3 m S3=>⟨τ3,B3,m,S3⟩,λτ3 B3 σ3 H3 m S3=>Me.nx τ3 B3 σ3 H3 m (S3.back s0 S.ad),λτ3 B3 σ3 H3 m S3=>⟨τ3,B3,m,S3⟩,
       λv H3 bs s3 hr e3 hf q=>Me.rt v H3 bs s3 hr (s0.trans e3) (λb hb=>⟨s0.free (hf b hb).1,(hf b hb).2⟩) q,λH3 e3=>Me.xc H3 (s0.trans e3)⟩
 . have e:i=xs.length:=by omega
   subst e;exact .inl ⟨y1 _ .(3),Me.nx τ' B' σ' H' (hn τ' hM) (S'.back s0 S.ad)⟩
theorem bP (j:Nat){n:Str}(M:Nat->List Sl->Prop){g:Nat->D}(B:Bk X k)(hN:X.N.Nodup)(hi:PI X .(106) it (dI X.K τ xs))(hx:∀i (h:i<xs.length),xs[i]=g i)(h0:M 0 τ)
   (hb:∀i,i<xs.length->∀τ',M i τ'->PSs X body (dS X.K (τ'.set j (.d (g i))) { N with nx:=M (i+1),ct:=M (i+1),bk:=λ_=>False }))
   (hr:∀τ',M xs.length τ'->PSs X rest (dS X.K τ' N)) (hs:∀x,foldedSetIterable it X.env x=pure x:=by intro _; rfl) (hi':X.N[j]?=some n:=by rfl) (hl:Loc X.env.scope n:=by first | exact .inl rfl | exact .inr rfl)
   (hf:X.fn n=true\/X.env.scope.names.lookup n=some .local:=by first | exact .inl rfl | exact .inr rfl | assumption):PSs X (.For (.Name n p) it body [] pos::rest) (dS X.K τ N):=
 bw (M:=M xs.length) (yW (M:=M) (T:=λi τ'=>τ'.set j (.d (g i))) B hi h0 (λi h τ' m=>by rw[hx i h]; exact Bs j hN hi' hl hf)
   (λi h τ' m=>gQ (hb i h τ' m) λD σ H ⟨A,H₀,B,S,Me⟩=>⟨A,H₀,B,S,Me.nx,λ_ _ _ _ z=>z.elim,Me.ct,Me.rt,Me.xc⟩) (λ_ m=>m) hs) hr
theorem Ep (j l:Nat){n m:Str}{p2 pt:Pos}{md:Nat}(M:Nat->List Sl->Prop){g g':Nat->D}(B:Bk X k)(hN:X.N.Nodup)(hi:PI X (.Tuple [.Name n p,.Name m p2] md pt) it (dI X.K τ xs))(hx:∀i (h:i<xs.length),xs[i]=.tup [g i,g' i])(h0:M 0 τ)
   (hb:∀i,i<xs.length->∀τ',M i τ'->PSs X body (dS X.K ((τ'.set j (.d (g i))).set l (.d (g' i))) { N with nx:=M (i+1),ct:=M (i+1),bk:=λ_=>False }))
   (hr:∀τ',M xs.length τ'->PSs X rest (dS X.K τ' N)) (hs:∀x,foldedSetIterable it X.env x=pure x:=by intro _; rfl) (hi':X.N[j]?=some n:=by rfl) (hj':X.N[l]?=some m:=by rfl) (hl:Loc X.env.scope n:=by first | exact .inl rfl | exact .inr rfl) (hl':Loc X.env.scope m:=by first | exact .inl rfl | exact .inr rfl)
   (hf:X.fn n=true\/X.env.scope.names.lookup n=some .local:=by first | exact .inl rfl | exact .inr rfl | assumption) (hf':X.fn m=true\/X.env.scope.names.lookup m=some .local:=by first | exact .inl rfl | exact .inr rfl | assumption):PSs X (.For (.Tuple [.Name n p,.Name m p2] md pt) it body [] pos::rest) (dS X.K τ N):=
 bw (M:=M xs.length) (yW (M:=M) (T:=λi τ'=>(τ'.set j (.d (g i))).set l (.d (g' i))) B hi h0 (λi h τ' m=>by rw[hx i h]; exact BA j l B.calm hN hi' hj' hl hl' hf hf')
   (λi h τ' m=>gQ (hb i h τ' m) λD σ H ⟨A,H₀,B,S,Me⟩=>⟨A,H₀,B,S,Me.nx,λ_ _ _ _ z=>z.elim,Me.ct,Me.rt,Me.xc⟩) (λ_ m=>m) hs) hr
theorem ft (i:Nat)(h:i<(i6 0 n).length):(i6 0 n)[i]=.int (i:Nat):=by rw[ji,Int.zero_add]
theorem Fz {bs:List Int}(i:Nat)(h:i<(bs.map D.int).length):(bs.map D.int)[i]=.int (bs.getD i 0):=by
 have:i<bs.length:=by simpa using h
 simp[this]
theorem F4 {bs:List Int}(i:Nat)(h:i<(pd (bs.map D.int)).length):(pd (bs.map D.int))[i]=.tup [.int (i:Nat),.int (bs.getD i 0)]:=by
 have:i<bs.length:=by rw[jb]at h; simpa using h
 rw[tW];simp[this]
end
end Hy
namespace Ev
open PySem PySem.Spec PyProof.Rows L2
theorem lD {X:Cx}{py spos:Pos}{In:TG->TT->TE->Prop}(hT:PG X (.Name y py) gT)(c:eF X scope N caps)(hi:PI X tg iter wi)
   (hs:∀x,foldedSetIterable iter X.env x=pure x)
   (hin:∀g tt te,In g tt te->∀s H fp,PG .(105) tg g/\PTs .(105) ifs tt/\PE .(105) elt te)
   (hsw:M7 .(124) (some (.Name y py)) spos.line X.env=pure true) :
   PS X (.Assign [.Name y py] .(124) spos) (C3 (fy In caps wi) gT):=by
 intro pins s σ H D I h;rw[exec_Assign_Name_used _ _ _ _ hsw];refine AC (wpAny_standAt (AC ?_));show wpAny _ _ (do let _ <- comprehension .(124) scope X.env _ (newList []) false _ (some (assign (.Name y py) X.env))) _ _ s;refine AC ?_;have hcl:=vG (iL I c);refine wpAny_comprehension_free (use:=some (assign (.Name y py) X.env)) (Q:=λ_ s'=>wpAny .(100) X.A (pure ()) (λ_ s''=>wpAny .(100) X.A (pure Flow.next) (SP X pins D) X.xe s'') X.xe s') (g:=⟨tg,iter,ifs,0⟩) (gs:=[]) rfl hs hcl c.kind c.loc ?_;show wpAny _ _ (eval iter X.env) _ _ s;refine thn (hi pins s σ H _ I h) λv s1 h1=>thn h1 λitv s2 h2=>?_
 obtain⟨kd,it,fp,tn,J,H2,e,I2,hck,T,st2,f2,g,tt,te,hI,q⟩:=h2;have hc:=ub (scope:=scope) (N:=N) (fp:=fp) hck I2;subst e;obtain⟨Z,⟨m0,z0⟩,turn⟩:=q s2.heap.objs.size (I2.hok.fresh .(3));have ho:∀b∈fp,∃o,s2.heap.get? b=some o:=λb hb=>let ⟨o,e,_⟩:=T.obj _ _ st2 b hb; ⟨o,e⟩
 have I4:=qj (scope:=scope) (N:=N) (caps:=caps) I2 f2 ho c;obtain⟨hg,ht,he⟩:=hin g tt te hI s2 H2 fp;refine GM (nU ?_) (by show 0<=sizeLine; decide);have hC:(s2.heap.push { cls:=.type "list",dict:=none,data:=.seq ([]:List Value).toArray }).objs.size=s2.heap.objs.size+1:=Ja ..;dsimp only;rw[hC]
 have kp:∀b o,s2.heap.get? b=some o->(N5 ((s2.heap.push { cls:=.type "list",data:=.seq ([]:List Value).toArray }).push { cls:=.type "dict",data:=.dict #[] }) scope.names).get? b=some o:=λb o e=>
   Np _ _ b o (pq _ (pq _ e))
 have st4:tn 0 (N5 ((s2.heap.push { cls:=.type "list",data:=.seq ([]:List Value).toArray }).push { cls:=.type "dict",data:=.dict #[] }) scope.names):=T.keep _ _ _ st2 λb _ o e=>kp b o e
 have stat:∀{H':Hp},(∀b∈fp,H' b=none)->∀b∈fp,mN .(120) [] H' b:=λhn b hb=>
   ⟨hn b hb,(I4.ok.exf b hb).1,I4.ok.exfs b hb,.inl hb,(I4.ok.exf b hb).2,λp hp=>absurd (show p∈([]:List .(103)) from hp) .(4)⟩
 have fr4:∀b∈fp,(upd H2 s2.heap.objs.size (.lst [])) b=none:=λb hb=>by
   obtain⟨o,e⟩:=ho b hb;rw[aE (Il (Hw e))]; exact(f2 b hb).1
 have loop:Nq .(100) X.A (.compLoop .(124) 0 (.ref it) (.ref s2.heap.objs.size) .(120).env)
     (compPost .(100) X.A X.xe (some (assign (.Name y py) X.env)) (λ_ s'=>wpAny .(100) X.A (pure ()) (λ_ s''=>wpAny .(100) X.A (pure Flow.next) (SP X pins D) X.xe s'') X.xe s') (.ref s2.heap.objs.size) (s2.heap.objs.size+1))
     { s2 with heap:=N5 ((s2.heap.push { cls:=.type "list",data:=.seq ([]:List Value).toArray }).push { cls:=.type "dict",data:=.dict #[] }) scope.names }:=by
   refine kX (λn s'=>∃i σ' H',Inv .(120) [] σ' H' s'/\tn i s'.heap/\(∀b∈fp,H' b=none)/\Z i n σ' H') ?_ m0 ⟨0,_,_,I4,st4,fr4,z0⟩;rintro n s3 ⟨i,σ3,H3,I3,st3,fr3,w3⟩;rcases turn i n σ3 H3 w3 with ⟨stop,qn⟩ | ⟨go,step⟩
   . refine thn (T.done .(120) rfl rfl rfl hc i [] s3 σ3 H3 _ I3 (stat fr3) st3 stop) λr s5 ⟨hr,I5⟩=>?_
     subst hr;obtain⟨m,hn,_⟩:=id I5.loc
     have I6:Inv X pins σ H3 s5:=by
       have lt:∀b o,s2.heap.get? b=some o->b≠s2.heap.objs.size+1:=λb o e=>Il (Ko (Hw e))
       have u:=I5.base;have u':Un (frs X.stack) fp H2 H3 s2.heap s5.heap:=⟨λb o e n1 n2 n3=>u.keep b o e n1 n2 n3,λb o e n1 n2 n3=>u.slot b o e n1 n2 n3,u.free,λb o e n1=>u.there b o e n1,u.tups,u.frzs,u.tbls⟩;exact I2.BX (s':=s5) I5.os u' I5.hok I5.bare λb hb=>⟨(f2 b hb).2.2.2.1,(f2 b hb).2.1,(f2 b hb).2.2.2.2.1,(f2 b hb).2.2.2.2.2⟩
     have fC:H3 (s2.heap.objs.size+1)=none:=I5.free;have fk:mN X pins H3 (s2.heap.objs.size+1):=I2.jH .(17) fC;obtain⟨oC,es,ep,hoC,hdC,rC⟩:=id hn;have hpin:=I6.pinned (fp:=[s2.heap.objs.size+1]) (λb hb=>by rw[gV.mp hb]; exact fk) (λb hb=>by rw[gV.mp hb]; exact⟨oC,hoC,λv z=>by rw[hdC]at z; cases z⟩);have hmem:(s2.heap.objs.size+1,oC)∈iY [s2.heap.objs.size+1] s5.heap:=cy (List.mem_singleton_self _) hoC;refine thn (hT _ s5 σ H3 (.ref s2.heap.objs.size) (.ref s2.heap.objs.size) _ hpin rfl qn) λ_ s6 ⟨σ6,H6,I7,q7⟩=>?_
     obtain⟨p1,p2,p3,p4,p5⟩:=I7.pin _ (tf _ (tf _ hmem));refine⟨m,⟨oC,es,ep,p1,hdC,rC⟩,λh' sb=>Fk (Fk ?_)⟩;refine⟨σ6,H6,?_,q7⟩;exact(I7.fx).turned (t':=s6.toks) (it:=s2.heap.objs.size+1) (λb o hb e=>(sb.2 b hb).trans e) p2 p3 fk.2.2.2.1 fk.2.2.2.2.1 fk.2.2.2.2.2
   . refine thn (T.item .(120) rfl rfl rfl hc i [] s3 σ3 H3 _ I3 (stat fr3) st3 go) λr s4 ⟨u,hr,h4⟩=>?_
     subst hr;refine thn h4 λ_ s5 ⟨x,H5,I5,r5,y5,st5,fr5⟩=>?_
     have I5':=I5.pinned (stat fr5) (T.obj _ _ st5);refine thn (hg _ s5 σ3 H5 x u _ I5' r5 (step x H5 y5)) λ_ s6 ⟨σ6,H6,I6,q6⟩=>?_
     have again:∀{s7:Da} {σ7:L2.St} {H7:Hp} {m':Nat},Inv .(120) ([]++iY fp s5.heap) σ7 H7 s7->m'<n->Z (i+1) m' σ7 H7 ->
         ∃m,m<n/\∃i σ' H',Inv .(120) [] σ' H' s7/\tn i s7.heap/\(∀b∈fp,H' b=none)/\Z i m σ' H':=λ{s7 σ7 H7 m'} I7 hm z7=>by
       refine⟨m',hm,i+1,σ7,H7,I7.fx,T.keep _ _ _ st5 λb hb o e=>(I7.pin (b,o) (tf _ (tf _ (cy hb e)))).1,λb hb=>?_,z7⟩;obtain⟨o,e,d⟩:=T.obj _ _ st5 b hb;exact(I7.pin (b,o) (tf _ (tf _ (cy hb e)))).2.1
     refine thn (ht _ s6 σ6 H6 _ I6 q6) λok s7 ⟨H7,I7,q7⟩=>?_
     cases ok with
     | false=>
       rw[if_neg .(2)]at q7;obtain⟨m',hm,z7⟩:=q7;exact again I7 hm z7
     | true=>
       rw[if_pos rfl]at q7;refine thn (he _ s7 σ6 H7 _ I7 q7) λv' s8 ⟨v,H8,I8,r8,vs,m',q8,l8,hm,z8⟩=>?_
       refine thn (fJ (X:=aT X s2 H2 scope N fp) _ s8 σ6 H8 (.ref s2.heap.objs.size) [v] (.ref s2.heap.objs.size) [v'] (λ_ H9=>H9=upd H8 s2.heap.objs.size (.lst (vs++[v]))) I8 rfl (.cons r8 .nil) ⟨_,vs,v,rfl,rfl,q8,l8,rfl⟩) λ_ s9 ⟨_,H9,I9,_,e9⟩=>?_
       subst e9;exact again I9 hm z8
 exact codeAny_compStart_list loop (T.self _ 0 _ _ _ st4 loop)
end Ev
namespace Hy
open PySem PySem.Spec PyProof.Rows L2
open Ev (D Den av aq aY aR aT gu eF PTs dB fy lD)
noncomputable def slot:List Str->Str->Option Nat
 | [],_=>none
 | y::r,x=>if x=y then some 0 else (slot r x).map (·+1)
theorem slot_get:∀{N:List Str} {x:Str} {i:Nat},slot N x=some i->N[i]?=some x
 | [],_,_,h=>by cases h
 | y::r,x,i,h=>by
   unfold slot at h;split at h
   . cases h; rename_i e; rw[e]; rfl
   . cases e:slot r x with
     | none=>rw[e]at h; cases h
     | some j=>rw[e]at h; cases h; simpa using slot_get e
noncomputable def yM (scope sc:Scope):Scope:={ scope with names:=scope.names.map λ(n,k)=>if (k==.free&&sc.kind==.function&&sc.names.lookup n==some .cell) then (n,.cell) else (n,k) }
noncomputable def bNm (scope:Scope):List Str:=(scope.names.filter λp=>(p.2==.local||p.2==.cell||p.2==.free)&&p.1 != (".0" : Str)).map (·.1)
noncomputable def bCp (No:List Str)(scope:Scope):List (Option Nat):=(bNm scope).map λx=>if (x,IZ)∈scope.names then slot No x else none
noncomputable def bOk (sc scope:Scope):Bool:=
 scope.kind==.function&&scope.names.all (λp=>p.2 != .local||scope.names.lookup p.1==some .local)&&scope.names.all (λp=>p.2 != .free||sc.names.lookup p.1==some .cell)
   && scope.names.all (λp=>p.2 != .free||(!decide ((p.1,Jr)∈scope.names)&&!decide ((p.1,NameKind.local)∈scope.names)))&&decide (bNm scope++[("#" : Str)]).Nodup
   && (yM scope sc).names.all (λp=>p.1 != ("#" : Str))
theorem y9 (h:(a&&b)=true):a=true/\b=true:=by rw[Iy]at h; exact h
theorem yI :∀{names:List (Str×N0)},names.lookup x=some q->(x,q)∈names
 | (y,k)::r,h=>by
   rw[IF]at h;split at h
   . rename_i e; cases h; rw[eq_of_beq e]; exact Ih ..
   . exact Et _ (yI h)
theorem g9 (h:bOk X.env.scope scope=true):eF X scope (bNm scope++[("#" : Str)]) (bCp X.N scope)/\(bNm scope++[("#" : Str)]).Nodup:=by
 unfold bOk at h;obtain⟨h,h6⟩:=y9 h;obtain⟨h,h5⟩:=y9 h;obtain⟨h,h4⟩:=y9 h;obtain⟨h,h3⟩:=y9 h;obtain⟨h1,h2⟩:=y9 h;rw[IM]at h2 h3 h4 h6;refine⟨⟨eq_of_beq h1,λx hx hk=>?_,λx hx hk=>?_,λx hx hm=>?_,λx hx hm=>?_,?_,λj i hj=>?_,?_⟩,of_decide_eq_true h5⟩
 . have:=h2 x hx; rw[hk]at this; simpa using this
 . have:=h3 x hx; rw[hk]at this; show X.env.scope.names.lookup x.1=_; simpa using this
 . have:=h4 _ hx; simp[hm]at this
 . have:=h4 _ hx; simp[hm]at this
 . unfold bCp; rw[vp,bp]; rfl
 . unfold bCp at hj;rw[HR]at hj;cases e:(bNm scope)[j]? with
   | none=>rw[e]at hj; cases hj
   | some x=>
     rw[e]at hj;simp only[Jl,Ky]at hj;split at hj
     . exact⟨x,by rw[Hv (rp.mp e).1]; exact e,slot_get hj,by assumption⟩
     . cases hj
 . refine⟨("#" : Str),?_,λhv=>?_⟩
   . unfold bCp; rw[bp,Iu .(3),KW]; rfl
   . have key:∀q,(yM scope X.env.scope).names.lookup ("#" : Str)≠some q:=λq hq=>by
       have:=h6 _ (yI hq);simp at this
     rcases hv with hv | hv | hv <;> exact key _ hv
noncomputable abbrev cpX (X:Cx)(s:Da)(H:Hp)(scope:Scope)(fp:List Addr):Cx:=aT X s H scope (bNm scope++[("#" : Str)]) fp
theorem Bk.comp (B:Bk X k)(s:Da)(H:Hp)(scope:Scope)(fp:List Addr):Bk .(104) k:=⟨B.room,B.calm,B.blt,LU⟩
noncomputable def bN (τ:List Sl)(caps:List (Option Nat)):List Sl:=caps.map λo=>match o with
 | some i=>match τ[i]? with
   | some (.d x)=>.d x
   | _=>.un
 | none=>.un
theorem og :PTs X [] λ_ H Q=>Q true H:=λpins s σ H Q I q=>by
 show wpAny _ _ (pure true) _ _ _;exact Fk ⟨H,I,q⟩
section
variable {X:Cx}{C:Bool}{τ:List Sl}{x y z:D}{b e tg it elt:Expr}{ifs:List Expr}{pos p q:Pos}{k:Nat}{xs:List D}{scope:Scope}
structure Cmp (X:Cx)(elt tg it:Expr)(ifs:List Expr)(scope:Scope)(τ:List Sl)(ys:List D):Prop where
 ex:∃(In:TG->TT->TE->Prop) (caps:List (Option Nat)) (N:List Str) (wi:TI),eF X scope N caps/\PI X tg it wi/\(∀g tt te,In g tt te->∀s H fp,PG .(105) tg g/\PTs .(105) ifs tt/\PE .(105) elt te) /\
   ∀C σ H Q,dE X.K C τ (.o ys) σ H Q->fy In caps wi σ H Q
 hs:∀x,foldedSetIterable it X.env x=pure x
theorem fR (h:Cmp X elt tg it ifs scope τ ys):PE X (.ListComp elt [⟨tg,it,ifs,0⟩] scope pos) (dE X.K C τ (.o ys)):=by
 obtain⟨In,caps,N,wi,h1,h2,h3,h4⟩:=h.ex;exact peW (dB h1 h2 h.hs h3) (h4 C)
theorem lL (i:Nat){n:Str}{p spos:Pos}{rest:List Stmt}{N:Po}{ys:List D}{s:Sl}(hN:X.N.Nodup)(h:Cmp X elt tg it ifs scope τ ys)(hz:s=.o ys\/s=.d (.lst ys))(hr:PSs X rest (dS X.K (τ.set i s) N))(hi:X.N[i]?=some n:=by rfl)(hx:Loc X.env.scope n:=by first | exact .inl rfl | exact .inr rfl)
   (hsw:M7 (.ListComp elt [⟨tg,it,ifs,0⟩] scope pos) (some .(106)) spos.line X.env=pure true:=by rfl) (hf:X.fn n=true\/X.env.scope.names.lookup n=some .local:=by first | exact .inl rfl | exact .inr rfl | assumption) :
   PSs X (.Assign [.Name n p] (.ListComp elt [⟨tg,it,ifs,0⟩] scope pos) spos::rest) .(114):=by
 obtain⟨In,caps,N',wi,h1,h2,h3,h4⟩:=h.ex
 have h5:∀σ H Q,dE X.K true τ s σ H Q->fy In caps wi σ H Q:=by
   rcases hz with rfl | rfl
   . exact h4 true
   . intro σ H Q q;obtain⟨A,H₀,B,S,k⟩:=dj q;refine h4 true σ H Q ⟨A,H₀,B,S,λv H' bs e hf q=>?_⟩;obtain⟨u,e1,d⟩:=q.den (G':=Hy.hd H' (vw true A B)) (aC .(102) λ_ z=>.inl z) (λb hb o ho=>au.mpr ⟨λz=>(by obtain⟨_,q⟩:=S.vd (C:=true) b z; rw[(hf b hb).1]at q; cases q),ho⟩) rfl;cases e1
     exact k v H' e d
 exact bw (M:=(·=τ.set i s)) (psW (lD (eP (i:=i) hN hi hx hf) h1 h2 h.hs h3 hsw) λD σ H ⟨A,H₀,B,S,Me⟩=>h5 _ _ _ ⟨A,H₀,B,S,λv H' bs e hf h=>Me.nx _ _ _ _ rfl (S.set e hf h)⟩) λ_ e=>e▸hr
theorem sE {T:Nat->List Sl}{t:Nat->Bool}{f:Nat->D}(hc:bOk X.env.scope scope=true)(hi:PI X tg it (dI X.K τ xs))(hT:∀i,(T i).length=.(101).length/\∀(l:Nat) (x:D),.(101)[l]?=some (.d x)->(T i)[l]?=some (.d x))
   (hg:∀i (h:i<xs.length) s H fp,PG .(104) tg (dG X.K .(101) xs[i] (T i)))
   (ht:∀i,i<xs.length->∀s H fp,PTs .(104) ifs (dT X.K (T i) (t i)))
   (he:∀i,i<xs.length->t i=true->∀s H fp,PE .(104) elt (dE X.K true (T i) (.d (f i)))) (hl:xs.length<1000000) (hs:∀x,foldedSetIterable it X.env x=pure x:=by intro _; rfl) :
   Cmp X elt tg it ifs scope τ (((ox xs.length).filter t).map f):=by
 obtain⟨cap,_⟩:=g9 hc;generalize hτ:bN τ (bCp X.N scope)++[Sl.un]=τb at *
 refine⟨⟨λg tt te=>g=(λv σ H Q=>∃(i:Nat) (h:i<xs.length),dG X.K τb xs[i] (T i) v σ H Q)/\tt=(λσ H Q=>∃i,i<xs.length/\dT X.K (T i) (t i) σ H Q)/\te=(λσ H Q=>∃i,i<xs.length/\t i=true/\dE X.K true (T i) (.d (f i)) σ H Q),_,_,_,cap,hi,?_,?_⟩,hs⟩
 . rintro g tt te ⟨rfl,rfl,rfl⟩ s H fp;exact⟨λpins s' σ H' v u Q I r ⟨i,h,q⟩=>hg i h s H fp pins s' σ H' v u Q I r q,λpins s' σ H' Q I ⟨i,h,q⟩=>ht i h s H fp pins s' σ H' Q I q,λpins s' σ H' Q I ⟨i,h,h',q⟩=>he i h h' s H fp pins s' σ H' Q I q⟩
 rintro C σ H Q ⟨A,H₀,B,S,kk⟩;refine⟨A,H₀,B,S,λJ H1 e1 yl=>⟨_,_,_,⟨rfl,rfl,rfl⟩,λD hD=>?_⟩⟩;have S1:=S.mono e1;have nD:¬own A B D:=λz=>by obtain⟨o,q⟩:=S1.dm D z; rw[hD]at q; cases q
 have noN:∀(l:Nat) (t:Nd),τb[l]?=some (.n t)->0≠0:=λl t h=>by
   exfalso;rw[<- hτ]at h;have:=IP h;rcases x3.mp this with z | z
   . unfold bN at z;obtain⟨o,_,ho⟩:=Hu.mp z;split at ho
     . split at ho <;> cases ho
     . cases ho
   . cases gV.mp z
 have slots:∀{σ':L2.St} {H':Hp},ao H1 H'->(∃o,H' D=some o)->σ'.length=τb.length->(∀(l:Nat) (s:Sl),τb[l]?=some s->cE X.K (hd H' λb=>own A B b\/b=D) H' (σ'[l]?).join [] s)->Sta X.K (λb=>own A B b\/b=D) H' τb (λ_=>[]) σ' H':=λ{σ' H'} e1 e2 e3 e4=>
   ⟨ao.refl _,e3,λl s h=>(e4 l s h).mono (aC .(102) λ_ z=>z.elim id λ⟨_,z⟩=>(nomatch z)) .(102),λ_ _ z=>(nomatch z),λ_ _ _ z=>(nomatch z),λb z=>z.elim (λz=>let ⟨o,q⟩:=S1.dm b z; ⟨o,e1 _ _ q⟩) λz=>z▸e2,λ_ _ z=>(nomatch z)⟩
 refine⟨λi m σ' H'=>m=xs.length-i/\i<=xs.length/\ao H1 H'/\(∃vs,H' D=some (.lst vs)/\vs.length<=i/\av X.K (hd H' λb=>own A B b\/b=D) vs (((ox i).filter t).map f)) /\
   σ'.length=τb.length/\∀(l:Nat) (s:Sl),τb[l]?=some s->cE X.K (hd H' λb=>own A B b\/b=D) H' (σ'[l]?).join [] s,⟨xs.length,rfl,HL _,aq hD _,⟨[],aK,Ia _,.nil⟩,?_,λl s h=>?_⟩,?_⟩
 . rw[<- hτ]; unfold gu bN; rw[vp,vp,bp,bp]; rfl
 . have hv:ao (hd H (own A B)) (hd (upd H1 D (.lst [])) λb=>own A B b\/b=D):=λb o z=>by
     obtain⟨z1,z2⟩:=au.mp z;have z2:=e1 _ _ z2;have ne:b≠D:=λz=>by rw[z,hD]at z2; cases z2
     exact au.mpr ⟨λy=>y.elim z1 ne,by rw[aE ne]; exact z2⟩
   cases s with
   | un=>rfl
   | d x=>
     rw[<- hτ]at h
     have hlt:l<(bCp X.N scope).length:=by
       rcases Jo l (bCp X.N scope).length with h' | h'
       . exact h'
       . exfalso;rw[Iu (by unfold bN; rw[bp]; exact h')]at h;cases e:l-(bN τ (bCp X.N scope)).length with
         | zero=>rw[e]at h; cases h
         | succ n=>rw[e]at h; cases h
     rw[Hv (by unfold bN; rw[bp]; exact hlt)]at h;rw[Hv (by unfold gu; rw[bp]; exact hlt)];unfold bN at h;unfold gu;rw[HR]at h ⊢;cases e:(bCp X.N scope)[l]? with
     | none=>rw[e]at h; cases h
     | some o=>
       rw[e]at h;cases o with
       | none=>cases h
       | some i=>
         simp only[Jl,Ky]at h;split at h
         . rename_i x' hx';cases h
           obtain⟨_,u,eu,d⟩:=S.sl i _ hx';exact⟨rfl,u,by simpa using eu,d.mono hv⟩
         . cases h
   | o xs'=>
     exfalso;rw[<- hτ]at h;have:=IP h;rcases x3.mp this with z | z
     . unfold bN at z;obtain⟨o,_,ho⟩:=Hu.mp z;split at ho
       . split at ho <;> cases ho
       . cases ho
     . cases gV.mp z
   | n t'=>
     exfalso;rw[<- hτ]at h;have:=IP h;rcases x3.mp this with z | z
     . unfold bN at z;obtain⟨o,_,ho⟩:=Hu.mp z;split at ho
       . split at ho <;> cases ho
       . cases ho
     . cases gV.mp z
   | x E'=>
     exfalso;rw[<- hτ]at h;have:=IP h;rcases x3.mp this with z | z
     . unfold bN at z;obtain⟨o,_,ho⟩:=Hu.mp z;split at ho
       . split at ho <;> cases ho
       . cases ho
     . cases gV.mp z
 rintro i m σ' H' ⟨rfl,hi,e2,⟨vs,hv1,hv2,hv3⟩,hlen,hsl⟩;obtain⟨y1,y2⟩:=yl H' (aS.trans e2);by_cases hlt:i<xs.length
 . obtain⟨g,y⟩:=y2 i hlt;refine .inr ⟨g,λx H2 hy=>?_⟩;obtain⟨e3,dx⟩:=y x H2 hy;have S2:Sta X.K (λb=>own A B b\/b=D) H' τb (λ_=>[]) σ' H':=slots e2 ⟨_,hv1⟩ hlen hsl;have o0:∀b,own (λb=>own A B b\/b=D) (λ_=>([]:List Addr)) b->own A B b\/b=D:=λb z=>z.elim id λ⟨_,z⟩=>(nomatch z)
   have dx':=dx _ S2.dm (λb o z=>by
     obtain⟨z1,z2⟩:=au.mp z;exact au.mpr ⟨λy=>(o0 b y).elim z1 λy=>(by rw[y,hD]at z2; cases z2),e2 _ _ z2⟩)
   refine⟨i,hlt,_,_,_,S2.mono e3,dx',λσ2 B2 S3=>?_⟩
   have hB2:∀j b,b∈B2 j->b≠D:=λj b hb z=>by
     have:=S3.fr j b hb;rw[z,hv1]at this;cases this
   have back:∀{H5:Hp},ao H2 H5->σ2.length=τb.length/\∀(l:Nat) (s:Sl),τb[l]?=some s->cE X.K (hd H5 λb=>own A B b\/b=D) H5 (σ2[l]?).join [] s:=λ{H5} e5=>by
     refine⟨S3.len.trans (hT i).1,λl s h=>?_⟩;cases s with
     | un=>rfl
     | d x=>
       obtain⟨_,u,eu,d⟩:=S3.sl l _ ((hT i).2 l x h);exact⟨rfl,u,eu,d.mono (aC e5 λ_ z=>.inl z)⟩
     | o xs'=>exact absurd (hsl l _ h) (λ⟨_,_,z,_⟩=>(nomatch z))
     | n t'=>exact absurd rfl (noN l t' h)
     | x E'=>exact absurd (hsl l _ h) (λ⟨_,_,z,_⟩=>(nomatch z))
   refine⟨i,hlt,_,_,_,S3,λH4 e4=>?_⟩;cases ht:t i with
   | false=>
     rw[if_neg HG];obtain⟨b1,b2⟩:=back e4;refine⟨xs.length-(i+1),by omega,rfl,hlt,e2.trans (e3.trans e4),⟨vs,e4 _ _ (e3 _ _ hv1),by omega,?_⟩,b1,b2⟩;rw[Iz,Jc,HB,Ks,ht];simpa using hv3.mono (aC (e3.trans e4) λ_ z=>z)
   | true=>
     rw[if_pos rfl];refine⟨i,hlt,ht,aU (S3.mono e4) λv H5 e5 d5=>?_⟩;have e6:=e3.trans (e4.trans e5);have hv5:=e6 _ _ hv1;refine⟨vs,xs.length-(i+1),hv5,Jh (HX hv2 (Jh hlt hl)) .(2),by omega,rfl,hlt,?_,?_⟩
     . intro b o z;have ne:b≠D:=λy=>by rw[y,hD]at z; cases z
       rw[aE ne];exact e6 _ _ (e2 _ _ z)
     have sm:ao (hd H5 λb=>own A B b\/b=D) (hd (upd H5 D (.lst (vs++[v]))) λb=>own A B b\/b=D):=λb o z=>by
       obtain⟨z1,z2⟩:=au.mp z;exact au.mpr ⟨z1,by rw[aE λy=>z1 (.inr y)]; exact z2⟩
     obtain⟨b1,b2⟩:=back (e4.trans e5);refine⟨⟨vs++[v],aK,by rw[vp]; exact Mk hv2,?_⟩,b1,λl s h=>?_⟩
     . rw[Iz,Jc,HB,Ks,ht,if_pos rfl];refine av.append (hv3.mono ((aC e6 λ_ z=>z).trans sm)) (.cons (d5.mono ((aC .(102) λ_ z=>.inl z).trans sm)) .nil)
     . cases s with
       | un=>rfl
       | d x=>obtain⟨z1,u,eu,d⟩:=b2 l _ h; exact⟨z1,u,eu,d.mono sm⟩
       | o xs'=>exact absurd (hsl l _ h) (λ⟨_,_,z,_⟩=>(nomatch z))
       | n t'=>exact absurd rfl (noN l t' h)
       | x E'=>exact absurd (hsl l _ h) (λ⟨_,_,z,_⟩=>(nomatch z))
 . have e:i=xs.length:=by omega
   subst e;refine .inl ⟨y1 _ .(3),kk _ _ [D] (e1.trans e2) (λb hb=>?_) ⟨D,vs,rfl,rfl,hv1,hv3.mono (aC .(102) λb z=>z.elim (λz=>.inl (iX z)) λz=>.inr (gV.mp z))⟩⟩;obtain rfl:=gV.mp hb;exact⟨e1.free hD,_,hv1⟩
theorem cmp (j:Nat){n:Str}{g f:Nat->D}(B:Bk X k)(hi:PI X .(106) it (dI X.K τ xs))(hx:∀i (h:i<xs.length),xs[i]=g i)(hl:xs.length<1000000)
   (he:∀i,i<xs.length->∀s H fp,PE .(104) elt (dE X.K true (.(101).set j (.d (g i))) (.d (f i))))
   (hc:bOk X.env.scope scope=true:=by kernel_rfl) (hu:.(101)[j]?=some .un:=by rfl) (hN:(bNm scope++[("#" : Str)])[j]?=some n:=by rfl) (hv:∀s H fp,Loc .(104).env.scope n:=by intro _ _ _; first | exact .inl rfl | exact .inr rfl)
   (hf:∀s H fp,.(104).fn n=true\/.(104).env.scope.names.lookup n=some .local:=by intro _ _ _; first | exact .inr rfl | exact .inl rfl) (hs:∀x,foldedSetIterable it X.env x=pure x:=by intro _; rfl) :
   Cmp X elt .(106) it [] scope τ ((ox xs.length).map f):=by
 have h:=sE (T:=λi=>.(101).set j (.d (g i))) (t:=λ_=>true) (f:=f) (elt:=elt) (ifs:=[]) hc hi (λi=>⟨HV,λl x h=>?_⟩) (λi h s H fp=>?_) (λi h s H fp=>?_) (λi h _ s H fp=>he i h s H fp) hl hs
 . rwa [List.filter_eq_self.mpr λ_ _=>rfl]at h
 . rw[HI (λz=>by rw[<- z,hu]at h; cases h)];exact h
 . rw[hx i h];exact Bs j (g9 hc).2 hN (hv s H fp) (hf s H fp)
 . exact λpins s' σ H' Q I ⟨A,H₀,B,S,q⟩=>og pins s' σ H' Q I (q H' .(102))
end
section
variable {P:FB}{w:World}{K:fw}{mg:Str->Option Value}{base:Heap}
noncomputable def Es (N:List Str)(ds:List D):List Sl:=ds.map .d++HY (N.length-ds.length) .un
noncomputable abbrev Xc (P:FB)(w:World)(K:fw)(mg:Str->Option Value)(base:Heap)(N:List Str)(qual:Str)(st:Stmt)(f:Addr)(cdv:Value)(A:GT)(outer:List Env)(s:Da)(H:Hp)(E:XK):Cx:=(sI CX0 P w K mg base N qual (aw st) f cdv A outer s H E).nox
theorem fnD {st:Stmt}{fd:GE}{N ps:List Str}{Φ:List D->Sl->Prop}(F:Fun K x qual st f fd)(S:aJ N ps (aw st))(hb:∀x∈aD,mg x=none)(len:∀ds r,Φ ds r->ds.length=ps.length)
   (body:∀ds r,Φ ds r->∀cdv A outer s H E,Bk (Xc P w K mg base N qual st f cdv A outer s H E) k->PSs (Xc P w K mg base N qual st f cdv A outer s H E) (cX st) (dS K (Es N ds) { nx:=λ_=>r=.d .non,rt:=λr'=>r'=r })) :
   a8 P w K mg base CX0 (k+1) f fd ps (spD K Φ):=by
 refine F.ok S (λvs H Q E ⟨A,ds,r,_,d,h,_⟩=>d.length.trans (len ds r h)) λcdv A outer s H vs Q E hr ⟨A',ds,r,ha,d,h,q⟩=>⟨_,body ds r h cdv A outer s H E ⟨hr,rfl,hb,LU⟩,A',H,λ_=>[],⟨ao.refl _,?_,λi s hi=>?_,λ_ _ z=>(nomatch z),λ_ _ _ z=>(nomatch z),ha,λ_ _ z=>(nomatch z)⟩,λτ B σ H' h S=>?_,λ_ _ _ _ h=>h.elim,λ_ _ _ _ h=>h.elim,λv H' bs s h e hf z=>?_,λ_ _=>trivial⟩
 . unfold L2.start Es;simp[d.length]
 . have hl:=d.length;unfold Es at hi;unfold L2.start;by_cases hlt:i<ds.length
   . rw[Hv (by simpa using hlt),HR,ph hlt]at hi;cases hi
     obtain⟨v,e,dv⟩:=d.get (ph hlt);refine⟨rfl,v,?_,dv.mono (aC .(102) λ_ z=>z.elim id λ⟨_,z⟩=>(nomatch z))⟩;rw[Hv (by simpa[hl]using hlt),HR,e];rfl
   . rw[Iu (by simpa using hlt),Le]at hi;split at hi
     . cases hi; rfl
     . cases hi
 . obtain rfl:=(h:r=_);exact q .non H' [] S.same e8 (jC .non)
 . obtain rfl:=(h:s=r);exact q v H' bs e hf z
theorem AE (hΦ:∀ns:List Int,ns.length<=63->Φ [.lst (ns.map .int)] (.d (.bl true)))(H:Hp)(a:Addr)(ns:List Int)(hl:ns.length<=63)(hS:SqL K H a (ns.map V.int)):spD K Φ [.ref a] H (λv _=>v=.bl true) λ_ _ _=>False:=by
 have hh:hd H (λ_=>False)=H:=by funext b; unfold hd; rw[if_neg id]
 refine⟨λ_=>False,_,_,λ_ z=>z.elim,.cons (.lst (vs:=ns.map V.int) (by rw[hh]; exact hS) ?_) .nil,hΦ ns hl,λv H' bs _ _ h=>?_⟩
 . clear hl hS;induction ns with
   | nil=>exact .nil
   | cons n ns ih=>exact .cons .int ih
 . obtain⟨_,u,e,d⟩:=h;cases e
   cases d
   rfl
end
end Hy
namespace K34
open PySem PySem.Spec PyProof.Rows L2 Hy
noncomputable def top (i:Nat):Stmt:=PySem.Challenge.pw_signsmooth_k34_large_ones_taken_apart.main.body.getD i (.Pass ⟨0,0,0,0⟩)
theorem jf:aJ ["_law_cell_here","_law_bases","_law_row","_law_base","_law_k","_law_mixed"] ["_law_cell_here","_law_bases"] (aw (top 44)):=.(1)
theorem jg:aJ ["_law_one","_law_other","_law_rest"] ["_law_one","_law_other"] (aw (top 45)):=.(1)
theorem nr:aJ ["_law_top","_law_bottom","_law_common"] ["_law_top","_law_bottom"] (aw (top 46)):=.(1)
theorem tD:aJ ["_law_one","_law_other"] ["_law_one","_law_other"] (aw (top 53)):=.(1)
theorem vY:aJ ["_law_one","_law_other"] ["_law_one","_law_other"] (aw (top 52)):=.(1)
theorem dN:aJ ["_law_ladder","_law_tracks","_law_rows_here","_law_columns","_law_steps","_law_lines","_law_word","_law_k","_law_weight_here"] ["_law_ladder"] (aw (top 54)):=.(1)
theorem kx:aJ ["_law_rows_here","_law_wide","_law_made_here","_law_i","_law_lines","_law_longer","_law_mask","_law_behind_it","_law_j","_law_key","_law_part"] ["_law_rows_here"] (aw (top 50)):=.(1)
theorem nG:aJ ["_law_table","_law_rows_here","_law_all_bottoms","_law_row","_law_factor","_law_number_here"] ["_law_table"] (aw (top 49)):=.(1)
theorem fF:aJ ["_law_table","_law_made_here","_law_some","_law_lines","_law_mask","_law_columns"] ["_law_table"] (aw (top 55)):=.(1)
theorem j6:aJ ["thing"] ["thing"] (aw (top 17)):=.(1)
theorem qN:aJ ["thing"] ["thing"] (aw (top 7)):=.(1)
theorem eo:aJ ["one","other","greater","lesser","rest"] ["one","other"] (aw (top 9)):=.(1)
theorem lC:aJ ["thing"] ["thing"] (aw (top 8)):=.(1)
theorem vZ:aJ ["thing"] ["thing"] (aw (top 18)):=.(1)
theorem qA:aJ ["thing"] ["thing"] (aw (top 19)):=.(1)
theorem mO:aJ ["thing"] ["thing"] (aw (top 20)):=.(1)
theorem iA:aJ ["many","size","found","turn","longer","choice","least"] ["many","size"] (aw (top 21)):=.(1)
theorem eR:aJ ["known","row","columns","total","k","part"] ["known","row","columns"] (aw (top 31)):=.(1)
theorem gi:aJ ["known","row","column_choices","found","columns"] ["known","row","column_choices"] (aw (top 30)):=.(1)
theorem dt:aJ ["rows","found","known","size","fresh","column_choices","some","columns"] ["rows"] (aw (top 29)):=.(1)
theorem oM:aJ ["row","scale"] ["row","scale"] (aw (top 26)):=.(1)
theorem mM:aJ ["table","scales"] ["table","scales"] (aw (top 27)):=.(1)
theorem kq:aJ ["row","scale","number"] ["row"] (aw (top 25)):=.(1)
theorem gE:aJ ["table","bound","found","choices"] ["table","bound"] (aw (top 28)):=.(1)
theorem oF:aJ ["table","j"] ["table","j"] (aw (top 23)):=.(1)
theorem mS:aJ ["table"] ["table"] (aw (top 22)):=.(1)
theorem ko:aJ ["grid","i"] ["grid","i"] (aw (top 39)):=.(1)
theorem iy:aJ ["one","other","first","second"] ["one","other"] (aw (top 13)):=.(1)
theorem d8:aJ ["top","bottom","divisor"] ["top","bottom"] (aw (top 10)):=.(1)
theorem mf:aJ ["one","other"] ["one","other"] (aw (top 14)):=.(1)
theorem mW:aJ ["one","other","shared","top","divisor"] ["one","other"] (aw (top 11)):=.(1)
theorem rQ:aJ ["one","other"] ["one","other"] (aw (top 12)):=.(1)
theorem kn:aJ ["grid","i","k","weight"] ["grid","i","k"] (aw (top 40)):=.(1)
theorem gm:aJ ["grid","k","steps","i"] ["grid","k"] (aw (top 38)):=.(1)
theorem lO:aJ ["step"] ["step"] (aw (top 33)):=.(1)
theorem kg:aJ ["table","grid","many","ahead","behind","k","corners"] ["table"] (aw (top 37)):=.(1)
theorem ly:aJ ["table","size","wide"] ["table","size"] (aw (top 36)):=.(1)
theorem gI:aJ ["table","below","size"] ["table"] (aw (top 35)):=.(1)
theorem vP:aJ ["_law_script","_law_k"] ["_law_script","_law_k"] (aw (top 43)):=.(1)
theorem ki:aJ ["_law_kind","_law_part","_law_top"] ["_law_kind","_law_part"] (aw (top 47)):=.(1)
theorem nN:aJ ["_law_table","_law_cell_here","_law_parts","_law_made_here","_law_i","_law_j","_law_other","_law_row"] ["_law_table","_law_cell_here"] (aw (top 58)):=.(1)
theorem sL:aJ ["_law_thing"] ["_law_thing"] (aw (top 48)):=.(1)
theorem jE:aJ ["_law_step","_law_tracks","_law_weight_here"] ["_law_step","_law_tracks"] (aw (top 56)):=.(1)
theorem me:aJ ["_law_found","_law_table","_law_steps"] ["_law_found","_law_table"] (aw (top 57)):=.(1)
theorem p9:aJ ["_law_many","_law_number_here","_law_k"] ["_law_many"] (aw (top 42)):=.(1)
theorem kf:aJ ["_law_part","_law_figures","_law_ten_here"] ["_law_part","_law_figures"] (aw (top 51)):=.(1)
theorem nB:aJ ["_law_cell_here","_law_tracks","_law_parts","_law_steps","_law_begin","_law_k"] ["_law_cell_here","_law_tracks"] (aw (top 59)):=.(1)
theorem y6:aJ ["_law_script","_law_parts","_law_tracks","_law_rows_here","_law_columns","_law_table","_law_due","_law_handed","_law_found"] ["_law_script"] (aw (top 60)):=.(1)
end K34
namespace L2
open PySem PySem.Spec PyProof.Rows
section
variable {κ:Type}[DecidableEq κ]
noncomputable def gc (kvs:List (κ×V))(k:κ):Option V:=(kvs.find? λkv=>decide (kv.1=k)).map (·.2)
noncomputable def putK (kvs:List (κ×V))(k:κ)(v:V):List (κ×V):=
 if (kvs.any λkv=>decide (kv.1=k))=true then kvs.map (λkv=>if kv.1=k then (kv.1,v) else kv) else kvs++[(k,v)]
theorem b9 {p:κ×V}(e:p.1=k):gc (p::r) k=some p.2:=by simp[gc,Jx,e]
theorem b7 {p:κ×V}(e:¬p.1=k):gc (p::r) k=gc r k:=by simp[gc,Jx,e]
theorem mr (k:κ):∀kvs:List (κ×V),(kvs.any λkv=>decide (kv.1=k))=(gc kvs k).isSome
 | []=>rfl
 | p::r=>by
   rw[MM];by_cases e:p.1=k
   . simp only[b9 e,decide_eq_true e,Bool.true_or,Option.isSome_some]
   . rw[b7 e,decide_eq_false e,Bool.false_or]; exact mr k r
theorem pW (k j:κ)(y:V):∀kvs:List (κ×V),gc (kvs.map λkv=>if kv.1=k then (kv.1,y) else kv) j=(gc kvs j).map λx=>if j=k then y else x
 | []=>rfl
 | p::r=>by
   have ih:=pW k j y r;rw[Ii];by_cases h:p.1=k
   . rw[if_pos h];by_cases e:p.1=j
     . rw[b9 (p:=(p.1,y)) e,b9 e,Jl,if_pos (e.symm.trans h)]
     . rw[b7 (p:=(p.1,y)) e,b7 e,ih]
   . rw[if_neg h];by_cases e:p.1=j
     . rw[b9 (p:=p) e,b9 e,Jl,if_neg (λz=>h (e.trans z))]
     . rw[b7 (p:=p) e,b7 e,ih]
theorem ng (k j:κ)(y:V):∀kvs:List (κ×V),gc kvs k=none->gc (kvs++[(k,y)]) j=if j=k then some y else gc kvs j
 | [],_=>by
   by_cases e:k=j
   . rw[if_pos e.symm]; exact b9 (p:=(k,y)) e
   . rw[if_neg (λz=>e z.symm)]; exact b7 (p:=(k,y)) e
 | p::r,hn=>by
   rw[IL];have hk:¬p.1=k:=λz=>by rw[b9 z]at hn; cases hn
   rw[b7 hk]at hn;have ih:=ng k j y r hn;by_cases e:p.1=j
   . rw[b9 e,b9 e,if_neg (λz=>hk (e.trans z))]
   . rw[b7 e,b7 e,ih]
theorem xl (kvs:List (κ×V))(k j:κ)(y:V):gc (putK kvs k y) j=if j=k then some y else gc kvs j:=by
 unfold putK;by_cases a:(kvs.any λkv=>decide (kv.1=k))=true
 . rw[if_pos a,pW];rw[mr]at a;by_cases e:j=k
   . obtain⟨x,hx⟩:=KU.mp a;rw[if_pos e,e,hx,Jl,if_pos rfl]
   . rw[if_neg e];cases gc kvs j with
     | none=>rfl
     | some x=>rw[Jl,if_neg e]
 . rw[if_neg a];refine ng k j y kvs ?_;rw[mr]at a;cases q:gc kvs k with
   | none=>rfl
   | some x=>rw[q]at a; exact(a rfl).elim
theorem j9 (kvs:List (κ×V))(k:κ)(v:V):(putK kvs k v).length<=kvs.length+1:=by
 unfold putK;split
 . rw[bp]; omega
 . rw[vp,IA,Lz]; omega
theorem qV.getD (r:qV o u)(rd:RelV d d'):RelV (o.getD d) (u.getD d'):=by
 cases o with
 | none=>cases u with
   | none=>exact rd
   | some _=>exact(show False from r).elim
 | some _=>cases u with
   | none=>exact(show False from r).elim
   | some _=>exact r
theorem KV.val (r:KV kvs vs)(k:κ):qV (gc kvs k) (valueAt vs k):=by
 unfold KV at r;induction r with
 | nil=>exact JG
 | @cons p q ps qs h t ih=>
   obtain⟨h1,h2⟩:=h;by_cases e:p.1=k
   . have e':q.1=k:=h1.symm.trans e;have b:valueAt (q::qs) k=some q.2:=by simp[valueAt,Jx,e']
     rw[b9 e,b]; exact h2
   . have e':¬q.1=k:=λz=>e (h1.trans z)
     have b:valueAt (q::qs) k=valueAt qs k:=by simp[valueAt,Jx,e']
     rw[b7 e,b]; exact ih
theorem KV.any (r:KV kvs vs)(k:κ):(kvs.any λkv=>decide (kv.1=k))=vs.any λkv=>decide (kv.1=k):=by
 unfold KV at r;induction r with
 | nil=>rfl
 | cons h t ih=>rw[MM,MM,ih,h.1]
theorem KV.GB (r:KV kvs vs)(k:κ)(ry:RelV y u):
   KV (kvs.map λkv=>if kv.1=k then (kv.1,y) else kv) (vs.map λkv=>if kv.1=k then (kv.1,u) else kv):=by
 unfold KV at r ⊢;induction r with
 | nil=>exact .nil
 | @cons p q ps qs h t ih=>
   rw[Ii,Ii];refine .cons ?_ ih;obtain⟨h1,h2⟩:=h;by_cases e:p.1=k
   . rw[if_pos e,if_pos (h1.symm.trans e)]; exact⟨h1,ry⟩
   . rw[if_neg e,if_neg (λz=>e (h1.trans z))]; exact⟨h1,h2⟩
theorem KV.put (r:KV kvs vs)(k:κ)(ry:RelV y u):KV (putK kvs k y) (stored vs k u):=by
 unfold putK stored;rw[r.any k];by_cases e:(vs.any λkv=>decide (kv.1=k))=true
 . rw[if_pos e,if_pos e]; exact r.GB k ry
 . rw[if_neg e,if_neg e]; exact Paired.snoc r ⟨rfl,ry⟩
theorem KV.keys {kvs:List (κ×V)}{vs:List (κ×Value)}(r:KV kvs vs):kvs.map (·.1)=vs.map (·.1):=by
 unfold KV at r;induction r with
 | nil=>rfl
 | cons h t ih=>rw[Ii,Ii,ih,h.1]
theorem KV.length {kvs:List (κ×V)}{vs:List (κ×Value)}(r:KV kvs vs):kvs.length=vs.length:=Paired.length r
end
theorem uC (r:RelV (kV k) u):(bX P w).is k u=true:=by
 cases k with
 | inl i=>obtain⟨t,e⟩:=(show ∃t,u=MQ i t from r); subst e; exact qp P w i t
 | inr x=>obtain⟨t,e⟩:=(show ∃t,u=MP x t from r); subst e; exact q9 P w x t
section
variable {P:FB}{w:World}{H:Hp}{h:Heap}{a:Addr}
theorem EV (ok:HOk P w H h)(e:Rd H a u):bL P w H h a u:=e.ok ok
theorem rf (ok:HOk P w H h)(e:Rd H a (.dK kvs)):kvs.length<=sizeLine/\(a==MZ)=false/\∃vs,KV kvs vs/\h.DictOf (bX P w) a vs:=
 show bL P w H h a (.dK kvs) from EV ok e
theorem uF (ok:HOk P w H h)(e:H a=some (.dK kvs)):kvs.length<=sizeLine/\(a==MZ)=false/\∃vs,KV kvs vs/\h.DictOf (bX P w) a vs:=rf ok (.inl e)
end
def yp (H:Hp)(a:Addr)(y:V)(r:Option V):Prop:=∃kvs k,Rd H a (.dK kvs)/\y=kV k/\r=gc kvs k
def Ga (H:Hp)(a:Addr)(y v:V)(H':Hp):Prop:=∃kvs k,H a=some (.dK kvs)/\y=kV k/\kvs.length<sizeLine/\H'=upd H a (.dK (putK kvs k v))
section
variable {X:Cx}{pins:List .(103)}{σ:St}{H:Hp}{s:Da}{a:Addr}{y v:V}{u r:Value}{o:Option V}{A:GT}{E:Value->Da->Prop}
theorem Inv.big (I:Inv X pins σ H s):MZ<s.heap.objs.size:=by
 have h:IR<s.heap.objs.size:=(I.mod.glob.keeps I.bk).lt;exact Jh .(2) h
theorem wm (hu:A.units+1<cLine)(I:Inv X pins σ H s)(g:yp H a y (some v))(ry:RelV y u)(h:∀w' s',Inv X pins σ H s'->RelV v w'->Q w' s'):
   wpAny .(100) A (NK (.ref a) u) Q E s:=by
 obtain⟨kvs,k,e,ey,l⟩:=g;subst ey;obtain⟨z,hd,vs,rel,dd⟩:=rf I.hok e;obtain⟨w',hw,rw'⟩:=qV.some_of (v:=v) (o:=valueAt vs k) (by rw[l]; exact rel.val k);exact wpAny_getItem_of (uC ry) dd.mapOf hw (h w' _ (I.tok _) rw')
theorem fO (I:Inv X pins σ H s)(mu:Mut (H a))(hs:KO a s.heap h')(he:∃q,h'.get? a=some q)(new:bL X.prog X.w (upd H a ob) h' a ob):
   Inv X pins σ (upd H a ob) { s with heap:=h',toks:=t' }:=
 I.write (x:=a) (e:=a) mu (.inl rfl) (λb q hb z=>(hs.2 b hb).trans z) he new
theorem oN (z:kvs.length<=sizeLine)(hd:(a==MZ)=false)(rel:KV kvs vs)(dd:h'.DictOf (bX P w) a vs):
   bL P w H' h' a (.dK kvs):=⟨z,hd,vs,rel,dd⟩
theorem wz (hu:A.units+1<cLine)(I:Inv X pins σ H s)(g:Ga H a y v H')(ry:RelV y u)(rv:RelV v r)(h:∀s',Inv X pins σ H' s'->Q () s'):
   wpAny .(100) A (Nv (.ref a) u r) Q E s:=by
 obtain⟨kvs,k,e,ey,l,eH⟩:=g;subst ey eH;obtain⟨z,hd,vs,rel,dd⟩:=uF I.hok e;have hz:vs.length<=sizeLine:=by rw[<- rel.length]; exact z
 have hl:(putK kvs k v).length<=sizeLine:=by have:=j9 kvs k v; omega
 refine wpAny_setItem_pairs (hsz:=hz) (uC ry) dd λh' dd' hs=>h _ ?_
 have he:∃q,h'.get? a=some q:=let ⟨q,_,_,hq,_⟩:=dd'; ⟨q,hq⟩
 exact fO I (by rw[e]; exact JG) hs he (oN hl hd (rel.put k rv) dd')
end
def mF (i:Expr):Prop:=∀ov iv,subscripted i false ov iv=operate [ov,iv] (NK ov iv)
theorem oK {prog:FB}{w:World}{A:GT}{E:Value->Da->Prop}{s:Da}{env:Env}{value slice:Expr}{T id:String}{Q:Value->Da->Prop}
   (hl:typeLookup (.type T) "__getitem__" = pure (some (.builtin id))) (hs:mF slice)
   (h:wpAny .(107) A (eval value env) (λo s₁=>wpAny .(107) A (eval slice env) (λi s₂=>s₂.TypeIs o T/\wpAny .(107) A (NK o i) Q E s₂) E s₁) E s) :
   wpAny .(107) A (eval (.Subscript value slice pos) env) Q E s:=by
 refine Subscript_ (Nt h (λo s₁ h₁=>Nt h₁ (λi s₂ h₂=>?_) λ_ _ x=>x) λ_ _ x=>x);obtain⟨hT,h₂⟩:=h₂;unfold subscriptTail;refine AC ?_;rw[getitemInPython_of_ne hT.not_modules];refine AC (MX hT hl ?_)
 have fin:wpAny .(107) A (subscripted slice false o i) (λr s₃=>wpAny .(107) A (letTemporaryGo value o r >>= λ_=>pure r) Q E s₃) E s₂:=by
   rw[hs o i];exact wpAny_operating (Nt h₂ (λr s₃ h₃=>AC (wpAny_letTemporaryGo (Fk h₃))) λ_ _ x=>x)
 first
   | exact Fk (AC fin)
   | exact AC (Fk (AC fin))
   | exact AC fin
theorem qu {X:Cx}{pins:List .(103)}{σ:St}{s:Da}{o:Option V}(I:Inv X pins σ H s)(g:yp H a y o):s.TypeIs (.ref a) "dict":=by
 obtain⟨kvs,k,e,_,_⟩:=g;obtain⟨_,_,vs,_,dd⟩:=rf I.hok e;exact dd.typeIs
def F2 (td ty:TE):TE:=λσ H Q=>td σ H λx H1=>ty σ H1 λy H2=>∃a v,x=.ref a/\yp H2 a y (some v)/\Q v H2
def Fx (td ty tv:TE):TS:=λD σ H=>tv σ H λv H1=>td σ H1 λx H2=>ty σ H2 λy H3=>∃a H4,x=.ref a/\Ga H3 a y v H4/\D.nx σ H4
section
variable {X:Cx}{o i value:Expr}{pos pos':Pos}{td ty tv:TE}
theorem AK (hu:X.A.units+1<cLine)(ho:PE X o td)(hi:PE X i ty)(hs:mF i):PE X (.Subscript o i pos) (F2 td ty):=by
 intro pins s σ H Q I h;refine oK PySem.F.slot_dict_getitem.lookup hs (thn (ho pins s σ H _ I h) λu s1 ⟨x,H1,I1,rx,q1⟩=>thn (hi pins s1 σ H1 _ I1 q1) λiv s2 ⟨y,H2,I2,ry,a,v,ex,g,q2⟩=>?_);subst ex;obtain rfl:u=Ip a:=rx;exact⟨qu I2 g,wm hu I2 g ry λw' s3 I3 rw'=>⟨v,H2,I3,rw',q2⟩⟩
theorem A4 (hu:X.A.units+1<cLine)(ho:PE X o td)(hi:PE X i ty)(hv:PE X value tv)(hs:M7 value (some (.Subscript o i pos')) pos.line X.env=pure false):
   PS X (.Assign [.Subscript o i pos'] value pos) (Fx td ty tv):=by
 intro pins s σ H D I h;refine wpAny_Assign_Subscript (thn (hv pins s σ H _ I h) λr s1 ⟨v,H1,I1,rv,q1⟩=>thn (ho pins s1 σ H1 _ I1 q1) λu s2 ⟨x,H2,I2,rx,q2⟩=>thn (hi pins s2 σ H2 _ I2 q2) λiv s3 ⟨y,H3,I3,ry,a,H4,ex,g,q3⟩=>?_) hs;subst ex;obtain rfl:u=Ip a:=rx;exact wz hu I3 g ry rv λs4 I4=>⟨σ,H4,I4,q3⟩
end
theorem qm (h:Heap)(hb:MZ<h.objs.size):bL P w H (h.push { cls:=.type "dict",data:=.dict #[] }) h.objs.size (.dK []):=
 ⟨HL _,beq_eq_false_iff_ne.mpr (ID (Il hb)),[],.nil,Heap.DictOf.new h⟩
def C1:TE:=λ_ H Q=>∀p,H p=none->Q (.ref p) (upd H p (.dK []))
section
variable {X:Cx}{pos:Pos}
theorem x8:PE X (.Dict [] [] pos) C1:=λpins s σ H Q I h=>
 wpAny_Dict_empty ⟨.ref s.heap.objs.size,_,I.laid (a:=s.heap.objs.size) (o:=.dK []) (t':=s.toks) (λ_ _ q=>pq _ q) .(3) (qm s.heap I.big),rfl,h _ (I.hok.fresh .(3))⟩
end
noncomputable def tL:List (TE×TE)->St->Hp->(List (V×V)->Hp->Prop)->Prop
 | [],_,H,Q=>Q [] H
 | (tk,tv)::r,σ,H,Q=>tk σ H λx H1=>tv σ H1 λy H2=>tL r σ H2 λps H3=>Q ((x,y)::ps) H3
noncomputable abbrev VV:List (V×V)->List (Value×Value)->Prop:=Paired λp q=>RelV p.1 q.1/\RelV p.2 q.2
def PPs (X:Cx)(pos:Pos)(keys:List (Option Expr))(values:List Expr)(trs:List (TE×TE)):Prop:=
 ∀(pins:List .(103)) (s:Da) (σ:St) (H:Hp) (Q:List (V×V)->Hp->Prop),Inv X pins σ H s->tL trs σ H Q ->
   wpAny .(100) X.A (evalPairs (pairTrees keys values X.env pos)) (λvs s'=>∃ps H',Inv X pins σ H' s'/\VV ps vs/\Q ps H') X.xe s
theorem Aa :PPs X pos [] [] []:=λpins s σ H Q I h=>pairTrees_nil_walk ⟨[],H,I,.nil,h⟩
theorem wV (hk:PE X k tk)(hv:PE X v tv)(hr:PPs X pos ks vs trs):
   PPs X pos (some k::ks) (v::vs) ((tk,tv)::trs):=λpins s σ H Q I h=>
 pairTrees_cons_walk (thn (hk pins s σ H _ I h) λu s1 ⟨x,H1,I1,rx,q1⟩=>thn (hv pins s1 σ H1 _ I1 q1) λw2 s2 ⟨y,H2,I2,ry,q2⟩=>
   thn (hr pins s2 σ H2 _ I2 q2) λws s3 ⟨ps,H3,I3,rel,q3⟩=>⟨(x,y)::ps,H3,I3,.cons ⟨rx,ry⟩ rel,q3⟩)
noncomputable def jK (kvs more:List (Key×V)):List (Key×V):=more.foldl (λacc kv=>putK acc kv.1 kv.2) kvs
theorem KV.merge:∀{more:List (Key×V)} {rs:List (Key×Value)} {kvs:List (Key×V)} {vs:List (Key×Value)},KV more rs->KV kvs vs->KV (jK kvs more) (merged vs rs):=by
 intro more rs kvs vs r;unfold KV at r;induction r generalizing kvs vs with
 | nil=>intro q; exact q
 | @cons p q ps qs h t ih=>
   intro r0
   have e:KV (putK kvs p.1 p.2) (stored vs q.1 q.2):=by
     have:=r0.put p.1 h.2;rw[<- h.1]; exact this
   exact ih e
theorem iz:∀(more kvs:List (Key×V)),(jK kvs more).length<=kvs.length+more.length
 | [],kvs=>by show kvs.length<=kvs.length+0; omega
 | p::r,kvs=>by
   have h1:=iz r (putK kvs p.1 p.2);have h2:=j9 kvs p.1 p.2;show (jK (putK kvs p.1 p.2) r).length<=_;rw[IA]; omega
theorem lg :∀{kvs:List (Key×V)} {ws:List (Value×Value)},VV (kvs.map λkv=>(kV kv.1,kv.2)) ws->∃rs,Carries (bX P w) ws rs/\KV kvs rs
 | [],_,r=>by rw[Lx]at r; cases r; exact⟨[],JG,.nil⟩
 | p::kvs,_,r=>by
   rw[Ii]at r;cases r with
   | @cons a b as bs h t=>
     obtain⟨rs,c,q⟩:=lg (P:=P) (w:=w) t;obtain⟨b1,b2⟩:=b;exact⟨(p.1,b2)::rs,⟨uC h.1,rfl,c⟩,.cons ⟨rfl,h.2⟩ q⟩
def Gp (trs:List (TE×TE)):TE:=λσ H Q=>∀p,H p=none->tL trs σ (upd H p (.dK [])) λps H2=>H2 p=some (.dK [])/\∃kvs:List (Key×V),ps=kvs.map (λkv=>(kV kv.1,kv.2))/\kvs.length<=15/\Q (.ref p) (upd H2 p (.dK (jK [] kvs)))
theorem Ai (h:PPs X pos keys values trs)(hall:keys.all (·.isSome)=true)(hl:keys.length=values.length)(h0:keys≠[])
   (h15:keys.length<=15):PE X (.Dict keys values pos) (Gp trs):=by
 intro pins s σ H Q I q;have hn:=I.hok.fresh (Ia s.heap.objs.size);have I1:=I.laid (a:=s.heap.objs.size) (o:=.dK []) (h':=s.heap.push { cls:=.type "dict",data:=.dict #[] }) (t':=s.toks) (λ_ _ q=>pq _ q) .(3) (qm s.heap I.big);refine wpAny_Dict_walk (knd:=bX X.prog X.w) hall hl h0 h15 (thn (h pins _ σ _ _ I1 (q _ hn)) λws s2 ⟨ps,H2,I2,rel,e,kvs,ep,lk,q2⟩=>?_);subst ep;obtain⟨rs,c,rk⟩:=lg (P:=X.prog) (w:=X.w) rel;obtain⟨z,hd,vs0,r0,dd⟩:=uF I2.hok e;cases r0
 refine⟨rs,c,dd,λh' dd' hs=>⟨.ref s.heap.objs.size,_,?_,rfl,q2⟩⟩
 have hz:(jK [] kvs).length<=sizeLine:=by
   have h1:=iz kvs [];rw[Lz]at h1;rw[sizeLine_eq]; omega
 have he:∃q,h'.get? s.heap.objs.size=some q:=let ⟨q,_,_,hq,_⟩:=dd'; ⟨q,hq⟩
 exact fO I2 (by rw[e]; exact JG) hs he (oN hz hd (rk.merge .nil) dd')
structure M2 (X:Cx)(o:Expr)(m:Str)(apos:Pos)(e f:Expr)(cpos:Pos):Prop where
 base:M9 o m X.env (eval o X.env)=eval o X.env
 few:((M5 cpos (Do [e,f] X.env)).all (λx=>!x.1)&&(Nj cpos (N2 [] X.env)).all (λx=>x.1.isSome)
   && decide (([e,f]:List Expr).length+([]:List MW).length+(if ([]:List MW).isEmpty then 0 else 1)<30))=true
 line:(apos.endLine==cpos.line)=true
 trees:M5 cpos (Do [e,f] X.env)=[.(117),(false,eval f X.env)]
def IsD (H:Hp)(a:Addr):Prop:=∃kvs,Rd H a (.dK kvs)
theorem DQ {X:Cx}{pins:List .(103)}{σ:St}{s:Da}(I:Inv X pins σ H s)(d:IsD H a):
   s.TypeIs (.ref a) "dict" /\ (∀b,Ip a=.ref b->∃ob,s.heap.get? b=some ob/\ob.dict=none)/\(a==MZ)=false:=by
 obtain⟨kvs,e⟩:=d;obtain⟨_,hd,vs,_,dd⟩:=rf I.hok e;refine⟨dd.typeIs,λb q=>?_,hd⟩;cases q
 obtain⟨ob,_,_,h1,h2,_⟩:=dd;exact⟨ob,h1,h2.2.1⟩
section
variable {X:Cx}{pins:List .(103)}{σ:St}{H:Hp}{s:Da}{a:Addr}{y d:V}{u r:Value}{o:Option V}{A:GT}{E:Value->Da->Prop}
theorem Cv (hu:A.units+1<cLine)(I:Inv X pins σ H s)(g:yp H a y o)(ry:RelV y u)(rd:RelV d r)(h:∀w' s',Inv X pins σ H s'->RelV (o.getD d) w'->Q w' s'):
   wpAny .(100) A (call (.builtin "dict.get") [.ref a,u,r]) Q E s:=by
 obtain⟨kvs,k,e,ey,l⟩:=g;subst ey;obtain⟨z,hd,vs,rel,dd⟩:=rf I.hok e;refine call_meetsIn MC dd.typeIs PySem.F.entry_dict_get (PySem.F.args_dict_get_3 _ _ _) (meets_dict_get_default (bX X.prog X.w) a (uC ry) hd r) ⟨_,dd.mapOf,h _ _ (I.tok _) ?_⟩;rw[l];exact(rel.val k).getD rd
end
def Cc (td ty tx:TE):TE:=λσ H Q=>td σ H λx H1=>∃a,x=.ref a/\IsD H1 a/\ty σ H1 λy H2=>tx σ H2 λz H3=>∃o,yp H3 a y o/\Q (o.getD z) H3
section
variable {X:Cx}{o e f:Expr}{apos cpos:Pos}{td ty tx:TE}
theorem xt (hu:X.A.units+1<cLine)(ho:PE X o td)(he:PE X e ty)(hf:PE X f tx)(m:M2 X o "get" apos e f cpos):PE X (.Call (.Attribute o "get" apos) [e,f] [] cpos) (Cc td ty tx):=by
 intro pins s σ H Q I h;refine wpAny_Call_method m.base m.few m.line PySem.F.plainAttrs_dict MC PySem.F.type_dict_get (thn (ho pins s σ H _ I h) λu s1 ⟨x,H1,I1,rx,a,ex,d,q1⟩=>?_);subst ex;obtain rfl:u=Ip a:=rx;obtain⟨t1,t2,_⟩:=DQ I1 d;refine⟨t1,t2,?_⟩;rw[m.trees]
 refine MH rfl (Calls.evalArgs_plain (Kb (thn (he pins s1 σ H1 _ I1 q1) λiv s2 ⟨y,H2,I2,ry,q2⟩=>
   Kb (thn (hf pins s2 σ H2 _ I2 q2) λfv s3 ⟨z,H3,I3,rz,ov,g,q3⟩=>K6 ?_))))
 exact Cv hu I3 g ry rz λw' s4 I4 rw'=>⟨_,H3,I4,rw',q3⟩
end
end L2
namespace Ev
open PySem PySem.Spec PyProof.Rows L2
open PySem.Builtin.Range (rangeFitsLong rangeSize)
noncomputable def jt (n:Int):Obj:={ cls:=.type "range_iterator",data:=.fields #[Nc (0+(rangeSize 0 n 1-1)*1),Nc (rangeSize 0 n 1),Nc (-1)] }
theorem fits_of (h1:-(2^62)<=i)(h2:i<=2^62):rangeFitsLong i=true:=by
 unfold rangeFitsLong;rw[Iy,decide_eq_true_iff,decide_eq_true_iff];omega
theorem zz (h:0<=n):rangeSize 0 n 1=n:=by
 rw[rangeSize_one];split <;> omega
theorem Ct (h0:0<=n)(h1:n<2^62):.(116)=true:=by
 rw[zz h0,fits_of (i:=n) .(0) .(0)];decide
theorem wg (r:Addr)(n:Int)(t u v:Tok)(hs:.(116)=true):
   Meets (Builtin.«range.__reversed__» ⟨[.ref r],[]⟩) (λ_ R s=>NL s.heap r 0 n 1 t u v/\R (.ok (.ret (Ip s.heap.objs.size))) { s with heap:=s.heap.push (jt n),toks:=s.toks }):=
 .of_wp λprog w A R s h=>by
   obtain⟨hp,g,d,tk,os⟩:=s;obtain⟨hl,h⟩:=h;have hs':(!.(116))=false:=by rw[hs]; rfl
   wp_walk
   rw[if_neg (by rw[hs]; decide),if_pos hs];exact AC (GM (Fk ⟨_,rfl,h⟩))
section
variable {prog:FB}{w:World}{A:GT}{E:Value->Da->Prop}{s:Da}
theorem k5 (hr:NL s.heap r 0 n 1 t u v)(h0:0<=n)(h1:n<2^62)
   (h:Q .(129) { s with heap:=s.heap.push (jt n) }):wpAny .(107) A (call (.builtin "range.__reversed__") [.ref r]) Q E s:=
 Nm F.slot_range_reversed ⟨_,hr,rfl⟩ F.entry_range_reversed (F.args_range_reversed_1 _) (wg r n t u v (Ct h0 h1)) ⟨hr,h⟩
theorem oJ (hr:NL s.heap r 0 n 1 t u v)(h0:0<=n)(h1:n<2^62)
   (h:Q₁ .(129) { s with heap:=s.heap.push (jt n) }) :
   Nq .(107) A (.call (.builtin "reversed.__new__") ⟨[.type "reversed",.ref r],[]⟩) (wants Q₁ E) s:=by
 have hT:s.TypeIs (.ref r) "range":=⟨_,hr,rfl⟩;refine codeAny_of_tree ?_;refine AC (MV (F.newCall_reversed_1 _) (Fk ⟨Nb KC _,N1 F.entry_reversed_new ?_⟩));rw[Js KC _];unfold Builtin.«reversed.__new__»;refine AC (MV (newClass_reversed _) ?_)
 try dsimp only
 refine AC (MV (a:=()) .(20) ?_);refine AC (MV (a:=()) .(20) ?_)
 try dsimp only
 refine AC (MX hT F.slot_range_reversed.lookup ?_)
 try dsimp only
 refine AC (MV (F.slot_range_reversed.bind _) ?_)
 try dsimp only
 first
 | rw[if_neg (show ¬((JV "range.__reversed__" == Jb)=true) from HG)]
 | (show wpAny _ _ (if (JV "range.__reversed__" == Jb)=true then _ else _) _ _ _; rw[if_neg (show ¬((JV "range.__reversed__" == Jb)=true) from HG)])
 refine AC (Ny ?_);refine AC (m:=runValue (.call (.builtin "range.__reversed__") ⟨[.ref r],[]⟩)) (show wpAny _ _ (call (.builtin "range.__reversed__") [.ref r]) _ _ _ from k5 hr h0 h1 ?_)
 first
 | exact Fk h
 | exact AC (Fk (Fk h))
theorem gj:isSubtype (.type "range_iterator") (.type "reversed")=pure false:=by rw[isSubtype_type]; kernel_rfl
theorem lQ (hr:NL s.heap r 0 n 1 t u v)(h0:0<=n)(h1:n<2^62)
   (h:Q .(129) { s with heap:=s.heap.push (jt n) }):wpAny .(107) A (call (.type "reversed") [.ref r]) Q E s:=by
 refine callType_other (U:="range_iterator") (Q₁:=λobj s₁=>obj=.ref s.heap.objs.size/\s₁={ s with heap:=s.heap.push (jt n) }) .(22) F.create_reversed ⟨_,_,F.mro_reversed⟩ F.made_reversed gj (F.typeCall_reversed_1 _) (oJ hr h0 h1 ⟨rfl,rfl⟩) ?_;rintro obj s₁ ⟨rfl,rfl⟩;exact⟨⟨_,Hz _ rfl,rfl⟩,h⟩
end
noncomputable def Itd (n:Nat):L2.It:=⟨λi _=>i<n,λi H x H'=>H'=H/\x=.int ((n:Int)-1-i),λi _=>n<=i⟩
theorem Af {P:FB}{w:World}{K:fw}{tg:Expr}(it:Addr)(n:Nat):Turn P w K false tg (Itd n) [it] it (λi h=>i<=n/\N7 h it ((n:Int)-1+(i:Nat)*(-1)) ((n:Int)-(i:Nat)) (-1)) where
 mem:=by simp
 obj:=λi h st b hb=>by
   have e:b=it:=by simpa using hb
   subst e
   exact⟨_,st.2,λv z=>by
     have z':Data.fields _=Data.cell v:=z;cases z'⟩
 keep:=λi h h' st k=>⟨st.1,k it .(4) _ st.2⟩
 item:=by
   intro X hP hw hK hc i pins s σ H E I hf st hg;subst hP hw hK;obtain⟨f0,f1,f2,f3,f4,f5⟩:=hf it .(4);have W:=Mi (prog:=X.prog) (w:=X.w) (I.ok.hd hc.calm) it ((n:Int)-1) (-1) n;refine W.item i s _ _ hg st.2 λv h' tk hv st' kk=>?_
   obtain⟨t,rfl⟩:=hv;have I1:Inv X pins σ H { s with heap:=h',toks:=tk }:=I.turned (λb o hb e=>kk b o (by simpa using hb) e) f0 f1 f3 f4 f5;refine⟨_,rfl,kj (s:={ s with heap:=h',toks:=tk }) (n:="range_iterator") st' rfl rfl .(2) ⟨.int ((n:Int)-1-i),H,I1,⟨t,?_⟩,⟨rfl,rfl⟩,⟨hg,st'⟩,λb hb=>(hf b hb).1⟩⟩;rw[Int.mul_neg,Int.mul_one,<- Int.sub_eq_add_neg]
 done:=by
   intro X hP hw hK hc i pins s σ H E I hf st hg;subst hP hw hK;obtain⟨f0,f1,f2,f3,f4,f5⟩:=hf it .(4);have hg:n<=i:=hg;obtain rfl:i=n:=Nat.le_antisymm st.1 hg;have W:=Mi (prog:=X.prog) (w:=X.w) (I.ok.hd hc.calm) it ((i:Int)-1) (-1) i;exact W.done s _ _ st.2 λh' tk kk=>⟨rfl,I.turned (λb o hb e=>kk b o (by simpa using hb) e) f0 f1 f3 f4 f5⟩
 self:=λ_ _ _ _ _ st h=>N8 st.2 h
section
variable {X:Cx}{tg:Expr}
def iDn (ta:TA):TI:=λσ H R=>ta σ H λvs H1=>∃n:Nat,vs=[.int n]/\n<1000/\R (Itd n) H1
theorem BL {a:Expr}{ta:TA}{p p' pos pos':Pos}(hc:X.calm=true)(hg:Gl X "reversed")(hm:X.mg "reversed" = none)(hg':Gl X "range")(hm':X.mg "range" = none)(ha:PA X [a] ta)(hs':Do [a] X.env=[.(118)]:=by rfl)
   (hs:Do [.Call (.Name "range" p') [a] [] pos'] X.env=[(false,eval (.Call (.Name "range" p') [a] [] pos') X.env)]:=by rfl):PI X tg (.Call (.Name "reversed" p) [.Call (.Name "range" p') [a] [] pos'] [] pos) (iDn ta):=by
 intro pins s σ H R I h;refine Call_ (cV I hg hm lI (Ib ?_ hs rfl));rw[hs];refine Kb (Call_ (cV I hg' hm' NQ (Ib (thn (ha pos' pins s σ H _ I h) λus s1 ⟨vs,H1,I1,r1,n,e,hn,q⟩=>?_) hs' rfl)));subst e;cases r1 with
 | cons r rr=>
   cases rr
   obtain⟨t,rfl⟩:=r;refine call_range_1 (K6 ?_);have I2:Inv X pins σ H1 { s1 with heap:=s1.heap.push { cls:=.type "range",data:=.fields #[.int 0 s1.toks,.int n t,.int 1 (s1.toks+1)] },toks:=s1.toks+1+1 }:=I1.kept λb o e=>pq _ e
   refine lQ (L9 ..) .(0) .(0) ?_;have z:rangeSize 0 (n:Int) 1=n:=zz .(0);have st:(Heap.push (s1.heap.push { cls:=.type "range",data:=.fields #[.int 0 s1.toks,.int n t,.int 1 (s1.toks+1)] }) (jt n)).get? (s1.heap.push { cls:=.type "range",data:=.fields #[.int 0 s1.toks,.int n t,.int 1 (s1.toks+1)] }).objs.size=some (jt n):=Hz _ rfl
   have st':N7 (Heap.push (s1.heap.push { cls:=.type "range",data:=.fields #[.int 0 s1.toks,.int n t,.int 1 (s1.toks+1)] }) (jt n)) (s1.heap.push { cls:=.type "range",data:=.fields #[.int 0 s1.toks,.int n t,.int 1 (s1.toks+1)] }).objs.size ((n:Int)-1+((0:Nat):Int)*(-1)) ((n:Int)-((0:Nat):Int)) (-1):=by
     unfold N7;rw[st,jt,z];congr 6
     all_goals (simp)
   refine N8 (x:=(n:Int)-1+((0:Nat):Int)*(-1)) (left:=(n:Int)-((0:Nat):Int)) (step:=-1) st' ?_;refine⟨false,_,[(s1.heap.push { cls:=.type "range",data:=.fields #[.int 0 s1.toks,.int n t,.int 1 (s1.toks+1)] }).objs.size],_,_,H1,rfl,I2.kept (t':=s1.toks+1+1) λb o e=>pq _ e,.inl hc,Af _ n,⟨HL _,st'⟩,λb hb=>?_,q⟩;have e:b=(s1.heap.push { cls:=.type "range",data:=.fields #[.int 0 s1.toks,.int n t,.int 1 (s1.toks+1)] }).objs.size:=by simpa using hb
   subst e;exact I2.jH .(3) (I2.hok.fresh .(3))
end
end Ev
namespace Ev
open PySem PySem.Spec PyProof.Rows L2
noncomputable def cN (kv:List (Int×Int)):List (Key×V):=kv.map λp=>(.inl p.1,.int p.2)
noncomputable def Itk (a:Addr)(o:Obj)(kv:List (Int×Int)):L2.It:=
 ⟨λi H=>i<kv.length/\H a=some (.frz o (.dK (cN kv))),λi H x H'=>H'=H/\∃p,kv[i]?=some p/\x=.int p.1,λi H=>kv.length<=i/\H a=some (.frz o (.dK (cN kv)))⟩
theorem yf {X:Cx}{pins:List .(103)}{σ:L2.St}{s:Da}{o:Obj}{kvs:List (Key×V)}{es:Array NM}(I:Inv X pins σ H s)(h:H a=some (.frz o (.dK kvs)))(hd:o.data=.dict es ep):
   ∃vs,KV kvs vs/\s.heap.DictAt (bX X.prog X.w) a vs ep:=by
 obtain⟨e,_,_,vs,rel,o',es',ep',e',r⟩:=(show bL X.prog X.w H s.heap a (.frz o (.dK kvs)) from I.hok a _ h);rw[e]at e'; cases e'
 have z:=r.2.1;rw[hd]at z;injection z with z1 z2;subst z1 z2;exact⟨vs,rel,o,es,e,r⟩
theorem v7 {P:FB}{w:World}{K:fw}{tg:Expr}(a it:Addr)(o:Obj)(kv:List (Int×Int))(es:Array NM)(ep:Nat)(hd:o.data=.dict es ep):
   Turn P w K false tg (Itk a o kv) [it] it (λi h=>i<=kv.length/\h.IsKeyIter it a i kv.length ep) where
 mem:=by simp
 obj:=λi h st b hb=>by
   have e:b=it:=by simpa using hb
   subst e;obtain⟨o,e,c,d⟩:=st.2;exact⟨o,e,λv z=>by rw[d]at z; cases z⟩
 keep:=λi h h' st k=>⟨st.1,st.2.at λo e=>k it .(4) o e⟩
 item:=by
   intro X hP hw hK hc i pins s σ H E I hf st hg;subst hP hw hK;obtain⟨hi,ha⟩:=hg;obtain⟨f0,f1,f2,f3,f4,f5⟩:=hf it .(4);obtain⟨vs,rel,dd⟩:=yf I ha hd;have hl:kv.length=vs.length:=by rw[<- rel.length,cN,bp]
   have st2:=st.2;rw[hl]at st2;have hx:vs[i]?=some vs[i]:=by simp[show i<vs.length by omega]
   have kk:=congrArg (λl=>l[i]?) rel.keys;simp only[cN,Ik,HR,hx,ph hi,Jl,J6]at kk;have kk:=Im kk;refine wpAny_pyNext_dict_item st2 dd hx λkey h' hk st' sb=>?_
   have hk:(bX X.prog X.w).is (Kf kv[i].fst) key=true:=by rw[kk]; exact hk
   obtain⟨t,rfl⟩:=Value.isInt_shape (show Value.isInt _ key=true from hk);have I1:Inv X pins σ H { s with heap:=h' }:=I.turned (t':=s.toks) (λb o hb e=>(sb.2 b hb).trans e) f0 f1 f3 f4 f5;obtain⟨o',e,c,d⟩:=id st';refine⟨_,rfl,kj (s:={ s with heap:=h' }) e c d .(2) ⟨.int kv[i].1,H,I1,⟨t,rfl⟩,⟨rfl,_,ph hi,rfl⟩,⟨hi,by rw[hl]; exact st'⟩,λb hb=>(hf b hb).1⟩⟩
 done:=by
   intro X hP hw hK hc i pins s σ H E I hf st hg;subst hP hw hK;obtain⟨hi,ha⟩:=hg;obtain⟨f0,f1,f2,f3,f4,f5⟩:=hf it .(4);obtain⟨vs,rel,dd⟩:=yf I ha hd;have hl:kv.length=vs.length:=by rw[<- rel.length,cN,bp]
   have st2:=st.2;rw[hl]at st2;exact wpAny_pyNext_dict_end (I.ok.hd hc.calm) st2 dd (Jn .(0)) λh' eb=>⟨rfl,I.turned (t':=s.toks) (λb o hb e=>eb b o hb e) f0 f1 f3 f4 f5⟩
 self:=λ_ _ _ _ _ st h=>NG st.2 h
section
variable {X:Cx}{tg:Expr}
def w8 (tl:TE):TI:=λσ H R=>tl σ H λx H1=>∃a o kv,x=.ref a/\H1 a=some (.frz o (.dK (cN kv)))/\R (Itk a o kv) H1
theorem qR (hc:X.calm=true)(hl:PE X l tl):PI X tg l (w8 tl):=by
 intro pins s σ H R I h;refine thn (hl pins s σ H _ I h) λu s1 ⟨x,H1,I1,r1,a,o,kv,ex,ha,q⟩=>?_
 subst ex;cases r1
 obtain⟨e,ok⟩:=(show bL X.prog X.w H1 s1.heap a (.frz o (.dK (cN kv))) from I1.hok a _ ha);obtain⟨z,hd,vs,rel,o',es,ep,e',r⟩:=ok;rw[e]at e';cases e'
 refine wpAny_pyIter_dict hd (show s1.heap.DictAt (bX X.prog X.w) a vs ep from⟨o,es,e,r⟩) ?_;have hv:vs.length=kv.length:=by rw[<- rel.length,cN,bp]
 refine⟨false,s1.heap.objs.size,[s1.heap.objs.size],_,_,H1,rfl,I1.kept (t':=s1.toks) λb o e=>pq _ e,.inl hc,v7 a _ o kv es ep r.2.1,⟨HL _,?_⟩,λb hb=>?_,q⟩
 . rw[<- hv];exact⟨_,Hz _ rfl,rfl,rfl⟩
 . have e:b=s1.heap.objs.size:=by simpa using hb
   subst e;exact I1.jH .(3) (I1.hok.fresh .(3))
end
end Ev
namespace Hy
open PySem PySem.Spec PyProof.Rows L2
open Ev (D Den av aH aL aq aY aR)
section
variable {X:Cx}{C:Bool}{τ:List Sl}{x y z:D}{a b e:Expr}{pos p:Pos}{k:Nat}{s:Sl}{i j:Int}
theorem AD:OpR X (KB .Add) (λx y H Q=>∃l b xs zs,x=.ref l/\y=.ref b/\SqL X.K H l xs/\SqL X.K H b zs/\xs.length+zs.length<=sizeLine/\∀p,H p=none->Q (.ref p) (upd H p (.lst (xs++zs)))):=by
 intro pins s σ H x y v u Q I rx ry h;obtain⟨l,b,xs,zs,rfl,rfl,hH,hB,hz,q⟩:=h;cases rx
 cases ry
 obtain⟨its,r,pl,_⟩:=I.list hH;obtain⟨its2,r2,pl2,_⟩:=I.list hB;have hl:=r.length;have hl2:=r2.length;obtain⟨⟨cls,dd,data,sl⟩,ho,hc,n,hd⟩:=pl.isList;obtain⟨⟨cls2,dd2,data2,sl2⟩,ho2,hc2,n2,hd2⟩:=pl2.isList;simp only at hc hd hc2 hd2;subst hc hd hc2 hd2;have e:its.toArray++its2.toArray=(its++its2).toArray:=by simp
 refine concat_meets ⟨_,ho,rfl⟩ ⟨_,ho2,rfl⟩ noFill_list_add seq_list_add PySem.F.slot_list_add PySem.F.entry_list_add (PySem.F.args_list_add_2 _ _) (list_addW l b its.toArray its2.toArray n n2 dd dd2 sl sl2 (by rw[HD,HD]; omega)) ⟨ho,ho2,?_⟩;rw[e];exact⟨.ref _,_,I.FY (t':=s.toks) (r.append r2) (by rw[vp]; omega),rfl,q _ I.fresh⟩
theorem uS (ha:PE X a (dE X.K C τ (.d (.lst xs))))(hb:PE X b (dE X.K C τ (.d (.lst ys))))(hl:xs.length+ys.length<1000000):PE X (.BinOp a .Add b pos) (dE X.K C τ (.o (xs++ys))):=peW (wM AD ha hb) λσ H Q ⟨A,H₀,B,S,k⟩=>
 aU S λv H1 e1 d1=>aU (S.mono e1) λw H2 e2 d2=>by
   cases d1 with
   | lst h1 r1=>cases d2 with
     | lst h2 r2=>
       refine⟨_,_,_,_,rfl,rfl,aR (aS.trans e2) h1,aR aS h2,by rw[r1.length,r2.length]; exact Jp (Jh hl .(2)),λp hp=>?_⟩;obtain⟨z1,z2,z3⟩:=jX (K:=X.K) hp ((r1.mono (aC e2 λ_ z=>z)).append r2);exact k _ _ [p] (e1.trans (e2.trans z1)) (λb hb=>⟨(e1.trans e2).free (z2 b hb).1,(z2 b hb).2⟩) z3
theorem mkL (h:i.natAbs<2^60):aH i j:=.inl (by
 rcases JD i.natAbs with z | z
 . rw[z]; decide
 . exact Jh ((KL .(0)).mpr h) .(2))
theorem mkR (h:j.natAbs<2^60):aH i j:=.inr (.inl (by
 rcases JD j.natAbs with z | z
 . rw[z]; decide
 . exact Jh ((KL .(0)).mpr h) .(2)))
theorem mkD (h0:j≠0)(h:j.natAbs<2^62):aL j:=⟨h0,Jh ((KL .(0)).mpr h) .(2)⟩
end
theorem aG {α:Type}{xs:List α}{i:Nat}{x:α}(h:xs[i]?=some x):atI xs (i:Int)=some x:=by
 unfold atI ixN;have:=(rp.mp h).1;rw[if_pos .(0),if_pos .(0)];simpa using h
theorem sC {ns:List Int}{i:Int}(h0:0<=i)(h:i.toNat<ns.length):atI (ns.map D.int) i=some (.int (ns.getD i.toNat 0)):=by
 obtain⟨n,rfl⟩:=Ki h0
 exact aG (by
   have h:n<ns.length:=h;simp[h])
theorem yj (n:Nat):cutD xs none (some (n:Int))=xs.take n:=by
 unfold cutD;rw[HT.kQ,HT.mw,MB,Nat.sub_zero];rcases Nat.le_total n xs.length with h | h
 . rw[KJ h]
 . rw[Nat.min_eq_right h,HP .(3),HP h]
theorem getD_none {α:Type}{xs:List α}{d:α}(h:xs.length<=i):xs.getD i d=d:=by simp[K8,h]
theorem ex1 {α:Type}{p:α->Prop}{a:α}(h:p a):∃a,p a:=⟨a,h⟩
theorem ex2 {α:Type}{p:α->α->Prop}{a b:α}(h:p a b):∃a b,p a b:=⟨a,b,h⟩
theorem ex3 {α:Type}{p:α->α->α->Prop}{a b c:α}(h:p a b c):∃a b c,p a b c:=⟨a,b,c,h⟩
end Hy
namespace L2
open PySem PySem.Spec PyProof.Rows PySem.SeqAt
section
variable {P:FB}{w:World}{A:GT}{E:Value->Da->Prop}{s:Da}
def HK (P:FB)(w:World)(A:GT)(h:Heap)(v:Value)(x:Int)(d:Nat):Prop:=
 ∀(s:Da) (E:Value->Da->Prop) (Q:Int->Da->Prop),s.heap=h->Q x { s with toks:=s.toks+d }->wpAny (model P w) A (pyHash v) Q E s
theorem wJ (hu:A.units<cLine)(hk:IsTup s.heap a #[u,v])(h1:∀B,B.units<=A.units+1->HK P w B s.heap u x m)(h2:∀B,B.units<=A.units+1->HK P w B s.heap v y n)
   (h:Q (Nz (HQ [x,y])) { s with toks:=s.toks+(m+n+1) }):wpAny (model P w) A (pyHash (.ref a)) Q E s:=by
 obtain⟨o,ho,hc,k,hd⟩:=hk;have hT:s.TypeIs (.ref a) "tuple":=⟨o,ho,hc⟩;unfold pyHash;refine AC (wpAny_cRoomFor_or (.inr hu) ?_);refine AC (MX hT F.slot_tuple_hash.lookup ?_);show wpAny _ _ (if (some (JV "tuple.__hash__")==some Jb)=true then _ else _) Q E s;rw[if_neg (by rw[beq_builtin_none]; exact HG)];refine AC (MX hT F.slot_tuple_hash.lookup ?_);show wpAny _ _ (callSpecialIfBoundUnlessNone? (.ref a) "__hash__" _ >>= _) Q E s;refine AC (ND hT Lf (N4 Lf hT F.entry_tuple_hash ?_ (F.args_tuple_hash_1 _)));show wpAny _ _ (Kn (.ref a) >>= _) _ _ s;refine AC (wpAny_tupleItemsOf ho hd ?_);refine AC ?_;rw[<- KN]
 refine Nk _
   (λrest (b:Array Int) s'=>(rest=[u,v]/\b=#[]/\s'=s)\/(rest=[v]/\b=#[x]/\s'={ s with toks:=s.toks+m })\/(rest=[]/\b=#[x,y]/\s'={ s with toks:=s.toks+(m+n) }))
   _ ?_ ?_ _ _ (.inl ⟨rfl,rfl,rfl⟩)
 . rintro z rest b s' (⟨e,rfl,rfl⟩ | ⟨e,rfl,rfl⟩ | ⟨e,_⟩)
   . cases e
     refine AC (h1 _ ?_ _ _ _ rfl ?_)
     . exact Ia _
     . exact Fk (.inr (.inl ⟨rfl,rfl,rfl⟩))
   . cases e
     refine AC (h2 _ ?_ _ _ _ rfl ?_)
     . exact Ia _
     . exact Fk (.inr (.inr ⟨rfl,rfl,by simp[JN]⟩))
   . cases e
 . rintro b s' (⟨e,_⟩ | ⟨e,_⟩ | ⟨_,rfl,rfl⟩)
   . cases e
   . cases e
   show wpAny _ _ (retInt (HQ [x,y])) _ _ _;refine wpAny_ret_mkInt ?_;show wpAny _ _ (if (decide (-(2:Int)^63<=HQ [x,y])&&decide (HQ [x,y]<2^63))=true then _ else _) Q E _;unfold Nz at h;by_cases hr:(decide (-(2:Int)^63<=HQ [x,y])&&decide (HQ [x,y]<2^63))=true
   . rw[if_pos hr];rw[if_pos hr]at h;exact Fk (by simpa[JN]using h)
   . rw[if_neg hr];rw[if_neg hr]at h;exact AC (Ny (Fk (by simpa[JN]using h)))
theorem rW (hk:IsTup s.heap a #[u,v])(h1:∀A E Q,Q true s->wpAny (model P w) A (Nl n u) Q E s)(h2:∀A E Q,Q true s->wpAny (model P w) A (Nl n v) Q E s)(h:Q true s):
   wpAny (model P w) A (Nl (n+1) (.ref a)) Q E s:=by
 obtain⟨o,ho,hc,k,hd⟩:=hk;have hT:s.TypeIs (.ref a) "tuple":=⟨o,ho,hc⟩;unfold Nl;refine AC (MX hT F.slot_tuple_eq.lookup ?_);show wpAny _ _ (isInstance (.ref a) (.type "tuple") >>= _) _ _ s;refine AC (Nx hT isSubtype_tuple_tuple ?_);simp only[LS,Je,if_false];refine AC (Nr ho hd ?_);refine AC ?_;show wpAny _ _ (forIn #[u,v] _ _) _ _ s;rw[<- KN];refine Nk _ (λrest r s'=>r.1=none/\s'=s/\∀z∈rest,z=u\/z=v) _ ?_ ?_ _ _ ⟨rfl,rfl,λz hz=>by simpa using hz⟩
 . rintro z rest r s' ⟨hr,rfl,hall⟩
   have hz:∀A E Q,Q true s'->wpAny (model P w) A (Nl n z) Q E s':=by
     rcases hall z Ih with rfl | rfl
     . exact h1
     . exact h2
   refine AC (hz _ _ _ ?_);simp only[LS,Je,if_false];exact Fk ⟨rfl,rfl,λx hx=>hall x (Et _ hx)⟩
 . rintro⟨r1,r2⟩ s' ⟨hr,rfl,_⟩;simp only at hr;subst hr;exact Fk h
theorem Ag (hu:A.units<cLine)(ha:IsTup s.heap a #[u,v])(hb:IsTup s.heap b #[u',v'])(h1:EqAt A.in1 s u u' p)(h2:EqAt A.in1 s v v' q)(hs:a=b->(p&&q)=true):EqAt A s (.ref a) (.ref b) (p&&q):=by
 by_cases z:a=b
 . subst z;rw[hs rfl];exact .same _
 . have:=EqAt.of_refs z (RcAt.tuples (e:=λj=>if j=0 then p else q) ha hb hu λj j1 j2=>by
     match j,j1 with
     | 0,_=>exact h1
     | 1,_=>exact h2)
   have e:((ox (min (#[u,v]:Array Value).size (#[u',v']:Array Value).size)).all (λj=>if j=0 then p else q)&&(#[u,v]:Array Value).size==(#[u',v']:Array Value).size)=(p&&q):=by
     show (p&&(q&&true)&&true)=(p&&q);cases p <;> cases q <;> rfl
   rw[e]at this;exact this
end
theorem kR (p:IsTup h a x)(q:IsTup h a y):x=y:=by
 obtain⟨o,ho,_,n,hd⟩:=p;obtain⟨o',ho',_,n',hd'⟩:=q;rw[ho]at ho'; cases ho'
 rw[hd]at hd'; cases hd'; rfl
theorem vh (p:IsTup h a x)(ho:h.get? d=some o)(hd:o.data=.dict es ep)(hs:KO d h h'):IsTup h' a x:=by
 obtain⟨o',ho',hc,n,hd'⟩:=p
 have hne:a≠d:=by
   rintro rfl;rw[ho]at ho'; cases ho'
   rw[hd]at hd'; exact nomatch hd'
 exact⟨o',(hs.2 a hne).trans ho',hc,n,hd'⟩
structure IK (P:FB)(w:World)(K:Type)[DecidableEq K] where
 is:Heap->K->Value->Prop
 hash:K->Int
 draws:K->Nat
 dep:Nat
 inj:∀{h:Heap} {v:Value} {x y:K},is h x v->is h y v->x=y
 keeps:∀{h h':Heap} {k:K} {v:Value} {d:Addr} {o:Obj} {es ep},is h k v->h.get? d=some o->o.data=.dict es ep->KO d h h'->is h' k v
 hk:∀{A:GT} {h:Heap} {k:K} {v:Value},is h k v->A.units+dep<cLine->HK P w A h v (hash k) (draws k)
 eq:∀{A:GT} {s:Da} {x y:K} {u v:Value},is s.heap x u->is s.heap y v->A.units+dep<cLine->EqAt A s u v (decide (x=y))
 quiet:∀{s:Da} {k:K} {v:Value} {n:Nat},dep<n->is s.heap k v->∀A E Q,Q true s->wpAny (model P w) A (Nl n v) Q E s
section
variable {P:FB}{w:World}
noncomputable def E4:IK P w Int where
 is:=λ_ k v=>∃t,v=.int k t
 hash:=hashInt
 draws:=λ_=>1
 dep:=0
 inj:=λ⟨_,e⟩ ⟨_,g⟩=>by rw[e]at g; cases g; rfl
 keeps:=λh _ _ _=>h
 hk:=λ⟨_,e⟩ _ s E Q _ hq=>by rw[e]; exact wpAny_pyHash_int hq
 eq:=λ{A s x y u v} ⟨_,e⟩ ⟨_,g⟩ _=>by
   rw[e,g];have:decide (x=y)=(x==y):=by by_cases h:x=y <;> simp[h]
   rw[this];exact .int_int _ _ _ _
 quiet:=λ{s k v n} hn ⟨_,e⟩ A E Q q=>by
   obtain⟨m,rfl⟩:∃m,n=m+1:=⟨n-1,by omega⟩;rw[e];exact Fk q
variable {K K':Type}[DecidableEq K][DecidableEq K']
noncomputable def DA (a:IK P w K)(b:IK P w K'):IK P w (K×K') where
 is:=λh k v=>∃p u u',v=.ref p/\IsTup h p #[u,u']/\a.is h k.1 u/\b.is h k.2 u'
 hash:=λk=>Nz (HQ [a.hash k.1,b.hash k.2])
 draws:=λk=>a.draws k.1+b.draws k.2+1
 dep:=max a.dep b.dep+1
 inj:=λ{h v x y} ⟨p,u,u',e,t,h1,h2⟩ ⟨p',v1,v2,e',t',g1,g2⟩=>by
   rw[e]at e';cases e'
   have q:=kR t t';simp only[Array.mk.injEq,List.cons.injEq,and_true]at q;obtain⟨rfl,rfl⟩:=q;exact Prod.ext (a.inj h1 g1) (b.inj h2 g2)
 keeps:=λ⟨p,u,u',e,t,h1,h2⟩ ho hd hs=>⟨p,u,u',e,vh t ho hd hs,a.keeps h1 ho hd hs,b.keeps h2 ho hd hs⟩
 hk:=λ{A h k v} ⟨p,u,u',e,t,h1,h2⟩ hu s E Q eh hq=>by
   rw[e];subst eh;exact wJ .(0) t (λB hB=>a.hk h1 .(0)) (λB hB=>b.hk h2 .(0)) hq
 eq:=λ{A s x y u v} hx hy hu=>by
   obtain⟨p,u1,u2,e,t,h1,h2⟩:=id hx;obtain⟨p',v1,v2,e',t',g1,g2⟩:=id hy
   have ed:decide (x=y)=(decide (x.1=y.1)&&decide (x.2=y.2)):=by
     obtain⟨x1,x2⟩:=x;obtain⟨y1,y2⟩:=y;rw[JJ];simp
   rw[e,e',ed];refine Ag .(0) t t' (a.eq h1 g1 (show A.units+1+a.dep<cLine by omega)) (b.eq h2 g2 (show A.units+1+b.dep<cLine by omega)) λz=>?_
   subst z;have q:=kR t t';simp only[Array.mk.injEq,List.cons.injEq,and_true]at q;obtain⟨rfl,rfl⟩:=q;rw[a.inj h1 g1,b.inj h2 g2];simp
 quiet:=λ{s k v n} hn ⟨p,u,u',e,t,h1,h2⟩ A E Q q=>by
   obtain⟨m,rfl⟩:∃m,n=m+1:=⟨n-1,by omega⟩;rw[e];exact rW t (a.quiet .(0) h1) (b.quiet .(0) h2) q
noncomputable def kindOf (a:IK P w K)(hd:a.dep<=7):HeapKind P w K where
 is:=λh k p=>a.is h k (.ref p)
 hash:=a.hash
 draws:=a.draws
 room:=λA=>A.units+8<cLine
 inj:=a.inj
 keeps:=a.keeps
 pyHash:=λ{A E s k p Q} hu hk h=>a.hk hk .(0) s E Q rfl h
 eqBool:=λ{A E s x y p p' Q} hu hx hy h=>a.eq hx hy .(0) _ _ _ _ h
 quiet:=λ{A E s k p Q} hk h=>a.quiet .(0) hk A E Q h
end
inductive eZ {K:Type}(R:K->Value->Prop):List K->List Value->Prop where
 | nil:eZ R [] []
 | cons {x:K} {v:Value} {xs:List K} {vs:List Value} (h:R x v) (r:eZ R xs vs):eZ R (x::xs) (v::vs)
section
variable {K:Type}
theorem eZ.mono (f:∀x v,R x v->S x v):∀{xs:List K} {vs:List Value},eZ R xs vs->eZ S xs vs
 | _,_,.nil=>.nil
 | _,_,.cons h r=>.cons (f _ _ h) (r.mono f)
theorem eZ.inj (f:∀x y v,R x v->R y v->x=y):∀{xs ys:List K} {vs:List Value},eZ R xs vs->eZ R ys vs->xs=ys
 | _,_,_,.nil,.nil=>rfl
 | _,_,_,.cons h r,.cons g q=>by rw[f _ _ _ h g,r.inj f q]
theorem eZ.length :∀{xs:List K} {vs:List Value},eZ R xs vs->xs.length=vs.length
 | _,_,.nil=>rfl
 | _,_,.cons _ r=>congrArg (·+1) r.length
theorem eZ.at :∀{xs:List K} {vs:List Value},eZ R xs vs->∀(j:Nat) (h1:j<xs.length) (h2:j<vs.length),R xs[j] vs[j]
 | _,_,.nil,_,h1,_=>absurd h1 .(6)
 | _,_,.cons h _,0,_,_=>h
 | _,_,.cons _ r,j+1,h1,h2=>r.at j (Nat.lt_of_succ_lt_succ h1) (Nat.lt_of_succ_lt_succ h2)
theorem eZ.mem :∀{xs:List K} {vs:List Value},eZ R xs vs->∀v∈vs,∃x,R x v
 | _,_,.nil,_,h=>nomatch h
 | _,_,.cons h r,v,hv=>(HA.mp hv).elim (λz=>⟨_,z▸h⟩) (r.mem v)
theorem all_eq [DecidableEq K]{xs ys:List K}:((ox (min xs.length ys.length)).all (λj=>decide (xs[j]?=ys[j]?))&&xs.length==ys.length)=decide (xs=ys):=by
 rw[JJ];simp only[Iy,IM,HN,decide_eq_true_eq,beq_iff_eq];constructor
 . rintro⟨h1,h2⟩;refine List.ext_getElem? λj=>?_
   by_cases hj:j<xs.length
   . exact h1 j .(0)
   . rw[Jn .(0),Jn .(0)]
 . rintro rfl;exact⟨λ_ _=>rfl,rfl⟩
end
section
variable {P:FB}{w:World}{K:Type}[DecidableEq K]
theorem wB {a:IK P w K}{A:GT}{s:Da}{its:List Value}{xs:List K}(hu:A.units+(a.dep+1)<cLine)(hk:IsTup s.heap p its.toArray)(hs:eZ (a.is s.heap) xs its)
   (h:Q (Nz (HQ (xs.map a.hash))) { s with toks:=s.toks+((xs.map a.draws).sum+1) }):wpAny (model P w) A (pyHash (.ref p)) Q E s:=by
 obtain⟨o,ho,hc,k,hd⟩:=hk;have hT:s.TypeIs (.ref p) "tuple":=⟨o,ho,hc⟩;unfold pyHash;refine AC (wpAny_cRoomFor_or (.inr .(0)) ?_);refine AC (MX hT F.slot_tuple_hash.lookup ?_);show wpAny _ _ (if (some (JV "tuple.__hash__")==some Jb)=true then _ else _) Q E s;rw[if_neg (by rw[beq_builtin_none]; exact HG)];refine AC (MX hT F.slot_tuple_hash.lookup ?_);show wpAny _ _ (callSpecialIfBoundUnlessNone? (.ref p) "__hash__" _ >>= _) Q E s;refine AC (ND hT Lf (N4 Lf hT F.entry_tuple_hash ?_ (F.args_tuple_hash_1 _)));show wpAny _ _ (Kn (.ref p) >>= _) _ _ s;refine AC (wpAny_tupleItemsOf ho hd ?_);refine AC ?_;rw[<- KN]
 refine Nk _
   (λrest (b:Array Int) s'=>∃(ks:List K) (n:Nat),eZ (a.is s.heap) ks rest/\b.toList++ks.map a.hash=xs.map a.hash/\n+(ks.map a.draws).sum=(xs.map a.draws).sum/\s'={ s with toks:=s.toks+n })
   _ ?_ ?_ _ _ ⟨xs,0,hs,rfl,by omega,rfl⟩
 . rintro z rest b s' ⟨ks,n,hr,e1,e2,rfl⟩;cases hr with
   | @cons x _ ks' _ hx hr=>
     refine AC (a.hk hx (show A.units+1+a.dep<cLine by omega) _ _ _ rfl ?_);refine Fk ⟨ks',n+a.draws x,hr,?_,?_,by simp[JN]⟩
     . simpa using e1
     . rw[Ii,List.sum_cons]at e2;omega
 . rintro b s' ⟨ks,n,hr,e1,e2,rfl⟩;cases hr
   rw[Lx,Io]at e1;rw[Lx,List.sum_nil,LH]at e2;subst e2;show wpAny _ _ (retInt (HQ b.toList)) _ _ _;rw[e1];refine wpAny_ret_mkInt ?_;show wpAny _ _ (if (decide (-(2:Int)^63<=HQ (xs.map a.hash))&&decide (HQ (xs.map a.hash)<2^63))=true then _ else _) Q E _;unfold Nz at h;by_cases hr:(decide (-(2:Int)^63<=HQ (xs.map a.hash))&&decide (HQ (xs.map a.hash)<2^63))=true
   . rw[if_pos hr];rw[if_pos hr]at h;exact Fk (by simpa[JN]using h)
   . rw[if_neg hr];rw[if_neg hr]at h;exact AC (Ny (Fk (by simpa[JN]using h)))
theorem rR {s:Da}{its:List Value}(hk:IsTup s.heap p its.toArray)(h1:∀z∈its,∀A E Q,Q true s->wpAny (model P w) A (Nl n z) Q E s)(h:Q true s):
   wpAny (model P w) A (Nl (n+1) (.ref p)) Q E s:=by
 obtain⟨o,ho,hc,k,hd⟩:=hk;have hT:s.TypeIs (.ref p) "tuple":=⟨o,ho,hc⟩;unfold Nl;refine AC (MX hT F.slot_tuple_eq.lookup ?_);show wpAny _ _ (isInstance (.ref p) (.type "tuple") >>= _) _ _ s;refine AC (Nx hT isSubtype_tuple_tuple ?_);simp only[LS,Je,if_false];refine AC (Nr ho hd ?_);refine AC ?_;show wpAny _ _ (forIn its.toArray _ _) _ _ s;rw[<- KN];refine Nk _ (λrest r s'=>r.1=none/\s'=s/\∀z∈rest,z∈its) _ ?_ ?_ _ _ ⟨rfl,rfl,λz hz=>by simpa using hz⟩
 . rintro z rest r s' ⟨hr,rfl,hall⟩;refine AC (h1 z (hall z Ih) _ _ _ ?_);simp only[LS,Je,if_false];exact Fk ⟨rfl,rfl,λx hx=>hall x (Et _ hx)⟩
 . rintro⟨r1,r2⟩ s' ⟨hr,rfl,_⟩;simp only at hr;subst hr;exact Fk h
noncomputable def Ea (a:IK P w K):IK P w (List K) where
 is:=λh ks v=>∃p its,v=.ref p/\IsTup h p its.toArray/\eZ (a.is h) ks its
 hash:=λks=>Nz (HQ (ks.map a.hash))
 draws:=λks=>(ks.map a.draws).sum+1
 dep:=a.dep+1
 inj:=λ{h v x y} ⟨p,its,e,t,r⟩ ⟨p',its',e',t',r'⟩=>by
   rw[e]at e';cases e'
   have q:its=its':=congrArg L5 (kR t t');subst q;exact eZ.inj (R:=a.is h) (λ_ _ _ z1 z2=>a.inj z1 z2) r r'
 keeps:=λ⟨p,its,e,t,r⟩ ho hd hs=>⟨p,its,e,vh t ho hd hs,r.mono λ_ _ z=>a.keeps z ho hd hs⟩
 hk:=λ{A h k v} ⟨p,its,e,t,r⟩ hu s E Q eh hq=>by
   rw[e];subst eh;exact wB hu t r hq
 eq:=λ{A s x y u v} hx hy hu=>by
   obtain⟨p,its,e,t,r⟩:=id hx;obtain⟨p',its',e',t',r'⟩:=id hy;rw[e,e'];by_cases z:p=p'
   . subst z;have q:its=its':=congrArg L5 (kR t t');subst q;rw[decide_eq_true (eZ.inj (R:=a.is s.heap) (λ_ _ _ z1 z2=>a.inj z1 z2) r r')];exact .same _
   . have:=EqAt.of_refs z (RcAt.tuples (e:=λj=>decide (x[j]?=y[j]?)) t t' (show A.units<cLine by omega) λj j1 j2=>by
       have l1:j<x.length:=by rw[r.length]; simpa using j1
       have l2:j<y.length:=by rw[r'.length]; simpa using j2
       rw[ph l1,ph l2];have:=a.eq (A:=A.in1) (r.at j l1 (by simpa using j1)) (r'.at j l2 (by simpa using j2)) (show A.units+1+a.dep<cLine by omega);simpa using this)
     have el:(its.toArray.size,its'.toArray.size)=(x.length,y.length):=by rw[r.length,r'.length]; simp
     have e1:its.toArray.size=x.length:=congrArg Prod.fst el;have e2:its'.toArray.size=y.length:=congrArg Prod.snd el;rw[e1,e2,all_eq]at this;exact this
 quiet:=λ{s k v n} hn ⟨p,its,e,t,r⟩ A E Q q=>by
   obtain⟨m,rfl⟩:∃m,n=m+1:=⟨n-1,by omega⟩;rw[e];refine rR t (λz hz=>?_) q;obtain⟨x,hx⟩:=r.mem z hz;exact a.quiet .(0) hx
end
end L2
namespace Ev
open PySem PySem.Spec PyProof.Rows L2
structure KD (K:Type)[DecidableEq K] where
 ik:∀(P:FB) (w:World),IK P w K
 dep:Nat
 dep_ok:∀P w,(ik P w).dep=dep
 toD:K->D
 den:∀{X:Cx} {pins:List .(103)} {σ:L2.St} {H:Hp} {s:Da} {v:V} {u:Value} {k:K},Inv X pins σ H s->Den X.K H v (toD k)->RelV v u->(ik X.prog X.w).is s.heap k u
noncomputable def Gh:KD Int where
 ik:=λ_ _=>E4
 dep:=0
 dep_ok:=λ_ _=>rfl
 toD:=.int
 den:=λ_ d r=>by cases d; exact r
section
variable {K K':Type}[DecidableEq K][DecidableEq K']
noncomputable def Dk (a:KD K)(b:KD K'):KD (K×K') where
 ik:=λP w=>DA (a.ik P w) (b.ik P w)
 dep:=max a.dep b.dep+1
 dep_ok:=λP w=>by show max (a.ik P w).dep (b.ik P w).dep+1=_; rw[a.dep_ok,b.dep_ok]
 toD:=λk=>.tup [a.toD k.1,b.toD k.2]
 den:=λ{X pins σ H s v u k} I d r=>by
   cases d with
   | tup h q=>
     cases (show u=Ip _ from r)
     obtain⟨its,rv,t,_⟩:=I.tuple h;cases q with
     | cons d1 q=>cases q with
       | cons d2 q=>cases q with
         | nil=>cases rv with
           | cons r1 rv=>cases rv with
             | cons r2 rv=>cases rv with
               | nil=>exact⟨_,_,_,rfl,t,a.den I d1 r1,b.den I d2 r2⟩
theorem qa (a:KD K){X:Cx}{pins:List .(103)}{σ:L2.St}{s:Da}(I:Inv X pins σ H s):∀{ks:List K} {vs:List V} {us:List Value},av X.K H vs (ks.map a.toD)->Vals vs us->eZ ((a.ik X.prog X.w).is s.heap) ks us
 | [],_,_,.nil,.nil=>.nil
 | _::_,_,_,.cons d r,.cons q t=>.cons (a.den I d q) (qa a I r t)
noncomputable def EH (a:KD K):KD (List K) where
 ik:=λP w=>Ea (a.ik P w)
 dep:=a.dep+1
 dep_ok:=λP w=>by show (a.ik P w).dep+1=_; rw[a.dep_ok]
 toD:=λks=>.tup (ks.map a.toD)
 den:=λ{X pins σ H s v u k} I d r=>by
   generalize e:D.tup (k.map a.toD)=x at d;cases d with
   | tup h q=>
     cases e
     cases (show u=Ip _ from r)
     obtain⟨its,rv,t,_⟩:=I.tuple h;exact⟨_,its,rfl,t,qa a I q rv⟩
   | _=>cases e
noncomputable abbrev NEs (K:Type):=List (K×Addr×Value)
noncomputable def kd (a:KD K)(hd:a.dep<=7)(P:FB)(w:World):HeapKind P w K:=kindOf (a.ik P w) (by rw[a.dep_ok]; exact hd)
variable {a:KD K}{hd:a.dep<=7}
noncomputable def dNk (a:KD K)(hd:a.dep<=7)(P:FB)(w:World)(p:Addr)(xs:NEs K):HO:=.ext λh=>(p==MZ)=false/\∃o es ep,h.get? p=some o/\o.ExactDict/\o.data=.dict es ep/\es.toList=xs.map (NP (kd a hd P w))/\(xs.map (·.1)).Nodup
structure iB (a:KD K)(hd:a.dep<=7)(P:FB)(w:World)(F:fw)(H:Hp)(d:Addr)(xs:NEs K):Prop where
 at_:H d=some (dNk a hd P w d xs)
 key:∀x∈xs,Den F H (.ref x.2.1) (a.toD x.1)
variable {X:Cx}{pins:List .(103)}{σ:L2.St}{H:Hp}{s:Da}{d b:Addr}{xs:NEs K}{k:K}{A:GT}
theorem key_is (I:Inv X pins σ H s)(q:Den X.K H (.ref b) (a.toD k)):(kd a hd X.prog X.w).is s.heap k b:=a.den I q rfl
theorem y4 (I:Inv X pins σ H s)(D:iB a hd X.prog X.w X.K H d xs):(d==MZ)=false/\s.heap.DictOfH (kd a hd X.prog X.w) d xs:=by
 obtain⟨⟨h0,o,es,ep,h1,h2,h3,h4,h5⟩,_⟩:=(show bL X.prog X.w H s.heap d (dNk a hd X.prog X.w d xs) from I.hok d _ D.at_);exact⟨h0,o,es,ep,h1,h2,h3,h4,λx hx=>key_is I (D.key x hx),h5⟩
def F1 (a:KD K)(hd:a.dep<=7)(P:FB)(w:World)(F:fw)(td ty:TE):TE:=λσ H Q=>td σ H λx H1=>ty σ H1 λy H2=>∃d b k xs p v,x=.ref d/\y=.ref b/\iB a hd P w F H2 d xs/\Den F H2 (.ref b) (a.toD k)/\atKey xs k=some p/\RelV v p.2/\Q v H2
def FW (a:KD K)(hd:a.dep<=7)(P:FB)(w:World)(F:fw)(td ty tv:TE):TS:=λD σ H=>tv σ H λv H1=>td σ H1 λx H2=>ty σ H2 λy H3=>∃d b k xs,x=.ref d/\y=.ref b/\iB a hd P w F H3 d xs/\Den F H3 (.ref b) (a.toD k)/\xs.length<=sizeLine/\∀u,RelV v u->D.nx σ (upd H3 d (dNk a hd P w d (storedH xs k b u)))
def Fw (a:KD K)(hd:a.dep<=7)(P:FB)(w:World):TE:=λ_ H Q=>∀p,H p=none->Q (.ref p) (upd H p (dNk a hd P w p []))
variable {o i value:Expr}{pos pos':Pos}{td ty tv:TE}
theorem i9 (hu:X.A.units+16<cLine)(ho:PE X o td)(hi:PE X i ty)(hs:mF i):PE X (.Subscript o i pos) (F1 a hd X.prog X.w X.K td ty):=by
 intro pins s σ H Q I h;refine oK PySem.F.slot_dict_getitem.lookup hs (thn (ho pins s σ H _ I h) λu s1 ⟨x,H1,I1,rx,q1⟩=>thn (hi pins s1 σ H1 _ I1 q1) λiv s2 ⟨y,H2,I2,ry,d,b,k,xs,p,v,ex,ey,D,g,hp,rv,q2⟩=>?_);subst ex ey;obtain rfl:u=Ip d:=rx;obtain rfl:iv=Ip b:=ry;obtain⟨_,dd⟩:=y4 I2 D;exact⟨dd.typeIs,wpAny_getItem_heap (show X.A.units+1+8<cLine by omega) (key_is I2 g) dd hp ⟨v,H2,I2.tok _,rv,q2⟩⟩
theorem n8 (hu:X.A.units+16<cLine)(ho:PE X o td)(hi:PE X i ty)(hv:PE X value tv)(hs:M7 value (some (.Subscript o i pos')) pos.line X.env=pure false):
   PS X (.Assign [.Subscript o i pos'] value pos) (FW a hd X.prog X.w X.K td ty tv):=by
 intro pins s σ H D I h;refine wpAny_Assign_Subscript (thn (hv pins s σ H _ I h) λr s1 ⟨v,H1,I1,rv,q1⟩=>thn (ho pins s1 σ H1 _ I1 q1) λu s2 ⟨x,H2,I2,rx,q2⟩=>thn (hi pins s2 σ H2 _ I2 q2) λiv s3 ⟨y,H3,I3,ry,d,b,k,xs,ex,ey,D',g,hl,q3⟩=>?_) hs;subst ex ey;obtain rfl:u=Ip d:=rx;obtain rfl:iv=Ip b:=ry;obtain⟨hd',dd⟩:=y4 I3 D';refine wpAny_setItem_heap (hsz:=hl) (show X.A.units+1+8<cLine by omega) (key_is I3 g) dd λh' dd' hs=>⟨σ,_,?_,q3 r rv⟩
 obtain⟨q,es,ep,hq,h2,h3,h4,_,h5⟩:=dd';refine fO I3 (by rw[D'.at_]; exact JG) hs ⟨q,hq⟩ ⟨⟨hd',q,es,ep,hq,h2,h3,h4,h5⟩,⟨q,hq⟩,λa1 a2 ⟨z0,o,es,ep,z1,z2⟩ hk=>⟨z0,o,es,ep,hk o z1,z2⟩⟩
theorem pg:PE X (.Dict [] [] pos) (Fw a hd X.prog X.w):=λpins s σ H Q I h=>
 wpAny_Dict_empty ⟨.ref s.heap.objs.size,_,I.laid (a:=s.heap.objs.size) (o:=dNk a hd X.prog X.w s.heap.objs.size []) (t':=s.toks) (λ_ _ q=>pq _ q) .(3)
   ⟨⟨beq_eq_false_iff_ne.mpr (ID (Il I.big)),_,#[],0,Hz _ rfl,⟨rfl,rfl,rfl⟩,rfl,rfl,JO⟩,⟨_,Hz _ rfl⟩,λa1 a2 ⟨z0,o,es,ep,z1,z2⟩ hk=>⟨z0,o,es,ep,hk o z1,z2⟩⟩,rfl,h _ (I.hok.fresh .(3))⟩
end
end Ev
namespace Hy
open PySem PySem.Spec PyProof.Rows L2
open Ev (D Den av KD NEs dNk iB)
section
variable {K:Type}[DecidableEq K]
inductive EnK (a:KD K)(F:fw)(G:Hp):NEs K->List (K×D)->Prop where
 | nil:EnK a F G [] []
 | cons {k:K} {b:Addr} {u:Value} {v:V} {x:D} {xs:NEs K} {m:List (K×D)} (hk:Den F G (.ref b) (a.toD k)) (hr:RelV v u) (hv:Den F G v x) (r:EnK a F G xs m):EnK a F G ((k,b,u)::xs) ((k,x)::m)
variable {a:KD K}{F:fw}{G G':Hp}
theorem EnK.mono (e:ao G G'):∀{xs:NEs K} {m:List (K×D)},EnK a F G xs m->EnK a F G' xs m
 | _,_,.nil=>.nil
 | _,_,.cons h1 h2 h3 r=>.cons (h1.mono e) h2 (h3.mono e) (r.mono e)
theorem EnK.length:∀{xs:NEs K} {m:List (K×D)},EnK a F G xs m->xs.length=m.length
 | _,_,.nil=>rfl
 | _,_,.cons _ _ _ r=>congrArg (·+1) r.length
theorem EnK.key:∀{xs:NEs K} {m:List (K×D)},EnK a F G xs m->∀x∈xs,Den F G (.ref x.2.1) (a.toD x.1)
 | _,_,.nil,_,h=>nomatch h
 | _,_,.cons h _ _ r,x,hx=>(HA.mp hx).elim (λz=>z▸h) (r.key x)
noncomputable def getM (m:List (K×D))(k:K):Option D:=(m.find? λx=>decide (x.1=k)).map (·.2)
noncomputable def d9 (m:List (K×D))(k:K)(x:D):List (K×D):=if (getM m k).isSome then m.map λy=>if y.1=k then (y.1,x) else y else m++[(k,x)]
theorem EnK.at:∀{xs:NEs K} {m:List (K×D)},EnK a F G xs m->∀k,match getM m k with
   | none=>atKey xs k=none
   | some x=>∃p v,atKey xs k=some p/\RelV v p.2/\Den F G v x
 | _,_,.nil,_=>rfl
 | _,_,.cons (k:=k') (x:=y) (m:=m) (xs:=xs) h1 h2 h3 r,k=>by
   have ih:=r.at k;unfold getM atKey at *
   by_cases e:k'=k
   . simp only[Jx,e,decide_true,Jl];exact⟨_,_,rfl,h2,h3⟩
   . simp only[Jx,e,decide_false];exact ih
theorem EnK.isSome (h:EnK a F G xs m)(k:K):(atKey xs k).isSome=(getM m k).isSome:=by
 have:=h.at k;cases e:getM m k with
 | none=>rw[e]at this; simp only at this; rw[this]; rfl
 | some x=>rw[e]at this; obtain⟨p,v,h1,_⟩:=this; rw[h1]; rfl
theorem EnK.snoc (h1:Den F G (.ref b) (a.toD k))(h2:RelV v u)(h3:Den F G v x):∀{xs:NEs K} {m:List (K×D)},EnK a F G xs m->EnK a F G (xs++[(k,b,u)]) (m++[(k,x)])
 | _,_,.nil=>.cons h1 h2 h3 .nil
 | _,_,.cons g1 g2 g3 r=>.cons g1 g2 g3 (r.snoc h1 h2 h3)
theorem EnK.over (h2:RelV v u)(h3:Den F G v x):∀{xs:NEs K} {m:List (K×D)},EnK a F G xs m->EnK a F G (xs.map (putAt k u)) (m.map λy=>if y.1=k then (y.1,x) else y)
 | _,_,.nil=>.nil
 | _,_,.cons (k:=k') g1 g2 g3 r=>by
   rw[Ii,Ii];unfold putAt;by_cases e:k'=k
   . simp only[e,if_true];rw[e]at g1;exact .cons g1 h2 h3 (r.over h2 h3)
   . simp only[e,if_false];exact .cons g1 g2 g3 (r.over h2 h3)
theorem EnK.put (h:EnK a F G xs m)(h1:Den F G (.ref b) (a.toD k))(h2:RelV v u)(h3:Den F G v x):EnK a F G (storedH xs k b u) (d9 m k x):=by
 unfold storedH d9;rw[h.isSome k];split
 . exact h.over h2 h3
 . exact h.snoc h1 h2 h3
noncomputable def exK (a:KD K)(hd:a.dep<=7)(P:FB)(w:World)(m:List (K×D)):Ex where
 p:=λF G o p=>∃xs,o=dNk a hd P w p xs/\EnK a F G xs m
 mono:=λe ⟨xs,h1,h2⟩=>⟨xs,h1,h2.mono e⟩
 ext:=λ⟨xs,h1,_⟩=>.inl ⟨_,h1⟩
end
end Hy
namespace Hy
open PySem PySem.Spec PyProof.Rows L2
open Ev (D Den av KD NEs dNk iB aq i9 pg n8)
section
variable {K:Type}[DecidableEq K]{a:KD K}{hd:a.dep<=7}{X:Cx}{C:Bool}{τ:List Sl}{x:D}{b ix:Expr}{pos p q:Pos}{k:Nat}{N:Po}{m:List (K×D)}{key:K}
theorem rN:PE X (.Dict [] [] pos) (dE X.K C τ (.x (exK a hd X.prog X.w []))):=peW pg λσ H Q ⟨A,H₀,B,S,k⟩=>λp hp=>k (.ref p) _ [p] (aq hp _) (λb hb=>by rw[gV.mp hb]; exact⟨hp,_,aK⟩) ⟨p,_,rfl,rfl,aK,[],rfl,.nil⟩
theorem Sta.dct (S:Sta F A H₀ τ B σ H)(hi:τ[i]?=some (.x (exK a hd P w m))):∃d xs,(σ[i]?).join=some (.ref d)/\B i=[d]/\H d=some (dNk a hd P w d xs)/\EnK a F (Hy.hd H (own A B)) xs m:=by
 obtain⟨d,o,h1,h2,h3,xs,rfl,h5⟩:=S.sl i _ hi;exact⟨d,xs,h2,h1,h3,h5⟩
theorem r9 (i:Nat){n:Str}(hu:X.A.units+16<cLine)(hi:τ[i]?=some (.x (exK a hd X.prog X.w m)))(hk:PE X ix (dE X.K false τ (.d (a.toD key))))(hx:getM m key=some x)(hr:∀H v,Den X.K H v (a.toD key)->∃b,v=.ref b)(hs:mF ix)(hN:X.N[i]?=some n:=by rfl)
   (hv:Vis X.env.scope n:=by first | exact JM rfl | exact IH .(9) | exact IH .(8)) (hd1:(n==("__debug__" : Str))=false:=by decide) (hcd:(n==("__classdict__" : Str))=false:=by decide):PE X (.Subscript (.Name n p) ix pos) (dE X.K C τ (.d x)):=
 peW (i9 (a:=a) (hd:=hd) hu (bo (i:=i) hN hv hd1 hcd) hk hs) λσ H Q q=>by
   obtain⟨A,H₀,B,S,kk⟩:=dj q;obtain⟨d,xs,e1,e2,e3,e4⟩:=S.dct hi;refine⟨_,slot_of e1,aU S λy H2 e5 dy=>?_⟩;obtain⟨b,rfl⟩:=hr _ _ dy;have S2:=S.mono e5;obtain⟨d',xs',g1,g2,g3,g4⟩:=S2.dct hi;rw[e1]at g1;cases g1
   have:=g4.at key;rw[hx]at this;obtain⟨pp,v,h1,h2,h3⟩:=this;exact⟨d,b,key,xs',pp,v,rfl,rfl,⟨g3,λz hz=>(g4.key z hz).mono aS⟩,dy.mono aS,h1,h2,kk v H2 e5 (h3.mono (aC .(102) λ_ z=>iX z))⟩
end
section
variable {K:fw}{A:Addr->Prop}{H₀ H:Hp}{τ:List Sl}{B:Nat->List Addr}{σ:L2.St}
theorem Sta.zN (S:Sta K A H₀ τ B σ H)(hi:τ[i]?=some (.x E))(hB:B i=[a])(d:E'.p K (hd H (own A B)) o' a):Sta K A H₀ (τ.set i (.x E')) B σ (upd H a o'):=by
 have ha:own A B a:=.inr ⟨i,by rw[hB]; exact gV.mpr rfl⟩;have ne:∀b,b≠a->upd H a o' b=H b:=λb h=>aE h
 have sm:ao (hd H (own A B)) (hd (upd H a o') (own A B)):=λb o z=>by
   obtain⟨z1,z2⟩:=au.mp z;exact au.mpr ⟨z1,by rw[ne b (λe=>z1 (e▸ha))]; exact z2⟩
 have f0:H₀ a=none:=S.fr i a (by rw[hB]; exact gV.mpr rfl);have hs:ao H₀ (upd H a o'):=λb o z=>by rw[ne b (λe=>by rw[e,f0]at z; cases z)]; exact S.same b o z
 refine⟨hs,by rw[HV,S.len],λj t hj=>?_,S.fr,S.uq,S.ad,λj b hb=>?_⟩
 . by_cases ej:j=i
   . subst ej;have hl:=(rp.mp hi).1;rw[Ic hl]at hj;cases hj
     obtain⟨a',o,e1,e2,_,_⟩:=S.sl j _ hi;rw[hB]at e1;cases e1
     exact⟨a,o',hB,e2,aK,E'.mono sm d⟩
   . rw[HI (λz=>ej z.symm)]at hj;have off:∀b∈B j,b≠a:=λb hb e=>ej (S.uq j i a (e▸hb) (by rw[hB]; exact gV.mpr rfl))
     have q:=S.sl j t hj;cases t with
     | un=>exact q
     | d x=>obtain⟨z,u,e,d⟩:=q; exact⟨z,u,e,d.mono sm⟩
     | o zs=>
       obtain⟨c,ws,z1,z2,z3,z4⟩:=q;exact⟨c,ws,z1,z2,by rw[ne c (off c (by rw[z1]; exact gV.mpr rfl))]; exact z3,z4.mono sm⟩
     | n t=>
       obtain⟨z0,u,z1,z2⟩:=q;exact⟨z0,u,z1,z2.frame sm λb hb=>ne b (off b hb)⟩
     | x E=>
       obtain⟨c,o,z1,z2,z3,z4⟩:=q;exact⟨c,o,z1,z2,by rw[ne c (off c (by rw[z1]; exact gV.mpr rfl))]; exact z3,E.mono sm z4⟩
 . by_cases e:b=a
   . subst e; exact⟨_,aK⟩
   . rw[ne b e]; exact S.bd j b hb
end
section
variable {K:Type}[DecidableEq K]{a:KD K}{hd:a.dep<=7}{X:Cx}{τ:List Sl}{x:D}{b e ix:Expr}{pos p sp:Pos}{N:Po}{rest:List Stmt}{m:List (K×D)}{key:K}
theorem pz (i:Nat){n:Str}(hu:X.A.units+16<cLine)(hi:τ[i]?=some (.x (exK a hd X.prog X.w m)))(hk:PE X ix (dE X.K true τ (.d (a.toD key))))(he:PE X e (dE X.K true τ (.d x)))(hl:m.length<=sizeLine)(hr:∀H v,Den X.K H v (a.toD key)->∃b,v=.ref b)
   (hn:PSs X rest (dS X.K (τ.set i (.x (exK a hd X.prog X.w (d9 m key x)))) N)) (hN:X.N[i]?=some n:=by rfl)
   (hv:Vis X.env.scope n:=by first | exact JM rfl | exact IH .(9) | exact IH .(8)) (hd1:(n==("__debug__" : Str))=false:=by decide) (hcd:(n==("__classdict__" : Str))=false:=by decide)
   (hs:M7 e (some (.Subscript .(106) ix sp)) pos.line X.env=pure false:=by rfl):PSs X (.Assign [.Subscript .(106) ix sp] e pos::rest) .(114):=
 bw (M:=(·=τ.set i (.x (exK a hd X.prog X.w (d9 m key x))))) (psW (n8 (a:=a) (hd:=hd) hu (bo (i:=i) hN hv hd1 hcd) hk he hs) λD σ H ⟨A,H₀,B,S,Me⟩=>aU S λv H1 e1 d1=>by
   have S1:=S.mono e1;obtain⟨d,xs,g1,_⟩:=S1.dct hi;refine⟨_,slot_of g1,aU S1 λy H2 e2 dy=>?_⟩;obtain⟨b,rfl⟩:=hr _ _ dy;have S2:=S1.mono e2;obtain⟨d',xs',h1,h2,h3,h4⟩:=S2.dct hi;rw[g1]at h1;cases h1
   have d1':=d1.mono (aC e2 λ_ z=>z);exact⟨d,b,key,xs',rfl,rfl,⟨h3,λz hz=>(h4.key z hz).mono aS⟩,dy.mono aS,by rw[h4.length]; exact hl,λu hu=>Me.nx _ _ _ _ rfl (S2.zN hi h2 ⟨_,rfl,h4.put dy hu d1'⟩)⟩) λ_ e=>e▸hn
end
end Hy
namespace Hy
open PySem PySem.Spec PyProof.Rows L2
open Ev (D Den av Bx aq cN Itk w8 qR Itd iDn BL)
noncomputable def gn (kv:List (Int×Int))(k v:Int):List (Int×Int):=
 if (kv.any λp=>decide (p.1=k))=true then kv.map (λp=>if p.1=k then (p.1,v) else p) else kv++[(k,v)]
noncomputable def bR (kv:List (Int×Int))(k:Int):Option Int:=(kv.find? λp=>decide (p.1=k)).map (·.2)
theorem zV (kv:List (Int×Int))(k:Int):((cN kv).any λp=>decide (p.1=.inl k))=kv.any λp=>decide (p.1=k):=by
 unfold cN;rw[List.any_map];congr 1;funext p;simp
theorem vA (kv:List (Int×Int))(k v:Int):putK (cN kv) (.inl k) (.int v)=cN (gn kv k v):=by
 unfold putK gn;rw[zV];by_cases h:(kv.any λp=>decide (p.1=k))=true
 . rw[if_pos h,if_pos h];unfold cN;rw[Ik,Ik];refine HZ λp _=>?_
   simp only[J6];by_cases z:p.1=k
   . rw[if_pos (congrArg Kf z),if_pos z]
   . rw[if_neg (λy=>z (L6 y)),if_neg z]
 . rw[if_neg h,if_neg h];unfold cN;rw[HB];rfl
theorem js:∀(kv:List (Int×Int)) (k:Int),gc (cN kv) (.inl k)=(bR kv k).map V.int
 | [],_=>rfl
 | p::r,k=>by
   unfold bR;by_cases z:p.1=k
   . rw[Ll (by simp[z])];exact b9 (p:=(Kf p.1,V.int p.2)) (congrArg Kf z)
   . rw[Lm (by simp[z])];exact(b7 (p:=(Kf p.1,V.int p.2)) (λy=>z (L6 y))).trans (js r k)
theorem zG (kv:List (Int×Int))(k v:Int):(gn kv k v).length<=kv.length+1:=by
 unfold gn;split
 . rw[bp]; omega
 . rw[vp,IA,Lz]; omega
noncomputable def exZ (m:List (Int×Int)):Ex where
 p:=λ_ _ o _=>o=.dK (cN m)
 mono:=λ_ h=>h
 ext:=λh=>.inr (.inr ⟨_,.inl h⟩)
noncomputable def exF (ob:Obj)(m:List (Int×Int)):Ex where
 p:=λ_ _ o _=>o=.frz ob (.dK (cN m))
 mono:=λ_ h=>h
 ext:=λh=>.inr (.inr ⟨_,.inr ⟨_,h⟩⟩)
noncomputable def bxZ (m:List (Int×Int)):Bx where
 p:=λ_ H d=>∃o,H d=some (.frz o (.dK (cN m)))
 mono:=λe ⟨o,h⟩=>⟨o,e _ _ h⟩
 isd:=λ⟨o,h⟩=>⟨_,h,λP w H' h z=>by
   obtain⟨_,_,_,vs,_,ob,_,_,z1,z2,_⟩:=z;exact⟨ob,z1,z2.1⟩⟩
section
variable {K:fw}{A:Addr->Prop}{H₀ H:Hp}{τ:List Sl}{B:Nat->List Addr}{σ:L2.St}{m:List (Int×Int)}{i:Nat}
theorem Sta.dz (S:Sta K A H₀ τ B σ H)(hi:τ[i]?=some (.x (exZ m))):∃d,(σ[i]?).join=some (.ref d)/\B i=[d]/\H d=some (.dK (cN m)):=by
 obtain⟨d,o,h1,h2,h3,h4⟩:=S.sl i _ hi;cases (show o=_ from h4)
 exact⟨d,h2,h1,h3⟩
theorem Sta.fzF (S:Sta K A H₀ τ B σ H)(hi:τ[i]?=some (.x (exF ob m))):Sta K A H₀ (τ.set i (.d (.box (bxZ m)))) (upB B i []) σ H:=
 S.less (λ_ z=>nomatch z) λG g hv=>by
   obtain⟨d,o,h1,h2,h3,h4⟩:=S.sl i _ hi;cases (show o=_ from h4)
   exact⟨rfl,_,h2,.box ⟨ob,hv d _ (by rw[h1]; exact gV.mpr rfl) (λz=>nomatch z) h3⟩⟩
end
section
variable {X:Cx}{C:Bool}{τ:List Sl}{x:D}{a b e f o ix tg:Expr}{pos p q apos cpos sp:Pos}{k:Nat}{N:Po}{rest:List Stmt}{m:List (Int×Int)}{key v n:Int}
theorem iQ {xs:List D}{n:Nat}(h:xs.length=n):gw X (.builtin "len") [.lst xs] (.d (.int n)):=h▸gy
theorem dD {n:Str}:mF .(106):=λ_ _=>rfl
theorem yz :mF (.BinOp a op b p):=λ_ _=>rfl
theorem Ci:PE X (.Dict [] [] pos) (dE X.K C τ (.x (exZ []))):=peW x8 λσ H Q ⟨A,H₀,B,S,k⟩=>λp hp=>k (.ref p) _ [p] (aq hp _) (λb hb=>by rw[gV.mp hb]; exact⟨hp,_,aK⟩) ⟨p,_,rfl,rfl,aK,rfl⟩
theorem CD :PE X (.Dict [some (.Constant (.int key) j p)] [.Constant (.int v) l q] pos) (dE X.K C τ (.x (exZ [(key,v)]))):=peW (Ai (wV sF sF Aa) rfl rfl .(4) (by show (1:Nat)<=15; decide)) λσ H Q ⟨A,H₀,B,S,k⟩=>λp hp=>by
 refine⟨aK,[(.inl key,.int v)],rfl,(by show (1:Nat)<=15; decide),?_⟩
 have e:upd (upd H p (.dK [])) p (.dK (jK [] [(Kf key,V.int v)]))=upd H p (.dK (cN [(key,v)])):=by
   funext b;unfold upd;split <;> rfl
 rw[e];exact k (.ref p) _ [p] (aq hp _) (λb hb=>by rw[gV.mp hb]; exact⟨hp,_,aK⟩) ⟨p,_,rfl,rfl,aK,rfl⟩
theorem EZ (i:Nat)(h:PSs X rest (dS X.K (τ.set i (.d (.box (bxZ m)))) N))(hi:τ[i]?=some (.x (exZ m)):=by rfl):PSs X rest .(114):=by
 intro pins s σ H D I ⟨A,H₀,B,S,Me⟩;obtain⟨d,h1,h2,h3⟩:=S.dz hi;obtain⟨z,hd,vs,rel,dd⟩:=uF I.hok h3;obtain⟨o,es,ep,e,r⟩:=id dd;have I2:Inv X pins σ (upd H d (.frz o (.dK (cN m)))) s:=fO (t':=s.toks) (h':=s.heap) I (by rw[h3]; exact JG) (.refl _ _) ⟨o,e⟩ ⟨e,oN z hd rel dd⟩;have hl:=(rp.mp hi).1;have S2:=S.zN (E':=exF o m) hi h2 rfl;have S3:=S2.fzF (ob:=o) (m:=m) (Ic hl);rw[List.set_set]at S3;exact h pins s σ _ D I2 ⟨A,H₀,_,S3,Me⟩
theorem yg (hu:X.A.units+1<cLine)(hb:PE X b (dE X.K C τ (.d (.box (bxZ m)))))(hk:PE X ix (dE X.K C τ (.d (.int key))))(hx:bR m key=some v)(hs:mF ix):PE X (.Subscript b ix pos) (dE X.K C τ (.d (.int v))):=
 peW (AK hu hb hk hs) λσ H Q q=>by
   obtain⟨A,H₀,B,S,kk⟩:=dj q;refine aU S λu H1 e1 d1=>aU (S.mono e1) λy H2 e2 dy=>?_
   cases dy
   cases d1.mono (aC e2 λ_ z=>z) with
   | box h=>
     obtain⟨o,g⟩:=h;exact⟨_,.int v,rfl,⟨_,.inl key,.inr ⟨o,aS _ _ g⟩,rfl,by rw[js,hx]; rfl⟩,kk _ H2 (e1.trans e2) .int⟩
theorem AZ (i:Nat){nm:Str}(hu:X.A.units+1<cLine)(hi:τ[i]?=some (.x (exZ m)))(hk:PE X e (dE X.K false τ (.d (.int key))))(hx:PE X f (dE X.K false τ (.d (.int v))))(m2:M2 X (.Name nm p) "get" apos e f cpos:=by exact⟨rfl,rfl,rfl,rfl⟩)(hN:X.N[i]?=some nm:=by rfl)
   (hv:Vis X.env.scope nm:=by first | exact JM rfl | exact IH .(9) | exact IH .(8)) (hd1:(nm==("__debug__" : Str))=false:=by decide) (hcd:(nm==("__classdict__" : Str))=false:=by decide):PE X (.Call (.Attribute (.Name nm p) "get" apos) [e,f] [] cpos) (dE X.K C τ (.d (.int ((bR m key).getD v)))):=
 peW (xt hu (bo (i:=i) hN hv hd1 hcd) hk hx m2) λσ H Q q=>by
   obtain⟨A,H₀,B,S,kk⟩:=dj q;obtain⟨d,h1,h2,h3⟩:=S.dz hi;refine⟨_,slot_of h1,d,rfl,⟨_,.inl h3⟩,aU S λy H2 e2 dy=>aU (S.mono e2) λz H3 e3 dz=>?_⟩;cases dy
   cases dz
   refine⟨_,⟨_,.inl key,.inl ((e2.trans e3) _ _ h3),rfl,rfl⟩,?_⟩;have e:(gc (cN m) (.inl key)).getD (.int v)=V.int ((bR m key).getD v):=by rw[js]; cases bR m key <;> rfl
   rw[e];exact kk _ H3 (e2.trans e3) .int
theorem Ec (i:Nat){nm:Str}(hu:X.A.units+1<cLine)(hi:τ[i]?=some (.x (exZ m)))(hk:PE X ix (dE X.K true τ (.d (.int key))))(he:PE X e (dE X.K true τ (.d (.int v))))(hl:m.length<sizeLine)
   (hn:PSs X rest (dS X.K (τ.set i (.x (exZ (gn m key v)))) N)) (hN:X.N[i]?=some nm:=by rfl)
   (hv:Vis X.env.scope nm:=by first | exact JM rfl | exact IH .(9) | exact IH .(8)) (hd1:(nm==("__debug__" : Str))=false:=by decide) (hcd:(nm==("__classdict__" : Str))=false:=by decide)
   (hs:M7 e (some (.Subscript (.Name nm p) ix sp)) pos.line X.env=pure false:=by rfl):PSs X (.Assign [.Subscript (.Name nm p) ix sp] e pos::rest) .(114):=
 bw (M:=(·=τ.set i (.x (exZ (gn m key v))))) (psW (A4 hu (bo (i:=i) hN hv hd1 hcd) hk he hs) λD σ H ⟨A,H₀,B,S,Me⟩=>aU S λu H1 e1 d1=>by
   cases d1
   have S1:=S.mono e1;obtain⟨d,g1,_⟩:=S1.dz hi;refine⟨_,slot_of g1,aU S1 λy H2 e2 dy=>?_⟩;cases dy
   have S2:=S1.mono e2;obtain⟨d',h1,h2,h3⟩:=S2.dz hi;rw[g1]at h1;cases h1
   refine⟨d,_,rfl,⟨_,.inl key,h3,rfl,by unfold cN; rw[bp]; exact hl,rfl⟩,?_⟩;rw[vA];exact Me.nx _ _ _ _ rfl (S2.zN hi h2 rfl)) λ_ e=>e▸hn
theorem uL (h:PE X e (dE X.K true τ (.d (.box (bxZ m)))))(hc:X.calm=true:=by first | rfl | assumption):PI X tg e (dI X.K τ (m.map λp=>.int p.1)):=piW (qR hc h) λσ H R ⟨A,H₀,B,S,k⟩=>aU S λv H1 e1 d1=>by
 cases d1 with
 | box h=>
   obtain⟨o,g⟩:=h;refine⟨_,o,m,rfl,aS _ _ g,k _ H1 e1 λH2 sg=>⟨λi hi=>⟨by simpa using hi,sg _ _ g⟩,λi hi=>⟨⟨by simpa using hi,sg _ _ g⟩,λx H' ⟨eH,p,hp,ex⟩=>?_⟩⟩⟩;subst eH ex;refine⟨ao.refl _,λM _ _=>?_⟩;have hi':i<m.length:=by simpa using hi
   rw[ph hi']at hp;cases hp
   rw[Jg];exact .int
theorem zI :∀i (h:i<(m.map λp=>D.int p.1).length),(m.map λp=>D.int p.1)[i]=.int (m.getD i (0,0)).1:=λi h=>by
 have:i<m.length:=by simpa using h
 simp[this]
noncomputable def dnD (n:Nat):List D:=(ox n).map λi:Nat=>.int ((n:Int)-1-(i:Int))
theorem gf (n:Nat):(dnD n).length=n:=by simp[dnD]
theorem FH {n:Nat}:∀i (h:i<(dnD n).length),(dnD n)[i]=.int ((n-1-i:Nat):Int):=λi h=>by
 rw[gf]at h;simp only[dnD,Jg,KS];congr 1;omega
theorem Fo {n:Nat}{p' pos':Pos}(B:Bk X k)(h:PE X a (dE X.K false τ (.d (.int n))))(hn:n<1000)(hg:Gl X "reversed":=by rfl)(hg':Gl X "range":=by rfl)(hs':Do [a] X.env=[.(118)]:=by rfl)
   (hs:Do [.Call (.Name "range" p') [a] [] pos'] X.env=[(false,eval (.Call (.Name "range" p') [a] [] pos') X.env)]:=by rfl):PI X tg (.Call (.Name "reversed" p) [.Call (.Name "range" p') [a] [] pos'] [] pos) (dI X.K τ (dnD n)):=
 piW (BL B.calm hg (B.blt _ .(2)) hg' (B.blt _ .(2)) (ae h ag hs') hs' hs) λσ H R ⟨A,H₀,B,S,k⟩=>eQ S λvs H1 e1 d1=>by
   cases d1 with
   | cons d r=>
     cases r
     cases d
     refine⟨n,rfl,hn,k _ H1 e1 λH2 sg=>⟨λi hi=>by rw[gf]at hi; exact hi,λi hi=>⟨by rw[gf]at hi; exact hi,λx H' ⟨eH,ex⟩=>?_⟩⟩⟩;subst eH ex;refine⟨ao.refl _,λM _ _=>?_⟩;simp only[dnD,Jg,KS];exact .int
end
end Hy
namespace Hy
open PySem PySem.Spec PyProof.Rows L2
open Ev (D Den av aq aY aR)
noncomputable def dg:List Nat->Nd->Option Nd
 | [],t=>some t
 | i::p,.l xs=>(xs[i]?).bind (dg p)
 | i::p,.t xs=>(xs[i]?).bind (dg p)
 | _::_,.d _=>none
noncomputable def cH:List Nat->Nd->Nd->Nd
 | [],_,n=>n
 | i::p,.l xs,n=>.l (xs.set i (cH p (xs.getD i (.d .non)) n))
 | i::p,.t xs,n=>.t (xs.set i (cH p (xs.getD i (.d .non)) n))
 | _::_,.d x,_=>.d x
noncomputable def cQ (H:Hp):List Nat->V->V->Prop
 | [],u,v=>v=u
 | i::p,u,v=>∃a vs w,u=.ref a/\(H a=some (.lst vs)\/H a=some (.tup vs))/\vs[i]?=some w/\cQ H p w v
theorem cQ.mono (e:ao H H'):∀{p:List Nat} {u v:V},cQ H p u v->cQ H' p u v
 | [],_,_,h=>h
 | _::_,_,_,⟨a,vs,w,h1,h2,h3,h4⟩=>⟨a,vs,w,h1,h2.elim (λz=>.inl (e _ _ z)) (λz=>.inr (e _ _ z)),h3,h4.mono e⟩
theorem cQ.snoc :∀{p:List Nat} {u:V},cQ H p u (.ref a)->(H a=some (.lst vs)\/H a=some (.tup vs))->vs[i]?=some w->cQ H (p++[i]) u w
 | [],_,h,h1,h2=>⟨a,vs,w,h.symm,h1,h2,rfl⟩
 | _::_,_,⟨b,us,x,z1,z2,z3,z4⟩,h1,h2=>⟨b,us,x,z1,z2,z3,z4.snoc h1 h2⟩
section
variable {K:fw}{G H:Hp}
theorem aX.length:∀{vs:List V} {bs:List Addr} {xs:List Nd},aX K G H vs bs xs->vs.length=xs.length
 | _,_,_,.nil=>rfl
 | _,_,_,.cons _ r=>congrArg (·+1) r.length
theorem aX.part:∀{vs:List V} {bs:List Addr} {xs:List Nd} {i:Nat} {c:Nd},aX K G H vs bs xs->xs[i]?=some c->∃v l m r,vs[i]?=some v/\bs=l++(m++r)/\cg K G H v m c /\
   ∀{G' H':Hp} {m':List Addr} {c':Nd},ao G G'->(∀b,b∈l\/b∈r->H' b=H b)->cg K G' H' v m' c'->aX K G' H' vs (l++(m'++r)) (xs.set i c')
 | _,_,_,_,_,.nil,e=>by cases e
 | _,_,_,0,_,.cons (b1:=b1) (b2:=b2) h r,e=>by
   cases e
   exact⟨_,[],b1,b2,rfl,rfl,h,λg e h'=>by rw[List.nil_append]; exact .cons h' (r.frame g λb hb=>e b (.inr hb))⟩
 | _,_,_,i+1,c,.cons (b1:=b1) h r,e=>by
   obtain⟨v,l,m,q,h1,h2,h3,h4⟩:=aX.part (i:=i) (c:=c) r (by simpa using e);refine⟨v,b1++l,m,q,by simpa using h1,by rw[h2,Ij],h3,λ{G' H' m' c'} g e h'=>?_⟩;rw[Ij];exact .cons (h.frame g λb hb=>e b (.inl (HE _ hb))) (h4 g (λb hb=>e b (hb.elim (λz=>.inl (tf _ z)) .inr)) h')
theorem cg.focus:∀(p:List Nat) {u:V} {bs:List Addr} {t c:Nd},cg K G H u bs t->dg p t=some c->∃v l m r,cQ H p u v/\bs=l++(m++r)/\cg K G H v m c /\
   ∀{G' H':Hp} {m':List Addr} {c':Nd},ao G G'->(∀b,b∈l\/b∈r->H' b=H b)->cg K G' H' v m' c'->cg K G' H' u (l++(m'++r)) (cH p t c')
 | [],u,bs,tr,c,h,e=>by
   cases e
   exact⟨u,[],bs,[],rfl,by simp,h,λg _ h'=>by simpa[cH]using h'⟩
 | i::p,_,_,.l xs,c,.l (a:=a) (bs:=bs) hH r,e=>by
   rw[dg]at e;cases ei:xs[i]? with
   | none=>rw[ei]at e; cases e
   | some x=>
     rw[ei]at e;obtain⟨v,l,m,q,h1,h2,h3,h4⟩:=r.part ei;obtain⟨w,l',m',q',g1,g2,g3,g4⟩:=cg.focus p h3 e;refine⟨w,a::(l++l'),m',q'++q,⟨a,_,v,rfl,.inl hH,h1,g1⟩,by rw[h2,g2]; simp,g3,λ{G' H' m2 c2} g e2 h'=>?_⟩;have k1:=g4 g (λb hb=>e2 b (hb.elim (λz=>.inl (Et _ (tf _ z))) λz=>.inr (HE _ z))) h';have k2:=h4 g (λb hb=>e2 b (hb.elim (λz=>.inl (Et _ (HE _ z))) λz=>.inr (tf _ z))) k1;rw[cH,show xs.getD i (.d .non)=x by simp[K8,ei]];have k3:=cg.l (G:=G') (K:=K) (a:=a) (by rw[e2 a (.inl .(5))]; exact hH) k2;simpa using k3
 | i::p,_,_,.t xs,c,.t (a:=a) (bs:=bs) hH r,e=>by
   rw[dg]at e;cases ei:xs[i]? with
   | none=>rw[ei]at e; cases e
   | some x=>
     rw[ei]at e;obtain⟨v,l,m,q,h1,h2,h3,h4⟩:=r.part ei;obtain⟨w,l',m',q',g1,g2,g3,g4⟩:=cg.focus p h3 e;refine⟨w,a::(l++l'),m',q'++q,⟨a,_,v,rfl,.inr hH,h1,g1⟩,by rw[h2,g2]; simp,g3,λ{G' H' m2 c2} g e2 h'=>?_⟩;have k1:=g4 g (λb hb=>e2 b (hb.elim (λz=>.inl (Et _ (tf _ z))) λz=>.inr (HE _ z))) h';have k2:=h4 g (λb hb=>e2 b (hb.elim (λz=>.inl (Et _ (HE _ z))) λz=>.inr (tf _ z))) k1;rw[cH,show xs.getD i (.d .non)=x by simp[K8,ei]];have k3:=cg.t (G:=G') (K:=K) (a:=a) (by rw[e2 a (.inl .(5))]; exact hH) k2;simpa using k3
theorem cQ.det:∀{p:List Nat} {u v w:V},cQ H p u v->cQ H p u w->v=w
 | [],_,_,_,h,h'=>h.trans h'.symm
 | _::_,_,_,_,⟨a,vs,x,h1,h2,h3,h4⟩,⟨b,us,y,g1,g2,g3,g4⟩=>by
   rw[h1]at g1;cases g1
   have e:vs=us:=by
     rcases h2 with h2 | h2 <;> rcases g2 with g2 | g2 <;> rw[h2]at g2 <;> cases g2 <;> rfl
   subst e;rw[h3]at g3;cases g3
   exact h4.det g4
theorem cE.frame (g:ao G G'):∀{s:Sl},(∀b∈bs,H' b=H b)->cE K G H v bs s->cE K G' H' v bs s
 | .un,_,h=>h
 | .d _,_,⟨h,u,e1,h2⟩=>⟨h,u,e1,h2.mono g⟩
 | .o _,e,⟨a,vs,h1,h2,h3,h4⟩=>⟨a,vs,h1,h2,by rw[e a (by rw[h1]; exact Ih ..)]; exact h3,h4.mono g⟩
 | .n _,e,⟨h0,u,h1,h2⟩=>⟨h0,u,h1,h2.frame g e⟩
 | .x E,e,⟨a,o,h1,h2,h3,h4⟩=>⟨a,o,h1,h2,by rw[e a (by rw[h1]; exact Ih ..)]; exact h3,E.mono g h4⟩
theorem rH {l r b0 b1:List Addr}(h:(l++((a::b0)++r)).Nodup)(h1:b1.Nodup)(hb:∀b∈b1,b∈b0\/(b∉l/\b≠a/\b∉r)):(l++((a::b1)++r)).Nodup:=by
 obtain⟨z1,z2,z3⟩:=II.mp h;rw[IL]at z2;obtain⟨z4,z5⟩:=IB.mp z2;obtain⟨z6,z7,z8⟩:=II.mp z5;refine II.mpr ⟨z1,?_,λx hx y hy=>?_⟩
 . rw[IL];refine IB.mpr ⟨λz=>?_,II.mpr ⟨h1,z7,λx hx y hy=>?_⟩⟩
   . rcases x3.mp z with z | z
     . rcases hb a z with q | q
       . exact z4 (HE _ q)
       . exact q.2.1 rfl
     . exact z4 (tf _ z)
   . rcases hb x hx with q | q
     . exact z8 x q y hy
     . exact λe=>q.2.2 (e▸hy)
 . rw[IL]at hy;rcases HA.mp hy with q | q
   . exact z3 x hx y (by rw[q]; exact HE _ .(5))
   . rcases x3.mp q with q | q
     . rcases hb y q with q | q
       . exact z3 x hx y (HE _ (Et _ q))
       . exact λe=>q.1 (e▸hx)
     . exact z3 x hx y (tf _ q)
theorem Sta.putN (S:Sta K A H₀ τ B σ H)(hi:τ[i]?=some (.n t))(hp:dg p t=some (.l xs)):
   ∃u a vs bs0,(σ[i]?).join=some u/\cQ H p u (.ref a)/\H a=some (.lst vs)/\aX K (hd H (own A B)) H vs bs0 xs/\bs0.Nodup/\own A B a/\(∀b∈bs0,own A B b/\b≠a) /\
     ∀{H1:Hp} {vs':List V} {bs1:List Addr} {xs':List Nd},ao H H1->bs1.Nodup->(∀b∈bs1,b∈bs0\/(H b=none/\∃o,H1 b=some o))->aX K (hd (upd H1 a (.lst vs')) λb=>own A B b\/b∈bs1) (upd H1 a (.lst vs')) vs' bs1 xs' ->
       ∃B',Sta K A H₀ (τ.set i (.n (cH p t (.l xs')))) B' σ (upd H1 a (.lst vs')):=by
 obtain⟨nd,u,eu,ok⟩:=S.sl i _ hi;obtain⟨v,l,m,r,pv,hbs,okc,back⟩:=ok.focus p hp;cases okc with
 | @l a vs bs0 _ hH r0=>
   have mem:∀b,b∈l\/b=a\/b∈bs0\/b∈r->b∈B i:=λb hb=>by
     rw[hbs];rcases hb with z | z | z | z
     . exact HE _ z
     . exact tf _ (by rw[z]; exact HE _ .(5))
     . exact tf _ (HE _ (Et _ z))
     . exact tf _ (tf _ z)
   have nd':=nd;rw[hbs]at nd';obtain⟨n1,n2,n3⟩:=II.mp nd';rw[IL]at n2;obtain⟨n4,n5⟩:=IB.mp n2;obtain⟨n6,_,_⟩:=II.mp n5;have ha:own A B a:=.inr ⟨i,mem a (.inr (.inl rfl))⟩;refine⟨u,a,vs,bs0,eu,pv,hH,r0,n6,ha,λb hb=>⟨.inr ⟨i,mem b (.inr (.inr (.inl hb)))⟩,λz=>n4 (z▸HE _ hb)⟩,λ{H1 vs' bs1 xs'} e h1 hb hx=>?_⟩;have keep:∀b o,b≠a->H b=some o->upd H1 a (.lst vs') b=H b:=λb o ne h=>by rw[aE ne,e _ _ h,h]
   have la:∀b,b∈l\/b∈r->b≠a:=λb hb z=>by
     rcases hb with q | q
     . exact n3 b q a (HE _ .(5)) z
     . exact n4 (z▸tf _ q)
   have fresh:∀b∈bs1,b∈bs0\/(b∉l/\b≠a/\b∉r):=λb hb1=>by
     rcases hb b hb1 with q | ⟨q,_⟩
     . exact .inl q
     . have no:∀c,c∈B i->b≠c:=λc hc z=>by obtain⟨o,hc⟩:=S.bd i c hc; rw[<- z,q]at hc; cases hc
       exact .inr ⟨λz=>no b (mem b (.inl z)) rfl,no a (mem a (.inr (.inl rfl))),λz=>no b (mem b (.inr (.inr (.inr z)))) rfl⟩
   have sub:∀b,own A (upB B i (l++((a::bs1)++r))) b->own A B b\/b∈bs1:=λb z=>by
     rcases z with z | ⟨j,z⟩
     . exact .inl (.inl z)
     . rcases ba z with ⟨_,z⟩ | ⟨_,z⟩
       . rcases x3.mp z with z | z
         . exact .inl (.inr ⟨i,mem b (.inl z)⟩)
         . rw[IL]at z;rcases HA.mp z with z | z
           . exact .inl (z▸ha)
           . rcases x3.mp z with z | z
             . exact .inr z
             . exact .inl (.inr ⟨i,mem b (.inr (.inr (.inr z)))⟩)
       . exact .inl (.inr ⟨j,z⟩)
   have sm:ao (hd H (own A B)) (hd (upd H1 a (.lst vs')) (own A (upB B i (l++((a::bs1)++r))))):=λb o z=>by
     obtain⟨z1,z2⟩:=au.mp z;refine au.mpr ⟨λy=>?_,by rw[keep b o (λq=>z1 (q▸ha)) z2]; exact z2⟩;rcases sub b y with y | y
     . exact z1 y
     . rcases hb b y with q | ⟨q,_⟩
       . exact z1 (.inr ⟨i,mem b (.inr (.inr (.inl q)))⟩)
       . rw[q]at z2; cases z2
   have hs:ao H₀ (upd H1 a (.lst vs')):=λb o z=>by
     have f0:=S.fr i a (mem a (.inr (.inl rfl)));rw[aE (λq=>by rw[q,f0]at z; cases z)];exact e _ _ (S.same _ _ z)
   refine⟨upB B i (l++((a::bs1)++r)),hs,by rw[HV,S.len],λj s hj=>?_,λj b z=>?_,λj k b z1 z2=>?_,S.ad,λj b z=>?_⟩
   . by_cases ej:j=i
     . subst ej;have hl:=(rp.mp hi).1;rw[Ic hl]at hj;cases hj
       unfold upB;rw[if_pos rfl];refine⟨rH nd' h1 fresh,u,eu,back sm (λb hb=>?_) (.l aK (hx.frame (aC .(102) sub) λ_ _=>rfl))⟩;obtain⟨o,q⟩:=S.bd j b (mem b (hb.elim .inl λz=>.inr (.inr (.inr z))));exact keep b o (la b hb) q
     . rw[HI (λz=>ej z.symm)]at hj;unfold upB;rw[if_neg ej];refine(S.sl j s hj).frame sm λb hb=>?_
       obtain⟨o,q⟩:=S.bd j b hb;exact keep b o (λz=>ej (S.uq j i a (z▸hb) (mem a (.inr (.inl rfl))))) q
   . rcases ba z with ⟨_,z⟩ | ⟨_,z⟩
     . rcases sub b (.inr ⟨i,by unfold upB; rw[if_pos rfl]; exact z⟩) with y | y
       . rcases x3.mp z with z | z
         . exact S.fr i b (mem b (.inl z))
         . rw[IL]at z;rcases HA.mp z with z | z
           . exact S.fr i b (mem b (.inr (.inl z)))
           . rcases x3.mp z with z | z
             . rcases hb b z with q | ⟨q,_⟩
               . exact S.fr i b (mem b (.inr (.inr (.inl q))))
               . exact S.same.free q
             . exact S.fr i b (mem b (.inr (.inr (.inr z))))
       . rcases hb b y with q | ⟨q,_⟩
         . exact S.fr i b (mem b (.inr (.inr (.inl q))))
         . exact S.same.free q
     . exact S.fr j b z
   . have inB:∀{c},c∈l++((a::bs1)++r)->c∈B i\/H c=none:=λ{c} z=>by
       rcases x3.mp z with z | z
       . exact .inl (mem c (.inl z))
       . rw[IL]at z;rcases HA.mp z with z | z
         . exact .inl (mem c (.inr (.inl z)))
         . rcases x3.mp z with z | z
           . rcases hb c z with q | ⟨q,_⟩
             . exact .inl (mem c (.inr (.inr (.inl q))))
             . exact .inr q
           . exact .inl (mem c (.inr (.inr (.inr z))))
     have cross:∀{j},j≠i->b∈B j->b∈l++((a::bs1)++r)->False:=λ{j} nj y1 y2=>by
       rcases inB y2 with q | q
       . exact nj (S.uq j i b y1 q)
       . obtain⟨o,w⟩:=S.bd j b y1; rw[q]at w; cases w
     rcases ba z1 with ⟨e1,y1⟩ | ⟨e1,y1⟩ <;> rcases ba z2 with ⟨e2,y2⟩ | ⟨e2,y2⟩
     . exact e1.trans e2.symm
     . exact(cross e2 y2 y1).elim
     . exact(cross e1 y1 y2).elim
     . exact S.uq j k b y1 y2
   . rcases ba z with ⟨_,z⟩ | ⟨_,z⟩
     . by_cases e':b=a
       . exact⟨_,by rw[e']; exact aK⟩
       . rw[aE e'];have old:b∈B i->∃o,H1 b=some o:=λq=>let ⟨o,w⟩:=S.bd i b q; ⟨o,e _ _ w⟩
         rcases x3.mp z with z | z
         . exact old (mem b (.inl z))
         . rw[IL]at z;rcases HA.mp z with z | z
           . exact absurd z e'
           . rcases x3.mp z with z | z
             . rcases hb b z with q | ⟨_,q⟩
               . exact old (mem b (.inr (.inr (.inl q))))
               . exact q
             . exact old (mem b (.inr (.inr (.inr z))))
     . by_cases e':b=a
       . exact⟨_,by rw[e']; exact aK⟩
       . rw[aE e'];obtain⟨o,w⟩:=S.bd j b z;exact⟨o,e _ _ w⟩
end
def dP (K:fw)(τ:List Sl)(i:Nat)(p:List Nat):TE:=λσ H Q=>∃A H₀ B,Sta K A H₀ τ B σ H/\∀u v H',(σ[i]?).join=some u->ao H H'->cQ H' p u v->Q v H'
noncomputable def rP:Sl->Option Nd
 | .un=>none
 | .d x=>some (.d x)
 | .o xs=>some (.l (xs.map .d))
 | .n t=>some t
 | .x _=>none
section
variable {K:fw}{G H:Hp}
theorem lT:∀{vs:List V} {xs:List D},av K G vs xs->aX K G H vs [] (xs.map .d)
 | _,_,.nil=>.nil
 | _,_,.cons h r=>.cons (b1:=[]) (b2:=[]) (.d h) (lT r)
theorem cE.nd (h:cE K G H (some v) bs s)(e:rP s=some c):cg K G H v bs c/\bs.Nodup:=by
 cases s with
 | un=>cases e
 | d x=>cases e; obtain⟨rfl,u,eu,d⟩:=h; cases eu; exact⟨.d d,JO⟩
 | o xs=>cases e; obtain⟨a,vs,rfl,e2,h3,h4⟩:=h; cases e2; exact⟨.l h3 (lT h4),by simp⟩
 | n t=>cases e; obtain⟨h0,u,eu,h2⟩:=h; cases eu; exact⟨h2,h0⟩
 | x E=>cases e
theorem aX.snoc (h:cg K G H v b2 c):∀{vs:List V} {bs:List Addr} {xs:List Nd},aX K G H vs bs xs->aX K G H (vs++[v]) (bs++b2) (xs++[c])
 | _,_,_,.nil=>by have:=aX.cons h .nil; rw[Io]at this; exact this
 | _,_,_,.cons h1 r=>by rw[Ij]; exact .cons h1 (aX.snoc h r)
theorem Sta.nd (S:Sta K A H₀ τ B σ H)(hi:τ[i]?=some s)(hc:rP s=some c):Sta K A H₀ (τ.set i (.n c)) (upB B i (B i)) σ H:=
 S.less (λ_ z=>z) λG' g _=>by
   have q:=S.sl i s hi
   obtain⟨u,e⟩:∃u,(σ[i]?).join=some u:=by
     cases s with
     | un=>cases hc
     | d x=>obtain⟨_,u,e,_⟩:=q; exact⟨u,e⟩
     | o xs=>obtain⟨_,_,_,e,_⟩:=q; exact⟨_,e⟩
     | n t=>obtain⟨_,u,e,_⟩:=q; exact⟨u,e⟩
     | x E=>cases hc
   rw[e]at q ⊢;obtain⟨q1,q2⟩:=q.nd hc;exact⟨q2,u,rfl,q1.frame g λ_ _=>rfl⟩
end
section
variable {X:Cx}{C:Bool}{τ:List Sl}{x y z:D}{a b e o:Expr}{pos q:Pos}{k:Nat}{s:Sl}{N:Po}{rest:List Stmt}{i:Nat}{t c:Nd}{pt:List Nat}{xs:List Nd}{j:Int}{m:Nat}
theorem Hi (i:Nat){s:Sl}{c:Nd}(h:PSs X rest (dS X.K (τ.set i (.n c)) N))(hi:τ[i]?=some s:=by rfl)(hc:rP s=some c:=by rfl):PSs X rest .(114):=gQ h λD σ H ⟨A,H₀,B,S,Me⟩=>⟨A,H₀,_,S.nd hi hc,Me⟩
theorem dZ (i:Nat){n:Str}{t:Nd}(h:τ[i]?=some (.n t):=by rfl)(hN:X.N[i]?=some n:=by rfl)(hv:Vis X.env.scope n:=by first | exact JM rfl | exact IH .(9) | exact IH .(8))
   (hd:(n==("__debug__" : Str))=false:=by decide) (hcd:(n==("__classdict__" : Str))=false:=by decide):PE X (.Name n pos) (dP X.K τ i []):=peW (bo hN hv hd hcd) λσ H Q ⟨A,H₀,B,S,k⟩=>by
 obtain⟨_,u,e,_⟩:=S.sl i _ h;exact⟨u,slot_of e,k u u H e .(102) rfl⟩
theorem Sta.at {K:fw}{A:Addr->Prop}{τ:List Sl}{B:Nat->List Addr}{σ:L2.St}(S:Sta K A H₀ τ B σ H)(hi:τ[i]?=some (.n t))(hp:dg pt t=some c):∃u v m,(σ[i]?).join=some u/\cQ H pt u v/\cg K (hd H (own A B)) H v m c/\∀b∈m,b∈B i:=by
 obtain⟨_,u,e,ok⟩:=S.sl i _ hi;obtain⟨v,l,m,r,h1,h2,h3,_⟩:=ok.focus pt hp;exact⟨u,v,m,e,h1,h3,λb hb=>by rw[h2]; exact tf _ (HE _ hb)⟩
theorem uh {K:fw}{vs:List V}(r:aX K G H vs bs xs)(hm:m<xs.length):∃v,vs[m]?=some v:=⟨vs[m]'(by rw[r.length]; exact hm),ph _⟩
theorem ym (h:ixN n j=some m):m<n:=by
 unfold ixN at h;split at h
 . split at h
   . cases h; omega
   . cases h
 . split at h
   . cases h; omega
   . cases h
theorem iw (ha:PE X a (dP X.K τ i pt))(hb:PE X b (dE X.K false τ (.d (.int j))))(hi:τ[i]?=some (.n t))(hp:dg pt t=some (.l xs))(hj:ixN xs.length j=some m)(hs:du b:=by exact λ_ _=>rfl):PE X (.Subscript a b pos) (dP X.K τ i (pt++[m])):=
 peW (uo kK ha hb hs) λσ H Q ⟨A,H₀,B,S,k⟩=>⟨A,H₀,B,S,λu v H1 eu e1 pv=>aU (S.mono e1) λw H2 e2 d2=>by
   cases d2
   obtain⟨u',v',m',eu',pv',ok,_⟩:=((S.mono e1).mono e2).at hi hp;rw[eu]at eu';cases eu'
   obtain rfl:=(pv.mono e2).det pv';cases ok with
   | @l ad vs _ _ hH r=>
     obtain⟨x,hx⟩:=uh r (ym hj);exact⟨ad,vs,j,x,rfl,rfl,SqL.of hH,by unfold atI; rw[r.length,hj]; exact hx,k u x H2 eu (e1.trans e2) (pv'.snoc (.inl hH) hx)⟩⟩
theorem Fj (h:PE X e (dP X.K τ i pt))(hi:τ[i]?=some (.n t))(hp:dg pt t=some (.d x)):PE X e .(126):=peW h λσ H Q q=>by
 obtain⟨A,H₀,B,S,k⟩:=dj q;refine⟨A,H₀,B,S,λu v H1 eu e1 pv=>?_⟩;obtain⟨u',v',m',eu',pv',ok,_⟩:=(S.mono e1).at hi hp;rw[eu]at eu';cases eu'
 obtain rfl:=pv.det pv';cases ok with
 | d h=>exact k v H1 e1 (h.mono (aC .(102) λ_ z=>iX z))
theorem xW (h:PE X e (dP X.K τ i pt))(hi:τ[i]?=some (.n t))(hp:dg pt t=some c):PE X e (dE X.K false τ (.d (ndD c))):=peW h λσ H Q q=>by
 obtain⟨A,H₀,B,S,k⟩:=dj q;refine⟨A,H₀,B,S,λu v H1 eu e1 pv=>?_⟩;obtain⟨u',v',m',eu',pv',ok,hm⟩:=(S.mono e1).at hi hp;rw[eu]at eu';cases eu'
 obtain rfl:=pv.det pv';exact k v H1 e1 (ok.den (aC .(102) λ_ z=>.inl z) λb hb o ho=>au.mpr ⟨λz=>(by obtain⟨_,w⟩:=S.ad b z; rw[S.fr i b (hm b hb)]at w; cases w),ho⟩)
theorem Ek {ap cp:Pos}(ho:PE X o (dP X.K τ i pt))(he:PE X e (dE X.K true τ s))(hi:τ[i]?=some (.n t))(hp:dg pt t=some (.l xs))(hc:rP s=some c)(hl:xs.length<1000000)(hr:PSs X rest (dS X.K (τ.set i (.n (cH pt t (.l (xs++[c]))))) N))
   (hfew:((M5 cp (Do [e] X.env)).all (λx=>!x.1)&&(Nj cp (N2 [] X.env)).all (λx=>x.1.isSome)&&decide (([e]:List Expr).length+([]:List MW).length+(if ([]:List MW).isEmpty then 0 else 1)<30))=true:=by rfl)
   (hline:(ap.endLine==cp.line)=true:=by rfl) (hst:Do [e] X.env=.(117)::Do [] X.env:=by rfl) (hpl:(M5 cp (Do [] X.env)).any (·.1)=false:=by rfl)
   (hs:M7 (.Call (.Attribute o "append" ap) [e] [] cp) none pos.line X.env=pure false:=by rfl) (hbase:M9 o "append" X.env (eval o X.env)=eval o X.env:=by rfl) :
   PSs X (.Expr (.Call (.Attribute o "append" ap) [e] [] cp) pos::rest) .(114):=
 bw (M:=(·=τ.set i (.n (cH pt t (.l (xs++[c])))))) (psW (eA (kh IJ Kd KQ fJ ho (bj he cB hst) hbase hfew hline hst hpl) hs) λD σ H ⟨A,H₀,B,S,Me⟩=>by
   refine⟨A,H₀,B,S,λu v H1 eu e1 pv=>?_⟩;have S1:=S.mono e1;obtain⟨u',l,vs,bs0,eu',pv',hH,r0,nd0,hal,hown,put⟩:=S1.putN hi hp;rw[eu]at eu';cases eu'
   obtain rfl:=pv.det pv';refine⟨.inl ⟨rfl,_,SqL.of hH⟩,A,H₀,B,S1,λw H2 bs e2 hf hw=>⟨l,vs,w,rfl,rfl,e2 _ _ hH,by rw[r0.length]; exact Jh hl .(2),?_⟩⟩;obtain⟨nw,ndw⟩:=hw.nd hc;have off:∀b∈bs,b≠l:=λb hb z=>by rw[z]at hb; rw[(hf l hb).1]at hH; cases hH
   have sm:ao (hd H2 λb=>own A B b\/b∈bs) (hd (upd H2 l (.lst (vs++[w]))) λb=>own A B b\/b∈bs0++bs):=λb o z=>by
     obtain⟨z1,z2⟩:=au.mp z;refine au.mpr ⟨λy=>z1 ?_,by rw[aE (λy:b=l=>z1 (.inl (by rw[y]; exact hal)))]; exact z2⟩;rcases y with y | y
     . exact .inl y
     . exact(x3.mp y).elim (λz=>.inl (hown b z).1) .inr
   have sm0:ao (hd H1 (own A B)) (hd (upd H2 l (.lst (vs++[w]))) λb=>own A B b\/b∈bs0++bs):=λb o z=>by
     obtain⟨z1,z2⟩:=au.mp z;refine au.mpr ⟨λy=>?_,by rw[aE (λy:b=l=>z1 (by rw[y]; exact hal))]; exact e2 _ _ z2⟩;rcases y with y | y
     . exact z1 y
     . rcases x3.mp y with y | y
       . exact z1 (hown b y).1
       . rw[(hf b y).1]at z2; cases z2
   obtain⟨B',S'⟩:=put (H1:=H2) (vs':=vs++[w]) (bs1:=bs0++bs) (xs':=xs++[c]) e2 (II.mpr ⟨nd0,ndw,λx hx y hy z=>by
       obtain⟨o,q⟩:=r0.some_of x hx;rw[z,(hf y hy).1]at q; cases q⟩)
     (λb hb=>(x3.mp hb).elim .inl λz=>.inr (hf b z))
     (aX.snoc (nw.frame sm λb hb=>aE (off b hb)) (r0.frame sm0 λb hb=>by
       obtain⟨o,q⟩:=r0.some_of b hb;rw[aE (hown b hb).2,e2 _ _ q,q]))
   exact Me.nx _ B' _ _ rfl S') λ_ e=>e▸hr
end
end Hy
namespace Ev
open PySem PySem.Spec PyProof.Rows L2
noncomputable def bad:Str:=⟨#[0x110000]⟩
mutual
noncomputable def eqD:D->D->Bool
 | .non,.non=>true
 | .bl a,.bl b=>a==b
 | .bl a,.int j=>(if a then 1 else 0)==j
 | .int i,.bl b=>i==(if b then 1 else 0)
 | .int a,.int b=>a==b
 | .str a,.str b=>a==b
 | .tup xs,.tup ys=>fU xs ys
 | .lst xs,.lst ys=>fU xs ys
 | .box _,.box _=>true
 | .box _,.str b=>bad==b
 | .str a,.box _=>a==bad
 | .box _,.non | .box _,.bl _ | .box _,.int _ | .box _,.tup _ | .box _,.lst _=>false
 | .non,.box _ | .bl _,.box _ | .int _,.box _ | .tup _,.box _ | .lst _,.box _=>false
 | .non,.bl _ | .non,.int _ | .non,.str _ | .non,.tup _ | .non,.lst _=>false
 | .bl _,.non | .bl _,.str _ | .bl _,.tup _ | .bl _,.lst _=>false
 | .int _,.non | .int _,.str _ | .int _,.tup _ | .int _,.lst _=>false
 | .str _,.non | .str _,.bl _ | .str _,.int _ | .str _,.tup _ | .str _,.lst _=>false
 | .tup _,.non | .tup _,.bl _ | .tup _,.int _ | .tup _,.str _ | .tup _,.lst _=>false
 | .lst _,.non | .lst _,.bl _ | .lst _,.int _ | .lst _,.str _ | .lst _,.tup _=>false
noncomputable def fU:List D->List D->Bool
 | [],[]=>true
 | x::xs,y::ys=>eqD x y&&fU xs ys
 | [],_::_=>false
 | _::_,[]=>false
end
mutual
noncomputable def toP:D->PyData
 | .non=>.none
 | .bl b=>.bool b
 | .int i=>.int i
 | .str x=>.str x
 | .tup xs=>.tuple (ir xs)
 | .lst xs=>.list (ir xs)
 | .box _=>.str bad
noncomputable def ir:List D->List PyData
 | []=>[]
 | x::xs=>toP x::ir xs
end
mutual
noncomputable def cln:D->Bool
 | .str x=>PyData.strOk x
 | .tup xs=>bQ xs
 | .lst xs=>bQ xs
 | .box _=>false
 | .non | .bl _ | .int _=>true
noncomputable def bQ:List D->Bool
 | []=>true
 | x::xs=>cln x&&bQ xs
end
mutual
noncomputable def dep:D->Nat
 | .tup xs=>b5 xs+1
 | .lst xs=>b5 xs+1
 | .non | .bl _ | .int _ | .str _ | .box _=>0
noncomputable def b5:List D->Nat
 | []=>0
 | x::xs=>max (dep x) (b5 xs)
end
def cv (x:D):Prop:=cln x=true/\dep x<=64
noncomputable instance (x:D):Decidable (cv x):=inferInstanceAs (Decidable (_/\_))
mutual
theorem ig:∀x y:D,IQ (toP x) (toP y)=eqD x y
 | .non,y=>by cases y <;> simp[toP,IQ,eqD]
 | .bl a,y=>by cases y <;> simp[toP,IQ,eqD]
 | .int a,y=>by cases y <;> simp[toP,IQ,eqD]
 | .str a,y=>by cases y <;> simp[toP,IQ,eqD]
 | .tup xs,.tup ys=>by simp only[toP,IQ,eqD]; exact k8 xs ys
 | .lst xs,.lst ys=>by simp only[toP,IQ,eqD]; exact k8 xs ys
 | .tup xs,.non=>by simp[toP,IQ,eqD]
 | .tup xs,.bl _=>by simp[toP,IQ,eqD]
 | .tup xs,.int _=>by simp[toP,IQ,eqD]
 | .tup xs,.str _=>by simp[toP,IQ,eqD]
 | .tup xs,.lst _=>by simp[toP,IQ,eqD]
 | .lst xs,.non=>by simp[toP,IQ,eqD]
 | .lst xs,.bl _=>by simp[toP,IQ,eqD]
 | .lst xs,.int _=>by simp[toP,IQ,eqD]
 | .lst xs,.str _=>by simp[toP,IQ,eqD]
 | .lst xs,.tup _=>by simp[toP,IQ,eqD]
 | .tup xs,.box _=>by simp[toP,IQ,eqD]
 | .lst xs,.box _=>by simp[toP,IQ,eqD]
 | .box _,y=>by cases y <;> simp[toP,IQ,eqD]
theorem k8:∀xs ys:List D,K7 (ir xs) (ir ys)=fU xs ys
 | [],[]=>by simp[ir,K7,fU]
 | [],_::_=>by simp[ir,K7,fU]
 | _::_,[]=>by simp[ir,K7,fU]
 | x::xs,y::ys=>by simp only[ir,K7,fU]; rw[ig x y,k8 xs ys]
end
mutual
theorem jv:∀x:D,(toP x).canLay0=cln x
 | .non=>by simp[toP,JW,cln]
 | .bl _=>by simp[toP,JW,cln]
 | .int _=>by simp[toP,JW,cln]
 | .str _=>by simp[toP,JW,cln]
 | .tup xs=>by simp only[toP,JW,cln]; exact lY xs
 | .lst xs=>by simp only[toP,JW,cln]; exact lY xs
 | .box _=>by simp only[toP,JW,cln]; decide +kernel
theorem lY:∀xs:List D,LQ (ir xs)=bQ xs
 | []=>by simp[ir,LQ,bQ]
 | x::xs=>by simp only[ir,LQ,bQ]; rw[jv x,lY xs]
end
mutual
theorem kO:∀x:D,(toP x).depth=dep x
 | .non=>by simp[toP,Kj,dep]
 | .bl _=>by simp[toP,Kj,dep]
 | .int _=>by simp[toP,Kj,dep]
 | .str _=>by simp[toP,Kj,dep]
 | .tup xs=>by simp only[toP,Kj,dep]; rw[l7 xs]
 | .lst xs=>by simp only[toP,Kj,dep]; rw[l7 xs]
 | .box _=>by simp[toP,Kj,dep]
theorem l7:∀xs:List D,Mg (ir xs)=b5 xs
 | []=>by simp[ir,Mg,b5]
 | x::xs=>by simp only[ir,Mg,b5]; rw[kO x,l7 xs]
end
theorem dU (h:cv x):SeqAt.shaped (toP x)=true:=by
 unfold SeqAt.shaped;rw[jv,kO,h.1,Bool.true_and];exact decide_eq_true h.2
section
variable {X:Cx}{pins:List .(103)}{σ:L2.St}{H G:Hp}{s:Da}
mutual
theorem cG (I:Inv X pins σ H s)(e:ao G H):∀{v:V} {d:D} {u:Value},Den X.K G v d->RelV v u->cln d=true->∃as,Reads s.heap u (toP d) as
 | _,_,_,.non,r,_=>by cases r; exact⟨_,.none⟩
 | _,_,_,.bl,r,_=>by cases r; exact⟨_,.bool _⟩
 | _,_,_,.int,r,_=>by obtain⟨t,rfl⟩:=r; exact⟨_,.int _ _⟩
 | _,_,_,.str,r,_=>by obtain⟨t,rfl⟩:=r; exact⟨_,.str _ _⟩
 | _,_,_,.tup h q,r,c=>by
   cases r
   obtain⟨its,rv,⟨o,h1,h2,n,h3⟩,_⟩:=I.tuple (aY e h);obtain⟨as,z⟩:=jQ I e q rv (by rw[cln]at c; exact c);exact⟨_,.tuple h1 h2 h3 (by simpa using z)⟩
 | _,_,_,.lst h q,r,c=>by
   cases r
   obtain⟨its,rv,⟨o,n,h1,h2,_,h3⟩,_⟩:=I.list (aR e h);obtain⟨as,z⟩:=jQ I e q rv (by rw[cln]at c; exact c);exact⟨_,.list h1 h2 h3 (by simpa using z)⟩
 | _,_,_,.box _,_,c=>by rw[cln]at c; cases c
theorem jQ (I:Inv X pins σ H s)(e:ao G H):∀{vs:List V} {ds:List D} {us:List Value},av X.K G vs ds->Vals vs us->bQ ds=true->∃as,ReadsAll s.heap us (ir ds) as
 | _,_,_,.nil,.nil,_=>⟨_,.nil⟩
 | _,_,_,.cons h q,.cons r rs,c=>by
   rw[bQ,Iy]at c;obtain⟨as,z⟩:=cG I e h r c.1;obtain⟨bs,z'⟩:=jQ I e q rs c.2;exact⟨_,.cons z z'⟩
end
end
end Ev
namespace Hy
open PySem PySem.Spec PyProof.Rows L2
open Ev (D Den av aq aY aR Itz Itv D3 Dg sN sj eqD cv cG dU ig)
section
variable {X:Cx}{τ:List Sl}{x y z:D}{a b e c tg:Expr}{pos p q:Pos}{k:Nat}{s:Sl}{N:Po}{rest body:List Stmt}{xs ys:List D}{i:Int}
theorem vn (M:Nat->Bool->List Sl->Prop)(B:Bk X k)(h0:∃n t,M n t τ)(hc:∀n t τ',M n t τ'->PT X c (dT X.K τ' t))(hb:∀n τ',M n true τ'->PSs X body (dS X.K τ' { N with nx:=λτ2=>∃m t,m<n/\M m t τ2,ct:=λτ2=>∃m t,m<n/\M m t τ2,bk:=λ_=>False }))
   (hr:∀n τ',M n false τ'->PSs X rest (dS X.K τ' N)):PSs X (.While c body [] pos::rest) .(114):=by
 have hc':PT X c λσ H Q=>∃n t τ',M n t τ'/\dT X.K τ' t σ H Q:=λpins s σ H Q I ⟨n,t,τ',m,q⟩=>hc n t τ' m pins s σ H Q I q
 have hb':PSs X body λD σ H=>∃n τ',M n true τ'/\dS X.K τ' { N with nx:=λτ2=>∃m t,m<n/\M m t τ2,ct:=λτ2=>∃m t,m<n/\M m t τ2,bk:=λ_=>False } D σ H:=λpins s σ H D I ⟨n,τ',m,q⟩=>hb n τ' m pins s σ H D I q
 refine bw (M:=λτ'=>∃n,M n false τ') (psW (yG B.po hc' hb') λD σ H ⟨A,H₀,B,S,Me⟩=>⟨λm σ' H'=>∃t τ' B',M m t τ'/\Sta X.K A H₀ τ' B' σ' H',?_,?_⟩) λτ' h=>let ⟨n,h⟩:=h; hr n τ' h
 . obtain⟨n,t,h0⟩:=h0;exact⟨n,t,τ,B,h0,S⟩
 rintro m σ' H' ⟨t,τ',B',hM,S'⟩;refine⟨m,t,τ',hM,A,H₀,B',S',λH1 e1=>?_⟩;cases t with
 | false=>exact rO (Me.nx τ' B' σ' H1 ⟨m,hM⟩ (S'.mono e1))
 | true=>
   refine rE ⟨λσ2 H2=>∃τ2 B2,(∃n t,n<m/\M n t τ2)/\Sta X.K A H₀ τ2 B2 σ2 H2,λσ2 H2 ⟨τ2,B2,⟨n,t,l,q⟩,S2⟩=>⟨n,l,t,τ2,B2,q,S2⟩,m,τ',hM,A,H₀,B',S'.mono e1,?_⟩;exact⟨λτ2 B2 σ2 H2 m S2=>⟨τ2,B2,m,S2⟩,λ_ _ _ _ z=>z.elim,λτ2 B2 σ2 H2 m S2=>⟨τ2,B2,m,S2⟩,Me.rt,Me.xc⟩
noncomputable def ij (xs ys:List D):List D:=(xs.zip ys).map λp=>.tup [p.1,p.2]
theorem b6:(ij xs ys).length=min xs.length ys.length:=by simp[ij]
theorem pA (i:Nat)(h:i<(ij xs ys).length):(ij xs ys)[i]=.tup [xs.getD i .non,ys.getD i .non]:=by
 rw[b6]at h;simp[ij,show i<xs.length by omega,show i<ys.length by omega]
theorem DN {K:fw}{G:Hp}{a b:Addr}{vs ws:List V}(h:SqL K G a vs)(r:av K G vs xs)(h':SqL K G b ws)(r':av K G ws ys):Yl K (Itz K a b) (ij xs ys) G:=by
 intro H sg;have hl:=r.length;have hl':=r'.length;refine⟨λi hi=>⟨vs,ws,aR sg h,aR sg h',by rw[b6]at hi; omega⟩,λi hi=>?_⟩;have hi':=hi;rw[b6]at hi';obtain⟨v,hv,dv⟩:=r.get (ph (show i<xs.length by omega));obtain⟨w,hw,dw⟩:=r'.get (ph (show i<ys.length by omega));refine⟨⟨vs,ws,v,w,aR sg h,aR sg h',hv,hw⟩,λy H' ⟨p,x1,x2,hp,e0,e1,e2,e3⟩=>?_⟩;subst e0 e1;have ex:x1=v:=by have:=e2 vs (aR sg h); rw[hv]at this; exact(Im this).symm
 have ey:x2=w:=by have:=e3 ws (aR sg h'); rw[hw]at this; exact(Im this).symm
 subst ex ey;refine⟨aq hp _,λM hM sv=>?_⟩;rw[pA,show xs.getD i .non=xs[i] by simp[show i<xs.length by omega],show ys.getD i .non=ys[i] by simp[show i<ys.length by omega]];have up:=sv.trans (aC (aq hp (.tup [x1,x2])) λ_ z=>z);exact .tup (SqT.of (lV hM hp)) (.cons (dv.mono up) (.cons (dw.mono up) .nil))
theorem uV {ts:List Expr}{m:Nat}{tp:Pos}(B:Bk X k)(h:PE X a (dE X.K true τ (.d (.lst xs))))(h':PE X b (dE X.K true τ (.d (.lst ys))))(hg:Gl X "zip":=by rfl)(hs:Do [a,b] X.env=.(118)::Do [b] X.env:=by rfl)(hs2:Do [b] X.env=[(false,eval b X.env)]:=by rfl):
   PI X (.Tuple ts m tp) (.Call (.Name "zip" p) [a,b] [] pos) (dI X.K τ (ij xs ys)):=
 piW (sN B.calm hg (B.blt _ .(2)) (ae h (ae h' ag hs2) hs) hs hs2) λσ H R ⟨A,H₀,B,S,k⟩=>eQ S λvs H1 e1 d1=>by
   cases d1 with
   | cons d r=>
     cases r with
     | cons d' r=>
       cases r
       cases d with
       | lst h r=>cases d' with
         | lst h' r'=>exact⟨_,_,rfl,⟨_,aR aS h⟩,⟨_,aR aS h'⟩,k _ H1 e1 (DN h r h' r')⟩
theorem Ej {K:fw}{G:Hp}{a:Addr}{vs:List V}(h:SqL K G a vs)(r:av K G vs xs):Yl K (Itv K a vs.length) xs.reverse G:=by
 intro H sg;have hl:=r.length;refine⟨λi hi=>by rw[Jk]at hi; show vs.length<=i; omega,λi hi=>?_⟩;rw[Jk]at hi;obtain⟨v,hv,dv⟩:=r.get (ph (show xs.length-1-i<xs.length by omega));rw[<- hl]at hv;refine⟨⟨by omega,vs,v,aR sg h,hv⟩,λx H' ⟨e1,e2⟩=>?_⟩;subst e1;have ex:x=v:=by have:=e2 vs (aR sg h); rw[hv]at this; exact(Im this).symm
 subst ex;refine⟨ao.refl _,λM _ sv=>?_⟩;rw[List.getElem_reverse];exact dv.mono sv
theorem BJ (B:Bk X k)(h:PE X a (dE X.K true τ (.d (.lst xs))))(hg:Gl X "reversed":=by rfl)(hs:Do [a] X.env=[.(118)]:=by rfl):PI X tg (.Call (.Name "reversed" p) [a] [] pos) (dI X.K τ xs.reverse):=
 piW (sj B.calm hg (B.blt _ .(2)) (ae h ag hs) hs) λσ H R ⟨A,H₀,B,S,k⟩=>eQ S λvs H1 e1 d1=>by
   cases d1 with
   | cons d r=>
     cases r
     cases d with
     | lst h r=>exact⟨_,_,rfl,aR aS h,k _ H1 e1 (Ej h r)⟩
theorem C2 (hu:X.A.units+64<cLine):OpR X (Gc .Eq) (λx y H Q=>∃G d e,ao G H/\Den X.K G x d/\Den X.K G y e/\cv d/\cv e/\Q (.bl (eqD d e)) H):=by
 intro pins s σ H x y v u Q I rx ry ⟨G,d,e,sg,dx,dy,o1,o2,q⟩;obtain⟨as,r1⟩:=cG I sg dx rx o1.1;obtain⟨bs,r2⟩:=cG I sg dy ry o2.1;exact eq_dataH r1 r2 (dU o1) (dU o2) hu ⟨.bl _,H,I,by rw[ig]; rfl,q⟩
theorem EB (hu:X.A.units+64<cLine):OpR X (Gc .NotEq) (λx y H Q=>∃G d e,ao G H/\Den X.K G x d/\Den X.K G y e/\cv d/\cv e/\Q (.bl (!eqD d e)) H):=by
 intro pins s σ H x y v u Q I rx ry ⟨G,d,e,sg,dx,dy,o1,o2,q⟩;obtain⟨as,r1⟩:=cG I sg dx rx o1.1;obtain⟨bs,r2⟩:=cG I sg dy ry o2.1;exact ne_dataH r1 r2 (dU o1) (dU o2) hu ⟨.bl _,H,I,by rw[ig]; rfl,q⟩
theorem um (B:Bk X k)(h1:cv x)(h2:cv y):cF X (Gc .Eq) x y (.bl (eqD x y)):=⟨_,C2 B.room.units,λM v w H Q _ d1 d2 q=>⟨_,x,y,aS,d1,d2,h1,h2,q _ H .(102) .bl⟩⟩
theorem BN (B:Bk X k)(h1:cv x)(h2:cv y):cF X (Gc .NotEq) x y (.bl (!eqD x y)):=⟨_,EB B.room.units,λM v w H Q _ d1 d2 q=>⟨_,x,y,aS,d1,d2,h1,h2,q _ H .(102) .bl⟩⟩
variable {u v:Str}
theorem vE:cF X (Gc .Eq) (.str u) (.str v) (.bl (decide (u=v))):=⟨_,Bv,λ_ v' w H Q _ d1 d2 k=>by
 cases d1
 cases d2
 exact⟨rfl,by rw[show decide (V.str u=V.str v)=decide (u=v) by simp]; exact k _ H .(102) .bl⟩⟩
theorem Bw:cF X (Gc .NotEq) (.str u) (.str v) (.bl (!decide (u=v))):=⟨_,B5,λ_ v' w H Q _ d1 d2 k=>by
 cases d1
 cases d2
 exact⟨rfl,by rw[show decide (V.str u=V.str v)=decide (u=v) by simp]; exact k _ H .(102) .bl⟩⟩
theorem ku:∀{bs:List Bool} {us:List Value},Vals (bs.map V.bl) us->us=bs.map Jj
 | [],_,h=>by cases h; rfl
 | b::bs,_,h=>by
   cases h with
   | cons rv rs=>rw[ku rs,show _=Jj b from rv]; rfl
theorem yd (hc:X.calm=true):fG X (.builtin "all") (λxs H Q=>∃(p:Addr) (bs:List Bool),xs=[.ref p]/\SqL X.K H p (bs.map V.bl)/\Q (.bl (bs.all id)) H):=by
 intro pins s σ H xs us Q I r q;obtain⟨p,bs,rfl,h,q⟩:=q
 obtain⟨u,rfl,ru⟩:∃u,us=[u]/\RelV (.ref p) u:=by
   cases r with
   | cons r1 r=>cases r; exact⟨_,rfl,r1⟩
 cases (show u=Ip _ from ru)
 obtain⟨its,rv,pl,hz⟩:=I.list h;obtain rfl:=ku rv;have lt:∀a,s.heap.IsList a (bs.map Jj).toArray->a≠s.heap.objs.size:=λa ⟨o,z,_⟩=>Il (Hw z)
 refine call_all_walk (wpAny_pyIter_list pl.isList ⟨_,_,_,_,_,_,λi=>(bs.map Jj)[i]?==some (Jj true),rfl,Walks.list (A:=X.A.in1) (I.ok.hd hc) _ _ (lt _ pl.isList) (bs.map Jj).toArray,⟨⟨_,Hz _ rfl,rfl,rfl⟩,?_⟩,λi v s' Q' E' hP hQ=>?_,λh' tk hk=>?_⟩)
 . obtain⟨o,z1,z2⟩:=pl.isList;exact⟨o,pq _ z1,z2⟩
 . have hP':(bs.map Jj)[i]?=some v:=by simpa using hP
   obtain⟨c,_,rfl⟩:=Hu.mp (IP hP');refine KM ?_;have hQ:Q' ((bs.map Jj)[i]?==some (Jj true)) s':=hQ;rw[hP']at hQ;cases c
   . exact hQ
   . exact hQ
 . refine⟨.bl (bs.all id),H,I.kept (t':=tk) λb' o z=>?_,?_,q⟩
   . refine hk b' o (λhm=>?_) (pq _ z);have:b'=s.heap.objs.size:=by simpa using hm
     exact absurd (Hw z) (by rw[this]; exact Kz _)
   . have e:∀bs:List Bool,bs.all id=(ox (bs.map Jj).toArray.size).all λi=>(bs.map Jj)[i]?==some (Jj true):=λbs=>by
       rw[HD,bp];induction bs with
       | nil=>rfl
       | cons b bs ih=>
         rw[List.all_cons,ih,IA,MS,List.all_cons,List.all_map];congr 1;cases b <;> rfl
     rw[e]; rfl
theorem tU {K:fw}:∀{vs:List V} {bs:List Bool},av K H vs (bs.map .bl)->vs=bs.map V.bl
 | _,[],h=>by cases h; rfl
 | _,_::_,h=>by
   cases h with
   | cons d r=>cases d; rw[tU r]; rfl
theorem pV (hc:X.calm=true)(bs:List Bool)(hx:xs=bs.map .bl):gw X (.builtin "all") [.lst xs] (.d (.bl (bs.all id))):=⟨_,yd hc,λM vs H Q _ d q=>by
 subst hx;cases d with
 | cons d r=>
   cases r
   cases d with
   | lst h r=>
     cases tU r
     exact⟨_,_,rfl,aR aS h,q _ H [] .(102) e8 (jC .bl)⟩⟩
end
end Hy
namespace Hy
open PySem PySem.Spec PyProof.Rows L2
open Ev (D Den av aH aL aq aY aR)
end Hy
namespace Hy
open PySem PySem.Spec PyProof.Rows L2
open Ev (D Den av aq aY aR aT gu eF PTs dB fy)
section
variable {X:Cx}{C:Bool}{τ:List Sl}{x y z:D}{a b e o:Expr}{es:List Expr}{pos p q:Pos}{k:Nat}{s:Sl}{xs:List D}{i j:Int}
theorem zT:OpR X (KB .Mult) (λx y H Q=>∃l k xs,x=.ref l/\y=.int k/\SqL X.K H l xs/\0<=k/\k<100000/\xs.length*k.toNat<=sizeLine/\∀p,H p=none->Q (.ref p) (upd H p (.lst (HY k.toNat xs).flatten))):=by
 intro pins s σ H x y v u Q I rx ry h;obtain⟨l,k,xs,rfl,rfl,hH,h1,h2,hz,q⟩:=h;cases rx
 obtain⟨t,rfl⟩:=ry;obtain⟨its,r,pl,_⟩:=I.list hH;have hl:=r.length;obtain⟨⟨cls,dd,data,sl⟩,e,hc,n,hd⟩:=pl.isList;simp only at hc hd;subst hc hd;have hlen:its.toArray.size*k.toNat<=sizeLine:=by rw[HD,<- hl]; exact hz
 have hcap:¬its.toArray.size*k.toNat>(2^63-1)/8:=by
   have:(sizeLine:Nat)<=(2^63-1)/8:=by decide
   omega
 have hfit:¬(!Builtin.List.listFitsIndex k)=true:=by
   rw[fitsIndex_both .(0) .(0)];exact HG
 have hlong:¬Ku (its.toArray.size*k.toNat)=true:=by
   rw[qy hlen];exact HG
 have hnew:List.foldl (λx1 x2=>x1++x2) #[] (HY (if its.toArray.isEmpty=true then 0 else k.toNat) its.toArray)=(HY k.toNat its).flatten.toArray:=by
   have f0:∀m:Nat,List.foldl (λx1 x2=>x1++x2) #[] (HY m its.toArray)=(HY m its).flatten.toArray:=λm=>by
     have:=foldl_rep its m [];rw[List.nil_append]at this;exact this
   rw[f0];cases its with
   | nil=>simp
   | cons a r'=>rw[if_neg .(4)]
 refine wpAny_binaryOp_repeat_ref (T:="list") (U:="int") .(2) ⟨_,e,rfl⟩ (λs'=>typeIs_int s' k t) noFill_list_mul F.fills_int_mul F.slot_int_rmul repeat_list F.slot_int_index.lookup
   (Nm F.slot_int_rmul (typeIs_int s k t) F.entry_int_rmul (F.args_int_rmul_2 _ _) (lm_int_rmul_list_any k t l its.toArray n dd sl)
     ⟨e,rfl,⟨_,e,rfl⟩,Nm F.slot_list_mul ⟨_,e,rfl⟩ F.entry_list_mul (F.args_list_mul_2 _ _) (lm_list_mul_any l its.toArray n dd sl k t hfit hcap hlong) ⟨e,?_⟩⟩)
 rw[hnew];exact⟨.ref _,_,I.FY (t':=s.toks) (r.rep k.toNat) (by rw[len_rep,Nat.mul_comm]; exact hz),rfl,q _ I.fresh⟩
theorem uI {K:fw}{vs:List V}(h:av K H vs xs):∀k:Nat,av K H (HY k vs).flatten (HY k xs).flatten
 | 0=>.nil
 | k+1=>by rw[Jv,Jv,JI,JI]; exact h.append (uI h k)
theorem yx (ha:PE X a (dE X.K C τ (.d (.lst xs))))(hb:PE X b (dE X.K C τ (.d (.int j))))(h0:0<=j)(h1:j<100000)(hl:xs.length*j.toNat<1000000):PE X (.BinOp a .Mult b pos) (dE X.K C τ (.o (HY j.toNat xs).flatten)):=peW (wM zT ha hb) λσ H Q ⟨A,H₀,B,S,k⟩=>
 aU S λv H1 e1 d1=>aU (S.mono e1) λw H2 e2 d2=>by
   cases d2
   cases d1 with
   | lst h1' r1=>
     refine⟨_,j,_,rfl,rfl,aR (aS.trans e2) h1',h0,h1,by rw[r1.length]; exact Jp (Jh hl .(2)),λp hp=>?_⟩;obtain⟨z1,z2,z3⟩:=jX (K:=X.K) hp (uI (r1.mono (aC e2 λ_ z=>z)) j.toNat);exact k _ _ [p] (e1.trans (e2.trans z1)) (λb hb=>⟨(e1.trans e2).free (z2 b hb).1,(z2 b hb).2⟩) z3
def dN' (K:fw)(C:Bool)(τ:List Sl)(ns:List Nd):TA:=λσ H Q=>∃A H₀ B,Sta K A H₀ τ B σ H/\∀vs H' bs,ao H H'->Fr H H' bs->bs.Nodup->aX K (hd H' λb=>vw C A B b\/b∈bs) H' vs bs ns->Q vs H'
theorem xX:PA X [] (dN' X.K C τ []):=paW cB λσ H Q ⟨A,H₀,B,S,k⟩=>k [] H [] .(102) e8 JO .nil
theorem Sta.hide {K:fw}{A:Addr->Prop}{H₀ H H1:Hp}{B:Nat->List Addr}{σ:L2.St}{b1:List Addr}(S:Sta K A H₀ τ B σ H)(e:ao H H1)(f:Fr H H1 b1):Sta K (λb=>A b\/b∈b1) (hd H1 λb=>∃i,b∈B i) τ B σ H1 where
 same:=aS
 len:=S.len
 sl:=λi s h=>(S.sl i s h).mono (λb o z=>by
   obtain⟨z1,z2⟩:=au.mp z;refine au.mpr ⟨λw=>?_,e _ _ z2⟩;rcases w with (w | w) | w
   . exact z1 (.inl w)
   . rw[(f b w).1]at z2; cases z2
   . exact z1 (.inr w)) e
 fr:=λi b hb=>by
   cases q:hd H1 (λb=>∃i,b∈B i) b with
   | none=>rfl
   | some o=>exact absurd ⟨i,hb⟩ (au.mp q).1
 uq:=S.uq
 ad:=λb hb=>by
   rcases hb with z | z
   . obtain⟨o,q⟩:=S.ad b z;exact⟨o,au.mpr ⟨λ⟨i,w⟩=>(by rw[S.fr i b w]at q; cases q),e _ _ (S.same _ _ q)⟩⟩
   . obtain⟨w1,o,w2⟩:=f b z;exact⟨o,au.mpr ⟨λ⟨i,w⟩=>(by obtain⟨o',q⟩:=S.bd i b w; rw[w1]at q; cases q),w2⟩⟩
 bd:=λi b hb=>let ⟨o,q⟩:=S.bd i b hb; ⟨o,e _ _ q⟩
theorem oo {A:Addr->Prop}{B:Nat->List Addr}{b1:List Addr}{b:Addr}(h:vw C A B b\/b∈b1):vw C (λb=>A b\/b∈b1) B b:=by
 cases C with
 | true=>
   rcases h with (h | h) | h
   . exact .inl (.inl h)
   . exact .inr h
   . exact .inl (.inr h)
 | false=>exact h
theorem gU {n:Nd}{ns:List Nd}(ha:PE X e (dE X.K C τ s))(hn:rP s=some n)(hr:PA X es (dN' X.K C τ ns))(hs:Do (e::es) X.env=.(117)::Do es X.env:=by rfl):PA X (e::es) (dN' X.K C τ (n::ns)):=paW (bj ha hr hs) λσ H Q ⟨A,H₀,B,S,k⟩=>
 ⟨A,H₀,B,S,λv H1 b1 e1 f1 h1=>⟨_,_,B,S.hide e1 f1,λvs H2 b2 e2 f2 n2 h2=>by
   obtain⟨q1,n1⟩:=h1.nd hn;refine k _ H2 (b1++b2) (e1.trans e2) (λb hb=>?_) (II.mpr ⟨n1,n2,λx hx y hy z=>?_⟩) (.cons (q1.frame ?_ λb hb=>?_) (h2.frame ?_ λ_ _=>rfl))
   . rcases x3.mp hb with z | z
     . obtain⟨w1,o,w2⟩:=f1 b z; exact⟨w1,o,e2 _ _ w2⟩
     . exact⟨e1.free (f2 b z).1,(f2 b z).2⟩
   . obtain⟨_,o,w⟩:=f1 x hx; rw[z,(f2 y hy).1]at w; cases w
   . intro b o z;obtain⟨z1,z2⟩:=au.mp z;refine au.mpr ⟨λw=>?_,e2 _ _ z2⟩;rcases w with w | w
     . exact z1 (.inl w)
     . rcases x3.mp w with w | w
       . exact z1 (.inr w)
       . rw[(f2 b w).1]at z2; cases z2
   . obtain⟨_,o,w⟩:=f1 b hb;rw[w,e2 _ _ w]
   . refine aC .(102) λb w=>?_
     rcases w with w | w
     . exact .inl (oo (.inl w))
     . rcases x3.mp w with w | w
       . exact .inl (oo (.inr w))
       . exact .inr w⟩⟩
theorem yX {K:fw}{H:Hp}{M:Addr->Prop}{p:Addr}{o:HO}{vs:List V}{bs:List Addr}{ns:List Nd}(hp:H p=none)(d:aX K (hd H λb=>M b\/b∈bs) H vs bs ns)(nd:bs.Nodup):
   aX K (hd (upd H p o) λb=>M b\/b∈p::bs) (upd H p o) vs bs ns/\(p::bs).Nodup:=by
 have off:∀b∈bs,b≠p:=λb hb z=>by obtain⟨w,q⟩:=d.some_of b hb; rw[z,hp]at q; cases q
 refine⟨d.frame (λb w z=>?_) λb hb=>aE (off b hb),IB.mpr ⟨λz=>off p z rfl,nd⟩⟩;obtain⟨z1,z2⟩:=au.mp z;have ne:b≠p:=λy=>by rw[y,hp]at z2; cases z2
 refine au.mpr ⟨λy=>?_,by rw[aE ne]; exact z2⟩;rcases y with y | y
 . exact z1 (.inl y)
 . rcases HA.mp y with y | y
   . exact ne y
   . exact z1 (.inr y)
theorem sX {ns:List Nd}{m}(h:PA X es (dN' X.K C τ ns))(hl:Nat.ble ns.length 1000=true:=by rfl):PE X (.Tuple es m pos) (dE X.K C τ (.n (.t ns))):=peW (k7 h) λσ H Q ⟨A,H₀,B,S,k⟩=>
 ⟨A,H₀,B,S,λvs H1 bs e1 f1 n1 h1=>⟨by rw[h1.length]; exact Jp (jO (LF hl)),λp hp=>by
   obtain⟨z1,z2⟩:=yX (o:=.tup vs) hp h1 n1
   exact k _ _ (p::bs) (e1.trans (aq hp _)) (λb hb=>by
     rcases HA.mp hb with w | w
     . subst w; exact⟨e1.free hp,_,aK⟩
     . obtain⟨w1,o,w2⟩:=f1 b w; exact⟨w1,o,aq hp _ _ _ w2⟩) ⟨z2,_,rfl,.t aK z1⟩⟩⟩
end
section
variable {X:Cx}{C:Bool}{τ τ':List Sl}{x y z:D}{b e c tg it elt o:Expr}{es ifs:List Expr}{pos p q:Pos}{k:Nat}{s:Sl}{N:Po}{rest body:List Stmt}{xs:List D}{i:Nat}{j:Int}{scope:Scope}
noncomputable def dGs (K:fw)(τ:List Sl)(xs:List D)(τ':List Sl):TGs:=λvs σ H Q=>∃A H₀ B,Sta K A H₀ τ B σ H/\av K (hd H (own A B)) vs xs/\∀σ' B',Sta K A H₀ τ' B' σ' H->Q σ' H
theorem Gz (h:PGs X es t)(f:∀v σ H Q,t' v σ H Q->t v σ H Q):PGs X es t':=λpins s σ H v u Q I r q=>h pins s σ H v u Q I r (f v σ H Q q)
theorem zo:PGs X [] (dGs X.K τ [] τ):=Gz kM λv σ H Q ⟨A,H₀,B,S,d,k⟩=>by
 cases d
 exact⟨rfl,k σ B S⟩
theorem fW (i:Nat){n:Str}(hN:X.N.Nodup)(h:PGs X es (dGs X.K (τ.set i (.d x)) xs τ'))(hi:X.N[i]?=some n:=by rfl)(hx:Loc X.env.scope n:=by first | exact .inl rfl | exact .inr rfl)(hf:X.fn n=true\/X.env.scope.names.lookup n=some .local:=by first | exact .inl rfl | exact .inr rfl | assumption):PGs X (.Name n p::es) (dGs X.K τ (x::xs) τ'):=
 Gz (dR (eP (i:=i) hN hi hx hf) h) λv σ H Q ⟨A,H₀,B,S,d,k⟩=>by
   cases d with
   | cons d r=>
     have sub:∀b,own A (upB B i []) b->own A B b:=λb z=>z.elim .inl λ⟨j,z⟩=>(ba z).elim (λz=>nomatch z.2) λz=>.inr ⟨j,z.2⟩
     exact⟨_,_,rfl,A,H₀,_,S.set .(102) (bs:=[]) (λ_ z=>nomatch z) (jC d),r.mono (aC .(102) sub),k⟩
theorem Ca {m:Nat}(hc:X.calm=true)(h:PGs X es (dGs X.K τ xs τ'))(hl:(KF es X.env).length=xs.length:=by rfl)(hst:(KF es X.env).findIdx? (·.1)=none:=by rfl):PG X (.Tuple es m pos) (dG X.K τ (.tup xs) τ'):=
 pgW (oH (n:=xs.length) hc h hl hst) λv σ H Q ⟨A,H₀,B,S,d,k⟩=>by
   cases d with
   | tup h r=>exact⟨_,_,rfl,aY aS h,r.length,A,H₀,B,S,r,k⟩
theorem C0 {m:Nat}(he:PE X e (dE X.K true τ (.d x)))(hg:PG X (.Tuple es m p) (dG X.K τ x τ'))(hr:PSs X rest (dS X.K τ' N))(hs:Ng [.Tuple es m p] e pos.line X.env=pure false:=by rfl)(hw:Nh [.Tuple es m p] e X.env=pure none:=by rfl)
   (h1:(KF [.Tuple es m p] X.env).map (·.2)=[assign (.Tuple es m p) X.env]:=by rfl):PSs X (.Assign [.Tuple es m p] e pos::rest) .(114):=
 bw (M:=(·=τ')) (psW (jL he hg hs hw h1) λD σ H ⟨A,H₀,B,S,Me⟩=>aU S λv H1 e1 d1=>⟨A,H₀,B,S.mono e1,d1,λσ' B' S'=>Me.nx _ _ _ _ rfl S'⟩) λ_ e=>e▸hr
theorem D0 (M:Nat->List Sl->Prop)(T:Nat->List Sl->List Sl)(B:Bk X k)(hi:PI X tg it (dI X.K τ xs))(hg:∀i (h:i<xs.length) τ',M i τ'->PG X tg (dG X.K τ' xs[i] (T i τ')))(h0:M 0 τ)
   (hb:∀i,i<xs.length->∀τ',M i τ'->PSs X body (dS X.K (T i τ') { N with nx:=M (i+1),ct:=M (i+1),bk:=λ_=>False }))
   (hr:∀τ',M xs.length τ'->PSs X rest (dS X.K τ' N)) (hs:∀x,foldedSetIterable it X.env x=pure x:=by intro _; rfl):PSs X (.For tg it body [] pos::rest) .(114):=
 bw (M:=M xs.length) (yW (M:=M) (T:=T) B hi h0 hg (λi h τ' m=>gQ (hb i h τ' m) λD σ H ⟨A,H₀,B,S,Me⟩=>⟨A,H₀,B,S,Me.nx,λ_ _ _ _ z=>z.elim,Me.ct,Me.rt,Me.xc⟩) (λ_ m=>m) hs) hr
theorem GN (T:Nat->List Sl){f:Nat->D}(B:Bk X k)(hi:PI X tg it (dI X.K τ xs))(hl:xs.length<1000000)(hT:∀i,(T i).length=.(101).length/\∀(l:Nat) (x:D),.(101)[l]?=some (.d x)->(T i)[l]?=some (.d x))
   (hg:∀i (h:i<xs.length) s H fp,PG .(104) tg (dG X.K (bN τ (bCp X.N scope)++[.un]) xs[i] (T i)))
   (he:∀i,i<xs.length->∀s H fp,PE .(104) elt (dE X.K true (T i) (.d (f i)))) (hc:bOk X.env.scope scope=true:=by kernel_rfl) (hs:∀x,foldedSetIterable it X.env x=pure x:=by intro _; rfl) :
   Cmp X elt tg it [] scope τ ((ox xs.length).map f):=by
 have h:=sE (T:=T) (t:=λ_=>true) (f:=f) (elt:=elt) (ifs:=[]) hc hi hT hg (λi h s H fp=>λpins s' σ H' Q I ⟨A,H₀,B,S,q⟩=>og pins s' σ H' Q I (q H' .(102))) (λi h _ s H fp=>he i h s H fp) hl hs
 rwa [List.filter_eq_self.mpr λ_ _=>rfl]at h
theorem AS (h:PT X c t):PTs X [c] t:=λpins s σ H Q I q=>wpAny_tests_one (h pins s σ H Q I q)
theorem Fy (j:Nat){n:Str}{g f:Nat->D}{t:Nat->Bool}(B:Bk X k)(hi:PI X .(106) it (dI X.K τ xs))(hx:∀i (h:i<xs.length),xs[i]=g i)(hl:xs.length<1000000)
   (ht:∀i,i<xs.length->∀s H fp,PT .(104) c (dT X.K (.(101).set j (.d (g i))) (t i)))
   (he:∀i,i<xs.length->t i=true->∀s H fp,PE .(104) elt (dE X.K true (.(101).set j (.d (g i))) (.d (f i))))
   (hc:bOk X.env.scope scope=true:=by kernel_rfl) (hu:.(101)[j]?=some .un:=by rfl) (hN:(bNm scope++[("#" : Str)])[j]?=some n:=by rfl) (hv:∀s H fp,Loc .(104).env.scope n:=by intro _ _ _; first | exact .inl rfl | exact .inr rfl)
   (hf:∀s H fp,.(104).fn n=true\/.(104).env.scope.names.lookup n=some .local:=by intro _ _ _; first | exact .inr rfl | exact .inl rfl) (hs:∀x,foldedSetIterable it X.env x=pure x:=by intro _; rfl) :
   Cmp X elt .(106) it [c] scope τ (((ox xs.length).filter t).map f):=by
 refine sE (T:=λi=>.(101).set j (.d (g i))) (t:=t) (f:=f) (elt:=elt) (ifs:=[c]) hc hi (λi=>⟨HV,λl x h=>?_⟩) (λi h s H fp=>?_) (λi h s H fp=>AS (ht i h s H fp)) he hl hs
 . rw[HI (λz=>by rw[<- z,hu]at h; cases h)];exact h
 . rw[hx i h];exact Bs j (g9 hc).2 hN (hv s H fp) (hf s H fp)
structure D7 (X:Cx)(elt tg it:Expr)(ifs:List Expr)(scope:Scope)(τ:List Sl)(ns:List Nd):Prop where
 ex:∃(In:TG->TT->TE->Prop) (caps:List (Option Nat)) (N:List Str) (wi:TI),eF X scope N caps/\PI X tg it wi/\(∀g tt te,In g tt te->∀s H fp,PG .(105) tg g/\PTs .(105) ifs tt/\PE .(105) elt te) /\
   ∀C σ H Q,dE X.K C τ (.n (.l ns)) σ H Q->fy In caps wi σ H Q
 hs:∀x,foldedSetIterable it X.env x=pure x
theorem Ay {T:Nat->List Sl}{f:Nat->Nd}{S':Nat->Sl}(B:Bk X k)(hc:bOk X.env.scope scope=true)(hi:PI X tg it (dI X.K τ xs))(hT:∀i,(T i).length=.(101).length/\∀(l:Nat) (x:D),.(101)[l]?=some (.d x)->(T i)[l]?=some (.d x))
   (hg:∀i (h:i<xs.length) s H fp,PG .(104) tg (dG X.K (bN τ (bCp X.N scope)++[.un]) xs[i] (T i)))
   (he:∀i,i<xs.length->∀s H fp,PE .(104) elt (dE X.K true (T i) (S' i))) (hn:∀i,i<xs.length->rP (S' i)=some (f i)) (hl:xs.length<1000000) (hs:∀x,foldedSetIterable it X.env x=pure x:=by intro _; rfl) :
   D7 X elt tg it [] scope τ ((ox xs.length).map f):=by
 obtain⟨cap,_⟩:=g9 hc;generalize hτ:bN τ (bCp X.N scope)++[Sl.un]=τb at *
 refine⟨⟨λg tt te=>g=(λv σ H Q=>∃(i:Nat) (h:i<xs.length),dG X.K τb xs[i] (T i) v σ H Q)/\tt=(λσ H Q=>Q true H)/\te=(λσ H Q=>∃i,i<xs.length/\dE X.K true (T i) (S' i) σ H Q),_,_,_,cap,hi,?_,?_⟩,hs⟩
 . rintro g tt te ⟨rfl,rfl,rfl⟩ s H fp;exact⟨λpins s' σ H' v u Q I r ⟨i,h,q⟩=>hg i h s H fp pins s' σ H' v u Q I r q,og,λpins s' σ H' Q I ⟨i,h,q⟩=>he i h s H fp pins s' σ H' Q I q⟩
 rintro C σ H Q ⟨A,H₀,B,S,kk⟩;refine⟨A,H₀,B,S,λJ H1 e1 yl=>⟨_,_,_,⟨rfl,rfl,rfl⟩,λD hD=>?_⟩⟩;have S1:=S.mono e1
 have flat:∀(l:Nat) (s:Sl),τb[l]?=some s->s=.un\/∃x,s=.d x:=λl s h=>by
   rw[<- hτ]at h;rcases x3.mp (IP h) with z | z
   . unfold bN at z;obtain⟨o,_,ho⟩:=Hu.mp z;split at ho
     . split at ho
       . exact .inr ⟨_,ho.symm⟩
       . exact .inl ho.symm
     . exact .inl ho.symm
   . exact .inl (gV.mp z)
 have slots:∀{σ':L2.St} {H':Hp} {rs:List Addr},ao H1 H'->(∃o,H' D=some o)->(∀b∈rs,∃o,H' b=some o)->σ'.length=τb.length->(∀(l:Nat) (s:Sl),τb[l]?=some s->cE X.K (hd H' λb=>own A B b\/b=D\/b∈rs) H' (σ'[l]?).join [] s)->Sta X.K (λb=>own A B b\/b=D\/b∈rs) H' τb (λ_=>[]) σ' H':=λ{σ' H' rs} e1 e2 e5 e3 e4=>
   ⟨ao.refl _,e3,λl s h=>(e4 l s h).mono (aC .(102) λ_ z=>z.elim id λ⟨_,z⟩=>(nomatch z)) .(102),λ_ _ z=>(nomatch z),λ_ _ _ z=>(nomatch z),λb z=>z.elim (λz=>let ⟨o,q⟩:=S1.dm b z; ⟨o,e1 _ _ q⟩) λz=>z.elim (λz=>z▸e2) (e5 b),λ_ _ z=>(nomatch z)⟩
 refine⟨λi m σ' H'=>m=xs.length-i/\i<=xs.length/\ao H1 H'/\(∃vs rs,H' D=some (.lst vs)/\vs.length<=i/\aX X.K (hd H' λb=>own A B b\/b=D\/b∈rs) H' vs rs ((ox i).map f)/\(D::rs).Nodup/\(∀b∈rs,H1 b=none) /\
   σ'.length=τb.length/\∀(l:Nat) (s:Sl),τb[l]?=some s->cE X.K (hd H' λb=>own A B b\/b=D\/b∈rs) H' (σ'[l]?).join [] s),⟨xs.length,rfl,HL _,aq hD _,[],[],aK,Ia _,.nil,by simp,λ_ z=>(nomatch z),?_,λl s h=>?_⟩,?_⟩
 . rw[<- hτ]; unfold gu bN; rw[vp,vp,bp,bp]; rfl
 . have hv:ao (hd H (own A B)) (hd (upd H1 D (.lst [])) λb=>own A B b\/b=D\/b∈([]:List Addr)):=λb o z=>by
     obtain⟨z1,z2⟩:=au.mp z;have z2:=e1 _ _ z2;have ne:b≠D:=λz=>by rw[z,hD]at z2; cases z2
     exact au.mpr ⟨λy=>y.elim z1 λy=>y.elim ne λy=>(nomatch y),by rw[aE ne]; exact z2⟩
   rcases flat l s h with rfl | ⟨x,rfl⟩
   . rfl
   . rw[<- hτ]at h
     have hlt:l<(bCp X.N scope).length:=by
       rcases Jo l (bCp X.N scope).length with h' | h'
       . exact h'
       . exfalso;rw[Iu (by unfold bN; rw[bp]; exact h')]at h;cases e:l-(bN τ (bCp X.N scope)).length with
         | zero=>rw[e]at h; cases h
         | succ n=>rw[e]at h; cases h
     rw[Hv (by unfold bN; rw[bp]; exact hlt)]at h;rw[Hv (by unfold gu; rw[bp]; exact hlt)];unfold bN at h;unfold gu;rw[HR]at h ⊢;cases e:(bCp X.N scope)[l]? with
     | none=>rw[e]at h; cases h
     | some o=>
       rw[e]at h;cases o with
       | none=>cases h
       | some i=>
         simp only[Jl,Ky]at h;split at h
         . rename_i x' hx';cases h
           obtain⟨_,u,eu,d⟩:=S.sl i _ hx';exact⟨rfl,u,by simpa using eu,d.mono hv⟩
         . cases h
 rintro i m σ' H' ⟨rfl,hi,e2,vs,rs,hv1,hv2,hv3,hnd,hfr,hlen,hsl⟩;obtain⟨y1,y2⟩:=yl H' (aS.trans e2);have rsd:∀b∈rs,∃o,H' b=some o:=hv3.some_of;by_cases hlt:i<xs.length
 . obtain⟨g,y⟩:=y2 i hlt;refine .inr ⟨g,λx H2 hy=>?_⟩;obtain⟨e3,dx⟩:=y x H2 hy;have S2:=slots e2 ⟨_,hv1⟩ rsd hlen hsl;have o0:∀b,own (λb=>own A B b\/b=D\/b∈rs) (λ_=>([]:List Addr)) b->own A B b\/b=D\/b∈rs:=λb z=>z.elim id λ⟨_,z⟩=>(nomatch z)
   have dx':=dx _ S2.dm (λb o z=>by
     obtain⟨z1,z2⟩:=au.mp z;exact au.mpr ⟨λy=>(o0 b y).elim z1 λy=>y.elim (λy=>(by rw[y,hD]at z2; cases z2)) λy=>(by rw[hfr b y]at z2; cases z2),e2 _ _ z2⟩)
   refine⟨i,hlt,_,_,_,S2.mono e3,dx',λσ2 B2 S3=>?_⟩;refine rE ⟨i,hlt,_,_,_,S3,λv H5 bs e5 hf5 d5=>?_⟩;obtain⟨nv,ndv⟩:=d5.nd (hn i hlt);have e6:=e3.trans e5;have hv5:=e6 _ _ hv1;have bsD:∀b∈bs,b≠D:=λb hb z=>by have:=(hf5 b hb).1; rw[z,e3 _ _ hv1]at this; cases this
   have bsR:∀b∈bs,b∉rs:=λb hb z=>by obtain⟨o,q⟩:=rsd b z; have:=(hf5 b hb).1; rw[e3 _ _ q]at this; cases this
   refine⟨vs,xs.length-(i+1),hv5,Jh (HX hv2 (Jh hlt hl)) .(2),by omega,rfl,hlt,?_,vs++[v],rs++bs,aK,by rw[vp]; exact Mk hv2,?_,?_,?_,S3.len.trans (hT i).1,λl s h=>?_⟩
   . intro b o z;have ne:b≠D:=λy=>by rw[y,hD]at z; cases z
     rw[aE ne];exact e6 _ _ (e2 _ _ z)
   . rw[Iz,HB]
     have sm1:ao (hd H5 λb=>vw true (λb=>own A B b\/b=D\/b∈rs) B2 b\/b∈bs) (hd (upd H5 D (.lst (vs++[v]))) λb=>own A B b\/b=D\/b∈rs++bs):=λb o z=>by
       obtain⟨z1,z2⟩:=au.mp z;refine au.mpr ⟨λy=>z1 ?_,by rw[aE (λy:b=D=>z1 (.inl (.inl (.inr (.inl y)))))]; exact z2⟩;rcases y with y | y | y
       . exact .inl (.inl (.inl y))
       . exact .inl (.inl (.inr (.inl y)))
       . exact(x3.mp y).elim (λy=>.inl (.inl (.inr (.inr y)))) .inr
     have sm2:ao (hd H' λb=>own A B b\/b=D\/b∈rs) (hd (upd H5 D (.lst (vs++[v]))) λb=>own A B b\/b=D\/b∈rs++bs):=λb o z=>by
       obtain⟨z1,z2⟩:=au.mp z;refine au.mpr ⟨λy=>?_,by rw[aE (λy:b=D=>z1 (.inr (.inl y)))]; exact e6 _ _ z2⟩;rcases y with y | y | y
       . exact z1 (.inl y)
       . exact z1 (.inr (.inl y))
       . rcases x3.mp y with y | y
         . exact z1 (.inr (.inr y))
         . have:=(hf5 b y).1; rw[e3 _ _ z2]at this; cases this
     refine aX.snoc (nv.frame sm1 λb hb=>aE (bsD b hb)) (hv3.frame sm2 λb hb=>?_);obtain⟨o,q⟩:=rsd b hb;rw[aE (λz:b=D=>(IB.mp hnd).1 (by rw[<- z]; exact hb)),e6 _ _ q,q]
   . obtain⟨n1,n2⟩:=IB.mp hnd;refine IB.mpr ⟨λz=>?_,II.mpr ⟨n2,ndv,λx hx y hy z=>bsR y hy (z▸hx)⟩⟩;exact(x3.mp z).elim n1 λz=>bsD D z rfl
   . intro b hb;rcases x3.mp hb with z | z
     . exact hfr b z
     . exact(e2.trans e3).free (hf5 b z).1
   . rcases flat l s h with rfl | ⟨x,rfl⟩
     . rfl
     . obtain⟨_,u,eu,d⟩:=S3.sl l _ ((hT i).2 l x h);refine⟨rfl,u,eu,d.mono λb o z=>?_⟩;obtain⟨z1,z2⟩:=au.mp z;refine au.mpr ⟨λy=>?_,by rw[aE (λy:b=D=>z1 (.inl (.inr (.inl y))))]; exact e5 _ _ z2⟩;rcases y with y | y | y
       . exact z1 (.inl (.inl y))
       . exact z1 (.inl (.inr (.inl y)))
       . rcases x3.mp y with y | y
         . exact z1 (.inl (.inr (.inr y)))
         . rw[(hf5 b y).1]at z2; cases z2
 . have e:i=xs.length:=by omega
   subst e;refine .inl ⟨y1 _ .(3),kk _ _ (D::rs) (e1.trans e2) (λb hb=>?_) ⟨hnd,_,rfl,.l hv1 (hv3.frame (aC .(102) λb z=>?_) λ_ _=>rfl)⟩⟩
   . rcases HA.mp hb with rfl | z
     . exact⟨e1.free hD,_,hv1⟩
     . exact⟨e1.free (hfr b z),rsd b z⟩
   . rcases z with z | z
     . exact .inl (iX z)
     . exact .inr ((HA.mp z).elim .inl .inr)
theorem GS (j:Nat){n:Str}{g:Nat->D}{f:Nat->Nd}{S':Nat->Sl}(B:Bk X k)(hi:PI X .(106) it (dI X.K τ xs))(hx:∀i (h:i<xs.length),xs[i]=g i)(hl:xs.length<1000000)
   (he:∀i,i<xs.length->∀s H fp,PE .(104) elt (dE X.K true (.(101).set j (.d (g i))) (S' i))) (hn:∀i,i<xs.length->rP (S' i)=some (f i))
   (hc:bOk X.env.scope scope=true:=by kernel_rfl) (hu:.(101)[j]?=some .un:=by rfl) (hN:(bNm scope++[("#" : Str)])[j]?=some n:=by rfl) (hv:∀s H fp,Loc .(104).env.scope n:=by intro _ _ _; first | exact .inl rfl | exact .inr rfl)
   (hf:∀s H fp,.(104).fn n=true\/.(104).env.scope.names.lookup n=some .local:=by intro _ _ _; first | exact .inr rfl | exact .inl rfl) (hs:∀x,foldedSetIterable it X.env x=pure x:=by intro _; rfl) :
   D7 X elt .(106) it [] scope τ ((ox xs.length).map f):=by
 refine Ay (T:=λi=>.(101).set j (.d (g i))) B hc hi (λi=>⟨HV,λl x h=>?_⟩) (λi h s H fp=>?_) he hn hl hs
 . rw[HI (λz=>by rw[<- z,hu]at h; cases h)];exact h
 . rw[hx i h];exact Bs j (g9 hc).2 hN (hv s H fp) (hf s H fp)
end
section
variable {X:Cx}{τ:List Sl}{x z:D}{it elt:Expr}{p:Pos}{k:Nat}{s:Sl}{N:Po}{xs:List D}{i:Nat}{scope:Scope}
theorem AG (j l:Nat){n m:Str}{p2 pt:Pos}{md:Nat}{g g' f:Nat->D}(B:Bk X k)(hi:PI X (.Tuple [.Name n p,.Name m p2] md pt) it (dI X.K τ xs))(hx:∀i (h:i<xs.length),xs[i]=.tup [g i,g' i])(hl:xs.length<1000000)
   (he:∀i,i<xs.length->∀s H fp,PE .(104) elt (dE X.K true ((.(101).set j (.d (g i))).set l (.d (g' i))) (.d (f i))))
   (hc:bOk X.env.scope scope=true:=by kernel_rfl) (hu:.(101)[j]?=some .un:=by rfl) (hu':.(101)[l]?=some .un:=by rfl) (hN:(bNm scope++[("#" : Str)])[j]?=some n:=by rfl) (hN':(bNm scope++[("#" : Str)])[l]?=some m:=by rfl) (hv:∀s H fp,Loc .(104).env.scope n:=by intro _ _ _; first | exact .inl rfl | exact .inr rfl) (hv':∀s H fp,Loc (cpX X s H scope fp).env.scope m:=by intro _ _ _; first | exact .inl rfl | exact .inr rfl)
   (hf:∀s H fp,.(104).fn n=true\/.(104).env.scope.names.lookup n=some .local:=by intro _ _ _; first | exact .inr rfl | exact .inl rfl) (hf':∀s H fp,(cpX X s H scope fp).fn m=true\/(cpX X s H scope fp).env.scope.names.lookup m=some .local:=by intro _ _ _; first | exact .inr rfl | exact .inl rfl) (hs:∀x,foldedSetIterable it X.env x=pure x:=by intro _; rfl) :
   Cmp X elt (.Tuple [.Name n p,.Name m p2] md pt) it [] scope τ ((ox xs.length).map f):=
 GN (λi=>(.(101).set j (.d (g i))).set l (.d (g' i))) B hi hl (λi=>⟨by rw[HV,HV],λr x h=>by
     rw[HI (λz=>by rw[<- z,hu']at h; cases h),HI (λz=>by rw[<- z,hu]at h; cases h)];exact h⟩)
   (λi h s H fp=>by rw[hx i h]; exact BA j l (B.comp s H scope fp).calm (g9 hc).2 hN hN' (hv s H fp) (hv' s H fp) (hf s H fp) (hf' s H fp)) he hc hs
end
end Hy
namespace Su
open PySem PyProof.Rows HT
open PySem.SeqAt
open PySem.AutoSeq1 (wpAny_loadPart')
open PySem.MeetsSeq PySem.MeetsSeq2 PySem.MeetsSeq3
end Su
namespace Hy
open PySem PySem.Spec PyProof.Rows L2
open Ev (D Den av aH aL aq aY aR)
section
variable {X:Cx}{x y z:D}{a b e:Expr}{p:Pos}{k:Nat}{s:Sl}{xs ys:List D}
theorem Ae:OpR X (KB .Add) (λx y H Q=>∃a b ys,x=.ref a/\y=.ref b/\SqT X.K H a []/\SqT X.K H b ys/\Q (.ref b) H):=by
 intro pins s σ H x y v u Q I rx ry h;obtain⟨a,b,ys,rfl,rfl,ha,hb,q⟩:=h;cases rx
 cases ry
 obtain⟨its,r1,p1,_⟩:=I.tuple ha;obtain⟨its2,r2,p2,_⟩:=I.tuple hb;cases r1
 obtain⟨⟨cls,dd,data,sl⟩,ho,hc,n,hd⟩:=id p1;obtain⟨⟨cls2,dd2,data2,sl2⟩,ho2,hc2,n2,hd2⟩:=id p2;simp only at hc hd hc2 hd2;subst hc hd hc2 hd2;exact concat_meets ⟨_,ho,rfl⟩ ⟨_,ho2,rfl⟩ noFill_tuple_add seq_tuple_add K9 K5 .(24) (tuple_addW0 a b _ _ n n2 dd dd2 sl sl2 .(4)) ⟨ho,ho2,⟨.ref b,H,I,rfl,q⟩⟩
theorem sY (hl:xs.length+ys.length<1000000):cF X (KB .Add) (.tup xs) (.tup ys) (.tup (xs++ys)):=by
 have lim:1000000<=sizeLine:=by decide
 cases xs with
 | nil=>exact⟨_,Ae,λM v w H Q _ d1 d2 k=>by
     cases d1 with
     | tup h1 r1=>
       cases r1
       cases d2 with
       | tup h2 r2=>exact⟨_,_,_,rfl,rfl,aY aS h1,aY aS h2,k _ H .(102) (.tup h2 r2)⟩⟩
 | cons x0 xs=>exact⟨_,zX,λM v w H Q hM d1 d2 k=>by
     cases d1 with
     | @tup a1 vs _ h1 r1=>
     cases d2 with
     | @tup a2 ws _ h2 r2=>
     have l1:=r1.length;have l2:=r2.length;refine⟨_,_,_,_,rfl,rfl,aY aS h1,aY aS h2,λz=>by subst z; simp at l1,by omega,λz=>?_,λ_ p hp=>?_⟩
     . subst z;cases r2
       rw[Io]at k;exact k _ H .(102) (.tup h1 r1)
     . have e:=aq hp (.tup (vs++ws));exact k _ _ e (.tup (SqT.of (lV hM hp)) ((r1.append r2).mono (aC e λ_ z=>z)))⟩
end
section
variable {X:Cx}{τ:List Sl}{x z:D}{e:Expr}{pos p:Pos}{xs ys:List D}{N:Po}{rest:List Stmt}
theorem E9 (i:Nat){n:Str}{ap cp:Pos}(he:PE X e (dE X.K true τ (.o ys)))(hl:xs.length+ys.length<1000000)(hr:PSs X rest (dS X.K (τ.set i (.o (xs++ys))) N))(hi:τ[i]?=some (.o xs):=by rfl)(hN:X.N[i]?=some n:=by rfl)
   (hv:Vis X.env.scope n:=by first | exact JM rfl | exact IH .(9) | exact IH .(8)) (hd:(n==("__debug__" : Str))=false:=by decide) (hcd:(n==("__classdict__" : Str))=false:=by decide)
   (hfew:((M5 cp (Do [e] X.env)).all (λx=>!x.1)&&(Nj cp (N2 [] X.env)).all (λx=>x.1.isSome)&&decide (([e]:List Expr).length+([]:List MW).length+(if ([]:List MW).isEmpty then 0 else 1)<30))=true:=by rfl)
   (hline:(ap.endLine==cp.line)=true:=by rfl) (hst:Do [e] X.env=.(117)::Do [] X.env:=by rfl) (hpl:(M5 cp (Do [] X.env)).any (·.1)=false:=by rfl)
   (hs:M7 .(132) none pos.line X.env=pure false:=by rfl) (hbase:M9 .(106) "extend" X.env (eval .(106) X.env)=eval .(106) X.env:=by rfl) :
   PSs X (.Expr .(132) pos::rest) .(114):=
 bw (M:=(·=τ.set i (.o (xs++ys)))) (psW (eA (kh IJ Kc KP jP (bo hN hv hd hcd) (bj he cB hst) hbase hfew hline hst hpl) hs) λD σ H ⟨A,H₀,B,S,Me⟩=>by
   obtain⟨l,vs,hb,e1,e2,d⟩:=S.sl i _ hi;refine⟨_,slot_of e1,.inl ⟨rfl,_,SqL.of e2⟩,A,H₀,B,S,λv H1 bs e3 fr ⟨l2,ws,eb,ev,h2,d2⟩=>?_⟩;cases ev
   have lim:1000000<=sizeLine:=by decide
   refine⟨l,l2,vs,ws,rfl,rfl,e3 _ _ e2,h2,by rw[d.length,d2.length]; omega,?_⟩;exact Me.nx _ _ _ _ rfl ((S.mono e3).put hi hb ((d.mono (aC e3 λ_ z=>z)).append (d2.mono (aC .(102) λ_ z=>.inl z))))) λ_ e=>e▸hr
end
end Hy
namespace Hy
open PySem PySem.Spec PyProof.Rows L2
open Ev (D Den av)
theorem Bm {X:Cx}{τ:List Sl}{elt tg it:Expr}{ifs:List Expr}{pos p spos:Pos}{scope:Scope}{rest:List Stmt}{N:Po}{ns:List Nd}(i:Nat){n:Str}(hN:X.N.Nodup)(h:D7 X elt tg it ifs scope τ ns)(hr:PSs X rest (dS X.K (τ.set i (.n (.l ns))) N))
   (hi:X.N[i]?=some n:=by rfl) (hl:Loc X.env.scope n:=by first | exact .inl rfl | exact .inr rfl)
   (hsw:M7 (.ListComp elt [⟨tg,it,ifs,0⟩] scope pos) (some .(106)) spos.line X.env=pure true:=by rfl) (hf:X.fn n=true\/X.env.scope.names.lookup n=some .local:=by first | exact .inl rfl | exact .inr rfl | assumption) :
   PSs X (.Assign [.Name n p] (.ListComp elt [⟨tg,it,ifs,0⟩] scope pos) spos::rest) .(114):=by
 obtain⟨In,caps,N',wi,h1,h2,h3,h4⟩:=h.ex;exact bw (M:=(·=τ.set i (.n (.l ns)))) (psW (Ev.lD (eP (i:=i) hN hi hl hf) h1 h2 h.hs h3 hsw) λD σ H ⟨A,H₀,B,S,Me⟩=>h4 true _ _ _ ⟨A,H₀,B,S,λv H' bs e hf h=>Me.nx _ _ _ _ rfl (S.set e hf h)⟩) λ_ e=>e▸hr
end Hy
namespace Hy
open PySem PySem.Spec PyProof.Rows L2
open Ev (D Den av aq aY aR)
section
variable {y:D}{i:Nat}{xs:List Nd}
theorem set_same {α:Type}{xs:List α}{y:α}(h:xs[i]?=some y):xs.set i y=xs:=by
 obtain⟨h1,h2⟩:=rp.mp h;rw[<- h2];exact List.set_getElem_self h1
end
end Hy
namespace Hy
open PySem PySem.Spec PyProof.Rows L2
open Ev (D Den av)
def But (d:Addr)(H H':Hp):Prop:=∀b o,b≠d->H b=some o->H' b=some o
theorem But.hd (e:But d H H')(h:M d):ao (Hy.hd H M) (Hy.hd H' M):=λb o z=>by
 obtain⟨z1,z2⟩:=au.mp z;exact au.mpr ⟨z1,e b o (λy=>z1 (y▸h)) z2⟩
def Hid (M:Addr->Prop)(H:Hp)(d:Addr):Prop:=M d/\∀b,M b->∃o,H b=some o
theorem Hid.but (h:Hid M H d)(e:But d H H')(hd:∃o,H' d=some o):Hid M H' d:=⟨h.1,λb z=>by
 by_cases q:b=d
 . rw[q]; exact hd
 . obtain⟨o,y⟩:=h.2 b z;exact⟨o,e b o q y⟩⟩
def sU (P:FB)(w:World)(K:fw)(mg:Str->Option Value)(base:Heap)(k:Nat)(n:Str)(sp:Sp):Prop:=
 ∃f fd ps,a8 P w K mg base CX0 k f fd ps sp/\mg n=some (.ref f)/\JL K (.ref f)=true/\Binds K fd ps []
section
variable {K:fw}{A:Addr->Prop}{H₀ H:Hp}{τ:List Sl}{B:Nat->List Addr}{σ:L2.St}
theorem Sta.hid (S:Sta K A H₀ τ B σ H)(hB:B i=[a]):Hid (own A B) H a:=⟨.inr ⟨i,by rw[hB]; exact gV.mpr rfl⟩,S.dm⟩
end
end Hy
namespace Ev
open PySem PySem.Spec PyProof.Rows L2
section
variable {K:Type}[DecidableEq K]{a:KD K}{hd:a.dep<=7}{X:Cx}{o e f:Expr}{pos:Pos}{tk tv:TE}
def ES (a:KD K)(hd:a.dep<=7)(P:FB)(w:World)(F:fw)(tk tv:TE):TE:=λσ H Q=>∀p,H p=none->tk σ (upd H p (dNk a hd P w p [])) λy H1=>tv σ H1 λv H2=>∃b k,y=.ref b/\H2 p=some (dNk a hd P w p [])/\Den F H2 (.ref b) (a.toD k)/\∀u,RelV v u->Q (.ref p) (upd H2 p (dNk a hd P w p (storedH [] k b u)))
theorem ua (hu:X.A.units+16<cLine)(hk:PE X e tk)(hv:PE X f tv):PE X (.Dict [some e] [f] pos) (ES a hd X.prog X.w X.K tk tv):=λpins s σ H Q I h=>by
 refine wpAny_Dict_any rfl rfl .(4) (show 1<=15 by decide) (pairTrees_cons_walk ?_)
 have I0:=I.laid (a:=s.heap.objs.size) (o:=dNk a hd X.prog X.w s.heap.objs.size []) (t':=s.toks) (h':=s.heap.push { cls:=.type "dict",data:=.dict #[] }) (λ_ _ q=>pq _ q) .(3)
   ⟨⟨beq_eq_false_iff_ne.mpr (ID (Il I.big)),_,#[],0,Hz _ rfl,⟨rfl,rfl,rfl⟩,rfl,rfl,JO⟩,⟨_,Hz _ rfl⟩,λa1 a2 ⟨z0,o,es,ep,z1,z2⟩ hk=>⟨z0,o,es,ep,hk o z1,z2⟩⟩
 refine thn (hk _ _ σ _ _ I0 (h _ (I.hok.fresh .(3)))) λkv s1 ⟨y,H1,I1,ry,q1⟩=>thn (hv _ s1 σ H1 _ I1 q1) λvv s2 ⟨v,H2,I2,rv,b,k,ey,hp,g,q2⟩=>pairTrees_nil_walk ?_
 subst ey;obtain rfl:kv=Ip b:=ry;have D:iB a hd X.prog X.w X.K H2 s.heap.objs.size []:=⟨hp,λ_ z=>nomatch z⟩;obtain⟨hd',dd⟩:=y4 I2 D;unfold storeAll;rw[List.forIn_cons];refine AC (AC (wpAny_dictSet_heap (hsz:=HL _) (show X.A.units+8<cLine by omega) (key_is I2 g) dd λh' dd' hs=>Fk ?_));dsimp only;rw[List.forIn_nil];refine Fk ?_;obtain⟨q,es,ep,hq,h2,h3,h4,_,h5⟩:=dd';refine⟨.ref s.heap.objs.size,_,fO (ob:=dNk a hd X.prog X.w s.heap.objs.size (storedH [] k b vv)) I2 (by rw[hp]; exact JG) hs ⟨q,hq⟩ ⟨⟨hd',q,es,ep,hq,h2,h3,h4,h5⟩,⟨q,hq⟩,λa1 a2 ⟨z0,o,es,ep,z1,z2⟩ hk=>⟨z0,o,es,ep,hk o z1,z2⟩⟩,rfl,q2 vv rv⟩
end
end Ev
namespace Hy
open PySem PySem.Spec PyProof.Rows L2
open Ev (D Den av KD NEs dNk iB Bx aq i9 ua)
section
variable {K:Type}[DecidableEq K]{a:KD K}{hd:a.dep<=7}{X:Cx}{C:Bool}{τ:List Sl}{x y:D}{b e f o ix:Expr}{pos p q:Pos}{k:Nat}{N:Po}{rest:List Stmt}{m:List (K×D)}{key:K}
noncomputable def bxK (a:KD K)(hd:a.dep<=7)(P:FB)(w:World)(m:List (K×D)):Bx where
 p:=λF H d=>∃xs,H d=some (dNk a hd P w d xs)/\EnK a F H xs m
 mono:=λe ⟨xs,h1,h2⟩=>⟨xs,e _ _ h1,h2.mono e⟩
 isd:=λ{_ _ d} ⟨xs,h1,_⟩=>⟨_,h1,λP w H' h z=>let ⟨_,o,_,_,z1,z2,_⟩:=z.1; ⟨o,z1,z2.1⟩⟩
noncomputable abbrev bxD (a:KD K)(hd:a.dep<=7)(P:FB)(w:World)(m:List (K×D)):D:=.box (bxK a hd P w m)
theorem Sta.fzX (S:Sta F A H₀ τ B σ H)(hi:τ[i]?=some (.x (exK a hd P w m))):Sta F A H₀ (τ.set i (.d (bxD a hd P w m))) (upB B i []) σ H:=
 S.less (λ_ z=>nomatch z) λG g hv=>by
   obtain⟨d,xs,h1,h2,h3,h4⟩:=S.dct hi;exact⟨rfl,_,h1,.box ⟨xs,hv d _ (by rw[h2]; exact gV.mpr rfl) (λz=>nomatch z) h3,h4.mono g⟩⟩
theorem BO (i:Nat)(h:PSs X rest (dS X.K (τ.set i (.d (bxD a hd X.prog X.w m))) N))(hi:τ[i]?=some (.x (exK a hd X.prog X.w m)):=by rfl):PSs X rest .(114):=gQ h λD σ H ⟨A,H₀,B,S,Me⟩=>⟨A,H₀,_,S.fzX hi,Me⟩
theorem BU (h:PE X e (dE X.K C τ (.x (exK a hd X.prog X.w m)))):PE X e (dE X.K C τ (.d (bxD a hd X.prog X.w m))):=peW h λσ H Q q=>by
 obtain⟨A,H₀,B,S,k⟩:=dj q;refine⟨A,H₀,B,S,λv H' bs e hf ⟨d,o,h1,h2,h3,xs,h4,h5⟩=>?_⟩;cases h2
 subst h1 h4;have vd:=S.vd (C:=C)
 have un:¬vw C A B d:=λz=>by
   obtain⟨_,q⟩:=vd d z;rw[(hf d (gV.mpr rfl)).1]at q;cases q
 exact k _ H' e (.box ⟨xs,au.mpr ⟨un,h3⟩,h5.mono (aC .(102) λ_ z=>.inl z)⟩)
theorem sx (hu:X.A.units+16<cLine)(hb:PE X b (dE X.K C τ (.d (bxD a hd X.prog X.w m))))(hk:PE X ix (dE X.K C τ (.d (a.toD key))))(hx:getM m key=some x)(hr:∀H v,Den X.K H v (a.toD key)->∃b,v=.ref b)(hs:mF ix):PE X (.Subscript b ix pos) .(126):=
 peW (i9 (a:=a) (hd:=hd) hu hb hk hs) λσ H Q q=>by
   obtain⟨A,H₀,B,S,kk⟩:=dj q;refine aU S λv H1 e1 d1=>aU (S.mono e1) λy H2 e2 dy=>?_
   obtain⟨b',rfl⟩:=hr _ _ dy;cases d1.mono (aC e2 λ_ z=>z) with
   | box h=>
     obtain⟨xs,g3,g4⟩:=h;have:=g4.at key;rw[hx]at this;obtain⟨pp,v,h1,h2,h3⟩:=this;exact⟨_,b',key,xs,pp,v,rfl,rfl,⟨aS _ _ g3,λz hz=>(g4.key z hz).mono aS⟩,dy.mono aS,h1,h2,kk v H2 (e1.trans e2) h3⟩
theorem sf (hu:X.A.units+16<cLine)(hk:PE X e (dE X.K C τ (.d (a.toD key))))(hv:PE X f .(126))(hr:∀H v,Den X.K H v (a.toD key)->∃b,v=.ref b):PE X (.Dict [some e] [f] pos) (dE X.K C τ (.x (exK a hd X.prog X.w [(key,x)]))):=
 peW (ua (a:=a) (hd:=hd) hu hk hv) λσ H Q ⟨A,H₀,B,S,kk⟩=>λp hp=>by
   have e0:=aq hp (dNk a hd X.prog X.w p []);have f0:Fr H (upd H p (dNk a hd X.prog X.w p [])) [p]:=λb hb=>by rw[gV.mp hb]; exact⟨hp,_,aK⟩
   have S1:=S.hide e0 f0;refine aU S1 λy H2 e2 dy=>aU (S1.mono e2) λv H3 e3 dv=>?_
   obtain⟨b',rfl⟩:=hr _ _ dy;have e03:=e2.trans e3;have hp3:=e03 _ _ (aK (H:=H) (a:=p) (o:=dNk a hd X.prog X.w p []));have dy3:=dy.mono (aC e3 λ_ z=>z);refine⟨b',key,rfl,hp3,dy3.mono aS,λu hu=>?_⟩
   have sm:ao (Hy.hd H3 (vw C (λb=>A b\/b∈[p]) B)) (Hy.hd (upd H3 p (dNk a hd X.prog X.w p (storedH [] key b' u))) λb=>vw C A B b\/b∈[p]):=λb o z=>by
     obtain⟨z1,z2⟩:=au.mp z;have nh:¬(vw C A B b\/b∈[p]):=λy=>z1 (oo y)
     exact au.mpr ⟨nh,by rw[aE (λq=>nh (.inr (gV.mpr q)))]; exact z2⟩
   have hs:ao H (upd H3 p (dNk a hd X.prog X.w p (storedH [] key b' u))):=λb o z=>by
     have ne:b≠p:=λq=>by rw[q,hp]at z; cases z
     rw[aE ne];exact e03 _ _ (e0 _ _ z)
   exact kk (.ref p) _ [p] hs (λb hb=>by rw[gV.mp hb]; exact⟨hp,_,aK⟩) ⟨p,_,rfl,rfl,aK,_,rfl,(EnK.nil.put dy3 hu dv).mono sm⟩
end
end Hy
namespace Hy
open PySem PySem.Spec PyProof.Rows L2
open Ev (D Den av aq aT gu eF PTs dB fy)
end Hy
namespace Hy
open PySem PySem.Spec PyProof.Rows L2
open Ev (D Den av aq aY aR)
section
variable {X:Cx}
theorem x4 {α:Type}:∀(its:List α) (k:Nat) (y:α),k<=its.length->its.insertIdx k y=its.take k++[y]++its.drop k
 | _,0,_,_=>rfl
 | a::r,k+1,y,h=>by
   rw[List.insertIdx_succ_cons,x4 r k y (by simpa using h)];rfl
theorem DB {its:List Value}(h:k<=its.length):(its.toArray.extract 0 k).push y++its.toArray.extract k=(its.insertIdx k y).toArray:=by
 apply Array.toList_inj.mp;simp only[Array.toList_append,Array.toList_push,Array.toList_extract,List.extract_eq_drop_take,MB,Nat.sub_zero,HD];rw[x4 its k y h];congr 1;exact HP (by rw[Kr]; exact Ia _)
noncomputable def An:V->List V->Hp->VK->Prop:=λx vs H Q=>∃l xs,∃i:Int,∃y,x=.ref l/\vs=[.int i,y]/\H l=some (.lst xs)/\0<=i/\i.toNat<=xs.length/\xs.length<sizeLine/\Q .non (upd H l (.lst (xs.insertIdx i.toNat y)))
theorem wq:MtM X "list.insert" An:=by
 intro pins s σ H x vs v us Q I rx rv h;obtain⟨l,xs,i,y,rfl,rfl,hH,h0,h1,h2,q⟩:=h;cases rx
 obtain⟨u,w,rfl,ru,rw'⟩:=rv.two;obtain⟨t,rfl⟩:=ru;obtain⟨z,its,n,r,hl,e⟩:=I.xi hH;have hi:i<2^63:=by have:=J8 h0; have:sizeLine<2^62:=.(2); omega
 have hf:Builtin.List.listFitsIndex i=true:=by
   unfold Builtin.List.listFitsIndex;rw[Iy];exact⟨decide_eq_true .(0),decide_eq_true hi⟩
 refine Nm Mo ⟨_,e,rfl⟩ PySem.F.entry_list_insert (PySem.F.args_list_insert_3 _ _ _) (PySem.AutoSeq1.list_insert_list_int_val_1 l its.toArray n i t w (by simp[hf]) .(19)) ⟨e,?_⟩
 have vi:∀{xs:List V} {us:List Value} (k:Nat) {a:V} {b:Value},Vals xs us->RelV a b->Vals (xs.insertIdx k a) (us.insertIdx k b):=λ{xs us} k {a b} r ra=>by
   induction k generalizing xs us with
   | zero=>exact .cons ra r
   | succ k ih=>cases r with
     | nil=>exact .nil
     | cons r1 r2=>exact .cons r1 (ih r2)
 refine⟨.non,_,I.Bc (its':=its.insertIdx i.toNat w) hH e ?_ (vi _ r rw') ?_,rfl,q⟩
 . show (its.toArray.extract 0 (if i<0 then (i+(its.toArray.size:Int)).toNat else min i.toNat its.toArray.size)).push w++its.toArray.extract (if i<0 then (i+(its.toArray.size:Int)).toNat else min i.toNat its.toArray.size)=_;rw[if_neg .(0),HD,KJ .(0)];exact DB .(0)
 . rw[List.length_insertIdx_of_le_length h1]; omega
end
end Hy
namespace Hy
open PySem PySem.Spec PyProof.Rows L2
open Ev (D Den av aq)
theorem m9 {K:fw}:∀{vs:List V} {ds:List D} (j:Nat),av K H vs ds->av K H (vs.eraseIdx j) (ds.eraseIdx j)
 | _,_,_,.nil=>.nil
 | _,_,0,.cons _ r=>r
 | _,_,j+1,.cons h r=>.cons h (m9 j r)
theorem uG {K:fw}{x:D}(h:Den K H v x):∀{vs:List V} {ds:List D} (j:Nat),av K H vs ds->av K H (vs.insertIdx j v) (ds.insertIdx j x)
 | _,_,0,r=>.cons h r
 | _,_,_+1,.nil=>.nil
 | _,_,j+1,.cons h1 r=>.cons h1 (uG h j r)
end Hy
namespace Ev
open PySem PySem.Spec PyProof.Rows L2
section
variable {prog:FB}{w:World}{A:GT}{E:Value->Da->Prop}{s:Da}{d it:Addr}{o:Obj}{es:Array NM}{ep i:Nat}
theorem uv (hd:(d==MZ)=false)(ho:s.heap.get? d=some o)(hx:o.ExactDict)(hdat:o.data=.dict es ep)
   (hQ:Q .(129) { s with heap:=s.heap.push { cls:=.type "dict_keyiterator",data:=.fields #[.ref d,.int 0 0,.int es.size 0,.int ep 0] } }):wpAny .(107) A (pyIter (.ref d)) Q E s:=by
 have hT:s.TypeIs (.ref d) "dict":=⟨o,ho,hx.1⟩;refine wpAny_pyIter_slot hT Mz (N4 Mz hT PySem.F.entry_dict_iter ?_ (PySem.F.args_dict_iter_1 _));unfold Builtin.«dict.__iter__»;refine AC ?_;unfold Builtin.Dict.dictSlotNone;refine AC (wpAny_notOrdered_dict hT (Fk ?_));show wpAny _ _ (Builtin.Dict.showsAll d >>= _) _ _ s;unfold Builtin.Dict.showsAll;rw[if_neg (by rw[hd]; exact HG)];refine AC (Fk (AC (wpAny_dictEntries ho hdat (AC (wpAny_dictEpoch ho hdat ?_)))));refine AC (GM (Fk ⟨_,rfl,"dict_keyiterator",_,⟨_,Hz _ rfl,rfl⟩,PySem.F.slot_dict_keyiterator_next.lookup,?_⟩));simpa[Nc]using hQ
theorem xM:Builtin.Dict_items.ownsTuple "dict_keyiterator" = false:=by decide
theorem uj (hit:s.heap.IsKeyIter it d i es.size ep)(ho:s.heap.get? d=some o)(hdat:o.data=.dict es ep)(hlt:i<es.size)
   (hQ:∀h',h'.IsKeyIter it d (i+1) es.size ep->KO it s.heap h'->Q (some es[i].key) { s with heap:=h' }):wpAny .(107) A (Nw (.ref it)) Q E s:=by
 obtain⟨oi,hoi,hc,hdi⟩:=id hit;unfold Nw;refine AC (wpAny_attempt (Ni (name:=Mf "__next__") hit.typeIs Ju (N4 Ju hit.typeIs LC ?_ (Lq _))));refine AC (Fk (AC (AC ?_)))
 first | refine AC (N6 hit.typeIs (Fk ?_)) | refine AC (Nf hit.typeIs (Fk ?_))
 refine AC (wpAny_fieldsOf hoi hdi ?_);simp only[xM,Je,if_false];show wpAny _ _ (if (Ip d==Jb)=true then _ else _) _ _ s;rw[if_neg (show ¬((Ip d==Jb)=true) from HG)];refine AC (Fk (AC (wpAny_dictEntries ho hdat ?_)));rw[if_neg .(4)];refine AC (Fk (AC (wpAny_dictEpoch ho hdat ?_)));rw[if_neg .(4)];refine Fk ?_;simp only[show ¬((i:Int)<0) from by omega,if_false,HC,JX hlt];refine AC ?_
 first | refine AC (N6 hit.typeIs (Fk ?_)) | refine AC (Nf hit.typeIs (Fk ?_))
 refine AC (wpAny_isOneOf_keyiter hit.typeIs ?_);show wpAny _ _ (setField (.ref it) 1 (Nc ((i:Int)+1)) >>= _) _ _ s;refine AC (wpAny_setField hoi hdi .(4) ?_)
 have hit':(s.heap.update it (LV (·.setIfInBounds 1 (Nc ((i:Int)+1))))).IsKeyIter it d (i+1) es.size ep:=
   ⟨_,JS _ hoi (Obj.isFreed_of_fields (Obj.data_mapFields hdi _)),(Obj.cls_mapFields ..).trans hc,by rw[Obj.data_mapFields hdi]; simp[Nc]⟩
 refine AC (Na ?_);refine AC (wpAny_isOneOf_keyiter (s:={ s with heap:=s.heap.update it (LV (·.setIfInBounds 1 (Nc ((i:Int)+1)))) }) hit'.typeIs ?_);show wpAny _ _ (pure es[i].key) _ _ _;exact Fk (Fk ⟨_,rfl,Fk (hQ _ hit' (Mn ..))⟩)
theorem zw (hh:A.handled=none)(hit:s.heap.IsKeyIter it d i es.size ep)(ho:s.heap.get? d=some o)(hdat:o.data=.dict es ep)(hge:es.size<=i)
   (hQ:∀h',Heap.ExtBut it s.heap h'->Q none { s with heap:=h' }):wpAny .(107) A (Nw (.ref it)) Q E s:=by
 obtain⟨oi,hoi,hc,hdi⟩:=id hit;unfold Nw;refine AC (wpAny_attempt (Ni (name:=Mf "__next__") hit.typeIs Ju (N4 Ju hit.typeIs LC ?_ (Lq _))));refine AC (Fk (AC (AC ?_)))
 first | refine AC (N6 hit.typeIs (Fk ?_)) | refine AC (Nf hit.typeIs (Fk ?_))
 refine AC (wpAny_fieldsOf hoi hdi ?_);simp only[xM,Je,if_false];show wpAny _ _ (if (Ip d==Jb)=true then _ else _) _ _ s;rw[if_neg (show ¬((Ip d==Jb)=true) from HG)];refine AC (Fk (AC (wpAny_dictEntries ho hdat ?_)));rw[if_neg .(4)];refine AC (Fk (AC (wpAny_dictEpoch ho hdat ?_)));rw[if_neg .(4)];refine Fk ?_;simp only[show ¬((i:Int)<0) from by omega,if_false,HC,Array.getElem?_eq_none hge];refine AC ?_
 first | refine AC (N6 hit.typeIs (Fk ?_)) | refine AC (Nf hit.typeIs (Fk ?_))
 show wpAny _ _ (setField (.ref it) 0 .none >>= _) _ _ s;refine AC (wpAny_setField hoi hdi .(4) ?_);show wpAny _ _ (newExc (.type "StopIteration") [] >>= _) _ _ _;refine AC ?_;simp only[newExc,newTuple];refine AC (GM ?_ (by size_fits));refine AC (m:=NI _ _) (MV (a:=Jb) (by first | rfl | (simp only[NI]; rfl)) ?_);refine GM ?_ (by size_fits);simp only[raiseNew];refine AC (wpAny_handled ?_);rw[show A.in1.handled=none from hh];refine AC (Fk (wpAny_throw ?_));refine AC (Nx (T:="StopIteration") (b:=true) ⟨_,Hz _ rfl,rfl⟩ isSubtype_stop ?_);exact Fk (hQ _ (((Mn ..).extBut.push _).push _))
end
section
variable {K:Type}[DecidableEq K]{a:KD K}{hd:a.dep<=7}{X:Cx}{pins:List .(103)}{σ:L2.St}{H:Hp}{s:Da}{d:Addr}{xs:NEs K}{ob:Obj}
theorem y7 (I:Inv X pins σ H s)(h:H d=some (.frz ob (dNk a hd X.prog X.w d xs))):(d==MZ)=false/\∃es ep,s.heap.get? d=some ob/\ob.ExactDict/\ob.data=.dict es ep/\es.toList=xs.map (NP (kd a hd X.prog X.w))/\(xs.map (·.1)).Nodup:=by
 obtain⟨e,⟨h0,o,es,ep,h1,h2⟩,_⟩:=(show bL X.prog X.w H s.heap d (.frz ob (dNk a hd X.prog X.w d xs)) from I.hok d _ h);rw[e]at h1;cases h1
 exact⟨h0,es,ep,e,h2⟩
noncomputable def Itw (a:KD K)(hd:a.dep<=7)(P:FB)(w:World)(d:Addr)(ob:Obj)(xs:NEs K):L2.It:=
 ⟨λi H=>i<xs.length/\H d=some (.frz ob (dNk a hd P w d xs)),λi H x H'=>H'=H/\∃p,xs[i]?=some p/\x=.ref p.2.1,λi H=>xs.length<=i/\H d=some (.frz ob (dNk a hd P w d xs))⟩
theorem Ad {P:FB}{w:World}{F:fw}{tg:Expr}(it:Addr)(es:Array NM)(ep:Nat)(hdat:ob.data=.dict es ep):
   Turn P w F false tg (Itw a hd P w d ob xs) [it] it (λi h=>i<=xs.length/\h.IsKeyIter it d i xs.length ep) where
 mem:=by simp
 obj:=λi h st b hb=>by
   have e:b=it:=by simpa using hb
   subst e;obtain⟨o,e,c,d⟩:=st.2;exact⟨o,e,λv z=>by rw[d]at z; cases z⟩
 keep:=λi h h' st k=>⟨st.1,st.2.at λo e=>k it .(4) o e⟩
 item:=by
   intro X hP hw hK hc i pins s σ H E I hf st hg;subst hP hw hK;obtain⟨hi,ha⟩:=hg;obtain⟨f0,f1,f2,f3,f4,f5⟩:=hf it .(4);obtain⟨_,es',ep',g1,_,g3,g4,_⟩:=y7 I ha;rw[hdat]at g3;injection g3 with z1 z2;subst z1 z2;have hl:es.size=xs.length:=by rw[<- IY,g4,bp]
   have st2:=st.2;rw[<- hl]at st2;have hie:i<es.size:=by omega
   have hk:es[i].key=.ref (xs[i]).2.1:=by
     have e:es.toList[i]?=some (NP (kd a hd X.prog X.w) xs[i]):=by rw[g4,HR,ph hi]; rfl
     rw[Lo,JX hie]at e;rw[Im e];rfl
   refine uj st2 g1 hdat hie λh' st' sb=>?_
   have I1:Inv X pins σ H { s with heap:=h' }:=I.turned (t':=s.toks) (λb o hb e=>(sb.2 b hb).trans e) f0 f1 f3 f4 f5;obtain⟨o',e,c,dd⟩:=id st';rw[hk];refine⟨_,rfl,kj (s:={ s with heap:=h' }) e c dd .(2) ⟨.ref (xs[i]).2.1,H,I1,rfl,⟨rfl,_,ph hi,rfl⟩,⟨hi,by rw[<- hl]; exact st'⟩,λb hb=>(hf b hb).1⟩⟩
 done:=by
   intro X hP hw hK hc i pins s σ H E I hf st hg;subst hP hw hK;obtain⟨hi,ha⟩:=hg;obtain⟨f0,f1,f2,f3,f4,f5⟩:=hf it .(4);obtain⟨_,es',ep',g1,_,g3,g4,_⟩:=y7 I ha;rw[hdat]at g3;injection g3 with z1 z2;subst z1 z2;have hl:es.size=xs.length:=by rw[<- IY,g4,bp]
   have st2:=st.2;rw[<- hl]at st2;exact zw (I.ok.hd hc.calm) st2 g1 hdat .(0) λh' eb=>⟨rfl,I.turned (t':=s.toks) (λb o hb e=>eb b o hb e) f0 f1 f3 f4 f5⟩
 self:=λ_ _ _ _ _ st h=>NG st.2 h
end
section
variable {K:Type}[DecidableEq K]{a:KD K}{hd:a.dep<=7}{X:Cx}{tg l o i:Expr}{tl td ty:TE}{pos:Pos}
def Ew (a:KD K)(hd:a.dep<=7)(P:FB)(w:World)(tl:TE):TI:=λσ H R=>tl σ H λx H1=>∃d ob xs,x=.ref d/\H1 d=some (.frz ob (dNk a hd P w d xs))/\R (Itw a hd P w d ob xs) H1
theorem qw (hc:X.calm=true)(hl:PE X l tl):PI X tg l (Ew a hd X.prog X.w tl):=by
 intro pins s σ H R I h;refine thn (hl pins s σ H _ I h) λu s1 ⟨x,H1,I1,r1,d,ob,xs,ex,ha,q⟩=>?_
 subst ex;cases r1
 obtain⟨h0,es,ep,g1,g2,g3,g4,_⟩:=y7 I1 ha;have hl:es.size=xs.length:=by rw[<- IY,g4,bp]
 refine uv h0 g1 g2 g3 ?_;refine⟨false,s1.heap.objs.size,[s1.heap.objs.size],_,_,H1,rfl,I1.kept (t':=s1.toks) λb o e=>pq _ e,.inl hc,Ad (xs:=xs) _ es ep g3,⟨HL _,?_⟩,λb hb=>?_,q⟩
 . rw[<- hl];exact⟨_,Hz _ rfl,rfl,rfl⟩
 . have e:b=s1.heap.objs.size:=by simpa using hb
   subst e;exact I1.jH .(3) (I1.hok.fresh .(3))
def FQ (a:KD K)(hd:a.dep<=7)(P:FB)(w:World)(F:fw)(td ty:TE):TE:=λσ H Q=>td σ H λx H1=>ty σ H1 λy H2=>∃d ob b k xs p v,x=.ref d/\y=.ref b/\H2 d=some (.frz ob (dNk a hd P w d xs))/\(∀x∈xs,Den F H2 (.ref x.2.1) (a.toD x.1))/\Den F H2 (.ref b) (a.toD k)/\atKey xs k=some p/\RelV v p.2/\Q v H2
theorem uE (hu:X.A.units+16<cLine)(ho:PE X o td)(hi:PE X i ty)(hs:mF i):PE X (.Subscript o i pos) (FQ a hd X.prog X.w X.K td ty):=by
 intro pins s σ H Q I h;refine oK PySem.F.slot_dict_getitem.lookup hs (thn (ho pins s σ H _ I h) λu s1 ⟨x,H1,I1,rx,q1⟩=>thn (hi pins s1 σ H1 _ I1 q1) λiv s2 ⟨y,H2,I2,ry,d,ob,b,k,xs,p,v,ex,ey,ha,hk,g,hp,rv,q2⟩=>?_);subst ex ey;obtain rfl:u=Ip d:=rx;obtain rfl:iv=Ip b:=ry;obtain⟨_,es,ep,g1,g2,g3,g4,g5⟩:=y7 I2 ha;have dd:s2.heap.DictOfH (kd a hd X.prog X.w) d xs:=⟨ob,es,ep,g1,g2,g3,g4,λx hx=>key_is I2 (hk x hx),g5⟩;exact⟨dd.typeIs,wpAny_getItem_heap (show X.A.units+1+8<cLine by omega) (key_is I2 g) dd hp ⟨v,H2,I2.tok _,rv,q2⟩⟩
end
end Ev
namespace Hy
open PySem PySem.Spec PyProof.Rows L2
open Ev (D Den av KD NEs dNk iB Bx aq y7 Itw qw uE)
section
variable {K:Type}[DecidableEq K]{a:KD K}{hd:a.dep<=7}{X:Cx}{C:Bool}{τ:List Sl}{x:D}{b e o ix tg:Expr}{pos p q:Pos}{k:Nat}{N:Po}{rest:List Stmt}{m:List (K×D)}{key:K}
noncomputable def bxW (a:KD K)(hd:a.dep<=7)(P:FB)(w:World)(m:List (K×D)):Bx where
 p:=λF H d=>∃ob xs,H d=some (.frz ob (dNk a hd P w d xs))/\EnK a F H xs m
 mono:=λe ⟨ob,xs,h1,h2⟩=>⟨ob,xs,e _ _ h1,h2.mono e⟩
 isd:=λ{_ _ d} ⟨ob,xs,h1,_⟩=>⟨_,h1,λP w H' h z=>let ⟨_,o,_,_,z1,z2,_⟩:=z.2.1; ⟨o,z1,z2.1⟩⟩
noncomputable def exW (a:KD K)(hd:a.dep<=7)(P:FB)(w:World)(ob:Obj)(m:List (K×D)):Ex where
 p:=λF G o p=>∃xs,o=.frz ob (dNk a hd P w p xs)/\EnK a F G xs m
 mono:=λe ⟨xs,h1,h2⟩=>⟨xs,h1,h2.mono e⟩
 ext:=λ⟨xs,h1,_⟩=>.inr (.inl ⟨_,_,h1⟩)
theorem Sta.fzW (S:Sta F A H₀ τ B σ H)(hi:τ[i]?=some (.x (exW a hd P w ob m))):Sta F A H₀ (τ.set i (.d (.box (bxW a hd P w m)))) (upB B i []) σ H:=
 S.less (λ_ z=>nomatch z) λG g hv=>by
   obtain⟨d,o,h1,h2,h3,xs,h4,h5⟩:=S.sl i _ hi;subst h4;exact⟨rfl,_,h2,.box ⟨ob,xs,hv d _ (by rw[h1]; exact gV.mpr rfl) (λz=>nomatch z) h3,h5.mono g⟩⟩
theorem Bz (i:Nat)(h:PSs X rest (dS X.K (τ.set i (.d (.box (bxW a hd X.prog X.w m)))) N))(hi:τ[i]?=some (.x (exK a hd X.prog X.w m)):=by rfl):PSs X rest .(114):=by
 intro pins s σ H D I ⟨A,H₀,B,S,Me⟩;obtain⟨d,xs,h1,h2,h3,h4⟩:=S.dct hi;obtain⟨⟨z0,o,es,ep,z1,z2⟩,z3,z4⟩:=(show bL X.prog X.w H s.heap d (dNk a hd X.prog X.w d xs) from I.hok d _ h3);have I2:Inv X pins σ (upd H d (.frz o (dNk a hd X.prog X.w d xs))) s:=fO (t':=s.toks) (h':=s.heap) I (by rw[h3]; exact JG) (.refl _ _) ⟨o,z1⟩ ⟨z1,⟨z0,o,es,ep,z1,z2⟩,z3,z4⟩;have hl:=(rp.mp hi).1;have S2:=S.zN (E':=exW a hd X.prog X.w o m) hi h2 ⟨xs,rfl,h4⟩;have S3:=S2.fzW (ob:=o) (m:=m) (Ic hl);rw[List.set_set]at S3;exact h pins s σ _ D I2 ⟨A,H₀,_,S3,Me⟩
theorem rJ (hu:X.A.units+16<cLine)(hb:PE X b (dE X.K C τ (.d (.box (bxW a hd X.prog X.w m)))))(hk:PE X ix (dE X.K C τ (.d (a.toD key))))(hx:getM m key=some x)(hr:∀H v,Den X.K H v (a.toD key)->∃b,v=.ref b)(hs:mF ix):PE X (.Subscript b ix pos) .(126):=
 peW (uE (a:=a) (hd:=hd) hu hb hk hs) λσ H Q q=>by
   obtain⟨A,H₀,B,S,kk⟩:=dj q;refine aU S λv H1 e1 d1=>aU (S.mono e1) λy H2 e2 dy=>?_
   obtain⟨b',rfl⟩:=hr _ _ dy;cases d1.mono (aC e2 λ_ z=>z) with
   | box h=>
     obtain⟨ob,xs,g3,g4⟩:=h;have:=g4.at key;rw[hx]at this;obtain⟨pp,v,h1,h2,h3⟩:=this;exact⟨_,ob,b',key,xs,pp,v,rfl,rfl,aS _ _ g3,λz hz=>(g4.key z hz).mono aS,dy.mono aS,h1,h2,kk v H2 (e1.trans e2) h3⟩
theorem EnK.xm :∀{xs:NEs K} {m:List (K×D)},EnK a F G xs m->∀i (h:i<m.length),∃p,xs[i]?=some p/\p.1=(m[i]).1
 | _,_,.nil,i,h=>absurd h .(4)
 | _,_,.cons ..,0,_=>⟨_,rfl,rfl⟩
 | _,_,.cons _ _ _ r,i+1,h=>by
   obtain⟨p,h1,h2⟩:=EnK.xm r i (by simpa using h);exact⟨p,h1,h2⟩
theorem tX (h:PE X e (dE X.K true τ (.d (.box (bxW a hd X.prog X.w m)))))(hc:X.calm=true:=by first | rfl | assumption):PI X tg e (dI X.K τ (m.map λp=>a.toD p.1)):=piW (qw (a:=a) (hd:=hd) hc h) λσ H R ⟨A,H₀,B,S,k⟩=>aU S λv H1 e1 d1=>by
 cases d1 with
 | box h=>
   obtain⟨ob,xs,g,en⟩:=h;have ln:=en.length;refine⟨_,ob,xs,rfl,aS _ _ g,k _ H1 e1 λH2 sg=>⟨λi hi=>⟨by rw[ln]; simpa using hi,sg _ _ g⟩,λi hi=>⟨⟨by rw[ln]; simpa using hi,sg _ _ g⟩,λx H' ⟨eH,p,hp,ex⟩=>?_⟩⟩⟩;subst eH ex;refine⟨ao.refl _,λM hM sM=>?_⟩;have hi':i<m.length:=by simpa using hi
   obtain⟨p',hp',ek⟩:=en.xm i hi';rw[hp]at hp';cases hp'
   rw[Jg,<- ek];exact(en.key p (IP hp)).mono sM
end
end Hy
namespace Ev
open PySem PySem.Spec PyProof.Rows L2
end Ev
namespace Hy
open PySem PySem.Spec PyProof.Rows L2
open Ev (D Den av aq)
end Hy
namespace Tx
open PySem
noncomputable def inj (c:Nat):List (List Nat)->List Nat
 | []=>[]
 | [a]=>a
 | a::b::r=>a++c::inj c (b::r)
noncomputable def cs (x:Str):List Nat:=x.cps.toList
end Tx
namespace Hx
open PySem PySem.Spec PyProof.Rows
end Hx
namespace Hx
open PySem PySem.Spec PySem.Calls PyProof.Rows PySem.W
end Hx
namespace Hx
open PySem PySem.Spec PySem.Calls PyProof.Rows PySem.W L2
theorem there (x:bL P w H h a o):∃u,h.get? a=some u:=by
 cases o with
 | lst xs=>obtain⟨_,_,_,_,e⟩:=x; exact⟨_,e⟩
 | tup xs=>obtain⟨_,_,_,o,e,_⟩:=x; exact⟨_,e⟩
 | dK kvs=>obtain⟨_,_,_,_,o,_,_,e,_⟩:=x; exact⟨_,e⟩
 | dT kvs=>obtain⟨_,_,_,_,o,_,_,e,_⟩:=x; exact⟨_,e⟩
 | set S n=>obtain⟨o,_,_,_,e,_⟩:=x; exact⟨_,e⟩
 | ins C dx fs=>obtain⟨_,_,_,e,_⟩:=x; exact⟨_,e⟩
 | own y=>exact x
 | xd fs=>obtain⟨_,⟨o,_,_,e,_⟩,_⟩:=x; exact⟨_,e⟩
 | met f y=>exact⟨_,x⟩
 | rng lo hi=>obtain⟨_,_,_,e⟩:=x; exact⟨_,e⟩
 | frz o u=>exact⟨_,x.1⟩
 | tbl ps=>exact⟨_,x⟩
 | ext φ=>exact x.2.1
end Hx
namespace Hy
open PySem PySem.Spec PyProof.Rows L2
open Ev (D Den av aq)
end Hy
namespace Hx
open PySem PySem.Spec PyProof.Rows L2
end Hx
namespace Hy
open PySem PySem.Spec PyProof.Rows L2
end Hy
namespace Hy
open PySem PySem.Spec PyProof.Rows L2
open Ev (D Den av aq aY aR)
section
variable {X:Cx}{C:Bool}{τ:List Sl}{a b e e1 e2 e3 o:Expr}{pos p2:Pos}{k:Nat}{x:D}{N:Po}{rest:List Stmt}
theorem pZ {lo hi:Option Expr}{l u:Option Int}{xs:List D}(ha:PE X a (dE X.K C τ (.d (.tup xs))))(hl:PO X lo (dO X.K τ l))(hu:PO X hi (dO X.K τ u))(hw:¬(HT.sIx xs.length 0 l=0/\HT.sIx xs.length xs.length u=xs.length)):PE X (.Subscript a (.Slice lo hi none p2) pos) (dE X.K C τ (.d (.tup (cutD xs l u)))):=
 peW (qX El ha hl hu) λσ H Q q=>by
   obtain⟨A,H₀,B,S,k⟩:=dj q
   exact aU S λv H1 e1 d1=>⟨A,H₀,B,S.mono e1,λH2 e2=>⟨A,H₀,B,(S.mono e1).mono e2,λH3 e3=>by
     cases d1 with
     | @tup _ ws _ h r=>
       have h:=aY (e2.trans e3) (aY aS h);have r:=r.mono (aC (e2.trans e3) λ_ z=>z);refine⟨_,_,rfl,h,by rw[r.length]; exact hw,λp hp=>?_⟩
       have r':av X.K (hd H3 (vw C A B)) (lp ws l u) (cutD xs l u):=by
         unfold lp cutD;rw[r.length];exact(r.drop _).take _
       have hM:=(((S.mono e1).mono e2).mono e3).vd (C:=C);have e4:=aq hp (.tup (lp ws l u));exact k _ _ ((e1.trans (e2.trans e3)).trans e4) (.tup (SqT.of (lV hM hp)) (r'.mono (aC e4 λ_ z=>z)))⟩⟩
theorem iJ {K:fw}:∀{vs:List V} {bs:List Addr} {ds:List D},aX K G H vs bs (ds.map .d)->av K G vs ds/\bs=[]
 | _,_,[],h=>by cases h; exact⟨.nil,rfl⟩
 | _,_,x::ds,h=>by
   rw[Ii]at h;cases h with
   | cons h r=>
     cases h with
     | d h=>
       obtain⟨d1,rfl⟩:=iJ r;exact⟨.cons h d1,rfl⟩
theorem xI {i:Nat}{pt:List Nat}{t:Nd}{ds:List D}{m:Int}{j:Nat}{ix:Expr}{sp:Pos}(ho:PE X o (dP X.K τ i pt))(hx:PE X ix (dE X.K false τ (.d (.int m))))(he:PE X e (dE X.K true τ (.d x)))(hi:τ[i]?=some (.n t))(hp:dg pt t=some (.l (ds.map .d)))(hj:ixN ds.length m=some j)
   (hr:PSs X rest (dS X.K (τ.set i (.n (cH pt t (.l ((ds.set j x).map .d))))) N))
   (hs:Ng [.Subscript o ix sp] e pos.line X.env=pure false:=by rfl) (hw:Nh [.Subscript o ix sp] e X.env=pure none:=by rfl) (h1:(KF [.Subscript o ix sp] X.env).map (·.2)=[assign (.Subscript o ix sp) X.env]:=by rfl)
   (ha:∀v,assign (.Subscript o ix sp) X.env v=(do
     let ov <- M6 [v] (eval o X.env)
     let iv <- M6 [v,ov] (eval ix X.env)
     Nu sp
     M6 [v,ov,iv] (Nv ov iv v)
     NJ [v,ov,iv] []):=by intro _; rfl) :
   PSs X (.Assign [.Subscript o ix sp] e pos::rest) .(114):=
 bw (M:=(·=τ.set i (.n (cH pt t (.l ((ds.set j x).map .d)))))) (psW (jL he (iO ho hx set_list ha) hs hw h1) λD σ H ⟨A,H₀,B,S,Me⟩=>aU S λv H1 e1 d1=>by
   refine⟨A,H₀,B,S.mono e1,λu w H2 eu e2 pv=>aU ((S.mono e1).mono e2) λy H3 e3 d3=>?_⟩;have S3:=((S.mono e1).mono e2).mono e3;obtain⟨u',l,vs,bs0,eu',pv',hH,r0,nd0,hal,hown,put⟩:=S3.putN hi hp;rw[eu]at eu';cases eu'
   obtain rfl:=(pv.mono e3).det pv';cases d3
   obtain⟨dl,rfl⟩:=iJ r0;refine⟨l,vs,m,j,rfl,rfl,hH,by rw[dl.length]; exact hj,?_⟩
   have sm:ao (hd H3 (own A B)) (hd (upd H3 l (.lst (vs.set j v))) λb=>own A B b\/b∈([]:List Addr)):=λb o z=>by
     obtain⟨z1,z2⟩:=au.mp z;exact au.mpr ⟨(λy=>y.elim z1 λy=>(nomatch y)),by rw[aE (λy:b=l=>z1 (by rw[y]; exact hal))]; exact z2⟩
   obtain⟨B',S'⟩:=put (H1:=H3) (vs':=vs.set j v) (bs1:=[]) (xs':=(ds.set j x).map .d) .(102) JO (λ_ z=>nomatch z) (lT ((fZ j dl (d1.mono (aC (e2.trans e3) λ_ z=>z))).mono sm));exact Me.nx _ B' _ _ rfl S') λ_ e=>e▸hr
end
end Hy
namespace K34
open PySem PySem.Spec PyProof.Rows L2 Hy
open Ev (D Den av aH aL)
noncomputable def aA (f:Nat->Rat):Nat->Rat
 | 0=>0
 | n+1=>aA f n+f n
theorem ar :∀{n:Nat},(∀k<n,f k=g k)->aA f n=aA g n
 | 0,_=>rfl
 | n+1,h=>by rw[aA,aA,ar λk hk=>h k .(0),h n .(0)]
theorem a5 (c:Rat)(f:Nat->Rat):∀n:Nat,c*aA f n=aA (λk=>c*f k) n
 | 0=>Ie c
 | n+1=>by rw[aA,aA,Rat.mul_add,a5 c f n]
theorem gC (c:Rat)(f:Nat->Rat):∀n:Nat,aA f n*c=aA (λk=>f k*c) n
 | 0=>Iq c
 | n+1=>by rw[aA,aA,Rat.add_mul,gC c f n]
theorem df (f g:Nat->Rat):∀n:Nat,aA (λk=>f k+g k) n=aA f n+aA g n
 | 0=>(Ir 0).symm
 | n+1=>by rw[aA,aA,aA,df f g n]; grind
theorem jV:∀n:Nat,aA (λ_=>0) n=0
 | 0=>rfl
 | n+1=>by rw[aA,jV n,Ir]
theorem fD (f:Nat->Nat->Rat)(m:Nat):∀n:Nat,aA (λk=>aA (λl=>f k l) m) n=aA (λl=>aA (λk=>f k l) n) m
 | 0=>by simp only[aA]; exact(jV m).symm
 | n+1=>by simp only[aA]; rw[fD f m n,<- df]
noncomputable def dq (i j:Nat):Rat:=if i=j then 1 else 0
theorem qi (A:Nat->Rat)(j:Nat):∀n:Nat,n<=j->aA (λk=>A k*dq k j) n=0
 | 0,_=>rfl
 | n+1,h=>by
   rw[aA,qi A j n .(0),dq,if_neg .(0),Ie,Ir]
theorem bJ (A:Nat->Rat)(j:Nat):∀n:Nat,j<n->aA (λk=>A k*dq k j) n=A j
 | n+1,h=>by
   rw[aA];by_cases e:j=n
   . subst e;rw[qi A j j .(3),dq,if_pos rfl,JE,JU]
   . rw[bJ A j n .(0),dq,if_neg .(0),Ie,Ir]
theorem lU (A:Nat->Rat)(i n:Nat)(h:i<n):aA (λk=>dq i k*A k) n=A i:=by
 rw[<- bJ A i n h];congr 1;funext k;rw[JK,dq,dq];by_cases e:i=k
 . rw[if_pos e,if_pos e.symm]
 . rw[if_neg e,if_neg λz=>e z.symm]
noncomputable def skp (i r:Nat):Nat:=if r<i then r else r+1
noncomputable def minor (M:Nat->Nat->Rat)(i r c:Nat):Rat:=M (skp i r) (c+1)
noncomputable def sgn (i:Nat):Rat:=if i%2=0 then 1 else -1
theorem gD (i:Nat):sgn (i+1)=-sgn i:=by
 unfold sgn;by_cases h:i%2=0
 . rw[if_pos h,if_neg .(0)]
 . rw[if_neg h,if_pos .(0)];rfl
theorem pB (i:Nat):sgn i*sgn i=1:=by
 unfold sgn;split <;> grind
noncomputable def det:Nat->(Nat->Nat->Rat)->Rat
 | 0,_=>1
 | n+1,M=>aA (λi=>sgn i*M i 0*det n (minor M i)) (n+1)
theorem iR (h:r<n):skp i r<n+1:=by unfold skp; split <;> omega
theorem Co (i r:Nat):skp i r≠i:=by unfold skp; split <;> omega
theorem aF:∀{n:Nat} {M M':Nat->Nat->Rat},(∀i<n,∀j<n,M i j=M' i j)->det n M=det n M'
 | 0,_,_,_=>rfl
 | n+1,M,M',h=>by
   unfold det;refine ar λi hi=>?_
   rw[h i hi 0 .(0),aF (M:=minor M i) (M':=minor M' i) λr hr c hc=>h _ (iR hr) _ .(0)]
noncomputable def aB (M:Nat->Nat->Rat)(p:Nat)(v:Nat->Rat)(r c:Nat):Rat:=if r=p then v c else M r c
noncomputable def aO (M:Nat->Nat->Rat)(q:Nat)(v:Nat->Rat)(r c:Nat):Rat:=if c=q then v r else M r c
noncomputable def un (i p:Nat):Nat:=if p<i then p else p-1
theorem iI (M:Nat->Nat->Rat)(p:Nat)(v:Nat->Rat):minor (aB M p v) p=minor M p:=by
 funext r c;unfold minor aB;rw[if_neg (Co p r)]
theorem gP (M:Nat->Nat->Rat)(h:i≠p)(v:Nat->Rat):minor (aB M p v) i=aB (minor M i) (un i p) λc=>v (c+1):=by
 funext r c;unfold minor aB;have:skp i r=p↔r=un i p:=by unfold skp un; split <;> split <;> omega
 by_cases q:skp i r=p
 . rw[if_pos q,if_pos (this.mp q)]
 . rw[if_neg q,if_neg λz=>q (this.mpr z)]
theorem oE:∀{n:Nat} (M:Nat->Nat->Rat) {p:Nat},p<n->∀(a b:Rat) (x y:Nat->Rat),det n (aB M p λc=>a*x c+b*y c)=a*det n (aB M p x)+b*det n (aB M p y)
 | 0,_,_,h,_,_,_,_=>absurd h .(6)
 | n+1,M,p,hp,a,b,x,y=>by
   unfold det;rw[a5,a5,<- df];refine ar λi hi=>?_
   by_cases h:i=p
   . subst h;rw[iI,iI,iI];simp only[aB,if_pos rfl];grind
   . rw[gP M h,gP M h,gP M h,oE (minor M i) (show un i p<n by unfold un; split <;> omega) a b];simp only[aB,if_neg h];grind
theorem zd (h0:∀i,i≠p->i≠p+1->f i=0)(h:f p+f (p+1)=0):∀n,p+1<n->aA f n=0:=by
 have z:∀n,n<=p->aA f n=0:=by
   intro n;induction n with
   | zero=>intro _; rfl
   | succ n ih=>intro hn; rw[aA,ih .(0),h0 n .(0) .(0),Ir]
 intro n;induction n with
 | zero=>intro hn; omega
 | succ n ih=>
   intro hn;rw[aA];by_cases q:n=p+1
   . subst q;rw[aA,z p .(3),JU];exact h
   . rw[ih .(0),h0 n .(0) q,Ir]
theorem bq (h:∀i<n,f i=0):aA f n=0:=by
 rw[ar h]; exact jV n
theorem oP:∀{n:Nat} {M:Nat->Nat->Rat} {p:Nat},p+1<n->(∀c<n,M p c=M (p+1) c)->det n M=0
 | 0,_,_,h,_=>absurd h .(6)
 | n+1,M,p,hp,h=>by
   unfold det
   let f:Nat->Rat:=λi=>if i<n+1 then sgn i*M i 0*det n (minor M i) else 0
   have e:aA (λi=>sgn i*M i 0*det n (minor M i)) (n+1)=aA f (n+1):=ar λi hi=>by simp only[f]; rw[if_pos hi]
   rw[e];refine zd (p:=p) (λi h1 h2=>?_) ?_ _ hp
   . simp only[f];by_cases hi:i<n+1
     . rw[if_pos hi]
       have:det n (minor M i)=0:=by
         by_cases q:i<p
         . refine oP (p:=p-1) .(0) λc hc=>?_
           unfold minor skp;rw[if_neg .(0),if_neg .(0),show p-1+1=p by omega];exact h (c+1) .(0)
         . refine oP (p:=p) .(0) λc hc=>?_
           unfold minor skp;rw[if_pos .(0),if_pos .(0)];exact h (c+1) .(0)
       rw[this,Ie]
     . rw[if_neg hi]
   . simp only[f];rw[if_pos .(0),if_pos hp,gD,<- h 0 .(0)]
     have:det n (minor M p)=det n (minor M (p+1)):=aF λr hr c hc=>by
       unfold minor skp;by_cases q:r<p
       . rw[if_pos q,if_pos .(0)]
       . rw[if_neg q];by_cases q2:r=p
         . subst q2;rw[if_pos .(0)];exact(h (c+1) .(0)).symm
         . rw[if_neg .(0)]
     rw[this];grind
structure ML (n:Nat)(f:(Nat->Nat->Rat)->Rat):Prop where
 cong:∀{M M':Nat->Nat->Rat},(∀i<n,∀j<n,M i j=M' i j)->f M=f M'
 lin:∀(M:Nat->Nat->Rat) {p:Nat},p<n->∀(a b:Rat) (x y:Nat->Rat),f (aB M p λc=>a*x c+b*y c)=a*f (aB M p x)+b*f (aB M p y)
 alt:∀{M:Nat->Nat->Rat} {p:Nat},p+1<n->(∀c<n,M p c=M (p+1) c)->f M=0
theorem cf (n:Nat):ML n (det n):=⟨aF,oE,oP⟩
section
variable {n:Nat}{f:(Nat->Nat->Rat)->Rat}
theorem bA (M:Nat->Nat->Rat)(p:Nat):aB M p (M p)=M:=by
 funext r c;unfold aB;split
 . rename_i h; rw[h]
 . rfl
theorem bS :aB M p v p=v:=by funext c; unfold aB; rw[if_pos rfl]
theorem bT (h:r≠p):aB M p v r=M r:=by funext c; unfold aB; rw[if_neg h]
theorem bz (h:p≠q):aB (aB M p v) q u=aB (aB M q u) p v:=by
 funext r c;unfold aB;by_cases h1:r=q
 . rw[if_pos h1,if_neg λz=>h (z.symm.trans h1),if_pos h1]
 . rw[if_neg h1,if_neg h1]
theorem ML.add (h:ML n f)(M:Nat->Nat->Rat)(hp:p<n)(x y:Nat->Rat):f (aB M p λc=>x c+y c)=f (aB M p x)+f (aB M p y):=by
 have:=h.lin M hp 1 1 x y;simp only[IC]at this;exact this
theorem ML.nb (h:ML n f)(M:Nat->Nat->Rat)(hp:p+1<n)(x y:Nat->Rat):f (aB (aB M p x) (p+1) y)=-f (aB (aB M p y) (p+1) x):=by
 have z:∀u:Nat->Rat,f (aB (aB M p u) (p+1) u)=0:=λu=>h.alt hp λc _=>by rw[bS,bT .(0),bS]
 have e:=z λc=>x c+y c
 rw[h.add _ hp]at e;rw[bz .(0),h.add _ (show p<n by omega),bz (M:=M) (p:=p) (q:=p+1) (v:=λc=>x c+y c) (u:=y) .(0),h.add _ (show p<n by omega)]at e;rw[bz (M:=M) (p:=p+1) (q:=p) (v:=x) (u:=x) .(0),z x,bz (M:=M) (p:=p+1) (q:=p) (v:=y) (u:=y) .(0),z y,bz (M:=M) (p:=p+1) (q:=p) (v:=x) (u:=y) .(0),bz (M:=M) (p:=p+1) (q:=p) (v:=y) (u:=x) .(0)]at e;grind
theorem ML.two (h:ML n f):∀(d:Nat) (M:Nat->Nat->Rat) (p:Nat),p+1+d<n->M p=M (p+1+d)->f M=0
 | 0,M,p,hp,e=>h.alt hp λc _=>by rw[e]
 | d+1,M,p,hp,e=>by
   have s:=h.nb M (p:=p+1+d) .(0) (M (p+1+d)) (M (p+1+d+1));rw[bA,bA]at s;rw[s,ML.two h d _ p .(0) (by rw[bT .(0),bT .(0),bT .(0),bS]; exact e)];rfl
theorem ML.same (h:ML n f)(hp:p<n)(hq:q<n)(hpq:p≠q)(e:M p=M q):f M=0:=by
 rcases Nat.lt_or_lt_of_ne hpq with z | z
 . exact h.two (q-p-1) M p .(0) (by rw[show p+1+(q-p-1)=q by omega]; exact e)
 . exact h.two (p-q-1) M q .(0) (by rw[show q+1+(p-q-1)=p by omega]; exact e.symm)
theorem ML.swap (h:ML n f)(hp:p<n)(hq:q<n)(hpq:p≠q)(x y:Nat->Rat):f (aB (aB M p x) q y)=-f (aB (aB M p y) q x):=by
 have z:∀u:Nat->Rat,f (aB (aB M p u) q u)=0:=λu=>h.same hp hq hpq (by rw[bS,bT hpq,bS])
 have e:=z λc=>x c+y c
 have c1:∀u v:Nat->Rat,aB (aB M q u) p v=aB (aB M p v) q u:=λu v=>bz λz=>hpq z.symm
 rw[h.add _ hq,bz hpq,h.add _ hp,bz (M:=M) (p:=p) (q:=q) (v:=λc=>x c+y c) (u:=y) hpq,h.add _ hp,c1,c1,c1,c1,z x,z y]at e;grind
theorem ML.yP (h:ML n f)(M:Nat->Nat->Rat)(hp:p<n):f (aB M p λ_=>0)=0:=by
 have:=h.lin M hp 0 0 (λ_=>0) (λ_=>0);simp only[Iq,Ir]at this;exact this
theorem ML.sum (h:ML n f)(M:Nat->Nat->Rat)(hp:p<n)(v:Nat->Rat)(e:Nat->Nat->Rat):∀m,f (aB M p λj=>aA (λc=>v c*e c j) m)=aA (λc=>v c*f (aB M p (e c))) m
 | 0=>h.yP M hp
 | m+1=>by
   have:=h.lin M hp 1 (v m) (λj=>aA (λc=>v c*e c j) m) (e m);simp only[IC]at this;rw[aA,<- ML.sum h M hp v e m];exact this
theorem ML.comb (h:ML n f)(M:Nat->Nat->Rat)(hp:p<n)(hk:k<=p)(d:Rat)(β:Nat->Rat):f (aB M p λj=>d*M p j+aA (λi=>β i*M i j) k)=d*f M:=by
 have e:=h.lin M hp d 1 (M p) (λj=>aA (λi=>β i*M i j) k);simp only[IC]at e;rw[e,bA,h.sum M hp β M k,bq,Ir];intro i hi;rw[h.same (p:=i) (q:=p) .(0) hp .(0) (by rw[bT .(0),bS]),Ie]
end
noncomputable def idQ (i j:Nat):Rat:=if i=j then 1 else 0
noncomputable def un1 (σ:Nat->Nat)(i j:Nat):Rat:=if σ i=j then 1 else 0
theorem xK:∀(m:Nat) (σ:Nat->Nat),(∀i<m+1,σ i<m)->∃i j,i<j/\j<m+1/\σ i=σ j
 | 0,σ,h=>absurd (h 0 .(2)) .(6)
 | m+1,σ,h=>by
   by_cases q:∃i,i<m+1/\σ i=σ (m+1)
   . obtain⟨i,hi,e⟩:=q;exact⟨i,m+1,hi,by omega,e⟩
   . have q':∀i<m+1,σ i≠σ (m+1):=λi hi z=>q ⟨i,hi,z⟩
     obtain⟨i,j,h1,h2,e⟩:=xK m (λi=>if σ (m+1)<σ i then σ i-1 else σ i) λi hi=>by
       have a:=h i .(0);have b:=h (m+1) .(0);have c:=q' i hi;split <;> omega
     refine⟨i,j,h1,by omega,?_⟩;have a:=q' i .(0);have b:=q' j h2;split at e <;> split at e <;> omega
theorem Bp {σ:Nat->Nat}(h:∀i<n,σ i<n)(hk:k<n)(hn:∀i<n,σ i≠k):∃i j,i<j/\j<n/\σ i=σ j:=by
 obtain⟨m,rfl⟩:∃m,n=m+1:=⟨n-1,by omega⟩
 obtain⟨i,j,h1,h2,e⟩:=xK m (λi=>if k<σ i then σ i-1 else σ i) λi hi=>by
   have a:=h i hi;have b:=hn i hi;split <;> omega
 refine⟨i,j,h1,h2,?_⟩;have a:=hn i .(0);have b:=hn j h2;split at e <;> split at e <;> omega
section
variable {n:Nat}{h:(Nat->Nat->Rat)->Rat}
theorem ML.yb (H:ML n h)(h0:h idQ=0):∀(d k:Nat),k+d=n->∀σ:Nat->Nat,(∀i<n,σ i<n)->(∀i<k,σ i=i)->h (un1 σ)=0
 | 0,k,hk,σ,_,hf=>by
   rw[<- h0];exact H.cong λi hi j _=>by unfold un1 idQ; rw[hf i .(0)]
 | d+1,k,hk,σ,hs,hf=>by
   by_cases q:∃j,k<=j/\j<n/\σ j=k
   . obtain⟨j,h1,h2,h3⟩:=q;by_cases z:j=k
     . subst z
       exact ML.yb H h0 d (j+1) .(0) σ hs λi hi=>by
         by_cases y:i=j
         . rw[y]; exact h3
         . exact hf i .(0)
     . have e:un1 σ=aB (aB (un1 σ) k (un1 σ k)) j (un1 σ j):=by rw[bA,bA]
       have e2:aB (aB (un1 σ) k (un1 σ j)) j (un1 σ k)=un1 λi=>if i=j then σ k else if i=k then σ j else σ i:=by
         funext r c;have zk:¬k=j:=λy=>z y.symm
         by_cases y1:r=j <;> by_cases y2:r=k <;> simp[aB,un1,y1,y2,zk]
       rw[e,H.swap .(0) h2 (λy=>z y.symm),e2,ML.yb H h0 d (k+1) .(0) _ (λi hi=>?_) (λi hi=>?_)]
       . rfl
       . split
         . exact hs k .(0)
         . split
           . exact hs j h2
           . exact hs i hi
       . rw[if_neg .(0)];by_cases y:i=k
         . rw[if_pos y,h3,y]
         . rw[if_neg y];exact hf i .(0)
   . obtain⟨i,j,h1,h2,e⟩:=Bp hs (show k<n by omega) λi hi z=>by
       by_cases y:i<k
       . have:=hf i y;omega
       . exact q ⟨i,by omega,hi,z⟩
     exact H.same (p:=i) (q:=j) .(0) h2 .(0) (by funext c; unfold un1; rw[e])
noncomputable def pL (k:Nat)(M:Nat->Nat->Rat)(σ:Nat->Nat)(i j:Nat):Rat:=if i<k then M i j else un1 σ i j
theorem ML.FP (H:ML n h)(h0:h idQ=0)(M:Nat->Nat->Rat):∀(k:Nat),k<=n->∀σ:Nat->Nat,(∀i<n,σ i<n)->h (pL k M σ)=0
 | 0,_,σ,hs=>by
   rw[<- ML.yb H h0 n 0 .(0) σ hs λi hi=>absurd hi .(6)];exact H.cong λi _ j _=>by unfold pL; rw[if_neg .(6)]
 | k+1,hk,σ,hs=>by
   have e:h (pL (k+1) M σ)=h (aB (pL k M σ) k λj=>aA (λc=>M k c*idQ c j) n):=H.cong λi hi j hj=>by
     unfold aB pL;by_cases y:i=k
     . subst y;rw[if_pos .(0),if_pos rfl];exact(bJ (M i) j n hj).symm
     . rw[if_neg y];by_cases z:i<k
       . rw[if_pos .(0),if_pos z]
       . rw[if_neg .(0),if_neg z]
   rw[e,H.sum _ .(0),bq];intro c hc
   have e2:aB (pL k M σ) k (idQ c)=pL k M λi=>if i=k then c else σ i:=by
     funext r j;by_cases y:r=k <;> simp[aB,pL,un1,idQ,y]
   rw[e2,ML.FP H h0 M k .(0) _ (λi hi=>?_),Ie];split
   . exact hc
   . exact hs i hi
theorem ML.zero (H:ML n h)(h0:h idQ=0)(M:Nat->Nat->Rat):h M=0:=by
 rw[<- ML.FP H h0 M n .(3) (λi=>i) λi hi=>hi];exact H.cong λi hi j _=>by unfold pL; rw[if_pos hi]
end
theorem zt:minor idQ 0=idQ:=by
 funext r c;unfold minor idQ skp;rw[if_neg .(6)];by_cases h:r=c
 . rw[if_pos .(0),if_pos h]
 . rw[if_neg .(0),if_neg h]
theorem tJ:∀n,det n idQ=1
 | 0=>rfl
 | n+1=>by
   unfold det;rw[ar (g:=λi=>det n (minor idQ i)*idQ i 0) λi hi=>?_]
   . have:=bJ (λi=>det n (minor idQ i)) 0 (n+1) .(0);have e:(λi=>det n (minor idQ i)*idQ i 0)=λk=>(λi=>det n (minor idQ i)) k*dq k 0:=rfl
     rw[e,this,zt,tJ n]
   . by_cases z:i=0
     . subst z;show 1*1*_=_*1;grind
     . unfold idQ;rw[if_neg z];grind
theorem ML.uniq (F:ML n f)(M:Nat->Nat->Rat):f M=det n M*f idQ:=by
 have D:=cf n
 have H:ML n λM=>f M-det n M*f idQ:=by
   refine⟨λ{M M'} e=>?_,λM p hp a b x y=>?_,λ{M p} hp e=>?_⟩
   . rw[F.cong e,D.cong e]
   . rw[F.lin M hp,D.lin M hp];grind
   . rw[F.alt hp e,D.alt hp e];grind
 have:=H.zero (by rw[tJ]; grind) M;grind
theorem jh:∀{n:Nat} (M:Nat->Nat->Rat) {q:Nat},q<n->∀(a b:Rat) (x y:Nat->Rat),det n (aO M q λc=>a*x c+b*y c)=a*det n (aO M q x)+b*det n (aO M q y)
 | 0,_,_,h,_,_,_,_=>absurd h .(6)
 | n+1,M,q,hq,a,b,x,y=>by
   unfold det;rw[a5,a5,<- df];refine ar λi hi=>?_
   cases q with
   | zero=>
     have e:∀v,minor (aO M 0 v) i=minor M i:=λv=>by
       funext r c;unfold minor aO;rw[if_neg .(0)]
     rw[e,e,e];simp only[aO,if_true];grind
   | succ q=>
     have e:∀v,minor (aO M (q+1) v) i=aO (minor M i) q λr=>v (skp i r):=λv=>by
       funext r c;unfold minor aO;by_cases z:c=q
       . rw[if_pos .(0),if_pos z]
       . rw[if_neg .(0),if_neg z]
     rw[e,e,e,jh (minor M i) (show q<n by omega) a b];have z:¬(0=q+1):=by omega
     simp only[aO,if_neg z];grind
theorem nH (g:Nat->Rat)(i:Nat):∀n,i<=n->aA (λj=>g (skp i j)) n=aA g (n+1)-g i
 | 0,h=>by
   have:i=0:=by omega
   subst this;show (0:Rat)=0+g 0-g 0;grind
 | n+1,h=>by
   by_cases q:i=n+1
   . subst q;have e:aA (λj=>g (skp (n+1) j)) (n+1)=aA g (n+1):=ar λk hk=>by unfold skp; rw[if_pos hk]
     rw[e,aA.eq_2 g (n+1)];grind
   . rw[aA,nH g i n .(0),aA.eq_2 g (n+1)];have:skp i n=n+1:=by unfold skp; rw[if_neg .(0)]
     rw[this];grind
theorem vM {G:Nat->Nat->Rat}(h:∀i<n,∀j<n,G i j=-G j i):aA (λi=>aA (λj=>G i j) n) n=0:=by
 have e:aA (λi=>aA (λj=>G i j) n) n=-1*aA (λi=>aA (λj=>G i j) n) n:=by
   conv=>lhs; rw[fD]
   rw[a5];refine ar λi hi=>?_
   rw[a5];refine ar λj hj=>?_
   rw[h j hj i hi];grind
 grind
theorem A2 (h:i<j):skp i (skp (j-1) r)=skp j (skp i r):=by
 unfold skp;split <;> split <;> (try split) <;> (try split) <;> omega
theorem qf:∀{n:Nat} {M:Nat->Nat->Rat} {q:Nat},q+1<n->(∀r<n,M r q=M r (q+1))->det n M=0
 | 0,_,_,h,_=>absurd h .(6)
 | 1,_,_,h,_=>by omega
 | n+2,M,q+1,hq,h=>by
   rw[det];refine bq λi hi=>?_
   rw[qf (M:=minor M i) (q:=q) .(0) λr hr=>h _ (iR hr),Ie]
 | n+2,M,0,hq,h=>by
   let D:Nat->Nat->Rat:=λi j=>det n λr c=>M (skp i (skp j r)) (c+2)
   let G:Nat->Nat->Rat:=λi j=>if i<j then -(sgn i*sgn j*M i 0*M j 0*D i (j-1)) else if j<i then sgn i*sgn j*M i 0*M j 0*D i j else 0
   have inner:∀i<n+2,sgn i*M i 0*det (n+1) (minor M i)=aA (λj=>G i j) (n+2):=λi hi=>by
     have e:aA (λj=>G i j) (n+2)=aA (λj=>G i (skp i j)) (n+1):=by
       have g0:G i i=0:=by simp only[G]; rw[if_neg (Kz i),if_neg (Kz i)]
       rw[nH (λj=>G i j) i (n+1) .(0),g0];grind
     rw[e,det,a5];refine ar λj hj=>?_
     have m0:minor M i j 0=M (skp i j) 0:=(h _ (iR hj)).symm;have mm:det n (minor (minor M i) j)=D i j:=rfl;rw[m0,mm];simp only[G];by_cases z:j<i
     . have s:skp i j=j:=by unfold skp; rw[if_pos z]
       rw[s,if_neg .(0),if_pos z];grind
     . have s:skp i j=j+1:=by unfold skp; rw[if_neg z]
       rw[s,if_pos .(0),gD,show j+1-1=j by omega];grind
   rw[det,ar inner];refine vM λi hi j hj=>?_
   have sy:∀{i j:Nat},i<j->D i (j-1)=D j i:=λ{i j} z=>by
     simp only[D];congr 1;funext r c;rw[A2 z]
   simp only[G];rcases Mb i j with z | z | z
   . rw[if_pos z,if_neg .(0),if_pos z,sy z];grind
   . subst z;rw[if_neg .(10),if_neg .(10)];rfl
   . rw[if_neg .(0),if_pos z,if_pos z,sy z];grind
theorem cR (n:Nat)(M:Nat->Nat->Rat):det n (λi j=>M j i)=det n M:=by
 have H:ML n λM=>det n λi j=>M j i:=by
   refine⟨λ{M M'} e=>aF λi hi j hj=>e j hj i hi,λM p hp a b x y=>?_,λ{M p} hp e=>qf hp λr hr=>e r hr⟩;exact jh (λi j=>M j i) hp a b x y
 have u:=H.uniq M
 have i1:(det n λi j=>idQ j i)=1:=by
   rw[<- tJ n];congr 1;funext i j;unfold idQ;by_cases z:i=j
   . rw[if_pos z,if_pos z.symm]
   . rw[if_neg z,if_neg λy=>z y.symm]
 simp only[i1,JE]at u;exact u
theorem ni (m:Nat):∀(k:Nat) (M:Nat->Nat->Rat),(∀i,k<=i->i<k+m->∀j<k,M i j=0)->det (k+m) M=det k M*det m λi j=>M (k+i) (k+j)
 | 0,M,_=>by
   rw[J9];show det m M=1*_;rw[IC];congr 1;funext i j;rw[J9,J9]
 | k+1,M,h=>by
   have a:k+1+m=(k+m)+1:=by omega
   rw[a,det,det,gC]
   have tail:∀t,aA (λi=>sgn i*M i 0*det (k+m) (minor M i)) (k+1+t)=aA (λi=>sgn i*M i 0*det (k+m) (minor M i)) (k+1)\/¬t<=m:=by
     intro t;induction t with
     | zero=>exact .inl rfl
     | succ t ih=>
       by_cases q:t+1<=m
       . rcases ih with ih | ih
         . refine .inl ?_;rw[show k+1+(t+1)=(k+1+t)+1 by omega,aA,ih,h (k+1+t) .(0) .(0) 0 .(0)];grind
         . omega
       . exact .inr q
   rcases tail m with e | e
   . rw[show k+m+1=k+1+m by omega,e];refine ar λi hi=>?_
     rw[ni m k (minor M i) λr h1 h2 c hc=>?_]
     . have:(λr c=>minor M i (k+r) (k+c))=λr c=>M (k+1+r) (k+1+c):=by
         funext r c;unfold minor skp;rw[if_neg .(0),show k+r+1=k+1+r by omega,show k+c+1=k+1+c by omega]
       rw[this];grind
     . unfold minor skp;rw[if_neg .(0)];exact h _ .(0) .(0) _ .(0)
   . exact absurd (Ia m) e
noncomputable def bm (Y:Nat->Nat->Rat)(k p q:Nat):Rat:=det (k+1) λr c=>Y (if r<k then r else p) (if c<k then c else q)
noncomputable def bc (Y:Nat->Nat->Rat)(k p i:Nat):Rat:=det (k+1) (aB (λr c=>Y (if c<k then c else p) r) k (idQ i))
theorem g8 (M:Nat->Nat->Rat):det 1 M=M 0 0:=by
 show 0+1*M 0 0*1=M 0 0;grind
theorem Az (M:Nat->Nat->Rat):det 2 M=M 0 0*M 1 1-M 0 1*M 1 0:=by
 show 0+1*M 0 0*det 1 (minor M 0) + -1*M 1 0*det 1 (minor M 1)=_;rw[g8,g8];show 0+1*M 0 0*M 1 1 + -1*M 1 0*M 0 1=_;grind
section
variable {Y:Nat->Nat->Rat}{k p q:Nat}
theorem sZ:bm Y k p q=det k Y*Y p q+aA (λi=>bc Y k p i*Y i q) k:=by
 have e:bm Y k p q=det (k+1) (aB (λr c=>Y (if c<k then c else p) r) k λr=>aA (λc=>Y (if c<k then c else p) q*idQ c r) (k+1)):=by
   unfold bm;rw[<- cR];refine aF λi hi j hj=>?_
   unfold aB;by_cases z:i=k
   . subst z;rw[if_pos rfl,if_neg .(10)];exact(bJ (λc=>Y (if c<i then c else p) q) j (i+1) hj).symm
   . rw[if_neg z,if_pos (show i<k by omega)]
 have last:det (k+1) (aB (λr c=>Y (if c<k then c else p) r) k (idQ k))=det k Y:=by
   rw[ni 1 k _ λi h1 h2 j hj=>?_,g8]
   . have e1:aB (λr c=>Y (if c<k then c else p) r) k (idQ k) (k+0) (k+0)=1:=by
       unfold aB idQ;rw[if_pos (LH k),if_pos (LH k).symm]
     rw[e1,JE,<- cR];refine aF λi hi j hj=>?_
     unfold aB;rw[if_neg .(0)];dsimp only;rw[if_pos hi]
   . have:i=k:=by omega
     subst this;unfold aB idQ;rw[if_pos rfl,if_neg .(0)]
 rw[e,(cf (k+1)).sum _ (J4 k),aA,last,if_neg .(10),Rat.add_comm,JK (Y p q)];congr 1;exact ar λi hi=>by rw[if_pos hi,JK]; rfl
theorem uM (h:q<k):bm Y k p q=0:=by
 unfold bm;rw[<- cR];refine(cf (k+1)).same (p:=q) (q:=k) .(0) .(0) .(0) ?_;funext r;rw[if_pos h,if_neg .(10)]
noncomputable def rho (k m r:Nat):Nat:=if r<k then r else if r=k then k+m else if r<=k+m then r-1 else r
theorem oY :∀(m:Nat) (Y:Nat->Nat->Rat),k+m<n->(det n λr=>Y (rho k m r))=sgn m*det n Y
 | 0,Y,_=>by
   have:(λr=>Y (rho k 0 r))=Y:=by
     funext r;congr 1;unfold rho;split
     . rfl
     . split
       . omega
       . split <;> omega
   rw[this];show _=1*_;rw[IC]
 | m+1,Y,h=>by
   have ih:=oY (n:=n) m (aB (aB Y (k+m) (Y (k+m+1))) (k+m+1) (Y (k+m))) .(0);have s:=(cf n).nb Y (p:=k+m) .(0) (Y (k+m+1)) (Y (k+m));rw[bA,bA]at s;rw[s]at ih;rw[gD]
   have e:(λr=>aB (aB Y (k+m) (Y (k+m+1))) (k+m+1) (Y (k+m)) (rho k m r))=λr=>Y (rho k (m+1) r):=by
     funext r;by_cases z:rho k m r=k+m+1
     . rw[z,bS];congr 1;unfold rho at z ⊢;split at z
       . omega
       . split at z
         . omega
         . split at z
           . omega
           . rename_i a b c;rw[if_neg a,if_neg b,if_pos .(0)];omega
     . rw[bT z];by_cases y:rho k m r=k+m
       . rw[y,bS];congr 1;unfold rho at y z ⊢;split at y
         . omega
         . split at y
           . rename_i a b;rw[if_neg a,if_pos b];omega
           . split at y
             . omega
             . omega
       . rw[bT y];congr 1;unfold rho at y z ⊢;split at y
         . rename_i a;rw[if_pos a,if_pos a]
         . rename_i a;rw[if_neg a]at z;split at y
           . omega
           . rename_i b;rw[if_neg b]at z;rw[if_neg a,if_neg b,if_neg a,if_neg b];split at y
             . rename_i c;rw[if_pos c,if_pos .(0)]
             . rename_i c;rw[if_neg c]at z;rw[if_neg c,if_neg .(0)]
   rw[e]at ih;rw[ih];grind
end
def ZB (b:Nat)(x:Rat):Prop:=∃z:Int,x=(z:Rat)/\z.natAbs<=2^b
theorem ZB.mono (h:ZB b x)(hc:b<=c):ZB c x:=by
 obtain⟨z,e,l⟩:=h;exact⟨z,e,HJ l (HS .(2) hc)⟩
theorem ZB.mul (h:ZB b x)(g:ZB c y):ZB (b+c) (x*y):=by
 obtain⟨u,rfl,l⟩:=h;obtain⟨v,rfl,k⟩:=g;exact⟨u*v,(HW u v).symm,by rw[Jd,Jz]; exact IV l k⟩
theorem ZB.sgn (i:Nat):ZB 0 (sgn i):=by
 show ZB 0 (if i%2=0 then 1 else -1);split
 . exact⟨1,rfl,by decide⟩
 . exact⟨-1,rfl,by decide⟩
theorem ZB.sum :∀{n:Nat},(∀i<n,ZB b (f i))->∃z:Int,aA f n=(z:Rat)/\z.natAbs<=n*2^b
 | 0,_=>⟨0,rfl,HL _⟩
 | n+1,h=>by
   obtain⟨u,e,l⟩:=ZB.sum λi hi=>h i (Ko hi)
   obtain⟨v,e',l'⟩:=h n (J4 n);refine⟨u+v,by rw[aA,e,e',Kg],?_⟩;rw[IS];exact HJ (Int.natAbs_add_le _ _) (Nat.add_le_add l l')
theorem Ab :∀{n:Nat} {M:Nat->Nat->Rat},n<=8->(∀i<n,∀j<n,ZB b (M i j))->ZB (n*(b+3)) (det n M)
 | 0,_,_,_=>⟨1,rfl,Nat.one_le_two_pow⟩
 | n+1,M,hn,h=>by
   obtain⟨z,e,l⟩:=ZB.sum (b:=b+n*(b+3)) (f:=λi=>sgn i*M i 0*det n (minor M i)) (n:=n+1) λi hi=>by
     have:=((ZB.sgn i).mul (h i hi 0 .(0))).mul (Ab (n:=n) (M:=minor M i) .(0) λr hr c hc=>h _ (iR hr) _ .(0));exact this.mono .(0)
   refine⟨z,e,HJ l ?_⟩;rw[show (n+1)*(b+3)=3+(b+n*(b+3)) by rw[IS]; omega,Jz 2 3];exact HU _ .(0)
noncomputable def kr (s:Nat->Rat):Nat->Rat
 | 0=>1
 | n+1=>kr s n*s n
theorem nE (s:Nat->Rat)(M:Nat->Nat->Rat):∀t,t<=n->det n (λi j=>if i<t then s i*M i j else M i j)=kr s t*det n M
 | 0,_=>by
   rw[kr,IC];exact aF λi _ j _=>if_neg .(6)
 | t+1,h=>by
   have ih:=nE (n:=n) s M t .(0);have c:=(cf n).comb (λi j=>if i<t then s i*M i j else M i j) (p:=t) (k:=0) .(0) (HL _) (s t) (λ_=>0);rw[ih]at c;rw[kr,JK (kr s t),JC,<- c];refine aF λi _ j _=>?_
   unfold aB;by_cases q:i=t
   . subst q;rw[if_pos (J4 i),if_pos rfl];dsimp only;rw[if_neg (Kz i)];show _=_+0;rw[Ir]
   . rw[if_neg q];dsimp only;by_cases z:i<t
     . rw[if_pos .(0),if_pos z]
     . rw[if_neg .(0),if_neg z]
noncomputable def rS (k:Int)(j:Nat):Bool:=decide (Mj (k/2^j) 1=1)
noncomputable def lM (k:Int)(j:Nat):Int:=Mv k (1*2^j)
noncomputable def sgZ (b:Int):Int:=1-2*b.fmod 2
noncomputable def kU (row:List Int)(k v:Int)(j:Nat)(s:Int×List (Int×Int)):Int×List (Int×Int):=
 if rS k j then (s.1+1,s.2) else (s.1,gn s.2 (lM k j) ((bR s.2 (lM k j)).getD 0+sgZ s.1*row.getD j 0*v))
noncomputable def cD (n:Nat)(row:List Int)(k v:Int)(kv:List (Int×Int)):Nat->Int×List (Int×Int)
 | 0=>(0,kv)
 | c+1=>kU row k v (n-1-c) (cD n row k v kv c)
noncomputable def bG (n:Nat)(row:List Int)(kv:List (Int×Int)):Nat->List (Int×Int)
 | 0=>[]
 | t+1=>(cD n row (kv.getD t (0,0)).1 ((bR kv (kv.getD t (0,0)).1).getD 0) (bG n row kv t) n).2
theorem yV (m:Nat)(Y:Nat->Nat->Rat):det (m+1) Y=aA (λc=>sgn (m+c)*Y m c*det m λr q=>Y r (skp c q)) (m+1):=by
 have e1:=oY (k:=0) (n:=m+1) m Y .(0);have e2:=cR (m+1) λr=>Y (rho 0 m r)
 rw[det]at e2;have r0:rho 0 m 0=m:=by unfold rho; rw[if_neg .(0),if_pos rfl]; omega
 have rs:∀r,r<m->rho 0 m (r+1)=r:=λr hr=>by
   unfold rho;rw[if_neg .(0),if_neg .(0),if_pos .(0)];omega
 have e3:aA (λc=>sgn c*Y m c*det m λr q=>Y r (skp c q)) (m+1)=sgn m*det (m+1) Y:=by
   rw[<- e1,<- e2];refine ar λc _=>?_
   rw[r0,<- cR m];congr 1
   exact aF λr hr q hq=>by
     unfold minor;dsimp only;rw[rs q hq]
 have sm:∀c,sgn (m+c)=sgn m*sgn c:=λc=>by
   induction c with
   | zero=>rw[LH,show sgn 0=1 from rfl,JE]
   | succ c ih=>rw[<- JN,gD,ih,gD]; grind
 have:aA (λc=>sgn (m+c)*Y m c*det m λr q=>Y r (skp c q)) (m+1)=sgn m*aA (λc=>sgn c*Y m c*det m λr q=>Y r (skp c q)) (m+1):=by
   rw[a5];refine ar λc _=>?_
   rw[sm];grind
 rw[this,e3,<- JC,pB,IC]
noncomputable def eK (M:Nat->Nat->Rat)(L:List Nat):Rat:=det L.length λr c=>M r (L.getD c 0)
theorem lr (h:L.length=m+1):eK M L=aA (λc=>sgn (m-c)*M m (L.getD c 0)*eK M (L.eraseIdx c)) (m+1):=by
 unfold eK;rw[h,yV];refine ar λc hc=>?_
 have e1:sgn (m+c)=sgn (m-c):=by
   unfold sgn;by_cases z:(m+c)%2=0
   . rw[if_pos z,if_pos .(0)]
   . rw[if_neg z,if_neg .(0)]
 have e2:(L.eraseIdx c).length=m:=by rw[JA .(0)]; omega
 rw[e1,e2];refine congrArg (λx=>sgn (m-c)*M m (L.getD c 0)*x) (aF λr _ q hq=>?_);rw[HF,HF,List.getElem?_eraseIdx];unfold skp;split <;> rfl
noncomputable def cols (n S:Nat):List Nat:=(ox n).filter λj=>S.testBit j
theorem rm :j∈cols n S↔j<n/\S.testBit j=true:=by
 unfold cols;rw[Jm,HN]
theorem zK (hj:j<n)(h:S.testBit j=false):cols n (S ||| 2^j)=(cols j S)++j::((ox (n-(j+1))).map (j+1+·)).filter (λk=>S.testBit k):=by
 unfold cols;obtain⟨d,rfl⟩:=Lh (show j+1<=n from hj);rw[List.range_add,Iz,Jc,Jc,show j+1+d-(j+1)=d by omega,Ij]
 have lo:(ox j).filter (λk=>(S ||| 2^j).testBit k)=(ox j).filter λk=>S.testBit k:=Kk λk hk=>by
   have:=HN.mp hk;rw[Kp,JF .(0),LR]
 have hi:((ox d).map (j+1+·)).filter (λk=>(S ||| 2^j).testBit k)=((ox d).map (j+1+·)).filter λk=>S.testBit k:=Kk λk hk=>by
   obtain⟨q,_,rfl⟩:=Hu.mp hk;rw[Kp,JF .(0),LR]
 rw[lo,hi,MJ (by rw[Kp,Ka,Md]),LA];rfl
noncomputable def above (n j S:Nat):List Nat:=((ox (n-(j+1))).map (j+1+·)).filter λk=>S.testBit k
theorem sO (hj:j<n)(h:S.testBit j=false):cols n S=cols j S++above n j S:=by
 unfold cols above;obtain⟨d,rfl⟩:=Lh (show j+1<=n from hj);rw[List.range_add,Iz,Jc,Jc,show j+1+d-(j+1)=d by omega,MK (by rw[h]; decide),LA,Io]
theorem lG (hj:j<n)(h:S.testBit j=false):(cols n (S ||| 2^j)).length=(cols n S).length+1/\(cols n (S ||| 2^j)).getD (cols j S).length 0=j/\(cols n (S ||| 2^j)).eraseIdx (cols j S).length=cols n S/\(cols n S).length-(cols j S).length=(above n j S).length/\(cols j S).length<=(cols n S).length:=by
 rw[zK hj h,sO hj h];refine⟨by simp only[vp,IA]; rfl,?_,?_,by rw[vp]; omega,by rw[vp]; omega⟩
 . rw[HF,Iu .(3),KW];rfl
 . rw[List.eraseIdx_append_of_length_le .(3),KW];rfl
theorem vL (n S:Nat):cols (n+1) S=if S.testBit n then cols n S++[n] else cols n S:=by
 unfold cols;rw[Iz,Jc];cases h:S.testBit n with
 | true=>rw[MJ h,LA,if_pos rfl]
 | false=>rw[MK (by rw[h]; decide),LA,Io,if_neg .(2)]
theorem pU (G:Nat->Nat->Rat)(S:Nat):∀n,aA (λc=>G c ((cols n S).getD c 0)) (cols n S).length=aA (λj=>if S.testBit j then G (cols j S).length j else 0) n
 | 0=>rfl
 | n+1=>by
   rw[vL,aA,<- pU G S n];cases h:S.testBit n with
   | true=>
     rw[if_pos rfl,if_pos rfl,vp,Ly,aA]
     have e1:(cols n S++[n]).getD (cols n S).length 0=n:=by
       rw[HF,Iu .(3),KW];rfl
     rw[e1];refine congrArg (·+G (cols n S).length n) (ar λc hc=>?_);rw[HF,Hv hc,<- HF]
   | false=>rw[if_neg .(2),if_neg .(2),Ir]
theorem jB (h:S.testBit j=true):(S ^^^ 2^j).testBit j=false/\(S ^^^ 2^j) ||| 2^j=S/\∀k,k≠j->(S ^^^ 2^j).testBit k=S.testBit k:=by
 have a:∀k,k≠j->(S ^^^ 2^j).testBit k=S.testBit k:=λk hk=>by rw[Nat.testBit_xor,JF (ID hk),Bool.xor_false]
 have b:(S ^^^ 2^j).testBit j=false:=by rw[Nat.testBit_xor,Ka,h]; rfl
 refine⟨b,Kw λk=>?_,a⟩;rw[Kp];by_cases z:k=j
 . subst z;rw[Ka,Md,h]
 . rw[a k z,JF (ID z),LR]
theorem vJ (h:(cols n S).length=m+1):eK M (cols n S)=aA (λj=>if S.testBit j then sgn (above n j S).length*M m j*eK M (cols n (S ^^^ 2^j)) else 0) n:=by
 rw[lr h,<- h,pU (λc j=>sgn (m-c)*M m j*eK M ((cols n S).eraseIdx c)) S n];refine ar λj hj=>?_
 cases hb:S.testBit j with
 | false=>rfl
 | true=>
   rw[if_pos rfl,if_pos rfl];obtain⟨b1,b2,b3⟩:=jB hb;obtain⟨c1,c2,c3,c4,c5⟩:=lG hj b1;rw[b2]at c1 c2 c3;have l1:cols j (S ^^^ 2^j)=cols j S:=Kk λk hk=>b3 k (by have:=HN.mp hk; omega)
   have l2:above n j (S ^^^ 2^j)=above n j S:=Kk λk hk=>by
     obtain⟨q,_,rfl⟩:=Hu.mp hk;exact b3 _ .(0)
   rw[l1]at c3 c4;rw[l2]at c4;rw[c3,<- c4,show (cols n (S ^^^ 2^j)).length=m by omega]
theorem BP (S j:Nat):rS (S:Int) j=S.testBit j:=by
 unfold rS;have e:(S:Int)/2^j=((S/2^j:Nat):Int):=by simp
 rw[e,PyProof.Rows.bitAnd_pp .(26) .(2),HC,Nat.testBit_eq_decide_div_mod_eq];have:(S/2^j) &&& (1:Int).toNat=S/2^j%2:=by show (S/2^j) &&& 1=_; rw[Nat.and_one_is_mod]
 rw[this];congr 1;rw[eq_iff_iff];omega
theorem Fn (S j:Nat):lM (S:Int) j=((S ||| 2^j:Nat):Int):=by
 unfold lM;have e:(1:Int)*2^j=((2^j:Nat):Int):=by simp
 rw[e];generalize 2^j=y;unfold Builtin.bitOr;have h1:¬(0<=Lr (S:Int)):=by unfold Builtin.bitNot; omega
 have h2:¬(0<=Lr (y:Int)):=by unfold Builtin.bitNot; omega
 rw[PyProof.Rows.bitAnd_nn h1 h2];have h3:∀x:Int,Lr (Lr x)=x:=λx=>by unfold Builtin.bitNot; omega
 rw[h3,h3,h3,HC,HC]
theorem G4 (k:Nat):((sgZ (k:Int):Int):Rat)=sgn k:=by
 unfold sgZ sgn;rw[JB _ .(2)];by_cases h:k%2=0
 . rw[if_pos h,show (k:Int)%2=0 by omega]; rfl
 . rw[if_neg h,show (k:Int)%2=1 by omega]; rfl
theorem oy (kv:List (Int×Int))(k v j:Int):bR (gn kv k v) j=if j=k then some v else bR kv j:=by
 have e:=xl (Ev.cN kv) (Kf k) (Kf j) (V.int v);rw[vA,js,js]at e;by_cases h:j=k
 . rw[if_pos (congrArg Kf h)]at e;rw[if_pos h];cases z:bR (gn kv k v) j with
   | none=>rw[z]at e; cases e
   | some x=>rw[z]at e; cases e; rfl
 . rw[if_neg (λz=>h (L6 z))]at e;rw[if_neg h];cases z:bR (gn kv k v) j <;> cases z':bR kv j <;> rw[z,z']at e <;> cases e <;> rfl
theorem rq (kv:List (Int×Int))(k v:Int):(gn kv k v).map (·.1)=if (kv.any λp=>decide (p.1=k))=true then kv.map (·.1) else kv.map (·.1)++[k]:=by
 unfold gn;split
 . rw[Ik];refine HZ λp _=>?_
   simp only[J6];split <;> rfl
 . rw[HB]; rfl
theorem Dv (h:(kv.map (·.1)).Nodup):((gn kv k v).map (·.1)).Nodup:=by
 rw[rq];split
 . exact h
 . rename_i z;rw[II];refine⟨h,by simp,λa ha b hb e=>z ?_⟩;obtain⟨p,hp,rfl⟩:=Hu.mp ha;rw[gV]at hb;exact J0.mpr ⟨p,hp,decide_eq_true (e.trans hb)⟩
theorem AV (h:x∈(gn kv k v).map (·.1)):x=k\/x∈kv.map (·.1):=by
 rw[rq]at h;split at h
 . exact .inr h
 . rcases x3.mp h with h | h
   . exact .inr h
   . exact .inl (gV.mp h)
theorem oZ:∀{kv:List (Int×Int)} {q:Int×Int},(kv.map (·.1)).Nodup->q∈kv->bR kv q.1=some q.2
 | p::t,q,h,hq=>by
   rw[Ii,IB]at h;unfold bR;by_cases z:p.1=q.1
   . rw[Ll (by simp[z])];rcases HA.mp hq with e | hq
     . rw[e]; rfl
     . exact absurd (Hu.mpr ⟨q,hq,z.symm⟩) h.1
   . rw[Lm (by simp[z])];rcases HA.mp hq with e | hq
     . exact absurd (by rw[e]) z
     . exact oZ h.2 hq
theorem yt:∀{kv:List (Int×Int)} {k v:Int},bR kv k=some v->(k,v)∈kv
 | p::t,k,v,h=>by
   unfold bR at h;by_cases z:p.1=k
   . rw[Ll (by simp[z])]at h;cases h
     rw[<- z];exact Ih ..
   . rw[Lm (by simp[z])]at h;exact Et _ (yt h)
noncomputable def gv (kv:List (Int×Int))(k:Int):Rat:=(((bR kv k).getD 0:Int):Rat)
theorem Ey (kv:List (Int×Int))(k j x:Int):gv (gn kv k ((bR kv k).getD 0+x)) j=gv kv j+if j=k then (x:Rat) else 0:=by
 unfold gv;rw[oy];by_cases h:j=k
 . rw[if_pos h,if_pos h,h,La,Kg]
 . rw[if_neg h,if_neg h,Ir]
theorem se (h:j+1<n):(above n j S).length=(if S.testBit (j+1) then 1 else 0)+(above n (j+1) S).length:=by
 unfold above;obtain⟨d,rfl⟩:=Lh (show j+2<=n from h);rw[show j+2+d-(j+1)=d+1 by omega,show j+2+d-(j+1+1)=d by omega,MS,Ii,Ik,Ks];have e:(ox d).map ((j+1+·)∘Nat.succ)=(ox d).map (j+1+1+·):=HZ λk _=>by simp only[J6]; omega
 rw[e,LH];split
 . rw[IA]; omega
 . omega
theorem tG :(above (n+1) n S).length=0:=by
 unfold above;rw[show n+1-(n+1)=0 by omega];rfl
theorem iF (g:Nat->Rat):∀n,aA g (n+1)=g 0+aA (λk=>g (k+1)) n
 | 0=>by simp only[aA,Ir,JU]
 | n+1=>by
   rw[aA,iF g n,aA,Rat.add_assoc]
theorem qe (f:Nat->Rat):∀n,aA (λt=>f (n-1-t)) n=aA f n
 | 0=>rfl
 | n+1=>by
   rw[iF,aA,Rat.add_comm,show n+1-1-0=n by omega,<- qe f n];refine congrArg (·+f n) (ar λk hk=>?_);rw[show n+1-1-(k+1)=n-1-k by omega]
noncomputable def sT (n S:Nat):Nat->Nat
 | 0=>0
 | c+1=>sT n S c+if S.testBit (n-1-c) then 1 else 0
theorem nV :∀c,c<n->sT n S c=(above n (n-1-c) S).length
 | 0,h=>by
   obtain⟨m,rfl⟩:=Nat.exists_eq_succ_of_ne_zero (show n≠0 by omega);rw[show m.succ-1-0=m by omega,tG];rfl
 | c+1,h=>by
   rw[sT,nV c .(0),se (n:=n) (j:=n-1-(c+1)) .(0),show n-1-(c+1)+1=n-1-c by omega];omega
noncomputable def evQ (n:Nat)(row:List Int)(S:Nat)(v:Rat)(T:Int)(j:Nat):Rat:=if S.testBit j then 0 else if T=((S ||| 2^j:Nat):Int) then sgn (above n j S).length*((row.getD j 0:Int):Rat)*v else 0
structure CI (n S:Nat)(row:List Int)(v:Int)(lk:List (Int×Int))(c:Nat)(r:Int×List (Int×Int)):Prop where
 cnt:r.1=(sT n S c:Nat)
 val:∀T,gv r.2 T=gv lk T+aA (λt=>evQ n row S v T (n-1-t)) c
 key:∀x∈r.2.map (·.1),x∈lk.map (·.1)\/∃j,j<n/\S.testBit j=false/\x=((S ||| 2^j:Nat):Int)
 nd:(r.2.map (·.1)).Nodup
 old:∀T,bR lk T≠none->bR r.2 T≠none
 new:∀t<c,S.testBit (n-1-t)=false->bR r.2 ((S ||| 2^(n-1-t):Nat):Int)≠none
theorem tT (hn:(lk.map (·.1)).Nodup):∀c,c<=n->CI n S row v lk c (cD n row (S:Int) v lk c)
 | 0,_=>⟨rfl,λT=>by rw[aA,Ir]; rfl,λx h=>.inl h,hn,λ_ h=>h,λt h=>by omega⟩
 | c+1,hc=>by
   obtain⟨h1,h2,h3,h4,h5,h6⟩:=tT (n:=n) (S:=S) (row:=row) (v:=v) hn c .(0);rw[cD,kU,BP,Fn];generalize cD n row (S:Int) v lk c=r at h1 h2 h3 h4 h5 h6 ⊢;cases hb:S.testBit (n-1-c) with
   | true=>
     rw[if_pos rfl];refine⟨by dsimp only; rw[h1,sT,hb,if_pos rfl]; omega,λT=>?_,h3,h4,h5,λt ht hf=>?_⟩
     . rw[aA,evQ,if_pos hb,Ir]; exact h2 T
     . rcases Jo t c with z | z
       . exact h6 t z hf
       . obtain rfl:t=c:=by omega
         rw[hb]at hf; cases hf
   | false=>
     rw[if_neg .(2)];refine⟨by dsimp only; rw[h1,sT,hb]; rfl,λT=>?_,λx hx=>?_,Dv h4,λT hT=>?_,λt ht hf=>?_⟩
     . dsimp only
       have e:evQ n row S v T (n-1-c)=if T=((S ||| 2^(n-1-c):Nat):Int) then sgn (sT n S c)*((row.getD (n-1-c) 0:Int):Rat)*v else 0:=by
         unfold evQ;rw[if_neg (by rw[hb]; decide),<- nV (n:=n) (S:=S) c .(0)]
       rw[Ey,h2,aA,<- Rat.add_assoc,e,h1,HW,HW,G4]
     . rcases AV hx with e | e
       . exact .inr ⟨n-1-c,by omega,hb,e⟩
       . exact h3 x e
     . dsimp only;rw[oy];split
       . exact nofun
       . exact h5 T hT
     . dsimp only;rw[oy];split
       . exact nofun
       . rename_i z;rcases Jo t c with y | y
         . exact h6 t y hf
         . obtain rfl:t=c:=by omega
           exact absurd rfl z
structure MI (n:Nat)(row:List Int)(Sf:Nat->Nat)(vf:Nat->Rat)(t:Nat)(r:List (Int×Int)):Prop where
 val:∀T,gv r T=aA (λs=>aA (evQ n row (Sf s) (vf s) T) n) t
 key:∀x∈r.map (·.1),∃s<t,∃j,j<n/\(Sf s).testBit j=false/\x=((Sf s ||| 2^j:Nat):Int)
 nd:(r.map (·.1)).Nodup
 new:∀s<t,∀j<n,(Sf s).testBit j=false->bR r ((Sf s ||| 2^j:Nat):Int)≠none
theorem qg (hS:∀s<kv.length,(kv.getD s (0,0)).1=(Sf s:Int)):∀t,t<=kv.length->MI n row Sf (λs=>gv kv (Sf s)) t (bG n row kv t)
 | 0,_=>⟨λT=>rfl,λx h=>by simp[bG]at h,by simp[bG],λs h=>by omega⟩
 | t+1,ht=>by
   obtain⟨h1,h2,h3,h4⟩:=qg (n:=n) (row:=row) hS t .(0);rw[bG,hS t .(0)];generalize bG n row kv t=r at h1 h2 h3 h4 ⊢;obtain⟨_,c2,c3,c4,c5,c6⟩:=tT (n:=n) (S:=Sf t) (row:=row) (v:=(bR kv (Sf t:Int)).getD 0) h3 n .(3);refine⟨λT=>?_,λx hx=>?_,c4,λs hs j hj hf=>?_⟩
   . rw[c2,h1,aA,qe (evQ n row (Sf t) _ T)];rfl
   . rcases c3 x hx with e | ⟨j,e⟩
     . obtain⟨s,hs,e⟩:=h2 x e;exact⟨s,by omega,e⟩
     . exact⟨t,by omega,j,e⟩
   . rcases Jo s t with z | z
     . exact c5 _ (h4 s z j hj hf)
     . obtain rfl:s=t:=by omega
       have:=c6 (n-1-j) .(0);rw[show n-1-(n-1-j)=j by omega]at this;exact this hf
structure RI (n i:Nat)(M:Nat->Nat->Rat)(kv:List (Int×Int)):Prop where
 key:∀x∈kv.map (·.1),∃S:Nat,x=(S:Int)/\S<2^n/\(cols n S).length=i
 nd:(kv.map (·.1)).Nodup
 all:∀S:Nat,S<2^n->(cols n S).length=i->bR kv (S:Int)≠none/\gv kv (S:Int)=eK M (cols n S)
theorem xR (h:S.testBit j=false)(e:T=S ||| 2^j):T.testBit j=true/\S=T ^^^ 2^j:=by
 have h1:T.testBit j=true:=by rw[e,Kp,Ka,Md]
 refine⟨h1,Kw λk=>?_⟩;obtain⟨b1,_,b3⟩:=jB h1;by_cases z:k=j
 . subst z; rw[h,b1]
 . rw[b3 k z,e,Kp,JF (ID z),LR]
theorem RI.step (h:RI n i M kv)(hr:∀j<n,((row.getD j 0:Int):Rat)=M i j):RI n (i+1) M (bG n row kv kv.length):=by
 have hS:∀s<kv.length,(kv.getD s (0,0)).1=((kv.getD s (0,0)).1.toNat:Int)/\(kv.getD s (0,0)).1.toNat<2^n/\(cols n (kv.getD s (0,0)).1.toNat).length=i:=λs hs=>by
   have hm:kv.getD s (0,0)∈kv:=by rw[HF,ph hs]; exact Jt hs
   obtain⟨S,e1,e2,e3⟩:=h.key _ (Hu.mpr ⟨_,hm,rfl⟩);rw[e1,HC];exact⟨rfl,e2,e3⟩
 obtain⟨m1,m2,m3,m4⟩:=qg (n:=n) (row:=row) (kv:=kv) (Sf:=λs=>(kv.getD s (0,0)).1.toNat) (λs hs=>(hS s hs).1) kv.length .(3)
 have off:∀{T j:Nat},T<2^n->(cols n T).length=i+1->j<n->T.testBit j=true->T ^^^ 2^j<2^n/\(cols n (T ^^^ 2^j)).length=i/\∃s<kv.length,(kv.getD s (0,0)).1.toNat=T ^^^ 2^j:=λ{T j} hT hl hj hb=>by
   obtain⟨b1,b2,_⟩:=jB hb;have l1:T ^^^ 2^j<2^n:=Nat.xor_lt_two_pow hT (Kv .(2) hj);have l2:=(lG hj b1).1;rw[b2,hl]at l2;refine⟨l1,by omega,?_⟩;obtain⟨q,_⟩:=h.all _ l1 .(0);cases z:bR kv ((T ^^^ 2^j:Nat):Int) with
   | none=>exact absurd z q
   | some v=>
     obtain⟨s,hs⟩:=List.getElem?_of_mem (yt z);refine⟨s,(rp.mp hs).1,?_⟩;rw[HF,hs];show (((T ^^^ 2^j:Nat):Int)).toNat=_;rw[HC]
 refine⟨λx hx=>?_,m3,λT hT hl=>⟨?_,?_⟩⟩
 . obtain⟨s,hs,j,hj,hf,rfl⟩:=m2 x hx;obtain⟨_,e2,e3⟩:=hS s hs;exact⟨_,rfl,Nat.or_lt_two_pow e2 (Kv .(2) hj),by rw[(lG hj hf).1,e3]⟩
 . obtain⟨j,hj⟩:=List.exists_mem_of_length_pos (l:=cols n T) .(0);obtain⟨hj,hb⟩:=rm.mp hj;obtain⟨_,_,s,hs,e⟩:=off hT hl hj hb;obtain⟨b1,b2,_⟩:=jB hb;have:=m4 s hs j hj
   try dsimp only at this
   rw[e,b2]at this;exact this b1
 . rw[m1,fD (λs j=>evQ n row (kv.getD s (0,0)).1.toNat (gv kv ((kv.getD s (0,0)).1.toNat:Int)) (T:Int) j) n kv.length,vJ hl];refine ar λj hj=>?_
   cases hb:T.testBit j with
   | false=>
     rw[if_neg .(2)];refine bq λs hs=>?_
     unfold evQ;cases hf:(kv.getD s (0,0)).1.toNat.testBit j with
     | true=>rw[if_pos rfl]
     | false=>
       rw[if_neg .(2),if_neg λz=>?_];have:=(xR hf (Int.ofNat.inj z)).1;rw[hb]at this; cases this
   | true=>
     rw[if_pos rfl];obtain⟨l1,l2,s0,hs0,e0⟩:=off hT hl hj hb;obtain⟨b1,b2,b3⟩:=jB hb
     have ea:above n j (T ^^^ 2^j)=above n j T:=Kk λk hk=>by
       obtain⟨q,_,rfl⟩:=Hu.mp hk;exact b3 _ .(0)
     rw[<- (h.all _ l1 l2).2,<- hr j hj,<- ea,<- bJ (λ_=>sgn (above n j (T ^^^ 2^j)).length*((row.getD j 0:Int):Rat)*gv kv ((T ^^^ 2^j:Nat):Int)) s0 kv.length hs0];refine ar λs hs=>?_
     unfold evQ dq;by_cases z:s=s0
     . subst z;rw[e0,b1,b2,if_neg .(2),if_pos rfl,if_pos rfl,JE]
     . rw[if_neg z,Ie];cases hf:(kv.getD s (0,0)).1.toNat.testBit j with
       | true=>rw[if_pos rfl]
       | false=>
         rw[if_neg .(2),if_neg λy=>z ?_];have e1:=(xR hf (Int.ofNat.inj y)).2
         have e2:(kv.map (·.1))[s]?=(kv.map (·.1))[s0]?:=by
           have g:∀s<kv.length,(kv.map (·.1))[s]?=some (kv.getD s (0,0)).1:=λs hs=>by
             rw[HR,HF,ph hs]; rfl
           rw[g s hs,g s0 hs0,(hS s hs).1,(hS s0 hs0).1,e1,e0]
         exact(List.getElem?_inj (by rw[bp]; exact hs) h.nd).mp e2
theorem RI.zero (n:Nat)(M:Nat->Nat->Rat):RI n 0 M [(0,1)]:=by
 have c0:∀S:Nat,S<2^n->(cols n S).length=0->S=0:=λS hS h=>Kw λk=>by
   rw[Nat.zero_testBit];rcases Jo k n with z | z
   . cases hb:S.testBit k with
     | false=>rfl
     | true=>
       have:=rm.mpr ⟨z,hb⟩;rw[Ke.mp h]at this;cases this
   . exact Ln (HH hS (HS .(2) z))
 refine⟨λx hx=>⟨0,?_,IU n,?_⟩,by simp,λS hS h=>?_⟩
 . simpa using hx
 . unfold cols;rw[List.filter_eq_nil_iff.mpr λa _=>by rw[Nat.zero_testBit]; decide];rfl
 . obtain rfl:=c0 S hS h;refine⟨nofun,?_⟩;rw[eK,h];rfl
noncomputable def mi (M:Nat->Nat->Rat)(k:Nat)(ρ γ:Nat->Nat):Rat:=det k λr c=>M (ρ r) (γ c)
theorem x9 (h:∀i<k,ρ i=ρ' i)(h':∀i<k,γ i=γ' i):mi M k ρ γ=mi M k ρ' γ':=aF λi hi j hj=>by rw[h i hi,h' j hj]
theorem FL (M:Nat->Nat->Rat)(k:Nat)(ρ γ:Nat->Nat):mi (λi j=>M j i) k γ ρ=mi M k ρ γ:=cR k λr c=>M (ρ r) (γ c)
theorem qH (m:Nat)(Y:Nat->Nat->Rat)(h:k+m<n):(det n λr c=>Y r (rho k m c))=sgn m*det n Y:=by
 rw[<- cR n Y,<- oY (k:=k) m (λi j=>Y j i) h];exact(cR n λi j=>Y j (rho k m i))
theorem ue {d x y:Rat}(h:d≠0)(e:d*x=d*y):x=y:=by
 have:=congrArg (d⁻¹*·) e;simp only[<- JC,Rat.inv_mul_cancel d h,IC]at this;exact this
noncomputable def k2 (Y:Nat->Nat->Rat)(s x y:Nat):Rat:=det (s+2) λr c=>Y r (if c<s then c else if c=s then x else y)
theorem Cs (h:x=sgn s*y):y=sgn s*x:=by rw[h,<- JC,pB,IC]
def Inc (k:Nat)(γ:Nat->Nat):Prop:=∀i,i+1<k->γ i<γ (i+1)
theorem Inc.lt (h:Inc k γ):∀(d i:Nat),i+d+1<k->γ i<γ (i+d+1)
 | 0,i,hi=>h i hi
 | d+1,i,hi=>Jh (h.lt d i .(0)) (h (i+d+1) hi)
theorem Inc.mono (h:Inc k γ)(hij:i<j)(hj:j<k):γ i<γ j:=by
 have:=h.lt (j-i-1) i .(0)
 rwa [show i+(j-i-1)+1=j by omega]at this
theorem Inc.up (h:Inc (k+1) γ):Inc k λc=>γ (c+1):=λi hi=>h (i+1) .(0)
def Tnn (m n:Nat)(A:Nat->Nat->Rat):Prop:=∀(k:Nat) (ρ γ:Nat->Nat),Inc k ρ->(∀i,i<k->ρ i<m)->Inc k γ->(∀i,i<k->γ i<n)->0<=mi A k ρ γ
theorem Tnn.congr (h:Tnn m n A)(e:∀i,i<m->∀j,j<n->A i j=B i j):Tnn m n B:=λk ρ γ h1 h2 h3 h4=>by
 have:mi B k ρ γ=mi A k ρ γ:=aF λi hi j hj=>(e _ (h2 i hi) _ (h4 j hj)).symm
 rw[this];exact h k ρ γ h1 h2 h3 h4
theorem Tnn.tr (h:Tnn m n A):Tnn n m λi j=>A j i:=λk ρ γ h1 h2 h3 h4=>by
 rw[FL];exact h k γ ρ h3 h4 h1 h2
theorem Tnn.le (h:Tnn m n A)(hm:m'<=m)(hn:n'<=n):Tnn m' n' A:=λk ρ γ h1 h2 h3 h4=>h k ρ γ h1 (λi hi=>by have:=h2 i hi; omega) h3 λi hi=>by have:=h4 i hi; omega
theorem Inc.ne (h:Inc k γ)(hi:i<k)(hj:j<k)(ne:i≠j):γ i≠γ j:=by
 rcases Jo i j with z | z
 . have:=h.mono z hj; omega
 . have:=h.mono (show j<i by omega) hi; omega
theorem ic (hp:p<n)(hq:q<n)(hpq:p≠q)(e:∀r,M r p=M r q):det n M=0:=by
 rw[<- cR];exact(cf n).same hp hq hpq (funext e)
theorem Tnn.col (H:Tnn m n A)(ha:0<=a)(hb:0<=b)(ht:b=0\/(t<n/\(t=h+1\/h=t+1))):Tnn m n λi j=>if j=h then a*A i h+b*A i t else A i j:=λk ρ γ h1 h2 h3 h4=>by
 by_cases ex:∃c,c<k/\γ c=h
 . obtain⟨c0,hc,ec⟩:=ex
   have e1:mi (λi j=>if j=h then a*A i h+b*A i t else A i j) k ρ γ=det k (aO (λr c=>A (ρ r) (γ c)) c0 λr=>a*A (ρ r) h+b*A (ρ r) t):=aF λi hi j hj=>by
     show (if γ j=h then a*A (ρ i) h+b*A (ρ i) t else A (ρ i) (γ j))=if j=c0 then a*A (ρ i) h+b*A (ρ i) t else A (ρ i) (γ j);by_cases z:j=c0
     . rw[if_pos z,if_pos (by rw[z]; exact ec)]
     . rw[if_neg z,if_neg (by rw[<- ec]; exact h3.ne hj hc z)]
   rw[e1,jh _ hc a b]
   have e2:det k (aO (λr c=>A (ρ r) (γ c)) c0 λr=>A (ρ r) h)=mi A k ρ γ:=aF λi hi j hj=>by
     show (if j=c0 then A (ρ i) h else A (ρ i) (γ j))=A (ρ i) (γ j);split
     . rename_i z; rw[z,ec]
     . rfl
   rw[e2];have p1:=K2 ha (H k ρ γ h1 h2 h3 h4)
   have p2:0<=b*det k (aO (λr c=>A (ρ r) (γ c)) c0 λr=>A (ρ r) t):=by
     rcases ht with z | ⟨tn,nb⟩
     . rw[z,Iq]; exact Km
     refine K2 hb ?_;by_cases ex:∃c,c<k/\γ c=t
     . obtain⟨c1,hc1,ec1⟩:=ex;have ne:c0≠c1:=λz=>by rw[z,ec1]at ec; omega
       rw[ic hc hc1 ne λr=>?_]
       . exact Km
       . show (if c0=c0 then A (ρ r) t else A (ρ r) (γ c0))=if c1=c0 then A (ρ r) t else A (ρ r) (γ c1);rw[if_pos rfl,if_neg (ID ne),ec1]
     . have e3:det k (aO (λr c=>A (ρ r) (γ c)) c0 λr=>A (ρ r) t)=mi A k ρ λc=>if c=c0 then t else γ c:=aF λi hi j hj=>by
         show (if j=c0 then A (ρ i) t else A (ρ i) (γ j))=A (ρ i) (if j=c0 then t else γ j);by_cases z:j=c0
         . rw[if_pos z,if_pos z]
         . rw[if_neg z,if_neg z]
       rw[e3];have nt:∀c,c<k->γ c≠t:=λc hc z=>ex ⟨c,hc,z⟩
       refine H k ρ _ h1 h2 (λi hi=>?_) λi hi=>?_
       . have:=h3 i hi;have n1:=nt i .(0);have n2:=nt (i+1) .(0);show (if i=c0 then t else γ i)<if i+1=c0 then t else γ (i+1);by_cases z:i=c0
         . rw[if_pos z,if_neg .(0)];rw[z]at this n2 ⊢;omega
         . by_cases z':i+1=c0
           . rw[if_neg z,if_pos z'];rw[z']at this;omega
           . rw[if_neg z,if_neg z'];exact this
       . show (if i=c0 then t else γ i)<n;split
         . exact tn
         . exact h4 i hi
   exact Rat.add_nonneg p1 p2
 . have e1:mi (λi j=>if j=h then a*A i h+b*A i t else A i j) k ρ γ=mi A k ρ γ:=aF λi hi j hj=>if_neg λz=>ex ⟨j,hj,z⟩
   rw[e1];exact H k ρ γ h1 h2 h3 h4
theorem xj (hk:0<k)(h:∀c,c<k->M 0 c=0):det k M=0:=by
 rw[<- (cf k).yP M hk];refine aF λi hi j hj=>?_
 unfold aB;split
 . rename_i z; rw[z]; exact h j hj
 . rfl
theorem DY (m n:Nat):Tnn m n λi j=>if i=j then 1 else 0:=λk=>by
 induction k with
 | zero=>intro ρ γ _ _ _ _; show (0:Rat)<=1; decide
 | succ k ih=>
   intro ρ γ h1 h2 h3 h4;unfold mi;by_cases z:ρ 0=γ 0
   . have e:det (k+1) (λr c=>if ρ r=γ c then (1:Rat) else 0)=det k λr c=>if ρ (r+1)=γ (c+1) then 1 else 0:=by
       show aA _ (k+1)=_;rw[iF];rw[bq λi hi=>?_,Ir]
       . show sgn 0*(if ρ 0=γ 0 then 1 else 0)*det k (minor _ 0)=_;rw[if_pos z,show sgn 0=1 from rfl,IC,IC];rfl
       . show sgn (i+1)*(if ρ (i+1)=γ 0 then 1 else 0)*_=(0:Rat);have:=h1.mono (show 0<i+1 by omega) .(0);rw[if_neg .(0),Ie,Iq]
     rw[e];exact ih (λr=>ρ (r+1)) (λc=>γ (c+1)) (λi hi=>h1 (i+1) .(0)) (λi hi=>h2 (i+1) .(0)) (λi hi=>h3 (i+1) .(0)) λi hi=>h4 (i+1) .(0)
   . have e:det (k+1) (λr c=>if ρ r=γ c then (1:Rat) else 0)=0:=by
       have mono:∀{δ:Nat->Nat},Inc (k+1) δ->∀c,c<k+1->δ 0<=δ c:=λ{δ} hd c hc=>by
         rcases JD c with y | y
         . rw[y]; exact Ia _
         . have:=hd.mono y hc; omega
       rcases Jo (ρ 0) (γ 0) with y | y
       . exact xj .(0) λc hc=>if_neg (by have:=mono h3 c hc; omega)
       . show aA _ (k+1)=0;refine bq λi hi=>?_
         show sgn i*(if ρ i=γ 0 then 1 else 0)*_=(0:Rat);have:=mono h1 i hi;rw[if_neg .(0),Ie,Iq]
     rw[e];exact Km
noncomputable def l9:Int->List Int->List Int
 | _,[]=>[]
 | c,b::r=>c.fmod b::l9 (c.fdiv b) r
noncomputable def zM (c:Int)(bs:List Int):Int:=bs.foldl (λc b=>c.fdiv b) c
noncomputable def C5 (c:Int)(k:Nat)(b:Int):Int:=(((((c*48271+(k:Int)*k*69621+(k:Int)*16807+11).fmod 2147483647)*40692+c+31*(k:Int)).fmod 2147483399).fdiv 7).fmod b
noncomputable def A5 (c:Int)(bs:List Int):List Int:=(ox bs.length).map λk=>C5 c k (bs.getD k 0)
noncomputable def nums (c:Int)(bs:List Int):List Int:=if (10:Int)^(18:Int).toNat<=zO c then l9 c bs else A5 c bs
theorem nP:∀(bs:List Int) (c b:Int),l9 c (bs++[b])=l9 c bs++[(zM c bs).fmod b]
 | [],_,_=>rfl
 | a::bs,c,b=>by rw[IL,l9,l9,nP bs]; rfl
theorem mz:∀(bs:List Int) (c:Int),(l9 c bs).length=bs.length
 | [],_=>rfl
 | _::bs,c=>congrArg (·+1) (mz bs _)
theorem mC (c:Int)(bs:List Int):(nums c bs).length=bs.length:=by
 unfold nums;split
 . exact mz bs c
 . simp[A5]
theorem vt:∀(bs:List Int) (c:Int),(∀b∈bs,0<b)->∀(i:Nat),i<bs.length->0<=(l9 c bs).getD i 0/\(l9 c bs).getD i 0<bs.getD i 0
 | b::bs,c,h,0,_=>by
   have:=h b .(5);exact⟨Kl c this,K0 c this⟩
 | b::bs,c,h,i+1,hi=>by
   have:=vt bs (c.fdiv b) (λx hx=>h x (Et _ hx)) i (by simpa using hi);simpa[l9]using this
theorem AA (h:∀b∈bs,0<b)(hi:i<bs.length):0<=(nums c bs).getD i 0/\(nums c bs).getD i 0<bs.getD i 0:=by
 unfold nums;split
 . exact vt bs c h i hi
 . have hp:0<bs.getD i 0:=h _ (by simp[hi]);have e:(A5 c bs).getD i 0=C5 c i (bs.getD i 0):=by simp[A5,hi]
   rw[e];exact⟨Kl _ hp,K0 _ hp⟩
theorem take_snoc {α:Type}{xs:List α}(d:α)(h:i<xs.length):xs.take (i+1)=xs.take i++[xs.getD i d]:=by
 rw[List.take_add_one,ph h];simp[h]
theorem wA (h0:0<b)(h:b<2^60):0<b/\aL b:=⟨h0,mkD .(0) .(0)⟩
def c8 (ds:List D)(r:Sl):Prop:=∃(c:Int) (bs:List Int),ds=[.int c,.lst (bs.map .int)]/\bs.length<=10000/\(∀b∈bs,0<b/\aL b)/\r=.o ((nums c bs).map .int)
section
variable {P:FB}{w:World}{K:fw}{mg:Str->Option Value}{base:Heap}{k:Nat}{f:Addr}{fd:GE}{qual:Str}
theorem pF (F:Fun K "_law_numbers" qual (top 44) f fd)(hb:∀x∈aD,mg x=none):a8 P w K mg base CX0 (k+1) f fd ["_law_cell_here","_law_bases"] (spD K c8):=by
 refine fnD F jf hb (by rintro _ _ ⟨_,_,rfl,_⟩; rfl) ?_;rintro _ _ ⟨c,bs,rfl,hl,hbs,rfl⟩ cdv A outer s H E b;have nd:=jf.nd;have hp:∀i,i<bs.length->0<bs.getD i 0/\aL (bs.getD i 0):=λi hi=>hbs _ (by simp[hi])
 refine aN 2 nd (cM ag) ?_;refine dW (a9 (bh b .(110) rh) (aI af af (qL .(12))) CZ) (λh=>?_) λh=>?_
 . refine bP 3 (λi τ=>∃s3,τ=[.d (.int (zM c (bs.take i))),.d (.lst (bs.map .int)),.o ((l9 c (bs.take i)).map .int),s3,.un,.un]) b nd (bD (aa 1)) Fz ⟨_,rfl⟩ (λi hi τ h=>?_) λτ h=>?_
   . obtain⟨s3,rfl⟩:=h;have hi:i<bs.length:=by simpa using hi
     obtain⟨p1,p2⟩:=hp i hi;refine nY 2 (aI (aa 0) (aa 3) (bW .(0))) ?_ ?_
     . rw[bp,mz,IG]; omega
     refine aN 0 nd (aI (aa 0) (aa 3) (di p2)) (aV ?_);apply ex1;show [Sl.d (.int ((zM c (bs.take i)).fdiv (bs.getD i 0))),_,Sl.o _,_,_,_]=_;rw[take_snoc 0 hi,nP,HB];unfold zM;rw[JH];rfl
   . obtain⟨s3,rfl⟩:=h;refine px 2 ?_;rw[bp,HP .(3)];unfold nums;rw[if_pos (of_decide_eq_true h)]
 . refine Ep 4 3 (λi τ=>∃s3 s4 s5,τ=[.d (.int c),.d (.lst (bs.map .int)),.o (((ox i).map λk=>C5 c k (bs.getD k 0)).map .int),s3,s4,s5]) b nd (EY b (aa 1)) F4 ⟨_,_,_,rfl⟩ (λi hi τ h=>?_) λτ h=>?_
   . obtain⟨s3,s4,s5,rfl⟩:=h;have hi:i<bs.length:=by rw[jb,bp]at hi; exact hi
     obtain⟨p1,p2⟩:=hp i hi;refine aN 5 nd (aI (aI (aI (aI (aI (aa 0) af (bK (mkR .(2)))) (aI (aI (aa 4) (aa 4) (bK (mkL .(0)))) af (bK (mkR .(2)))) ck) (aI (aa 4) af (bK (mkR .(2)))) ck) af ck) af (bW .(2))) ?_;refine nY 2 (aI (aI (aI (aI (aI (aI (aa 5) af (bK (mkR .(2)))) (aa 0) ck) (aI af (aa 4) (bK (mkL .(2)))) ck) af (bW .(2))) af (di (mkD .(2) .(2)))) (aa 3) (bW .(0))) ?_ (aV ?_)
     . rw[bp,bp,Iw]; omega
     apply ex3;rw[Iz,HB,HB];rfl
   . obtain⟨s3,s4,s5,rfl⟩:=h;refine px 2 ?_;rw[jb,bp];unfold nums;rw[if_neg (of_decide_eq_false h)];rfl
end
end K34
namespace Hy
open PySem PySem.Spec PyProof.Rows L2
open Ev (D Den av aH aL)
structure Pyl (P:FB)(base:Heap):Prop where
 seer:base.NoSeer
 tree:P.given.tree=none
theorem CK {X:Cx}{pins:List .(103)}{σ:L2.St}{s:Da}(y:Pyl X.prog X.base)(I:Inv X pins σ H s)(hst:X.stack=X.env::X.outer)(hg:X.env.scope.isGenerator=false)(hc:X.env.scope.isCoroutine=false):SeerAt .(100) X.A s.heap:=
 SeerAt.of (M:=model X.prog X.w) (y.seer.keeps I.bk) y.tree (I.ok.frames.trans (congrArg some hst)) hg hc I.ok.blt I.ok.glob
theorem cj {X:Cx}{k:Nat}{i j:Int}(y:Pyl X.prog X.base)(b:Bk X k)(hk:33<=k)(h:j≠0)(hst:X.stack=X.env::X.outer:=by rfl)(hg:X.env.scope.isGenerator=false:=by rfl)(hc:X.env.scope.isCoroutine=false:=by rfl):
   cF X (KB .FloorDiv) (.int i) (.int j) (.int (i.fdiv j)):=
 ⟨rI (λ_ j=>j≠0) λi j=>.int (i.fdiv j),(λpins s σ H x z v u Q I rx ry h=>by
   obtain⟨i,j,rfl,rfl,hc',q⟩:=h;obtain⟨t,rfl⟩:=rx;obtain⟨t',rfl⟩:=ry;exact floordiv_int hc' ⟨.int (i.fdiv j),H,I.tok _,⟨_,rfl⟩,q⟩ (.inr (PylongRoom.of I.nolimit (by have:=b.room.dp; show X.A.depth+100<_; omega) (CK y I hst hg hc)))),my h λ_ _=>.int⟩
end Hy
namespace K34
open PySem PySem.Spec PyProof.Rows L2 Hy
open Ev (D Den av aH aL)
noncomputable def frD (q:Rat):D:=.tup [.int q.num,.int (q.den:Nat)]
theorem dH (x:Rat):x*(((x.den:Nat):Int):Rat)=(x.num:Rat):=by
 have h:mkRat x.num x.den=x:=by rw[<- Rat.normalize_eq_mkRat x.den_nz]; exact Rat.normalize_self x
 rw[Rat.mkRat_eq_div]at h;have hd:((x.den:Nat):Rat)≠0:=λz=>x.den_nz (MO.mp z)
 rw[Rat.intCast_natCast];conv=>lhs; lhs; rw[<- h]
 exact Jq hd
theorem bU {t b:Int}{x:Rat}(hb:0<b)(h:(t:Rat)=x*(b:Rat)):x.num=t/(IE t b:Int)/\((x.den:Nat):Int)=b/(IE t b:Int):=by
 have hb0:((b.toNat:Nat):Rat)≠0:=λz=>by have:=MO.mp z; omega
 have hbb:((b:Int):Rat)=((b.toNat:Nat):Rat):=by rw[<- Rat.intCast_natCast,J8 .(0)]
 have e:x=mkRat t b.toNat:=by
   rw[Rat.mkRat_eq_div,h,hbb,Rat.mul_div_cancel hb0]
 have g:b.toNat.gcd t.natAbs=IE t b:=by
   rw[IE,LG,show b.natAbs=b.toNat by omega]
 have nz:¬b.toNat=0:=by omega
 constructor
 . rw[e,Rat.num_mkRat,if_neg nz,g]
 . rw[e,Rat.den_mkRat,if_neg nz,g,Int.natCast_ediv,J8 .(0)]
theorem den_pos (q:Rat):0<((q.den:Nat):Int):=by have:=q.den_pos; omega
theorem yT {b:Int}(hb:0<b):(b:Rat)≠0:=λz=>by have:=Rat.intCast_eq_zero_iff.mp z; omega
def Bd (n:Nat)(i:Int):Prop:=i.natAbs<2^n
theorem Bd.mono (h:Bd m i)(hm:m<=n):Bd n i:=HH h (HS .(2) hm)
theorem Bd.log (h:Bd n i)(hn:0<n):i.natAbs.log2<n:=by
 rcases JD i.natAbs with z | z
 . rw[z]; exact hn
 . exact(KL .(0)).mpr h
theorem Bd.mul (h:Bd m i)(g:Bd n j):Bd (m+n) (i*j):=by
 unfold Bd at *
 rw[Jd,Jz];rcases JD j.natAbs with z | z
 . rw[z,Nat.mul_zero]; exact Nat.mul_pos (IU m) (IU n)
 . exact HH (Nat.mul_lt_mul_of_pos_right h z) (LO _ (Jp g))
theorem Bd.neg (h:Bd n i):Bd n (-i):=by unfold Bd at *; rwa [J2]
theorem Bd.aH {m n:Nat}{i j:Int}(h:Bd m i)(g:Bd n j)(hm:m<=1000000)(hn:n<=1000000):aH i j:=
 .inr (.inr ⟨(h.mono (Nat.le_succ_of_le hm)).log .(0) |> λz=>by
   rcases JD i.natAbs with q | q
   . rw[q]; decide
   . exact HH ((KL .(0)).mpr h) hm,by
   rcases JD j.natAbs with q | q
   . rw[q]; decide
   . exact HH ((KL .(0)).mpr g) hn⟩)
theorem Bd.aL {n:Nat}{j:Int}(h:Bd n j)(h0:j≠0)(hn:n<=9000):aL j:=⟨h0,HH ((KL .(0)).mpr h) hn⟩
theorem Bd.of_dvd (h:Bd n j)(hd:i∣j)(h0:j≠0):Bd n i:=HX (Nat.le_of_dvd .(0) (Int.natAbs_dvd_natAbs.mpr hd)) h
theorem Bd.ediv (h:Bd n i)(j:Int):Bd n (i/j):=HX (ME i j) h
theorem Bd.gcd (h:Bd n j)(h0:j≠0):Bd n (IE i j:Int):=h.of_dvd (Int.gcd_dvd_right ..) h0
theorem eY (h0:j≠0):(IE i j:Int)≠0:=λz=>h0 (by have:=Int.gcd_eq_zero_iff.mp (Int.ofNat_eq_zero.mp z); exact this.2)
theorem bb (t:Int):t.fdiv (IE i j:Int)=t/(IE i j:Int):=Ji _ .(26)
structure Sq (n:Nat)(q:Rat):Prop where
 num:Bd n q.num
 den:Bd n (q.den:Nat)
theorem Sq.mono (h:Sq m q)(hm:m<=n):Sq n q:=⟨h.num.mono hm,h.den.mono hm⟩
theorem Sq.bU {t b:Int}{x:Rat}(hb:0<b)(h:(t:Rat)=x*(b:Rat))(h1:Bd n t)(h2:Bd n b):Sq n x:=by
 obtain⟨e1,e2⟩:=K34.bU hb h;exact⟨by rw[e1]; exact h1.ediv _,by rw[e2]; exact h2.ediv _⟩
noncomputable def whl (x:D):Bool:=mT .int x&&!mT .bool x
def iH (ds:List D)(r:Sl):Prop:=∃x,ds=[x]/\r=.d (.bl (whl x))
def bg (ds:List D)(r:Sl):Prop:=∃a b:Int,ds=[.int a,.int b]/\r=.d (.int (IE a b:Int))
theorem jl (i:Int):zO i=(i.natAbs:Int):=by unfold zO; omega
noncomputable def wc:D->Bool
 | .tup [.int a,.int b]=>decide (1<=b)&&decide ((IE a b:Int)=1)
 | _=>false
theorem Bt (q:Rat):wc (frD q)=true:=by
 have h1:=den_pos q;have h2:IE q.num (q.den:Nat)=1:=q.reduced;show (decide ((1:Int)<=(q.den:Nat))&&decide ((IE q.num (q.den:Nat):Int)=1))=true;rw[h2,decide_eq_true (show (1:Int)<=(q.den:Nat) by omega)];rfl
theorem zh (h:xs.length≠2):wc (.tup xs)=false:=by
 unfold wc;split
 . rename_i e; cases e; exact absurd rfl h
 . rfl
def fg (ds:List D)(r:Sl):Prop:=∃x,ds=[x]/\r=.d (.bl (wc x))
def cK (ds:List D)(r:Sl):Prop:=∃(t b:Int) (q:Rat),ds=[.int t,.int b]/\b≠0/\Bd 900000 b/\(t:Rat)=q*(b:Rat)/\r=.d (frD q)
def cx (ds:List D)(r:Sl):Prop:=∃xs,ds=[.lst xs]/\r=.d (.bl (decide ((1:Int)<=(xs.length:Nat))&&decide (((xs.length:Nat):Int)<=7)))
section
variable {P:FB}{w:World}{K:fw}{mg:Str->Option Value}{base:Heap}{k:Nat}{f:Addr}{fd:GE}{qual:Str}
theorem pX (F:Fun K "is_whole" qual (top 7) f fd)(hb:∀x∈aD,mg x=none):a8 P w K mg base CX0 (k+1) f fd ["thing"] (spD K iH):=by
 refine fnD F qN hb (by rintro _ _ ⟨_,rfl,_⟩; rfl) ?_;rintro _ _ ⟨x,rfl,rfl⟩ cdv A outer s H E b;exact aW (km (fE .int b (aa 0)) λh=>(mj (BG (fE .bool b (aa 0))))) rfl
theorem jw (F:Fun K "common_divisor" qual (top 9) f fd)(hb:∀x∈aD,mg x=none):a8 P w K mg base CX0 (k+1) f fd ["one","other"] (spD K bg):=by
 refine fnD F eo hb (by rintro _ _ ⟨_,_,rfl,_⟩; rfl) ?_;rintro _ _ ⟨x,y,rfl,rfl⟩ cdv A outer s H E b;have nd:=eo.nd;refine aN 2 nd (bh b .(110) rh) (aN 3 nd (bh b (ae (aa 1) ag) rh) ?_);rw[jl,jl];refine vn (λn t τ=>∃(g:Nat) (s4:Sl),Nat.gcd g n=IE x y/\t=(!decide ((n:Int)=0))/\τ=[.d (.int x),.d (.int y),.d (.int g),.d (.int n),s4]) b ⟨_,_,_,_,rfl,rfl,rfl⟩ (λn t τ h=>?_) (λn τ h=>?_) λn τ h=>?_
 . obtain⟨g,s4,_,rfl,rfl⟩:=h;exact a9 (aa 3) af vO
 . obtain⟨g,s4,hg,ht,rfl⟩:=h;have hl:n≠0:=λz=>by simp[z]at ht
   have e:(g:Int).fmod n=((g%n:Nat):Int):=by rw[JB _ .(0)]; rfl
   refine aN 4 nd (aI (aa 2) (aa 3) (bW .(0))) ?_;rw[e];refine aN 2 nd (aa 3) (aN 3 nd (aa 4) (aV ⟨g%n,_,Nat.mod_lt g (Nat.pos_of_ne_zero hl),n,_,?_,rfl,rfl⟩));rw[<- hg,LG n,<- Nat.gcd_rec,LG]
 . obtain⟨g,s4,hg,ht,rfl⟩:=h;have hl:n=0:=by simpa using ht
   refine aW (aa 2) ?_;rw[<- hg,hl,Nat.gcd_zero_right]
theorem lX (F:Fun K "is_fraction" qual (top 8) f fd)(hb:∀x∈aD,mg x=none)(c_is_whole:Cal P w K mg base k "is_whole" iH)(c_common_divisor:Cal P w K mg base k "common_divisor" bg):a8 P w K mg base CX0 (k+1) f fd ["thing"] (spD K fg):=by
 refine fnD F lC hb (by rintro _ _ ⟨_,rfl,_⟩; rfl) ?_;rintro _ _ ⟨x,rfl,rfl⟩ cdv A outer s H E b;by_cases ht:mT .tuple x=true
 . obtain⟨xs,rfl⟩:∃xs,x=.tup xs:=by cases x <;> first | exact⟨_,rfl⟩ | cases ht
   refine dW (PW.pt (iN (cO (c9 (fE .tuple b (aa 0)))) λh=>(jr (a9 (bh b .(110) fX) af vO)))) (λh=>?_) λh=>?_
   . refine aW DG ?_;have h:(!decide ((xs.length:Int)=2))=true:=h;have:xs.length≠2:=λz=>by rw[z]at h; cases h
     rw[zh this]
   . have h:(!decide ((xs.length:Int)=2))=false:=h;have h2:xs.length=2:=by simp at h; omega
     obtain⟨u,v,rfl⟩:∃u v,xs=[u,v]:=by
       match xs,h2 with
       | [u,v],_=>exact⟨u,v,rfl⟩
     refine dW (PW.pt (iN (cO (c9 (x_call b c_is_whole (ae (aM (aa 0) af (aQ (aG (i:=0) rfl))) ag) ⟨_,rfl,rfl⟩))) λh=>(jr (cO (c9 (x_call b c_is_whole (ae (aM (aa 0) af (aQ (aG (i:=1) rfl))) ag) ⟨_,rfl,rfl⟩)))))) (λh=>?_) λh=>?_
     . refine aW DG ?_;have:wc (.tup [u,v])=false:=by cases u <;> cases v <;> first | rfl | cases h
       rw[this]
     . obtain⟨i,j,rfl,rfl⟩:∃i j,u=.int i/\v=.int j:=by cases u <;> cases v <;> first | exact⟨_,_,rfl,rfl⟩ | cases h
       exact aW (km (iD (aM (aa 0) af (aQ (aG (i:=1) rfl))) af CZ) λh=>(mj (iD (x_call b c_common_divisor (ae (aM (aa 0) af (aQ (aG (i:=0) rfl))) (ae (aM (aa 0) af (aQ (aG (i:=1) rfl))) ag)) ⟨_,_,rfl,rfl⟩) af gB))) rfl
 . have e:mT .tuple x=false:=by simpa using ht
   have ef:wc x=false:=by cases x <;> first | rfl | cases e
   refine dW (PW.pt (iN (q:=true) (cO (c9 (fE .tuple b (aa 0)))) λh=>(by rw[e]at h; cases h))) (λh=>?_) λh=>?_
   . refine aW DG ?_;rw[ef]
   . rw[Md]at h; cases h
theorem iS (F:Fun K "in_lowest_terms" qual (top 10) f fd)(hb:∀x∈aD,mg x=none)(pyl:Pyl P base)(hk:33<=k)(c_common_divisor:Cal P w K mg base k "common_divisor" bg):a8 P w K mg base CX0 (k+1) f fd ["top","bottom"] (spD K cK):=by
 refine fnD F d8 hb (by rintro _ _ ⟨_,_,_,rfl,_⟩; rfl) ?_;rintro _ _ ⟨t,c,q,rfl,h0,h1,hq,rfl⟩ cdv A outer s H E b;have nd:=d8.nd;refine aN 2 nd (x_call b c_common_divisor (ae (aa 0) (ae (aa 1) ag)) ⟨_,_,rfl,rfl⟩) ?_;have g0:=eY (i:=t) h0;have gb:=h1.gcd (i:=t) h0;refine i8 (M:=λτ=>τ=[.d (.int t),.d (.int c),.d (.int (if c<0 then -(IE t c:Int) else (IE t c:Int)))]) (a9 (aa 1) af vV) (λh=>?_) (λh=>?_) λτ h=>?_
 . rw[if_pos (of_decide_eq_true h)];exact aN 2 nd (l4 (aa 2)) (aV rfl)
 . rw[if_neg (of_decide_eq_false h)];exact aV rfl
 subst h;have dv:(if c<0 then -(IE t c:Int) else (IE t c:Int))≠0:=by split <;> omega
 refine aW (bI (ae (aI (aa 0) (aa 2) (cj pyl b hk dv)) (ae (aI (aa 1) (aa 2) (cj pyl b hk dv)) ag))) ?_;by_cases hc:c<0
 . have hq':((-t:Int):Rat)=q*((-c:Int):Rat):=by rw[Jy,Jy,hq,Rat.mul_neg]
   obtain⟨e1,e2⟩:=bU .(0) hq';rw[Int.neg_gcd,Int.gcd_neg]at e1 e2;rw[if_pos hc,frD,e1,e2,<- bb (-t),<- bb (-c),<- Int.neg_fdiv_neg (-t),<- Int.neg_fdiv_neg (-c),Int.neg_neg,Int.neg_neg]
 . obtain⟨e1,e2⟩:=bU .(0) hq;rw[if_neg hc,frD,e1,e2,bb,bb]
theorem j3 (F:Fun K "is_short_list" qual (top 17) f fd)(hb:∀x∈aD,mg x=none)(y_MOST:∃t,mg "MOST" = some (.int 7 t)):a8 P w K mg base CX0 (k+1) f fd ["thing"] (spD K cx):=by
 refine fnD F j6 hb (by rintro _ _ ⟨_,rfl,_⟩; rfl) ?_;rintro _ _ ⟨xs,rfl,rfl⟩ cdv A outer s H E b;exact aW (km (fE .list b (aa 0)) λh=>(mj (ud af (bh b .(110) gy) (Ce y_MOST) Eu Eu).1)) rfl
end
noncomputable def rwQ (r:List Rat):D:=.lst (r.map frD)
noncomputable def tbQ (M:List .(123)):D:=.lst (M.map rwQ)
structure Tq (R C:Nat)(M:List .(123)):Prop where
 r1:1<=R
 r7:R<=7
 c1:1<=C
 c7:C<=7
 len:M.length=R
 row:∀r∈M,r.length=C
theorem dn {α:Type}{f:α->D}{xs:List α}(d:α):∀i (h:i<(xs.map f).length),(xs.map f)[i]=f (xs.getD i d):=λi h=>by
 have:i<xs.length:=by simpa using h
 simp[this]
theorem gx {α:Type}{f:α->D}{xs:List α}(d:α)(h:i<xs.length):atI (xs.map f) (i:Int)=some (f (xs.getD i d)):=aG (by simp[h])
theorem bH {α:Type}{xs:List α}{d:α}(h:i<xs.length):xs.getD i d∈xs:=by simp[h]
theorem Tq.at_ (h:Tq R C M)(hi:i<R):.(108).length=C:=h.row _ (bH (by rw[h.len]; exact hi))
theorem yR (n:Nat)(f:Nat->Bool)(h:∀i,i<n->f i=true):((ox n).map f).all id=true:=by
 rw[List.all_map,IM];intro i hi;exact h i (HN.mp hi)
structure Qs (d v:Nat)(q:Rat):Prop where
 den:Bd d (q.den:Nat)
 val:q.num.natAbs<=2^v*q.den
theorem m6 {xs:List D}(h:xs.length=n):gw X (.builtin "len") [.lst xs] (.d (.int n)):=h▸gy
theorem gX {α:Type}(f:α->D)(xs:List α)(d:α)(h:m=xs.length):(ox m).map (λi=>f (xs.getD i d))=xs.map f:=by
 subst h;refine IX .(4) λi h1 h2=>?_
 have:i<xs.length:=by simpa using h2
 simp[this]
def lJ (ds:List D)(r:Sl):Prop:=∃q:List Rat,ds=[rwQ q]/\1<=q.length/\q.length<=7/\r=.d (.bl true)
def iP (ds:List D)(r:Sl):Prop:=∃(R C:Nat) (M:List .(123)),ds=[tbQ M]/\Tq R C M/\r=.d (.bl true)
def fS (ds:List D)(r:Sl):Prop:=∃(R C:Nat) (M:List .(123)),ds=[tbQ M]/\Tq R C M/\r=.d .non
section
variable {P:FB}{w:World}{K:fw}{mg:Str->Option Value}{base:Heap}{k:Nat}{f:Addr}{fd:GE}{qual:Str}
theorem wb (F:Fun K "is_row" qual (top 18) f fd)(hb:∀x∈aD,mg x=none)(c_is_short_list:Cal P w K mg base k "is_short_list" cx)(c_is_fraction:Cal P w K mg base k "is_fraction" fg):a8 P w K mg base CX0 (k+1) f fd ["thing"] (spD K lJ):=by
 refine fnD F vZ hb (by rintro _ _ ⟨_,rfl,_⟩; rfl) ?_;rintro _ _ ⟨q,rfl,h1,h7,rfl⟩ cdv A outer s H E b;refine aW (km (x_call b c_is_short_list .(110) ⟨_,rfl,rfl⟩) λh=>(mj (bh b (ae (bE (fR (cmp 0 (f:=λ_=>.bl true) b (bD (aa 0)) (dn (f:=frD) (xs:=q) 0) .(15) λi hi s0 H0 fp=>(x_call .(109) c_is_fraction .(110) ⟨_,rfl,by rw[Bt]⟩)))) ag) (pV b.calm ((ox (q.map frD).length).map λ_=>true) .(21))))) ?_;rw[bp,decide_eq_true .(0),decide_eq_true .(0),yR _ _ λ_ _=>rfl];rfl
theorem qb (F:Fun K "is_table" qual (top 19) f fd)(hb:∀x∈aD,mg x=none)(c_is_short_list:Cal P w K mg base k "is_short_list" cx)(c_is_row:Cal P w K mg base k "is_row" lJ):a8 P w K mg base CX0 (k+1) f fd ["thing"] (spD K iP):=by
 refine fnD F qA hb (by rintro _ _ ⟨_,_,_,rfl,_⟩; rfl) ?_;rintro _ _ ⟨R,C,M,rfl,t,rfl⟩ cdv A outer s H E b;have hl:(M.map rwQ).length=R:=by rw[bp,t.len]
 have r1:=t.r1;have r7:=t.r7;have c1:=t.c1;have c7:=t.c7;refine gk (PW.pt (iN (cO (c9 (x_call b c_is_short_list .(110) ⟨_,rfl,rfl⟩))) λh=>(jr (cO (c9 (bh b (ae (bE (fR (cmp 0 (f:=λ_=>.bl true) b (bD (aa 0)) (dn (f:=rwQ) (xs:=M) []) (by rw[hl]; omega) λi hi s0 H0 fp=>(x_call .(109) c_is_row .(110) ⟨_,rfl,?_,?_,rfl⟩)))) ag) (pV b.calm ((ox (M.map rwQ).length).map λ_=>true) .(21)))))))) ?_ ?_
 . rw[t.at_ (by rw[hl]at hi; exact hi)]; exact c1
 . rw[t.at_ (by rw[hl]at hi; exact hi)]; exact c7
 . rw[hl,decide_eq_true .(0),decide_eq_true .(0),yR _ _ λ_ _=>rfl]; rfl
 have e0:atI (M.map rwQ) 0=some (rwQ (M.getD 0 [])):=gx [] (i:=0) (by rw[t.len]; omega);refine aW (bh b (ae (bE (fR (cmp 0 (f:=λ_=>.bl (decide ((C:Int)=(C:Int)))) b (bD (aa 0)) (dn (f:=rwQ) (xs:=M) []) (by rw[hl]; omega) λi hi s0 H0 fp=>(iD (bh .(109) .(110) (m6 (n:=C) (by rw[bp]; exact t.at_ (by rw[hl]at hi; exact hi)))) (bh .(109) (ae (aM (aa 1) af (a6 e0)) ag) (m6 (n:=C) (by rw[bp]; exact t.at_ .(0)))) gB)))) ag) (pV b.calm ((ox (M.map rwQ).length).map λ_=>decide ((C:Int)=(C:Int))) .(21))) ?_;rw[yR _ _ λ_ _=>decide_eq_true rfl]
theorem mE (F:Fun K "look_table" qual (top 20) f fd)(hb:∀x∈aD,mg x=none)(c_is_table:Cal P w K mg base k "is_table" iP):a8 P w K mg base CX0 (k+1) f fd ["thing"] (spD K fS):=by
 refine fnD F mO hb (by rintro _ _ ⟨_,_,_,rfl,_⟩; rfl) ?_;rintro _ _ ⟨R,C,M,rfl,t,rfl⟩ cdv A outer s H E b;exact gk (cO (c9 (x_call b c_is_table .(110) ⟨R,C,M,rfl,t,rfl⟩))) rfl (aV rfl)
end
noncomputable def sg (x y:Rat):Int:=(IE (x.den:Nat) (y.den:Nat):Int)
noncomputable def stop (x y:Rat):Int:=x.num*(((y.den:Nat):Int)/sg x y)+y.num*(((x.den:Nat):Int)/sg x y)
noncomputable def sdiv (x y:Rat):Int:=(IE (stop x y) (sg x y):Int)
theorem Fq :(Rat.maybeNormalize t d g h1 h2 h3 h4).num=t/(g:Int)/\(Rat.maybeNormalize t d g h1 h2 h3 h4).den=d/g:=by
 unfold Rat.maybeNormalize;split
 . rename_i e;subst e;exact⟨(K1 _).symm,(Nat.div_one _).symm⟩
 . exact⟨rfl,rfl⟩
theorem FJ (x y:Rat):(x+y).num=stop x y/sdiv x y/\(((x+y).den:Nat):Int)=((x.den:Nat):Int)/sg x y*(((y.den:Nat):Int)/sdiv x y):=by
 have hg:sg x y=((x.den.gcd y.den:Nat):Int):=rfl;show (Rat.add x y).num=_/\(((Rat.add x y).den:Nat):Int)=_;unfold Rat.add;by_cases h:x.den.gcd y.den=1
 . simp only[dif_pos h];have e1:sg x y=1:=by rw[hg,h]; rfl
   have e2:sdiv x y=1:=by unfold sdiv; rw[e1,Int.gcd_one_right]; rfl
   unfold stop;rw[e2,e1,K1,K1,K1];exact⟨rfl,Int.natCast_mul _ _⟩
 . simp only[dif_neg h];have d:sdiv x y=(((stop x y).natAbs.gcd (x.den.gcd y.den):Nat):Int):=rfl;have dd:(stop x y).natAbs.gcd (x.den.gcd y.den)∣y.den:=Nat.dvd_trans (Nat.gcd_dvd_right _ _) (Nat.gcd_dvd_right _ _);refine⟨Fq.1,?_⟩;rw[Fq.2,d];show ((x.den/x.den.gcd y.den*y.den/(stop x y).natAbs.gcd (x.den.gcd y.den):Nat):Int)=((x.den/x.den.gcd y.den:Nat):Int)*((y.den/(stop x y).natAbs.gcd (x.den.gcd y.den):Nat):Int);rw[Nat.mul_div_assoc _ dd,Int.natCast_mul]
theorem Dc (x y:Rat):(x*y).num=x.num/(IE x.num (y.den:Nat):Int)*(y.num/(IE y.num (x.den:Nat):Int))/\(((x*y).den:Nat):Int)=((x.den:Nat):Int)/(IE y.num (x.den:Nat):Int)*(((y.den:Nat):Int)/(IE x.num (y.den:Nat):Int)):=by
 show (Rat.mul x y).num=_/\(((Rat.mul x y).den:Nat):Int)=_;unfold Rat.mul;exact⟨rfl,rfl⟩
theorem inv_mul (h0:q≠0):((((q.den:Nat):Int)):Rat)=q⁻¹*(q.num:Rat):=by
 rw[<- dH q,<- JC,Rat.inv_mul_cancel q h0,IC]
theorem Sq.inv (h:Sq n q)(h0:q≠0):Sq n q⁻¹:=by
 have hn:q.num≠0:=λz=>h0 (LB.mp z)
 have e:=inv_mul h0;rcases Int.lt_or_lt_of_ne hn with z | z
 . exact Sq.bU (t:=-((q.den:Nat):Int)) (b:=-q.num) .(0) (by rw[Jy,Jy,e,Rat.mul_neg]) h.den.neg h.num.neg
 . exact Sq.bU z e h.den h.num
theorem wR (p q:Rat):((p.num*((q.den:Nat):Int)+q.num*((p.den:Nat):Int):Int):Rat)=(p+q)*(((p.den:Nat):Int)*((q.den:Nat):Int):Int):=by
 rw[Kg,HW,HW,HW,<- dH p,<- dH q];grind
theorem Sq.neg (h:Sq n q):Sq n (-q):=⟨h.num.neg,h.den⟩
theorem D9 (q:Rat):frD (-q)=.tup [.int (-q.num),.int (q.den:Nat)]:=by
 unfold frD;rw[show (-q).num=-q.num from rfl,show (-q).den=q.den from rfl]
theorem qx (p q:Rat):((p.num*q.num:Int):Rat)=p*q*(((p.den:Nat):Int)*((q.den:Nat):Int):Int):=by
 rw[HW,HW,<- dH p,<- dH q];grind
theorem pH {a b:Int}(h:0<a)(g:0<b):0<a*b:=Mx h g
theorem Sq.mul (h:Sq m p)(g:Sq n q):Sq (m+n) (p*q):=Sq.bU (pH (den_pos p) (den_pos q)) (qx p q) (h.num.mul g.num) (h.den.mul g.den)
def lF (ds:List D)(r:Sl):Prop:=∃(m n:Nat) (p q:Rat),ds=[frD p,frD q]/\Sq m p/\Sq n q/\m+n<=900000/\r=.d (frD (p+q))
def jN (ds:List D)(r:Sl):Prop:=∃(m n:Nat) (p q:Rat),ds=[frD p,frD q]/\Sq m p/\Sq n q/\m+n<=900000/\r=.d (frD (p-q))
def dC (ds:List D)(r:Sl):Prop:=∃(m n:Nat) (p q:Rat),ds=[frD p,frD q]/\Sq m p/\Sq n q/\m+n<=900000/\r=.d (frD (p*q))
def fh (ds:List D)(r:Sl):Prop:=∃(m n:Nat) (p q:Rat),ds=[frD p,frD q]/\q≠0/\Sq m p/\Sq n q/\m+n<=900000/\r=.d (frD (p/q))
section
variable {P:FB}{w:World}{K:fw}{mg:Str->Option Value}{base:Heap}{k:Nat}{f:Addr}{fd:GE}{qual:Str}
theorem v5 (F:Fun K "sum_of" qual (top 11) f fd)(hb:∀x∈aD,mg x=none)(pyl:Pyl P base)(hk:33<=k)(c_common_divisor:Cal P w K mg base k "common_divisor" bg):a8 P w K mg base CX0 (k+1) f fd ["one","other"] (spD K lF):=by
 refine fnD F mW hb (by rintro _ _ ⟨_,_,_,_,rfl,_⟩; rfl) ?_;rintro _ _ ⟨m,n,p,q,rfl,h1,h2,hl,rfl⟩ cdv A outer s H E b;have nd:=mW.nd;have hq:=den_pos q;have hp:=den_pos p;have s0:sg p q≠0:=eY .(0);have sb:Bd n (sg p q):=h2.den.gcd .(0);have g0:sdiv p q≠0:=eY s0;have gb:Bd n (sdiv p q):=sb.gcd s0;have fd1:∀t:Int,t.fdiv (sg p q)=t/sg p q:=λt=>bb t
 have fd2:∀t:Int,t.fdiv (sdiv p q)=t/sdiv p q:=λt=>bb t
 refine aN 2 nd (x_call b c_common_divisor (ae (aM (aa 0) af (aQ (aG (i:=1) rfl))) (ae (aM (aa 1) af (aQ (aG (i:=1) rfl))) ag)) ⟨_,_,rfl,rfl⟩) ?_;show PSs _ _ (dS K [_,_,.d (.int (sg p q)),_,_] _);have e3:p.num*((q.den:Nat):Int).fdiv (sg p q)+q.num*((p.den:Nat):Int).fdiv (sg p q)=stop p q:=by rw[fd1,fd1]; rfl
 refine aN 3 nd (aI (aI (aM (aa 0) af (aQ (aG (i:=0) rfl))) (aI (aM (aa 1) af (aQ (aG (i:=1) rfl))) (aa 2) (cj pyl b hk s0)) (bK (by rw[fd1]; exact h1.num.aH (h2.den.ediv _) .(0) .(0)))) (aI (aM (aa 1) af (aQ (aG (i:=0) rfl))) (aI (aM (aa 0) af (aQ (aG (i:=1) rfl))) (aa 2) (cj pyl b hk s0)) (bK (by rw[fd1]; exact h2.num.aH (h1.den.ediv _) .(0) .(0)))) ck) ?_;rw[e3];refine aN 4 nd (x_call b c_common_divisor (ae (aa 3) (ae (aa 2) ag)) ⟨_,_,rfl,rfl⟩) ?_;show PSs _ _ (dS K [_,_,_,_,.d (.int (sdiv p q))] _);obtain⟨q1,q2⟩:=FJ p q;refine aW (bI (ae (aI (aa 3) (aa 4) (cj pyl b hk g0)) (ae (aI (aI (aM (aa 0) af (aQ (aG (i:=1) rfl))) (aa 2) (cj pyl b hk s0)) (aI (aM (aa 1) af (aQ (aG (i:=1) rfl))) (aa 4) (cj pyl b hk g0)) (bK (by rw[fd1,fd2]; exact(h1.den.ediv _).aH (h2.den.ediv _) .(0) .(0)))) ag))) ?_;rw[fd1,fd2,fd2,<- q1,<- q2];rfl
theorem sk (F:Fun K "rest_of" qual (top 12) f fd)(hb:∀x∈aD,mg x=none)(c_sum_of:Cal P w K mg base k "sum_of" lF):a8 P w K mg base CX0 (k+1) f fd ["one","other"] (spD K jN):=by
 refine fnD F rQ hb (by rintro _ _ ⟨_,_,_,_,rfl,_⟩; rfl) ?_;rintro _ _ ⟨m,n,p,q,rfl,h1,h2,hl,rfl⟩ cdv A outer s H E b;exact aW (x_call b c_sum_of (ae (aa 0) (ae (bI (ae (l4 (aM (aa 1) af (aQ (aG (i:=0) rfl)))) (ae (aM (aa 1) af (aQ (aG (i:=1) rfl))) ag))) ag)) ⟨m,n,p,-q,by rw[D9],h1,h2.neg,hl,by rw[Rat.sub_eq_add_neg]⟩) rfl
theorem mP (F:Fun K "product_of" qual (top 13) f fd)(hb:∀x∈aD,mg x=none)(pyl:Pyl P base)(hk:33<=k)(c_common_divisor:Cal P w K mg base k "common_divisor" bg):a8 P w K mg base CX0 (k+1) f fd ["one","other"] (spD K dC):=by
 refine fnD F iy hb (by rintro _ _ ⟨_,_,_,_,rfl,_⟩; rfl) ?_;rintro _ _ ⟨m,n,p,q,rfl,h1,h2,hl,rfl⟩ cdv A outer s H E b;have nd:=iy.nd;have hq:=den_pos q;have hp:=den_pos p;have n1:(IE p.num (q.den:Nat):Int)≠0:=eY .(0);have n2:(IE q.num (p.den:Nat):Int)≠0:=eY .(0);obtain⟨q1,q2⟩:=Dc p q;refine aN 2 nd (x_call b c_common_divisor (ae (aM (aa 0) af (aQ (aG (i:=0) rfl))) (ae (aM (aa 1) af (aQ (aG (i:=1) rfl))) ag)) ⟨_,_,rfl,rfl⟩) ?_;refine aN 3 nd (x_call b c_common_divisor (ae (aM (aa 1) af (aQ (aG (i:=0) rfl))) (ae (aM (aa 0) af (aQ (aG (i:=1) rfl))) ag)) ⟨_,_,rfl,rfl⟩) ?_;refine aW (bI (ae (aI (aI (aM (aa 0) af (aQ (aG (i:=0) rfl))) (aa 2) (cj pyl b hk n1)) (aI (aM (aa 1) af (aQ (aG (i:=0) rfl))) (aa 3) (cj pyl b hk n2)) (bK (by rw[bb,bb]; exact(h1.num.ediv _).aH (h2.num.ediv _) .(0) .(0)))) (ae (aI (aI (aM (aa 0) af (aQ (aG (i:=1) rfl))) (aa 3) (cj pyl b hk n2)) (aI (aM (aa 1) af (aQ (aG (i:=1) rfl))) (aa 2) (cj pyl b hk n1)) (bK (by rw[bb,bb]; exact(h1.den.ediv _).aH (h2.den.ediv _) .(0) .(0)))) ag))) ?_;rw[bb,bb,bb,bb,<- q1,<- q2];rfl
theorem lW (F:Fun K "quotient_of" qual (top 14) f fd)(hb:∀x∈aD,mg x=none)(c_product_of:Cal P w K mg base k "product_of" dC)(c_in_lowest_terms:Cal P w K mg base k "in_lowest_terms" cK):a8 P w K mg base CX0 (k+1) f fd ["one","other"] (spD K fh):=by
 refine fnD F mf hb (by rintro _ _ ⟨_,_,_,_,rfl,_⟩; rfl) ?_;rintro _ _ ⟨m,n,p,q,rfl,h0,h1,h2,hl,rfl⟩ cdv A outer s H E b;have hn:q.num≠0:=λz=>h0 (LB.mp z)
 refine gk (a9 (aM (aa 1) af (aQ (aG (i:=0) rfl))) af gB) (decide_eq_false hn) ?_;exact aW (x_call b c_product_of (ae (aa 0) (ae (x_call b c_in_lowest_terms (ae (aM (aa 1) af (aQ (aG (i:=1) rfl))) (ae (aM (aa 1) af (aQ (aG (i:=0) rfl))) ag)) ⟨_,_,q⁻¹,rfl,hn,h2.num.mono .(0),inv_mul h0,rfl⟩) ag)) ⟨m,n,p,q⁻¹,rfl,h1,h2.inv h0,hl,by rw[Rat.div_def]⟩) rfl
end
end K34
namespace Hy
open PySem PySem.Spec PyProof.Rows L2
open Ev (D Den av aq aY aR)
def Pj (σ:L2.St)(H:Hp)(i j k:Nat):Prop:=∃a vs v,(σ[i]?).join=some (.ref a)/\H a=some (.lst vs)/\vs[k]?=some v/\σ[j]?=some (some v)
theorem Pj.mono (h:Pj σ H i j k)(e:ao H H'):Pj σ H' i j k:=let ⟨a,vs,v,e1,e2,e3,e4⟩:=h; ⟨a,vs,v,e1,e _ _ e2,e3,e4⟩
def dPJ (K:fw)(τ:List Sl)(i j k:Nat)(pt:List Nat):TE:=λσ H Q=>∃A H₀ B,Sta K A H₀ τ B σ H/\Pj σ H i j k/\∀u v H',(σ[i]?).join=some u->ao H H'->cQ H' (k::pt) u v->Q v H'
def dEJ (K:fw)(τ:List Sl)(i j k:Nat)(x:D):TE:=λσ H Q=>∃A H₀ B,Sta K A H₀ τ B σ H/\Pj σ H i j k/\∀v H',ao H H'->Den K (hd H' A) v x->Q v H'
section
variable {X:Cx}{τ:List Sl}{x z:D}{a b e:Expr}{pos q:Pos}{l:Nat}{N:Po}{i j k:Nat}{t c:Nd}{pt:List Nat}{xs:List Nd}{m:Nat}
theorem oe {n:Str}(hN:X.N[j]?=some n:=by rfl)(hv:Vis X.env.scope n:=by first | exact JM rfl | exact IH .(9) | exact IH .(8))
   (hd:(n==("__debug__" : Str))=false:=by decide) (hcd:(n==("__classdict__" : Str))=false:=by decide):PE X (.Name n pos) (dPJ X.K τ i j k []):=
 peW (bo hN hv hd hcd) λ_ H _ ⟨_,_,_,_,⟨a,vs,v,e1,e2,e3,e4⟩,q⟩=>⟨v,e4,q _ v H e1 .(102) ⟨a,vs,v,rfl,.inl e2,e3,rfl⟩⟩
theorem BQ {z:Int}(ha:PE X a (dPJ X.K τ i j k pt))(hb:PE X b (dE X.K false τ (.d (.int z))))(hi:τ[i]?=some (.n t))(hp:dg (k::pt) t=some (.l xs))(hj:ixN xs.length z=some m)(hs:du b:=by exact λ_ _=>rfl):PE X (.Subscript a b pos) (dPJ X.K τ i j k (pt++[m])):=
 peW (uo kK ha hb hs) λσ H Q ⟨A,H₀,B,S,P,q⟩=>⟨A,H₀,B,S,P,λu v H1 eu e1 pv=>aU (S.mono e1) λw H2 e2 d2=>by
   cases d2
   obtain⟨u',v',m',eu',pv',ok,_⟩:=((S.mono e1).mono e2).at hi hp;rw[eu]at eu';cases eu'
   obtain rfl:=(pv.mono e2).det pv';cases ok with
   | @l ad vs _ _ hH r=>
     obtain⟨x,hx⟩:=uh r (ym hj);exact⟨ad,vs,z,x,rfl,rfl,SqL.of hH,by unfold atI; rw[r.length,hj]; exact hx,q u x H2 eu (e1.trans e2) (pv'.snoc (.inl hH) hx)⟩⟩
theorem Sta.below {K:fw}{A:Addr->Prop}{B:Nat->List Addr}{σ:L2.St}(S:Sta K A H₀ τ B σ H)(hi:τ[i]?=some (.n t))(hp:dg (k::pt) t=some (.l xs))(hr:(σ[i]?).join=some (.ref r))(hw:cQ H (k::pt) (.ref r) (.ref w)):w≠r:=by
 obtain⟨nd,u,e,ok⟩:=S.sl i _ hi;rw[hr]at e;cases e
 generalize B i=bi at nd ok
 have key:∀{vs:List V} {bs:List Addr} {ys:List Nd},aX K (hd H (own A B)) H vs bs ys->(ys[k]?).bind (dg pt)=some (.l xs)->(∃v,vs[k]?=some v/\cQ H pt v (.ref w))->w∈bs:=λ{vs bs ys} q e ⟨v,h1,h2⟩=>by
   cases ei:ys[k]? with
   | none=>rw[ei]at e; cases e
   | some c=>
     rw[ei]at e;obtain⟨v',l,m,r',g1,g2,g3,_⟩:=q.part ei;rw[h1]at g1;cases g1
     obtain⟨w',l',m',q',f1,f2,f3,_⟩:=g3.focus pt e;obtain rfl:=h2.det f1;cases f3 with
     | l hH r2=>
       rw[g2,f2];exact tf _ (HE _ (tf _ (HE _ .(5))))
 obtain⟨a,vs,v,e1,e2,e3,e4⟩:=hw;cases e1
 cases ok with
 | d h=>cases hp
 | @l _ vs' bs ys hH r0=>
   rw[dg]at hp;have:vs=vs':=by rcases e2 with e2 | e2 <;> rw[hH]at e2 <;> cases e2; rfl
   subst this;exact λz=>(IB.mp nd).1 (z▸key r0 hp ⟨v,e3,e4⟩)
 | @t _ vs' bs ys hH r0=>
   rw[dg]at hp;have:vs=vs':=by rcases e2 with e2 | e2 <;> rw[hH]at e2 <;> cases e2; rfl
   subst this;exact λz=>(IB.mp nd).1 (z▸key r0 hp ⟨v,e3,e4⟩)
theorem FK {ns ms:List Nd}(h:k<ns.length):(ms.take k++ns.drop k)[k]?=some ns[k]\/ms.length<k:=by
 by_cases hm:ms.length<k
 . exact .inr hm
 . refine .inl ?_;rw[Iu .(16)];simp[KJ (Nat.le_of_not_lt hm),h]
theorem Ah {ns ms:List Nd}(h:k<ns.length)(h':k<ms.length):(ms.take k++ns.drop k).set k ms[k]=ms.take (k+1)++ns.drop (k+1):=by
 have hm:(ms.take k).length=k:=by simp; omega
 rw[List.set_append_right _ _ .(0),hm,KW,KY h,List.set_cons_zero,List.take_add_one,ph h',Ij];rfl
end
def dSL (K:fw)(τ:List Sl)(i j k:Nat)(τe:List Sl):TS:=λD σ H=>∃A H₀ B,Sta K A H₀ τ B σ H/\Pj σ H i j k/\∀B' σ' H',Sta K A H₀ τe B' σ' H'->Pj σ' H' i j k->σ'[i]?=σ[i]?->D.nx σ' H'
section
variable {X:Cx}{τ τ1 τ2:List Sl}{x y z:D}{a e:Expr}{pos q:Pos}{l:Nat}{s:Sl}{N:Po}{st:Stmt}{body rest:List Stmt}{i j k:Nat}{m:Nat}
theorem Gm:PSs X [] (dSL X.K τ i j k τ):=gQ jm λ_ σ H ⟨_,_,B,S,P,fin⟩=>fin B σ H S P rfl
theorem Ee (h1:PS X st (dSL X.K τ i j k τ1))(h2:PSs X rest (dSL X.K τ1 i j k τ2)):PSs X (st::rest) (dSL X.K τ i j k τ2):=
 gQ (dJ h1 h2) λ_ _ _ ⟨A,H₀,B,S,P,fin⟩=>⟨A,H₀,B,S,P,λB' _ _ S' P' e=>⟨A,H₀,B',S',P',λB2 σ2 H2 S2 P2 e2=>fin B2 σ2 H2 S2 P2 (e2.trans e)⟩⟩
theorem Ht (r:Nat){x:D}(h:PSs X rest (dSL X.K (τ.set r .un) i j k τ2))(hr:τ[r]?=some (.d x):=by rfl):PSs X rest (dSL X.K τ i j k τ2):=
 gQ h λ_ _ _ ⟨A,H₀,_,S,P,fin⟩=>⟨A,H₀,_,S.less (bs:=[]) (s:=.un) (i:=r) (λ_ z=>nomatch z) (λ_ _ _=>rfl),P,fin⟩
theorem ej (h:PE X e (dE X.K false τ (.d x))):PE X e (dEJ X.K τ i j k x):=peW h λσ H Q ⟨A,H₀,B,S,_,q⟩=>aU S λv H' e d=>q v H' e d
theorem C4 (i j:Nat){n v:Str}{ip tp:Pos}(ns ms:List Nd)(hnm:ns.length=ms.length)(Bq:Bk X l)(hN:X.N.Nodup)(hi:τ[i]?=some (.n (.l ns)))
   (hb:∀k (h:k<ns.length) (h':k<ms.length) (r:List Nd),r[k]?=some ns[k]->PSs X body (dSL X.K (τ.set i (.n (.l r))) i j k (τ.set i (.n (.l (r.set k ms[k]))))))
   (hr:PSs X rest (dS X.K (τ.set i (.n (.l ms))) N)) (hj:τ[j]?=some .un:=by rfl) (hij:i≠j:=by decide) (hNi:X.N[i]?=some v:=by rfl) (hNj:X.N[j]?=some n:=by rfl)
   (hvi:Vis X.env.scope v:=by first | exact JM rfl | exact IH .(9) | exact IH .(8)) (hlj:Loc X.env.scope n:=by first | exact .inl rfl | exact .inr rfl)
   (hf:X.fn n=true\/X.env.scope.names.lookup n=some .local:=by first | exact .inl rfl | exact .inr rfl | assumption)
   (hd1:(v==("__debug__" : Str))=false:=by decide) (hd2:(v==("__classdict__" : Str))=false:=by decide)
   (hs:∀x,foldedSetIterable (.Name v ip) X.env x=pure x:=by intro _; rfl) :
   PSs X (.For (.Name n tp) (.Name v ip) body [] pos::rest) .(114):=by
 have hlen:i<τ.length:=(rp.mp hi).1
 let mx:Nat->List Nd:=λk=>ms.take k++ns.drop k
 have ml:∀k,k<=ns.length->(mx k).length=ns.length:=λk hk=>by simp[mx]; omega
 have tk:∀k,(τ.set i (.n (.l (mx k))))[i]?=some (.n (.l (mx k))):=λk=>Ic hlen
 have tj:∀k,(τ.set i (.n (.l (mx k))))[j]?=some .un:=λk=>by rw[HI hij]; exact hj
 have bd:PSs X body λD σ H=>∃kk,kk<ns.length/\dSL X.K (τ.set i (.n (.l (mx kk)))) i j kk (τ.set i (.n (.l (mx (kk+1))))) D σ H:=by
   rintro pins s σ H D I ⟨kk,hk,h⟩;have hk':kk<ms.length:=by omega
   have:=hb kk hk hk' (mx kk) ((FK (ms:=ms) hk).resolve_right .(0));rw[Ah hk hk']at this;exact this pins s σ H D I h
 have e0:mx 0=ns:=by simp[mx]
 have eE:mx ns.length=ms:=by simp[mx,hnm]
 refine bw (M:=(·=τ.set i (.n (.l (mx ns.length))))) (psW (si Bq.po (t9 Bq.calm (bo hNi hvi hd1 hd2)) (eP hN hNj hlj hf) bd hs) λD σ H ⟨A,H₀,B,S,Me⟩=>?_) λ_ e=>by rw[e,eE]; exact hr
 obtain⟨_,u,eu,ok⟩:=S.sl i _ hi;generalize B i=bi at ok;cases ok with
 | @l a vs bs0 _ hH r0=>
   refine⟨_,slot_of eu,a,rfl,⟨_,SqL.of hH⟩,λk m σ' H'=>m=ns.length-k/\k<=ns.length/\(σ'[i]?).join=some (.ref a)/\∃B',Sta X.K A H₀ (τ.set i (.n (.l (mx k)))) B' σ' H',⟨_,rfl,HL _,eu,B,by rw[e0,set_same hi]; exact S⟩,?_⟩;rintro k m σ' H' ⟨rfl,hk,ea,B',S'⟩;obtain⟨_,u',eu',ok'⟩:=S'.sl i _ (tk k);rw[ea]at eu';cases eu'
   generalize B' i=bi' at ok';cases ok' with
   | @l _ vs' bs1 _ hH' r1=>
     have hlv:vs'.length=ns.length:=by rw[r1.length,ml k hk]
     by_cases hlt:k<ns.length
     . refine .inr ⟨⟨vs',vs'[k],SqL.of hH',ph .(0)⟩,λσ2 H2=>(σ2[i]?).join=some (.ref a)/\∃B',Sta X.K A H₀ (τ.set i (.n (.l (mx (k+1))))) B' σ2 H2,λσ2 H2 ⟨z1,z2⟩=>⟨ns.length-(k+1),by omega,rfl,hlt,z1,z2⟩,λy H2 ⟨e1,e2⟩=>?_⟩;subst e1;have ey:=e2 vs' (SqL.of hH');have S2:=S'.set .(102) (i:=j) (v:=y) (s:=.un) (bs:=[]) (λ_ z=>nomatch z) rfl;rw[set_same (tj k)]at S2;have hjl:j<σ'.length:=by rw[S'.len,HV]; exact(rp.mp hj).1
       have ei:((σ'.set j (some y))[i]?).join=some (.ref a):=by rw[HI (ID hij)]; exact ea
       exact⟨k,hlt,A,H₀,_,S2,⟨a,vs',y,ei,hH',ey,Ic hjl⟩,λB3 σ3 H3 S3 _ e3=>⟨by rw[e3]; exact ei,B3,S3⟩⟩
     . obtain rfl:k=ns.length:=by omega
       exact .inl ⟨⟨vs',SqL.of hH',by omega⟩,Me.nx _ _ _ _ rfl S'⟩
end
section
variable {K:fw}{G H:Hp}
inductive Nd3 (K:fw)(G H:Hp):List V->List (List Addr)->List Nd->Prop where
 | nil:Nd3 K G H [] [] []
 | cons {v:V} {vs:List V} {b:List Addr} {bs:List (List Addr)} {c:Nd} {cs:List Nd} (h:cg K G H v b c) (r:Nd3 K G H vs bs cs):Nd3 K G H (v::vs) (b::bs) (c::cs)
theorem aX.three:∀{vs:List V} {bs:List Addr} {xs:List Nd},aX K G H vs bs xs->∃bss:List (List Addr),bss.flatten=bs/\Nd3 K G H vs bss xs
 | _,_,_,.nil=>⟨[],rfl,.nil⟩
 | _,_,_,.cons (b1:=b1) h r=>let ⟨bss,e,q⟩:=aX.three r; ⟨b1::bss,by rw[JI,e],.cons h q⟩
theorem Nd3.oks:∀{vs:List V} {bs:List (List Addr)} {xs:List Nd},Nd3 K G H vs bs xs->aX K G H vs bs.flatten xs
 | _,_,_,.nil=>.nil
 | _,_,_,.cons h r=>.cons h r.oks
theorem Nd3.len:∀{vs:List V} {bs:List (List Addr)} {xs:List Nd},Nd3 K G H vs bs xs->vs.length=xs.length/\bs.length=xs.length
 | _,_,_,.nil=>⟨rfl,rfl⟩
 | _,_,_,.cons _ r=>⟨congrArg (·+1) r.len.1,congrArg (·+1) r.len.2⟩
theorem Nd3.at:∀{vs:List V} {bs:List (List Addr)} {xs:List Nd} {a:Nat} (h1:a<vs.length) (h2:a<bs.length) (h3:a<xs.length),Nd3 K G H vs bs xs->cg K G H vs[a] bs[a] xs[a]
 | _,_,_,0,_,_,_,.cons h _=>h
 | _,_,_,a+1,h1,h2,h3,.cons _ r=>by simpa using Nd3.at (a:=a) (by simpa using h1) (by simpa using h2) (by simpa using h3) r
theorem Nd3.set (h:cg K G H v b c):∀{vs:List V} {bs:List (List Addr)} {xs:List Nd} (a:Nat),Nd3 K G H vs bs xs->Nd3 K G H (vs.set a v) (bs.set a b) (xs.set a c)
 | _,_,_,_,.nil=>.nil
 | _,_,_,0,.cons _ r=>.cons h r
 | _,_,_,a+1,.cons h1 r=>.cons h1 (Nd3.set h a r)
theorem aX.swap (h:aX K G H vs bs xs)(ea:vs[a]?=some va)(eb:vs[b]?=some vb)(fa:xs[a]?=some xa)(fb:xs[b]?=some xb):
   ∃bs',bs'.Perm bs/\aX K G H ((vs.set a vb).set b va) bs' ((xs.set a xb).set b xa):=by
 obtain⟨bss,rfl,q⟩:=h.three;obtain⟨l1,l2⟩:=q.len;obtain⟨a1,a2⟩:=rp.mp fa;obtain⟨b1,b2⟩:=rp.mp fb;obtain⟨c1,c2⟩:=rp.mp ea;obtain⟨d1,d2⟩:=rp.mp eb;have ka:=q.at c1 .(0) a1;have kb:=q.at d1 .(0) b1;rw[c2,a2]at ka;rw[d2,b2]at kb;exact⟨_,(List.set_set_perm (as:=bss) .(0) .(0)).flatten,((q.set kb a).set ka b).oks⟩
end
section
theorem vm :upd (upd H a o) a o'=upd H a o':=by
 funext b;unfold upd;split <;> rfl
end
section
variable {X:Cx}{τ:List Sl}{e2:Expr}{N:Po}{rest:List Stmt}{pos p tp:Pos}{x2:D}{t:Nd}
theorem CL (i:Nat){n:Str}{md}(h2:PE X e2 (dE X.K true τ (.d x2)))(h:N.rt (.n (.t [t,.d x2])))(hi:τ[i]?=some (.n t):=by rfl)(hN:X.N[i]?=some n:=by rfl)
   (hv:Vis X.env.scope n:=by first | exact JM rfl | exact IH .(9) | exact IH .(8)) (hd1:(n==("__debug__" : Str))=false:=by decide) (hcd:(n==("__classdict__" : Str))=false:=by decide)
   (s1:Do [.Name n p,e2] X.env=(false,eval .(106) X.env)::Do [e2] X.env:=by rfl) (s2:Do [e2] X.env=(false,eval e2 X.env)::Do [] X.env:=by rfl) :
   PSs X (.Return (some (.Tuple [.Name n p,e2] md tp)) pos::rest) .(114):=
 bw (M:=λ_=>False) (psW (lE (k7 (bj (bo (i:=i) hN hv hd1 hcd) (bj h2 cB s2) s1))) λD σ H ⟨A,H₀,B,S,Me⟩=>by
   obtain⟨_,u,eu,_⟩:=S.sl i _ hi;refine⟨_,slot_of eu,aU S λv2 H2 e2 d2=>⟨(show 2<=sizeLine by decide),λp hp=>?_⟩⟩;have S2:=S.mono e2;obtain⟨nd,u',eu',ok⟩:=S2.sl i _ hi;rw[eu]at eu';cases eu'
   have low:ao (hd H2 (own A B)) (hd H2 λb=>A b\/b∈B i):=aC .(102) λb z=>z.elim .inl λz=>.inr ⟨i,z⟩
   have nds:aX X.K (hd H2 λb=>A b\/b∈B i) H2 [u,v2] (B i) [t,.d x2]:=by
     have:=aX.cons (ok.frame low λ_ _=>rfl) (.cons (b1:=[]) (b2:=[]) (.d (d2.mono low)) .nil);rw[Io,Io]at this;exact this
   obtain⟨z1,z2⟩:=yX (o:=.tup [u,v2]) hp nds nd;refine Me.rt (.ref p) _ (p::B i) _ h (S2.same.trans (aq hp _)) (λb hb'=>?_) ⟨z2,_,rfl,.t aK z1⟩;rcases HA.mp hb' with w | w
   . subst w; exact⟨S2.same.free hp,_,aK⟩
   . obtain⟨o,w2⟩:=S2.bd i b w;exact⟨S2.fr i b w,o,aq hp _ _ _ w2⟩) λ_ e=>e.elim
end
end Hy
namespace L2
open PySem PySem.Spec PyProof.Rows
end L2
namespace Hy
open PySem PySem.Spec PyProof.Rows L2
open Ev (D Den av aq aY aR aT gu eF PTs dB fy)
end Hy
namespace Hy
open PySem PySem.Spec PyProof.Rows L2
open Ev (D Den av aq)
end Hy
namespace Hy
open PySem PySem.Spec PyProof.Rows L2
open Ev (D Den av dB fy)
end Hy
namespace Hy
open PySem PySem.Spec PyProof.Rows L2
open Ev (D Den av aq)
end Hy
namespace Lc
open PySem PySem.Spec PyProof.Rows L2
open PySem.AutoSeq1 (wpAny_loadPart')
open PySem.MeetsSeq PySem.MeetsSeq2 PySem.MeetsSeq3 PySem.SeqRoads2 PySem.SeqAt
open Ev (D Den av eqD cv toP)
def iZ (op:CmpOp)(A:GT)(s:Da)(y x:Value)(b:Bool):Prop:=
 ∀(prog:FB) (w:World) (E:Value->Da->Prop) (Q:Value->Da->Prop),Q (.bool b) s->wpAny .(107) A (richCompare op y x) Q E s
theorem AM (l b:Addr)(items items2:Array Value)(n n2:Nat)(dd dd2:Option Addr)(sl sl2:Array (Option Value))(j:Nat)(h1:j<items.size)(h2:j<items2.size)(c:Bool)(k:Nat):
   ∀i:Nat,j-i=k->i<=j->Meets (Builtin.«list.__eq__.loop» ⟨[.ref l,.ref b,Nc i,Nc 0],[]⟩)
     (λA R s=>s.heap.get? l=some { cls:=.type "list",dict:=dd,data:=.seq items n,slots:=sl }/\s.heap.get? b=some { cls:=.type "list",dict:=dd2,data:=.seq items2 n2,slots:=sl2 } /\
       (∀m (_:m<j) (z1:m<items.size) (z2:m<items2.size),EqAt A.in1 s items[m] items2[m] true)/\EqAt A.in1 s items[j] items2[j] false/\iZ .Lt A.in1 s items[j] items2[j] c /\
       R (.ok (.ret (.bool c))) s):=by
 induction k with
 | zero=>
   intro i hk hij prog w A R s h;obtain⟨hp,g,d,tk,os⟩:=s; obtain⟨hl,hb,he,hn,hc,h⟩:=h
   obtain rfl:i=j:=by omega
   wp_walk using M8 hl,M8 hb
   have hi1:items[((i:Nat):Int).toNat]?=some items[i]:=by simp[h1]
   have hi2:items2[((i:Nat):Int).toNat]?=some items2[i]:=by simp[h2]
   rw[hi1,hi2];refine AC (hn prog w _ _ ?_)
   wp_walk using M8 hl,M8 hb
   rw[hi1,hi2];refine AC (hc prog w _ _ ?_)
   wp_walk
   exact h
 | succ k ih=>
   intro i hk hij prog w A R s h;obtain⟨hp,g,d,tk,os⟩:=s; obtain⟨hl,hb,he,hn,hc,h⟩:=h
   wp_walk using M8 hl,M8 hb
   have hlt:i<items.size:=by omega
   have hlt2:i<items2.size:=by omega
   have hi1:items[((i:Nat):Int).toNat]?=some items[i]:=by simp[hlt]
   have hi2:items2[((i:Nat):Int).toNat]?=some items2[i]:=by simp[hlt2]
   have hcc:((i:Int)+1)=((i+1:Nat):Int):=by push_cast; rfl
   rw[hi1,hi2];refine AC (he i .(0) hlt hlt2 prog w _ _ ?_)
   wp_walk
   rw[hcc]
   exact⟨Nb plain_eq_loop _,N1 entry_eq_loop (by
     rw[Js plain_eq_loop _];exact ih (i+1) .(0) .(0) prog w A R _ ⟨hl,hb,he,hn,hc,h⟩)⟩
theorem zY (l b:Addr)(items items2:Array Value)(n n2:Nat)(dd dd2:Option Addr)(sl sl2:Array (Option Value))(j:Nat)(h1:j<items.size)(h2:j<items2.size)(c:Bool):
   Meets (Builtin.«list.__lt__» ⟨[.ref l,.ref b],[]⟩)
     (λA R s=>s.heap.get? l=some { cls:=.type "list",dict:=dd,data:=.seq items n,slots:=sl }/\s.heap.get? b=some { cls:=.type "list",dict:=dd2,data:=.seq items2 n2,slots:=sl2 } /\
       (∀m (_:m<j) (z1:m<items.size) (z2:m<items2.size),EqAt A.in1 s items[m] items2[m] true)/\EqAt A.in1 s items[j] items2[j] false/\iZ .Lt A.in1 s items[j] items2[j] c /\
       R (.ok (.ret (.bool c))) s):=by
 intro prog w A R s h;obtain⟨hp,g,d,tk,os⟩:=s; obtain⟨hl,hb,he,hn,hc,h⟩:=h
 have f3:=AutoSeq1.sub_list_list
 wp_walk using M8 hl,M8 hb
 exact⟨Nb plain_eq_loop _,N1 entry_eq_loop (by
   rw[Js plain_eq_loop _];exact AM l b items items2 n n2 dd dd2 sl sl2 j h1 h2 c _ 0 rfl (HL _) prog w A R _ ⟨hl,hb,he,hn,hc,h⟩)⟩
theorem iZ.lt (hl:s.heap.IsList l items)(hb:s.heap.IsList b items2)(hu:A.units<cLine)(h1:j<items.size)(h2:j<items2.size)
   (he:∀m (_:m<j) (z1:m<items.size) (z2:m<items2.size),EqAt A.in1 s items[m] items2[m] true) (hn:EqAt A.in1 s items[j] items2[j] false) (hc:iZ .Lt A.in1 s items[j] items2[j] c):iZ .Lt A s (.ref l) (.ref b) c:=λprog w E Q h=>by
 obtain⟨⟨cls,dd,data,sl⟩,ho,hc1,n,hd⟩:=id hl;obtain⟨⟨cls2,dd2,data2,sl2⟩,ho2,hc2,n2,hd2⟩:=id hb;simp only at hc1 hd hc2 hd2;subst hc1 hd hc2 hd2
 exact richCompare_meets_room (op:=.Lt) ⟨_,ho,rfl⟩ ⟨_,ho2,rfl⟩ F.slot_list_lt F.entry_list_lt (F.args_list_lt_2 _ _) (zY l b items items2 n n2 dd dd2 sl sl2 j h1 h2 c)
   ⟨ho,ho2,he,hn,hc,show Jj c≠Value.notImplemented/\Q (.bool c) s from⟨(λx=>nomatch x),h⟩⟩ hu
section
variable {X:Cx}{pins:List .(103)}{σ:L2.St}{H G:Hp}{s:Da}
open Ev (cln bQ dep b5 cG ig jv kO)
theorem jD:∀{xs:List D} {j:Nat} {x:D},bQ xs=true->xs[j]?=some x->cln x=true/\dep x<=b5 xs
 | y::ys,0,x,h,e=>by
   cases e
   rw[bQ,Iy]at h;rw[b5];exact⟨h.1,Nat.le_max_left _ _⟩
 | y::ys,j+1,x,h,e=>by
   rw[bQ,Iy]at h;obtain⟨h1,h2⟩:=jD (xs:=ys) h.2 e;rw[b5];exact⟨h1,HJ h2 (Nat.le_max_right _ _)⟩
theorem fL {K:fw}:∀{vs:List V} {xs:List D} {us:List Value},av K G vs xs->Vals vs us->∀{j:Nat} {x:D},xs[j]?=some x->∃v u,us[j]?=some u/\Den K G v x/\RelV v u
 | _,_,_,.cons d r,.cons q qs,0,x,e=>by cases e; exact⟨_,_,rfl,d,q⟩
 | _,_,_,.cons d r,.cons q qs,j+1,x,e=>fL r qs (j:=j) e
 | _,_,_,.nil,.nil,_,_,e=>by cases e
theorem lP (I:Inv X pins σ H s)(e:ao G H)(d:Den X.K G v x)(r:RelV v u)(d':Den X.K G v' y)(r':RelV v' u')(c1:cln x=true)(c2:cln y=true)(hu:A.units+dep x<cLine):EqAt A s u u' (eqD x y):=by
 obtain⟨as,z1⟩:=cG I e d r c1;obtain⟨bs,z2⟩:=cG I e d' r' c2;rw[<- ig];refine eqAt_reads _ _ A s u u' as bs z1 z2 (by rw[jv]; exact c1) (by rw[jv]; exact c2) ?_;rw[kO];exact HX (LP (Nat.min_le_left _ _) _) hu
end
end Lc
namespace Hy
open PySem PySem.Spec PyProof.Rows L2
open Ev (D Den av cv)
end Hy
namespace Hy
open PySem PySem.Spec PyProof.Rows L2
open Ev (D Den av aq aY aR Ite Cb pe)
end Hy
namespace Hy
open PySem PySem.Spec PyProof.Rows L2
open Ev (D Den av aR eqD cv bQ cln dep b5)
section
variable {X:Cx}{k:Nat}{x:D}{xs:List D}
theorem Br (hu:X.A.units+70<cLine):OpR X (Gc .NotIn) (λv y H Q=>∃G d xs a,y=.ref a/\ao G H/\Den X.K G v d/\Den X.K G (.ref a) (.lst xs)/\cv d/\(∀z∈xs,cv z)/\Q (.bl (!xs.any λz=>eqD z d)) H):=by
 classical
 intro pins s σ H v y u u' Q I rx ry ⟨G,d,xs,a,e0,sg,dx,dy,o1,o2,q⟩;subst e0;cases ry
 cases dy with
 | @lst _ vs _ hl r=>
   obtain⟨its,rv,pl,hz⟩:=I.list (aR sg hl);have l1:=r.length;have l2:=rv.length;have i1:∀A:GT,A.in1.units=A.units+1:=λ_=>rfl
   have ev:∀i (h:i<xs.length),∃w,its[i]?=some w/\SeqAt.EqAt X.A.in1 s w u (eqD xs[i] d):=λi h=>by
     obtain⟨v',w,e1,d1,r1⟩:=Lc.fL r rv (ph h);have oz:=o2 _ (Jt h);exact⟨w,e1,Lc.lP I sg d1 r1 dx rx oz.1 o1.1 (by rw[i1]; have:=oz.2; omega)⟩
   let f:Value->Bool:=λw=>decide (∃i,∃h:i<xs.length,its[i]?=some w/\eqD xs[i] d=true)
   have an:its.toArray.any f=xs.any λz=>eqD z d:=by
     rw[JJ];constructor
     . intro h;obtain⟨w,hw,h⟩:=J0.mp (by simpa using h);obtain⟨i,hi,_,e⟩:=of_decide_eq_true h;exact J0.mpr ⟨_,Jt hi,e⟩
     . intro h;obtain⟨z,hz,e⟩:=J0.mp h;obtain⟨i,hi,rfl⟩:=J5 hz;obtain⟨w,ew,_⟩:=ev i hi;have:its.any f=true:=J0.mpr ⟨w,IP ew,decide_eq_true ⟨i,hi,ew,e⟩⟩;simpa using this
   refine SeqAt.notIn_listAt f pl.isList (λw hw=>?_) ⟨.bl _,H,I,rfl,?_⟩
   . have hw:w∈its:=by simpa using hw
     obtain⟨i,hi,e⟩:=J5 hw;have hi':i<xs.length:=by omega
     have ei:its[i]?=some w:=by rw[ph hi,e]
     by_cases c:∃i,∃h:i<xs.length,its[i]?=some w/\eqD xs[i] d=true
     . have:f w=true:=decide_eq_true c;rw[this];obtain⟨j,hj,ej,t⟩:=c;obtain⟨w',ew,q'⟩:=ev j hj;rw[ej]at ew;cases ew
       rw[t]at q';exact q'
     . have:f w=false:=decide_eq_false c;rw[this];obtain⟨w',ew,q'⟩:=ev i hi';rw[ei]at ew;cases ew
       cases t:eqD xs[i] d with
       | true=>exact absurd ⟨i,hi',ei,t⟩ c
       | false=>rw[t]at q'; exact q'
   . rw[an];exact q
theorem CO (B:Bk X k)(h1:cv x)(h2:∀z∈xs,cv z):cF X (Gc .NotIn) x (.lst xs) (.bl (!xs.any λz=>eqD z x)):=⟨_,Br (by have:=B.room.un; omega),λM v w H Q _ d1 d2 q=>by
 cases d2 with
 | lst h r=>exact⟨_,x,xs,_,rfl,aS,d1,.lst h r,h1,h2,q _ H .(102) .bl⟩⟩
end
end Hy
namespace Hy
open PySem PySem.Spec PyProof.Rows L2
open Ev (D Den av aq aY aR)
noncomputable def par:D->Bool
 | .tup [x,y]=>flat x&&flat y
 | _=>false
end Hy
namespace Hy
open PySem PySem.Spec PyProof.Rows L2
open Ev (D Den av aH aL aq aY aR eqD cv bQ cln dep b5)
end Hy
namespace K34
open PySem PySem.Spec PyProof.Rows L2 Hy
open Ev (D Den av aH aL)
noncomputable def GA (t:List .(123)):D:=.lst (t.map λr=>.lst (r.map frD))
noncomputable def fB (t:List .(123)):Nd:=.l (t.map λr=>.l ((r.map frD).map .d))
theorem pT (xs:List D):kC (xs.map .d)=xs:=by
 induction xs with
 | nil=>rfl
 | cons x xs ih=>rw[Ii,kC,ndD,ih]
theorem rK {α:Type}(f:α->List Nd):∀t:List α,kC (t.map λr=>.l (f r))=t.map λr=>D.lst (kC (f r))
 | []=>rfl
 | r::t=>by rw[Ii,kC,ndD,rK f t]; rfl
theorem EJ (t:List .(123)):ndD (fB t)=GA t:=by
 unfold fB GA;rw[ndD,rK];congr 1;exact HZ λr _=>by rw[pT]
theorem xV {α β:Type}(f:α->β)(xs:List α)(d:α)(h:m=xs.length):(ox m).map (λi=>f (xs.getD i d))=xs.map f:=by
 subst h;refine IX .(4) λi h1 h2=>?_
 have:i<xs.length:=by simpa using h2
 simp[this]
theorem cP (h:m<n):ixN n (m:Int)=some m:=by
 unfold ixN;rw[if_pos .(0),if_pos .(0)];simp
noncomputable def qF (M:List .(123))(i j:Nat)(q:Rat):List .(123):=M.set i (.(108).set j q)
theorem hE (hi:i<M.length):dg [i] (fB M)=some (.l ((.(108).map frD).map .d)):=by
 unfold fB;rw[dg,HR,ph hi];simp[dg,hi]
theorem uD :cH [i] (fB M) (.l (((.(108).map frD).set j (frD q)).map .d))=fB (qF M i j q):=by
 unfold fB qF;simp only[Mc];rfl
theorem qk (hi:i<M.length)(hj:j<.(108).length):dg [i,j] (fB M)=some (.d (frD (.(108).getD j 0))):=by
 unfold fB;rw[dg,HR,ph hi];have e:.(108)=M[i]:=by simp[hi]
 rw[e]at hj ⊢;simp only[Jl,Option.bind_some,dg,HR,ph hj];simp[hj]
noncomputable def mkT (R C:Nat)(G:Nat->Nat->Rat):List .(123):=(ox R).map λi=>(ox C).map (G i)
theorem dF (R C:Nat)(G:Nat->Nat->Rat):(mkT R C G).length=R:=by simp[mkT]
theorem jc (hi:i<R):(mkT R C G).getD i []=(ox C).map (G i):=by simp[mkT,hi]
theorem Cg (hi:i<R)(hj:j<C):((mkT R C G).getD i []).getD j 0=G i j:=by rw[jc hi]; simp[hj]
theorem vW (h:∀i,i<R->∀j,j<C->G i j=H i j):mkT R C G=mkT R C H:=by
 unfold mkT;refine HZ λi hi=>HZ λj hj=>h i (HN.mp hi) j (HN.mp hj)
theorem oQ (r1:1<=R)(r7:R<=7)(c1:1<=C)(c7:C<=7):Tq R C (mkT R C G):=⟨r1,r7,c1,c7,dF R C G,λr hr=>by
 unfold mkT at hr;obtain⟨i,_,rfl⟩:=Hu.mp hr;simp⟩
theorem eW :((mkT n n g).map rwQ).length=n:=by rw[bp,dF]
theorem jo (hi:i<n):atI ((mkT n n g).map rwQ) (i:Int)=some (rwQ ((ox n).map (g i))):=by
 have:=gx (f:=rwQ) (xs:=mkT n n g) [] (i:=i) (by rw[dF]; exact hi);rw[jc hi]at this;exact this
theorem i7 (hk:k<n):atI (((ox n).map f).map frD) (k:Int)=some (frD (f k)):=by
 have:=gx (f:=frD) (xs:=(ox n).map f) 0 (i:=k) (by rw[bp,Iw]; exact hk);have e:((ox n).map f).getD k 0=f k:=by simp[hk]
 rw[e]at this;exact this
theorem GU {xs ys:List Rat}(i:Nat)(h:i<(ij (xs.map frD) (ys.map frD)).length):(ij (xs.map frD) (ys.map frD))[i]=.tup [frD (xs.getD i 0),frD (ys.getD i 0)]:=by
 rw[pA];rw[b6,bp,bp]at h;simp[show i<xs.length by omega,show i<ys.length by omega]
theorem Sq.div (hx:Sq m x)(hy:Sq m y)(h:y≠0):Sq (m+m) (x/y):=by
 have n0:y.num≠0:=λz=>h (LB.mp z)
 have dx:=den_pos x;have dy:=den_pos y
 have e:((x.num*(y.den:Nat):Int):Rat)=x/y*(((x.den:Nat)*y.num:Int):Rat):=by
   rw[HW,HW,<- dH x,<- dH y];generalize (((x.den:Nat):Int):Rat)=a;generalize (((y.den:Nat):Int):Rat)=b;have:x/y*y=x:=Jq h;generalize x/y=w at this ⊢;grind
 have b1:Bd (m+m) (x.num*(y.den:Nat)):=hx.num.mul hy.den;have b2:Bd (m+m) ((x.den:Nat)*y.num):=hx.den.mul hy.num;rcases Int.lt_or_gt_of_ne n0 with neg | pos
 . refine Sq.bU (t:=-(x.num*(y.den:Nat))) (b:=-((x.den:Nat)*y.num)) ?_ ?_ ?_ ?_
   . have:=Int.mul_neg_of_pos_of_neg dx neg; omega
   . rw[Jy,Jy,e]; grind
   . unfold Bd at b1 ⊢; rw[J2]; exact b1
   . unfold Bd at b2 ⊢; rw[J2]; exact b2
 . exact Sq.bU (Mx dx pos) e b1 b2
noncomputable abbrev Stp:=Str×Nat×Rat
noncomputable def stD (s:Stp):D:=.tup [.str s.1,.int (s.2.1:Nat),frD s.2.2]
def okS (T:Nat)(s:Stp):Prop:=0<=s.2.2.num/\((s.1 = "weigh" /\ s.2.1<T)\/((s.1 = "down" \/ s.1 = "up")/\s.2.1+1<T))
noncomputable def rgS (s:Stp):Nat:=if s.1 = "down" then s.2.1 else s.2.1+1
noncomputable def rgE (s:Stp):Nat:=if s.1 = "down" then s.2.1+1 else s.2.1
noncomputable def gr (V:Nat->Nat->Rat)(n:Nat)(r:Nat->Rat):Nat->Nat->Rat:=λk=>if k=n then r else V k
noncomputable def V0 (k i:Nat):Rat:=if i=k then 1 else 0
noncomputable def bkV (L:Nat->Nat->Rat)(st:Stp):Nat->Nat->Rat:=if st.1 = "weigh" then gr L st.2.1 λi=>st.2.2*L st.2.1 i else gr L (rgS st) λi=>L (rgS st) i+st.2.2*L (rgE st) i
noncomputable def bwd (ss:List Stp):Nat->Nat->Rat:=ss.reverse.foldl bkV V0
noncomputable def act (ss:List Stp)(L:Nat->Nat->Rat):Nat->Nat->Rat:=ss.foldr (λst L=>bkV L st) L
theorem eD (xs ys:List Stp)(L:Nat->Nat->Rat):act (xs++ys) L=act xs (act ys L):=by unfold act; rw[List.foldr_append]
theorem A3 (ss:List Stp):bwd ss=act ss V0:=by unfold bwd act; rw[List.foldl_reverse]
def Eqn (n:Nat)(A B:Nat->Nat->Rat):Prop:=∀i,i<n->∀j,j<n->A i j=B i j
theorem Eqn.refl (A:Nat->Nat->Rat):Eqn n A A:=λ_ _ _ _=>rfl
theorem Eqn.symm (h:Eqn n A B):Eqn n B A:=λi hi j hj=>(h i hi j hj).symm
theorem Eqn.trans (h:Eqn n A B)(g:Eqn n B C):Eqn n A C:=λi hi j hj=>(h i hi j hj).trans (g i hi j hj)
theorem Eqn.tr (h:Eqn n A B):Eqn n (λi j=>A j i) λi j=>B j i:=λi hi j hj=>h j hj i hi
theorem CU {st:Stp}(h:okS n st):(st.1 = "weigh" -> st.2.1<n)/\(st.1 ≠ "weigh" -> rgS st<n/\rgE st<n):=by
 rcases h.2 with ⟨e,z⟩ | ⟨e,z⟩
 . exact⟨λ_=>z,λne=>absurd e ne⟩
 . refine⟨λ_=>by omega,λ_=>?_⟩;unfold rgS rgE;split <;> omega
theorem zU {st:Stp}{A B:Nat->Nat->Rat}(hs:okS n st)(h:Eqn n A B):Eqn n (bkV A st) (bkV B st):=λi hi j hj=>by
 obtain⟨h1,h2⟩:=CU hs;unfold bkV gr;by_cases e:st.1 = "weigh"
 . rw[if_pos e,if_pos e];show (if i=st.2.1 then _ else A i) j=(if i=st.2.1 then _ else B i) j;split
   . show st.2.2*A st.2.1 j=st.2.2*B st.2.1 j;rw[h _ (h1 e) j hj]
   . exact h i hi j hj
 . rw[if_neg e,if_neg e];show (if i=rgS st then _ else A i) j=(if i=rgS st then _ else B i) j;split
   . show A (rgS st) j+st.2.2*A (rgE st) j=B (rgS st) j+st.2.2*B (rgE st) j;rw[h _ (h2 e).1 j hj,h _ (h2 e).2 j hj]
   . exact h i hi j hj
theorem hG (h:Eqn n A B):∀ss:List Stp,(∀st∈ss,okS n st)->Eqn n (act ss A) (act ss B)
 | [],_=>h
 | st::ss,hs=>zU (hs st .(5)) (hG h ss λs m=>hs s (Et _ m))
theorem DP (A:Nat->Nat->Rat)(s t:Stp):(λi j=>bkV (λp q=>bkV A s q p) t j i)=bkV (λi j=>bkV (λp q=>A q p) t j i) s:=by
 funext i j;unfold bkV gr;by_cases es:s.1 = "weigh" <;> by_cases et:t.1 = "weigh"
 . simp only[if_pos es,if_pos et];by_cases a:i=s.2.1 <;> by_cases b:j=t.2.1 <;> simp only[a,b,if_true,if_false] <;> grind
 . simp only[if_pos es,if_neg et];by_cases a:i=s.2.1 <;> by_cases b:j=rgS t <;> simp only[a,b,if_true,if_false] <;> grind
 . simp only[if_neg es,if_pos et];by_cases a:i=rgS s <;> by_cases b:j=t.2.1 <;> simp only[a,b,if_true,if_false] <;> grind
 . simp only[if_neg es,if_neg et];by_cases a:i=rgS s <;> by_cases b:j=rgS t <;> simp only[a,b,if_true,if_false] <;> grind
noncomputable def eg (ss:List Stp)(A:Nat->Nat->Rat):Nat->Nat->Rat:=λi j=>act ss (λp q=>A q p) j i
theorem nq (t:Stp)(ss:List Stp)(A:Nat->Nat->Rat):eg (t::ss) A=λi j=>bkV (λp q=>eg ss A q p) t j i:=rfl
theorem vF (s:Stp)(A:Nat->Nat->Rat):∀ss:List Stp,eg ss (bkV A s)=bkV (eg ss A) s
 | []=>rfl
 | t::ss=>by
   rw[nq,nq,vF s A ss];exact DP (eg ss A) s t
theorem jq (xs ys:List Stp)(A:Nat->Nat->Rat):eg ys (act xs A)=act xs (eg ys A):=by
 induction xs with
 | nil=>rfl
 | cons s xs ih=>
   show eg ys (bkV (act xs A) s)=bkV (act xs (eg ys A)) s;rw[vF,ih]
theorem qP (xs ys:List Stp)(A:Nat->Nat->Rat):eg (xs++ys) A=eg xs (eg ys A):=by
 unfold eg;rw[eD]
theorem mD (h:Eqn n A B)(ss:List Stp)(hs:∀st∈ss,okS n st):Eqn n (eg ss A) (eg ss B):=λi hi j hj=>hG h.tr ss hs j hj i hi
noncomputable def trn (s:Stp):Stp:=if s.1 = "weigh" then s else (if s.1 = "down" then "up" else "down",s.2.1,s.2.2)
theorem Dh (s:Stp)(h:s.1 = "weigh" \/ s.1 = "down" \/ s.1 = "up"):(λi j=>bkV V0 s j i)=bkV V0 (trn s):=by
 funext i j;obtain⟨u,k,w⟩:=s;rcases h with h | h | h
 . have h:u = "weigh":=h;subst h;unfold trn bkV gr V0;simp only[if_true];by_cases a:i=k <;> by_cases b:j=k <;> simp only[a,b,if_true,if_false] <;> grind
 . have h:u = "down":=h;subst h;have n1:¬(("down" : Str) = "weigh"):=by decide
   have n2:¬(("up" : Str) = "weigh"):=by decide
   have n3:¬(("up" : Str) = "down"):=by decide
   unfold trn bkV gr V0 rgS rgE;simp only[if_neg n1,if_neg n2,if_neg n3,if_true];by_cases a:i=k+1 <;> by_cases b:j=k <;> simp only[a,b,if_true,if_false] <;> grind
 . have h:u = "up":=h;subst h;have n1:¬(("down" : Str) = "weigh"):=by decide
   have n2:¬(("up" : Str) = "weigh"):=by decide
   have n3:¬(("up" : Str) = "down"):=by decide
   unfold trn bkV gr V0 rgS rgE;simp only[if_neg n1,if_neg n2,if_neg n3,if_true];by_cases a:i=k <;> by_cases b:j=k+1 <;> simp only[a,b,if_true,if_false] <;> grind
theorem E6:(λi j=>V0 j i)=V0:=by
 funext i j;unfold V0;by_cases h:i=j
 . rw[if_pos h,if_pos h.symm]
 . rw[if_neg h,if_neg (ID h)]
theorem ur:∀ss:List Stp,(∀s∈ss,s.1 = "weigh" \/ s.1 = "down" \/ s.1 = "up")->eg ss V0=act (ss.reverse.map trn) V0
 | [],_=>rfl
 | t::ss,h=>by
   have ih:=ur ss λs m=>h s (Et _ m)
   rw[List.reverse_cons,HB,eD];show eg (t::ss) V0=act (ss.reverse.map trn) (bkV V0 (trn t));rw[<- Dh t (h t .(5))]
   have e:(λi j=>bkV V0 t j i)=eg [t] V0:=by
     show _=λi j=>bkV (λp q=>V0 q p) t j i
     rw[E6]
   rw[e,<- jq,<- ih];exact qP [t] ss V0
section
variable {A:Nat->Nat->Rat}{k:Nat}
theorem yY (A:Nat->Nat->Rat)(c:Nat)(b:Nat->Rat):det k (aO A c b)=det k (aB (λr j=>A j r) c b):=by
 rw[<- cR];exact aF λi _ j _=>rfl
theorem Be {b:Nat->Rat}:∃a:Nat->Rat,∀p,p<k->aA (λc=>a c*A p c) k=det k A*b p:=by
 refine⟨λi=>-bc (λr c=>if r<k then A c r else b c) k k i,λp hp=>?_⟩;have e:=sZ (Y:=λr c=>if r<k then A c r else b c) (k:=k) (p:=k) (q:=p);rw[uM hp]at e
 have e1:det k (λr c=>if r<k then A c r else b c)=det k A:=by
   rw[<- cR k A];exact aF λi hi j hj=>if_pos hi
 rw[e1]at e
 have e2:aA (λc=>-bc (λr c=>if r<k then A c r else b c) k k c*A p c) k=-1*aA (λi=>bc (λr c=>if r<k then A c r else b c) k k i*(if i<k then A p i else b p)) k:=by
   rw[a5];refine ar λc hc=>?_
   rw[if_pos hc];grind
 rw[e2];have e3:(if k<k then A p k else b p)=b p:=if_neg (Kz k);rw[e3]at e;grind
theorem Hq (h0:det k A≠0)(hp:p<k):aA (λc=>A p c*det k (aO A c b)) k=det k A*b p:=by
 obtain⟨a,ha⟩:=Be (A:=A) (k:=k) (b:=b)
 have key:∀c,c<k->det k (aO A c b)=a c:=λc hc=>by
   have e1:=(cf k).sum (λr j=>A j r) hc a (λc' j=>A j c') k
   have e2:det k (aB (λr j=>A j r) c λj=>aA (λc'=>a c'*A j c') k)=det k A*det k (aB (λr j=>A j r) c b):=by
     have:=oE (n:=k) (λr j=>A j r) hc (det k A) 0 b b;rw[Iq,Ir]at this;rw[<- this];refine aF λi hi j hj=>?_
     unfold aB;split
     . show aA (λc'=>a c'*A j c') k=_;rw[ha j hj];grind
     . rfl
   have e3:aA (λc'=>a c'*det k (aB (λr j=>A j r) c λj=>A j c')) k=aA (λc'=>(a c'*det k A)*dq c' c) k:=ar λc' hc'=>by
     unfold dq;by_cases z:c'=c
     . subst z;rw[if_pos rfl,JE,show (λj=>A j c')=(λr j=>A j r) c' from rfl,bA,cR]
     . rw[if_neg z,Ie,(cf k).same (M:=aB (λr j=>A j r) c λj=>A j c') (p:=c) (q:=c') hc hc' (ID z) (by rw[bS,bT z]),Ie]
   rw[e2,e3,bJ _ c k hc]at e1;rw[yY];have:(det k (aB (λr j=>A j r) c b)-a c)*det k A=0:=by grind
   rcases KH.mp this with z | z
   . grind
   . exact absurd z h0
 rw[<- ha p hp];refine ar λc hc=>?_
 rw[key c hc,JK]
end
theorem lh :∀k,0<k->(∀j,j<k->j≠0->f j=0)->aA f k=f 0
 | 1,_,_=>by rw[aA,aA,JU]
 | k+2,_,h=>by rw[aA,lh (k+1) .(0) λj hj=>h j .(0),h (k+1) .(0) .(0),Ir]
theorem pj (hp:0<p):∀k,p<k->(∀j,j<k->j≠0->j≠p->f j=0)->aA f k=f 0+f p
 | 0,h,_=>absurd h .(6)
 | k+1,h,g=>by
   by_cases e:p=k
   . subst e;rw[aA,lh p hp λj hj h0=>g j .(0) h0 .(0)]
   . rw[aA,pj hp k .(0) λj hj=>g j .(0),g k .(0) .(0) .(0),Ir]
theorem m8 (M:Nat->Nat->Rat)(q:Nat)(v:Nat->Rat):(λi j=>aO M q v j i)=aB (λi j=>M j i) q v:=rfl
theorem xq (N:Nat->Nat->Rat)(hq:q<k)(v:Nat->Rat)(e:Nat->Nat->Rat)(m:Nat):det k (aO N q λr=>aA (λc=>v c*e c r) m)=aA (λc=>v c*det k (aO N q (e c))) m:=by
 rw[<- cR,m8,(cf k).sum _ hq];refine ar λc _=>?_
 rw[<- cR k (aO N q (e c)),m8]
section
variable {k p:Nat}{M:Nat->Nat->Rat}
noncomputable def dPP (k p:Nat)(M:Nat->Nat->Rat)(u w:Nat->Rat):Rat:=det k (aO (aO M 0 u) p w)
theorem bM :aO M q v r q=v r:=if_pos rfl
theorem bf (h:c≠q):aO M q v r c=M r c:=if_neg h
theorem m5 (hu:∀r<k,u r=u' r)(hw:∀r<k,w r=w' r):dPP k p M u w=dPP k p M u' w':=aF λr hr c _=>by
 unfold aO;by_cases h:c=p
 . rw[if_pos h,if_pos h,hw r hr]
 . rw[if_neg h,if_neg h];by_cases h2:c=0
   . rw[if_pos h2,if_pos h2,hu r hr]
   . rw[if_neg h2,if_neg h2]
theorem pO (hp:0<p)(hk:p<k)(u:Nat->Rat):dPP k p M u u=0:=ic (p:=0) (q:=p) .(0) hk .(0) λr=>by
 rw[bM,bf .(0),bM]
theorem jy (hp:0<p)(hk:p<k)(u w:Nat->Rat):dPP k p M u w=-dPP k p M w u:=by
 unfold dPP;have h:=(cf k).swap (M:=λi j=>M j i) (p:=0) (q:=p) .(0) hk .(0) u w;rw[<- cR k (aO (aO M 0 u) p w),<- cR k (aO (aO M 0 w) p u)];exact h
theorem uc (hp:0<p)(hk:p<k)(w c:Nat->Rat)(A:Nat->Nat->Rat)(hA:∀j,j≠0->j≠p->∀r,A r j=M r j):dPP k p M (λr=>aA (λj=>c j*A r j) k) w=c 0*dPP k p M (λr=>A r 0) w+c p*dPP k p M (λr=>A r p) w:=by
 have com:∀v,aO (aO M 0 v) p w=aO (aO M p w) 0 v:=λv=>by
   funext r j;unfold aO;by_cases h:j=p
   . rw[if_pos h,if_neg (show ¬j=0 by omega),if_pos h]
   . rw[if_neg h,if_neg h]
 unfold dPP;rw[com,xq _ .(0) c (λj r=>A r j) k,pj hp k hk λj hj h0 hjp=>?_]
 . rw[com,com]
 . rw[ic (p:=0) (q:=j) .(0) hj .(0) λr=>by rw[bM,bf h0,bf hjp,hA j h0 hjp],Ie]
theorem AI (hp:0<p)(hk:p<k)(u c:Nat->Rat)(A:Nat->Nat->Rat)(hA:∀j,j≠0->j≠p->∀r,A r j=M r j):dPP k p M u (λr=>aA (λj=>c j*A r j) k)=c 0*dPP k p M u (λr=>A r 0)+c p*dPP k p M u (λr=>A r p):=by
 rw[jy hp hk,uc hp hk u c A hA,jy hp hk u,jy hp hk u];grind
theorem gp (hp:0<p)(hk:p<k)(h0:dPP k p M g x≠0):dPP k p M g y*dPP k p M e x-dPP k p M g x*dPP k p M e y=dPP k p M e g*dPP k p M x y:=by
 let A:Nat->Nat->Rat:=aO (aO M 0 g) p x
 have hA:∀j,j≠0->j≠p->∀r,A r j=M r j:=λj h1 h2 r=>by
   show aO (aO M 0 g) p x r j=M r j;rw[bf h2,bf h1]
 have A0:(λr=>A r 0)=g:=by
   funext r;show aO (aO M 0 g) p x r 0=g r;rw[bf .(0),bM]
 have Ap:(λr=>A r p)=x:=by
   funext r;exact bM
 have ex:∀v:Nat->Rat,∃c:Nat->Rat,∀r,r<k->v r=aA (λj=>c j*A r j) k:=λv=>by
   refine⟨λj=>det k (aO A j v)/det k A,λr hr=>?_⟩;have hD:det k A≠0:=h0;have e:=Hq (b:=v) hD hr;refine ue hD ?_;rw[<- e,a5];refine ar λj _=>?_
   show A r j*det k (aO A j v)=det k A*(det k (aO A j v)/det k A*A r j);generalize det k A=D at hD ⊢;generalize det k (aO A j v)=z;generalize A r j=y;rw[<- JC,JK D,Jq hD,JK]
 obtain⟨a,ha⟩:=ex e;obtain⟨b,hb⟩:=ex y;have sw:=jy (M:=M) hp hk x g;have gg:=pO (M:=M) hp hk g;have xx:=pO (M:=M) hp hk x
 have e1:∀w,dPP k p M e w=a 0*dPP k p M g w+a p*dPP k p M x w:=λw=>by
   rw[m5 (w':=w) ha λ_ _=>rfl,uc hp hk w a A hA,A0,Ap]
 have e2:∀u,dPP k p M u y=b 0*dPP k p M u g+b p*dPP k p M u x:=λu=>by
   rw[m5 (u':=u) (λ_ _=>rfl) hb,AI hp hk u b A hA,A0,Ap]
 rw[e2 g,e1 x,e1 y,e2 g,e2 x,e1 g,gg,xx,sw];grind
end
noncomputable def bB (γ:Nat->Nat)(p q:Nat):Nat->Nat:=λc=>if c=p then q else γ c
section
variable {A:Nat->Nat->Rat}{m n z q:Nat}
theorem D6 (hk:0<k)(h0:∀c,0<c->c<k->A z (γ c)=0):mi A (k+1) (λr=>if r=0 then z else ρ (r-1)) (λc=>if c=0 then q else γ (c-1))=A z q*mi A k ρ γ-A z (γ 0)*mi A k ρ (bB γ 0 q):=by
 rw[<- FL];unfold mi;rw[det,pj (p:=1) .(2) (k+1) .(0) λi hi h1 h2=>?_]
 . have e1:det k (minor (λr c=>A (if c=0 then z else ρ (c-1)) (if r=0 then q else γ (r-1))) 0)=det k λr c=>A (ρ r) (γ c):=by
     rw[<- cR k λr c=>A (ρ r) (γ c)];refine aF λr hr c hc=>?_
     show A (if c+1=0 then z else ρ (c+1-1)) (if skp 0 r=0 then q else γ (skp 0 r-1))=A (ρ c) (γ r);have:skp 0 r=r+1:=if_neg .(0);rw[this,if_neg .(0),if_neg .(0)];rfl
   have e2:det k (minor (λr c=>A (if c=0 then z else ρ (c-1)) (if r=0 then q else γ (r-1))) 1)=det k λr c=>A (ρ r) (bB γ 0 q c):=by
     rw[<- cR k λr c=>A (ρ r) (bB γ 0 q c)];refine aF λr hr c hc=>?_
     show A (if c+1=0 then z else ρ (c+1-1)) (if skp 1 r=0 then q else γ (skp 1 r-1))=A (ρ c) (bB γ 0 q r);rw[if_neg .(0)];unfold bB;by_cases r0:r=0
     . subst r0; rfl
     . have:skp 1 r=r+1:=if_neg .(0);rw[this,if_neg .(0),if_neg r0];rfl
   rw[e1,e2];show 1*A (if 0=0 then z else ρ (0-1)) (if 0=0 then q else γ (0-1))*_ + -1*A (if 0=0 then z else ρ (0-1)) (if 1=0 then q else γ (1-1))*_=_;rw[if_pos rfl,if_pos rfl,if_neg .(2)];generalize (det k λr c=>A (ρ r) (γ c))=x;generalize (det k λr c=>A (ρ r) (bB γ 0 q c))=y;show 1*A z q*x + -1*A z (γ 0)*y=_;grind
 . show sgn i*A (if 0=0 then z else ρ (0-1)) (if i=0 then q else γ (i-1))*_=0;rw[if_pos rfl,if_neg h1,h0 (i-1) .(0) .(0),Ie,Iq]
theorem B4 :rho 0 p 0=p:=by unfold rho; rw[if_neg .(0),if_pos rfl,J9]
theorem yH (h0:c≠0)(h1:c<=p):rho 0 p c=c-1:=by unfold rho; rw[if_neg .(0),if_neg h0,if_pos .(0)]
theorem yB (h:p<c):rho 0 p c=c:=by unfold rho; rw[if_neg .(0),if_neg .(0),if_neg .(0)]
theorem t4 (h:Inc (k+1) ρ):Inc k λr=>ρ (skp b r):=λi hi=>by
 show ρ (skp b i)<ρ (skp b (i+1));refine h.mono ?_ ?_
 . unfold skp; split <;> split <;> omega
 . unfold skp; split <;> omega
theorem yi (H:Tnn m n A)(hz:z<m)(hq:q+1<n)(h0:∀j,q+1<j->j<n->A z j=0):∀(p k:Nat) (ρ γ:Nat->Nat),p<k->Inc k ρ->(∀i,i<k->ρ i<m)->(∀i,i<k->z<=ρ i)->Inc k γ->(∀i,i<k->γ i<n)->γ p=q+1->(∀c,c<p->γ c<q)->A z (q+1)*mi A k ρ (bB γ p q)<=A z q*mi A k ρ γ
 | 0,k,ρ,γ,hp,h1,h2,h3,h4,h5,h6,_=>by
   have e:=D6 (A:=A) (z:=z) (q:=q) (ρ:=ρ) (γ:=γ) hp λc c0 hc=>h0 _ (by have:=h4.mono c0 hc; omega) (h5 c hc)
   rw[h6]at e
   have nn:0<=mi A (k+1) (λr=>if r=0 then z else ρ (r-1)) (λc=>if c=0 then q else γ (c-1)):=by
     by_cases ez:z=ρ 0
     . have:mi A (k+1) (λr=>if r=0 then z else ρ (r-1)) (λc=>if c=0 then q else γ (c-1))=0:=by
         refine(cf (k+1)).same (p:=0) (q:=1) .(0) .(0) .(2) ?_;funext c;show A (if 0=0 then z else ρ (0-1)) _=A (if 1=0 then z else ρ (1-1)) _;rw[if_pos rfl,if_neg .(2),ez]
       rw[this];exact Km
     . have z0:z<ρ 0:=by have:=h3 0 hp; omega
       refine H (k+1) _ _ (λi hi=>?_) (λi hi=>?_) (λi hi=>?_) λi hi=>?_
       . show (if i=0 then z else ρ (i-1))<(if i+1=0 then z else ρ (i+1-1));by_cases i0:i=0
         . subst i0; exact z0
         . rw[if_neg i0,if_neg .(0)];exact h1.mono .(0) .(0)
       . show (if i=0 then z else ρ (i-1))<m;split
         . exact hz
         . exact h2 _ .(0)
       . show (if i=0 then q else γ (i-1))<(if i+1=0 then q else γ (i+1-1));by_cases i0:i=0
         . subst i0;show q<γ 0;omega
         . rw[if_neg i0,if_neg .(0)];exact h4.mono .(0) .(0)
       . show (if i=0 then q else γ (i-1))<n;split
         . omega
         . exact h5 _ .(0)
   rw[e]at nn;generalize A z q*mi A k ρ γ=x at nn ⊢;generalize A z (q+1)*mi A k ρ (bB γ 0 q)=y at nn ⊢;grind
 | p+1,0,_,_,hp,_,_,_,_,_,_,_=>absurd hp .(6)
 | p+1,k+1,ρ,γ,hp,h1,h2,h3,h4,h5,h6,h7=>by
   have az:0<=A z q:=by
     have:=H 1 (λ_=>z) (λ_=>q) (λi hi=>by omega) (λ_ _=>hz) (λi hi=>by omega) (λ_ _=>by omega);rw[show mi A 1 (λ_=>z) (λ_=>q)=A z q from g8 _]at this;exact this
   have dy:0<=mi A (k+1) ρ γ:=H _ _ _ h1 h2 h4 h5
   have iu:Inc (k+1) (bB γ (p+1) q):=λi hi=>by
     have:=h4 i hi;unfold bB;by_cases c1:i=p+1
     . rw[if_pos c1,if_neg .(0)];subst c1;omega
     . by_cases c2:i+1=p+1
       . rw[if_neg c1,if_pos c2];exact h7 i .(0)
       . rw[if_neg c1,if_neg c2];exact this
   have bu:∀i,i<k+1->bB γ (p+1) q i<n:=λi hi=>by
     unfold bB;split
     . omega
     . exact h5 i hi
   have dx:0<=mi A (k+1) ρ (bB γ (p+1) q):=H _ _ _ h1 h2 iu bu;by_cases dz:mi A (k+1) ρ (bB γ (p+1) q)=0
   . rw[dz,Ie];exact K2 az dy
   obtain⟨b,hb,db⟩:∃b,b<k+1/\mi A k (λr=>ρ (skp b r)) (λc=>bB γ (p+1) q (c+1))≠0:=by
     refine HM λno=>dz ?_
     unfold mi;rw[det];refine bq λi hi=>?_
     have:mi A k (λr=>ρ (skp i r)) (λc=>bB γ (p+1) q (c+1))=0:=HM λne=>no ⟨i,hi,ne⟩
     have e:det k (minor (λr c=>A (ρ r) (bB γ (p+1) q c)) i)=mi A k (λr=>ρ (skp i r)) (λc=>bB γ (p+1) q (c+1)):=rfl;rw[e,this,Ie]
   have sub:∀c,bB γ (p+1) q (c+1)=bB (λc=>γ (c+1)) p q c:=λc=>by
     unfold bB;by_cases e:c=p
     . rw[if_pos e,if_pos .(0)]
     . rw[if_neg e,if_neg .(0)]
   have pk:p<k:=by omega
   have r1:=t4 (b:=b) h1;have r2:∀i,i<k->ρ (skp b i)<m:=λi hi=>h2 _ (iR hi)
   have r3:∀i,i<k->z<=ρ (skp b i):=λi hi=>h3 _ (iR hi)
   have ih:=yi H hz hq h0 p k (λr=>ρ (skp b r)) (λc=>γ (c+1)) pk r1 r2 r3 h4.up (λi hi=>h5 _ .(0)) h6 λc hc=>h7 _ .(0)
   have dxe:mi A k (λr=>ρ (skp b r)) (λc=>bB γ (p+1) q (c+1))=mi A k (λr=>ρ (skp b r)) (bB (λc=>γ (c+1)) p q):=x9 (λ_ _=>rfl) λc _=>sub c
   rw[dxe]at db
   have dxs:0<=mi A k (λr=>ρ (skp b r)) (bB (λc=>γ (c+1)) p q):=by
     rw[<- dxe];exact H _ _ _ r1 r2 iu.up λi hi=>bu _ .(0)
   have pb:∀w:Nat->Rat,dPP (k+1) (p+1) (λr c=>A (ρ r) (γ c)) (λr=>if r=b then 1 else 0) w=sgn b*det k (λr c=>if c=p then w (skp b r) else A (ρ (skp b r)) (γ (c+1))):=λw=>by
     unfold dPP;rw[det]
     have e:∀i,i<k+1->sgn i*aO (aO (λr c=>A (ρ r) (γ c)) 0 λr=>if r=b then (1:Rat) else 0) (p+1) w i 0*det k (minor (aO (aO (λr c=>A (ρ r) (γ c)) 0 λr=>if r=b then (1:Rat) else 0) (p+1) w) i)=(sgn i*det k (minor (aO (aO (λr c=>A (ρ r) (γ c)) 0 λr=>if r=b then (1:Rat) else 0) (p+1) w) i))*dq i b:=λi _=>by
       rw[bf .(0),bM];unfold dq;by_cases e:i=b
       . rw[if_pos e]; grind
       . rw[if_neg e]; grind
     rw[ar e,bJ _ _ _ hb];congr 1;refine aF λr hr c hc=>?_
     show aO (aO (λr c=>A (ρ r) (γ c)) 0 λr=>if r=b then (1:Rat) else 0) (p+1) w (skp b r) (c+1)=_;by_cases e:c=p
     . rw[if_pos e,e,bM]
     . rw[if_neg e,bf .(0),bf .(0)]
   have Pg:∀v:Nat,dPP (k+1) (p+1) (λr c=>A (ρ r) (γ c)) (λr=>A (ρ r) (γ 0)) (λr=>A (ρ r) v)=mi A (k+1) ρ (bB γ (p+1) v):=λv=>aF λr hr c hc=>by
     unfold bB;by_cases e:c=p+1
     . rw[if_pos e,e,bM]
     . rw[if_neg e,bf e];by_cases e0:c=0
       . rw[e0,bM]
       . rw[bf e0]
   have Pe:∀v:Nat,dPP (k+1) (p+1) (λr c=>A (ρ r) (γ c)) (λr=>if r=b then 1 else 0) (λr=>A (ρ r) v)=sgn b*mi A k (λr=>ρ (skp b r)) (bB (λc=>γ (c+1)) p v):=λv=>by
     rw[pb];congr 1;refine aF λr hr c hc=>?_
     unfold bB;by_cases e:c=p
     . rw[if_pos e,if_pos e]
     . rw[if_neg e,if_neg e]
   have uy:bB γ (p+1) (q+1)=γ:=by
     funext c;unfold bB;by_cases e:c=p+1
     . rw[if_pos e,e,h6]
     . rw[if_neg e]
   have uy':bB (λc=>γ (c+1)) p (q+1)=λc=>γ (c+1):=by
     funext c;unfold bB;by_cases e:c=p
     . rw[if_pos e,e,h6]
     . rw[if_neg e]
   have G:=gp (M:=λr c=>A (ρ r) (γ c)) (p:=p+1) (k:=k+1) (g:=λr=>A (ρ r) (γ 0)) (e:=λr=>if r=b then 1 else 0) (x:=λr=>A (ρ r) q) (y:=λr=>A (ρ r) (q+1)) .(0) hp (by rw[Pg]; exact dz);rw[Pg,Pg,Pe,Pe,Pe,uy,uy']at G
   have s1:mi A k (λr=>ρ (skp b r)) (bB (λc=>γ (c+1)) p (γ 0))=sgn p*mi A k (λr=>ρ (skp b r)) (λc=>γ (skp (p+1) c)):=by
     refine Cs ?_;unfold mi;rw[<- qH (k:=0) p (λr c=>A (ρ (skp b r)) (bB (λc=>γ (c+1)) p (γ 0) c)) .(0)];refine aF λr hr c hc=>?_
     show A (ρ (skp b r)) (γ (skp (p+1) c))=A (ρ (skp b r)) (bB (λc=>γ (c+1)) p (γ 0) (rho 0 p c));congr 1;unfold bB;by_cases c0:c=0
     . subst c0;rw[show skp (p+1) 0=0 from if_pos .(0),B4,if_pos rfl]
     . by_cases c1:c<=p
       . rw[show skp (p+1) c=c from if_pos .(0),yH c0 c1,if_neg .(0)];show γ c=γ (c-1+1);rw[show c-1+1=c by omega]
       . rw[show skp (p+1) c=c+1 from if_neg .(0),yB .(0),if_neg .(0)]
   have s2:dPP (k+1) (p+1) (λr c=>A (ρ r) (γ c)) (λr=>A (ρ r) q) (λr=>A (ρ r) (q+1))=sgn p*mi A (k+1) ρ (λc=>if c<p then γ (c+1) else if c=p then q else γ c):=by
     unfold mi;rw[<- qH (k:=0) p (λr c=>A (ρ r) (if c<p then γ (c+1) else if c=p then q else γ c)) .(0)];refine aF λr hr c hc=>?_
     show aO (aO (λr c=>A (ρ r) (γ c)) 0 λr=>A (ρ r) q) (p+1) (λr=>A (ρ r) (q+1)) r c=A (ρ r) (if rho 0 p c<p then γ (rho 0 p c+1) else if rho 0 p c=p then q else γ (rho 0 p c));by_cases c0:c=0
     . subst c0;rw[bf .(0),bM,B4,if_neg .(0),if_pos rfl]
     . by_cases c1:c<=p
       . rw[bf .(0),bf c0,yH c0 c1,if_pos .(0),show c-1+1=c by omega]
       . rw[yB .(0),if_neg .(0),if_neg .(0)];by_cases c2:c=p+1
         . rw[c2,bM,h6]
         . rw[bf c2,bf c0]
   have n1:0<=mi A k (λr=>ρ (skp b r)) (λc=>γ (skp (p+1) c)):=H _ _ _ r1 r2 (t4 h4) λi hi=>h5 _ (iR hi)
   have n2:0<=mi A (k+1) ρ (λc=>if c<p then γ (c+1) else if c=p then q else γ c):=H _ _ _ h1 h2 (λi hi=>by
     show (if i<p then γ (i+1) else if i=p then q else γ i)<(if i+1<p then γ (i+1+1) else if i+1=p then q else γ (i+1));have q1:=h4 i hi;by_cases a1:i+1<p
     . rw[if_pos .(0),if_pos a1];exact h4 (i+1) .(0)
     . by_cases a2:i+1=p
       . rw[if_pos .(0),if_neg a1,if_pos a2];exact h7 _ .(0)
       . by_cases a3:i=p
         . rw[if_neg .(0),if_pos a3,if_neg .(0),if_neg .(0),a3,h6];omega
         . rw[if_neg .(0),if_neg a3,if_neg .(0),if_neg .(0)];exact q1) λi hi=>by
     split
     . exact h5 _ .(0)
     . split
       . omega
       . exact h5 _ hi
   rw[s1,s2]at G;have ss:=pB p;have sb:=pB b;have pr:=K2 n1 n2;generalize mi A k (λr=>ρ (skp b r)) (λc=>γ (skp (p+1) c))=w1 at G pr;generalize mi A (k+1) ρ (λc=>if c<p then γ (c+1) else if c=p then q else γ c)=w2 at G pr;generalize mi A (k+1) ρ γ=Dy at G dy ⊢;generalize mi A (k+1) ρ (bB γ (p+1) q)=Dx at G dx dz ⊢;generalize mi A k (λr=>ρ (skp b r)) (bB (λc=>γ (c+1)) p q)=ex at G ih db dxs;generalize mi A k (λr=>ρ (skp b r)) (λc=>γ (c+1))=ey at G ih;generalize A z q=ax at az ih ⊢;generalize A z (q+1)=ay at ih ⊢;generalize sgn b=σ at G sb;generalize sgn p=τ at G ss
   have key:Dy*ex-Dx*ey=w1*w2:=by
     have:σ*(Dy*(σ*ex)-Dx*(σ*ey))=σ*(σ*(τ*w1)*(τ*w2)):=by rw[G]
     grind
   have e1:Dx*ey<=Dy*ex:=by grind
   have e2:Dx*(ay*ex)<=Dx*(ax*ey):=Mh ih dx;have e3:ax*(Dx*ey)<=ax*(Dy*ex):=Mh e1 az;have e4:ex*(ay*Dx)<=ex*(ax*Dy):=by grind
   have ep:0<ex:=by
     rcases LL.mp dxs with h | h
     . exact h
     . exact absurd h.symm db
   exact K3 e4 ep
end
section
variable {A:Nat->Nat->Rat}{m n q:Nat}
theorem Tnn.whC (H:Tnn m n A)(hm:0<m)(hq:q+1<n)(h0:∀j,q+1<j->j<n->A 0 j=0)(hp:A 0 q≠0):Tnn m n λi j=>if j=q+1 then A i (q+1)-A 0 (q+1)/A 0 q*A i q else A i j:=λk ρ γ h1 h2 h3 h4=>by
 have pos:0<=A 0 q:=by
   have:=H 1 (λ_=>0) (λ_=>q) (λi hi=>by omega) (λ_ _=>hm) (λi hi=>by omega) (λ_ _=>by omega);rw[show mi A 1 (λ_=>0) (λ_=>q)=A 0 q from g8 _]at this;exact this
 have pos:0<A 0 q:=by
   rcases LL.mp pos with h | h
   . exact h
   . exact absurd h.symm hp
 by_cases ex:∃c,c<k/\γ c=q+1
 . obtain⟨p,hc,ec⟩:=ex
   have e1:mi (λi j=>if j=q+1 then A i (q+1)-A 0 (q+1)/A 0 q*A i q else A i j) k ρ γ=det k (aO (λr c=>A (ρ r) (γ c)) p λr=>1*A (ρ r) (q+1)+(-(A 0 (q+1)/A 0 q))*A (ρ r) q):=aF λi hi j hj=>by
     show (if γ j=q+1 then A (ρ i) (q+1)-A 0 (q+1)/A 0 q*A (ρ i) q else A (ρ i) (γ j))=if j=p then _ else A (ρ i) (γ j);by_cases z:j=p
     . rw[if_pos z,if_pos (by rw[z]; exact ec)];grind
     . rw[if_neg z,if_neg (by rw[<- ec]; exact h3.ne hj hc z)]
   rw[e1,jh _ hc]
   have e2:det k (aO (λr c=>A (ρ r) (γ c)) p λr=>A (ρ r) (q+1))=mi A k ρ γ:=aF λi hi j hj=>by
     show (if j=p then A (ρ i) (q+1) else A (ρ i) (γ j))=A (ρ i) (γ j);split
     . rename_i z; rw[z,ec]
     . rfl
   have e3:det k (aO (λr c=>A (ρ r) (γ c)) p λr=>A (ρ r) q)=mi A k ρ (bB γ p q):=aF λi hi j hj=>by
     show (if j=p then A (ρ i) q else A (ρ i) (γ j))=A (ρ i) (if j=p then q else γ j);by_cases z:j=p
     . rw[if_pos z,if_pos z]
     . rw[if_neg z,if_neg z]
   rw[e2,e3];by_cases ex2:∃c,c<k/\γ c=q
   . obtain⟨c1,hc1,ec1⟩:=ex2;have ne:p≠c1:=λz=>by rw[z,ec1]at ec; omega
     have z0:mi A k ρ (bB γ p q)=0:=ic hc hc1 ne λr=>by
       show A (ρ r) (bB γ p q p)=A (ρ r) (bB γ p q c1);unfold bB;rw[if_pos rfl,if_neg (ID ne),ec1]
     rw[z0,Ie,Ir,IC];exact H k ρ γ h1 h2 h3 h4
   . have lt:∀c,c<p->γ c<q:=λc hcp=>by
       have:=h3.mono hcp hc;have:γ c≠q:=λz=>ex2 ⟨c,by omega,z⟩
       omega
     have w:=yi H hm hq h0 p k ρ γ hc h1 h2 (λ_ _=>HL _) h3 h4 ec lt;generalize mi A k ρ γ=x at w ⊢;generalize mi A k ρ (bB γ p q)=y at w ⊢;generalize A 0 (q+1)=b at w ⊢;generalize A 0 q=a at w pos ⊢
     have e:a*(1*x + -(b/a)*y)=a*x-b*y:=by
       have ha:a≠0:=λz=>by rw[z]at pos; exact absurd pos .(2)
       grind
     have w2:a*0<=a*(1*x + -(b/a)*y):=by rw[e]; grind
     exact K3 w2 pos
 . have e1:mi (λi j=>if j=q+1 then A i (q+1)-A 0 (q+1)/A 0 q*A i q else A i j) k ρ γ=mi A k ρ γ:=aF λi hi j hj=>if_neg λz=>ex ⟨j,hj,z⟩
   rw[e1];exact H k ρ γ h1 h2 h3 h4
theorem Tnn.whR (H:Tnn m n A)(hn:0<n)(hq:q+1<m)(h0:∀i,q+1<i->i<m->A i 0=0)(hp:A q 0≠0):Tnn m n λi j=>if i=q+1 then A (q+1) j-A (q+1) 0/A q 0*A q j else A i j:=
 (H.tr.whC hn hq h0 hp).tr
theorem Tnn.nn (H:Tnn m n A)(hi:i<m)(hj:j<n):0<=A i j:=by
 have:=H 1 (λ_=>i) (λ_=>j) (λ_ _=>by omega) (λ_ _=>hi) (λ_ _=>by omega) (λ_ _=>hj);rw[show mi A 1 (λ_=>i) (λ_=>j)=A i j from g8 _]at this;exact this
theorem Tnn.zF (H:Tnn m n A)(hq:q+1<m)(h0:A q 0=0)(h1:A (q+1) 0≠0)(hj:j<n):A q j=0:=by
 by_cases j0:j=0
 . rw[j0]; exact h0
 have d:=H 2 (λr=>q+r) (λc=>if c=0 then 0 else j) (λi hi=>by show q+i<q+(i+1); omega) (λi hi=>by show q+i<m; omega) (λi hi=>by
   obtain rfl:i=0:=by omega
   show 0<(if 0+1=0 then 0 else j);rw[if_neg .(2)];omega) λi hi=>by
   show (if i=0 then 0 else j)<n;split <;> omega
 have e:mi A 2 (λr=>q+r) (λc=>if c=0 then 0 else j)=A q 0*A (q+1) j-A q j*A (q+1) 0:=by
   unfold mi;rw[Az];rfl
 rw[e,h0]at d;have a:=H.nn (i:=q) (j:=j) .(0) hj;have b:=H.nn (i:=q+1) (j:=0) hq .(0);generalize A q j=x at d a ⊢;generalize A (q+1) 0=y at d b h1 ⊢
 have:x*y=0:=by
   have:=K2 a b;grind
 rcases KH.mp this with z | z
 . exact z
 . exact absurd z h1
noncomputable def swp (q i:Nat):Nat:=if i=q then q+1 else if i=q+1 then q else i
theorem Tnn.swap (H:Tnn m n A)(hq:q+1<m)(h0:∀j,j<n->A q j=0):Tnn m n λi j=>A (swp q i) j:=λk ρ γ h1 h2 h3 h4=>by
 by_cases ex:∃c,c<k/\ρ c=q+1
 . obtain⟨p,hp,ep⟩:=ex
   have:mi (λi j=>A (swp q i) j) k ρ γ=0:=by
     rw[<- (cf k).yP (λr c=>A (swp q (ρ r)) (γ c)) hp];refine aF λi hi j hj=>?_
     unfold aB;split
     . rename_i z;rw[z,ep];show A (swp q (q+1)) (γ j)=0;rw[show swp q (q+1)=q by unfold swp; rw[if_neg .(0),if_pos rfl]];exact h0 _ (h4 j hj)
     . rfl
   rw[this];exact Km
 . refine H k (λr=>swp q (ρ r)) γ (λi hi=>?_) (λi hi=>?_) h3 h4
   . have:=h1 i hi;have n1:ρ i≠q+1:=λz=>ex ⟨i,by omega,z⟩
     have n2:ρ (i+1)≠q+1:=λz=>ex ⟨i+1,hi,z⟩
     show swp q (ρ i)<swp q (ρ (i+1));unfold swp;rw[if_neg n1,if_neg n2];split <;> split <;> omega
   . have:=h2 i hi;show swp q (ρ i)<m;unfold swp;split
     . omega
     . split <;> omega
end
noncomputable def tkF (g:Nat->Nat->Rat)(i k:Nat):Nat->Nat->Rat:=λa b=>if a=i+1 then g (i+1) b-g (i+1) k/g i k*g i b else g a b
noncomputable def lfF (g:Nat->Nat->Rat)(i:Nat):Nat->Nat->Rat:=λa b=>g (swp i a) b
noncomputable def de (k i:Nat)(g:Nat->Nat->Rat):Nat->Nat->Rat:=if g (i+1) k=0 then g else if g i k=0 then lfF g i else tkF g i k
noncomputable def fI (k i:Nat)(g:Nat->Nat->Rat):List Stp:=if g (i+1) k=0 then [] else if g i k=0 then [("weigh",i,0),("up",i,1)] else [("up",i,g (i+1) k/g i k)]
noncomputable def clG (k:Nat):Nat->(Nat->Nat->Rat)->Nat->Nat->Rat
 | 0,g=>g
 | d+1,g=>clG k d (de k (k+d) g)
noncomputable def clS (k:Nat):Nat->(Nat->Nat->Rat)->List Stp
 | 0,_=>[]
 | d+1,g=>fI k (k+d) g++clS k d (de k (k+d) g)
structure Bl (n k:Nat)(g:Nat->Nat->Rat):Prop where
 off:∀i,i<n->∀j,j<n->i≠j->(i<k\/j<k)->g i j=0
 tn:Tnn (n-k) (n-k) λi j=>g (k+i) (k+j)
theorem Bl.tr (h:Bl n k g):Bl n k λi j=>g j i:=⟨λi hi j hj ne o=>h.off j hj i hi (ID ne) o.symm,h.tn.tr⟩
theorem pC :swp q q=q+1:=if_pos rfl
theorem jW :swp q (q+1)=q:=by unfold swp; rw[if_neg .(0),if_pos rfl]
theorem fQ (h:a≠q)(h':a≠q+1):swp q a=a:=by unfold swp; rw[if_neg h,if_neg h']
theorem EM (k q a:Nat):swp (k+q) (k+a)=k+swp q a:=by
 unfold swp;by_cases h:a=q
 . rw[if_pos h,if_pos .(0)]; omega
 . rw[if_neg h,if_neg .(0)];by_cases h2:a=q+1
   . rw[if_pos h2,if_pos .(0)]
   . rw[if_neg h2,if_neg .(0)]
theorem xn {q:Rat}(h:0<=q):0<=q.num:=Rat.num_nonneg.mpr h
theorem Dl {x y:Rat}(hx:0<=x)(hy:0<=y):0<=x/y:=by
 rcases LL.mp hy with h | h
 . have ne:y≠0:=λz=>by rw[z]at h; exact absurd h .(2)
   have e:y*(x/y)=x:=by rw[JK]; exact Jq ne
   refine K3 (c:=y) ?_ h;rw[e,Ie];exact hx
 . rw[<- h,Rat.div_def,Rat.inv_zero,Ie];exact Km
section
variable {n k:Nat}{g:Nat->Nat->Rat}
theorem Bl.nn (h:Bl n k g)(hi:k<=i)(hin:i<n)(hj:k<=j)(hjn:j<n):0<=g i j:=by
 have:=h.tn.nn (i:=i-k) (j:=j-k) .(0) .(0);rw[show k+(i-k)=i by omega,show k+(j-k)=j by omega]at this;exact this
theorem Bl.zF (h:Bl n k g)(hk:k<=i)(hi:i+1<n)(h0:g i k=0)(h1:g (i+1) k≠0):∀b,b<n->g i b=0:=λb hb=>by
 by_cases e:b<k
 . exact h.off i .(0) b hb .(0) (.inr e)
 . have:=h.tn.zF (q:=i-k) .(0) (by rw[show k+(i-k)=i by omega]; exact h0) (by rw[show k+(i-k+1)=i+1 by omega]; exact h1) (j:=b-k) .(0);rw[show k+(i-k)=i by omega,show k+(b-k)=b by omega]at this;exact this
structure One (n k d:Nat)(g g':Nat->Nat->Rat)(ss:List Stp):Prop where
 bl:Bl n k g'
 z:∀i,k+d<i->i<n->g' i k=0
 eq:Eqn n (act ss g') g
 ok:∀st∈ss,okS n st
 keep:g k k≠0->∀b,g' k b=g k b
theorem xP (h:Bl n k g)(hd:k+d+1<n)(hz:∀i,k+d+1<i->i<n->g i k=0):One n k d g (de k (k+d) g) (fI k (k+d) g):=by
 unfold de fI;by_cases e1:g (k+d+1) k=0
 . rw[if_pos e1,if_pos e1];exact⟨h,λi h1 h2=>(if e:i=k+d+1 then by rw[e]; exact e1 else hz i .(0) h2),Eqn.refl g,λ_ z=>(nomatch z),λ_ _=>rfl⟩
 rw[if_neg e1,if_neg e1];by_cases e2:g (k+d) k=0
 . rw[if_pos e2,if_pos e2];have hg:=h.zF (i:=k+d) .(0) hd e2 e1;refine⟨⟨λi hi j hj ne o=>?_,?_⟩,λi h1 h2=>?_,λi hi j hj=>?_,λst m=>?_,λnz b=>?_⟩
   . show g (swp (k+d) i) j=0;by_cases a:i=k+d
     . rw[a,pC];exact h.off _ hd j hj .(0) (.inr .(0))
     . by_cases b:i=k+d+1
       . rw[b,jW];exact hg j hj
       . rw[fQ a b];exact h.off i hi j hj ne o
   . refine(h.tn.swap (q:=d) .(0) λj hj=>hg _ .(0)).congr λi hi j hj=>?_
     show g (k+swp d i) (k+j)=g (swp (k+d) (k+i)) (k+j);rw[EM]
   . show g (swp (k+d) i) k=0;by_cases b:i=k+d+1
     . rw[b,jW]; exact e2
     . rw[fQ .(0) b]; exact hz i .(0) h2
   . show bkV (bkV (lfF g (k+d)) ("up",k+d,1)) ("weigh",k+d,0) i j=g i j;have n1:¬(("up" : Str) = "weigh"):=by decide
     have n2:¬(("up" : Str) = "down"):=by decide
     unfold bkV gr rgS rgE;simp only[if_neg n1,if_neg n2,if_true];by_cases a:i=k+d
     . subst a;simp only[if_true];rw[hg j hj,Iq]
     . by_cases b:i=k+d+1
       . subst b;simp only[if_neg a,if_true];show g (swp (k+d) (k+d+1)) j+1*g (swp (k+d) (k+d)) j=_;rw[jW,pC,hg j hj,JU,IC]
       . simp only[if_neg a,if_neg b];show g (swp (k+d) i) j=_;rw[fQ a b]
   . simp only[HA,Jf,or_false]at m;rcases m with rfl | rfl
     . exact⟨(by decide:(0:Int)<=(0:Rat).num),.inl ⟨rfl,by show k+d<n; omega⟩⟩
     . exact⟨(by decide:(0:Int)<=(1:Rat).num),.inr ⟨.inr rfl,hd⟩⟩
   . show g (swp (k+d) k) b=g k b;have:d≠0:=λz=>nz (by rw[z]at e2; exact e2)
     rw[fQ .(0) .(0)]
 . rw[if_neg e2,if_neg e2];refine⟨⟨λi hi j hj ne o=>?_,?_⟩,λi h1 h2=>?_,λi hi j hj=>?_,λst m=>?_,λnz b=>?_⟩
   . unfold tkF;by_cases b:i=k+d+1
     . rw[if_pos b,h.off (k+d+1) hd j hj .(0) (.inr .(0)),h.off (k+d) .(0) j hj .(0) (.inr .(0)),Ie];grind
     . rw[if_neg b];exact h.off i hi j hj ne o
   . refine(h.tn.whR (q:=d) .(0) .(0) (λi h1 h2=>hz (k+i) .(0) .(0)) e2).congr λi hi j hj=>?_
     show (if i=d+1 then g (k+(d+1)) (k+j)-g (k+(d+1)) (k+0)/g (k+d) (k+0)*g (k+d) (k+j) else g (k+i) (k+j))=(if k+i=k+d+1 then g (k+d+1) (k+j)-g (k+d+1) k/g (k+d) k*g (k+d) (k+j) else g (k+i) (k+j));by_cases b:i=d+1
     . rw[if_pos b,if_pos .(0)];rfl
     . rw[if_neg b,if_neg .(0)]
   . unfold tkF;by_cases b:i=k+d+1
     . rw[if_pos b];grind
     . rw[if_neg b];exact hz i .(0) h2
   . show bkV (tkF g (k+d) k) ("up",k+d,g (k+d+1) k/g (k+d) k) i j=g i j;have n1:¬(("up" : Str) = "weigh"):=by decide
     have n2:¬(("up" : Str) = "down"):=by decide
     unfold bkV gr rgS rgE tkF;simp only[if_neg n1,if_neg n2];by_cases b:i=k+d+1
     . subst b;simp only[if_true];rw[if_neg .(0)];grind
     . simp only[if_neg b]
   . simp only[HA,Jf,or_false]at m;subst m;exact⟨xn (Dl (h.nn .(0) hd .(3) .(0)) (h.nn .(0) .(0) .(3) .(0))),.inr ⟨.inr rfl,hd⟩⟩
   . unfold tkF;rw[if_neg .(0)]
theorem iC:∀(d:Nat) (g:Nat->Nat->Rat),Bl n k g->k+d<n->(∀i,k+d<i->i<n->g i k=0)->One n k 0 g (clG k d g) (clS k d g)
 | 0,g,h,_,hz=>⟨h,hz,Eqn.refl g,λ_ z=>(nomatch z),λ_ _=>rfl⟩
 | d+1,g,h,hd,hz=>by
   have o:=xP h hd hz;have r:=iC d (de k (k+d) g) o.bl .(0) o.z;refine⟨r.bl,r.z,?_,λst m=>?_,λnz b=>?_⟩
   . show Eqn n (act (fI k (k+d) g++clS k d (de k (k+d) g)) _) g;rw[eD];exact(hG r.eq _ o.ok).trans o.eq
   . rcases x3.mp m with m | m
     . exact o.ok st m
     . exact r.ok st m
   . have e:=o.keep nz;exact(r.keep (by rw[e]; exact nz) b).trans (e b)
theorem gW:∀(d:Nat) (g:Nat->Nat->Rat),(∀i,k<i->i<=k+d->g i k=0)->clG k d g=g/\clS k d g=[]
 | 0,g,_=>⟨rfl,rfl⟩
 | d+1,g,h=>by
   have e:g (k+d+1) k=0:=h _ .(0) .(0);have r:=gW d g λi h1 h2=>h i h1 .(0)
   unfold clG clS de fI;rw[if_pos e,if_pos e,r.1,r.2];exact⟨rfl,rfl⟩
theorem qh (k i:Nat)(g:Nat->Nat->Rat):(fI k i g).length<=2:=by
 unfold fI;split
 . exact HL _
 . split
   . exact Ia 2
   . exact Lg 1
theorem ja:∀(d:Nat) (g:Nat->Nat->Rat),(clS k d g).length<=2*d
 | 0,_=>Ia _
 | d+1,g=>by
   have a:=qh k (k+d) g;have b:=ja d (de k (k+d) g);unfold clS;rw[vp];omega
end
noncomputable def trF (g:Nat->Nat->Rat):Nat->Nat->Rat:=λi j=>g j i
noncomputable def st1 (n k:Nat)(g:Nat->Nat->Rat):Nat->Nat->Rat:=clG k (n-1-k) g
noncomputable def st2 (n k:Nat)(g:Nat->Nat->Rat):Nat->Nat->Rat:=trF (clG k (n-1-k) (trF (st1 n k g)))
noncomputable def st3 (n k:Nat)(g:Nat->Nat->Rat):Nat->Nat->Rat:=clG k (n-1-k) (st2 n k g)
noncomputable def stA (n k:Nat)(g:Nat->Nat->Rat):List Stp:=clS k (n-1-k) g++clS k (n-1-k) (st2 n k g)
noncomputable def stB (n k:Nat)(g:Nat->Nat->Rat):List Stp:=clS k (n-1-k) (trF (st1 n k g))
theorem hV :∀(d:Nat) (g:Nat->Nat->Rat),(∃i,k<=i/\i<=k+d/\g i k≠0)->clG k d g k k≠0
 | 0,g,⟨i,h1,h2,h3⟩=>by
   obtain rfl:i=k:=by omega
   exact h3
 | d+1,g,⟨i,h1,h2,h3⟩=>by
   refine hV d (de k (k+d) g) ?_;unfold de;by_cases e1:g (k+d+1) k=0
   . rw[if_pos e1];refine⟨i,h1,?_,h3⟩;have:i≠k+d+1:=λz=>h3 (by rw[z]; exact e1)
     omega
   . rw[if_neg e1];refine⟨k+d,by omega,Ia _,?_⟩;by_cases e2:g (k+d) k=0
     . rw[if_pos e2];show g (swp (k+d) (k+d)) k≠0;rw[pC];exact e1
     . rw[if_neg e2];show (if k+d=k+d+1 then _ else g (k+d) k)≠0;rw[if_neg .(0)];exact e2
structure Stg (n k:Nat)(g:Nat->Nat->Rat):Prop where
 bl:Bl n (k+1) (st3 n k g)
 eq:Eqn n (act (stA n k g) (eg (stB n k g) (st3 n k g))) g
 ok:∀st∈stA n k g++stB n k g,okS n st
theorem Dw (h:Bl n k g)(hk:k<n):Stg n k g:=by
 have c1:=iC (n-1-k) g h .(0) λi h1 h2=>by omega
 have c2:=iC (n-1-k) (trF (st1 n k g)) c1.bl.tr .(0) λi h1 h2=>by omega
 have b2:Bl n k (st2 n k g):=c2.bl.tr;have c3:=iC (n-1-k) (st2 n k g) b2 .(0) λi h1 h2=>by omega
 have row2:∀j,k<j->j<n->st2 n k g k j=0:=λj h1 h2=>c2.z j .(0) h2
 have row3:∀j,k<j->j<n->st3 n k g k j=0:=λj h1 h2=>by
   by_cases nz:st2 n k g k k=0
   . have none:∀i,k<i->i<=k+(n-1-k)->st2 n k g i k=0:=λi i1 i2=>by
       have hr:∀j,k<=j->j<n->st1 n k g k j=0:=λj j1 j2=>HM λne=>hV (n-1-k) (trF (st1 n k g)) ⟨j,j1,by omega,ne⟩ nz
       have e:=(gW (k:=k) (n-1-k) (trF (st1 n k g)) λi i1 i2=>hr i .(0) .(0)).1;show trF (clG k (n-1-k) (trF (st1 n k g))) i k=0;rw[e];exact c1.z i .(0) .(0)
     have e:=(gW (k:=k) (n-1-k) (st2 n k g) none).1;show clG k (n-1-k) (st2 n k g) k j=0;rw[e];exact row2 j h1 h2
   . show clG k (n-1-k) (st2 n k g) k j=0;rw[c3.keep nz j];exact row2 j h1 h2
 refine⟨⟨λi hi j hj ne o=>?_,?_⟩,?_,λst m=>?_⟩
 . by_cases a:i<k\/j<k
   . exact c3.bl.off i hi j hj ne a
   . by_cases b:i=k
     . rw[b];exact row3 j .(0) hj
     . have:j=k:=by omega
       rw[this];exact c3.z i .(0) hi
 . have t:=c3.bl.tn;refine λl ρ γ h1 h2 h3 h4=>?_
   have:=t l (λi=>1+ρ i) (λi=>1+γ i) (λi hi=>by have:=h1 i hi; show 1+ρ i<1+ρ (i+1); omega) (λi hi=>by have:=h2 i hi; show 1+ρ i<n-k; omega) (λi hi=>by have:=h3 i hi; show 1+γ i<1+γ (i+1); omega) λi hi=>by have:=h4 i hi; show 1+γ i<n-k; omega
   have e:mi (λi j=>st3 n k g (k+1+i) (k+1+j)) l ρ γ=mi (λi j=>clG k (n-1-k) (st2 n k g) (k+i) (k+j)) l (λi=>1+ρ i) λi=>1+γ i:=by
     unfold mi;refine aF λi _ j _=>?_
     show st3 n k g (k+1+ρ i) (k+1+γ j)=st3 n k g (k+(1+ρ i)) (k+(1+γ j));rw[JN,JN]
   rw[e];exact this
 . unfold stA;rw[eD,<- jq];have e3:Eqn n (act (clS k (n-1-k) (st2 n k g)) (st3 n k g)) (st2 n k g):=c3.eq;have o3:∀st∈clS k (n-1-k) (st2 n k g),okS n st:=c3.ok;have o2:∀st∈stB n k g,okS n st:=c2.ok;have e2:Eqn n (eg (stB n k g) (st2 n k g)) (st1 n k g):=λi hi j hj=>c2.eq j hj i hi
   exact(hG ((mD e3 _ o2).trans e2) _ c1.ok).trans c1.eq
 . unfold stA at m;rcases x3.mp m with m | m
   . rcases x3.mp m with m | m
     . exact c1.ok st m
     . exact c3.ok st m
   . exact c2.ok st m
noncomputable def apF (n:Nat)(A:Nat->Nat->Rat):Nat->(Nat->Nat->Rat)×List Stp×List Stp
 | 0=>(A,[],[])
 | k+1=>let r:=apF n A k; (st3 n k r.1,r.2.1++stA n k r.1,r.2.2++stB n k r.1)
noncomputable def crS (n:Nat)(g:Nat->Nat->Rat):List Stp:=(ox n).map λk=>("weigh",k,g k k)
noncomputable def apS (n:Nat)(A:Nat->Nat->Rat):List Stp:=(apF n A n).2.1++(crS n (apF n A n).1++(apF n A n).2.2.reverse.map trn)
structure Apo (n k:Nat)(A:Nat->Nat->Rat):Prop where
 bl:Bl n k .(113).1
 eq:Eqn n (act .(113).2.1 (eg .(113).2.2 .(113).1)) A
 ok:∀st∈.(113).2.1++.(113).2.2,okS n st
 nn:∀i,i<k->i<n->0<=.(113).1 i i
theorem yS (h:Bl n k g)(hk:k<n)(hi:i<k):st3 n k g i i=g i i:=by
 have low:∀d g j,k+d<n->clG k d g i j=g i j:=λd=>by
   induction d with
   | zero=>intro g j _; rfl
   | succ d ih=>
     intro g j hd;show clG k d (de k (k+d) g) i j=_;rw[ih _ _ .(0)];unfold de;split
     . rfl
     . split
       . show g (swp (k+d) i) j=_;rw[fQ .(0) .(0)]
       . unfold tkF;rw[if_neg .(0)]
 show clG k (n-1-k) (st2 n k g) i i=_;rw[low _ _ _ .(0)];show clG k (n-1-k) (trF (st1 n k g)) i i=_;rw[low _ _ _ .(0)];show clG k (n-1-k) g i i=_;rw[low _ _ _ .(0)]
theorem vk (H:Tnn n n A):∀k,k<=n->Apo n k A
 | 0,_=>⟨⟨λi _ j _ _ o=>absurd o .(0),H.congr λi _ j _=>by rw[J9,J9]; rfl⟩,Eqn.refl A,λ_ z=>(nomatch z),λi hi=>absurd hi .(6)⟩
 | k+1,hk=>by
   have r:=vk H k .(0);have s:=Dw r.bl .(0);have ro:∀st∈.(113).2.1,okS n st:=λst m=>r.ok st (HE _ m)
   have rb:∀st∈.(113).2.2,okS n st:=λst m=>r.ok st (tf _ m)
   refine⟨s.bl,?_,λst m=>?_,λi hi hin=>?_⟩
   . show Eqn n (act (.(113).2.1++stA n k .(113).1) (eg (.(113).2.2++stB n k .(113).1) (st3 n k .(113).1))) A;rw[eD,qP,<- jq (stA n k .(113).1)];exact(hG (mD s.eq _ rb) _ ro).trans r.eq
   . have m:st∈(.(113).2.1++stA n k .(113).1)++(.(113).2.2++stB n k .(113).1):=m;rcases x3.mp m with m | m
     . rcases x3.mp m with m | m
       . exact ro st m
       . exact s.ok st (HE _ m)
     . rcases x3.mp m with m | m
       . exact rb st m
       . exact s.ok st (tf _ m)
   . show 0<=st3 n k .(113).1 i i;by_cases e:i=k
     . rw[e];have b2:Bl n k (st2 n k .(113).1):=(iC (n-1-k) (trF (st1 n k .(113).1)) (iC (n-1-k) .(113).1 r.bl .(0) λi h1 h2=>by omega).bl.tr .(0) λi h1 h2=>by omega).bl.tr;exact(iC (n-1-k) _ b2 .(0) λi h1 h2=>by omega).bl.nn .(3) .(0) .(3) .(0)
     . rw[yS r.bl .(0) .(0)];exact r.nn i .(0) hin
theorem wY (f:Nat->Rat)(L:Nat->Nat->Rat):∀m,act ((ox m).map λk=>(("weigh",k,f k):Stp)) L=λi j=>if i<m then f i*L i j else L i j
 | 0=>by funext i j; rw[if_neg .(6)]; rfl
 | m+1=>by
   rw[Iz,HB,eD,wY f _ m];funext i j;show (if i<m then f i*bkV L ("weigh",m,f m) i j else bkV L ("weigh",m,f m) i j)=_
   have e:bkV L (("weigh",m,f m):Stp) i j=if i=m then f m*L m j else L i j:=by
     unfold bkV gr;simp only[if_true];split <;> rfl
   rw[e];by_cases a:i<m
   . rw[if_pos a,if_neg .(0),if_pos .(0)]
   . rw[if_neg a];by_cases b:i=m
     . rw[if_pos b,if_pos .(0),b]
     . rw[if_neg b,if_neg .(0)]
theorem wN {st:Stp}(h:okS n st):st.1 = "weigh" \/ st.1 = "down" \/ st.1 = "up":=by
 rcases h.2 with ⟨e,_⟩ | ⟨e,_⟩
 . exact .inl e
 . exact .inr e
theorem AH {st:Stp}(h:okS n st):okS n (trn st):=by
 unfold trn;rcases h.2 with ⟨e,_⟩ | ⟨e,z⟩
 . rw[if_pos e]; exact h
 . rcases e with e | e
   . rw[if_neg (by rw[e]; decide),if_pos e];exact⟨h.1,.inr ⟨.inr rfl,z⟩⟩
   . rw[if_neg (by rw[e]; decide),if_neg (by rw[e]; decide)];exact⟨h.1,.inr ⟨.inl rfl,z⟩⟩
theorem yv (H:Tnn n n A):Eqn n (bwd (apS n A)) A/\∀st∈apS n A,okS n st:=by
 have r:=vk H n .(3);have ro:∀st∈(apF n A n).2.1,okS n st:=λst m=>r.ok st (HE _ m)
 have rb:∀st∈(apF n A n).2.2,okS n st:=λst m=>r.ok st (tf _ m)
 have rc:∀st∈crS n (apF n A n).1,okS n st:=λst m=>by
   unfold crS at m;obtain⟨k,hk,rfl⟩:=Hu.mp m;have hk:=HN.mp hk;exact⟨xn (r.nn k hk hk),.inl ⟨rfl,hk⟩⟩
 refine⟨?_,λst m=>?_⟩
 . rw[A3];unfold apS;rw[eD,eD,<- ur _ λs m=>wN (rb s m),<- jq];refine(hG (mD ?_ _ rb) _ ro).trans r.eq;intro i hi j hj;unfold crS;rw[wY (λk=>(apF n A n).1 k k)];show (if i<n then (apF n A n).1 i i*V0 i j else V0 i j)=_;rw[if_pos hi];unfold V0;by_cases e:i=j
   . rw[if_pos e.symm,e];exact JE _
   . rw[if_neg (ID e),Ie];exact(r.bl.off i hi j hj e (.inl hi)).symm
 . unfold apS at m;rcases x3.mp m with m | m
   . exact ro st m
   . rcases x3.mp m with m | m
     . exact rc st m
     . obtain⟨s,hs,rfl⟩:=Hu.mp m;exact AH (rb s (Lj.mp hs))
theorem Ao (n k:Nat)(g:Nat->Nat->Rat):(stA n k g).length<=4*(n-1-k):=by
 unfold stA;rw[vp];have a:=ja (k:=k) (n-1-k) g;have b:=ja (k:=k) (n-1-k) (st2 n k g);omega
theorem tQ (n:Nat)(A:Nat->Nat->Rat):∀k,k<=n->.(113).2.1.length<=4*(n*k)/\.(113).2.2.length<=2*(n*k)
 | 0,_=>⟨HL _,HL _⟩
 | k+1,h=>by
   have r:=tQ n A k .(0);have a:=Ao n k .(113).1;have b:=ja (k:=k) (n-1-k) (trF (st1 n k .(113).1));have e:n*(k+1)=n*k+n:=Nat.mul_succ ..;constructor
   . show (.(113).2.1++stA n k .(113).1).length<=_;rw[vp,e];omega
   . show (.(113).2.2++stB n k .(113).1).length<=_;unfold stB;rw[vp,e];omega
theorem zZ (hn:n<=7)(A:Nat->Nat->Rat):(apS n A).length<=400:=by
 obtain⟨a,b⟩:=tQ n A n .(3);have:n*n<=49:=IV hn hn;unfold apS crS;rw[vp,vp,bp,bp,Iw,Jk];omega
def bC (n:Nat)(A:Nat->Nat->Rat)(l u:Nat)(v:Nat->Rat):Prop:=∃y:Nat->Rat,∀c,c<n->v c=aA (λx=>if l<=x then y x*A x c else 0) u
section
variable {n:Nat}{A:Nat->Nat->Rat}{l u:Nat}{v w:Nat->Rat}
theorem bC.congr (h:bC n A l u v)(e:∀c,c<n->w c=v c):bC n A l u w:=by
 obtain⟨y,hy⟩:=h;exact⟨y,λc hc=>(e c hc).trans (hy c hc)⟩
theorem bC.zero:bC n A l u λ_=>0:=⟨λ_=>0,λc _=>by
 symm;refine bq λx _=>?_
 split
 . exact Iq _
 . rfl⟩
theorem bC.lin (h:bC n A l u v)(g:bC n A l u w)(a b:Rat):bC n A l u λc=>a*v c+b*w c:=by
 obtain⟨y,hy⟩:=h;obtain⟨z,hz⟩:=g;refine⟨λx=>a*y x+b*z x,λc hc=>?_⟩;show a*v c+b*w c=_;rw[hy c hc,hz c hc,a5,a5,<- df];refine ar λx _=>?_
 by_cases e:l<=x
 . rw[if_pos e,if_pos e,if_pos e]; grind
 . rw[if_neg e,if_neg e,if_neg e]; grind
theorem bC.mem (h1:l<=x)(h2:x<u):bC n A l u (A x):=⟨λz=>if z=x then 1 else 0,λc _=>by
 have e:aA (λz=>if l<=z then (if z=x then (1:Rat) else 0)*A z c else 0) u=aA (λz=>A z c*dq z x) u:=ar λz _=>by
   unfold dq;by_cases a:z=x
   . rw[if_pos a,if_pos .(0)]; grind
   . rw[if_neg a];split
     . grind
     . grind
 rw[e,bJ _ _ _ h2]⟩
theorem bC.snoc (h:bC n A l (u+1) v):∃a w,bC n A l u w/\(∀c,c<n->v c=a*A u c+w c)/\(u<l->a=0):=by
 obtain⟨y,hy⟩:=h;refine⟨if l<=u then y u else 0,λc=>aA (λx=>if l<=x then y x*A x c else 0) u,⟨y,λc _=>rfl⟩,λc hc=>?_,λe=>if_neg .(0)⟩;rw[hy c hc,aA,Rat.add_comm];split
 . rfl
 . rw[Iq]
theorem bC.trans (g:∀x,l'<=x->x<u'->bC n A l u (A x)):∀{v:Nat->Rat},bC n A l' u' v->bC n A l u v:=by
 induction u' with
 | zero=>
   intro v ⟨y,hy⟩;exact bC.zero.congr hy
 | succ u' ih=>
   intro v h;obtain⟨a,w,hw,e,z⟩:=h.snoc;have hw:=ih (λx h1 h2=>g x h1 .(0)) hw;by_cases q:l'<=u'
   . refine((g u' q .(0)).lin hw a 1).congr λc hc=>?_
     rw[e c hc,IC]
   . refine hw.congr λc hc=>?_
     rw[e c hc,z .(0),Iq,JU]
theorem bC.mono (h:bC n A l u v)(h1:l'<=l)(h2:u<=u'):bC n A l' u' v:=h.trans λx a b=>bC.mem .(0) .(0)
end
noncomputable def vec (n:Nat)(A φ:Nat->Nat->Rat)(i c:Nat):Rat:=aA (λr=>φ i r*A r c) n
def Al (n:Nat)(A φ:Nat->Nat->Rat)(i:Nat):Prop:=∃c,c<n/\vec n A φ i c≠0
structure fu (n:Nat)(A φ:Nat->Nat->Rat)(o l b:Nat->Nat):Prop where
 on:∀i,i<n->o i<n
 sur:∀r,r<n->∃i,i<n/\o i=r
 one:∀i,i<n->φ i (o i)=1
 hi:∀i,i<n->∀r,o i<r->φ i r=0
 lo:∀i,i<n->∀r,r<l i->φ i r=0
 ord:∀i j,i<j->j<n->Al n A φ i->Al n A φ j->o i<o j/\l i<=l j
 van:∀i,i<n->∀c,c<b i->c<n->vec n A φ i c=0
 inj:∀i,i<n->Al n A φ i->∀v,bC n A (l i) (o i) v->(∀c,c<b i->c<n->v c=0)->∀c,c<n->v c=0
 ded:∀i,i<n->Al n A φ i->∀j,j<n->¬Al n A φ j->o i<o j->bC n A (l i) (o j) (A (o j))
noncomputable def upA {α:Type}(f:Nat->α)(i:Nat)(x:α):Nat->α:=λj=>if j=i then x else f j
theorem cn :upA f i x i=x:=if_pos rfl
theorem b8 (h:j≠i):upA f i x j=f j:=if_neg h
section
variable {n:Nat}{A φ:Nat->Nat->Rat}{o l b:Nat->Nat}
theorem fu.start (n:Nat)(A:Nat->Nat->Rat):fu n A (λi r=>if i=r then 1 else 0) (λi=>i) (λi=>i) λ_=>0:=by
 have ve:∀i,i<n->∀c,vec n A (λi r=>if i=r then (1:Rat) else 0) i c=A i c:=λi hi c=>lU (λr=>A r c) i n hi
 refine⟨λi h=>h,λr h=>⟨r,h,rfl⟩,λi _=>if_pos rfl,λi _ r h=>if_neg .(0),λi _ r h=>if_neg .(0),λi j h _ _ _=>⟨h,by omega⟩,λ_ _ _ h=>absurd h .(6),λi _ _ v ⟨y,hy⟩ _ c hc=>?_,λi hi _ j hj nd lt=>?_⟩
 . rw[hy c hc];exact bq λx hx=>if_neg .(0)
 . refine bC.zero.congr λc hc=>?_
   refine HM λne=>nd ⟨c,hc,?_⟩
   rw[ve j hj];exact ne
theorem fu.le (h:fu n A φ o l b)(hi:i<n):l i<=o i:=by
 refine HM λne=>?_
 have a:=h.one i hi;rw[h.lo i hi _ .(0)]at a;exact absurd a .(2)
theorem fu.sup (h:fu n A φ o l b)(hi:i<n):bC n A (l i) (o i) λc=>vec n A φ i c-A (o i) c:=by
 refine⟨λx=>φ i x,λc hc=>?_⟩;have on:=h.on i hi
 have e1:∀m,m<=n->o i<m->aA (λr=>φ i r*A r c) m=aA (λr=>φ i r*A r c) (o i+1):=λm=>by
   induction m with
   | zero=>intro _ z; exact absurd z .(6)
   | succ m ih=>
     intro h1 h2;by_cases e:m=o i
     . rw[e]
     . rw[aA,ih .(0) .(0),h.hi i hi m .(0),Iq,Ir]
 show vec n A φ i c-A (o i) c=_;unfold vec;rw[e1 n .(3) on,aA,h.one i hi]
 have e2:aA (λr=>φ i r*A r c) (o i)=aA (λx=>if l i<=x then φ i x*A x c else 0) (o i):=ar λx hx=>by
   by_cases e:l i<=x
   . rw[if_pos e]
   . rw[if_neg e,h.lo i hi x .(0),Iq]
 rw[e2];grind
theorem fu.EU (h:fu n A φ o l b)(hi:i<n):bC n A (l i) (o i+1) (vec n A φ i):=by
 have a:=(h.sup hi).mono .(3) (Lg (o i));have c:=bC.mem (n:=n) (A:=A) (l:=l i) (u:=o i+1) (x:=o i) (h.le hi) (J4 _);refine(a.lin c 1 1).congr λc hc=>?_
 show _=1*(vec n A φ i c-A (o i) c)+1*A (o i) c;grind
theorem pE (i:Nat)(f:Nat->Rat)(c:Nat)(h:j≠i):vec n A (upA φ i f) j c=vec n A φ j c:=by
 unfold vec;rw[b8 h]
theorem rY (i:Nat)(w:Rat)(c:Nat):vec n A (upA φ (i+1) λr=>φ (i+1) r-w*φ i r) (i+1) c=vec n A φ (i+1) c-w*vec n A φ i c:=by
 unfold vec;rw[cn,a5]
 have e:∀m,aA (λr=>(φ (i+1) r-w*φ i r)*A r c) m=aA (λr=>φ (i+1) r*A r c) m-aA (λk=>w*(φ i k*A k c)) m:=λm=>by
   induction m with
   | zero=>show (0:Rat)=0-0; grind
   | succ m ih=>rw[aA,aA,aA,ih]; grind
 exact e n
theorem fu.tk (h:fu n A φ o l b)(hi:i+1<n)(ai:Al n A φ i)(aj:Al n A φ (i+1))(hγ:γ<n)(z:∀c,c<γ->vec n A φ i c=0)(z':∀c,c<γ->vec n A φ (i+1) c=0)(p:vec n A φ i γ≠0)(bi:b i<=γ)(hw:vec n A φ (i+1) γ=w*vec n A φ i γ):
   fu n A (upA φ (i+1) λr=>φ (i+1) r-w*φ i r) o (upA l (i+1) (l i)) (upA b (i+1) (γ+1)):=by
 obtain⟨oi,li⟩:=h.ord i (i+1) .(0) hi ai aj
 have al:∀j,j≠i+1->(Al n A (upA φ (i+1) λr=>φ (i+1) r-w*φ i r) j↔Al n A φ j):=λj ne=>by
   unfold Al;simp only[pE (i+1) _ _ ne]
 have betw:∀x,o i<x->x<o (i+1)->bC n A (l i) x (A x):=λx h1 h2=>by
   have on:=h.on (i+1) hi;obtain⟨j,hj,rfl⟩:=h.sur x .(0);by_cases aj':Al n A φ j
   . exfalso;rcases Mb j i with q | q | q
     . have:=(h.ord j i q .(0) aj' ai).1; omega
     . subst q; omega
     . by_cases q2:j=i+1
       . subst q2; omega
       . have:=(h.ord (i+1) j .(0) hj aj aj').1; omega
   . exact h.ded i .(0) ai j hj aj' h1
 have down:∀u,u<=o (i+1)->∀v,bC n A (l i) u v->bC n A (l i) (o i+1) v:=λu=>by
   induction u with
   | zero=>intro _ v hv; exact hv.mono .(3) (HL _)
   | succ u ih=>
     intro hu v hv;by_cases q:u<=o i
     . exact hv.mono .(3) .(0)
     . obtain⟨a,w,hw,e,_⟩:=hv.snoc;refine((ih .(0) _ (betw u .(0) .(0))).lin (ih .(0) _ hw) a 1).congr λc hc=>?_
       rw[e c hc,IC]
 refine⟨h.on,h.sur,λj hj=>?_,λj hj r hr=>?_,λj hj r hr=>?_,λj j' lt hj' a1 a2=>?_,λj hj c h1 h2=>?_,λj hj a v hv hz=>?_,λj hj a j' hj' nd lt=>?_⟩
 . by_cases e:j=i+1
   . subst e;rw[cn,h.one (i+1) hi,h.hi i .(0) _ oi];grind
   . rw[b8 e]; exact h.one j hj
 . by_cases e:j=i+1
   . subst e;rw[cn,h.hi (i+1) hi r hr,h.hi i .(0) r .(0)];grind
   . rw[b8 e]; exact h.hi j hj r hr
 . by_cases e:j=i+1
   . subst e;rw[cn]at hr ⊢;rw[h.lo (i+1) hi r .(0),h.lo i .(0) r hr];grind
   . rw[b8 e]at hr ⊢; exact h.lo j hj r hr
 . by_cases e:j=i+1
   . subst e;rw[cn,b8 (show j'≠i+1 by omega)];have:=h.ord (i+1) j' lt hj' aj ((al j' .(0)).mp a2);exact⟨this.1,by omega⟩
   . by_cases e':j'=i+1
     . subst e';rw[cn,b8 e];have a1:=(al j e).mp a1;by_cases q:j=i
       . subst q; exact⟨oi,Ia _⟩
       . have:=h.ord j i .(0) .(0) a1 ai;exact⟨by omega,this.2⟩
     . rw[b8 e,b8 e'];exact h.ord j j' lt hj' ((al j e).mp a1) ((al j' e').mp a2)
 . by_cases e:j=i+1
   . subst e;rw[cn]at h1;rw[rY];by_cases q:c=γ
     . rw[q,hw]; grind
     . rw[z c .(0),z' c .(0)]; grind
   . rw[b8 e]at h1;rw[pE _ _ _ e];exact h.van j hj c h1 h2
 . by_cases e:j=i+1
   . subst e;rw[cn]at hv;rw[cn]at hz;obtain⟨a,w1,hw1,e1,_⟩:=(down _ .(3) v hv).snoc;have hu:bC n A (l i) (o i) λc=>1*w1 c+(-a)*(vec n A φ i c-A (o i) c):=hw1.lin (h.sup .(0)) 1 (-a)
     have zu:=h.inj i .(0) ai _ hu λc h1 h2=>by
       have y1:=hz c .(0) h2;rw[e1 c h2]at y1;have y2:=z c .(0);show 1*w1 c+(-a)*(vec n A φ i c-A (o i) c)=0;rw[y2];grind
     have vv:∀c,c<n->v c=a*vec n A φ i c:=λc hc=>by
       have y:1*w1 c+(-a)*(vec n A φ i c-A (o i) c)=0:=zu c hc;rw[e1 c hc];grind
     have a0:a=0:=by
       have y:=hz γ .(0) hγ;rw[vv γ hγ]at y;rcases KH.mp y with y | y
       . exact y
       . exact absurd y p
     intro c hc;rw[vv c hc,a0,Iq]
   . rw[b8 e]at hv hz;exact h.inj j hj ((al j e).mp a) v hv hz
 . by_cases e:j=i+1
   . subst e;rw[cn];have ne:j'≠i+1:=λq=>by subst q; omega
     exact(h.ded (i+1) hi aj j' hj' (λq=>nd ((al j' ne).mpr q)) lt).mono li .(3)
   . rw[b8 e];have a':=(al j e).mp a;by_cases e':j'=i+1
     . subst e'
       have lj:l j<=l i:=by
         rcases Mb j i with q | q | q
         . exact(h.ord j i q .(0) a' ai).2
         . rw[q]; exact Ia _
         . have:=(h.ord (i+1) j .(0) hj aj a').1; omega
       have z0:∀c,c<n->vec n A φ (i+1) c-w*vec n A φ i c=0:=λc hc=>HM λne=>nd ⟨c,hc,by rw[rY]; exact ne⟩
       have s1:=(h.sup hi).mono (l':=l i) li .(3);have s2:=(h.EU (i:=i) .(0)).mono (l':=l i) (u':=o (i+1)) .(3) oi;refine((s1.lin s2 (-1) w).mono lj .(3)).congr λc hc=>?_
       have y:=z0 c hc;show A (o (i+1)) c=-1*(vec n A φ (i+1) c-A (o (i+1)) c)+w*vec n A φ i c;grind
     . exact h.ded j hj a' j' hj' (λq=>nd ((al j' e').mpr q)) lt
theorem cU (hi:i+1<n)(hj:j<n):swp i j<n:=by unfold swp; split <;> (try split) <;> omega
theorem AF (i j:Nat):swp i (swp i j)=j:=by
 unfold swp;by_cases h:j=i
 . rw[if_pos h,if_neg .(0),if_pos rfl]; omega
 . rw[if_neg h];by_cases h2:j=i+1
   . rw[if_pos h2,if_pos rfl]; omega
   . rw[if_neg h2,if_neg h,if_neg h2]
theorem fu.lf (h:fu n A φ o l b)(hi:i+1<n)(d:¬Al n A φ i):fu n A (λj=>φ (swp i j)) (λj=>o (swp i j)) (λj=>l (swp i j)) λj=>b (swp i j):=by
 have al:∀j,Al n A (λj=>φ (swp i j)) j↔Al n A φ (swp i j):=λj=>Iff.rfl
 refine⟨λj hj=>h.on _ (cU hi hj),λr hr=>?_,λj hj=>h.one _ (cU hi hj),λj hj=>h.hi _ (cU hi hj),λj hj=>h.lo _ (cU hi hj),λj j' lt hj' a1 a2=>?_,λj hj=>h.van _ (cU hi hj),λj hj=>h.inj _ (cU hi hj),λj hj a j' hj'=>h.ded _ (cU hi hj) a _ (cU hi hj')⟩
 . obtain⟨j,hj,e⟩:=h.sur r hr;exact⟨swp i j,cU hi hj,by rw[AF]; exact e⟩
 . have n1:swp i j≠i:=λe=>d (by have:=(al j).mp a1; rw[e]at this; exact this)
   have n2:swp i j'≠i:=λe=>d (by have:=(al j').mp a2; rw[e]at this; exact this)
   have q1:j≠i+1:=λe=>n1 (by rw[e]; exact jW)
   have q2:j'≠i+1:=λe=>n2 (by rw[e]; exact jW)
   refine h.ord _ _ ?_ (cU hi hj') a1 a2;unfold swp;rw[if_neg q1,if_neg q2];split <;> split <;> omega
end
structure Bas (n:Nat)(A:Nat->Nat->Rat)(l u b s:Nat)(ρ γ:Nat->Nat):Prop where
 rows:∀i,i<s->l<=ρ i/\ρ i<u
 cols:∀i,i<s->γ i<b/\γ i<n
 det0:det s (λi j=>A (ρ i) (γ j))≠0
 span:∀x,l<=x->x<u->∃y:Nat->Rat,∀c,c<n->A x c=aA (λi=>y i*A (ρ i) c) s
 len:s<=u
noncomputable def brd (A:Nat->Nat->Rat)(ρ γ:Nat->Nat)(s x:Nat)(i j:Nat):Rat:=A (if i<s then ρ i else x) (if j<s then γ j else j-s)
noncomputable def brc (A:Nat->Nat->Rat)(ρ γ:Nat->Nat)(s x i:Nat):Rat:=bc (brd A ρ γ s x) s s i
section
variable {n:Nat}{A:Nat->Nat->Rat}{ρ γ:Nat->Nat}{s x:Nat}
theorem uK:det s (brd A ρ γ s x)=det s λi j=>A (ρ i) (γ j):=aF λi hi j hj=>by
 unfold brd;rw[if_pos hi,if_pos hj]
noncomputable def rsd (A:Nat->Nat->Rat)(ρ γ:Nat->Nat)(s x c:Nat):Rat:=det s (λi j=>A (ρ i) (γ j))*A x c+aA (λi=>brc A ρ γ s x i*A (ρ i) c) s
theorem y8 (c:Nat):rsd A ρ γ s x c=bm (brd A ρ γ s x) s s (s+c):=by
 rw[sZ,uK];unfold rsd;congr 1
 . unfold brd;rw[if_neg .(0),if_neg .(0),Li]
 . refine ar λi hi=>?_
   unfold brc;congr 1;unfold brd;rw[if_pos hi,if_neg .(0),Li]
theorem wZ (hj:j<s):rsd A ρ γ s x (γ j)=0:=by
 have e:=sZ (Y:=brd A ρ γ s x) (k:=s) (p:=s) (q:=j);rw[uM hj,uK]at e;unfold rsd
 have e1:brd A ρ γ s x s j=A x (γ j):=by
   unfold brd;rw[if_neg .(0),if_pos hj]
 rw[e1]at e;rw[e];congr 1;refine ar λi hi=>?_
 unfold brc;congr 1;unfold brd;rw[if_pos hi,if_pos hj]
theorem bC.sum {l u n:Nat}{A:Nat->Nat->Rat}(y:Nat->Rat)(ρ:Nat->Nat):∀s,(∀i,i<s->l<=ρ i/\ρ i<u)->bC n A l u λc=>aA (λi=>y i*A (ρ i) c) s
 | 0,_=>bC.zero
 | s+1,h=>by
   have a:=bC.sum (l:=l) (u:=u) (n:=n) (A:=A) y ρ s λi hi=>h i .(0)
   have b:=bC.mem (n:=n) (A:=A) (h s .(0)).1 (h s .(0)).2;refine(a.lin b 1 (y s)).congr λc _=>?_
   show aA _ s+y s*A (ρ s) c=_;rw[IC]
end
theorem zj :∀u,(∀v,bC n A l u v->(∀c,c<b->c<n->v c=0)->∀c,c<n->v c=0)->∃s ρ γ,Bas n A l u b s ρ γ
 | 0,_=>⟨0,id,id,λ_ h=>absurd h .(6),λ_ h=>absurd h .(6),(by decide:(1:Rat)≠0),λ_ _ h=>absurd h .(6),Ia _⟩
 | u+1,h=>by
   by_cases lu:u<l
   . exact⟨0,id,id,λ_ h=>absurd h .(6),λ_ h=>absurd h .(6),(by decide:(1:Rat)≠0),λ_ h1 h2=>absurd h1 .(0),HL _⟩
   obtain⟨s,ρ,γ,B⟩:=zj u λv hv=>h v (hv.mono .(3) (Lg u))
   by_cases z:∀c,c<b->c<n->rsd A ρ γ s u c=0
   ·
     have ri:bC n A l (u+1) (rsd A ρ γ s u):=by
       have a:=bC.mem (n:=n) (A:=A) (l:=l) (u:=u+1) (x:=u) .(0) (J4 u);have c:=bC.sum (l:=l) (u:=u+1) (n:=n) (A:=A) (brc A ρ γ s u) ρ s λi hi=>⟨(B.rows i hi).1,by have:=(B.rows i hi).2; omega⟩
       refine(a.lin c (det s λi j=>A (ρ i) (γ j)) 1).congr λc _=>?_
       show rsd A ρ γ s u c=_*A u c+1*_;rw[IC];rfl
     have z0:=h _ ri z;refine⟨s,ρ,γ,λi hi=>⟨(B.rows i hi).1,by have:=(B.rows i hi).2; omega⟩,B.cols,B.det0,λx h1 h2=>?_,by have:=B.len; omega⟩;by_cases e:x=u
     . subst e;refine⟨λi=>-(brc A ρ γ s x i)/det s (λi j=>A (ρ i) (γ j)),λc hc=>?_⟩;have y:=z0 c hc;unfold rsd at y;have d0:=B.det0;refine ue d0 ?_;rw[a5]
       have e2:aA (λi=>det s (λi j=>A (ρ i) (γ j))*(-(brc A ρ γ s x i)/det s (λi j=>A (ρ i) (γ j))*A (ρ i) c)) s=-1*aA (λi=>brc A ρ γ s x i*A (ρ i) c) s:=by
         rw[a5];refine ar λi _=>?_
         generalize (det s λi j=>A (ρ i) (γ j))=D at d0 ⊢;generalize brc A ρ γ s x i=t;generalize A (ρ i) c=a;have:-t/D*D=-t:=Jq d0;generalize -t/D=q at this ⊢;grind
       rw[e2];grind
     . exact B.span x h1 .(0)
   ·
     obtain⟨c0,h1,h2,h3⟩:∃c0,c0<b/\c0<n/\rsd A ρ γ s u c0≠0:=HM λno=>z λc h1 h2=>HM λne=>no ⟨c,h1,h2,ne⟩
     refine⟨s+1,upA ρ s u,upA γ s c0,λi hi=>?_,λi hi=>?_,?_,λx x1 x2=>?_,by have:=B.len; omega⟩
     . by_cases e:i=s
       . rw[e,cn]; omega
       . rw[b8 e];have:=B.rows i .(0);omega
     . by_cases e:i=s
       . rw[e,cn]; exact⟨h1,h2⟩
       . rw[b8 e]; exact B.cols i .(0)
     . rw[y8]at h3
       have e:det (s+1) (λi j=>A (upA ρ s u i) (upA γ s c0 j))=bm (brd A ρ γ s u) s s (s+c0):=by
         unfold bm;refine aF λi hi j hj=>?_
         unfold brd
         have e1:(if (if i<s then i else s)<s then ρ (if i<s then i else s) else u)=upA ρ s u i:=by
           by_cases q:i<s
           . rw[if_pos q,if_pos q,b8 .(0)]
           . have:i=s:=by omega
             rw[if_neg q,if_neg .(0),this,cn]
         have e2:(if (if j<s then j else s+c0)<s then γ (if j<s then j else s+c0) else (if j<s then j else s+c0)-s)=upA γ s c0 j:=by
           by_cases q:j<s
           . rw[if_pos q,if_pos q,b8 .(0)]
           . have:j=s:=by omega
             rw[if_neg q,if_neg .(0),this,cn,Li]
         rw[e1,e2]
       rw[e];exact h3
     . by_cases e:x=u
       . subst e;refine⟨λi=>if i=s then 1 else 0,λc hc=>?_⟩;rw[aA,bq λi hi=>?_]
         . show A x c=0+(if s=s then (1:Rat) else 0)*A (upA ρ s x s) c;rw[if_pos rfl,cn,JU,IC]
         . show (if i=s then (1:Rat) else 0)*_=0;rw[if_neg .(0),Iq]
       . obtain⟨y,hy⟩:=B.span x x1 .(0);refine⟨λi=>if i=s then 0 else y i,λc hc=>?_⟩
         have e0:(λi=>if i=s then 0 else y i) s*A (upA ρ s u s) c=0:=by
           show (if s=s then (0:Rat) else y s)*_=0;rw[if_pos rfl,Iq]
         rw[hy c hc,aA,e0,Ir];refine ar λi hi=>?_
         show _=(if i=s then 0 else y i)*A (upA ρ s u i) c;rw[if_neg .(0),b8 .(0)]
theorem AJ {M:Nat->Nat->Rat}(h0:det s M≠0){y:Nat->Rat}(h:∀j,j<s->aA (λi=>y i*M i j) s=0):∀i,i<s->y i=0:=λi hi=>by
 have e1:=(cf s).sum M hi y (λi' j=>M i' j) s
 have e2:det s (aB M i λj=>aA (λc=>y c*M c j) s)=0:=by
   rw[<- (cf s).yP M hi];refine aF λr hr c hc=>?_
   unfold aB;split
   . exact h c hc
   . rfl
 have e3:aA (λc=>y c*det s (aB M i λj=>M c j)) s=aA (λc=>(y c*det s M)*dq c i) s:=ar λc hc=>by
   unfold dq;by_cases e:c=i
   . rw[if_pos e,e,show (λj=>M i j)=M i from rfl,bA,JE]
   . rw[if_neg e,(cf s).same (p:=i) (q:=c) hi hc (ID e) (by rw[bS,bT e]),Ie,Ie]
 rw[e2,e3,bJ _ _ _ hi]at e1;rcases KH.mp e1.symm with z | z
 . exact z
 . exact absurd z h0
theorem fu.rep (h:fu n A φ o l b)(hi:i<n)(a:Al n A φ i):∃s ρ γ,s<=o i/\(∀t,t<s->ρ t<n)/\(∀t,t<s->γ t<n)/\det s (λx y=>A (ρ x) (γ y))≠0/\∀c,c<n->det s (λx y=>A (ρ x) (γ y))*vec n A φ i c=rsd A ρ γ s (o i) c:=by
 obtain⟨s,ρ,γ,B⟩:=zj (n:=n) (A:=A) (l:=l i) (b:=b i) (o i) (h.inj i hi a);have on:=h.on i hi;refine⟨s,ρ,γ,B.len,λt ht=>by have:=(B.rows t ht).2; omega,λt ht=>(B.cols t ht).2,B.det0,?_⟩
 obtain⟨y,hy⟩:∃y:Nat->Rat,∀c,c<n->vec n A φ i c-A (o i) c=aA (λt=>y t*A (ρ t) c) s:=by
   have all:∀u,u<=o i->∀v,bC n A (l i) u v->∃y:Nat->Rat,∀c,c<n->v c=aA (λt=>y t*A (ρ t) c) s:=λu=>by
     induction u with
     | zero=>
       intro _ v ⟨z,hz⟩
       exact⟨λ_=>0,λc hc=>by
         rw[hz c hc];symm;exact bq λ_ _=>Iq _⟩
     | succ u ih=>
       intro hu v hv;obtain⟨a,w,hw,e,z⟩:=hv.snoc;obtain⟨y,hy⟩:=ih .(0) w hw;by_cases q:u<l i
       . exact⟨y,λc hc=>by rw[e c hc,z q,Iq,JU]; exact hy c hc⟩
       . obtain⟨y',hy'⟩:=B.span u .(0) .(0);refine⟨λt=>a*y' t+y t,λc hc=>?_⟩;rw[e c hc,hy' c hc,hy c hc,a5,<- df];refine ar λt _=>?_
         grind
   exact all _ .(3) _ (h.sup hi)
 have k:=AJ B.det0 (y:=λt=>det s (λx y=>A (ρ x) (γ y))*y t-brc A ρ γ s (o i) t) λj hj=>by
   have e1:vec n A φ i (γ j)=0:=h.van i hi _ (B.cols j hj).1 (B.cols j hj).2;have e2:=hy (γ j) (B.cols j hj).2;have e3:=wZ (A:=A) (ρ:=ρ) (γ:=γ) (x:=o i) hj;unfold rsd at e3
   have e4:aA (λt=>(det s (λx y=>A (ρ x) (γ y))*y t-brc A ρ γ s (o i) t)*A (ρ t) (γ j)) s=det s (λx y=>A (ρ x) (γ y))*aA (λt=>y t*A (ρ t) (γ j)) s + -1*aA (λt=>brc A ρ γ s (o i) t*A (ρ t) (γ j)) s:=by
     rw[a5,a5,<- df];refine ar λt _=>?_
     grind
   rw[e4,<- e2,e1];grind
 intro c hc;unfold rsd;have e:vec n A φ i c=A (o i) c+aA (λt=>y t*A (ρ t) c) s:=by rw[<- hy c hc]; grind
 rw[e,Rat.mul_add,a5];congr 1;refine ar λt ht=>?_
 have:=k t ht;generalize (det s λx y=>A (ρ x) (γ y))=D at this ⊢;grind
noncomputable def trN (N:Nat->Nat->Rat):Nat->Nat->Rat:=λi j=>N j i
noncomputable def dbl (n:Nat)(N φ κ:Nat->Nat->Rat)(i j:Nat):Rat:=aA (λc=>vec n N φ i c*κ j c) n
theorem BS (n:Nat)(N φ κ:Nat->Nat->Rat)(i j:Nat):dbl n (trN N) κ φ j i=dbl n N φ κ i j:=by
 unfold dbl vec trN;have e1:aA (λc=>aA (λr=>φ i r*N r c) n*κ j c) n=aA (λc=>aA (λr=>φ i r*N r c*κ j c) n) n:=ar λc _=>gC _ _ _
 have e2:aA (λc=>aA (λr=>κ j r*N c r) n*φ i c) n=aA (λc=>aA (λr=>φ i c*N c r*κ j r) n) n:=ar λc _=>by
   rw[gC];exact ar λr _=>by grind
 rw[e1,e2,fD]
structure fo (n:Nat)(N:Nat->Nat->Rat)(sc tc:Nat->Rat)(g φ:Nat->Nat->Rat)(o l b:Nat->Nat)(κ:Nat->Nat->Rat)(o' l' b':Nat->Nat):Prop where
 R:fu n N φ o l b
 C:fu n (trN N) κ o' l' b'
 lk:∀i,i<n->∀j,j<n->sc (o i)*tc (o' j)*g i j=dbl n N φ κ i j
 pos:∀r,0<sc r
 pos':∀r,0<tc r
theorem oU {f κ:Nat->Rat}(h1:κ c=1)(h2:∀x,c<x->κ x=0)(h3:∀x,x<c->f x=0):∀n,c<n->aA (λx=>f x*κ x) n=f c
 | 0,h=>absurd h .(6)
 | n+1,h=>by
   rw[aA];by_cases e:c=n
   . rw[<- e,bq λx hx=>by show f x*κ x=0; rw[h3 x hx,Iq],h1,JU,JE]
   . rw[oU h1 h2 h3 n .(0),h2 n .(0),Ie,Ir]
section
variable {n k:Nat}{N g φ κ:Nat->Nat->Rat}{sc tc:Nat->Rat}{o l b o' l' b':Nat->Nat}
theorem fo.tr (G:fo n N sc tc g φ o l b κ o' l' b'):(∀i,i<n->∀j,j<n->sc (o i)*tc (o' j)*g i j=dbl n (trN N) κ φ j i):=λi hi j hj=>by rw[BS]; exact G.lk i hi j hj
theorem tu {s x:Rat}(hs:0<s)(h:s*x=0):x=0:=by
 rcases KH.mp h with z | z
 . rw[z]at hs; exact absurd hs .(2)
 . exact z
theorem fo.alR (G:fo n N sc tc g φ o l b κ o' l' b')(hi:i<n)(hj:j<n)(h:g i j≠0):Al n N φ i:=HM λno=>h <| tu (LK (G.pos (o i)) (G.pos' (o' j))) (by
 rw[G.lk i hi j hj]
 exact bq λc hc=>by
   have:vec n N φ i c=0:=HM λne=>no ⟨c,hc,ne⟩
   show vec n N φ i c*κ j c=0;rw[this,Iq])
theorem fo.alC (G:fo n N sc tc g φ o l b κ o' l' b')(hi:i<n)(hj:j<n)(h:g i j≠0):Al n (trN N) κ j:=HM λno=>h <| tu (LK (G.pos (o i)) (G.pos' (o' j))) (by
 rw[G.tr i hi j hj]
 exact bq λc hc=>by
   have:vec n (trN N) κ j c=0:=HM λne=>no ⟨c,hc,ne⟩
   show vec n (trN N) κ j c*φ i c=0;rw[this,Iq])
theorem fo.low (G:fo n N sc tc g φ o l b κ o' l' b')(hi:i<n)(ht:t<=n)(h:∀j,j<n->o' j<t->g i j=0):∀c,c<t->vec n N φ i c=0:=λc=>by
 induction c using Nat.strongRecOn with
 | ind c ih=>
   intro hc;obtain⟨j,hj,e⟩:=G.C.sur c .(0);have z:=G.lk i hi j hj;rw[h j hj .(0),Ie]at z;unfold dbl at z;rw[oU (c:=c) (by rw[<- e]; exact G.C.one j hj) (λx hx=>G.C.hi j hj x .(0)) (λx hx=>ih x hx .(0)) n .(0)]at z;exact z.symm
theorem fo.dead (G:fo n N sc tc g φ o l b κ o' l' b')(hi:i<n)(h:∀j,j<n->g i j=0):¬Al n N φ i:=λ⟨c,hc,ne⟩=>ne (G.low hi (Ia n) (λj hj _=>h j hj) c hc)
theorem fo.piv (G:fo n N sc tc g φ o l b κ o' l' b')(B:Bl n k g)(hk:k<n)(ak:Al n (trN N) κ k)(hki:k<=i)(hi:i<n):(∀c,c<o' k->vec n N φ i c=0)/\vec n N φ i (o' k)=sc (o i)*tc (o' k)*g i k:=by
 have low:∀c,c<o' k->vec n N φ i c=0:=G.low hi (Jp (G.C.on k hk)) λj hj lt=>by
   by_cases q:j<k
   . exact B.off i hi j hj .(0) (.inr q)
   . have jk:k<j:=by
       have:j≠k:=λe=>by rw[e]at lt; omega
       omega
     refine HM λne=>?_
     have:=(G.C.ord k j jk hj ak (G.alC hi hj ne)).1;omega
 refine⟨low,?_⟩;rw[G.lk i hi k hk];unfold dbl;exact(oU (G.C.one k hk) (G.C.hi k hk) low n (G.C.on k hk)).symm
theorem Cy (i:Nat)(f:Nat->Rat)(j:Nat)(h:x≠i):dbl n N (upA φ i f) κ x j=dbl n N φ κ x j:=by
 unfold dbl;exact ar λc _=>by rw[pE _ _ _ h]
theorem DT (i:Nat)(w:Rat)(j:Nat):dbl n N (upA φ (i+1) λr=>φ (i+1) r-w*φ i r) κ (i+1) j=dbl n N φ κ (i+1) j-w*dbl n N φ κ i j:=by
 unfold dbl
 have e:∀m,aA (λc=>vec n N (upA φ (i+1) λr=>φ (i+1) r-w*φ i r) (i+1) c*κ j c) m=aA (λc=>vec n N φ (i+1) c*κ j c) m-w*aA (λc=>vec n N φ i c*κ j c) m:=λm=>by
   induction m with
   | zero=>show (0:Rat)=0-w*0; grind
   | succ m ih=>rw[aA,aA,aA,ih,rY]; grind
 exact e n
def PB (n k d:Nat)(N κ:Nat->Nat->Rat)(b o':Nat->Nat):Prop:=∀i,k<=i->i<n->(∀j,k<j->j<n->Al n (trN N) κ j->b i<=o' j)/\(i<=k+d->Al n (trN N) κ k->b i<=o' k)
def CB (n lo m:Nat)(N φ:Nat->Nat->Rat)(o b':Nat->Nat):Prop:=∀j,lo<=j->j<n->∀i,m<=i->i<n->Al n N φ i->b' j<=o i
def Gd (n k d lo m:Nat)(N:Nat->Nat->Rat)(sc tc:Nat->Rat)(g κ:Nat->Nat->Rat)(o' l' b':Nat->Nat):Prop:=∃φ o l b,fo n N sc tc g φ o l b κ o' l' b'/\PB n k d N κ b o'/\CB n lo m N φ o b'
theorem Gd.one {d lo m:Nat}(h:Gd n k (d+1) lo m N sc tc g κ o' l' b')(B:Bl n k g)(hd:k+d+1<n)(hm:m=k\/(m=k+1/\g k k≠0)):Gd n k d lo m N sc tc (de k (k+d) g) κ o' l' b':=by
 obtain⟨φ,o,l,b,G,P,Q⟩:=h;unfold de;by_cases e1:g (k+d+1) k=0
 . rw[if_pos e1];exact⟨φ,o,l,b,G,λi h1 h2=>⟨(P i h1 h2).1,λh3=>(P i h1 h2).2 .(0)⟩,Q⟩
 rw[if_neg e1];have ak:=G.alC hd .(0) e1;have aj:=G.alR hd .(0) e1;by_cases e2:g (k+d) k=0
 . rw[if_pos e2];have dd:=G.dead .(0) (B.zF (i:=k+d) .(0) hd e2 e1);refine⟨_,_,_,_,⟨G.R.lf hd dd,G.C,λi hi j hj=>G.lk _ (cU hd hi) j hj,G.pos,G.pos'⟩,λi h1 h2=>?_,λj h1 h2 i h3 h4 a=>?_⟩
   . have s1:k<=swp (k+d) i:=by unfold swp; split <;> (try split) <;> omega
     have s2:=cU hd h2;refine⟨(P _ s1 s2).1,λh3 ak'=>(P _ s1 s2).2 ?_ ak'⟩;unfold swp;split <;> (try split) <;> omega
   . refine Q j h1 h2 (swp (k+d) i) ?_ (cU hd h4) a;rcases hm with rfl | ⟨rfl,nz⟩
     . unfold swp; split <;> (try split) <;> omega
     . have:d≠0:=λz=>nz (by rw[z]at e2; exact e2)
       unfold swp; split <;> (try split) <;> omega
 . rw[if_neg e2];have ai:=G.alR (i:=k+d) .(0) .(0) e2;obtain⟨z1,p1⟩:=G.piv B .(0) ak (i:=k+d) .(0) .(0);obtain⟨z2,p2⟩:=G.piv B .(0) ak (i:=k+d+1) .(0) hd;have ps:=G.pos (o (k+d));have s0:sc (o (k+d))≠0:=λz=>by rw[z]at ps; exact absurd ps .(2)
   have hw:vec n N φ (k+d+1) (o' k)=(g (k+d+1) k/g (k+d) k*sc (o (k+d+1))/sc (o (k+d)))*vec n N φ (k+d) (o' k):=by
     rw[p1,p2];have e2:g (k+d) k≠0:=e2;generalize g (k+d+1) k=x;generalize g (k+d) k=y at e2 ⊢;generalize sc (o (k+d))=s at s0 ⊢;generalize sc (o (k+d+1))=t;generalize tc (o' k)=v;grind
   have r:=G.R.tk (i:=k+d) (γ:=o' k) hd ai aj (G.C.on k .(0)) z1 z2 (by rw[p1]; exact λz=>e2 (tu (LK ps (G.pos' (o' k))) z)) ((P (k+d) .(0) .(0)).2 .(0) ak) hw;refine⟨_,_,_,_,⟨r,G.C,λi hi j hj=>?_,G.pos,G.pos'⟩,λi h1 h2=>?_,λj h1 h2 i h3 h4 a=>?_⟩
   . unfold tkF;by_cases q:i=k+d+1
     . subst q;rw[if_pos rfl,DT,<- G.lk _ hd j hj,<- G.lk _ (show k+d<n by omega) j hj];generalize g (k+d+1) k/g (k+d) k=w;generalize sc (o (k+d))=s at s0 ⊢;generalize sc (o (k+d+1))=t;generalize tc (o' j)=v;have:w*t/s*s=w*t:=Jq s0;generalize w*t/s=q at this ⊢;grind
     . rw[if_neg q,Cy _ _ _ q];exact G.lk i hi j hj
   . by_cases q:i=k+d+1
     . subst q;rw[cn];exact⟨λj h3 h4 a=>(G.C.ord k j h3 h4 ak a).1,λh3=>absurd h3 .(0)⟩
     . rw[b8 q];exact⟨(P i h1 h2).1,λh3=>(P i h1 h2).2 .(0)⟩
   . refine Q j h1 h2 i h3 h4 ?_;by_cases q:i=k+d+1
     . rw[q]; exact aj
     . obtain⟨c,hc,ne⟩:=a;exact⟨c,hc,by rw[pE _ _ _ q]at ne; exact ne⟩
end
def Ok0 (n:Nat)(N:Nat->Nat->Rat)(sc tc:Nat->Rat)(g:Nat->Nat->Rat):Prop:=∃φ o l b κ o' l' b',fo n N sc tc g φ o l b κ o' l' b'
def Sz (n M:Nat)(g:Nat->Nat->Rat):Prop:=∀i,i<n->∀j,j<n->Sq M (g i j)
noncomputable def SzP (n M k:Nat):Nat->(Nat->Nat->Rat)->Prop
 | 0,g=>Sz n M g
 | d+1,g=>Sz n M g/\SzP n M k d (de k (k+d) g)
theorem fo.swp (G:fo n N sc tc g φ o l b κ o' l' b'):fo n (trN N) tc sc (trF g) κ o' l' b' φ o l b:=
 ⟨G.C,G.R,λi hi j hj=>by
   show tc (o' i)*sc (o j)*g j i=dbl n (trN N) κ φ i j;rw[BS,<- G.lk j hj i hi];grind,G.pos',G.pos⟩
theorem Ok0.tr (h:Ok0 n N sc tc g):Ok0 n (trN N) tc sc (trF g):=by
 obtain⟨φ,o,l,b,κ,o',l',b',G⟩:=h;exact⟨κ,o',l',b',φ,o,l,b,G.swp⟩
theorem Sz.tr (h:Sz n M g):Sz n M (trF g):=λi hi j hj=>h j hj i hi
theorem rj (h:Sz n M g):∀d,(∀i,k<i->i<=k+d->g i k=0)->SzP n M k d g
 | 0,_=>h
 | d+1,z=>⟨h,by
   have e:de k (k+d) g=g:=by unfold de; rw[if_pos (z (k+d+1) .(0) .(0))]
   rw[e];exact rj h d λi h1 h2=>z i h1 .(0)⟩
section
variable {n k:Nat}{N:Nat->Nat->Rat}{sc tc:Nat->Rat}
theorem Gd.all {κ:Nat->Nat->Rat}{o' l' b':Nat->Nat}{lo m:Nat}:∀(d:Nat) (g:Nat->Nat->Rat),Gd n k d lo m N sc tc g κ o' l' b'->Bl n k g->k+d<n->(∀i,k+d<i->i<n->g i k=0)->(m=k\/(m=k+1/\g k k≠0))->Gd n k 0 lo m N sc tc (clG k d g) κ o' l' b'/\∀M,(∀g,Ok0 n N sc tc g->Sz n M g)->SzP n M k d g
 | 0,g,h,_,_,_,_=>⟨h,λM hS=>by
   obtain⟨φ,o,l,b,G,_,_⟩:=h;exact hS g ⟨φ,o,l,b,κ,o',l',b',G⟩⟩
 | d+1,g,h,B,hd,hz,hm=>by
   have o:=xP B hd hz;have h1:=h.one B hd hm;have r:=Gd.all d _ h1 o.bl .(0) o.z (hm.imp id λ⟨e,nz⟩=>⟨e,by rw[o.keep nz]; exact nz⟩);refine⟨r.1,λM hS=>⟨?_,r.2 M hS⟩⟩;obtain⟨φ,o,l,b,G,_,_⟩:=h;exact hS g ⟨φ,o,l,b,κ,o',l',b',G⟩
def FS (n k:Nat)(N:Nat->Nat->Rat)(sc tc:Nat->Rat)(g:Nat->Nat->Rat):Prop:=∃φ o l b κ o' l' b',fo n N sc tc g φ o l b κ o' l' b'/\CB n k k (trN N) κ o' b/\CB n k k N φ o b'
theorem xO (B:Bl n k g)(hk:k<n)(nz:st2 n k g k k=0):∀i,k<i->i<=k+(n-1-k)->st2 n k g i k=0:=λi i1 i2=>by
 have c1:=iC (n-1-k) g B .(0) λi h1 h2=>by omega
 have hr:∀j,k<=j->j<n->st1 n k g k j=0:=λj j1 j2=>HM λne=>hV (n-1-k) (trF (st1 n k g)) ⟨j,j1,by omega,ne⟩ nz
 have e:=(gW (k:=k) (n-1-k) (trF (st1 n k g)) λi i1 i2=>hr i .(0) .(0)).1;show trF (clG k (n-1-k) (trF (st1 n k g))) i k=0;rw[e];exact c1.z i .(0) .(0)
theorem FS.BV (h:FS n k N sc tc g)(B:Bl n k g)(hk:k<n):FS n (k+1) N sc tc (st3 n k g)/\∀M,(∀g,Ok0 n N sc tc g->Sz n M g)->SzP n M k (n-1-k) g/\SzP n M k (n-1-k) (trF (st1 n k g))/\SzP n M k (n-1-k) (st2 n k g):=by
 have c1:=iC (n-1-k) g B .(0) λi h1 h2=>by omega
 have c2:=iC (n-1-k) (trF (st1 n k g)) c1.bl.tr .(0) λi h1 h2=>by omega
 have b2:Bl n k (st2 n k g):=c2.bl.tr;obtain⟨φ,o,l,b,κ,o',l',b',G,RB,QB⟩:=h;have p1:Gd n k (n-1-k) k k N sc tc g κ o' l' b':=⟨φ,o,l,b,G,λi h1 h2=>⟨λj h3 h4 a=>RB i h1 h2 j .(0) h4 a,λ_ a=>RB i h1 h2 k .(3) hk a⟩,QB⟩;obtain⟨q1,s1⟩:=p1.all (n-1-k) g B .(0) (λi h1 h2=>by omega) (.inl rfl)
 obtain⟨m,hm,φ1,o1,l1,b1,G1,RB1,QB1⟩:∃m,(m=k\/(m=k+1/\st1 n k g k k≠0))/\∃φ1 o1 l1 b1,fo n N sc tc (st1 n k g) φ1 o1 l1 b1 κ o' l' b'/\CB n k m (trN N) κ o' b1/\CB n k k N φ1 o1 b':=by
   by_cases z:∀i,k<i->i<=k+(n-1-k)->g i k=0
   . have e:st1 n k g=g:=(gW (k:=k) (n-1-k) g z).1;rw[e];exact⟨k,.inl rfl,φ,o,l,b,G,RB,QB⟩
   . obtain⟨i,i1,i2,i3⟩:∃i,k<i/\i<=k+(n-1-k)/\g i k≠0:=HM λno=>z λi h1 h2=>HM λne=>no ⟨i,h1,h2,ne⟩
     have nz:st1 n k g k k≠0:=hV (n-1-k) g ⟨i,by omega,i2,i3⟩;obtain⟨φ1,o1,l1,b1,G1,P1,Q1⟩:=q1;exact⟨k+1,.inr ⟨rfl,nz⟩,φ1,o1,l1,b1,G1,λi h1 h2 j h3 h4 a=>(P1 i h1 h2).1 j .(0) h4 a,Q1⟩
 have p2:Gd n k (n-1-k) k m (trN N) tc sc (trF (st1 n k g)) φ1 o1 l1 b1:=⟨κ,o',l',b',G1.swp,λj h1 h2=>⟨λi h3 h4 a=>QB1 j h1 h2 i .(0) h4 a,λ_ a=>QB1 j h1 h2 k .(3) hk a⟩,RB1⟩;obtain⟨⟨κ2,o2,l2,d2,G2,P2,Q2⟩,s2⟩:=p2.all (n-1-k) (trF (st1 n k g)) c1.bl.tr .(0) (λi h1 h2=>by omega) hm;have G2':fo n N sc tc (st2 n k g) φ1 o1 l1 b1 κ2 o2 l2 d2:=G2.swp;have Q2:CB n k m (trN N) κ2 o2 b1:=Q2;have P2:∀j,k<=j->j<n->(∀i,k<i->i<n->Al n N φ1 i->d2 j<=o1 i)/\(j<=k+0->Al n N φ1 k->d2 j<=o1 k):=P2;have sz12:∀M,(∀g,Ok0 n N sc tc g->Sz n M g)->SzP n M k (n-1-k) g/\SzP n M k (n-1-k) (trF (st1 n k g)):=λM hS=>⟨s1 M hS,s2 M λg hg=>(hS (trF g) hg.tr).tr⟩
 by_cases z:∀i,k<i->i<=k+(n-1-k)->st2 n k g i k=0
 . have e:st3 n k g=st2 n k g:=(gW (k:=k) (n-1-k) (st2 n k g) z).1;rw[e];refine⟨⟨φ1,o1,l1,b1,κ2,o2,l2,d2,G2',λi h1 h2 j h3 h4 a=>Q2 i .(0) h2 j (by rcases hm with rfl | ⟨rfl,_⟩ <;> omega) h4 a,λj h1 h2 i h3 h4 a=>(P2 j .(0) h2).1 i .(0) h4 a⟩,λM hS=>⟨(sz12 M hS).1,(sz12 M hS).2,rj (hS _ ⟨φ1,o1,l1,b1,κ2,o2,l2,d2,G2'⟩) _ z⟩⟩
 . have nz:st2 n k g k k≠0:=λe=>z (xO B hk e)
   have mk:m=k:=by
     rcases hm with e | ⟨_,nz1⟩
     . exact e
     . exfalso;refine z λi h1 h2=>?_
       have e:=c2.keep (show trF (st1 n k g) k k≠0 from nz1) i;show clG k (n-1-k) (trF (st1 n k g)) k i=0;rw[e];exact c1.z i .(0) .(0)
   subst mk;have p3:Gd n m (n-1-m) (m+1) (m+1) N sc tc (st2 n m g) κ2 o2 l2 d2:=⟨φ1,o1,l1,b1,G2',λi h1 h2=>⟨λj h3 h4 a=>Q2 i h1 h2 j .(0) h4 a,λ_ a=>Q2 i h1 h2 m .(3) hk a⟩,λj h1 h2 i h3 h4 a=>(P2 j .(0) h2).1 i .(0) h4 a⟩;obtain⟨⟨φ3,o3,l3,b3,G3,P3,Q3⟩,s3⟩:=p3.all (n-1-m) (st2 n m g) b2 .(0) (λi h1 h2=>by omega) (.inr ⟨rfl,nz⟩);exact⟨⟨φ3,o3,l3,b3,κ2,o2,l2,d2,G3,λi h1 h2 j h3 h4 a=>(P3 i .(0) h2).1 j .(0) h4 a,Q3⟩,λM hS=>⟨(sz12 M hS).1,(sz12 M hS).2,s3 M hS⟩⟩
end
theorem FS.start (h:∀i,i<n->∀j,j<n->sc i*tc j*A i j=N i j)(p:∀r,0<sc r)(p':∀r,0<tc r):FS n 0 N sc tc A:=by
 refine⟨_,_,_,_,_,_,_,_,⟨fu.start n N,fu.start n (trN N),λi hi j hj=>?_,p,p'⟩,λ_ _ _ _ _ _ _=>HL _,λ_ _ _ _ _ _ _=>HL _⟩;rw[h i hi j hj];unfold dbl;have e:∀c,vec n N (λi r=>if i=r then (1:Rat) else 0) i c=N i c:=λc=>lU (λr=>N r c) i n hi
 have e2:aA (λc=>vec n N (λi r=>if i=r then (1:Rat) else 0) i c*(if j=c then (1:Rat) else 0)) n=aA (λc=>N i c*dq c j) n:=ar λc _=>by
   rw[e c];unfold dq;by_cases q:j=c
   . rw[if_pos q,if_pos q.symm]
   . rw[if_neg q,if_neg (ID q)]
 rw[e2,bJ _ _ _ hj]
theorem zf (H:Tnn n n A)(F:FS n 0 N sc tc A):∀k,k<=n->FS n k N sc tc .(113).1
 | 0,_=>F
 | k+1,hk=>((zf H F k .(0)).BV (vk H k .(0)).bl .(0)).1
theorem ZB.idQ (m i j:Nat):ZB m (idQ i j):=by
 unfold K34.idQ;split
 . exact⟨1,rfl,by show 1<=_; exact Nat.one_le_two_pow⟩
 . exact⟨0,rfl,HL _⟩
section
variable {n β:Nat}{N:Nat->Nat->Rat}{ρ γ:Nat->Nat}{s x:Nat}
theorem xE (hN:∀i,i<n->∀j,j<n->ZB β (N i j))(hρ:∀t,t<s->ρ t<n)(hγ:∀t,t<s->γ t<n)(hx:x<n)(hj:j<s\/(s<=j/\j-s<n)):ZB β (brd N ρ γ s x i j):=by
 unfold brd;refine hN _ ?_ _ ?_
 . split
   . exact hρ _ (by assumption)
   . exact hx
 . split
   . exact hγ _ (by assumption)
   . rcases hj with h | h
     . contradiction
     . exact h.2
theorem FO (hN:∀i,i<n->∀j,j<n->ZB β (N i j))(hρ:∀t,t<s->ρ t<n)(hγ:∀t,t<s->γ t<n)(hs:s+1<=n)(h7:n<=7):ZB (n*(β+3)) (det s λi j=>N (ρ i) (γ j)):=
 (Ab .(0) λi hi j hj=>hN _ (hρ i hi) _ (hγ j hj)).mono (HU _ .(0))
theorem CM (hN:∀i,i<n->∀j,j<n->ZB β (N i j))(hρ:∀t,t<s->ρ t<n)(hγ:∀t,t<s->γ t<n)(hx:x<n)(hs:s+1<=n)(h7:n<=7)(hc:c<n):ZB (n*(β+3)) (rsd N ρ γ s x c):=by
 rw[y8];refine(Ab (n:=s+1) .(0) λi hi j hj=>?_).mono (HU _ hs);refine xE hN hρ hγ hx ?_;by_cases q:j<s
 . rw[if_pos q]; exact .inl q
 . rw[if_neg q]; exact .inr .(11)
theorem Cu (hN:∀i,i<n->∀j,j<n->ZB β (N i j))(hρ:∀t,t<s->ρ t<n)(hγ:∀t,t<s->γ t<n)(hx:x<n)(hs:s+1<=n)(h7:n<=7)(hi:i<s):ZB (n*(β+3)) (brc N ρ γ s x i):=by
 unfold brc bc;refine(Ab (n:=s+1) (b:=β) .(0) λa ha c hc=>?_).mono (HU _ hs);unfold aB;by_cases q:a=s
 . rw[if_pos q]; exact ZB.idQ _ _ _
 . rw[if_neg q];exact xE hN hρ hγ hx (.inl .(0))
end
theorem ZB.Hb (h:ZB m x)(g:ZB m y):ZB (m+1) (x+y):=by
 obtain⟨a,rfl,h⟩:=h;obtain⟨d,rfl,g⟩:=g;refine⟨a+d,(Kg ..).symm,?_⟩;rw[LD];omega
theorem yK (h:∀c,c<n->P*vec n N φ i c=rsd N ρ γ s x c):P*dbl n N φ κ i j=det s (λi j=>N (ρ i) (γ j))*vec n (trN N) κ j x+aA (λt=>brc N ρ γ s x t*vec n (trN N) κ j (ρ t)) s:=by
 unfold dbl;rw[a5]
 have e1:aA (λc=>P*(vec n N φ i c*κ j c)) n=aA (λc=>det s (λi j=>N (ρ i) (γ j))*(κ j c*N x c)+aA (λt=>brc N ρ γ s x t*(κ j c*N (ρ t) c)) s) n:=ar λc hc=>by
   rw[<- JC,h c hc];unfold rsd;rw[Rat.add_mul,gC];congr 1
   . grind
   . exact ar λt _=>by grind
 rw[e1,df,<- a5,fD];congr 1;refine ar λt _=>?_
 rw[<- a5];rfl
theorem ye (h7:n<=7)(hN:∀i,i<n->∀j,j<n->ZB β (N i j))(hs:∀r,r<n->∃z:Int,(z:Rat)=sc r/\z.natAbs<=2^σ)(h:Ok0 n N sc (λ_=>1) g):Sz n (2*(n*(β+3))+σ+5) g:=λi hi j hj=>by
 obtain⟨φ,o,l,b,κ,o',l',b',G⟩:=h
 have zero:Sq (2*(n*(β+3))+σ+5) 0:=by
   have p:2^1<=2^(2*(n*(β+3))+σ+5):=HS .(2) .(0);refine⟨?_,?_⟩
   . show (0:Int).natAbs<_;exact IU _
   . show (1:Int).natAbs<_;show 1<_;omega
 have l0:sc (o i)*1*g i j=dbl n N φ κ i j:=G.lk i hi j hj;by_cases z:g i j=0
 . rw[z]; exact zero
 have ai:=G.alR hi hj z;have aj:=G.alC hi hj z;have on:=G.R.on i hi;have on':=G.C.on j hj;obtain⟨s,ρ,γ,q1,q2,q3,q4,q5⟩:=G.R.rep hi ai;obtain⟨s',ρ',γ',r1,r2,r3,r4,r5⟩:=G.C.rep hj aj;have hN':∀i,i<n->∀j,j<n->ZB β (trN N i j):=λi hi j hj=>hN j hj i hi
 have zP:=FO hN q2 q3 .(0) h7;have zQ:=FO hN' r2 r3 .(0) h7;have zr:∀r,r<n->ZB (n*(β+3)) (rsd (trN N) ρ' γ' s' (o' j) r):=λr hr=>CM hN' r2 r3 on' .(0) h7 hr
 have main:det s' (λx y=>trN N (ρ' x) (γ' y))*(det s (λx y=>N (ρ x) (γ y))*dbl n N φ κ i j)=det s (λx y=>N (ρ x) (γ y))*rsd (trN N) ρ' γ' s' (o' j) (o i)+aA (λt=>brc N ρ γ s (o i) t*rsd (trN N) ρ' γ' s' (o' j) (ρ t)) s:=by
   rw[yK q5,Rat.mul_add,a5];congr 1
   . rw[<- r5 _ on]; grind
   . refine ar λt ht=>?_
     rw[<- r5 _ (q2 t ht)]; grind
 have zW:ZB (n*(β+3)+n*(β+3)+3+1) (det s' (λx y=>trN N (ρ' x) (γ' y))*(det s (λx y=>N (ρ x) (γ y))*dbl n N φ κ i j)):=by
   rw[main];refine ZB.Hb ((zP.mul (zr _ on)).mono .(0)) ?_;obtain⟨w,e,hw⟩:=ZB.sum (n:=s) (b:=n*(β+3)+n*(β+3)) λt ht=>(Cu hN q2 q3 on .(0) h7 ht).mul (zr _ (q2 t ht))
   refine⟨w,e,HJ hw ?_⟩;rw[show (2:Nat)^(n*(β+3)+n*(β+3)+3)=2^(n*(β+3)+n*(β+3))*2^3 from Jz ..,Nat.mul_comm];exact LO _ .(0)
 obtain⟨w,ew,hw⟩:=zW;obtain⟨p,ep,hp⟩:=zP;obtain⟨q,eq,hq⟩:=zQ;obtain⟨t,et,ht⟩:=hs (o i) on;rw[ep]at q4;rw[eq]at r4;have spos:=G.pos (o i);rw[<- et]at spos
 have t0:0<t:=by
   have:((0:Int):Rat)<(t:Rat):=spos;exact Rat.intCast_lt_intCast.mp this
 have p0:p≠0:=λz=>q4 (by rw[z]; rfl)
 have q0:q≠0:=λz=>r4 (by rw[z]; rfl)
 rw[ep,eq,<- l0,<- et]at ew
 have e:((w:Int):Rat)=g i j*((q*(p*t):Int):Rat):=by
   rw[<- ew,HW,HW];grind
 have hb:(q*(p*t)).natAbs<=2^(n*(β+3)+(n*(β+3)+σ)):=by
   rw[Jd,Jd,Jz,Jz (m:=n*(β+3))];exact IV hq (IV hp ht)
 have bdw:Bd (2*(n*(β+3))+σ+5) w:=HX hw (Kv .(2) .(0));have bdb:Bd (2*(n*(β+3))+σ+5) (q*(p*t)):=HX hb (Kv .(2) .(0));have nz:q*(p*t)≠0:=Int.mul_ne_zero q0 (Int.mul_ne_zero p0 .(0));by_cases sg:0<q*(p*t)
 . exact Sq.bU sg e bdw bdb
 . refine Sq.bU (t:=-w) (b:=-(q*(p*t))) .(0) ?_ ?_ ?_
   . rw[Jy,Jy,e]; grind
   . show (-w).natAbs<_;rw[J2]; exact bdw
   . show (-(q*(p*t))).natAbs<_;rw[J2]; exact bdb
end K34
namespace Hy
open PySem PySem.Spec PyProof.Rows L2
open Ev (D Den av aq)
end Hy
namespace Hy
open PySem PySem.Spec PyProof.Rows L2
open Ev (D Den av aq aY aR)
def spG (K:fw)(Φ:List D->List D->List D->Sl->Prop):Sp:=λvs H Q _=>∃(M:Addr->Prop) (a:Addr) (ws us:List V) (xs ds xs':List D) (s:Sl),vs=.ref a::us/\M a/\(∀b,M b->∃o,H b=some o)/\H a=some (.lst ws)/\av K (hd H M) ws xs/\av K (hd H M) us ds/\Φ xs ds xs' s /\
 ∀v H' bs ws',But a H H'->H' a=some (.lst ws')->av K (hd H' M) ws' xs'->Fr H H' bs->cE K (hd H' λb=>M b\/b∈bs) H' (some v) bs s->Q v H'
def dSA (K:fw)(τ:List Sl)(i:Nat)(τe τc:List Sl):TS:=λD σ H=>∃A H₀ B,Sta K A H₀ τ B σ H/\(∀B' σ' H',Sta K A H₀ τe B' σ' H'->σ'[i]?=σ[i]?->D.nx σ' H')/\∀B' σ' H',Sta K A H₀ τc B' σ' H'->σ'[i]?=σ[i]?->D.ct σ' H'
def dSR (K:fw)(τ:List Sl)(xs':List D)(s:Sl):TS:=λD σ H=>∃A H₀ B a,Sta K A H₀ τ B σ H/\(σ[0]?).join=some (.ref a)/\∀v H2 bs ws',ao H₀ H2->H2 a=some (.lst ws')->av K (hd H2 λb=>(A b\/b=a)\/b∈bs) ws' xs'->a∉bs->Fr H₀ H2 bs->cE K (hd H2 λb=>(A b\/b=a)\/b∈bs) H2 (some v) bs s->D.rt v H2
section
variable {X:Cx}{τ τ1 τ2 τc:List Sl}{x y z:D}{a b c e o:Expr}{pos p q:Pos}{l:Nat}{s:Sl}{N:Po}{st:Stmt}{body els rest:List Stmt}{i m:Nat}{xs ys:List D}
theorem tZ:PSs X [] (dSA X.K τ i τ τc):=gQ jm λ_ σ H ⟨_,_,B,S,fn,_⟩=>fn B σ H S rfl
theorem lz (h1:PS X st (dSA X.K τ i τ1 τc))(h2:PSs X rest (dSA X.K τ1 i τ2 τc)):PSs X (st::rest) (dSA X.K τ i τ2 τc):=
 gQ (dJ h1 h2) λ_ _ _ ⟨A,H₀,B,S,fn,fc⟩=>⟨A,H₀,B,S,λB' _ _ S' e=>⟨A,H₀,B',S',λB2 σ2 H2 S2 e2=>fn B2 σ2 H2 S2 (e2.trans e),λB2 σ2 H2 S2 e2=>fc B2 σ2 H2 S2 (e2.trans e)⟩,fc⟩
theorem B6 (r:Nat){n:Str}(hN:X.N.Nodup)(he:PE X e (dE X.K true τ s))(hri:r≠i:=by decide)(hi:X.N[r]?=some n:=by rfl)(hx:Loc X.env.scope n:=by first | exact .inl rfl | exact .inr rfl)(hs:M7 e (some (.Name n p)) pos.line X.env=pure false:=by rfl)
   (hf:X.fn n=true\/X.env.scope.names.lookup n=some .local:=by first | exact .inl rfl | exact .inr rfl | assumption):PS X (.Assign [.Name n p] e pos) (dSA X.K τ i (τ.set r s) τc):=
 psW (yD hN hi hx he hs hf) λD σ H ⟨A,H₀,B,S,fn,_⟩=>⟨A,H₀,B,S,λw H' bs e hf h=>fn _ _ _ (S.set e hf h) (HI hri)⟩
theorem EN (hc:PT X c (dT X.K τ false)):PS X (.If c body [] pos) (dSA X.K τ i τ τc):=
 psW (ny hc cC jm) λ_ σ _ ⟨A,H₀,B,S,fn,_⟩=>⟨A,H₀,B,S,λH' e=>rO (fn B σ H' (S.mono e) rfl)⟩
theorem FX (hc:PT X c (dT X.K τ true))(h:PSs X body (dSA X.K τ i τ1 τc)):PS X (.If c body els pos) (dSA X.K τ i τ1 τc):=
 psW (ny hc h cC) λ_ σ _ ⟨A,H₀,B,S,fn,fc⟩=>⟨A,H₀,B,S,λH' e=>rE ⟨A,H₀,B,S.mono e,fn,fc⟩⟩
theorem Fm (hc:PT X c (dT X.K τ false))(h:PSs X els (dSA X.K τ i τ1 τc)):PS X (.If c body els pos) (dSA X.K τ i τ1 τc):=
 psW (ny hc cC h) λ_ σ _ ⟨A,H₀,B,S,fn,fc⟩=>⟨A,H₀,B,S,λH' e=>rO ⟨A,H₀,B,S.mono e,fn,fc⟩⟩
theorem FF (r:Nat){n:Str}{it:Expr}{g:Nat->D}{tp:Pos}(T:Nat->List Sl)(Bq:Bk X l)(hN:X.N.Nodup)(hi:PI X (.Name n tp) it (dI X.K (T 0) ys))(hx:∀a (h:a<ys.length),ys[a]=g a)
   (hb:∀a,a<ys.length->PSs X body (dSA X.K ((T a).set r (.d (g a))) i (T (a+1)) (T (a+1)))) (hri:r≠i:=by decide)
   (hs:∀x,foldedSetIterable it X.env x=pure x:=by intro _; rfl) (hi':X.N[r]?=some n:=by rfl) (hl:Loc X.env.scope n:=by first | exact .inl rfl | exact .inr rfl)
   (hf:X.fn n=true\/X.env.scope.names.lookup n=some .local:=by first | exact .inl rfl | exact .inr rfl | assumption):PS X (.For (.Name n tp) it body [] pos) (dSA X.K (T 0) i (T ys.length) τc):=by
 have hb':PSs X body λD σ H=>∃a,a<ys.length/\dSA X.K ((T a).set r (.d (g a))) i (T (a+1)) (T (a+1)) D σ H:=λpins s σ H D I ⟨a,h,q⟩=>hb a h pins s σ H D I q
 refine psW (si Bq.po hi (eP (i:=r) hN hi' hl hf) hb' hs) λD σ H ⟨A,H₀,B,S,fin,_⟩=>⟨A,H₀,B,S,λJ H1 e1 yl=>?_⟩
 obtain⟨s0,S1⟩:=(S.mono e1).base;have sub:∀{H'},ao (hd H1 λb=>∃i,b∈B i) H'->ao (hd H1 (own A B)) H':=λe=>(aC .(102) λ_ z=>.inr z).trans e
 refine⟨λa m σ' H'=>m=ys.length-a/\a<=ys.length/\∃B',Sta X.K A (hd H1 λb=>∃i,b∈B i) (T a) B' σ' H'/\σ'[i]?=σ[i]?,⟨ys.length,rfl,HL _,B,S1,rfl⟩,?_⟩;rintro a m σ' H' ⟨rfl,ha,B',S',q'⟩;obtain⟨y1,y2⟩:=yl H' (sub S'.same);by_cases hlt:a<ys.length
 . obtain⟨gg,y⟩:=y2 a hlt;refine .inr ⟨gg,λσ2 H2=>∃B2,Sta X.K A (hd H1 λb=>∃i,b∈B i) (T (a+1)) B2 σ2 H2/\σ2[i]?=σ[i]?,λσ2 H2 q=>⟨ys.length-(a+1),by omega,rfl,hlt,q⟩,λx H2 hy=>?_⟩;obtain⟨e2,dx⟩:=y x H2 hy;have S2:=S'.mono e2
   have dd:=dx (own A B') S'.dm (by
     intro b o z;obtain⟨z1,z2⟩:=au.mp z;have z3:hd H1 (λb=>∃i,b∈B i) b=some o:=au.mpr ⟨λy=>z1 (.inr y),z2⟩;refine au.mpr ⟨λy=>?_,S'.same _ _ z3⟩;rcases y with y | ⟨l,y⟩
     . exact z1 (.inl y)
     . rw[S'.fr l b y]at z3; cases z3)
   rw[hx a hlt]at dd;have S3:=S2.set (i:=r) .(102) (bs:=[]) (λ_ z=>nomatch z) (jC dd);have ei:(σ'.set r (some x))[i]?=σ'[i]?:=HI hri;refine⟨a,hlt,A,_,_,S3,λB3 σ3 H3 S4 q4=>⟨B3,S4,?_⟩,λB3 σ3 H3 S4 q4=>⟨B3,S4,?_⟩⟩ <;> rw[q4,ei,q']
 . have e:a=ys.length:=by omega
   subst e;exact .inl ⟨y1 _ .(3),fin B' σ' H' (S'.back s0 S.ad) q'⟩
theorem jA (h1:PS X st (dSA X.K τ 0 τ1 []))(h2:PSs X rest (dSR X.K τ1 xs s)):PSs X (st::rest) (dSR X.K τ xs s):=
 gQ (dJ h1 h2) λ_ σ _ ⟨A,H₀,B,a,S,ea,fin⟩=>⟨A,H₀,B,S,λB' _ _ S' e=>⟨A,H₀,B',a,S',by rw[e]; exact ea,fin⟩,λ_ σ' _ S' e=>by
   have:σ'=[]:=List.eq_nil_of_length_eq_zero S'.len;rw[this]at e;rw[<- e]at ea;cases ea⟩
theorem xg {K:fw}{A:Addr->Prop}{H₀ H H':Hp}{B:Nat->List Addr}{σ:L2.St}{a:Addr}{ws:List V}{bs:List Addr}(S:Sta K A H₀ τ B σ H)(hB:B 0=[a])(e:ao H H')(f:∀b∈bs,H b=none\/∃i,b∈B i)(d:av K (hd H (own A B)) ws xs):av K (hd H' λb=>(A b\/b=a)\/b∈bs) ws xs:=d.mono λb o z=>by
 obtain⟨z1,z2⟩:=au.mp z;refine au.mpr ⟨λy=>?_,e _ _ z2⟩;rcases y with (y | y) | y
 . exact z1 (.inl y)
 . exact z1 (.inr ⟨0,by rw[hB,y]; exact gV.mpr rfl⟩)
 . rcases f b y with y | y
   . rw[y]at z2; cases z2
   . exact z1 (.inr y)
theorem zv (he:PE X e (dE X.K true τ s))(h0:τ[0]?=some (.o xs):=by rfl):PSs X (.Return (some e) pos::rest) (dSR X.K τ xs s):=
 gQ (dJ (lE he) cC) λD σ H ⟨A,H₀,B,a,S,ea,fin⟩=>⟨A,H₀,B,S,λv H' bs e hf q=>by
   obtain⟨a',ws,hB,e1,e2,d⟩:=S.sl 0 _ h0;rw[ea]at e1;cases e1
   refine fin v H' bs ws (S.same.trans e) (e _ _ e2) (xg S hB e (λb hb=>.inl (hf b hb).1) d) (λz=>?_) (λb hb=>⟨S.same.free (hf b hb).1,(hf b hb).2⟩) (q.mono (aC .(102) λb z=>?_) .(102))
   . have:=(hf a z).1;rw[e2]at this;cases this
   . rcases z with (z | z) | z
     . exact .inl (.inl z)
     . exact .inl (.inr ⟨0,by rw[hB,z]; exact gV.mpr rfl⟩)
     . exact .inr z⟩
theorem zH (i:Nat){n:Str}(hi:τ[i]?=some s:=by rfl)(hi0:i≠0:=by decide)(h0:τ[0]?=some (.o xs):=by rfl)(hu:s≠.un:=by exact nofun)(hN:X.N[i]?=some n:=by rfl)(hv:Vis X.env.scope n:=by first | exact JM rfl | exact IH .(9) | exact IH .(8))
   (hd1:(n==("__debug__" : Str))=false:=by decide) (hcd:(n==("__classdict__" : Str))=false:=by decide):PSs X (.Return (some .(106)) pos::rest) (dSR X.K τ xs s):=
 gQ (dJ (lE (bo hN hv hd1 hcd)) cC) λD σ H ⟨A,H₀,B,a,S,ea,fin⟩=>by
   obtain⟨a',ws,hB,e1,e2,d⟩:=S.sl 0 _ h0;rw[ea]at e1;cases e1
   have q:=S.sl i s hi
   obtain⟨u,e⟩:∃u,(σ[i]?).join=some u:=by
     cases s with
     | un=>exact absurd rfl hu
     | d x=>obtain⟨_,u,e,_⟩:=q; exact⟨u,e⟩
     | o xs=>obtain⟨_,_,_,e,_⟩:=q; exact⟨_,e⟩
     | n t=>obtain⟨_,u,e,_⟩:=q; exact⟨u,e⟩
     | x E=>obtain⟨_,_,_,e,_⟩:=q; exact⟨_,e⟩
   rw[e]at q;refine⟨u,slot_of e,fin u H (B i) ws S.same e2 (xg S hB .(102) (λb hb=>.inr ⟨i,hb⟩) d) (λz=>hi0 (S.uq i 0 a z (by rw[hB]; exact gV.mpr rfl))) (λb hb=>⟨S.fr i b hb,S.bd i b hb⟩) (q.mono (aC .(102) λb z=>?_) .(102))⟩;rcases z with (z | z) | z
   . exact .inl z
   . exact .inr ⟨0,by rw[hB,z]; exact gV.mpr rfl⟩
   . exact .inr ⟨i,z⟩
end
section
variable {P:FB}{w:World}{K:fw}{mg:Str->Option Value}{base:Heap}
theorem fnG {st:Stmt}{fd:GE}{N ps:List Str}{Φ:List D->List D->List D->Sl->Prop}(F:Fun K x qual st f fd)(S:aJ N ps (aw st))(hb:∀x∈aD,mg x=none)(len:∀xs ds xs' r,Φ xs ds xs' r->ds.length+1=ps.length)
   (body:∀xs ds xs' r,Φ xs ds xs' r->∀cdv A outer s H E0,Bk (Xc P w K mg base N qual st f cdv A outer s H E0) k->PSs (Xc P w K mg base N qual st f cdv A outer s H E0) (cX st) (dSR K (.o xs::(ds.map .d++HY (N.length-(ds.length+1)) .un)) xs' r)) :
   a8 P w K mg base CX0 (k+1) f fd ps (spG K Φ):=by
 refine F.ok S (λvs H Q E ⟨M,a,ws,us,xs,ds,xs',r,hvs,_,_,_,_,dd,h,_⟩=>by rw[hvs,IA,dd.length]; exact len _ ds _ r h) λcdv A outer s H vs Q E hr ⟨M,a,ws,us,xs,ds,xs',r,hvs,ma,ha,hd1,dw,dd,h,q⟩=>?_
 subst hvs
 have ow:∀b,own (λb=>M b/\b≠a) (λi=>if i=0 then [a] else []) b↔M b:=λb=>by
   refine⟨λz=>z.elim (·.1) λ⟨i,z⟩=>?_,λz=>?_⟩
   . by_cases e:i=0
     . simp only[if_pos e]at z; rw[gV.mp z]; exact ma
     . simp only[if_neg e]at z; cases z
   . by_cases e:b=a
     . exact .inr ⟨0,by simp[e]⟩
     . exact .inl ⟨z,e⟩
 have hB:∀i b,b∈(if i=0 then [a] else []:List Addr)->i=0/\b=a:=λi b z=>by
   by_cases e:i=0
   . rw[if_pos e]at z; exact⟨e,gV.mp z⟩
   . rw[if_neg e]at z; cases z
 have vw:ao (Hy.hd H M) (Hy.hd H (own (λb=>M b/\b≠a) λi=>if i=0 then [a] else [])):=aC .(102) λb z=>(ow b).mp z
 refine⟨_,body xs ds xs' r h cdv A outer s H E ⟨hr,rfl,hb,LU⟩,λb=>M b/\b≠a,Hy.hd H (·=a),λi=>if i=0 then [a] else [],a,⟨aS,?_,λi s hi=>?_,λi b z=>?_,λi j b z1 z2=>((hB i b z1).1).trans ((hB j b z2).1).symm,λb z=>?_,λi b z=>⟨.lst ws,by rw[(hB i b z).2]; exact hd1⟩⟩,?_,λv H2 bs ws' e h2 d2 na fr z=>?_⟩
 . unfold L2.start;simp[dd.length]
 . have hl:=dd.length;unfold L2.start
   match i,hi with
   | 0,hi=>
     cases hi
     exact⟨a,ws,rfl,rfl,hd1,dw.mono vw⟩
   | i+1,hi=>
     rw[List.getElem?_cons_succ]at hi;show cE K _ H ((((us.map some)++_)[i]?).join) _ s;by_cases hlt:i<ds.length
     . rw[Hv (by simpa using hlt),HR,ph hlt]at hi;cases hi
       obtain⟨v,e,dv⟩:=dd.get (ph hlt);refine⟨rfl,v,?_,dv.mono vw⟩;rw[Hv (by simpa[hl]using hlt),HR,e];rfl
     . rw[Iu (by simpa using hlt),Le]at hi;split at hi
       . cases hi; rfl
       . cases hi
 . rw[(hB i b z).2];unfold Hy.hd;rw[if_pos rfl]
 . obtain⟨o,y⟩:=ha b z.1;exact⟨o,au.mpr ⟨z.2,y⟩⟩
 . unfold L2.start;rfl
 . have mm:∀b,((M b/\b≠a)\/b=a)\/b∈bs↔(M b\/b∈bs):=λb=>by
     constructor
     . rintro((⟨y,_⟩ | y) | y)
       . exact .inl y
       . rw[y]; exact .inl ma
       . exact .inr y
     . rintro(y | y)
       . by_cases e:b=a
         . exact .inl (.inr e)
         . exact .inl (.inl ⟨y,e⟩)
       . exact .inr y
   refine q v H2 bs ws' (λb o ne y=>e b o (au.mpr ⟨ne,y⟩)) h2 (d2.mono (aC .(102) λb y=>(mm b).mpr (.inl y))) (λb hb=>⟨?_,(fr b hb).2⟩) (z.mono (aC .(102) λb y=>(mm b).mpr y) .(102));have y:=(fr b hb).1;unfold Hy.hd at y;rw[if_neg (show ¬b=a from λe=>na (e▸hb))]at y;exact y
end
section
variable {K:fw}{A:Addr->Prop}{H₀ H H':Hp}{τ:List Sl}{B:Nat->List Addr}{σ:L2.St}
theorem Sta.G6 (S:Sta K A H₀ τ B σ H)(hi:τ[i]?=some (.o xs))(hB:B i=[a])(e:But a H H')(ho:H' a=some (.lst ws'))(d:av K (hd H' (own A B)) ws' xs'):Sta K A H₀ (τ.set i (.o xs')) B σ H':=by
 have hid:Hid (own A B) H a:=S.hid hB;have sm:ao (hd H (own A B)) (hd H' (own A B)):=e.hd hid.1;have f0:H₀ a=none:=S.fr i a (by rw[hB]; exact gV.mpr rfl);have hs:ao H₀ H':=λb o z=>e b o (λq=>by rw[q,f0]at z; cases z) (S.same b o z)
 refine⟨hs,by rw[HV,S.len],λj t hj=>?_,S.fr,S.uq,S.ad,λj b hb=>(hid.but e ⟨_,ho⟩).2 b (.inr ⟨j,hb⟩)⟩;by_cases ej:j=i
 . subst ej;have hl:=(rp.mp hi).1;rw[Ic hl]at hj;cases hj
   obtain⟨a',vs,e1,e2,_,_⟩:=S.sl j _ hi;rw[hB]at e1;cases e1
   exact⟨a,ws',hB,e2,ho,d⟩
 . rw[HI (λz=>ej z.symm)]at hj;have off:∀b∈B j,b≠a:=λb hb e=>ej (S.uq j i a (e▸hb) (by rw[hB]; exact gV.mpr rfl))
   have ne:∀b∈B j,H' b=H b:=λb hb=>by
     obtain⟨o,q⟩:=S.bd j b hb;rw[q];exact e b o (off b hb) q
   exact(S.sl j t hj).frame sm ne
end
def dEO (K:fw)(τ:List Sl)(j:Nat)(xs':List D)(s:Sl):TE:=λσ H Q=>∃A H₀ B,Sta K A H₀ τ B σ H/\∀v H' bs,Sta K A H₀ (τ.set j (.o xs')) B σ H'->cE K (hd H' λb=>own A B b\/b∈bs) H' (some v) bs s->Q v H'
section
variable {X:Cx}{τ τc:List Sl}{x z:D}{a b e o ix:Expr}{es:List Expr}{pos p q:Pos}{l k:Nat}{s:Sl}{N:Po}{rest:List Stmt}{i j m:Nat}{xs xs' ys zs ds:List D}
theorem jj (j:Nat){n nk:Str}{Φ:List D->List D->List D->Sl->Prop}(Bb:Bk X k)(cl:sU X.prog X.w X.K X.mg X.base k n (spG X.K Φ))(hΦ:Φ xs ds xs' s)(ha:PA X es (dA X.K true τ ds))(hi:τ[j]?=some (.o xs):=by rfl)(hN:X.N[j]?=some nk:=by rfl)
   (hv:Vis X.env.scope nk:=by first | exact JM rfl | exact IH .(9) | exact IH .(8)) (hd1:(nk==("__debug__" : Str))=false:=by decide) (hcd:(nk==("__classdict__" : Str))=false:=by decide)
   (hg:Gl X n:=by rfl) (hdb:(n==("__debug__" : Str))=false:=by decide) (he:Do (.Name nk q::es) X.env=(false,eval (.Name nk q) X.env)::Do es X.env:=by rfl) (hpl:(M5 pos (Do es X.env)).any (·.1)=false:=by rfl) :
   PE X (.Call .(106) (.Name nk q::es) [] pos) (dEO X.K τ j xs' s):=by
 obtain⟨f,fd,ps,F,hm,hk,hb⟩:=cl;refine peW (vC F Bb.room hg hm hk hb .nil BI (bj (bo (i:=j) hN hv hd1 hcd) ha he) hdb he hpl) λσ H Q ⟨A,H₀,B,S,kk⟩=>?_
 obtain⟨a,vs,hB,e1,e2,d⟩:=S.sl j _ hi;refine⟨_,slot_of e1,eQ S λus H1 f1 d1=>?_⟩;have S1:=S.mono f1;obtain⟨a',vs1,hB1,g1,g2,dd⟩:=S1.sl j _ hi;rw[e1]at g1;cases g1
 show spG X.K Φ (_++[]) _ _ _;rw[Io];exact⟨own A B,a,vs1,us,xs,ds,xs',s,rfl,.inr ⟨j,by rw[hB]; exact gV.mpr rfl⟩,S1.dm,g2,dd,d1,hΦ,λv H' bs ws' bt h' d' _ z=>kk v H' bs (S1.G6 hi hB bt h' d') z⟩
theorem tH (i j:Nat){n:Str}{ap cp:Pos}(he:PE X e (dEO X.K τ j xs' (.o ys)))(hl:zs.length+ys.length<1000000)(hr:PSs X rest (dS X.K ((τ.set j (.o xs')).set i (.o (zs++ys))) N))(hij:j≠i:=by decide)(hi:τ[i]?=some (.o zs):=by rfl)(hN:X.N[i]?=some n:=by rfl)
   (hv:Vis X.env.scope n:=by first | exact JM rfl | exact IH .(9) | exact IH .(8)) (hd:(n==("__debug__" : Str))=false:=by decide) (hcd:(n==("__classdict__" : Str))=false:=by decide)
   (hfew:((M5 cp (Do [e] X.env)).all (λx=>!x.1)&&(Nj cp (N2 [] X.env)).all (λx=>x.1.isSome)&&decide (([e]:List Expr).length+([]:List MW).length+(if ([]:List MW).isEmpty then 0 else 1)<30))=true:=by rfl)
   (hline:(ap.endLine==cp.line)=true:=by rfl) (hst:Do [e] X.env=.(117)::Do [] X.env:=by rfl) (hpl:(M5 cp (Do [] X.env)).any (·.1)=false:=by rfl)
   (hs:M7 .(132) none pos.line X.env=pure false:=by rfl) (hbase:M9 .(106) "extend" X.env (eval .(106) X.env)=eval .(106) X.env:=by rfl) :
   PSs X (.Expr .(132) pos::rest) .(114):=
 bw (M:=(·=(τ.set j (.o xs')).set i (.o (zs++ys)))) (psW (eA (kh IJ Kc KP jP (bo hN hv hd hcd) (bj he cB hst) hbase hfew hline hst hpl) hs) λD σ H ⟨A,H₀,B,S,Me⟩=>by
   obtain⟨l,vs,hb,e1,e2,d⟩:=S.sl i _ hi;refine⟨_,slot_of e1,.inl ⟨rfl,_,SqL.of e2⟩,A,H₀,B,S,λv H1 bs S2 ⟨l2,ws,eb,ev,h2,d2⟩=>?_⟩;cases ev
   have hi2:(τ.set j (.o xs'))[i]?=some (.o zs):=by rw[HI hij]; exact hi
   obtain⟨l',vs',hb',e1',e2',d'⟩:=S2.sl i _ hi2;rw[e1]at e1';cases e1'
   have lim:1000000<=sizeLine:=by decide
   refine⟨l,l2,vs',ws,rfl,rfl,e2',h2,by rw[d'.length,d2.length]; omega,?_⟩;exact Me.nx _ _ _ _ rfl (S2.put hi2 hb' (d'.append (d2.mono (aC .(102) λ_ z=>.inl z))))) λ_ e=>e▸hr
theorem Dt (r:Nat){n:Str}{ap cp:Pos}(he:PE X e (dEO X.K τ i xs' (.o ys)))(hl:zs.length+ys.length<1000000)(hij:i≠r:=by decide)(hi:τ[r]?=some (.o zs):=by rfl)(hN:X.N[r]?=some n:=by rfl)
   (hv:Vis X.env.scope n:=by first | exact JM rfl | exact IH .(9) | exact IH .(8)) (hd:(n==("__debug__" : Str))=false:=by decide) (hcd:(n==("__classdict__" : Str))=false:=by decide)
   (hfew:((M5 cp (Do [e] X.env)).all (λx=>!x.1)&&(Nj cp (N2 [] X.env)).all (λx=>x.1.isSome)&&decide (([e]:List Expr).length+([]:List MW).length+(if ([]:List MW).isEmpty then 0 else 1)<30))=true:=by rfl)
   (hline:(ap.endLine==cp.line)=true:=by rfl) (hst:Do [e] X.env=.(117)::Do [] X.env:=by rfl) (hpl:(M5 cp (Do [] X.env)).any (·.1)=false:=by rfl)
   (hs:M7 .(132) none pos.line X.env=pure false:=by rfl) (hbase:M9 .(106) "extend" X.env (eval .(106) X.env)=eval .(106) X.env:=by rfl) :
   PS X (.Expr .(132) pos) (dSA X.K τ i ((τ.set i (.o xs')).set r (.o (zs++ys))) τc):=
 psW (eA (kh IJ Kc KP jP (bo hN hv hd hcd) (bj he cB hst) hbase hfew hline hst hpl) hs) λD σ H ⟨A,H₀,B,S,fn,_⟩=>by
   obtain⟨l,vs,hb,e1,e2,d⟩:=S.sl r _ hi;refine⟨_,slot_of e1,.inl ⟨rfl,_,SqL.of e2⟩,A,H₀,B,S,λv H1 bs S2 ⟨l2,ws,eb,ev,h2,d2⟩=>?_⟩;cases ev
   have hi2:(τ.set i (.o xs'))[r]?=some (.o zs):=by rw[HI hij]; exact hi
   obtain⟨l',vs',hb',e1',e2',d'⟩:=S2.sl r _ hi2;rw[e1]at e1';cases e1'
   have lim:1000000<=sizeLine:=by decide
   refine⟨l,l2,vs',ws,rfl,rfl,e2',h2,by rw[d'.length,d2.length]; omega,?_⟩;exact fn _ _ _ (S2.put hi2 hb' (d'.append (d2.mono (aC .(102) λ_ z=>.inl z)))) rfl
theorem D2 (r:Nat){n:Str}{ap cp:Pos}(he:PE X e (dEO X.K τ i xs' (.d x)))(hl:zs.length<1000000)(hij:i≠r:=by decide)(hi:τ[r]?=some (.o zs):=by rfl)(hN:X.N[r]?=some n:=by rfl)
   (hv:Vis X.env.scope n:=by first | exact JM rfl | exact IH .(9) | exact IH .(8)) (hd:(n==("__debug__" : Str))=false:=by decide) (hcd:(n==("__classdict__" : Str))=false:=by decide)
   (hfew:((M5 cp (Do [e] X.env)).all (λx=>!x.1)&&(Nj cp (N2 [] X.env)).all (λx=>x.1.isSome)&&decide (([e]:List Expr).length+([]:List MW).length+(if ([]:List MW).isEmpty then 0 else 1)<30))=true:=by rfl)
   (hline:(ap.endLine==cp.line)=true:=by rfl) (hst:Do [e] X.env=.(117)::Do [] X.env:=by rfl) (hpl:(M5 cp (Do [] X.env)).any (·.1)=false:=by rfl)
   (hs:M7 (.Call (.Attribute .(106) "append" ap) [e] [] cp) none pos.line X.env=pure false:=by rfl) (hbase:M9 .(106) "append" X.env (eval .(106) X.env)=eval .(106) X.env:=by rfl) :
   PS X (.Expr (.Call (.Attribute .(106) "append" ap) [e] [] cp) pos) (dSA X.K τ i ((τ.set i (.o xs')).set r (.o (zs++[x]))) τc):=
 psW (eA (kh IJ Kd KQ fJ (bo hN hv hd hcd) (bj he cB hst) hbase hfew hline hst hpl) hs) λD σ H ⟨A,H₀,B,S,fn,_⟩=>by
   obtain⟨l,vs,hb,e1,e2,d⟩:=S.sl r _ hi;refine⟨_,slot_of e1,.inl ⟨rfl,_,SqL.of e2⟩,A,H₀,B,S,λv H1 bs S2 ⟨_,u,eu,d2⟩=>?_⟩;cases eu
   have hi2:(τ.set i (.o xs'))[r]?=some (.o zs):=by rw[HI hij]; exact hi
   obtain⟨l',vs',hb',e1',e2',d'⟩:=S2.sl r _ hi2;rw[e1]at e1';cases e1'
   refine⟨l,vs',v,rfl,rfl,e2',by rw[d'.length]; exact Jh hl .(2),?_⟩;exact fn _ _ _ (S2.put hi2 hb' (d'.append (.cons (d2.mono (aC .(102) λ_ z=>.inl z)) .nil))) rfl
theorem FC {n:Str}{m:Int}{j:Nat}{ix:Expr}{sp:Pos}(hx:PE X ix (dE X.K false τ (.d (.int m))))(he:PE X e (dE X.K true τ (.d x)))(hj:ixN xs.length m=some j)(hi:τ[i]?=some (.o xs):=by rfl)(hN:X.N[i]?=some n:=by rfl)
   (hv:Vis X.env.scope n:=by first | exact JM rfl | exact IH .(9) | exact IH .(8)) (hd:(n==("__debug__" : Str))=false:=by decide) (hcd:(n==("__classdict__" : Str))=false:=by decide)
   (hs:Ng [.Subscript .(106) ix sp] e pos.line X.env=pure false:=by rfl) (hw:Nh [.Subscript .(106) ix sp] e X.env=pure none:=by rfl) (h1:(KF [.Subscript .(106) ix sp] X.env).map (·.2)=[assign (.Subscript .(106) ix sp) X.env]:=by rfl)
   (ha:∀v,assign (.Subscript .(106) ix sp) X.env v=(do
     let ov <- M6 [v] (eval .(106) X.env)
     let iv <- M6 [v,ov] (eval ix X.env)
     Nu sp
     M6 [v,ov,iv] (Nv ov iv v)
     NJ [v,ov,iv] []):=by intro _; rfl) :
   PS X (.Assign [.Subscript .(106) ix sp] e pos) (dSA X.K τ i (τ.set i (.o (xs.set j x))) τc):=
 psW (jL he (iO (bo hN hv hd hcd) hx set_list ha) hs hw h1) λD σ H ⟨A,H₀,B,S,fn,_⟩=>aU S λv H1 e1 d1=>by
   obtain⟨l,vs,hb,f1,f2,d⟩:=(S.mono e1).sl i _ hi;refine⟨_,slot_of f1,aU (S.mono e1) λw H2 e2 d2=>?_⟩;cases d2
   refine⟨l,vs,m,j,rfl,rfl,e2 _ _ f2,by rw[d.length]; exact hj,?_⟩;exact fn _ _ _ (((S.mono e1).mono e2).put hi hb (fZ j (d.mono (aC e2 λ_ z=>z)) (d1.mono (aC e2 λ_ z=>z)))) rfl
theorem Fv {n:Str}{xs:List D}{ap cp ap2 cp2:Pos}{k j:Nat}(x:D)(ha:PE X a (dE X.K false τ (.d (.int (k:Nat)))))(hb:PE X b (dE X.K false τ (.d (.int (j:Nat)))))(hj:xs[j]?=some x)(hk:k<xs.length)(hl:xs.length<1000000)(hi:τ[i]?=some (.o xs):=by rfl)(hN:X.N[i]?=some n:=by rfl)
   (hv:Vis X.env.scope n:=by first | exact JM rfl | exact IH .(9) | exact IH .(8)) (hd:(n==("__debug__" : Str))=false:=by decide) (hcd:(n==("__classdict__" : Str))=false:=by decide)
   (hfew:((M5 cp (Do [a,.Call .(119) [b] [] cp2] X.env)).all (λx=>!x.1)&&(Nj cp (N2 [] X.env)).all (λx=>x.1.isSome)&&decide (([a,.Call .(119) [b] [] cp2]:List Expr).length+([]:List MW).length+(if ([]:List MW).isEmpty then 0 else 1)<30))=true:=by rfl)
   (hline:(ap.endLine==cp.line)=true:=by rfl) (hst:Do [a,.Call .(119) [b] [] cp2] X.env=.(118)::Do [.Call .(119) [b] [] cp2] X.env:=by rfl)
   (hst2:Do [.Call .(119) [b] [] cp2] X.env=(false,eval (.Call .(119) [b] [] cp2) X.env)::Do [] X.env:=by rfl) (hpl:(M5 cp (Do [.Call .(119) [b] [] cp2] X.env)).any (·.1)=false:=by rfl)
   (hs:M7 (.Call (.Attribute .(106) "insert" ap) [a,.Call .(119) [b] [] cp2] [] cp) none pos.line X.env=pure false:=by rfl) (hbase:M9 .(106) "insert" X.env (eval .(106) X.env)=eval .(106) X.env:=by rfl)
   (hfew2:((M5 cp2 (Do [b] X.env)).all (λx=>!x.1)&&(Nj cp2 (N2 [] X.env)).all (λx=>x.1.isSome)&&decide (([b]:List Expr).length+([]:List MW).length+(if ([]:List MW).isEmpty then 0 else 1)<30))=true:=by rfl) (hline2:(ap2.endLine==cp2.line)=true:=by rfl)
   (hst3:Do [b] X.env=(false,eval b X.env)::Do [] X.env:=by rfl) (hpl2:(M5 cp2 (Do [] X.env)).any (·.1)=false:=by rfl) (hbase2:M9 (.Name n q) "pop" X.env (eval (.Name n q) X.env)=eval (.Name n q) X.env:=by rfl) :
   PS X (.Expr (.Call (.Attribute .(106) "insert" ap) [a,.Call .(119) [b] [] cp2] [] cp) pos) (dSA X.K τ i (τ.set i (.o ((xs.eraseIdx j).insertIdx k x))) τc):=
 psW (eA (kh IJ Mo PySem.F.type_list_insert wq (bo hN hv hd hcd)
     (bj ha (bj (kh IJ PySem.F.slot_list_pop PySem.F.type_list_pop zi (bo hN hv hd hcd) (bj hb cB hst3) hbase2 hfew2 hline2 hst3 hpl2) cB hst2) hst) hbase hfew hline hst hpl) hs) λDn σ H ⟨A,H₀,B,S,fn,_⟩=>by
   obtain⟨l,vs,hbb,e1,e2,d⟩:=S.sl i _ hi;have hjl:j<xs.length:=(rp.mp hj).1;refine⟨_,slot_of e1,.inl ⟨rfl,_,SqL.of e2⟩,aU S λw1 H1 f1 g1=>?_⟩;cases g1
   have S1:=S.mono f1;refine⟨_,slot_of e1,.inl ⟨rfl,_,SqL.of (f1 _ _ e2)⟩,aU S1 λw2 H2 f2 g2=>?_⟩;cases g2
   have S2:=S1.mono f2;obtain⟨l',vs',hb',e1',e2',d'⟩:=S2.sl i _ hi;rw[e1]at e1';cases e1'
   have hln:=d'.length;obtain⟨v,hv1,dv⟩:=d'.get hj;refine⟨l,vs',(j:Int),j,v,rfl,rfl,e2',by omega,by omega,PySem.StrLaws.seqIndex_nonneg .(0) .(0),hv1,?_⟩;have hel:(vs'.eraseIdx j).length=xs.length-1:=by rw[JA .(0),hln]
   refine⟨l,vs'.eraseIdx j,(k:Int),v,rfl,rfl,aK,by omega,by rw[HC]; omega,by rw[hel]; have:sizeLine>1000000:=.(2); omega,?_⟩;rw[HC]
   have eu:upd (upd H2 l (.lst (vs'.eraseIdx j))) l (.lst ((vs'.eraseIdx j).insertIdx k v))=upd H2 l (.lst ((vs'.eraseIdx j).insertIdx k v)):=by
     funext z;unfold upd;split <;> rfl
   rw[eu];exact fn _ _ _ (S2.put hi hb' (uG dv k (m9 j d'))) rfl
end
end Hy
namespace K34
open PySem PySem.Spec PyProof.Rows L2 Hy
open Ev (D Den av aH aL)
def iU (xs ds xs':List D)(r:Sl):Prop:=∃(n i kk M:Nat) (g:Nat->Nat->Rat),xs=(mkT n n g).map rwQ/\ds=[.int ((i+1:Nat):Int),.int (kk:Nat)]/\i+1<n/\kk<n/\n<=7/\g i kk≠0/\Sz n M g/\4*M<=900000/\xs'=(mkT n n (tkF g i kk)).map rwQ/\r=.d (stD ("up",i,g (i+1) kk/g i kk))
theorem Gn (hi:i+1<n):((mkT n n g).map rwQ).set (i+1) (rwQ ((ox n).map λb=>g (i+1) b-g (i+1) kk/g i kk*g i b))=(mkT n n (tkF g i kk)).map rwQ:=by
 refine IX (by simp[mkT]) λx h1 h2=>?_
 rw[List.getElem_set];by_cases e:i+1=x
 . subst e
   have:tkF g i kk (i+1)=λb=>g (i+1) b-g (i+1) kk/g i kk*g i b:=by
     funext b;unfold tkF;rw[if_pos rfl]
   rw[if_pos rfl];simp[mkT,this]
 . have:tkF g i kk x=g x:=by
     funext b;unfold tkF;rw[if_neg (ID e)]
   rw[if_neg e];simp[mkT,this]
section
variable {P:FB}{w:World}{K:fw}{mg:Str->Option Value}{base:Heap}{k:Nat}{f:Addr}{fd:GE}{qual:Str}
set_option maxHeartbeats 1000000 in
theorem qO (F:Fun K "take_off" qual (top 40) f fd)(hb:∀x∈aD,mg x=none)(c_quotient_of:Cal P w K mg base k "quotient_of" fh)(c_rest_of:Cal P w K mg base k "rest_of" jN)(c_product_of:Cal P w K mg base k "product_of" dC):a8 P w K mg base CX0 (k+1) f fd ["grid","i","k"] (spG K iU):=by
 refine fnG F kn hb (by rintro _ _ _ _ ⟨_,_,_,_,_,_,rfl,_⟩; rfl) ?_;rintro _ _ _ _ ⟨n,i,kk,M,g,rfl,rfl,hi,hk,h7,nz,sz,hM,rfl,rfl⟩ cdv A outer s H E b;have nd:=kn.nd;have ei:((i+1:Nat):Int)-1=(i:Nat):=by omega
 have s1:=sz (i+1) hi kk hk;have s2:=sz i .(0) kk hk;have sw:=s1.div s2 nz;refine jA (B6 3 nd (x_call b c_quotient_of (ae (aM (fj (xs:=(mkT n n g).map rwQ) 0 (aa 1) (jo hi)) (aa 2) (a6 (i7 hk))) (ae (aM (fj (xs:=(mkT n n g).map rwQ) 0 (aI (aa 1) af bO) (by rw[ei]; exact jo (i:=i) .(0))) (aa 2) (a6 (i7 hk))) ag)) ⟨M,M,g (i+1) kk,g i kk,rfl,nz,s1,s2,by omega,rfl⟩)) ?_;refine jA (FC (i:=0) (xs:=(mkT n n g).map rwQ) (m:=((i+1:Nat):Int)) (j:=i+1) (x:=rwQ ((ox n).map λb=>g (i+1) b-g (i+1) kk/g i kk*g i b)) (aa 1) (bE (fR (AG 0 1 (f:=λb=>frD (g (i+1) b-g (i+1) kk/g i kk*g i b)) b (uV b (fj (xs:=(mkT n n g).map rwQ) 0 (aa 1) (jo hi)) (fj (xs:=(mkT n n g).map rwQ) 0 (aI (aa 1) af bO) (by rw[ei]; exact jo (i:=i) .(0)))) GU (by rw[b6,bp,bp,bp,Iw]; omega) λj hj s0 H0 fp=>?_)) ?_) (by rw[eW]; exact cP hi)) ?_
 . rw[b6,bp,bp,bp,bp,Iw]at hj;have hj:j<n:=by omega
   have e1:((ox n).map (g (i+1))).getD j 0=g (i+1) j:=by simp[hj]
   have e2:((ox n).map (g i)).getD j 0=g i j:=by simp[hj]
   rw[e1,e2];have s3:=sz (i+1) hi j hj;have s4:=sz i .(0) j hj;exact x_call .(109) c_rest_of (ae (aa 0) (ae (x_call .(109) c_product_of (ae (aa 2) (ae (aa 1) ag)) ⟨M+M,M,_,_,rfl,sw,s4,by omega,rfl⟩) ag)) ⟨M,M+M+M,_,_,rfl,s3,sw.mul s4,by omega,rfl⟩
 . refine congrArg (λl=>some (D.lst l)) ?_;rw[b6,bp,bp,bp,bp,Iw,Nat.min_self,Ik];rfl
 rw[show stD ("up",i,g (i+1) kk/g i kk)=D.tup [.str "up",.int (((i+1:Nat):Int)-1),frD (g (i+1) kk/g i kk)] by unfold stD; rw[ei]];refine zv (bI (ae cw (ae (aI (aa 1) af bO) (ae (aa 3) ag)))) ?_;exact congrArg (λl=>some (Sl.o l)) (Gn hi)
end
def Mk1 (K:fw)(mg:Str->Option Value)(n:Str)(i j:Int):Prop:=∃a,mg n=some (.ref a)/\∀H,SqT K H a [.int i,.int j]
theorem qd {X:Cx}{C:Bool}{τ:List Sl}{pos:Pos}{n:Str}{i j:Int}(h:Mk1 X.K X.mg n i j)(hg:Gl X n:=by rfl)(hd:(n==("__debug__" : Str))=false:=by decide):PE X (.Name n pos) (dE X.K C τ (.d (.tup [.int i,.int j]))):=by
 obtain⟨a,hm,hb⟩:=h;exact nW (vy (v:=.ref a) hg hm rfl hd) λH=>.tup (hb H) (.cons .int (.cons .int .nil))
def iT (xs ds xs':List D)(r:Sl):Prop:=∃(n i:Nat) (g:Nat->Nat->Rat),xs=(mkT n n g).map rwQ/\ds=[.int ((i+1:Nat):Int)]/\i+1<n/\n<=7/\xs'=(mkT n n (lfF g i)).map rwQ/\r=.o [stD ("weigh",i,0),stD ("up",i,1)]
theorem FZ (hi:i+1<n):(((mkT n n g).map rwQ).eraseIdx (i+1)).insertIdx i (rwQ ((ox n).map (g (i+1))))=(mkT n n (lfF g i)).map rwQ:=by
 have l1:(((mkT n n g).map rwQ).eraseIdx (i+1)).length=n-1:=by rw[JA (by rw[eW]; exact hi),eW]
 refine IX ?_ λx h1 h2=>?_
 . rw[List.length_insertIdx,l1,eW,if_pos .(0)]; omega
 . have hx:x<n:=by rw[eW]at h2; exact h2
   have gg:∀y (h:y<((mkT n n g).map rwQ).length),((mkT n n g).map rwQ)[y]=rwQ ((ox n).map (g y)):=λy h=>by simp[mkT]
   have r2:((mkT n n (lfF g i)).map rwQ)[x]=rwQ ((ox n).map (g (swp i x))):=by
     simp[mkT];rfl
   rw[r2,List.getElem_insertIdx];split
   . rename_i q;rw[List.getElem_eraseIdx,dif_pos .(0),gg,fQ .(0) .(0)]
   . split
     . rename_i q;rw[q,pC]
     . rename_i q1 q2;rw[List.getElem_eraseIdx];by_cases e:x=i+1
       . rw[dif_pos .(0),gg,e,jW];rfl
       . rw[dif_neg .(0),gg,fQ .(0) e,show x-1+1=x by omega]
section
variable {P:FB}{w:World}{K:fw}{mg:Str->Option Value}{base:Heap}{k:Nat}{f:Addr}{fd:GE}{qual:Str}
theorem qW (F:Fun K "lift_row" qual (top 39) f fd)(hb:∀x∈aD,mg x=none)(y_NOUGHT:Mk1 K mg "NOUGHT" 0 1)(y_ONE:Mk1 K mg "ONE" 1 1):a8 P w K mg base CX0 (k+1) f fd ["grid","i"] (spG K iT):=by
 refine fnG F ko hb (by rintro _ _ _ _ ⟨_,_,_,_,rfl,_⟩; rfl) ?_;rintro _ _ _ _ ⟨n,i,g,rfl,rfl,hi,h7,rfl,rfl⟩ cdv A outer s H E b;have nd:=ko.nd;have ei:((i+1:Nat):Int)-1=(i:Nat):=by omega
 have g0:((mkT n n g).map rwQ)[i+1]?=some (rwQ ((ox n).map (g (i+1)))):=by
   rw[ph (by rw[eW]; exact hi)];simp[mkT]
 refine jA (Fv (i:=0) (xs:=(mkT n n g).map rwQ) (k:=i) (j:=i+1) (rwQ ((ox n).map (g (i+1)))) (by rw[<- ei]; exact aI (aa 1) af bO) (aa 1) g0 (by rw[eW]; omega) (by rw[eW]; omega)) ?_;rw[show stD ("weigh",i,0)=D.tup [.str "weigh",.int (((i+1:Nat):Int)-1),.tup [.int 0,.int 1]] by unfold stD; rw[ei]; rfl,show stD ("up",i,1)=D.tup [.str "up",.int (((i+1:Nat):Int)-1),.tup [.int 1,.int 1]] by unfold stD; rw[ei]; rfl];refine zv (cM (ae (bI (ae cw (ae (aI (aa 1) af bO) (ae (qd y_NOUGHT) ag)))) (ae (bI (ae cw (ae (aI (aa 1) af bO) (ae (qd y_ONE) ag)))) ag))) ?_;exact congrArg (λl=>some (Sl.o l)) (FZ hi)
end
end K34
namespace Ev
open PySem PySem.Spec PyProof.Rows L2
open PySem.Builtin.Range (rangeSize)
noncomputable def Itg (m:Int)(n:Nat):L2.It:=⟨λi _=>i<n,λi H x H'=>H'=H/\x=.int (m-(i:Nat)),λi _=>n<=i⟩
theorem xf {P:FB}{w:World}{K:fw}{tg:Expr}(it:Addr)(m:Int)(n:Nat):Turn P w K false tg (Itg m n) [it] it (λi h=>i<=n/\N7 h it (m+(i:Nat)*(-1)) ((n:Int)-(i:Nat)) (-1)) where
 mem:=by simp
 obj:=λi h st b hb=>by
   have e:b=it:=by simpa using hb
   subst e
   exact⟨_,st.2,λv z=>by
     have z':Data.fields _=Data.cell v:=z;cases z'⟩
 keep:=λi h h' st k=>⟨st.1,k it .(4) _ st.2⟩
 item:=by
   intro X hP hw hK hc i pins s σ H E I hf st hg;subst hP hw hK;obtain⟨f0,f1,f2,f3,f4,f5⟩:=hf it .(4);have W:=Mi (prog:=X.prog) (w:=X.w) (I.ok.hd hc.calm) it m (-1) n;refine W.item i s _ _ hg st.2 λv h' tk hv st' kk=>?_
   obtain⟨t,rfl⟩:=hv;have I1:Inv X pins σ H { s with heap:=h',toks:=tk }:=I.turned (λb o hb e=>kk b o (by simpa using hb) e) f0 f1 f3 f4 f5;refine⟨_,rfl,kj (s:={ s with heap:=h',toks:=tk }) (n:="range_iterator") st' rfl rfl .(2) ⟨.int (m-(i:Nat)),H,I1,⟨t,?_⟩,⟨rfl,rfl⟩,⟨hg,st'⟩,λb hb=>(hf b hb).1⟩⟩;rw[Int.mul_neg,Int.mul_one,<- Int.sub_eq_add_neg]
 done:=by
   intro X hP hw hK hc i pins s σ H E I hf st hg;subst hP hw hK;obtain⟨f0,f1,f2,f3,f4,f5⟩:=hf it .(4);have hg:n<=i:=hg;obtain rfl:i=n:=Nat.le_antisymm st.1 hg;have W:=Mi (prog:=X.prog) (w:=X.w) (I.ok.hd hc.calm) it m (-1) i;exact W.done s _ _ st.2 λh' tk kk=>⟨rfl,I.turned (λb o hb e=>kk b o (by simpa using hb) e) f0 f1 f3 f4 f5⟩
 self:=λ_ _ _ _ _ st h=>N8 st.2 h
theorem u4 {m j:Int}{n:Nat}(h:m-j=n):rangeSize m j (-1)=n:=by
 unfold rangeSize;rw[if_neg .(0),Int.neg_neg,K1];split <;> omega
theorem yc {m j:Int}{n:Nat}(h:m-j=n)(h1:-(2^60)<=m/\m<2^60/\-(2^60)<=j/\j<2^60):Builtin.Range.small m j (-1)=true:=by
 unfold Builtin.Range.small;rw[u4 h];simp only[Builtin.Range.rangeFitsLong,Iy,Bool.or_eq_true,decide_eq_true_eq,beq_iff_eq];simp;omega
section
variable {X:Cx}{tg:Expr}
def Gr (ta:TA):TI:=λσ H R=>ta σ H λvs H1=>∃(i j:Int) (n:Nat),vs=[.int i,.int j,.int (-1)]/\(-(2^30)<=i/\i<2^30/\-(2^30)<=j/\j<2^30)/\i-j=n/\R (Itg i n) H1
theorem mZ {a b c:Expr}{ta:TA}{p pos:Pos}(hc:X.calm=true)(hg:Gl X "range")(hm:X.mg "range" = none)(ha:PA X [a,b,c] ta)(hs:Do [a,b,c] X.env=.(118)::Do [b,c] X.env:=by rfl)(hs2:Do [b,c] X.env=(false,eval b X.env)::Do [c] X.env:=by rfl)(hs3:Do [c] X.env=[(false,eval c X.env)]:=by rfl):
   PI X tg (.Call (.Name "range" p) [a,b,c] [] pos) (Gr ta):=by
 intro pins s σ H R I h;refine Call_ (cV I hg hm NQ (Ib (thn (ha pos pins s σ H _ I h) λus s1 ⟨vs,H1,I1,r1,q1⟩=>?_) hs (by rw[hs2,hs3]; rfl)));obtain⟨i,j,n,e,⟨q1,q2,q3,q4⟩,en,q⟩:=q1;subst e;cases r1 with
 | cons r rr=>
   cases rr with
   | cons r' rr=>
     cases rr with
     | cons r'' rr=>
       cases rr
       obtain⟨t,rfl⟩:=r;obtain⟨t',rfl⟩:=r';obtain⟨t'',rfl⟩:=r'';refine call_range_3 .(2) ?_ (JM (PyProof.noPylong_small .(0)));refine wpAny_pyIter_range (L9 ..) (yc en .(14)) ?_;have I2:Inv X pins σ H1 { s1 with heap:=s1.heap.push { cls:=.type "range",data:=.fields #[.int i t,.int j t',.int (-1) t''] },toks:=s1.toks }:=I1.kept λb o e=>pq _ e
       refine⟨false,(s1.heap.push { cls:=.type "range",data:=.fields #[.int i t,.int j t',.int (-1) t''] }).objs.size,[(s1.heap.push { cls:=.type "range",data:=.fields #[.int i t,.int j t',.int (-1) t''] }).objs.size],_,_,H1,rfl,
         I2.kept (t':=s1.toks) λb o e=>pq _ e,.inl hc,xf _ i n,⟨HL _,?_⟩,λb hb=>?_,q⟩
       . have e1:i+((0:Nat):Int)*(-1)=i:=by simp
         have e2:((n:Nat):Int)-((0:Nat):Int)=LW i j (-1):=by rw[u4 en]; simp
         rw[e1,e2];exact Hz _ rfl
       . have e:b=(s1.heap.push { cls:=.type "range",data:=.fields #[.int i t,.int j t',.int (-1) t''] }).objs.size:=by simpa using hb
         subst e;exact I2.jH .(3) (I2.hok.fresh .(3))
end
end Ev
namespace Hy
open PySem PySem.Spec PyProof.Rows L2
open Ev (D Den av aq aY aR Itg mZ)
noncomputable def pD (m:Int)(n:Nat):List D:=(ox n).map λk=>D.int (m-(k:Nat))
theorem cI (m:Int)(n:Nat):(pD m n).length=n:=by simp[pD]
theorem oq (m:Int)(n i:Nat)(h:i<(pD m n).length):(pD m n)[i]=.int (m-(i:Nat)):=by simp[pD]
theorem vc {K:fw}(m:Int)(n:Nat):Yl K (Itg m n) (pD m n) G:=by
 intro H sg;refine⟨λi hi=>by rw[cI]at hi; exact hi,λi hi=>?_⟩;have hi':i<n:=by rw[cI]at hi; exact hi
 refine⟨hi',λx H' ⟨e1,e2⟩=>?_⟩;subst e1 e2;refine⟨ao.refl _,λM _ sv=>?_⟩;rw[oq];exact .int
theorem EK {X:Cx}{k:Nat}{τ:List Sl}{a b c tg:Expr}{p pos:Pos}{m j:Int}(n:Nat)(B:Bk X k)(h:PE X a (dE X.K false τ (.d (.int m))))(h':PE X b (dE X.K false τ (.d (.int j))))(h'':PE X c (dE X.K false τ (.d (.int (-1)))))(h1:-(2^30)<=m/\m<2^30/\-(2^30)<=j/\j<2^30)(hn:m-j=n)(hg:Gl X "range":=by rfl)
   (hs:Do [a,b,c] X.env=.(118)::Do [b,c] X.env:=by rfl) (hs2:Do [b,c] X.env=(false,eval b X.env)::Do [c] X.env:=by rfl) (hs3:Do [c] X.env=[(false,eval c X.env)]:=by rfl):PI X tg (.Call (.Name "range" p) [a,b,c] [] pos) (dI X.K τ (pD m n)):=
 piW (mZ B.calm hg (B.blt _ .(2)) (ae h (ae h' (ae h'' ag hs3) hs2) hs) hs hs2 hs3) λσ H R ⟨A,H₀,B,S,k⟩=>eQ S λvs H1 e1 d1=>by
   cases d1 with
   | cons d r=>
     cases r with
     | cons d' r=>
       cases r with
       | cons d'' r=>
         cases r
         cases d
         cases d'
         cases d''
         exact⟨m,j,n,rfl,h1,hn,k _ H1 e1 (vc m n)⟩
end Hy
namespace K34
open PySem PySem.Spec PyProof.Rows L2 Hy
open Ev (D Den av aH aL)
noncomputable def gA (k N:Nat)(g:Nat->Nat->Rat):Nat->Nat->Nat->Rat
 | 0=>g
 | a+1=>de k (k+(N-(a+1))) (gA k N g a)
noncomputable def sA (k N:Nat)(g:Nat->Nat->Rat):Nat->List Stp
 | 0=>[]
 | a+1=>sA k N g a++fI k (k+(N-(a+1))) (gA k N g a)
theorem rM :∀a,a<=N->clG k N g=clG k (N-a) (gA k N g a)/\clS k N g=sA k N g a++clS k (N-a) (gA k N g a)/\(SzP n M k N g->SzP n M k (N-a) (gA k N g a))
 | 0,_=>⟨rfl,rfl,λh=>h⟩
 | a+1,h=>by
   obtain⟨e1,e2,e3⟩:=rM (n:=n) (M:=M) (k:=k) (N:=N) (g:=g) a .(0);have e:N-a=N-(a+1)+1:=by omega
   rw[e]at e1 e2 e3;refine⟨e1,?_,λh=>(e3 h).2⟩;rw[e2];show _=(sA k N g a++fI k (k+(N-(a+1))) (gA k N g a))++_;rw[Ij];rfl
theorem xJ :∀a,(sA k N g a).length<=2*a
 | 0=>Ia _
 | a+1=>by
   have h1:=xJ (k:=k) (N:=N) (g:=g) a;have h2:=qh k (k+(N-(a+1))) (gA k N g a);show (sA k N g a++_).length<=_;rw[vp];omega
theorem Eg :∀d,SzP n M k d g->Sz n M g
 | 0,h=>h
 | _+1,h=>h.1
theorem yA (q:Rat):Ev.cv (frD q):=⟨by simp[Ev.cln,Ev.bQ,frD],by simp[Ev.dep,Ev.b5,frD]⟩
theorem DD (q:Rat):Ev.eqD (frD q) (frD 0)=decide (q=0):=by
 by_cases h:q=0
 . subst h;decide
 . rw[decide_eq_false h];have:q.num≠0:=λz=>h (LB.mp z)
   unfold frD;rw[Ev.eqD,Ev.fU,Ev.eqD,show (0:Rat).num=0 from rfl,beq_eq_false_iff_ne.mpr this];rfl
theorem AX {X:Cx}{k:Nat}{τ:List Sl}{e:Expr}{q:Rat}{p pos:Pos}{c:Bool}(b:Bk X k)(y:Mk1 X.K X.mg "NOUGHT" 0 1)(hc:decide (q=0)=c)(h:PE X e (dE X.K false τ (.d (frD q))))(hg:Gl X "NOUGHT":=by rfl):PT X (.Compare e [.Eq] [.Name "NOUGHT" p] pos) (dT X.K τ c):=by
 have z:PT X (.Compare e [.Eq] [.Name "NOUGHT" p] pos) (dT X.K τ _):=a9 h (qd y hg) (um (x:=frD q) (y:=frD 0) b (yA q) (yA 0));rw[DD,hc]at z;exact z
theorem DM {X:Cx}{τ τ2:List Sl}{c:Expr}{rest:List Stmt}(hc:PT X c (dT X.K τ true)):PSs X (.If c [.Continue p1] [] pos::rest) (dSA X.K τ i τ2 τ):=
 gQ (dJ (ny hc (Bn qz) jm) cC) λ_ σ _ ⟨A,H₀,B,S,_,fc⟩=>⟨A,H₀,B,S,λH' e=>rE (fc B σ H' (S.mono e) rfl)⟩
def dM (xs ds xs':List D)(r:Sl):Prop:=∃(n M kk:Nat) (g:Nat->Nat->Rat),xs=(mkT n n g).map rwQ/\ds=[.int (kk:Nat)]/\kk<n/\n<=7/\SzP n M kk (n-1-kk) g/\4*M<=900000/\xs'=(mkT n n (clG kk (n-1-kk) g)).map rwQ/\r=.o ((clS kk (n-1-kk) g).map stD)
section
variable {P:FB}{w:World}{K:fw}{mg:Str->Option Value}{base:Heap}{k:Nat}{f:Addr}{fd:GE}{qual:Str}
set_option maxHeartbeats 1000000 in
theorem kA (F:Fun K "clear_column" qual (top 38) f fd)(hb:∀x∈aD,mg x=none)(y_NOUGHT:Mk1 K mg "NOUGHT" 0 1)(c_lift_row:sU P w K mg base k "lift_row" (spG K iT))(c_take_off:sU P w K mg base k "take_off" (spG K iU)):a8 P w K mg base CX0 (k+1) f fd ["grid","k"] (spG K dM):=by
 refine fnG F gm hb (by rintro _ _ _ _ ⟨_,_,_,_,_,rfl,_⟩; rfl) ?_;rintro _ _ _ _ ⟨n,M,kk,g,rfl,rfl,hk,h7,sz,hM,rfl,rfl⟩ cdv A outer s H E b;have nd:=gm.nd;generalize eN:n-1-kk=N at *
 obtain⟨eG,eS,_⟩:=rM (n:=n) (M:=M) (k:=kk) (N:=N) (g:=g) N .(3);rw[KW]at eG eS;have eS:clS kk N g=sA kk N g N:=by rw[eS]; exact Io _
 have eG:clG kk N g=gA kk N g N:=eG;refine jA (B6 2 nd (cM ag)) ?_
 refine jA (FF (ys:=pD ((n:Nat)-1:Int) N) (g:=λa=>.int ((kk+(N-(a+1))+1:Nat):Int)) 3 (λa=>[.o ((mkT n n (gA kk N g a)).map rwQ),.d (.int (kk:Nat)),.o ((sA kk N g a).map stD),match a with | 0=>.un | a+1=>.d (.int ((kk+(N-(a+1))+1:Nat):Int))]) b nd
   (EK N b (aI (qQ (bh b (ae (jU 0) ag) (iQ eW))) af bO) (aa 1) (l4 af) .(14) .(0)) (λa h=>?_) λa ha=>?_) ?_
 . rw[cI]at h;rw[oq];congr 1;omega
 . rw[cI]at ha;obtain⟨_,_,e3⟩:=rM (n:=n) (M:=M) (k:=kk) (N:=N) (g:=g) a .(0);have sa:=Eg _ (e3 sz);have hl:=xJ (k:=kk) (N:=N) (g:=g) a;have hl':((sA kk N g a).map stD).length<=2*a:=by rw[bp]; exact hl
   have e1:gA kk N g (a+1)=de kk (kk+(N-(a+1))) (gA kk N g a):=rfl;have e2:sA kk N g (a+1)=sA kk N g a++fI kk (kk+(N-(a+1))) (gA kk N g a):=rfl;show PSs _ _ (dSA _ [.o ((mkT n n (gA kk N g a)).map rwQ),.d (.int (kk:Nat)),.o ((sA kk N g a).map stD),.d (.int ((kk+(N-(a+1))+1:Nat):Int))] 0 [.o ((mkT n n (gA kk N g (a+1))).map rwQ),.d (.int (kk:Nat)),.o ((sA kk N g (a+1)).map stD),.d (.int ((kk+(N-(a+1))+1:Nat):Int))] [.o ((mkT n n (gA kk N g (a+1))).map rwQ),.d (.int (kk:Nat)),.o ((sA kk N g (a+1)).map stD),.d (.int ((kk+(N-(a+1))+1:Nat):Int))]);rw[e1,e2];generalize gA kk N g a=G at *
   generalize sA kk N g a=L at *
   have hi:kk+(N-(a+1))+1<n:=by omega
   generalize kk+(N-(a+1))=i at *
   have ei:((i+1:Nat):Int)-1=(i:Nat):=by omega
   by_cases h1:G (i+1) kk=0
   . have o1:de kk i G=G:=if_pos h1;have o2:fI kk i G=[]:=if_pos h1;rw[o1,o2,Io];exact DM (AX b y_NOUGHT (decide_eq_true h1) (aM (fj (xs:=(mkT n n G).map rwQ) 0 (aa 3) (jo hi)) (aa 1) (a6 (i7 hk))))
   refine lz (EN (AX b y_NOUGHT (decide_eq_false h1) (aM (fj (xs:=(mkT n n G).map rwQ) 0 (aa 3) (jo hi)) (aa 1) (a6 (i7 hk))))) ?_;by_cases h2:G i kk=0
   . have o1:de kk i G=lfF G i:=by unfold de; rw[if_neg h1,if_pos h2]
     have o2:fI kk i G=[(("weigh" : Str),i,(0:Rat)),(("up" : Str),i,(1:Rat))]:=by unfold fI; rw[if_neg h1,if_pos h2]
     rw[o1,o2,HB];refine lz (FX (AX b y_NOUGHT (decide_eq_true h2) (aM (fj (xs:=(mkT n n G).map rwQ) 0 (aI (aa 3) af bO) (by rw[ei]; exact jo (i:=i) .(0))) (aa 1) (a6 (i7 hk)))) (lz (Dt 2 (jj 0 b c_lift_row ⟨n,i,G,rfl,rfl,hi,h7,rfl,rfl⟩ (ae (aa 3) ag)) (by show (L.map stD).length+2<1000000; omega)) tZ)) tZ
   . have o1:de kk i G=tkF G i kk:=by unfold de; rw[if_neg h1,if_neg h2]
     have o2:fI kk i G=[(("up" : Str),i,G (i+1) kk/G i kk)]:=by unfold fI; rw[if_neg h1,if_neg h2]
     rw[o1,o2,HB];refine lz (Fm (AX b y_NOUGHT (decide_eq_false h2) (aM (fj (xs:=(mkT n n G).map rwQ) 0 (aI (aa 3) af bO) (by rw[ei]; exact jo (i:=i) .(0))) (aa 1) (a6 (i7 hk)))) (lz (D2 2 (jj 0 b c_take_off ⟨n,i,kk,M,G,rfl,rfl,hi,hk,h7,h2,sa,hM,rfl,rfl⟩ (ae (aa 3) (ae (aa 1) ag))) .(0)) tZ)) tZ
 . exact zH 2 (by rw[cI,eS]; rfl) .(2) (by rw[cI,eG]; rfl) nofun
end
def eX (ds:List D)(r:Sl):Prop:=∃st:Stp,ds=[stD st]/\r=.d (stD (trn st))
noncomputable def qM (M:List .(123))(i j:Nat):Rat:=.(108).getD j 0
noncomputable def y3 (t:List .(123))(j:Nat):List Rat:=t.map λr=>r.getD j 0
def gH (ds:List D)(r:Sl):Prop:=∃(R C:Nat) (t:List .(123)) (j:Nat),ds=[tbQ t,.int (j:Nat)]/\Tq R C t/\j<C/\r=.o ((y3 t j).map frD)
noncomputable def uk (t:List .(123))(C:Nat):List .(123):=(ox C).map (y3 t)
def fN (ds:List D)(r:Sl):Prop:=∃(R C:Nat) (t:List .(123)),ds=[tbQ t]/\Tq R C t/\r=.o ((uk t C).map rwQ)
section
variable {P:FB}{w:World}{K:fw}{mg:Str->Option Value}{base:Heap}{k:Nat}{f:Addr}{fd:GE}{qual:Str}
theorem k6 (F:Fun K "turned_step" qual (top 33) f fd)(hb:∀x∈aD,mg x=none):a8 P w K mg base CX0 (k+1) f fd ["step"] (spD K eX):=by
 refine fnD F lO hb (by rintro _ _ ⟨_,rfl,_⟩; rfl) ?_;rintro _ _ ⟨⟨u,i,q⟩,rfl,rfl⟩ cdv A outer s H E b;refine dW (a9 (aM (aa 0) af (aQ (aG (i:=0) rfl))) cw vE) (λh=>?_) λh=>?_
 . refine aW (aa 0) ?_;unfold trn;rw[if_pos (of_decide_eq_true h)]
 . refine aW (s:=.d (stD (if u = "down" then "up" else "down",i,q))) (bE (x:=stD (if u = "down" then "up" else "down",i,q)) (s:=.d (stD (if u = "down" then "up" else "down",i,q))) (bI (ae (xC (p:=decide (u=("down" : Str))) (a9 (aM (aa 0) af (aQ (aG (i:=0) rfl))) cw vE) (λh=>by rw[if_pos (of_decide_eq_true h)]; exact cw) (λh=>by rw[if_neg (of_decide_eq_false h)]; exact cw)) (ae (aM (aa 0) af (aQ (aG (i:=1) rfl))) (ae (aM (aa 0) af (aQ (aG (i:=2) rfl))) ag))))) ?_;unfold trn;rw[if_neg (of_decide_eq_false h)]
theorem oS (F:Fun K "column_of" qual (top 23) f fd)(hb:∀x∈aD,mg x=none):a8 P w K mg base CX0 (k+1) f fd ["table","j"] (spD K gH):=by
 refine fnD F oF hb (by rintro _ _ ⟨_,_,_,_,rfl,_⟩; rfl) ?_;rintro _ _ ⟨R,C,t,j,rfl,h,hj,rfl⟩ cdv A outer s H E b;have r7:=h.r7;refine aW (fR (cmp 0 (g:=λi=>rwQ (t.getD i [])) (f:=λi=>frD ((t.getD i []).getD j 0)) b (bD (aa 0)) (dn (f:=rwQ) (xs:=t) []) (by rw[bp,h.len]; omega) λi hi s0 H0 fp=>(aM (aa 0) (aa 1) (a6 (gx (f:=frD) (xs:=t.getD i []) 0 (i:=j) ?_))))) ?_
 . rw[h.at_ (by rw[bp,h.len]at hi; exact hi)]; exact hj
 . refine congrArg Sl.o ((gX (λr:List Rat=>frD (r.getD j 0)) t [] .(18)).trans ?_);unfold y3;rw[Ik];rfl
theorem mH (F:Fun K "columns_of" qual (top 22) f fd)(hb:∀x∈aD,mg x=none)(c_column_of:Cal P w K mg base k "column_of" gH):a8 P w K mg base CX0 (k+1) f fd ["table"] (spD K fN):=by
 refine fnD F mS hb (by rintro _ _ ⟨_,_,_,rfl,_⟩; rfl) ?_;rintro _ _ ⟨R,C,t,rfl,h,rfl⟩ cdv A outer s H E b;have r1:=h.r1;have c7:=h.c7;have e0:atI (t.map rwQ) 0=some (rwQ (t.getD 0 [])):=gx [] (i:=0) (by rw[h.len]; omega);refine aW (fR (cmp 0 (f:=λj=>rwQ (y3 t j)) b (fH (n:=(C:Nat)) b (bh b (ae (aM (aa 0) af (a6 e0)) ag) (m6 (n:=C) (by rw[bp]; exact h.at_ .(0)))) .(0) .(0)) ft (by rw[aP]; omega) λj hj s0 H0 fp=>bE (x_call .(109) c_column_of (ae (aa 1) .(110)) ⟨R,C,t,j,rfl,h,by rw[aP]at hj; omega,rfl⟩))) ?_;unfold uk;rw[aP,HC,Ik];rfl
end
theorem u5 :uk (mkT n n G) n=mkT n n (trF G):=by
 unfold uk mkT y3;refine HZ λj hj=>?_
 have hj:=HN.mp hj;rw[Ik];refine HZ λi _=>?_
 show ((ox n).map (G i)).getD j 0=trF G j i;simp[hj];rfl
def SzA (n M:Nat)(A:Nat->Nat->Rat):Prop:=∀k,k<n->SzP n M k (n-1-k) .(113).1/\SzP n M k (n-1-k) (trF (st1 n k .(113).1))/\SzP n M k (n-1-k) (st2 n k .(113).1)
def iK (ds:List D)(r:Sl):Prop:=∃(n M:Nat) (A:Nat->Nat->Rat),ds=[tbQ (mkT n n A)]/\1<=n/\n<=7/\SzA n M A/\4*M<=900000/\r=.o ((apS n A).map stD)
theorem BR (h7:n<=7)(hk:k<=n):(.(113).2.1.map stD).length<=196/\(.(113).2.2.map stD).length<=98:=by
 have h:=tQ n A k hk;have:n*k<=7*7:=IV h7 .(0);rw[bp,bp];omega
theorem yn (h7:n<=7):((clS k (n-1-k) g).map stD).length<=14:=by
 have:=ja (k:=k) (n-1-k) g;rw[bp];omega
theorem F7 {xs:List Stp}(i:Nat)(h:i<(xs.map stD).reverse.length):(xs.map stD).reverse[i]=stD (xs.reverse.getD i ("weigh",0,0)):=by
 have h':i<xs.length:=by simpa using h
 simp[h']
section
variable {P:FB}{w:World}{K:fw}{mg:Str->Option Value}{base:Heap}{k:Nat}{f:Addr}{fd:GE}{qual:Str}
set_option maxHeartbeats 1000000 in
theorem pS (F:Fun K "steps_of" qual (top 37) f fd)(hb:∀x∈aD,mg x=none)(c_clear_column:sU P w K mg base k "clear_column" (spG K dM))(c_columns_of:Cal P w K mg base k "columns_of" fN)(c_turned_step:Cal P w K mg base k "turned_step" eX):a8 P w K mg base CX0 (k+1) f fd ["table"] (spD K iK):=by
 refine fnD F kg hb (by rintro _ _ ⟨_,_,_,rfl,_⟩; rfl) ?_;rintro _ _ ⟨n,M,A0,rfl,h1,h7,sz,hM,rfl⟩ cdv A outer s H E b;have nd:=kg.nd;refine aN 1 nd (rF b .(110) sQ) ?_;refine aN 2 nd (bh b .(110) (iQ eW)) ?_;refine aN 3 nd (cM ag) ?_;refine aN 4 nd (cM ag) ?_;refine bP 5 (λa τ=>∃s5,τ=[.d (tbQ (mkT n n A0)),.o ((mkT n n (apF n A0 a).1).map rwQ),.d (.int (n:Nat)),.o ((apF n A0 a).2.1.map stD),.o ((apF n A0 a).2.2.map stD),s5,.un]) b nd (fH b (aa 2) .(0) .(0)) ft ⟨.un,rfl⟩ (λkk hk τ h=>?_) λτ h=>?_
 . obtain⟨s5,rfl⟩:=h;have hk:kk<n:=by rw[aP]at hk; omega
   obtain⟨z1,z2,z3⟩:=sz kk hk;obtain⟨l1,l2⟩:=BR (A:=A0) h7 (Jp hk);have e:apF n A0 (kk+1)=(st3 n kk (apF n A0 kk).1,(apF n A0 kk).2.1++stA n kk (apF n A0 kk).1,(apF n A0 kk).2.2++stB n kk (apF n A0 kk).1):=rfl;generalize apF n A0 kk=r at *
   obtain⟨g,ah,be⟩:=r;have l1:(ah.map stD).length<=196:=l1;have l2:(be.map stD).length<=98:=l2;have z1:SzP n M kk (n-1-kk) g:=z1;have z2:SzP n M kk (n-1-kk) (trF (st1 n kk g)):=z2;have z3:SzP n M kk (n-1-kk) (st2 n kk g):=z3;have m1:=yn (k:=kk) (g:=g) h7;have m2:=yn (k:=kk) (g:=trF (st1 n kk g)) h7;have m3:=yn (k:=kk) (g:=st2 n kk g) h7;refine tH (zs:=ah.map stD) (ys:=(clS kk (n-1-kk) g).map stD) 3 1 (jj 1 b c_clear_column ⟨n,M,kk,g,rfl,rfl,hk,h7,z1,hM,rfl,rfl⟩ (ae (aa 5) ag)) .(0) ?_;refine kz 1 (aN (s:=.o ((mkT n n (trF (st1 n kk g))).map rwQ)) 1 nd (x_call b c_columns_of (ae (aa 1) ag) ⟨n,n,mkT n n (st1 n kk g),rfl,oQ h1 h7 h1 h7,by rw[u5]⟩) ?_);refine tH (zs:=be.map stD) (ys:=(clS kk (n-1-kk) (trF (st1 n kk g))).map stD) 4 1 (jj 1 b c_clear_column ⟨n,M,kk,trF (st1 n kk g),rfl,rfl,hk,h7,z2,hM,rfl,rfl⟩ (ae (aa 5) ag)) .(0) ?_;refine kz 1 (aN (s:=.o ((mkT n n (st2 n kk g)).map rwQ)) 1 nd (x_call b c_columns_of (ae (aa 1) ag) ⟨n,n,mkT n n (clG kk (n-1-kk) (trF (st1 n kk g))),rfl,oQ h1 h7 h1 h7,by rw[u5]; rfl⟩) ?_);refine tH (zs:=ah.map stD++(clS kk (n-1-kk) g).map stD) (ys:=(clS kk (n-1-kk) (st2 n kk g)).map stD) 3 1 (jj 1 b c_clear_column ⟨n,M,kk,st2 n kk g,rfl,rfl,hk,h7,z3,hM,rfl,rfl⟩ (ae (aa 5) ag)) (by rw[vp]; omega) ?_;refine aV ⟨.d (.int (kk:Nat)),?_⟩;rw[e];unfold stA stB;simp only[HB,Ij];rfl
 . rw[aP]at h;obtain⟨s5,rfl⟩:=h;obtain⟨l1,l2⟩:=BR (A:=A0) h7 (Ia n);rw[show ((n:Nat):Int).toNat=n from HC n]
   have ec:((crS n (apF n A0 n).1).map stD)=(ox (i6 0 ((n:Nat):Int).toNat).length).map λi=>stD ("weigh",i,(apF n A0 n).1 i i):=by
     unfold crS;rw[Ik,aP,HC];rfl
   refine kz 1 (lL 6 (s:=.o ((ox (i6 0 ((n:Nat):Int).toNat).length).map λi=>stD ("weigh",i,(apF n A0 n).1 i i))) nd (cmp 0 (f:=λi=>stD ("weigh",i,(apF n A0 n).1 i i)) b (fH (n:=(n:Nat)) b (aa 2) .(0) .(0)) ft (by rw[aP]; omega) λi hi s0 H0 fp=>?_) (.inl rfl) (kz 3 (kz 4 (kz 6 ?_))))
   . rw[aP]at hi;have hi:i<n:=by omega
     exact bI (ae cw (ae (aa 0) (ae (aM (aM (aa 1) (aa 0) (a6 (jo hi))) (aa 0) (a6 (i7 hi))) ag)))
   rw[<- ec]
   have eb:((ox ((apF n A0 n).2.2.map stD).reverse.length).map λi=>stD (trn ((apF n A0 n).2.2.reverse.getD i ("weigh",0,0))))=((apF n A0 n).2.2.reverse.map trn).map stD:=by
     rw[Jk,bp,<- Jk,gX (λst:Stp=>stD (trn st)) _ _ rfl,Ik];rfl
   refine aW (uS (bE (uS (aa 3) (aa 6) ?_)) (bE (fR (cmp 0 (g:=λi=>stD ((apF n A0 n).2.2.reverse.getD i ("weigh",0,0))) (f:=λi=>stD (trn ((apF n A0 n).2.2.reverse.getD i ("weigh",0,0)))) b (BJ b (aa 4)) F7 (by rw[Jk]; omega) λi hi s0 H0 fp=>x_call .(109) c_turned_step .(110) ⟨_,rfl,rfl⟩))) ?_) ?_
   any_goals first | (simp only[crS,vp,bp,Iw,Jk]at l1 l2 ⊢; omega)
   rw[eb];unfold apS;rw[HB,HB,Ij]
end
noncomputable def cq (m n:Nat)(A:Nat->Nat->Rat):Nat->Nat->Rat:=λi j=>if i<m/\j<n then A i j else 0
def jM (ds:List D)(r:Sl):Prop:=∃(m n s:Nat) (A:Nat->Nat->Rat),ds=[tbQ (mkT m n A),.int (s:Nat)]/\m<=s/\n<=s/\s<=7/\r=.o ((mkT s s (cq m n A)).map rwQ)
theorem Bj (hi:i<m)(hn:n<=s):((ox s).map (cq m n A i)).map frD=(((ox n).map (A i)).map frD)++(HY (s-n) [D.tup [.int 0,.int 1]]).flatten:=by
 rw[LY];refine IX .(16) λj h1 h2=>?_
 have hj:j<s:=by simpa using h1
 rw[List.getElem_append];by_cases z:j<n
 . rw[dif_pos (by simpa using z)];simp[cq,hi,z]
 . rw[dif_neg (by simpa using z)];simp[cq,z];rfl
theorem Bi (hi:m<=i):((ox s).map (cq m n A i)).map frD=(HY s [D.tup [.int 0,.int 1]]).flatten:=by
 rw[LY];refine IX .(4) λj h1 h2=>?_
 simp[cq,Ma.mpr hi];rfl
theorem z9 (hm:m<=s):((ox m).map λi=>rwQ ((ox s).map (cq m n A i)))++((ox (s-m)).map λi=>rwQ ((ox s).map (cq m n A (m+i))))=(mkT s s (cq m n A)).map rwQ:=by
 refine IX (by simp[mkT]; omega) λi h1 h2=>?_
 have hi:i<s:=by simpa[mkT]using h2
 rw[List.getElem_append];by_cases z:i<m
 . rw[dif_pos (by simpa using z)];simp[mkT]
 . rw[dif_neg (by simpa using z)];simp[mkT];rw[show m+(i-m)=i by omega]
section
variable {P:FB}{w:World}{K:fw}{mg:Str->Option Value}{base:Heap}{k:Nat}{f:Addr}{fd:GE}{qual:Str}
theorem sV (F:Fun K "squared" qual (top 36) f fd)(hb:∀x∈aD,mg x=none)(y_NOUGHT:Mk1 K mg "NOUGHT" 0 1):a8 P w K mg base CX0 (k+1) f fd ["table","size"] (spD K jM):=by
 refine fnD F ly hb (by rintro _ _ ⟨_,_,_,_,rfl,_⟩; rfl) ?_;rintro _ _ ⟨m,n,s,A,rfl,hm,hn,h7,rfl⟩ cdv A' outer s' H E b;have nd:=ly.nd;have lm:((mkT m n A).map rwQ).length=m:=by rw[bp,dF]
 refine lL 2 nd (cmp 0 (g:=λi=>rwQ ((mkT m n A).getD i [])) (f:=λi=>rwQ ((ox s).map (cq m n A i))) b (bD (aa 0)) (dn (f:=rwQ) (xs:=mkT m n A) []) (by rw[lm]; omega) λi hi s0 H0 fp=>?_) (.inl rfl) ?_
 . have hi:i<m:=by rw[lm]at hi; exact hi
   rw[jc hi];show PE _ _ (dE _ true _ (.d (.lst (((ox s).map (cq m n A i)).map frD))));rw[Bj hi hn];refine bE (uS (aa 0) (bE (yx (bE (cM (ae (qd y_NOUGHT) ag))) (aI (aa 1) (bh .(109) .(110) (iQ (n:=n) .(4))) bO) .(0) .(0) .(16))) .(16)) ?_;rw[show ((s:Int)-(n:Int)).toNat=s-n by omega];rfl
 rw[lm];refine kz 2 ?_;refine aW (uS (aa 2) (bE (fR (cmp 0 (f:=λi=>rwQ ((ox s).map (cq m n A (m+i)))) b (fH b (aI (aa 1) (bh b .(110) (iQ lm)) bO) .(0) .(0)) ft (by rw[aP]; omega) λi hi s0 H0 fp=>?_))) (by rw[aP]; simp; omega)) ?_
 . show PE _ _ (dE _ true _ (.d (.lst (((ox s).map (cq m n A (m+i))).map frD))));rw[Bi .(0)];refine bE (yx (bE (cM (ae (qd y_NOUGHT) ag))) (aa 1) .(0) .(0) .(16)) ?_;rfl
 . rw[aP,show ((s:Int)-(m:Int)).toNat=s-m by omega];exact congrArg Sl.o (z9 hm)
end
theorem rD (b:Int):sgZ b=1\/sgZ b=-1:=by
 unfold sgZ;rw[JB _ .(2)];omega
theorem l5 (n:Nat)(row:List Int)(k v:Int)(kv:List (Int×Int)):∀c,(cD n row k v kv c).2.length<=kv.length+c
 | 0=>Ia _
 | c+1=>by
   have:=l5 n row k v kv c;rw[cD,kU];split
   . dsimp only; omega
   . have:=zG (cD n row k v kv c).2 (lM k (n-1-c)) ((bR (cD n row k v kv c).2 (lM k (n-1-c))).getD 0+sgZ (cD n row k v kv c).1*row.getD (n-1-c) 0*v);dsimp only;omega
theorem jS (n:Nat)(row:List Int)(kv:List (Int×Int)):∀t,(bG n row kv t).length<=t*n
 | 0=>by rw[bG,Lz]; omega
 | t+1=>by
   have h1:=jS n row kv t;have h2:=l5 n row (kv.getD t (0,0)).1 ((bR kv (kv.getD t (0,0)).1).getD 0) (bG n row kv t) n;rw[bG,IS];omega
noncomputable def dtR (r:List Int):D:=.lst (r.map .int)
noncomputable def dtM (Ms:List .(125))(i j:Nat):Rat:=(((Ms.getD i []).getD j 0:Int):Rat)
theorem atR {row:List Int}(h:j<row.length):atI (row.map D.int) (j:Int)=some (.int (row.getD j 0)):=sC (i:=(j:Int)) .(0) .(0)
noncomputable def scS (s:Int)(q:Rat):Int:=s/(IE s (q.den:Nat):Int)*(q.den:Nat)
noncomputable def scL (r:List Rat):Int:=r.foldl scS 1
theorem Em (hs:0<s)(q:Rat):0<scS s q/\s∣scS s q/\((q.den:Nat):Int)∣scS s q:=by
 have hq:=den_pos q
 have g0:0<(IE s (q.den:Nat):Int):=by
   have:=eY (i:=s) (j:=(q.den:Nat)) .(0);have:=KZ (IE s (q.den:Nat));omega
 have d1:(IE s (q.den:Nat):Int)∣s:=Mm ..;have d2:(IE s (q.den:Nat):Int)∣((q.den:Nat):Int):=Int.gcd_dvd_right ..;have p1:0<s/(IE s (q.den:Nat):Int):=Int.ediv_pos_of_pos_of_dvd hs .(0) d1;refine⟨Mx p1 hq,?_,Int.dvd_mul_left ..⟩;obtain⟨k,hk⟩:=d2;refine⟨k,?_⟩;unfold scS;conv=>lhs; rhs; rw[hk]
 rw[<- MU,Int.ediv_mul_cancel d1]
theorem qI (r:List Rat)(q:Rat):scL (r++[q])=scS (scL r) q:=by unfold scL; rw[JH]; rfl
theorem sP:∀(r:List Rat) (s:Int),0<s->0<r.foldl scS s/\s∣r.foldl scS s/\∀q∈r,((q.den:Nat):Int)∣r.foldl scS s
 | [],s,h=>⟨h,Int.dvd_refl _,λ_ z=>nomatch z⟩
 | q::r,s,h=>by
   obtain⟨a1,a2,a3⟩:=Em h q;obtain⟨b1,b2,b3⟩:=sP r _ a1;exact⟨b1,Int.dvd_trans a2 b2,λx hx=>(HA.mp hx).elim (λe=>by rw[e]; exact Int.dvd_trans a3 b2) (b3 x)⟩
theorem mq (r:List Rat):0<scL r/\∀q∈r,((q.den:Nat):Int)∣scL r:=⟨(sP r 1 .(2)).1,(sP r 1 .(2)).2.2⟩
theorem yO :∀(r:List Rat) (s:Int) (n:Nat),Bd n s->(∀q∈r,Bd d (q.den:Nat))->Bd (n+r.length*d) (r.foldl scS s)
 | [],s,n,h,_=>by simpa using h
 | q::r,s,n,h,hd=>by
   have h1:Bd (n+d) (scS s q):=(h.ediv _).mul (hd q .(5));have:=yO r _ _ h1 λx hx=>hd x (Et _ hx)
   rw[IA,IS]
   rwa [show n+d+r.length*d=n+(r.length*d+d) by omega]at this
theorem jZ (h:∀q∈r,Bd d (q.den:Nat)):Bd (1+r.length*d) (scL r):=yO r 1 1 (by unfold Bd; decide) h
def iW (ds:List D)(r:Sl):Prop:=∃(q:List Rat) (d:Nat),ds=[rwQ q]/\q.length<=1000/\(∀x∈q,Bd d (x.den:Nat))/\1+q.length*d<=8999/\d<=8999/\r=.d (.int (scL q))
noncomputable def whR (r:List Rat)(s:Int):List Int:=r.map λq=>q.num*(s/(q.den:Nat))
theorem GC (h:((q.den:Nat):Int)∣s):((q.num*(s/(q.den:Nat)):Int):Rat)=q*(s:Rat):=by
 obtain⟨k,rfl⟩:=h;have:=den_pos q;rw[MN _ .(0),HW,HW,<- JC,dH]
theorem Gb (hq:Qs d v q)(h:((q.den:Nat):Int)∣s)(hs:Bd n s):Bd (v+n) (q.num*(s/(q.den:Nat))):=by
 obtain⟨k,rfl⟩:=h;have hd:=den_pos q;rw[MN _ .(0)];unfold Bd at hs ⊢;rw[Jd,Jz];rw[Jd,L1]at hs;have h1:q.num.natAbs*k.natAbs<=2^v*q.den*k.natAbs:=HU _ hq.val;rw[LX]at h1;exact HX h1 (KR hs (IU v))
def gM (ds:List D)(r:Sl):Prop:=∃(q:List Rat) (s:Int) (n:Nat),ds=[rwQ q,.int s]/\q.length<=1000/\(∀x∈q,Sq n x)/\n<=8999/\Bd 8999 s/\r=.o ((whR q s).map .int)
noncomputable def whM (M:List .(123))(ss:List Int):List .(125):=(ox M.length).map λi=>whR .(108) (ss.getD i 0)
theorem DW {α β:Type}{f:α->D}{g:β->D}{xs:List α}{ys:List β}(d:α)(e:β)(i:Nat)(h:i<(ij (xs.map f) (ys.map g)).length):(ij (xs.map f) (ys.map g))[i]=.tup [f (xs.getD i d),g (ys.getD i e)]:=by
 rw[b6,bp,bp]at h;have h1:i<xs.length:=by omega
 have h2:i<ys.length:=by omega
 simp[ij,h1,h2]
def fT (ds:List D)(r:Sl):Prop:=∃(M:List .(123)) (ss:List Int) (n:Nat),ds=[tbQ M,.lst (ss.map .int)]/\M.length=ss.length/\M.length<=1000/\(∀r∈M,r.length<=1000/\∀x∈r,Sq n x)/\n<=8999/\(∀s∈ss,Bd 8999 s)/\r=.o ((whM M ss).map dtR)
noncomputable def tpD (c:List Int):D:=.tup (c.map .int)
noncomputable def ot (cs:List .(125)):D:=.lst (cs.map tpD)
noncomputable def gz (c:List Int):Int:=c.getD (c.length-1) 0
noncomputable def lea (t:Nat)(c:List Int):Int:=if 0<t then gz c+1 else 0
noncomputable def onC (n t:Nat)(c:List Int):List .(125):=(ox ((n:Int)-lea t c).toNat).map λk=>c++[lea t c+(k:Nat)]
noncomputable def chs (n:Nat):Nat->List .(125)
 | 0=>[[]]
 | t+1=>(chs n t).flatMap (onC n t)
structure Chs (n t:Nat)(c:List Int):Prop where
 len:c.length=t
 at_:∀i,i<t->0<=c.getD i 0/\c.getD i 0<n
theorem x5 {c:List Int}:(c++[x]).getD i 0=if i<c.length then c.getD i 0 else if i=c.length then x else 0:=by
 by_cases h:i<c.length
 . rw[if_pos h]; simp[K8,Hv h]
 . rw[if_neg h];by_cases e:i=c.length
   . subst e; simp
   . rw[if_neg e];simp[K8];rw[Jn .(16)];rfl
theorem sJ (h:Chs n t c):0<=lea t c/\lea t c<=n:=by
 unfold lea;by_cases ht:0<t
 . have:=h.at_ (t-1) .(0);rw[if_pos ht,gz,h.len];omega
 . rw[if_neg ht]; omega
theorem cu (n:Nat):∀t,∀c∈chs n t,Chs n t c
 | 0,c,h=>by
   rw[chs,gV]at h;subst h;exact⟨rfl,λi hi=>absurd hi .(0)⟩
 | t+1,c,h=>by
   rw[chs,IW]at h;obtain⟨d,hd,hc⟩:=h;have ih:=cu n t d hd;have hl:=sJ ih;unfold onC at hc;obtain⟨k,hk,rfl⟩:=Hu.mp hc;rw[HN]at hk;refine⟨by rw[vp,ih.len]; rfl,λi hi=>?_⟩;rw[x5,ih.len];by_cases e:i<t
   . rw[if_pos e]; exact ih.at_ i e
   . rw[if_neg e,if_pos .(0)]; omega
theorem oA (h:Chs n t c):(onC n t c).length<=n:=by
 have:=sJ h;simp[onC];omega
theorem gL {α β:Type}(f:α->List β)(m:Nat):∀xs:List α,(∀x∈xs,(f x).length<=m)->(xs.flatMap f).length<=xs.length*m
 | [],_=>by simp
 | x::xs,h=>by
   rw[List.flatMap_cons,vp,IA,IS];have:=h x .(5);have:=gL f m xs λy hy=>h y (Et _ hy)
   omega
theorem vq (hn:n<=7):∀t,(chs n t).length<=7^t
 | 0=>by simp[chs]
 | t+1=>by
   rw[chs];have:=gL (onC n t) 7 (chs n t) λc hc=>HJ (oA (cu n t c hc)) hn
   have:=vq hn t;rw[LD];omega
def gh (ds:List D)(r:Sl):Prop:=∃n t:Nat,ds=[.int n,.int t]/\n<=7/\t<=7/\r=.d (ot (chs n t))
theorem Bf {cs:List .(125)}(i:Nat)(h:i<(cs.map tpD).length):(cs.map tpD)[i]=tpD (cs.getD i []):=by
 have:i<cs.length:=by simpa using h
 simp[this]
theorem bV {α:Type}{xs:List α}{d:α}(h:i<xs.length):xs.getD i d∈xs:=by simp[h]
theorem uJ (h:c≠[]):atI (c.map D.int) (-1)=some (.int (gz c)):=by
 have hl:0<c.length:=List.length_pos_iff.mpr h;unfold atI ixN gz;rw[if_neg .(2),if_pos .(15),bp];simp only[Option.bind_some];have e:(-1+(c.length:Int)).toNat=c.length-1:=by omega
 rw[e];simp[(by omega:c.length-1<c.length)]
section
variable {P:FB}{w:World}{K:fw}{mg:Str->Option Value}{base:Heap}{k:Nat}{f:Addr}{fd:GE}{qual:Str}
theorem qU (F:Fun K "scale_of" qual (top 25) f fd)(hb:∀x∈aD,mg x=none)(c_common_divisor:Cal P w K mg base k "common_divisor" bg):a8 P w K mg base CX0 (k+1) f fd ["row"] (spD K iW):=by
 refine fnD F kq hb (by rintro _ _ ⟨_,_,rfl,_⟩; rfl) ?_;rintro _ _ ⟨q,d,rfl,hl,hd,hb1,hd1,rfl⟩ cdv A outer s H E b;have nd:=kq.nd;refine aN 1 nd af ?_;refine bP 2 (g:=λi=>frD (q.getD i 0)) (λi τ=>i<=q.length/\∃s2,τ=[.d (rwQ q),.d (.int (scL (q.take i))),s2]) b nd (bD (aa 0)) (dn (f:=frD) (xs:=q) 0) ⟨HL _,.un,rfl⟩ (λi hi τ h=>?_) λτ h=>?_
 . obtain⟨_,s2,rfl⟩:=h;have hi:i<q.length:=by simpa using hi
   have mm:=bH (d:=(0:Rat)) hi;have hs:=(mq (q.take i)).1
   have bs:Bd (1+q.length*d) (scL (q.take i)):=(jZ λx hx=>hd x (Kt hx)).mono (by
     have:(q.take i).length*d<=q.length*d:=HU _ .(23);omega)
   have et:q.take (i+1)=q.take i++[q.getD i 0]:=by rw[MA,ph hi]; simp[hi]
   rw[et,qI];generalize scL (q.take i)=sc at hs bs ⊢;generalize q.getD i 0=x at mm ⊢;have hx:=den_pos x;have dv:aL (IE sc (x.den:Nat):Int):=((hd x mm).gcd .(0)).aL (eY .(0)) .(0);refine aN 1 nd (aI (aI (aa 1) (x_call b c_common_divisor (ae (aa 1) (ae (aM (aa 2) af (aQ (aG (i:=1) rfl))) ag)) ⟨_,_,rfl,rfl⟩) (di dv)) (aM (aa 2) af (aQ (aG (i:=1) rfl))) (bK ?_)) (aV ⟨hi,.d (frD x),?_⟩)
   . rw[bb]; exact(bs.ediv _).aH (hd x mm) .(0) .(0)
   . rw[bb]; rfl
 . obtain⟨_,s2,rfl⟩:=h;rw[bp,List.take_length];exact aW (aa 1) rfl
theorem oD (F:Fun K "whole_row" qual (top 26) f fd)(hb:∀x∈aD,mg x=none):a8 P w K mg base CX0 (k+1) f fd ["row","scale"] (spD K gM):=by
 refine fnD F oM hb (by rintro _ _ ⟨_,_,_,rfl,_⟩; rfl) ?_;rintro _ _ ⟨q,s0,n,rfl,hl,hq,hn,hs,rfl⟩ cdv A outer s H E b;refine aW (fR (cmp 0 (f:=λi=>.int ((q.getD i 0).num*(s0.fdiv ((q.getD i 0).den:Nat)))) b (bD (aa 0)) (dn (f:=frD) (xs:=q) 0) .(15) λi hi s1 H0 fp=>?_)) ?_
 . have sq:=hq _ (bH (d:=(0:Rat)) (by simpa using hi));generalize q.getD i 0=x at sq ⊢;have hx:=den_pos x;have e:s0.fdiv (x.den:Nat)=s0/(x.den:Nat):=Ji _ .(0);exact aI (aM (aa 0) af (aQ (aG (i:=0) rfl))) (aI (aa 1) (aM (aa 0) af (aQ (aG (i:=1) rfl))) (di (sq.den.aL .(0) .(0)))) (bK (by rw[e]; exact sq.num.aH (hs.ediv _) .(0) .(0)))
 . refine congrArg Sl.o ((gX (λx:Rat=>D.int (x.num*(s0.fdiv (x.den:Nat)))) q 0 .(18)).trans ?_);unfold whR;rw[Ik];refine HZ λx _=>?_
   simp only[J6];rw[Ji _ (by have:=den_pos x; omega)]
theorem mK (F:Fun K "whole_rows" qual (top 27) f fd)(hb:∀x∈aD,mg x=none)(c_whole_row:Cal P w K mg base k "whole_row" gM):a8 P w K mg base CX0 (k+1) f fd ["table","scales"] (spD K fT):=by
 refine fnD F mM hb (by rintro _ _ ⟨_,_,_,rfl,_⟩; rfl) ?_;rintro _ _ ⟨M,ss,n,rfl,hl,h1,hM,hn,hs,rfl⟩ cdv A outer s H E b;have zl:(ij (M.map rwQ) (ss.map D.int)).length=M.length:=by rw[b6,bp,bp]; omega
 refine aW (fR (AG 0 1 (g:=λi=>rwQ .(108)) (g':=λi=>.int (ss.getD i 0)) (f:=λi=>dtR (whR .(108) (ss.getD i 0))) b (uV b (aa 0) (aa 1)) (DW [] 0) (by rw[zl]; omega) λi hi s0 H0 fp=>?_)) ?_
 . rw[zl]at hi;obtain⟨g1,g2⟩:=hM _ (bH (d:=[]) hi);exact bE (x_call .(109) c_whole_row (ae (aa 0) (ae (aa 1) ag)) ⟨_,_,n,rfl,g1,g2,hn,hs _ (bH .(0)),rfl⟩)
 . unfold whM;rw[zl,Ik];rfl
theorem mG (F:Fun K "choices_of" qual (top 21) f fd)(hb:∀x∈aD,mg x=none):a8 P w K mg base CX0 (k+1) f fd ["many","size"] (spD K gh):=by
 refine fnD F iA hb (by rintro _ _ ⟨_,_,rfl,_⟩; rfl) ?_;rintro _ _ ⟨n,t,rfl,hn,ht,rfl⟩ cdv A outer s H E b;have nd:=iA.nd;refine aN 2 nd (bE (cM (ae (bI ag) ag))) ?_;refine bP 3 (λi τ=>∃s3 s4 s5 s6,τ=[.d (.int n),.d (.int t),.d (ot (chs n i)),s3,s4,s5,s6]) b nd (fH b (aa 1) .(0) .(0)) ft ⟨.un,.un,.un,.un,rfl⟩ (λi hi τ h=>?_) λτ h=>?_
 . obtain⟨s3,s4,s5,s6,rfl⟩:=h;have hi:i<t:=by rw[aP]at hi; omega
   have l1:=vq hn i;have l2:7^i<=7^6:=HS .(2) .(0);refine aN 4 nd (cM ag) ?_;refine bP 5 (g:=λl=>tpD .(127)) (λl τ=>∃s5 s6,τ=[.d (.int n),.d (.int t),.d (ot (chs n i)),.d (.int (i:Nat)),.o ((((chs n i).take l).flatMap (onC n i)).map tpD),s5,s6]) b nd (bD (aa 2)) Bf ⟨s5,s6,rfl⟩ (λl hl τ h=>?_) λτ h=>?_
   . obtain⟨s5,s6,rfl⟩:=h;have hl:l<(chs n i).length:=by simpa using hl
     have ok:=cu n i _ (bV (d:=[]) hl);have hle:=sJ ok;have len1:=gL (onC n i) 7 ((chs n i).take l) λc hc=>HJ (oA (cu n i c (Kt hc))) hn
     rw[IG]at len1;have len2:=oA ok;refine aN 6 nd (xC (s:=.d (.int (lea i .(127)))) (a9 (aa 3) af xk) (λh=>?_) λh=>?_) ?_
     . have h:=of_decide_eq_true h;have h0:0<i:=by omega
       rw[show lea i .(127)=gz .(127)+1 from if_pos h0];exact aI (aM (aa 5) (l4 af) (aQ (uJ λz=>by have:=ok.len; rw[z]at this; simp at this; omega))) af ck
     . have h:=of_decide_eq_false h;rw[show lea i .(127)=0 from if_neg .(0)];exact af
     refine E9 4 (fR (cmp 0 (f:=λk=>tpD (.(127)++[lea i .(127)+(k:Nat)])) b (sW b (aa 6) (aa 0) .(14)) (λk hk=>ji _ _ k hk) (by rw[aP]; omega) λk hk s0 H0 fp=>?_)) ?_ (aV ⟨.d (tpD .(127)),.d (.int (lea i .(127))),?_⟩)
     . have e:tpD (.(127)++[lea i .(127)+(k:Nat)])=.tup ((.(127).map D.int)++[.int (lea i .(127)+(k:Nat))]):=by unfold tpD; rw[HB]; rfl
       rw[e];exact aI (aa 1) (bI .(110)) (sY (by rw[bp,ok.len]; show _+1<_; omega))
     . rw[bp,bp,Iw,aP]; omega
     . rw[take_snoc [] hl,Jw,HB,aP];show [_,_,_,_,Sl.o (_++(ox ((n:Int)-lea i .(127)).toNat).map _),_,_]=_;simp[onC]
   . obtain⟨s5,s6,rfl⟩:=h;refine kz 4 (aN 2 nd (aa 4) (aV ⟨.d (.int (i:Nat)),.d (ot (chs n (i+1))),s5,s6,?_⟩));rw[bp,HP .(3)];rfl
 . obtain⟨s3,s4,s5,s6,rfl⟩:=h;refine aW (aa 2) ?_;rw[aP,HC]
end
noncomputable abbrev kT:Ev.KD .(125):=Ev.EH Ev.Gh
noncomputable abbrev kTT:Ev.KD .(131):=Ev.Dk kT kT
theorem hdT:kT.dep<=7:=by show 1<=7; decide
theorem mU:kTT.dep<=7:=by show 2<=7; decide
theorem cJ (c:List Int)(H:Hp)(v:V)(h:Den F H v (kT.toD c)):∃b,v=.ref b:=by
 generalize e:kT.toD c=x at h;cases h with
 | tup=>exact⟨_,rfl⟩
 | _=>cases e
theorem uN (c:List Int×List Int)(H:Hp)(v:V)(h:Den F H v (kTT.toD c)):∃b,v=.ref b:=by
 generalize e:kTT.toD c=x at h;cases h with
 | tup=>exact⟨_,rfl⟩
 | _=>cases e
section
variable {κ:Type}[DecidableEq κ]
theorem jT (p:κ×D)(m:List (κ×D))(k:κ):getM (p::m) k=if p.1=k then some p.2 else getM m k:=by
 unfold getM;rw[Jx];by_cases e:p.1=k
 . simp[e]
 . simp[e]
theorem nu (k k':κ)(x:D):∀m:List (κ×D),getM (m.map λy=>if y.1=k then (y.1,x) else y) k'=if k=k'/\(getM m k).isSome then some x else getM m k'
 | []=>by simp[getM]
 | p::m=>by
   rw[Ii,jT,nu k k' x m,jT,jT];by_cases e:p.1=k
   . rw[if_pos e,if_pos e];by_cases e':k=k'
     . simp[e,e']
     . simp[e,e']
   . rw[if_neg e,if_neg e];by_cases e':p.1=k'
     . simp[e',show ¬k=k' from λz=>e (e'.trans z.symm)]
     . simp[e']
theorem qY (m:List (κ×D))(k k':κ)(x:D):getM (d9 m k x) k'=if k=k' then some x else getM m k':=by
 unfold d9;by_cases h:(getM m k).isSome
 . rw[if_pos h,nu];simp[h]
 . rw[if_neg h];have h:getM m k=none:=by simpa using h
   unfold getM at *
   rw[L4];by_cases e:k=k'
   . subst e;have h:m.find? (λx=>decide (x.1=k))=none:=by simpa using h
     rw[h];simp
   . simp[e]
noncomputable def mkM (v:κ->D)(ks:List κ):List (κ×D):=ks.foldl (λm k=>d9 m k (v k)) []
theorem gG (v:κ->D)(ks:List κ)(k:κ):mkM v (ks++[k])=d9 (mkM v ks) k (v k):=by unfold mkM; rw[JH]; rfl
theorem nQ (v:κ->D)(k:κ):∀(ks:List κ) (m:List (κ×D)),getM (ks.foldl (λm k=>d9 m k (v k)) m) k=if k∈ks then some (v k) else getM m k
 | [],m=>by simp
 | k0::ks,m=>by
   rw[KG,nQ v k ks,qY];by_cases h:k∈ks
   . simp[h]
   . by_cases e:k0=k
     . simp[e]
     . simp[h,e,show ¬k=k0 from λz=>e z.symm]
theorem er {v:κ->D}(h:k∈ks):getM (mkM v ks) k=some (v k):=by unfold mkM; rw[nQ,if_pos h]
theorem zp (m:List (κ×D))(k:κ)(x:D):(d9 m k x).length<=m.length+1:=by
 unfold d9;split <;> simp
theorem mY (v:κ->D):∀(ks:List κ) (m:List (κ×D)),(ks.foldl (λm k=>d9 m k (v k)) m).length<=m.length+ks.length
 | [],m=>by simp
 | k::ks,m=>by
   rw[KG];have:=mY v ks (d9 m k (v k));have:=zp m k (v k);rw[IA];omega
theorem gZ (v:κ->D)(ks:List κ):(mkM v ks).length<=ks.length:=by unfold mkM; simpa using mY v ks []
theorem xZ {m:List (κ×D)}{k:κ}{x:D}{p:κ×D}(h:p∈d9 m k x):p=(k,x)\/p∈m:=by
 unfold d9 at h;split at h
 . obtain⟨q,hq,e⟩:=Hu.mp h;by_cases z:q.1=k
   . rw[if_pos z]at e; exact .inl (by rw[<- e,z])
   . rw[if_neg z]at e; exact .inr (e▸hq)
 . rcases x3.mp h with h | h
   . exact .inr h
   . exact .inl (gV.mp h)
theorem nZ (v:κ->D):∀(ks:List κ) (m:List (κ×D)),p∈ks.foldl (λm k=>d9 m k (v k)) m->(p.1∈ks/\p.2=v p.1)\/p∈m
 | [],m,h=>.inr h
 | k::ks,m,h=>by
   rw[KG]at h;rcases nZ v ks _ h with ⟨h1,h2⟩ | h
   . exact .inl ⟨Et _ h1,h2⟩
   . rcases xZ h with e | h
     . exact .inl (by rw[e]; exact⟨Ih ..,rfl⟩)
     . exact .inr h
theorem hU {p:κ×D}(h:p∈mkM v ks):p.1∈ks/\p.2=v p.1:=(nZ v ks [] h).elim id λz=>nomatch z
theorem lA {m:List (κ×D)}{k:κ}{x:D}(h:getM m k=some x):(k,x)∈m:=by
 unfold getM at h;obtain⟨p,h1,h2⟩:=Kh.mp h;have e:p.1=k:=by have:=List.find?_some h1; simpa using this
 rw[<- h2,<- e];exact JY h1
end
noncomputable def ers (c:List Int)(k:Nat):List Int:=c.take k++c.drop (k+1)
noncomputable def alP (f:List Int->Int)(row c:List Int)(k:Nat):Int:=row.getD (c.getD k 0).toNat 0*f (ers c k)
noncomputable def alS (f:List Int->Int)(row c:List Int):Nat->Int
 | 0=>0
 | k+1=>if Int.fmod ((c.length:Int)-(k:Nat)) 2=0 then alS f row c k-alP f row c k else alS f row c k+alP f row c k
noncomputable def alR (f:List Int->Int)(row c:List Int):Int:=alS f row c c.length
theorem F8 (c:List Int)(k:Nat):kT.toD (ers c k)=.tup (Hy.cutD (c.map D.int) none (some (k:Int))++Hy.cutD (c.map D.int) (some ((k:Int)+1)) none):=by
 rw[show ((k:Int)+1)=((k+1:Nat):Int) from rfl,yj]
 have e:Hy.cutD (c.map D.int) (some ((k+1:Nat):Int)) none=(c.map D.int).drop (k+1):=by
   unfold Hy.cutD;rw[HT.kQ,HT.mw];rcases Nat.le_total (k+1) (c.map D.int).length with h | h
   . rw[KJ h,HP (by rw[Kr]; exact Ia _)]
   . rw[Nat.min_eq_right h,MT .(3),MT h,List.take_nil]
 rw[e];show D.tup ((ers c k).map D.int)=_;unfold ers;rw[HB,Lb,List.map_drop]
def cS (P:FB)(w:World)(ds:List D)(r:Sl):Prop:=∃(m:List (List Int×D)) (f:List Int->Int) (row c:List Int) (n p:Nat),ds=[bxD kT hdT P w m,dtR row,tpD c]/\c.length<=7/\(∀k,k<c.length->0<=c.getD k 0/\c.getD k 0<row.length)/\(∀k,k<c.length->getM m (ers c k)=some (.int (f (ers c k)))/\Bd p (f (ers c k)))/\(∀x∈row,Bd n x)/\n<=10000/\p<=10000/\r=.d (.int (alR f row c))
section
variable {P:FB}{w:World}{K:fw}{mg:Str->Option Value}{base:Heap}{k:Nat}{f:Addr}{fd:GE}{qual:Str}
theorem jz (F:Fun K "along_last_row" qual (top 31) f fd)(hb:∀x∈aD,mg x=none):a8 P w K mg base CX0 (k+1) f fd ["known","row","columns"] (spD K (cS P w)):=by
 refine fnD F eR hb (by rintro _ _ ⟨_,_,_,_,_,_,rfl,_⟩; rfl) ?_;rintro _ _ ⟨m,g,row,c,n,p,rfl,h7,hc,hg,hr,hn,hp,rfl⟩ cdv A outer s H E b;have nd:=eR.nd;have hu:(Xc P w K mg base ["known","row","columns","total","k","part"] qual (top 31) f cdv A outer s H E).A.units+16<cLine:=HX .(7) b.room.units;have lc:(c.map D.int).length=c.length:=bp ..;refine aN 3 nd af ?_;refine bP 4 (λi τ=>i<=c.length/\∃s4 s5,τ=[.d (bxD kT hdT P w m),.d (dtR row),.d (tpD c),.d (.int (alS g row c i)),s4,s5]) b nd (fH b (bh b (ae (aa 2) ag) fX) .(0) .(0)) ft ⟨HL _,.un,.un,rfl⟩ (λi hi τ h=>?_) λτ h=>?_
 . obtain⟨_,s4,s5,rfl⟩:=h;have hi:i<c.length:=by rw[aP,lc]at hi; omega
   obtain⟨c1,c2⟩:=hc i hi;obtain⟨g1,g2⟩:=hg i hi;have ht:(c.getD i 0).toNat<row.length:=by omega
   refine aN 5 nd (aI (aM (aa 1) (aM (aa 2) (aa 4) (aQ (atR hi))) (a6 (sC c1 ht))) (sx (a:=kT) (hd:=hdT) (m:=m) (key:=ers c i) hu (aa 0) (by
     rw[F8]
     exact aI (pZ (aa 2) j5 (i5 (aa 4)) (by rw[HT.kQ,lc]; omega)) (pZ (aa 2) (i5 (aI (aa 4) af ck)) j5 (by rw[show ((i:Int)+1)=((i+1:Nat):Int) from rfl,HT.kQ,lc]; omega)) (sY (by
       have l1:∀l u,(Hy.cutD (c.map D.int) l u).length<=7:=λl u=>by unfold Hy.cutD; rw[IG,Kr,lc]; omega
       have:=l1 none (some (i:Int));have:=l1 (some ((i:Int)+1)) none;omega))) g1 (cJ _) yz) (bK ((hr _ (bV ht)).aH g2 .(0) .(0)))) ?_
   refine aN 3 nd (xC (s:=.d (.int (alS g row c (i+1)))) (a9 (aI (aI (bh b (ae (aa 2) ag) fX) (aa 4) bO) af (bW .(2))) af gB) (λh=>?_) λh=>?_) (aV ⟨hi,_,_,rfl⟩)
   . have h:=of_decide_eq_true h;rw[lc]at h;rw[alS,if_pos h];exact aI (aa 3) (aa 5) bO
   . have h:=of_decide_eq_false h;rw[lc]at h;rw[alS,if_neg h];exact aI (aa 3) (aa 5) ck
 . obtain⟨_,s4,s5,rfl⟩:=h;refine aW (aa 3) ?_;rw[aP,lc,HC];rfl
end
noncomputable def orM (f:List Int->Int)(row:List Int)(cs:List .(125)):List (List Int×D):=mkM (λc=>D.int (alR f row c)) cs
def dQ (P:FB)(w:World)(ds:List D)(r:Sl):Prop:=∃(m:List (List Int×D)) (f:List Int->Int) (row:List Int) (cs:List .(125)) (n p:Nat),ds=[bxD kT hdT P w m,dtR row,ot cs]/\cs.length<=100000/\(∀c∈cs,c.length<=7/\(∀k,k<c.length->0<=c.getD k 0/\c.getD k 0<row.length)/\(∀k,k<c.length->getM m (ers c k)=some (.int (f (ers c k)))/\Bd p (f (ers c k))))/\(∀x∈row,Bd n x)/\n<=10000/\p<=10000/\r=.d (bxD kT hdT P w (orM f row cs))
section
variable {P:FB}{w:World}{K:fw}{mg:Str->Option Value}{base:Heap}{k:Nat}{f:Addr}{fd:GE}{qual:Str}
theorem ky (F:Fun K "one_row_more" qual (top 30) f fd)(hb:∀x∈aD,mg x=none)(c_along_last_row:Cal P w K mg base k "along_last_row" (cS P w)):a8 P w K mg base CX0 (k+1) f fd ["known","row","column_choices"] (spD K (dQ P w)):=by
 refine fnD F gi hb (by rintro _ _ ⟨_,_,_,_,_,_,rfl,_⟩; rfl) ?_;rintro _ _ ⟨m,g,row,cs,n,p,rfl,h1,hc,hr,hn,hp,rfl⟩ cdv A outer s H E b;have nd:=gi.nd;have hu:(Xc P w K mg base ["known","row","column_choices","found","columns"] qual (top 30) f cdv A outer s H E).A.units+16<cLine:=HX .(7) b.room.units;refine aN 3 nd (rN (a:=kT) (hd:=hdT)) ?_;refine bP 4 (g:=λi=>tpD (cs.getD i [])) (λi τ=>∃s4,τ=[.d (bxD kT hdT P w m),.d (dtR row),.d (ot cs),.x (exK kT hdT P w (orM g row (cs.take i))),s4]) b nd (bD (aa 2)) Bf ⟨.un,rfl⟩ (λi hi τ h=>?_) λτ h=>?_
 . obtain⟨s4,rfl⟩:=h;have hi:i<cs.length:=by simpa using hi
   obtain⟨c1,c2,c3⟩:=hc _ (bV (d:=[]) hi);have ln:=gZ (λc=>D.int (alR g row c)) (cs.take i);rw[IG]at ln;refine pz 3 (a:=kT) (hd:=hdT) (key:=cs.getD i []) (x:=.int (alR g row (cs.getD i []))) hu rfl (aa 4) (x_call b c_along_last_row (ae (aa 0) (ae (aa 1) (ae (aa 4) ag))) ⟨m,g,row,_,n,p,rfl,c1,c2,c3,hr,hn,hp,rfl⟩) (HJ ln (by unfold sizeLine; omega)) (cJ _) (aV ⟨.d (tpD (cs.getD i [])),?_⟩);rw[take_snoc [] hi];unfold orM;rw[gG];rfl
 . obtain⟨s4,rfl⟩:=h;refine BO 3 (a:=kT) (hd:=hdT) (aW (aa 3) ?_);rw[bp,HP .(3)];rfl
end
theorem Ei:∀n,n<8->∀t,t<7->((chs n (t+1)).all λc=>(chs n t).contains (c.take t)&&(ox (t+1)).all λk=>(chs n t).contains (ers c k))=true:=by decide +kernel
theorem oj:∀n,n<8->∀t,t<8->(chs n t).length<=35:=by decide +kernel
theorem pG (hn:n<=7)(ht:t<7)(h:c∈chs n (t+1)):c.take t∈chs n t/\∀k,k<t+1->ers c k∈chs n t:=by
 have:=IM.mp (Ei n .(0) t ht) c h;rw[Iy]at this;obtain⟨h1,h2⟩:=this;refine⟨by simpa using h1,λk hk=>?_⟩;have:=IM.mp h2 k (HN.mpr hk);simpa using this
noncomputable def dtm (R:List .(125)):Nat->List Int->List Int->Int
 | 0,_,_=>1
 | t+1,ls,c=>alR (dtm R t (ls.take t)) (R.getD (gz ls).toNat []) c
structure Rw (m n b:Nat)(R:List .(125)):Prop where
 len:R.length=m
 row:∀r∈R,r.length=n/\∀x∈r,Bd b x
 m1:1<=m/\m<=7
 n1:1<=n/\n<=7
 b1:b<=1400
theorem xQ :∀k,(∀i,i<k->(alP f row c i).natAbs<=N)->(alS f row c k).natAbs<=k*N
 | 0,_=>by simp[alS]
 | k+1,h=>by
   have ih:=xQ k λi hi=>h i .(0)
   have h1:=h k .(0);rw[alS,IS];split <;> omega
theorem Eo (h7:c.length<=7)(hr:∀x∈row,Bd n x)(hf:∀k,k<c.length->Bd p (f (ers c k))):Bd (n+p+3) (alR f row c):=by
 have h:=xQ (f:=f) (row:=row) (c:=c) (N:=2^(n+p)) c.length λi hi=>by
   have h1:Bd n (row.getD (c.getD i 0).toNat 0):=by
     by_cases h:(c.getD i 0).toNat<row.length
     . exact hr _ (bV h)
     . rw[getD_none .(0)];exact IU n
   exact Jp (h1.mul (hf i hi))
 unfold Bd alR;have e:2^(n+p+3)=8*2^(n+p):=by rw[Jz]; omega
 have p0:=IU (n+p);have:c.length*2^(n+p)<=7*2^(n+p):=HU _ h7;omega
theorem xB (h:Rw m n b R):∀t,t<=7->∀ls c,c∈chs n t->Bd (1+t*(b+3)) (dtm R t ls c)
 | 0,_,_,_,_=>by unfold Bd dtm; rw[Nat.zero_mul]; decide
 | t+1,ht,ls,c,hc=>by
   have l:=(cu n _ c hc).len
   have:=Eo (f:=dtm R t (ls.take t)) (row:=R.getD (gz ls).toNat []) (c:=c) (n:=b) (p:=1+t*(b+3)) .(0) (λx hx=>by
     by_cases hl:(gz ls).toNat<R.length
     . exact(h.row _ (bV hl)).2 x hx
     . rw[getD_none .(0)]at hx;cases hx) λk hk=>xB h t .(0) _ _ ((pG h.n1.2 .(0) hc).2 k .(0))
   rw[dtm];refine this.mono ?_;rw[IS];omega
noncomputable def mR (P:FB)(w:World)(R:List .(125))(n t:Nat)(ls:List Int):D:=bxD kT hdT P w (mkM (λc=>D.int (dtm R t ls c)) (chs n t))
noncomputable def knM (P:FB)(w:World)(R:List .(125))(m n t:Nat):List (List Int×D):=mkM (mR P w R n t) (chs m t)
noncomputable def ky1 (n t:Nat)(ls:List Int):List .(131):=(chs n t).map λc=>(ls,c)
noncomputable def kys (m n i:Nat):List .(131):=(ox i).flatMap λt=>(chs m (t+1)).flatMap (ky1 n (t+1))
noncomputable def vD (R:List .(125))(p:List Int×List Int):Int:=dtm R p.1.length p.1 p.2
noncomputable def fdM (R:List .(125))(ks:List .(131)):List (.(131)×D):=mkM (λp=>D.int (vD R p)) ks
theorem zA (hn:n<=7)(ht:t<=7):∀ls:List .(125),ls.length<=35->(ls.flatMap (ky1 n t)).length<=1225:=λls hl=>by
 have:=gL (ky1 n t) 35 ls λx _=>by unfold ky1; rw[bp]; exact oj n .(0) t .(0)
 omega
theorem kys_len (hm:m<=7)(hn:n<=7)(hi:i<=7):(kys m n i).length<=8575:=by
 have:=gL (λt=>(chs m (t+1)).flatMap (ky1 n (t+1))) 1225 (ox i) λt ht=>zA hn (by have:=HN.mp ht; omega) _ (oj m .(0) _ (by have:=HN.mp ht; omega))
 rw[Iw]at this;unfold kys;omega
def cA (P:FB)(w:World)(ds:List D)(r:Sl):Prop:=∃(R:List .(125)) (m n b:Nat),ds=[.lst (R.map dtR)]/\Rw m n b R/\r=.d (.box (bxW kTT mU P w (fdM R (kys m n (min m n)))))
theorem oW {R:List .(125)}{i:Int}(h0:0<=i)(h:i.toNat<R.length):atI (R.map dtR) i=some (dtR (R.getD i.toNat [])):=by
 obtain⟨n,rfl⟩:=Ki h0
 exact aG (by
   have h:n<R.length:=h;simp[h])
theorem Cn (c:List Int)(t:Nat)(h:c.length=t+1):D.tup (Hy.cutD (c.map D.int) none (some (-1)))=kT.toD (c.take t):=by
 unfold Hy.cutD
 have e:HT.sIx (c.map D.int).length (c.map D.int).length (some (-1))=t:=by
   unfold HT.sIx;simp only[];rw[if_pos .(2),bp,h];omega
 rw[e,HT.mw,MB,Nat.sub_zero,<- Lb];rfl
theorem kn0 (P:FB)(w:World)(R:List .(125))(m n:Nat):knM P w R m n 0=[([],bxD kT hdT P w [([],.int 1)])]:=rfl
section
variable {P:FB}{w:World}{K:fw}{mg:Str->Option Value}{base:Heap}{k:Nat}{f:Addr}{fd:GE}{qual:Str}
set_option maxHeartbeats 1000000 in
theorem iq (F:Fun K "all_determinants" qual (top 29) f fd)(hb:∀x∈aD,mg x=none)(c_choices_of:Cal P w K mg base k "choices_of" gh)(c_one_row_more:Cal P w K mg base k "one_row_more" (dQ P w)):a8 P w K mg base CX0 (k+1) f fd ["rows"] (spD K (cA P w)):=by
 refine fnD F dt hb (by rintro _ _ ⟨_,_,_,_,rfl,_⟩; rfl) ?_;rintro _ _ ⟨R,m,n,b0,rfl,ok,rfl⟩ cdv A outer s H E b;have nd:=dt.nd;have hu:(Xc P w K mg base ["rows","found","known","size","fresh","column_choices","some","columns"] qual (top 29) f cdv A outer s H E).A.units+16<cLine:=HX .(7) b.room.units;obtain⟨⟨m1,m7⟩,n1,n7⟩:=And.intro ok.m1 ok.n1;have lR:(R.map dtR).length=m:=by rw[bp,ok.len]
 have r0:(R.getD 0 []).length=n:=(ok.row _ (bV (by rw[ok.len]; omega))).1;have lr0:((R.getD 0 []).map D.int).length=n:=by rw[bp,r0]
 have a0:atI (R.map dtR) 0=some (dtR (R.getD 0 [])):=oW (i:=0) .(2) (by rw[ok.len]; show 0<m; omega)
 have hmin:(if ((((R.getD 0 []).map D.int).length:Nat):Int)<((R.map dtR).length:Nat) then ((((R.getD 0 []).map D.int).length:Nat):Int) else ((R.map dtR).length:Nat))=((min m n:Nat):Int):=by
   rw[lR,lr0];split <;> omega
 refine aN 1 nd (rN (a:=kTT) (hd:=mU)) ?_;generalize e:Expr.Dict [some (Expr.Tuple [] 0 _)] _ _=ex;refine aN 2 nd (s:=.d (bxD kT hdT P w [([],bxD kT hdT P w [([],.int 1)])])) ?_ ?_ (hs:=by subst e; rfl)
 . subst e;generalize e:Expr.Dict [some (Expr.Tuple [] 0 _)] [Expr.Constant _ _ _] _=ex;refine BU (a:=kT) (hd:=hdT) (sf (a:=kT) (hd:=hdT) (key:=[]) (x:=bxD kT hdT P w [([],.int 1)]) hu ?_ ?_ (cJ []))
   . show PE _ _ (dE _ _ _ (.d (.tup [])));exact bI ag
   . subst e;refine BU (a:=kT) (hd:=hdT) (m:=[([],.int 1)]) (sf (a:=kT) (hd:=hdT) (key:=[]) (x:=.int 1) hu ?_ af (cJ []));show PE _ _ (dE _ _ _ (.d (.tup [])));exact bI ag
 refine bP 3 (g:=λi=>.int (1+(i:Nat))) (λi τ=>i<=min m n/\∃s3 s4 s5 s6 s7,τ=[.d (.lst (R.map dtR)),.x (exK kTT mU P w (fdM R (kys m n i))),.d (bxD kT hdT P w (knM P w R m n i)),s3,s4,s5,s6,s7]) b nd (sW b af (aI (bh b (ae (bh b .(110) gy) (ae (bh b (ae (aM (aa 0) af (a6 a0)) ag) gy) ag)) (Fu b.calm)) af ck) (by rw[hmin]; omega)) (λk hk=>ji _ _ k hk) ⟨HL _,.un,.un,.un,.un,.un,by rw[kn0]; rfl⟩ (λi hi τ h=>?_) λτ h=>?_
 . obtain⟨_,s3,s4,s5,s6,s7,rfl⟩:=h;have hi:i<min m n:=by rw[aP,hmin]at hi; omega
   have e1:(1+(i:Nat):Int)=((i+1:Nat):Int):=by omega
   rw[e1];refine aN 4 nd (rN (a:=kT) (hd:=hdT)) ?_;refine aN 5 nd (x_call b c_choices_of (ae (bh b (ae (aM (aa 0) af (a6 a0)) ag) gy) (ae (aa 3) ag)) ⟨n,i+1,by rw[lr0],n7,by omega,rfl⟩) ?_;refine bP 6 (g:=λl=>tpD ((chs m (i+1)).getD l [])) (λl τ=>∃s6 s7,τ=[.d (.lst (R.map dtR)),.x (exK kTT mU P w (fdM R (kys m n i++((chs m (i+1)).take l).flatMap (ky1 n (i+1))))),.d (bxD kT hdT P w (knM P w R m n i)),.d (.int ((i+1:Nat):Int)),.x (exK kT hdT P w (mkM (mR P w R n (i+1)) ((chs m (i+1)).take l))),.d (ot (chs n (i+1))),s6,s7]) b nd (bD (x_call b c_choices_of (ae (bh b .(110) gy) (ae (aa 3) ag)) ⟨m,i+1,by rw[lR],m7,by omega,rfl⟩)) Bf ⟨s6,s7,by simp[mkM]; rfl⟩ (λl hl τ h=>?_) λτ h=>?_
   . obtain⟨s6,s7,rfl⟩:=h;have hl:l<(chs m (i+1)).length:=by simpa using hl
     have hs:=bV (d:=[]) hl;generalize hls:(chs m (i+1)).getD l []=ls at hs;have okl:=cu m _ ls hs;have l35:=oj m .(0) (i+1) .(0);have n35:=oj n .(0) (i+1) .(0);have lf:=gZ (mR P w R n (i+1)) ((chs m (i+1)).take l);rw[IG]at lf;have ne:ls≠[]:=λz=>by have:=okl.len; rw[z]at this; cases this
     have last:0<=gz ls/\gz ls<m:=by
       have:=okl.at_ i .(0);unfold gz;rw[okl.len];exact this
     have hlr:(gz ls).toNat<R.length:=by rw[ok.len]; omega
     have hrow:=ok.row _ (bV (d:=[]) hlr);have pre:=(pG m7 .(0) hs).1;have key:kT.toD (ls.take i)=D.tup (Hy.cutD (ls.map D.int) none (some (-1))):=(Cn ls i okl.len).symm
     refine pz 4 (a:=kT) (hd:=hdT) (key:=ls) (x:=mR P w R n (i+1) ls) hu rfl (aa 6) (x_call b c_one_row_more (ae (sx (a:=kT) (hd:=hdT) (m:=knM P w R m n i) (key:=ls.take i) (x:=mR P w R n i (ls.take i)) hu (aa 2) (by
       rw[key];refine pZ (aa 6) j5 (i5 (l4 af)) ?_;rintro⟨_,z⟩
       have e:HT.sIx (ls.map D.int).length (ls.map D.int).length (some (-1))=i:=by
         unfold HT.sIx;simp only[];rw[if_pos .(2),bp,okl.len];omega
       rw[e,bp,okl.len]at z;omega) (er pre) (cJ _) λ_ _=>rfl) (ae (aM (aa 0) (aM (aa 6) (l4 af) (aQ (uJ ne))) (a6 (oW last.1 hlr))) (ae (aa 5) ag))) ⟨_,dtm R i (ls.take i),_,_,b0,1+i*(b0+3),rfl,by omega,λc hc=>?_,hrow.2,by have:=ok.b1; omega,?_,rfl⟩) (HJ lf (by unfold sizeLine; omega)) (cJ _) ?_
     . have okc:=cu n _ c hc;refine⟨by rw[okc.len]; omega,λk hk=>?_,λk hk=>?_⟩
       . rw[hrow.1];exact okc.at_ k (by rw[okc.len]at hk; exact hk)
       . have hk:k<i+1:=by rw[okc.len]at hk; exact hk
         have:=(pG n7 .(0) hc).2 k hk;exact⟨er this,xB ok i .(0) _ _ this⟩
     . have:=ok.b1;have:i*(b0+3)<=6*(b0+3):=HU _ .(0);omega
     have kl:=kys_len (i:=i) m7 n7 .(0);have kk:=zA (t:=i+1) n7 .(0) ((chs m (i+1)).take l) .(23);refine bP 7 (g:=λj=>tpD ((chs n (i+1)).getD j [])) (λj τ=>∃s7,τ=[.d (.lst (R.map dtR)),.x (exK kTT mU P w (fdM R (kys m n i++((chs m (i+1)).take l).flatMap (ky1 n (i+1))++((chs n (i+1)).take j).map λc=>(ls,c)))),.d (bxD kT hdT P w (knM P w R m n i)),.d (.int ((i+1:Nat):Int)),.x (exK kT hdT P w (d9 (mkM (mR P w R n (i+1)) ((chs m (i+1)).take l)) ls (mR P w R n (i+1) ls))),.d (ot (chs n (i+1))),.d (tpD ls),s7]) b nd (bD (aa 5)) Bf ⟨s7,by simp; rfl⟩ (λj hj τ h=>?_) λτ h=>?_
     . obtain⟨s7,rfl⟩:=h;have hj:j<(chs n (i+1)).length:=by simpa using hj
       have hc:=bV (d:=[]) hj;generalize hcs:(chs n (i+1)).getD j []=c at hc;have gF:getM (d9 (mkM (mR P w R n (i+1)) ((chs m (i+1)).take l)) ls (mR P w R n (i+1) ls)) ls=some (mR P w R n (i+1) ls):=by rw[qY,if_pos rfl]
       refine pz 1 (a:=kTT) (hd:=mU) (key:=(ls,c)) (x:=.int (vD R (ls,c))) hu rfl (bI (ae (aa 6) (ae (aa 7) ag))) (sx (a:=kT) (hd:=hdT) (key:=c) hu (r9 4 (a:=kT) (hd:=hdT) (key:=ls) hu rfl (aa 6) gF (cJ _) dD) (aa 7) ?_ (cJ _) dD) ?_ (uN _) (aV ⟨.d (tpD c),?_⟩)
       . rw[er hc];show _=some (D.int (dtm R ls.length ls c));rw[okl.len]
       . refine HJ (gZ _ _) ?_;rw[vp,vp,bp,IG];unfold sizeLine;omega
       . rw[take_snoc [] hj,hcs,HB,<- Ij];unfold fdM;rw[List.map_singleton,gG];rfl
     . obtain⟨s7,rfl⟩:=h;refine aV ⟨.d (tpD ls),s7,?_⟩;rw[take_snoc [] hl,hls,gG,Jw,bp,HP .(3),Ij];simp[ky1]
   . obtain⟨s6,s7,rfl⟩:=h;refine BO 4 (a:=kT) (hd:=hdT) (aN 2 nd (aa 4) (aV ⟨hi,.d (.int ((i+1:Nat):Int)),.d (bxD kT hdT P w (knM P w R m n (i+1))),.d (ot (chs n (i+1))),s6,s7,?_⟩));rw[bp,HP .(3)];have e:kys m n (i+1)=kys m n i++(chs m (i+1)).flatMap (ky1 n (i+1)):=by unfold kys; rw[Iz,Jw]; simp
     rw[e];rfl
 . obtain⟨_,s3,s4,s5,s6,s7,rfl⟩:=h;refine Bz 1 (a:=kTT) (hd:=mU) (aW (aa 1) ?_);rw[aP,hmin];show Sl.d (.box (bxW kTT mU P w (fdM R (kys m n ((((min m n:Nat):Int)+1)-1).toNat))))=_;rw[Int.add_sub_cancel,HC]
end
theorem Qs.sq (h:Qs d v q):Sq (v+d) q:=by
 refine⟨?_,h.den.mono .(0)⟩;have h1:=h.den;unfold Bd at h1 ⊢;rw[L1]at h1;rw[Jz];exact HX h.val (KR h1 (IU v))
noncomputable def rwN (r:List Int):Nd:=.l ((r.map D.int).map .d)
noncomputable def pY (R:List .(125)):Nd:=.l (R.map rwN)
theorem rw_ok (t:Tq m n M)(hq:∀r∈M,∀x∈r,Qs d v x)(hb:v+(1+n*d)<=1400):Rw m n (v+(1+n*d)) (whM M (M.map scL)):=by
 refine⟨by unfold whM; simp[t.len],λr hr=>?_,⟨t.r1,t.r7⟩,⟨t.c1,t.c7⟩,hb⟩;unfold whM at hr;obtain⟨i,hi,rfl⟩:=Hu.mp hr;rw[HN]at hi;have mi:M.getD i []∈M:=bH hi;refine⟨by unfold whR; rw[bp]; exact t.row _ mi,λx hx=>?_⟩;unfold whR at hx;obtain⟨q,hq',rfl⟩:=Hu.mp hx;have e:(M.map scL).getD i 0=scL .(108):=by simp[hi]
 rw[e];have:=jZ (d:=d) (r:=M.getD i []) λx hx=>(hq _ mi x hx).den
 rw[t.row _ mi]at this;exact Gb (hq _ mi q hq') ((mq _).2 q hq') this
noncomputable def fuO (R:List .(125))(m n:Nat)(t:Int):Option .(131):=(((fdM R (kys m n (min m n))).map (·.1)).find? λp=>decide (vD R p<t))
noncomputable def fuD:Option .(131)->D
 | none=>.non
 | some p=>.tup [.lst (p.1.map .int),.lst (p.2.map .int)]
theorem uZ :fuO R m n t=none↔∀p∈kys m n (min m n),t<=vD R p:=by
 unfold fuO;rw[List.find?_eq_none];constructor
 . intro h p hp;have:=h p (Hu.mpr ⟨_,lA (er (v:=λp=>D.int (vD R p)) hp),rfl⟩);have:=of_decide_eq_false (by simpa using this:decide (vD R p<t)=false);omega
 . intro h p hp;obtain⟨q,hq,rfl⟩:=Hu.mp hp;have:=h _ (hU hq).1;simp;omega
theorem En :cF X (Gc .Is) (fuD o) .non (.bl o.isNone):=⟨_,C6,λ_ v w H Q _ d1 d2 k=>by
 cases d2
 cases o with
 | none=>cases d1; exact⟨rfl,by rw[decide_eq_true rfl]; exact k _ H .(102) .bl⟩
 | some i=>cases d1; exact⟨rfl,by rw[decide_eq_false (by intro z; cases z)]; exact k _ H .(102) .bl⟩⟩
noncomputable def fuS:Option .(131)->Sl
 | none=>.d .non
 | some p=>.n (.t [rwN p.1,rwN p.2])
def eV (ds:List D)(r:Sl):Prop:=∃(m n d v:Nat) (M:List .(123)) (t:Int),ds=[tbQ M,.int t]/\Tq m n M/\(∀r∈M,∀x∈r,Qs d v x)/\v+(1+n*d)<=1400/\r=fuS (fuO (whM M (M.map scL)) m n t)
section
variable {P:FB}{w:World}{K:fw}{mg:Str->Option Value}{base:Heap}{k:Nat}{f:Addr}{fd:GE}{qual:Str}
set_option maxHeartbeats 1000000 in
theorem kS (F:Fun K "first_under" qual (top 28) f fd)(hb:∀x∈aD,mg x=none)(c_all_determinants:Cal P w K mg base k "all_determinants" (cA P w))(c_whole_rows:Cal P w K mg base k "whole_rows" fT)(c_scale_of:Cal P w K mg base k "scale_of" iW):a8 P w K mg base CX0 (k+1) f fd ["table","bound"] (spD K eV):=by
 refine fnD F gE hb (by rintro _ _ ⟨_,_,_,_,_,_,rfl,_⟩; rfl) ?_;rintro _ _ ⟨m,n,d,v,M,t,rfl,tq,hq,hz,rfl⟩ cdv A outer s H E b;have nd:=gE.nd;have hu:(Xc P w K mg base ["table","bound","found","choices"] qual (top 28) f cdv A outer s H E).A.units+16<cLine:=HX .(7) b.room.units;have r7:=tq.r7;have c7:=tq.c7;have nd1:d<=n*d:=Nat.le_mul_of_pos_left d tq.c1;have ok:=rw_ok tq hq hz;generalize hRR:whM M (M.map scL)=R at ok
 have es:(D.lst ((M.map scL).map .int))=.lst ((ox (M.map rwQ).length).map λi=>D.int (scL .(108))):=by
   exact congrArg D.lst (((gX (λr:List Rat=>D.int (scL r)) M [] .(18)).trans .(21)).symm)
 refine aN 2 nd (x_call b c_all_determinants (ae (bE (x_call b c_whole_rows (ae (aa 0) (ae (bE (fR (cmp 0 (g:=λi=>rwQ .(108)) (f:=λi=>.int (scL .(108))) b (bD (aa 0)) (dn (f:=rwQ) (xs:=M) []) (by rw[bp,tq.len]; omega) λi hi s0 H0 fp=>(x_call .(109) c_scale_of .(110) ⟨_,d,rfl,?_,?_,?_,?_,rfl⟩)))) ag)) ⟨M,M.map scL,v+d,by rw[es],by rw[bp],by rw[tq.len]; omega,λr hr=>⟨by rw[tq.row r hr]; omega,λx hx=>(hq r hr x hx).sq⟩,by omega,?_,rfl⟩)) ag) ⟨R,m,n,_,by rw[hRR],ok,rfl⟩) ?_
 . rw[tq.row _ (bH (by simpa using hi))]; omega
 . exact λx hx=>(hq _ (bH (by simpa using hi)) x hx).den
 . rw[tq.row _ (bH (by simpa using hi))]; omega
 . omega
 . intro s hs;obtain⟨r,hr,rfl⟩:=Hu.mp hs;have:=jZ (d:=d) (r:=r) λx hx=>(hq _ hr x hx).den
   rw[tq.row r hr]at this;exact this.mono .(0)
 have hall:∀p∈(fdM R (kys m n (min m n))).map (·.1),getM (fdM R (kys m n (min m n))) p=some (.int (vD R p)):=λp hp=>by
   obtain⟨q,hq,rfl⟩:=Hu.mp hp;exact er (hU hq).1
 unfold fuO;generalize hks:(fdM R (kys m n (min m n))).map (·.1)=ks at hall;have em:(fdM R (kys m n (min m n))).map (λp=>kTT.toD p.1)=ks.map kTT.toD:=by rw[<- hks,Ik]; rfl
 refine bP 3 (g:=λi=>kTT.toD (ks.getD i ([],[]))) (λi τ=>(ks.take i).find? (λp=>decide (vD R p<t))=none/\∃s3,τ=[.d (tbQ M),.d (.int t),.d (.box (bxW kTT mU P w (fdM R (kys m n (min m n))))),s3]) b nd (em▸tX (aa 2)) (dn (f:=kTT.toD) (xs:=ks) ([],[])) ⟨rfl,.un,rfl⟩ (λi hi τ h=>?_) λτ h=>?_
 . obtain⟨h0,s3,rfl⟩:=h;have hi:i<ks.length:=by simpa using hi
   have mi:ks.getD i ([],[])∈ks:=bH hi;have g:=hall _ mi;have es:ks.take (i+1)=ks.take i++[ks.getD i ([],[])]:=take_snoc _ hi;generalize hp:ks.getD i ([],[])=p at g es;refine dW (a9 (rJ (a:=kTT) (hd:=mU) (key:=p) hu (aa 2) (aa 3) g (uN _) dD) (aa 1) vV) (λh=>?_) λh=>?_
   . have e:ks.find? (λp=>decide (vD R p<t))=some p:=by
       have e1:ks=ks.take i++p::ks.drop (i+1):=by
         have:=Lw (i+1) ks;rw[es,Ij]at this;exact this.symm
       rw[e1,L4,h0,Jx,h];rfl
     rw[e];exact aW (sX (gU (rF b (ae (aM (aa 3) af (aQ rfl)) ag) oG) rfl (gU (rF b (ae (aM (aa 3) af (aQ rfl)) ag) oG) rfl xX))) rfl
   . refine aV ⟨?_,_,rfl⟩;rw[es,L4,h0,Jx,h];rfl
 . obtain⟨h0,s3,rfl⟩:=h;rw[bp,HP .(3)]at h0;rw[h0];exact aW tV rfl
end
end K34
namespace Ev
open PySem PySem.Spec PyProof.Rows L2 PySem.W
section
variable {prog:FB}{w:World}{d:Addr}{o:Obj}{es:Array NM}{ep:Nat}
theorem DE (h0:(d==MZ)=false)(hx:o.ExactDict)(hdat:o.data=.dict es ep):KdlSrc prog w "dict" d d es.size (λi v=>∃h:i<es.size,v=es[i].key) (λh=>h.get? d=some o) where
 type:=λs h=>⟨o,h,hx.1⟩
 there:=λh e=>⟨Hw e,Hw e⟩
 keep:=λh h' e k=>k d (.inl rfl) o e
 notList:=by decide
 notTuple:=by decide
 hint:=λA E s Q e q=>kdl_hint_dict ⟨o,e,hx.1⟩ q
 iter:=λA s hh e=>by
   have ne:d≠s.heap.objs.size:=Il (Hw e);refine⟨_,λi h=>h.get? d=some o/\h.IsKeyIter s.heap.objs.size d i es.size ep,λE Q q=>uv h0 e hx hdat q,?_,pq _ e,⟨_,Hz _ rfl,rfl,rfl⟩⟩
   exact {
     sub:=λb hb=>by rw[gV.mp hb]; exact Ih ..
     frame:=λi h h' st k=>⟨k d .(4) o st.1,st.2.at λo e=>k _ .(5) o e⟩
     item:=λi s' Q E hi st hQ=>uj st.2 st.1 hdat hi λh' st' sb=>hQ _ h' s'.toks ⟨hi,rfl⟩ ⟨(sb.2 d ne).trans st.1,st'⟩ λb o' hb e'=>(sb.2 b λz=>hb (by rw[z]; exact gV.mpr rfl)).trans e'
     done:=λs' Q E st hQ=>zw hh st.2 st.1 hdat .(3) λh' eb=>hQ h' s'.toks λb o' hb e'=>eb b o' (λz=>hb (by rw[z]; exact gV.mpr rfl)) e'
     self:=λi s' Q E st h=>NG st.2 h }
end
section
variable {K:Type}[DecidableEq K]{a:KD K}{hd:a.dep<=7}{X:Cx}
theorem nO:∀xs:NEs K,Vals (xs.map λx=>V.ref x.2.1) (xs.map λx=>Ip x.2.1)
 | []=>.nil
 | _::xs=>.cons rfl (nO xs)
theorem lx (hc:X.calm=true):fG X (.type "list") (λvs H Q=>∃d xs,vs=[.ref d]/\H d=some (dNk a hd X.prog X.w d xs)/\xs.length<=sizeLine/\∀l,H l=none->Q (.ref l) (upd H l (.lst (xs.map λx=>.ref x.2.1)))):=by
 intro pins s σ H vs us Q I r h;obtain⟨d,xs,rfl,ha,hz,q⟩:=h;obtain⟨u,rfl,rx⟩:=vals1 r;cases rx
 obtain⟨⟨h0,o,es,ep,h1,h2,h3,h4,h5⟩,_⟩:=(show bL X.prog X.w H s.heap d (dNk a hd X.prog X.w d xs) from I.hok d _ ha);have hl:es.size=xs.length:=by rw[<- IY,h4,bp]
 refine kdl_call (DE h0 h2 h3) (I.ok.hd hc) h1 .(0) λh' tk acc' c' kp e it=>?_
 have ea:acc'.toList=xs.map λx=>Ip x.2.1:=by
   refine IX (by rw[IY,it.1,bp,hl]) λi z1 z2=>?_
   rw[IY]at z1;obtain⟨g,e⟩:=it.2 i acc'[i] (JX z1);rw[Array.getElem_toList,e];have hi:i<xs.length:=by omega
   have e:es.toList[i]?=some (NP (kd a hd X.prog X.w) xs[i]):=by rw[h4,HR,ph hi]; rfl
   rw[Lo,JX g]at e;rw[Im e,Jg];rfl
 have e':h'.get? s.heap.objs.size=some { cls:=.type "list",dict:=none,data:=.seq (xs.map λx=>Ip x.2.1).toArray c',slots:=#[] }:=by rw[<- ea,Array.toArray_toList]; exact e
 exact⟨.ref s.heap.objs.size,_,I.laid (t':=tk) kp .(3) (show bL X.prog X.w _ h' _ (.lst (xs.map λx=>.ref x.2.1)) from⟨by rw[bp]; exact hz,_,c',nO xs,e'⟩),rfl,q _ (I.hok.fresh .(3))⟩
end
end Ev
namespace Hy
open PySem PySem.Spec PyProof.Rows L2
open Ev (D Den av KD NEs dNk iB Bx aq lx)
section
variable {K:Type}[DecidableEq K]{a:KD K}{hd:a.dep<=7}{X:Cx}{τ:List Sl}{pos p q:Pos}{k:Nat}{m:List (K×D)}
theorem EnK.refs :∀{xs:NEs K} {m:List (K×D)},EnK a F G xs m->av F G (xs.map λx=>V.ref x.2.1) (m.map λp=>a.toD p.1)
 | _,_,.nil=>.nil
 | _,_,.cons h _ _ r=>.cons h r.refs
theorem Am (i:Nat){n:Str}(B:Bk X k)(hi:τ[i]?=some (.x (exK a hd X.prog X.w m)))(hl:m.length<=sizeLine)(hN:X.N[i]?=some n:=by rfl)
   (hv:Vis X.env.scope n:=by first | exact JM rfl | exact IH .(9) | exact IH .(8)) (hd1:(n==("__debug__" : Str))=false:=by decide) (hcd:(n==("__classdict__" : Str))=false:=by decide)
   (hg:Gl X "list":=by rfl) (he:Do [.Name n q] X.env=(false,eval (.Name n q) X.env)::Do [] X.env:=by rfl) (hpl:(M5 pos (Do [] X.env)).any (·.1)=false:=by rfl):PE X (.Call (.Name "list" p) [.Name n q] [] pos) (dE X.K true τ (.o (m.map λp=>a.toD p.1))):=
 peW (nR (lx (a:=a) (hd:=hd) B.calm) hg (B.blt _ .(2)) .(22) (bj (bo (i:=i) hN hv hd1 hcd) cB he) .(2) .(2) he hpl) λσ H Q ⟨A,H₀,B,S,kk⟩=>by
   obtain⟨d,xs,e1,e2,e3,e4⟩:=S.dct hi;refine⟨_,slot_of e1,d,xs,rfl,e3,by rw[e4.length]; exact hl,λp hp=>?_⟩;obtain⟨z1,z2,z3⟩:=jX (K:=X.K) (M:=own A B) hp e4.refs;exact kk _ _ [p] z1 z2 z3
end
end Hy
namespace Ev
open PySem PySem.Spec PyProof.Rows L2
structure M0 (X:Cx)(o:Expr)(m:Str)(apos:Pos)(cpos:Pos):Prop where
 base:M9 o m X.env (eval o X.env)=eval o X.env
 few:((M5 cpos (Do [] X.env)).all (λx=>!x.1)&&(Nj cpos (N2 [] X.env)).all (λx=>x.1.isSome)
   && decide (([]:List Expr).length+([]:List MW).length+(if ([]:List MW).isEmpty then 0 else 1)<30))=true
 line:(apos.endLine==cpos.line)=true
 trees:M5 cpos (Do [] X.env)=[]
end Ev
namespace Hy
open PySem PySem.Spec PyProof.Rows L2
open Ev (D Den av Bx aq cN M0)
section
variable {X:Cx}{C:Bool}{τ:List Sl}{e:Expr}{m:List (Int×Int)}
theorem Fb (h:PE X e (dE X.K C τ (.x (exZ m)))):PE X e (dE X.K C τ (.d (.box (bxZ m)))):=by
 intro pins s σ H Q I q;obtain⟨A,H₀,B,S,kk⟩:=dj q;have vd:=S.vd (C:=C);refine thn (h pins s σ H (λv H'=>∃d,v=.ref d/\ao H H'/\H d=none/\H' d=some (.dK (cN m))) I ⟨A,H₀,B,S,λv H' bs e hf ⟨d,o,h1,h2,h3,h4⟩=>?_⟩) λu s1 ⟨x,H1,I1,rx,d,ex,e,hn,h3⟩=>?_
 . cases h2
   cases (show o=_ from h4)
   subst h1;exact⟨d,rfl,e,(hf d (gV.mpr rfl)).1,h3⟩
 . subst ex;obtain⟨z,hd0,vs,rel,dd⟩:=uF I1.hok h3;obtain⟨o,es,ep,e0,r⟩:=id dd;have I2:Inv X pins σ (upd H1 d (.frz o (.dK (cN m)))) s1:=fO (t':=s1.toks) (h':=s1.heap) I1 (by rw[h3]; exact JG) (.refl _ _) ⟨o,e0⟩ ⟨e0,oN z hd0 rel dd⟩
   have un:¬vw C A B d:=λz=>by
     obtain⟨_,q⟩:=vd d z;rw[hn]at q;cases q
   refine⟨.ref d,_,I2,rx,kk _ _ (λb o' hb=>?_) (.box ⟨o,au.mpr ⟨un,aK⟩⟩)⟩;rw[aE (λz=>by rw[z,hn]at hb; cases hb)];exact e b o' hb
end
end Hy
namespace K34
open PySem PySem.Spec PyProof.Rows L2 Hy
open Ev (D Den av aH aL)
noncomputable def bY (n:Nat)(rs:List .(125)):List (Int×Int):=rs.foldl (λkv r=>bG n r kv kv.length) [(0,1)]
theorem fY (n:Nat)(rs:List .(125))(r:List Int):bY n (rs++[r])=bG n r (bY n rs) (bY n rs).length:=by unfold bY; rw[JH]; rfl
theorem rG (n:Nat)(rs:List .(125)):∀i,i<=rs.length->RI n i (dtM rs) (bY n (rs.take i))
 | 0,_=>RI.zero n _
 | i+1,h=>by
   have e:rs.take (i+1)=rs.take i++[rs.getD i []]:=take_snoc _ .(0);rw[e,fY];exact(rG n rs i .(0)).step λj _=>rfl
theorem fK (n:Nat)(rs:List .(125)):RI n rs.length (dtM rs) (bY n rs):=by
 have:=rG n rs rs.length .(3)
 rwa [HP .(3)]at this
theorem jY (n:Nat)(rs:List .(125)):∀i,i<=rs.length->(bY n (rs.take i)).length<=n^i
 | 0,_=>Ia 1
 | i+1,h=>by
   have e:rs.take (i+1)=rs.take i++[rs.getD i []]:=take_snoc _ .(0);rw[e,fY,LD];exact HJ (jS _ _ _ _) (HU _ (jY n rs i .(0)))
theorem xY (h:q∈gn kv k v):q.2=v\/q∈kv:=by
 unfold gn at h;split at h
 . obtain⟨p,hp,e⟩:=Hu.mp h;by_cases z:p.1=k
   . rw[if_pos z]at e; exact .inl (by rw[<- e])
   . rw[if_neg z]at e; exact .inr (e▸hp)
 . rcases x3.mp h with h | h
   . exact .inr h
   . exact .inl (by rw[gV.mp h])
theorem As (h:∀q∈kv,q.2.natAbs<=N):((bR kv k).getD 0).natAbs<=N:=by
 cases e:bR kv k with
 | none=>simp
 | some v=>
   unfold bR at e;obtain⟨p,h1,h2⟩:=Kh.mp e;rw[<- h2];exact h p (JY h1)
theorem tY (hW:∀j,(row.getD j 0*v).natAbs<=W)(h:∀q∈kv,q.2.natAbs<=N):∀c,∀q∈(cD n row k v kv c).2,q.2.natAbs<=N+c*W
 | 0,q,hq=>by have:=h q hq; omega
 | c+1,q,hq=>by
   have ih:=tY (n:=n) (k:=k) hW h c;rw[cD,kU]at hq;rw[IS];split at hq
   . have:=ih q hq; omega
   . rcases xY hq with e | hq
     . have h1:=As (k:=lM k (n-1-c)) ih
       have h2:(sgZ (cD n row k v kv c).1*row.getD (n-1-c) 0*v).natAbs<=W:=by
         rw[MU,Jd];have:=hW (n-1-c);rcases rD (cD n row k v kv c).1 with z | z <;> rw[z] <;> simpa using this
       rw[e];omega
     . have:=ih q hq; omega
theorem rg (hW:∀j q,q∈kv->(row.getD j 0*q.2).natAbs<=W):∀t,∀q∈bG n row kv t,q.2.natAbs<=t*n*W
 | 0,q,hq=>nomatch hq
 | t+1,q,hq=>by
   rw[bG]at hq;have ih:=rg (n:=n) hW t
   have:=tY (N:=t*n*W) (W:=W) (λj=>by
     cases e:bR kv (kv.getD t (0,0)).1 with
     | none=>simp
     | some v=>
       unfold bR at e;obtain⟨p,h1,h2⟩:=Kh.mp e;rw[La,<- h2];exact hW j p (JY h1)) ih n q hq
   rw[IS,Nat.add_mul];exact this
theorem rA {rs:List .(125)}(hn:n<=7)(hl:rs.length<=7)(hr:∀r∈rs,∀x∈r,Bd b x):∀i,i<=rs.length->∀q∈bY n (rs.take i),Bd (1+i*(b+24)) q.2
 | 0,_,q,hq=>by
   cases gV.mp hq
   unfold Bd;rw[Nat.zero_mul];decide
 | i+1,h,q,hq=>by
   have e:rs.take (i+1)=rs.take i++[rs.getD i []]:=take_snoc _ .(0);rw[e,fY]at hq;have ih:=rA hn hl hr i .(0);have hl1:=jY n rs i .(0);have hl2:n^i<=7^7:=HJ (Nat.pow_le_pow_left hn i) (HS .(2) .(0))
   have:=rg (n:=n) (row:=rs.getD i []) (W:=2^(b+(1+i*(b+24)))) (λj q hq=>by
     have h1:Bd b ((rs.getD i []).getD j 0):=by
       by_cases hj:j<(rs.getD i []).length
       . exact hr _ (bV .(0)) _ (bV hj)
       . rw[getD_none .(0)]; exact IU b
     exact Jp (h1.mul (ih q hq))) _ q hq
   unfold Bd;have e2:1+(i+1)*(b+24)=(b+(1+i*(b+24)))+24:=by rw[IS]; omega
   rw[e2,Jz];have p0:=IU (b+(1+i*(b+24)));have h7:(7:Nat)^7=823543:=by decide
   have:(bY n (rs.take i)).length*n<=823543*7:=IV .(0) hn;have l2:(bY n (rs.take i)).length*n*2^(b+(1+i*(b+24)))<=823543*7*2^(b+(1+i*(b+24))):=HU _ this
   have l3:823543*7*2^(b+(1+i*(b+24)))<2^(b+(1+i*(b+24)))*2^24:=by
     rw[Nat.mul_comm];exact KR .(2) p0
   omega
noncomputable def lnR (R:List .(125))(ls:List Int):List .(125):=ls.map λi=>R.getD i.toNat []
noncomputable def vMn (R:List .(125))(n:Nat)(ls:List Int):D:=.box (bxZ (bY n (lnR R ls)))
noncomputable def nxK (n i:Nat)(ks:List .(125)):List .(125):=(ks.filter λls=>decide (ls.length<n)).map λls=>ls++[(i:Int)]
noncomputable def lks (R:List .(125))(n:Nat):Nat->List .(125)
 | 0=>[[]]
 | i+1=>lks R n i++nxK n i (.(122).map (·.1))
theorem uX (n i:Nat)(ks:List .(125)):(nxK n i ks).length<=ks.length:=by
 unfold nxK;rw[bp];exact List.length_filter_le ..
theorem uY (R:List .(125))(n:Nat):∀i,(lks R n i).length<=2^i
 | 0=>Ia 1
 | i+1=>by
   have h1:=uY R n i;have h2:=uX n i (.(122).map (·.1));have h3:=gZ (vMn R n) (lks R n i);rw[bp]at h2;rw[lks,vp,LD];omega
structure Ls (n i:Nat)(ls:List Int):Prop where
 len:ls.length<=n
 at_:∀x∈ls,0<=x/\x<i
theorem CN (h:∀ls∈ks,Ls n i ls):∀ls∈nxK n i ks,Ls n (i+1) ls:=λls hs=>by
 unfold nxK at hs;obtain⟨l,hl,rfl⟩:=Hu.mp hs;rw[Jm]at hl;have h1:=h l hl.1;have h2:=of_decide_eq_true hl.2;refine⟨by rw[vp,Ly]; omega,λx hx=>?_⟩;rcases x3.mp hx with hx | hx
 . have:=h1.at_ x hx; omega
 . rw[gV.mp hx]; omega
theorem lks_ok (R:List .(125))(n:Nat):∀i,∀ls∈lks R n i,Ls n i ls
 | 0,ls,h=>by
   rw[gV.mp h];exact⟨HL _,λ_ z=>nomatch z⟩
 | i+1,ls,h=>by
   have ih:=lks_ok R n i;rcases x3.mp h with h | h
   . have:=ih ls h;exact⟨this.len,λx hx=>by have:=this.at_ x hx; omega⟩
   . refine CN (λl hl=>?_) ls h;obtain⟨q,hq,rfl⟩:=Hu.mp hl;exact ih _ (hU hq).1
def iV (P:FB)(w:World)(ds:List D)(r:Sl):Prop:=∃(R:List .(125)) (m n b:Nat),ds=[.lst (R.map dtR)]/\Rw m n b R/\r=.d (.box (bxW kT hdT P w .(112)))
theorem mn0 (R:List .(125))(n:Nat):mkM (vMn R n) (lks R n 0)=[([],D.box (bxZ [(0,1)]))]:=rfl
theorem yu (R:List .(125))(n i:Nat)(ls:List Int):vMn R n (ls++[(i:Int)])=.box (bxZ (bG n (R.getD i []) (bY n (lnR R ls)) (bY n (lnR R ls)).length)):=by
 unfold vMn;have e:lnR R (ls++[(i:Int)])=lnR R ls++[R.getD i []]:=by unfold lnR; rw[HB]; rfl
 rw[e,fY]
theorem xu (n i:Nat)(ks:List .(125))(ls:List Int):nxK n i (ks++[ls])=nxK n i ks++if ls.length<n then [ls++[(i:Int)]] else []:=by
 unfold nxK;rw[Jc,HB];congr 1;by_cases h:ls.length<n
 . rw[if_pos h,Ks,if_pos (by simpa using h)]; rfl
 . rw[if_neg h,Ks,if_neg (by simpa using h)]; rfl
section
variable {P:FB}{w:World}{K:fw}{mg:Str->Option Value}{base:Heap}{k:Nat}{f:Addr}{fd:GE}{qual:Str}
set_option maxHeartbeats 1000000 in
theorem pN (F:Fun K "_law_minors" qual (top 50) f fd)(hb:∀x∈aD,mg x=none):a8 P w K mg base CX0 (k+1) f fd ["_law_rows_here"] (spD K (iV P w)):=by
 refine fnD F kx hb (by rintro _ _ ⟨_,_,_,_,rfl,_⟩; rfl) ?_;rintro _ _ ⟨R,m,n,b0,rfl,ok,rfl⟩ cdv A outer s H E b;have nd:=kx.nd;have hu:.(128).A.units+16<cLine:=HX .(7) b.room.units;have hu1:.(128).A.units+1<cLine:=HX (LP (by decide:1<=64) _) b.room.units;obtain⟨⟨m1,m7⟩,n1,n7⟩:=And.intro ok.m1 ok.n1;have lR:(R.map dtR).length=m:=by rw[bp,ok.len]
 have r0:(R.getD 0 []).length=n:=(ok.row _ (bV (by rw[ok.len]; omega))).1;have lr0:((R.getD 0 []).map D.int).length=n:=by rw[bp,r0]
 have a0:atI (R.map dtR) 0=some (dtR (R.getD 0 [])):=oW (i:=0) .(2) (by rw[ok.len]; show 0<m; omega);refine aN 1 nd (bh b (ae (aM (aa 0) af (a6 a0)) ag) (iQ lr0)) ?_;generalize e:Expr.Dict [some (Expr.Tuple [] 0 _)] _ _=ex;refine aN 2 nd (s:=.x (exK kT hdT P w [([],D.box (bxZ [(0,1)]))])) ?_ ?_ (hs:=by subst e; rfl)
 . subst e;generalize e:Expr.Dict [some (Expr.Constant _ _ _)] _ _=ex;refine sf (a:=kT) (hd:=hdT) (key:=[]) (x:=D.box (bxZ [(0,1)])) hu ?_ ?_ (cJ [])
   . show PE _ _ (dE _ _ _ (.d (.tup [])));exact bI ag
   . subst e;exact Fb CD
 refine bP 3 (λi τ=>i<=m/\∃s3 s4 s5 s6 s7 s8 s9 s10,τ=[.d (.lst (R.map dtR)),.d (.int n),.x (exK kT hdT P w .(122)),s3,s4,s5,s6,s7,s8,s9,s10]) b nd (fH b (bh b .(110) (iQ lR)) .(0) .(0)) ft ⟨HL _,.un,.un,.un,.un,.un,.un,.un,.un,by rw[mn0]; rfl⟩ (λi hi τ h=>?_) λτ h=>?_
 . obtain⟨_,s3,s4,s5,s6,s7,s8,s9,s10,rfl⟩:=h;have hi:i<m:=by rw[aP]at hi; omega
   have hiR:i<R.length:=by rw[ok.len]; exact hi
   have hrow:=ok.row _ (bV (d:=[]) hiR);have aRi:atI (R.map dtR) (i:Int)=some (dtR (R.getD i [])):=oW (i:=(i:Int)) .(0) .(0);have kl:=gZ (vMn R n) (lks R n i);have ll:=uY R n i;have p2:2^i<=2^7:=HS .(2) .(0)
   have hks:∀ls∈.(122).map (·.1),ls∈lks R n i:=λls h=>by
     obtain⟨q,hq,rfl⟩:=Hu.mp h;exact(hU hq).1
   have lkl:(.(122).map (·.1)).length<=128:=by rw[bp]; omega
   have eL:lks R n (i+1)=lks R n i++nxK n i (.(122).map (·.1)):=rfl;have em:.(122).map (λp=>kT.toD p.1)=(.(122).map (·.1)).map kT.toD:=by rw[Ik]; rfl
   refine bP 4 (g:=λl=>kT.toD ((.(122).map (·.1)).getD l [])) (λl τ=>∃s4 s5 s6 s7 s8 s9 s10,τ=[.d (.lst (R.map dtR)),.d (.int n),.x (exK kT hdT P w (mkM (vMn R n) (lks R n i++nxK n i ((.(122).map (·.1)).take l)))),.d (.int (i:Nat)),s4,s5,s6,s7,s8,s9,s10]) b nd (em▸bD (bE (Am 2 (a:=kT) (hd:=hdT) b rfl (HJ kl (HJ ll (HJ p2 .(2))))))) (dn (f:=kT.toD) []) ⟨s4,s5,s6,s7,s8,s9,s10,by rw[List.take_zero]; show _=[_,_,Sl.x (exK kT hdT P w (mkM (vMn R n) (lks R n i++[]))),_,_,_,_,_,_,_,_]; rw[Io]; rfl⟩ (λl hl τ h=>?_) λτ h=>?_
   . obtain⟨s4,s5,s6,s7,s8,s9,s10,rfl⟩:=h;generalize .(122).map (·.1)=ks at hl hks lkl;have hl:l<ks.length:=by simpa using hl
     have hs:=hks _ (bV (d:=[]) hl);have es:ks.take (l+1)=ks.take l++[ks.getD l []]:=take_snoc _ hl;rw[es,xu];generalize ks.getD l []=ls at hs;have okl:=lks_ok R n i ls hs;have nl:=uX n i (ks.take l);rw[IG]at nl;generalize nxK n i (ks.take l)=nx at nl;have gK:getM (mkM (vMn R n) (lks R n i++nx)) ls=some (.box (bxZ (bY n (lnR R ls)))):=er (v:=vMn R n) (HE _ hs);have ml:=gZ (vMn R n) (lks R n i++nx);rw[vp]at ml;have lnl:(lnR R ls).length=ls.length:=by unfold lnR; rw[bp]
     have RIk:=fK n (lnR R ls);have kvl:=jY n (lnR R ls) _ .(3)
     have kvb:=rA (n:=n) (b:=b0) (rs:=lnR R ls) n7 (by have:=okl.len; omega) (λr hr x hx=>by
       unfold lnR at hr;obtain⟨y,hy,rfl⟩:=Hu.mp hr;have:=okl.at_ y hy;exact(ok.row _ (bV (by rw[ok.len]; omega))).2 x hx) _ .(3)
     rw[HP .(3)]at kvl kvb;have kv7:n^(lnR R ls).length<=7^7:=HJ (Nat.pow_le_pow_left n7 _) (HS .(2) (by have:=okl.len; omega));have h77:(7:Nat)^7=823543:=by decide
     have vS:=yu R n i ls;generalize bY n (lnR R ls)=kv at gK RIk kvl kvb vS;generalize hRow:R.getD i []=row at hrow aRi vS;refine aN 5 nd Ci ?_;refine bP 6 (g:=λt=>.int (kv.getD t (0,0)).1) (λt τ=>∃s6 s7 s8 s9 s10,τ=[.d (.lst (R.map dtR)),.d (.int n),.x (exK kT hdT P w (mkM (vMn R n) (lks R n i++nx))),.d (.int (i:Nat)),.d (kT.toD ls),.x (exZ (bG n row kv t)),s6,s7,s8,s9,s10]) b nd (uL (r9 2 (a:=kT) (hd:=hdT) (key:=ls) hu rfl (aa 4) gK (cJ _) dD)) zI ⟨s6,s7,s8,s9,s10,rfl⟩ (λt ht τ z=>?_) λτ z=>?_
     . obtain⟨s6,s7,s8,s9,s10,rfl⟩:=z;have ht:t<kv.length:=by simpa using ht
       have hq:kv.getD t (0,0)∈kv:=bV ht;have hg:bR kv (kv.getD t (0,0)).1=some (kv.getD t (0,0)).2:=oZ RIk.nd hq;have hv:=kvb _ hq;have hml:=jS n row kv t;have hml2:t*n<=823543*7:=IV .(0) n7;have eM:bG n row kv (t+1)=(cD n row (kv.getD t (0,0)).1 (kv.getD t (0,0)).2 (bG n row kv t) n).2:=by rw[bG,hg]; rfl
       rw[eM];generalize bG n row kv t=lk at hml;generalize (kv.getD t (0,0)).1=mk at hg;generalize (kv.getD t (0,0)).2=v at hg hv;refine aN 7 nd af ?_;refine bP 8 (g:=λc=>.int ((n-1-c:Nat):Int)) (λc τ=>∃s8 s9 s10,τ=[.d (.lst (R.map dtR)),.d (.int n),.x (exK kT hdT P w (mkM (vMn R n) (lks R n i++nx))),.d (.int (i:Nat)),.d (kT.toD ls),.x (exZ (cD n row mk v lk c).2),.d (.int mk),.d (.int (cD n row mk v lk c).1),s8,s9,s10]) b nd (Fo (n:=n) b (aa 1) .(0)) FH ⟨s8,s9,s10,rfl⟩ (λc hc τ z=>?_) λτ z=>?_
       . obtain⟨s8,s9,s10,rfl⟩:=z;have hc:c<n:=by rw[gf]at hc; exact hc
         have hcl:=l5 n row mk v lk c;have hj:n-1-c<row.length:=by rw[hrow.1]; omega
         have eC:cD n row mk v lk (c+1)=kU row mk v (n-1-c) (cD n row mk v lk c):=rfl;rw[eC];generalize cD n row mk v lk c=st at hcl;generalize n-1-c=j at hj;have j7:j<7:=by have:=hrow.1; omega
         refine i8 (M:=λτ=>∃s8 s9 s10,τ=[.d (.lst (R.map dtR)),.d (.int n),.x (exK kT hdT P w (mkM (vMn R n) (lks R n i++nx))),.d (.int (i:Nat)),.d (kT.toD ls),.x (exZ (kU row mk v j st).2),.d (.int mk),.d (.int (kU row mk v j st).1),s8,s9,s10]) (a9 (aI (aI (aa 6) (aa 8) (By .(0))) af BZ) af gB) (λz=>?_) (λz=>?_) λτ z=>by
           obtain⟨s8,s9,s10,rfl⟩:=z;exact aV ⟨s8,s9,s10,rfl⟩
         . have z:rS mk j=true:=by
             unfold rS;rw[HC]at z;exact z
           have e:kU row mk v j st=(st.1+1,st.2):=by unfold kU; rw[if_pos z]
           rw[e];exact aN 7 nd (aI (aa 7) af ck) (aV ⟨_,_,_,rfl⟩)
         . have z:rS mk j=false:=by
             unfold rS;rw[HC]at z;exact z
           have e:kU row mk v j st=(st.1,gn st.2 (lM mk j) ((bR st.2 (lM mk j)).getD 0+sgZ st.1*row.getD j 0*v)):=by unfold kU; rw[if_neg (by rw[z]; decide)]
           have hx:Bd b0 (row.getD j 0):=hrow.2 _ (bV hj)
           have s2:aH (row.getD j 0) v:=hx.aH hv (by have:=ok.b1; omega) (by
             have:=ok.b1;have:(lnR R ls).length*(b0+24)<=7*(b0+24):=HU _ (by have:=okl.len; omega);omega)
           rw[e];refine aN 9 nd (aI (aa 6) (aI af (aa 8) (FR ⟨by omega,by omega,by decide⟩)) GF) ?_;rw[HC];show PSs _ _ (dS K [.d (.lst (R.map dtR)),.d (.int n),.x (exK kT hdT P w (mkM (vMn R n) (lks R n i++nx))),.d (.int (i:Nat)),.d (kT.toD ls),.x (exZ st.2),.d (.int mk),.d (.int st.1),.d (.int (j:Nat)),.d (.int (lM mk j)),_] _);refine aN 10 nd (aI (aM (aM (aa 0) (aa 3) (a6 aRi)) (aa 8) (a6 (atR hj))) (yg hu1 (r9 2 (a:=kT) (hd:=hdT) (key:=ls) hu rfl (aa 4) gK (cJ _) dD) (aa 6) hg dD) (bK s2)) ?_;refine i8 (M:=λτ=>τ=[.d (.lst (R.map dtR)),.d (.int n),.x (exK kT hdT P w (mkM (vMn R n) (lks R n i++nx))),.d (.int (i:Nat)),.d (kT.toD ls),.x (exZ st.2),.d (.int mk),.d (.int st.1),.d (.int (j:Nat)),.d (.int (lM mk j)),.d (.int (sgZ st.1*row.getD j 0*v))]) (a9 (aI (aa 7) af (bW .(2))) af gB) (λz=>?_) (λz=>?_) λτ z=>?_
           . have z:=of_decide_eq_true z;have e2:sgZ st.1=-1:=by unfold sgZ; rw[z]; rfl
             rw[e2,MU,Int.neg_mul,Int.one_mul];exact aN 10 nd (l4 (aa 10)) (aV rfl)
           . have z:=of_decide_eq_false z
             have e2:sgZ st.1=1:=by
               rcases rD st.1 with h | h
               . exact h
               . unfold sgZ at h; omega
             rw[e2,Int.one_mul];exact aV rfl
           . rw[z];refine Ec 5 hu1 rfl (aa 9) (aI (AZ 5 hu1 rfl (aa 9) af) (aa 10) ck) ?_ (aV ⟨_,_,_,rfl⟩);have:sizeLine>10000000:=by decide
             omega
       . obtain⟨s8,s9,s10,rfl⟩:=z;rw[gf];exact aV ⟨_,_,_,_,_,rfl⟩
     . obtain⟨s6,s7,s8,s9,s10,rfl⟩:=z;rw[bp];refine EZ 5 ?_;refine i8 (M:=λτ=>∃s4 s5 s6 s7 s8 s9 s10,τ=[.d (.lst (R.map dtR)),.d (.int n),.x (exK kT hdT P w (mkM (vMn R n) (lks R n i++(nx++if ls.length<n then [ls++[(i:Int)]] else [])))),.d (.int (i:Nat)),s4,s5,s6,s7,s8,s9,s10]) (a9 (bh b (ae (aa 4) ag) fX) (aa 1) vV) (λz=>?_) (λz=>?_) λτ z=>aV z
       . have z:=of_decide_eq_true z;rw[bp]at z;rw[if_pos .(0),<- Ij,gG,vS];refine pz 2 (a:=kT) (hd:=hdT) (key:=ls++[(i:Int)]) hu rfl ?_ (aa 5) (HJ ml ?_) (cJ _) (aV ⟨_,_,_,_,_,_,_,rfl⟩)
         . have e:kT.toD (ls++[(i:Int)])=.tup (ls.map D.int++[.int (i:Nat)]):=by show D.tup ((ls++[(i:Int)]).map D.int)=_; rw[HB]; rfl
           rw[e];exact aI (aa 4) (bI (ae (aa 3) ag)) (sY (by rw[bp]; have:=okl.len; show _+1<_; omega))
         . have:sizeLine>10000000:=by decide
           omega
       . have z:=of_decide_eq_false z;rw[bp]at z;rw[if_neg .(0),Io];exact aV ⟨_,_,_,_,_,_,_,rfl⟩
   . obtain⟨s4,s5,s6,s7,s8,s9,s10,rfl⟩:=h;refine aV ⟨hi,.d (.int (i:Nat)),s4,s5,s6,s7,s8,s9,s10,?_⟩;rw[eL,bp,HP .(3)]
 . obtain⟨_,s3,s4,s5,s6,s7,s8,s9,s10,rfl⟩:=h;refine Bz 2 (a:=kT) (hd:=hdT) (aW (aa 2) ?_);rw[aP,HC];rfl
end
theorem uR {f:List Int->Int}{row c:List Int}{g:Nat->Rat}(hl:c.length=m+1)(hg:∀k,k<m+1->((alP f row c k:Int):Rat)=g k):∀k,k<=m+1->((alS f row c k:Int):Rat)=aA (λk=>sgn (m-k)*g k) k
 | 0,_=>rfl
 | k+1,h=>by
   have ih:=uR hl hg k .(0);rw[alS,aA,<- ih,<- hg k .(0),hl];unfold sgn;rw[JB _ .(2)];by_cases z:(m-k)%2=0
   . rw[if_pos z,if_neg .(0),Kg,IC]
   . rw[if_neg z,if_pos .(0),Rat.intCast_sub,Rat.sub_eq_add_neg,Rat.neg_mul,IC]
theorem tR (h:∀r,r<L.length->∀j,M r j=M' r j):eK M L=eK M' L:=by
 unfold eK;exact aF λr hr q _=>h r hr _
theorem xr (R:List .(125))(ls:List Int)(t r j:Nat)(h:r<t):dtM (lnR R (ls.take t)) r j=dtM (lnR R ls) r j:=by
 have e:(lnR R (ls.take t)).getD r []=(lnR R ls).getD r []:=by
   unfold lnR;rw[Lb,HF,HF,MD h]
 unfold dtM;rw[e]
theorem uT (c:List Int)(k:Nat):(ers c k).map J1=(c.map J1).eraseIdx k:=by
 unfold ers;rw[List.eraseIdx_eq_take_drop_succ,HB,Lb,List.map_drop]
theorem kG (R:List .(125)):∀(t:Nat) (ls c:List Int),ls.length=t->c.length=t->((dtm R t ls c:Int):Rat)=eK (dtM (lnR R ls)) (c.map J1)
 | 0,ls,c,_,hc=>by
   cases Ke.mp hc
   rfl
 | t+1,ls,c,hl,hc=>by
   have hL:(c.map J1).length=t+1:=by rw[bp,hc]
   rw[lr hL,dtm];unfold alR;rw[hc]
   have:=uR (f:=dtm R t (ls.take t)) (row:=R.getD (gz ls).toNat []) (c:=c) (g:=λk=>dtM (lnR R ls) t ((c.map J1).getD k 0)*eK (dtM (lnR R ls)) ((c.map J1).eraseIdx k)) hc (λk hk=>by
     unfold alP;have e1:(c.map J1).getD k 0=(c.getD k 0).toNat:=by simp[show k<c.length by omega]
     have e2:(lnR R ls).getD t []=R.getD (gz ls).toNat []:=by
       unfold lnR gz;rw[hl];simp[show t<ls.length by omega]
     have l2:(ers c k).length=t:=by
       have:=congrArg List.length (uT c k);rw[bp,JA .(0),hL]at this;exact this
     rw[HW,kG R t (ls.take t) (ers c k) (by rw[IG,hl]; omega) l2,uT];rw[e1];have e3:dtM (lnR R ls) t (c.getD k 0).toNat=(((R.getD (gz ls).toNat []).getD (c.getD k 0).toNat 0:Int):Rat):=by unfold dtM; rw[e2]
     rw[e3];refine congrArg _ (tR λr hr j=>xr R ls t r j ?_);rw[JA .(0),hL]at hr;omega) (t+1) .(3)
   rw[this];refine ar λk hk=>?_
   rw[JC]
noncomputable def lkP (n:Nat):Nat->List .(125)
 | 0=>[[]]
 | i+1=>lkP n i++nxK n i (lkP n i)
theorem ju {κ:Type}[DecidableEq κ]{v:κ->D}{ks:List κ}{k:κ}:k∈(mkM v ks).map (·.1)↔k∈ks:=by
 constructor
 . intro h;obtain⟨q,hq,rfl⟩:=Hu.mp h;exact(hU hq).1
 . intro h;exact Hu.mpr ⟨_,lA (er (v:=v) h),rfl⟩
theorem vx :ls∈nxK n i ks↔∃l,l∈ks/\l.length<n/\l++[(i:Int)]=ls:=by
 unfold nxK;rw[Hu];constructor
 . rintro⟨l,h,e⟩;rw[Jm]at h;exact⟨l,h.1,of_decide_eq_true h.2,e⟩
 . rintro⟨l,h,z,e⟩;exact⟨l,Jm.mpr ⟨h,decide_eq_true z⟩,e⟩
theorem oR (R:List .(125))(n:Nat):∀i (ls:List Int),ls∈lks R n i↔ls∈lkP n i
 | 0,_=>Iff.rfl
 | i+1,ls=>by
   have ih:=oR R n i;rw[lks,lkP,x3,x3,vx,vx,ih];refine or_congr Iff.rfl (exists_congr λl=>?_);rw[ju,ih]
theorem EA:∀n,n<8->∀m,m<8->(((lkP n m).all λls=>(chs m ls.length).contains ls&&decide (ls.length<=min m n))&&(ox (min m n+1)).all λt=>(chs m t).all λls=>(lkP n m).contains ls)=true:=by decide +kernel
theorem EL:∀n,n<8->(((ox (2^n)).all λS=>(chs n (cols n S).length).contains ((cols n S).map LZ))&&(ox 8).all λt=>(chs n t).all λc=>(ox (2^n)).any λS=>decide (cols n S=c.map J1))=true:=by decide +kernel
theorem kN :(ls,c)∈kys m n k↔∃s,s<k/\ls∈chs m (s+1)/\c∈chs n (s+1):=by
 unfold kys ky1;constructor
 . intro h;obtain⟨s,hs,h⟩:=IW.mp h;obtain⟨l,hl,h⟩:=IW.mp h;obtain⟨d,hd,e⟩:=Hu.mp h;cases e
   exact⟨s,HN.mp hs,hl,hd⟩
 . rintro⟨s,hs,h1,h2⟩;exact IW.mpr ⟨s,HN.mpr hs,IW.mpr ⟨ls,h1,Hu.mpr ⟨c,h2,rfl⟩⟩⟩
theorem zD {x y:Int}(h:(x:Rat)=(y:Rat)):x=y:=by exact_mod_cast h
theorem E3 (hl:ls.length=t)(hc:c.length=t):((vD R (ls,c):Int):Rat)=mi (dtM R) t (λr=>(ls.getD r 0).toNat) (λj=>(c.getD j 0).toNat):=by
 unfold vD;show ((dtm R ls.length ls c:Int):Rat)=_;rw[kG R ls.length ls c rfl .(0)];unfold eK mi;rw[bp,hc];refine aF λi hi j hj=>?_
 unfold dtM lnR;have e1:(ls.map λi=>R.getD i.toNat []).getD i []=R.getD (ls.getD i 0).toNat []:=by simp[show i<ls.length by omega]
 have e2:(c.map J1).getD j 0=(c.getD j 0).toNat:=by simp[show j<c.length by omega]
 rw[e1,e2]
theorem CC (hi:i<M.length)(hj:j<.(108).length):((whM M ss).getD i []).getD j 0=(.(108).getD j 0).num*(ss.getD i 0/((.(108).getD j 0).den:Nat)):=by
 have e:(whM M ss).getD i []=whR .(108) (ss.getD i 0):=by unfold whM; simp[hi]
 rw[e];unfold whR;rw[HF,HR,ph hj,HF (l:=M.getD i []),ph hj];rfl
structure Rs (T m:Nat)(p:List Int):Prop where
 len:p.length=m
 up:∀a,a+1<m->p.getD a 0<p.getD (a+1) 0
 bd:∀a,a<m->0<=p.getD a 0/\p.getD a 0<T
theorem zR {c:List Int}(h:i<c.length):(c++[x]).getD i 0=c.getD i 0:=by simp[K8,Hv h]
theorem ux (T:Nat):∀(m:Nat) (p:List Int),Rs T m p->p∈chs T m
 | 0,p,h=>by
   rw[chs,gV];exact Ke.mp h.len
 | m+1,p,h=>by
   have hp:p=p.dropLast++[p.getD m 0]:=by
     have hne:p≠[]:=λz=>by rw[z]at h; exact absurd h.len .(4)
     have:p.getLast hne=p.getD m 0:=by
       rw[List.getLast_eq_getElem,HF];simp[h.len]
     rw[<- this,Ml]
   have hl:p.dropLast.length=m:=by rw[List.length_dropLast,h.len]; rfl
   have hg:∀a,a<m->p.dropLast.getD a 0=p.getD a 0:=λa ha=>by
     conv=>rhs; rw[hp]
     rw[zR .(0)]
   have hd:Rs T m p.dropLast:=⟨hl,λa ha=>by rw[hg a .(0),hg (a+1) ha]; exact h.up a .(0),λa ha=>by rw[hg a ha]; exact h.bd a .(0)⟩;rw[chs,IW];refine⟨_,ux T m _ hd,?_⟩;unfold onC;have hb:=h.bd m .(0)
   have hle:lea m p.dropLast<=p.getD m 0:=by
     unfold lea;by_cases z:0<m
     . rw[if_pos z,gz,hl,hg (m-1) .(0)];have:=h.up (m-1) .(0);rw[show m-1+1=m by omega]at this;omega
     . rw[if_neg z]; exact hb.1
   refine Hu.mpr ⟨(p.getD m 0-lea m p.dropLast).toNat,HN.mpr .(0),?_⟩;rw[J8 .(0)];conv=>rhs; rw[hp]
   congr 2;omega
theorem uf (h:∀i,0<s i):∀k,0<kr s k
 | 0=>by show (0:Rat)<1; decide
 | k+1=>by
   rw[kr];exact LK (uf h k) (h k)
theorem FV {M:List .(123)}(h:k<M.length):(M.map scL).getD k 0=scL (M.getD k []):=by simp[h]
theorem GR (t:Tq m n M)(l1:ls.length=s)(l2:cc.length=s)(b1:∀i,i<s->(ls.getD i 0).toNat<m)(b2:∀i,i<s->(cc.getD i 0).toNat<n):
   ((vD (whM M (M.map scL)) (ls,cc):Int):Rat)=kr (λr=>((scL (M.getD (ls.getD r 0).toNat []):Int):Rat)) s*mi (qM M) s (λr=>(ls.getD r 0).toNat) λj=>(cc.getD j 0).toNat:=by
 rw[E3 (R:=whM M (M.map scL)) l1 l2];unfold mi;rw[<- nE (n:=s) _ (λr c=>qM M (ls.getD r 0).toNat (cc.getD c 0).toNat) s .(3)];refine aF λi hi j hj=>?_
 rw[if_pos hi];have hi':(ls.getD i 0).toNat<M.length:=by rw[t.len]; exact b1 i hi
 have hj':(cc.getD j 0).toNat<(M.getD (ls.getD i 0).toNat []).length:=by rw[t.at_ (b1 i hi)]; exact b2 j hj
 have sc:(M.map scL).getD (ls.getD i 0).toNat 0=scL (M.getD (ls.getD i 0).toNat []):=FV hi';unfold dtM;rw[CC hi' hj',sc,GC ((mq _).2 _ (bH hj')),JK];rfl
theorem Ge {M:List .(123)}{f:Nat->Nat}:∀i,(0:Rat)<((scL (M.getD (f i) []):Int):Rat):=λi=>Mt.mpr (mq _).1
theorem inc_le (h:Inc k ρ):∀i,i<k->i<=ρ i
 | 0,_=>HL _
 | i+1,hi=>by
   have:=inc_le h i .(0);have:=h i hi;omega
theorem uQ (h:Inc k ρ)(b:∀i,i<k->ρ i<m):((ox k).map λi=>((ρ i:Nat):Int))∈chs m k:=by
 have at_:∀i,i<k->((ox k).map λi=>((ρ i:Nat):Int)).getD i 0=(ρ i:Nat):=λi hi=>by simp[hi]
 refine ux m k _ ⟨by simp,λa ha=>?_,λa ha=>?_⟩
 . rw[at_ a .(0),at_ (a+1) ha];have:=h a ha;omega
 . rw[at_ a ha];have:=b a ha;omega
theorem yU (t:Tq m n M)(h:fuO (whM M (M.map scL)) m n 0=none):Tnn m n (qM M):=by
 intro k ρ γ h1 b1 h2 b2;cases k with
 | zero=>show (0:Rat)<=1; decide
 | succ s=>
   have hm:=inc_le h1 s .(0);have hn:=inc_le h2 s .(0);have hm':=b1 s .(0);have hn':=b2 s .(0);have key:=uZ.mp h (_,_) (kN.mpr ⟨s,by omega,uQ h1 b1,uQ h2 b2⟩);have a1:∀i,i<s+1->(((ox (s+1)).map λi=>((ρ i:Nat):Int)).getD i 0).toNat=ρ i:=λi hi=>by simp[hi]
   have a2:∀i,i<s+1->(((ox (s+1)).map λi=>((γ i:Nat):Int)).getD i 0).toNat=γ i:=λi hi=>by simp[hi]
   have e:=GR (s:=s+1) (ls:=(ox (s+1)).map λi=>((ρ i:Nat):Int)) (cc:=(ox (s+1)).map λi=>((γ i:Nat):Int)) t .(4) .(4) (λi hi=>by rw[a1 i hi]; exact b1 i hi) (λi hi=>by rw[a2 i hi]; exact b2 i hi);have key:=Rat.intCast_nonneg.mpr key;rw[e]at key;have em:mi (qM M) (s+1) (λr=>(((ox (s+1)).map λi=>((ρ i:Nat):Int)).getD r 0).toNat) (λj=>(((ox (s+1)).map λi=>((γ i:Nat):Int)).getD j 0).toNat)=mi (qM M) (s+1) ρ γ:=aF λi hi j hj=>(congrArg (λx=>qM M x _) (a1 i hi)).trans (congrArg (qM M (ρ i)) (a2 j hj))
   rw[em]at key;refine Rat.not_lt.mp λneg=>?_
   have p:=uf (Ge (M:=M) (f:=λr=>(((ox (s+1)).map λi=>((ρ i:Nat):Int)).getD r 0).toNat)) (s+1);have:=LK p (show (0:Rat) < - mi (qM M) (s+1) ρ γ by grind);grind
theorem zE (hp:p<k)(h:∀c,c<k->M p c=0):det k M=0:=by
 rw[<- (cf k).yP M hp];refine aF λi hi j hj=>?_
 unfold aB;split
 . rename_i z; rw[z]; exact h j hj
 . rfl
theorem Cj (h:Inc k ρ)(hij:i<j):j<k->ρ i<ρ j:=by
 induction j with
 | zero=>omega
 | succ j ih=>
   intro hj;have:=h j hj;rcases Jo i j with z | z
   . have:=ih z .(0); omega
   . obtain rfl:i=j:=by omega
     exact this
theorem pP (H:Tnn m n A):Tnn s n λi j=>if i<m then A i j else 0:=λk ρ γ h1 h2 h3 h4=>by
 cases k with
 | zero=>show (0:Rat)<=1; decide
 | succ k=>
   by_cases z:ρ k<m
   . have lt:∀i,i<k+1->ρ i<m:=λi hi=>by
       rcases Jo i k with y | y
       . have:=Cj h1 y .(0); omega
       . obtain rfl:i=k:=by omega
         exact z
     have e:mi (λi j=>if i<m then A i j else 0) (k+1) ρ γ=mi A (k+1) ρ γ:=aF λi hi j hj=>if_pos (lt i hi)
     rw[e];exact H (k+1) ρ γ h1 lt h3 h4
   . have e:mi (λi j=>if i<m then A i j else 0) (k+1) ρ γ=0:=zE (p:=k) .(0) λc _=>if_neg z
     rw[e];exact Km
theorem uu (H:Tnn m n A):Tnn s s (cq m n A):=
 (pP (m:=n) (s:=s) (pP (m:=m) (s:=s) H).tr).tr.congr λi _ j _=>by
   unfold cq;by_cases h1:i<m <;> by_cases h2:j<n <;> simp[h1,h2]
def Cm (β σ m n:Nat)(A:Nat->Nat->Rat):Prop:=∃P:Int,0<P/\P.natAbs<=2^σ/\∀i,i<m->∀j,j<n->ZB β ((P:Rat)*A i j)
noncomputable def mB (s β σ:Nat):Nat:=2*(s*(β+3))+σ+5
theorem CF (b:Nat):ZB b 0:=⟨0,rfl,HL _⟩
theorem Cm.pad (h:Cm β σ m n A):Cm β σ s s (cq m n A):=by
 obtain⟨P,p0,p1,p2⟩:=h;refine⟨P,p0,p1,λi _ j _=>?_⟩;unfold cq;split
 . rename_i z; exact p2 i z.1 j z.2
 . rw[Ie]; exact CF β
theorem zg (h7:s<=7)(H:Tnn s s A)(h:Cm β σ s s A):SzA s (mB s β σ) A:=by
 obtain⟨P,p0,p1,p2⟩:=h;have F:FS s 0 (λi j=>(P:Rat)*1*A i j) (λ_=>(P:Rat)) (λ_=>1) A:=FS.start (λ_ _ _ _=>rfl) (λ_=>Mt.mpr p0) (λ_=>by decide);intro k hk;exact((zf H F k .(0)).BV (vk H k .(0)).bl hk).2 _ λg hg=>ye h7 (λi hi j hj=>by rw[JE]; exact p2 i hi j hj) (λ_ _=>⟨P,rfl,p1⟩) hg
theorem Fp (o:Option .(131)):fzD (fuS o)=some (fuD o):=by
 cases o with
 | none=>rfl
 | some p=>
   show some (ndD (.t [rwN p.1,rwN p.2]))=_;unfold rwN fuD;simp only[ndD,kC,pT]
theorem Au :cF X (Gc .IsNot) (fuD o) .non (.bl o.isSome):=⟨_,Aw,λ_ v w H Q _ d1 d2 k=>by
 cases d2
 cases o with
 | none=>cases d1; exact⟨rfl,by rw[decide_eq_true rfl]; exact k _ H .(102) .bl⟩
 | some i=>cases d1; exact⟨rfl,by rw[decide_eq_false (by intro z; cases z)]; exact k _ H .(102) .bl⟩⟩
noncomputable def lcN (T R C:Nat)(ss:List Stp):Nd:=.t [.d (.int T),.d (.int R),.d (.int C),.l ((ss.map stD).map .d)]
noncomputable def sz2 (m n:Nat):Nat:=if n>m then n else m
noncomputable def tkS (m n:Nat)(A:Nat->Nat->Rat):Option .(131)->Sl
 | none=>.n (.t [.d (.str "ladder"),lcN (sz2 m n) m n (apS (sz2 m n) (cq m n A))])
 | some p=>.d (.tup [.str "below",.lst (p.1.map .int),.lst (p.2.map .int)])
def cW (ds:List D)(r:Sl):Prop:=∃(m n d v β σ:Nat) (A:Nat->Nat->Rat),ds=[tbQ (mkT m n A)]/\1<=m/\m<=7/\1<=n/\n<=7/\(∀r∈mkT m n A,∀x∈r,Qs d v x)/\v+(1+n*d)<=1400/\Cm β σ m n A/\4*mB 7 β σ<=900000/\r=tkS m n A (fuO (whM (mkT m n A) ((mkT m n A).map scL)) m n 0)
section
variable {P:FB}{w:World}{K:fw}{mg:Str->Option Value}{base:Heap}{k:Nat}{f:Addr}{fd:GE}{qual:Str}
set_option maxHeartbeats 1000000 in
theorem lH (F:Fun K "taken_apart" qual (top 35) f fd)(hb:∀x∈aD,mg x=none)(c_look_table:Cal P w K mg base k "look_table" fS)(c_first_under:Cal P w K mg base k "first_under" eV)(c_steps_of:Cal P w K mg base k "steps_of" iK)(c_squared:Cal P w K mg base k "squared" jM):a8 P w K mg base CX0 (k+1) f fd ["table"] (spD K cW):=by
 refine fnD F gI hb (by rintro _ _ ⟨_,_,_,_,_,_,_,rfl,_⟩; rfl) ?_;rintro _ _ ⟨m,n,d,v,β,σ,A,rfl,m1,m7,n1,n7,hq,hz,cm,hB,rfl⟩ cdv A' outer s H E b;have nd:=gI.nd;have t:Tq m n (mkT m n A):=oQ m1 m7 n1 n7;refine CQ (x_call b c_look_table .(110) ⟨_,_,_,rfl,t,rfl⟩) ?_;refine aN 1 nd (x_call b c_first_under (ae (aa 0) (ae af ag)) ⟨m,n,d,v,mkT m n A,0,rfl,t,hq,hz,rfl⟩) ?_;refine kz 1 (x:=fuD (fuO (whM (mkT m n A) ((mkT m n A).map scL)) m n 0)) ?_ rfl (Fp _);generalize ho:fuO (whM (mkT m n A) ((mkT m n A).map scL)) m n 0=o;refine dW (a9 (aa 1) tV Au) (λh=>?_) λh=>?_
 . obtain⟨p,rfl⟩:=KU.mp h;exact aW (bI (ae cw (ae (aM (aa 1) af (aQ (aG (i:=0) rfl))) (ae (aM (aa 1) af (aQ (aG (i:=1) rfl))) ag)))) rfl
 obtain rfl:o=none:=by cases o with | none=>rfl | some p=>cases h
 have H0:Tnn m n A:=(yU t ho).congr λi hi j hj=>Cg hi hj
 have sm:m<=sz2 m n/\n<=sz2 m n/\sz2 m n<=7/\1<=sz2 m n:=by unfold sz2; split <;> omega
 have es:(if (n:Int)>(m:Int) then (n:Int) else (m:Int))=((sz2 m n:Nat):Int):=by unfold sz2; split <;> split <;> omega
 have lm:((mkT m n A).map rwQ).length=m:=by rw[bp,dF]
 have ln:(((ox n).map (A 0)).map frD).length=n:=by simp
 have r0:atI ((mkT m n A).map rwQ) 0=some (rwQ ((ox n).map (A 0))):=by
   have:=gx (f:=rwQ) (xs:=mkT m n A) [] (i:=0) (by rw[dF]; exact m1);rw[jc m1]at this;exact this
 have hM:mB (sz2 m n) β σ<=mB 7 β σ:=by
   unfold mB;have:=HU (β+3) sm.2.2.1;omega
 refine aN 2 nd (bh b (ae (bh b .(110) (iQ lm)) (ae (bh b (ae (aM (aa 0) af (a6 r0)) ag) (iQ ln)) ag)) (BC b.calm)) ?_;rw[es];generalize hs:sz2 m n=s2 at *
 refine aW (sX (gU cw rfl (gU (sX (gU (aa 2) rfl (gU (bh b .(110) (iQ lm)) rfl (gU (bh b (ae (aM (aa 0) af (a6 r0)) ag) (iQ ln)) rfl (gU (s:=.o ((apS s2 (cq m n A)).map stD)) (x_call b c_steps_of (ae (bE (x_call b c_squared (ae (aa 0) (ae (aa 2) ag)) ⟨m,n,s2,A,rfl,sm.1,sm.2.1,sm.2.2.1,rfl⟩)) ag) ⟨s2,mB s2 β σ,cq m n A,rfl,sm.2.2.2,sm.2.2.1,zg sm.2.2.1 (uu H0) cm.pad,by omega,rfl⟩) rfl xX))))) rfl xX))) ?_;show _=Sl.n _;rw[hs];rfl
end
def dh (ds:List D)(r:Sl):Prop:=∃a b:Int,ds=[.int a,.int b]/\r=.d (.int (IE a b:Int))
def fA (ds:List D)(r:Sl):Prop:=∃(t b:Int) (q:Rat),ds=[.int t,.int b]/\0<b/\(t:Rat)=q*(b:Rat)/\r=.d (frD q)
def lB (ds:List D)(r:Sl):Prop:=∃(ns:List Int) (k:Nat),ds=[.lst (ns.map .int),.int k]/\r=.d (.int (ns.getD k 0))
def o8 (ds:List D)(r:Sl):Prop:=∃n:Nat,ds=[.int n]/\n<=1000/\r=.d (.int (10^n))
noncomputable def whw (x:D):Bool:=mT .int x&&!mT .bool x
def ie (ds:List D)(r:Sl):Prop:=∃x,ds=[x]/\r=.d (.bl (whw x))
def jI (ds:List D)(r:Sl):Prop:=∃(m n:Nat) (p q:Rat),ds=[frD p,frD q]/\Sq m p/\Sq n q/\(m<=1000000/\n<=1000000)/\r=.d (frD (p*q))
def lN (ds:List D)(r:Sl):Prop:=∃(m n:Nat) (p q:Rat),ds=[frD p,frD q]/\Sq m p/\Sq n q/\(m<=1000000/\n<=1000000)/\r=.d (frD (p+q))
theorem Qs.of {t b:Int}(hb:0<b)(h:(t:Rat)=q*(b:Rat))(hd:Bd d b)(hv:t.natAbs<=2^v):Qs d v q:=by
 obtain⟨e1,e2⟩:=bU hb h;refine⟨by rw[e2]; exact hd.ediv _,?_⟩;have g:=Mm (a:=t) (b:=b);have h1:q.num.natAbs<=t.natAbs:=by rw[e1]; exact ME ..
 exact HJ h1 (HJ hv (MR _ q.den_pos))
noncomputable def nmT (kd:Nat)(p:Int):Int:=if kd=1 then p.fmod 5-2 else if kd=3 then (p.fdiv 2).fmod (10^40)*(1-2*p.fmod 2) else if kd=2 then p.fmod 10 else p.fmod 19-9
noncomputable def nmB (kd:Nat)(p:Int):Int:=if kd=1 then 1 else if kd=3 then 1+(p.fdiv (2*10^40)).fmod (10^40-1) else if kd=2 then 1+(p.fdiv 10).fmod 6 else 1+(p.fdiv 19).fmod 6
noncomputable def nmQ (kd:Nat)(p:Int):Rat:=if kd=1 then ((p.fmod 5-2:Int):Rat) else ((nmT kd p:Int):Rat)/((nmB kd p:Int):Rat)
noncomputable def kD (kd:Nat):Nat:=if kd=3 then 133 else 3
noncomputable def kV (kd:Nat):Nat:=if kd=3 then 133 else 4
theorem fmn {a b:Int}(h:0<b):0<=a.fmod b/\a.fmod b<b:=⟨Kl a h,K0 a h⟩
theorem n9 (p:Int):0<nmB kd p/\Bd (kD kd) (nmB kd p):=by
 unfold nmB kD;by_cases h1:kd=1
 . rw[if_pos h1,if_neg .(0)]; exact⟨by decide,by unfold Bd; decide⟩
 . rw[if_neg h1];by_cases h3:kd=3
   . rw[if_pos h3,if_pos h3];have:=fmn (a:=p.fdiv (2*10^40)) (b:=10^40-1) .(2);refine⟨by omega,?_⟩;unfold Bd;have:(10:Int)^40<2^133:=by decide
     have e:((2^133:Nat):Int)=2^133:=by decide
     omega
   . rw[if_neg h3,if_neg h3];by_cases h2:kd=2
     . rw[if_pos h2];have:=fmn (a:=p.fdiv 10) (b:=6) .(2);exact⟨by omega,by unfold Bd; omega⟩
     . rw[if_neg h2];have:=fmn (a:=p.fdiv 19) (b:=6) .(2);exact⟨by omega,by unfold Bd; omega⟩
theorem CS (p:Int):(nmT kd p).natAbs<=2^kV kd:=by
 unfold nmT kV;by_cases h1:kd=1
 . rw[if_pos h1,if_neg .(0)];have:=fmn (a:=p) (b:=5) .(2);omega
 . rw[if_neg h1];by_cases h3:kd=3
   . rw[if_pos h3,if_pos h3];have h4:=fmn (a:=p.fdiv 2) (b:=10^40) .(2);have h5:=fmn (a:=p) (b:=2) .(2);have:(10:Int)^40<2^133:=by decide
     have e:((2^133:Nat):Int)=2^133:=by decide
     rw[Jd,show (1-2*p.fmod 2).natAbs=1 by omega,Nat.mul_one];omega
   . rw[if_neg h3,if_neg h3];by_cases h2:kd=2
     . rw[if_pos h2];have:=fmn (a:=p) (b:=10) .(2);omega
     . rw[if_neg h2];have:=fmn (a:=p) (b:=19) .(2);omega
theorem sS (p:Int):((nmT kd p:Int):Rat)=nmQ kd p*((nmB kd p:Int):Rat):=by
 unfold nmQ;by_cases h1:kd=1
 . rw[if_pos h1];unfold nmT nmB;rw[if_pos h1,if_pos h1];exact(JE _).symm
 . rw[if_neg h1];exact(Jq (yT (n9 p).1)).symm
theorem BK (p:Int):Qs (kD kd) (kV kd) (nmQ kd p):=Qs.of (n9 p).1 (sS p) (n9 p).2 (CS p)
def iE (ds:List D)(r:Sl):Prop:=∃(kd:Nat) (p:Int),ds=[.int (kd:Nat),.int p]/\kd<4/\r=.d (frD (nmQ kd p))
theorem Hh:aL ((2:Int)*10^40):=(show Bd 140 ((2:Int)*10^40) by unfold Bd; decide).aL .(2) .(2)
section
variable {P:FB}{w:World}{K:fw}{mg:Str->Option Value}{base:Heap}{k:Nat}{f:Addr}{fd:GE}{qual:Str}
theorem pf (F:Fun K "_law_divisor" qual (top 45) f fd)(hb:∀x∈aD,mg x=none):a8 P w K mg base CX0 (k+1) f fd ["_law_one","_law_other"] (spD K dh):=by
 refine fnD F jg hb (by rintro _ _ ⟨_,_,rfl,_⟩; rfl) ?_;rintro _ _ ⟨x,y,rfl,rfl⟩ cdv A outer s H E b;have nd:=jg.nd;refine aN 0 nd (bh b .(110) rh) (aN 1 nd (bh b (ae (aa 1) ag) rh) ?_);rw[jl,jl];refine vn (λn t τ=>∃(g:Nat) (s2:Sl),Nat.gcd g n=IE x y/\t=(decide ((0:Int)<n))/\τ=[.d (.int g),.d (.int n),s2]) b ⟨_,_,_,_,rfl,rfl,rfl⟩ (λn t τ h=>?_) (λn τ h=>?_) λn τ h=>?_
 . obtain⟨g,s2,_,rfl,rfl⟩:=h;exact a9 (aa 1) af xk
 . obtain⟨g,s2,hg,ht,rfl⟩:=h;have hl:n≠0:=λz=>by simp[z]at ht
   have e:(g:Int).fmod n=((g%n:Nat):Int):=by rw[JB _ .(0)]; rfl
   refine aN 2 nd (aI (aa 0) (aa 1) (bW .(0))) ?_;rw[e];refine aN 0 nd (aa 1) (aN 1 nd (aa 2) (aV ⟨g%n,_,Nat.mod_lt g (Nat.pos_of_ne_zero hl),n,_,?_,rfl,rfl⟩));rw[<- hg,LG n,<- Nat.gcd_rec,LG]
 . obtain⟨g,s2,hg,ht,rfl⟩:=h;have hl:n=0:=by have:=of_decide_eq_false ht.symm; omega
   refine aW (aa 0) ?_;rw[<- hg,hl,Nat.gcd_zero_right]
theorem vT (F:Fun K "_law_made" qual (top 46) f fd)(hb:∀x∈aD,mg x=none)(pyl:Pyl P base)(hk:33<=k)(c_l_divisor:Cal P w K mg base k "_law_divisor" dh):a8 P w K mg base CX0 (k+1) f fd ["_law_top","_law_bottom"] (spD K fA):=by
 refine fnD F nr hb (by rintro _ _ ⟨_,_,_,rfl,_⟩; rfl) ?_;rintro _ _ ⟨t,c,q,rfl,h0,hq,rfl⟩ cdv A outer s H E b;have nd:=nr.nd;have dv:(IE t c:Int)≠0:=eY .(0);obtain⟨e1,e2⟩:=bU h0 hq;refine aN 2 nd (x_call b c_l_divisor (ae (aa 0) (ae (aa 1) ag)) ⟨_,_,rfl,rfl⟩) (aW (bI (ae (aI (aa 0) (aa 2) (cj pyl b hk dv)) (ae (aI (aa 1) (aa 2) (cj pyl b hk dv)) ag))) ?_);rw[bb,bb,<- e1,<- e2];rfl
theorem wI (F:Fun K "_law_cell" qual (top 43) f fd)(hb:∀x∈aD,mg x=none):a8 P w K mg base CX0 (k+1) f fd ["_law_script","_law_k"] (spD K lB):=by
 refine fnD F vP hb (by rintro _ _ ⟨_,_,rfl,_⟩; rfl) ?_;rintro _ _ ⟨ns,n,rfl,rfl⟩ cdv A outer s H E b;refine dW (a9 (aa 1) (bh b .(110) gy) vV) (λh=>?_) λh=>?_
 . have h:=of_decide_eq_true h;rw[bp]at h;exact aW (aM (aa 0) (aa 1) (a6 (sC .(0) .(0)))) rfl
 . have h:=of_decide_eq_false h;rw[bp]at h;refine aW af ?_;show Sl.d (.int 0)=_;rw[getD_none .(0)]
theorem yE (F:Fun K "_law_ten" qual (top 42) f fd)(hb:∀x∈aD,mg x=none):a8 P w K mg base CX0 (k+1) f fd ["_law_many"] (spD K o8):=by
 refine fnD F p9 hb (by rintro _ _ ⟨_,rfl,_⟩; rfl) ?_;rintro _ _ ⟨n,rfl,hn,rfl⟩ cdv A outer s H E b;have nd:=p9.nd;refine aN 1 nd af ?_;refine bP 2 (λi τ=>∃s2,τ=[.d (.int n),.d (.int (10^i)),s2]) b nd (fH b (aa 0) .(0) .(0)) ft ⟨_,rfl⟩ (λi hi τ h=>?_) λτ h=>?_
 . obtain⟨s2,rfl⟩:=h;refine aN 1 nd (aI af (aa 1) (bK (mkL .(2)))) (aV ⟨.d (.int (i:Nat)),?_⟩);rw[Int.pow_succ,Int.mul_comm];rfl
 . obtain⟨s2,rfl⟩:=h;refine aW (aa 1) ?_;rw[aP,HC]
theorem sG (F:Fun K "_law_whole" qual (top 48) f fd)(hb:∀x∈aD,mg x=none):a8 P w K mg base CX0 (k+1) f fd ["_law_thing"] (spD K ie):=by
 refine fnD F sL hb (by rintro _ _ ⟨_,rfl,_⟩; rfl) ?_;rintro _ _ ⟨x,rfl,rfl⟩ cdv A outer s H E b;exact aW (km (fE .int b (aa 0)) λh=>(mj (BG (fE .bool b (aa 0))))) rfl
theorem r6 (F:Fun K "_law_times" qual (top 53) f fd)(hb:∀x∈aD,mg x=none)(c_l_made:Cal P w K mg base k "_law_made" fA):a8 P w K mg base CX0 (k+1) f fd ["_law_one","_law_other"] (spD K jI):=by
 refine fnD F tD hb (by rintro _ _ ⟨_,_,_,_,rfl,_⟩; rfl) ?_;rintro _ _ ⟨m,n,p,q,rfl,h1,h2,⟨hm,hn⟩,rfl⟩ cdv A outer s H E b;exact aW (x_call b c_l_made (ae (aI (aM (aa 0) af (aQ (aG (i:=0) rfl))) (aM (aa 1) af (aQ (aG (i:=0) rfl))) (bK (h1.num.aH h2.num hm hn))) (ae (aI (aM (aa 0) af (aQ (aG (i:=1) rfl))) (aM (aa 1) af (aQ (aG (i:=1) rfl))) (bK (h1.den.aH h2.den hm hn))) ag)) ⟨_,_,_,rfl,pH (den_pos p) (den_pos q),qx p q,rfl⟩) rfl
theorem wa (F:Fun K "_law_plus" qual (top 52) f fd)(hb:∀x∈aD,mg x=none)(c_l_made:Cal P w K mg base k "_law_made" fA):a8 P w K mg base CX0 (k+1) f fd ["_law_one","_law_other"] (spD K lN):=by
 refine fnD F vY hb (by rintro _ _ ⟨_,_,_,_,rfl,_⟩; rfl) ?_;rintro _ _ ⟨m,n,p,q,rfl,h1,h2,⟨hm,hn⟩,rfl⟩ cdv A outer s H E b;exact aW (x_call b c_l_made (ae (aI (aI (aM (aa 0) af (aQ (aG (i:=0) rfl))) (aM (aa 1) af (aQ (aG (i:=1) rfl))) (bK (h1.num.aH h2.den hm hn))) (aI (aM (aa 1) af (aQ (aG (i:=0) rfl))) (aM (aa 0) af (aQ (aG (i:=1) rfl))) (bK (h2.num.aH h1.den hn hm))) ck) (ae (aI (aM (aa 0) af (aQ (aG (i:=1) rfl))) (aM (aa 1) af (aQ (aG (i:=1) rfl))) (bK (h1.den.aH h2.den hm hn))) ag)) ⟨_,_,_,rfl,pH (den_pos p) (den_pos q),wR p q,rfl⟩) rfl
theorem qc (F:Fun K "_law_number" qual (top 47) f fd)(hb:∀x∈aD,mg x=none)(c_l_made:Cal P w K mg base k "_law_made" fA):a8 P w K mg base CX0 (k+1) f fd ["_law_kind","_law_part"] (spD K iE):=by
 refine fnD F ki hb (by rintro _ _ ⟨_,_,rfl,_⟩; rfl) ?_;rintro _ _ ⟨kd,p,rfl,h4,rfl⟩ cdv A outer s H E b;have nd:=ki.nd;obtain⟨b0,b1⟩:=n9 (kd:=kd) p;have b2:Bd 8999 (nmB kd p):=b1.mono (by unfold kD; split <;> decide);have hm:=sS (kd:=kd) p;refine dW (a9 (aa 0) af gB) (λh=>?_) λh=>?_
 . have h1:kd=1:=by have:=of_decide_eq_true h; omega
   refine aW (bI (ae (aI (aI (aa 1) af (bW .(2))) af bO) (ae af ag))) ?_;unfold nmQ;rw[if_pos h1];rfl
 have n1:¬kd=1:=by have:=of_decide_eq_false h; omega
 refine dW (a9 (aa 0) af gB) (λh=>?_) λh=>?_
 . have h3:kd=3:=by have:=of_decide_eq_true h; omega
   have eT:nmT kd p=(p.fdiv 2).fmod (10^40)*(1-2*p.fmod 2):=by unfold nmT; rw[if_neg n1,if_pos h3]
   have eB:nmB kd p=1+(p.fdiv (2*10^40)).fmod (10^40-1):=by unfold nmB; rw[if_neg n1,if_pos h3]
   rw[eT]at hm;rw[eB]at hm b0 b2;refine aN 2 nd (aI (aI (aI (aa 1) af (di (mkD .(2) .(2)))) (aI af af (qL .(12))) (bW .(2))) (aI af (aI af (aI (aa 1) af (bW .(2))) (bK (mkL .(2)))) bO) (bK (mkR ?_))) ?_
   . have:=fmn (a:=p) (b:=2) .(2); omega
   exact aW (x_call b c_l_made (ae (aa 2) (ae (aI af (aI (aI (aa 1) (aI af (aI af af (qL .(12))) (bK (mkL .(2)))) (di Hh)) (aI (aI af af (qL .(12))) af bO) (bW .(2))) ck) ag)) ⟨_,_,nmQ kd p,rfl,b0,hm,rfl⟩) rfl
 have n3:¬kd=3:=by have:=of_decide_eq_false h; omega
 refine dW (a9 (aa 0) af gB) (λh=>?_) λh=>?_
 . have h2:kd=2:=by have:=of_decide_eq_true h; omega
   have eT:nmT kd p=p.fmod 10:=by unfold nmT; rw[if_neg n1,if_neg n3,if_pos h2]
   have eB:nmB kd p=1+(p.fdiv 10).fmod 6:=by unfold nmB; rw[if_neg n1,if_neg n3,if_pos h2]
   rw[eT]at hm;rw[eB]at hm b0 b2;exact aW (x_call b c_l_made (ae (aI (aa 1) af (bW .(2))) (ae (aI af (aI (aI (aa 1) af (di (mkD .(2) .(2)))) af (bW .(2))) ck) ag)) ⟨_,_,nmQ kd p,rfl,b0,hm,rfl⟩) rfl
 . have n2:¬kd=2:=by have:=of_decide_eq_false h; omega
   have eT:nmT kd p=p.fmod 19-9:=by unfold nmT; rw[if_neg n1,if_neg n3,if_neg n2]
   have eB:nmB kd p=1+(p.fdiv 19).fmod 6:=by unfold nmB; rw[if_neg n1,if_neg n3,if_neg n2]
   rw[eT]at hm;rw[eB]at hm b0 b2;exact aW (x_call b c_l_made (ae (aI (aI (aa 1) af (bW .(2))) af bO) (ae (aI af (aI (aI (aa 1) af (di (mkD .(2) .(2)))) af (bW .(2))) ck) ag)) ⟨_,_,nmQ kd p,rfl,b0,hm,rfl⟩) rfl
end
noncomputable def rB (T R C:Nat)(ss:List Stp):D:=.tup [.int T,.int R,.int C,.lst (ss.map stD)]
structure okL (T R C:Nat)(ss:List Stp):Prop where
 t1:1<=T
 t7:T<=7
 r1:1<=R
 rT:R<=T
 c1:1<=C
 cT:C<=T
 len:ss.length<=400
 st:∀i,i<ss.length->okS T (ss.getD i ("weigh",0,0))
theorem Hm {ss:List Stp}(i:Nat)(h:i<(ss.map stD).length):(ss.map stD)[i]=stD (ss.getD i ("weigh",0,0)):=by
 have:i<ss.length:=by simpa using h
 simp[this]
theorem gS {α:Type}(f:Nat->α)(h:i<n)(d:α):((ox n).map f).getD i d=f i:=by simp[h]
noncomputable def wgT (p:Int)(g:Nat):Int:=if 0<g then p.fmod (10^g) else p.fmod 7
noncomputable def wgB (p:Int)(g:Nat):Int:=if 0<g then 1+(p.fdiv (10^g)).fmod (10^g-1) else 1+(p.fdiv 7).fmod 4
noncomputable def wgt (p:Int)(g:Nat):Rat:=(wgT p g:Rat)/(wgB p g:Rat)
def i4 (ds:List D)(r:Sl):Prop:=∃(p:Int) (g:Nat),ds=[.int p,.int g]/\g<=40/\r=.d (frD (wgt p g))
theorem fm {a b:Int}(h:0<b):0<=a.fmod b/\a.fmod b<b:=⟨Kl a h,K0 a h⟩
theorem ze (h:g<=40):(10:Int)^g<2^140:=by
 have h1:(10:Nat)^g<=10^40:=HS .(2) h;have h2:(10:Nat)^40<2^140:=by decide
 have:((10^g:Nat):Int)<((2^140:Nat):Int):=Int.ofNat_lt.mpr (HX h1 h2);simpa using this
theorem uA (h:0<g):(10:Int)<=10^g:=by
 have h1:(10:Nat)^1<=10^g:=HS .(2) h;have:((10^1:Nat):Int)<=((10^g:Nat):Int):=Int.ofNat_le.mpr h1;simpa using this
theorem pQ (h0:0<=x)(h:x<2^140):Bd 140 x:=by
 unfold Bd;have:(x.natAbs:Int)<((2^140:Nat):Int):=by rw[Int.natAbs_of_nonneg h0]; simpa using h
 exact Int.ofNat_lt.mp this
theorem uP (p:Int)(h:g<=40):0<=wgT p g/\Bd 140 (wgT p g)/\0<wgB p g/\Bd 140 (wgB p g):=by
 unfold wgT wgB;by_cases h0:0<g
 . have h1:=ze h;have h2:=uA h0;have f1:=fm (a:=p) (b:=10^g) ((by omega +splitMinMax));have f2:=fm (a:=p.fdiv (10^g)) (b:=10^g-1) ((by omega +splitMinMax));rw[if_pos h0,if_pos h0];exact⟨f1.1,pQ f1.1 ((by omega +splitMinMax)),by omega +splitMinMax,pQ ((by omega +splitMinMax)) ((by omega +splitMinMax))⟩
 . have f1:=fm (a:=p) (b:=7) .(2);have f2:=fm (a:=p.fdiv 7) (b:=4) .(2);rw[if_neg h0,if_neg h0];exact⟨f1.1,pQ f1.1 .(0),by omega,pQ .(0) .(0)⟩
theorem kL (p:Int)(h:g<=40):(wgT p g:Rat)=wgt p g*(wgB p g:Rat):=(Jq (yT (uP p h).2.2.1)).symm
theorem yk (p:Int)(h:g<=40):0<=(wgt p g).num/\Sq 140 (wgt p g):=by
 obtain⟨h1,h2,h3,h4⟩:=uP p h;refine⟨?_,Sq.bU h3 (kL p h) h2 h4⟩;rw[(bU h3 (kL p h)).1];exact Int.ediv_nonneg h1 .(26)
section
variable {P:FB}{w:World}{K:fw}{mg:Str->Option Value}{base:Heap}{k:Nat}{f:Addr}{fd:GE}{qual:Str}
theorem qv (F:Fun K "_law_weight" qual (top 51) f fd)(hb:∀x∈aD,mg x=none)(c_l_made:Cal P w K mg base k "_law_made" fA)(c_l_ten:Cal P w K mg base k "_law_ten" o8):a8 P w K mg base CX0 (k+1) f fd ["_law_part","_law_figures"] (spD K i4):=by
 refine fnD F kf hb (by rintro _ _ ⟨_,_,rfl,_⟩; rfl) ?_;rintro _ _ ⟨p,g,rfl,hg,rfl⟩ cdv A outer s H E b;have nd:=kf.nd;obtain⟨h1,h2,h3,h4⟩:=uP p hg;have hm:=kL p hg;refine dW (a9 (aa 1) af xk) (λh=>?_) λh=>?_
 . have h0:0<g:=by have:=of_decide_eq_true h; omega
   have t2:=uA h0;have eT:wgT p g=p.fmod (10^g):=if_pos h0;have eB:wgB p g=1+(p.fdiv (10^g)).fmod (10^g-1):=if_pos h0;have dv:aL ((10:Int)^g):=(pQ .(0) (ze hg)).aL .(0) .(2);refine aN 2 nd (x_call b c_l_ten (ae (aa 1) ag) ⟨g,rfl,by omega,rfl⟩) ?_;exact aW (x_call b c_l_made (ae (aI (aa 0) (aa 2) (bW .(0))) (ae (aI af (aI (aI (aa 0) (aa 2) (di dv)) (aI (aa 2) af bO) (bW .(0))) ck) ag)) ⟨wgT p g,wgB p g,wgt p g,by rw[eT,eB],h3,hm,rfl⟩) rfl
 . have h0:g=0:=by have:=of_decide_eq_false h; omega
   subst h0;exact aW (x_call b c_l_made (ae (aI (aa 0) af (bW .(2))) (ae (aI af (aI (aI (aa 0) af (di (mkD .(2) .(2)))) af (bW .(2))) ck) ag)) ⟨wgT p 0,wgB p 0,wgt p 0,rfl,h3,hm,rfl⟩) rfl
end
theorem FI {st:Stp}(h:okS T st)(h0:st.1 ≠ "weigh"):rgS st<T/\rgE st<T/\rgS st≠rgE st:=by
 obtain⟨_,h | h⟩:=h
 . exact absurd h.1 h0
 . have:=h.2;unfold rgS rgE;split <;> omega
theorem Hg {a b:Int}(h:0<a*b)(ha:0<a):0<b:=by
 rcases Int.lt_or_le 0 b with z | z
 . exact z
 . have:=Int.mul_le_mul_of_nonneg_left z (Int.le_of_lt ha);rw[Int.mul_zero]at this;omega
def Zq (P:Int)(n:Nat)(v:Rat):Prop:=∃z:Int,0<=z/\z<=2^n/\(z:Rat)=v*(P:Rat)
structure Wq (e:Nat)(q:Rat):Prop where
 n0:0<=q.num
 sq:Sq e q
theorem p2 (m n:Nat):(2:Int)^(m+n)=2^m*2^n:=Int.pow_add ..
theorem p0 (n:Nat):(0:Int)<=2^n:=by
 have e:((2^n:Nat):Int)=(2:Int)^n:=LI ..;rw[<- e];exact KZ _
theorem bd2 (h:Bd n i):i<=2^n:=by
 have h:i.natAbs<2^n:=h;have e:((2^n:Nat):Int)=(2:Int)^n:=LI ..;omega
theorem Zq.mul (h:Zq P n v)(g:Wq e q):Zq (P*((q.den:Nat):Int)) (n+e) (q*v):=by
 obtain⟨z,h0,h1,h2⟩:=h;refine⟨z*q.num,Int.mul_nonneg h0 g.n0,?_,?_⟩
 . rw[p2]; exact MF h1 (bd2 g.sq.num) g.n0 (p0 n)
 . have:=dH q;rw[HW,HW]; grind
theorem Zq.up (h:Zq P n v)(g:Wq e q):Zq (P*((q.den:Nat):Int)) (n+e) v:=by
 obtain⟨z,h0,h1,h2⟩:=h;have:=den_pos q;refine⟨z*((q.den:Nat):Int),Int.mul_nonneg h0 .(0),?_,?_⟩
 . rw[p2]; exact MF h1 (bd2 g.sq.den) .(0) (p0 n)
 . rw[HW,HW]; grind
theorem Zq.add (h:Zq P n v)(g:Zq P n w):Zq P (n+1) (v+w):=by
 obtain⟨z,h0,h1,h2⟩:=h;obtain⟨y,g0,g1,g2⟩:=g;refine⟨z+y,by omega,by rw[p2]; omega,?_⟩;rw[Kg]; grind
theorem Zq.mono (h:Zq P m v)(g:m<=n):Zq P n v:=by
 obtain⟨z,h0,h1,h2⟩:=h;refine⟨z,h0,Int.le_trans h1 ?_,h2⟩
 exact_mod_cast HS (n:=2) .(2) g
theorem yQ (h0:0<=i)(h:i<=2^n):Bd (n+1) i:=by
 unfold Bd;have e:((2^n:Nat):Int)=(2:Int)^n:=LI ..;have:=LD (n:=2) (m:=n);have:=IU n;omega
theorem Zq.sq (h:Zq P n v)(hP:0<P)(g:P<=2^m)(hm:m<=n):Sq (n+1) v:=by
 obtain⟨z,h0,h1,h2⟩:=h;exact Sq.bU hP h2 (yQ h0 h1) ((yQ .(0) g).mono .(0))
noncomputable def cY (C T:Nat)(L:Nat->Nat->Rat):List D:=(ox T).map λk=>.lst (((ox C).map (L k)).map frD)
theorem pI (h:n<T):(cY C T L).set n (.lst (((ox C).map r).map frD))=cY C T (gr L n r):=by
 refine IX (by simp[cY]) λk h1 h2=>?_
 have hk:k<T:=by simpa[cY]using h2
 rw[List.getElem_set];unfold cY gr;by_cases e:n=k
 . subst e; simp
 . rw[if_neg e]; simp[ID e]
theorem l6 (h:n<T):atI (cY C T L) (n:Int)=some (.lst (((ox C).map (L n)).map frD)):=aG (by simp[cY,h])
theorem AB (h:R<=T):cutD (cY C T L) none (some (R:Int))=cY C R L:=by
 rw[yj];unfold cY;rw[<- Lb,List.take_range,KJ h]
theorem B8 {t u:List Rat}(i:Nat)(h:i<(ij (t.map frD) (u.map frD)).length):(ij (t.map frD) (u.map frD))[i]=.tup [frD (t.getD i 0),frD (u.getD i 0)]:=by
 rw[pA];rw[b6,bp,bp]at h;simp[show i<t.length by omega,show i<u.length by omega]
structure BkJ (T C S t:Nat)(P:Int)(L:Nat->Nat->Rat):Prop where
 pos:0<P
 le:P<=2^S
 zq:∀k,k<T->∀j,j<C->Zq P (S+t) (L k j)
theorem BkJ.start :BkJ T C 0 0 1 V0:=⟨by decide,by simp,λk hk j hj=>by
 unfold V0;split
 . exact⟨1,by decide,by simp,(IC _).symm⟩
 . exact⟨0,by decide,by simp,(Iq _).symm⟩⟩
theorem BkJ.put (h:BkJ T C S t P L)(g:Wq e q)(hz:∀j,j<C->Zq (P*((q.den:Nat):Int)) (S+e+(t+1)) (r j)):BkJ T C (S+e) (t+1) (P*((q.den:Nat):Int)) (gr L n r):=by
 refine⟨Mx h.pos (den_pos q),?_,λk hk j hj=>?_⟩
 . rw[p2];exact MF h.le (bd2 g.sq.den) (by have:=den_pos q; omega) (p0 _)
 . unfold gr;split
   . exact hz j hj
   . exact((h.zq k hk j hj).up g).mono .(0)
theorem BkJ.sq (h:BkJ T C S t P L)(hk:k<T)(hj:j<C):Sq (S+t+1) (L k j):=(h.zq k hk j hj).sq h.pos h.le .(0)
theorem BkJ.step {st:Stp}(h:BkJ T C S t P L)(g:Wq e st.2.2)(ok:okS T st):BkJ T C (S+e) (t+1) (P*((st.2.2.den:Nat):Int)) (bkV L st):=by
 unfold bkV;by_cases e0:st.1 = "weigh"
 . rw[if_pos e0]
   have hn:st.2.1<T:=by
     rcases ok.2 with z | z
     . exact z.2
     . have:=z.2; omega
   exact h.put g λj hj=>((h.zq _ hn j hj).mul g).mono .(0)
 . rw[if_neg e0];obtain⟨h1,h2,h3⟩:=FI ok e0;exact h.put g λj hj=>(((h.zq _ h1 j hj).up g).add ((h.zq _ h2 j hj).mul ⟨g.n0,g.sq⟩ |>.mono .(0))).mono .(0)
noncomputable def bF (E:Stp->Nat)(ss:List Stp):Nat:=(ss.map E).sum
theorem vN (E:Stp->Nat)(ss:List Stp)(i:Nat):bF E (ss.take i)<=bF E ss:=by
 conv=>rhs; rw[<- Lw i ss]
 unfold bF;rw[HB,List.sum_append];omega
theorem lK (E:Stp->Nat)(ss:List Stp):bF E ss.reverse=bF E ss:=by
 unfold bF;rw[List.map_reverse,List.sum_reverse]
theorem cZ (E:Stp->Nat)(xs ys:List Stp):bF E (xs++ys)=bF E xs+bF E ys:=by
 unfold bF;rw[HB,List.sum_append]
theorem GH {r:List Rat}(i:Nat)(h:i<(r.map frD).length):(r.map frD)[i]=frD (r.getD i 0):=by
 have:i<r.length:=by simpa using h
 simp[this]
theorem gY :(ij (((ox C).map r).map frD) (((ox C).map u).map frD)).length=C:=by rw[b6]; simp
theorem sh (hm:m=C)(r:Nat->Rat):((ox m).map λj=>frD (r j))=((ox C).map r).map frD:=by
 subst hm;rw[Ik];rfl
theorem E1 {ss:List Stp}(i:Nat)(h:i<(ss.map stD).reverse.length):(ss.map stD).reverse[i]=stD .(121):=by
 have:i<ss.length:=by simpa using h
 simp[this]
def bZ (ds:List D)(r:Sl):Prop:=∃(E:Stp->Nat) (T R C:Nat) (ss:List Stp),ds=[rB T R C ss]/\okL T R C ss/\(∀st∈ss,Wq (E st) st.2.2)/\bF E ss+ss.length<=990000/\r=.o (cY C R (bwd ss))
section
variable {P:FB}{w:World}{K:fw}{mg:Str->Option Value}{base:Heap}{k:Nat}{f:Addr}{fd:GE}{qual:Str}
set_option maxHeartbeats 1000000 in
theorem iM (F:Fun K "_law_ladders_table" qual (top 54) f fd)(hb:∀x∈aD,mg x=none)(c_l_times:Cal P w K mg base k "_law_times" jI)(c_l_plus:Cal P w K mg base k "_law_plus" lN):a8 P w K mg base CX0 (k+1) f fd ["_law_ladder"] (spD K bZ):=by
 refine fnD F dN hb (by rintro _ _ ⟨_,_,_,_,_,rfl,_⟩; rfl) ?_;rintro _ _ ⟨EE,T,R,C,ss,rfl,h00,hw,hn,rfl⟩ cdv A outer s H E b;have nd:=dN.nd;have hT:=h00.t7;have hRT:=h00.rT;have hCT:=h00.cT;refine C0 (aa 0) (Ca b.calm (fW 1 nd (fW 2 nd (fW 3 nd (fW 4 nd zo))))) ?_;refine lL 5 nd (cmp 0 (f:=λk=>.lst ((ox (i6 0 (C:Int).toNat).length).map λj=>frD (V0 k j))) b (fH b (aa 1) .(0) .(0)) ft (by rw[aP]; omega) λk hk s0 H0 fp=>bE (fR (cmp 0 (f:=λj=>frD (V0 k j)) .(109) (fH .(109) (aa 1) .(0) .(0)) ft (by rw[aP]; omega) λj hj s1 H1 fq=>?_))) (.inl rfl) ?_
 . have ev:frD (V0 k j)=.tup [.int (if decide ((j:Int)=(k:Int)) then 1 else 0),.int 1]:=by
     unfold V0;by_cases z:j=k
     . rw[if_pos z,decide_eq_true .(0)]; rfl
     . rw[if_neg z,decide_eq_false .(0)]; rfl
   rw[ev];exact bI (ae (rF (.(109).comp s1 H1 _ fq) (ae (iD (aa 0) (aa 1) gB) ag) B1) (ae af ag))
 have el:((ox (i6 0 (T:Int).toNat).length).map λk=>D.lst ((ox (i6 0 (C:Int).toNat).length).map λj=>frD (V0 k j)))=cY C T V0:=by
   rw[aP,aP,HC,HC];unfold cY;exact HZ λk _=>by rw[Ik]; rfl
 rw[el];have rl:(ss.map stD).reverse.length=ss.length:=by simp
 refine D0 (λi τ=>∃P s6 s7 s8,BkJ T C (bF EE (ss.reverse.take i)) i P ((ss.reverse.take i).foldl bkV V0)/\τ=[.d (rB T R C ss),.d (.int T),.d (.int R),.d (.int C),.d (.lst (ss.map stD)),.o (cY C T ((ss.reverse.take i).foldl bkV V0)),s6,s7,s8])
   (λi τ=>((τ.set 6 (.d (.str .(121).1))).set 7 (.d (.int (.(121).2.1:Nat)))).set 8 (.d (frD .(121).2.2))) b (BJ b (aa 4)) (λi hi τ _=>by rw[E1 i hi]; exact Ca b.calm (fW 6 nd (fW 7 nd (fW 8 nd zo)))) ⟨1,.un,.un,.un,BkJ.start,rfl⟩ (λi hi τ h=>?_) λτ h=>?_
 . obtain⟨P,s6,s7,s8,I,rfl⟩:=h;have hi:i<ss.length:=by rw[rl]at hi; exact hi
   have ei:ss.reverse.getD i ("weigh",0,0)=ss.getD (ss.length-1-i) ("weigh",0,0):=by simp[K8,List.getElem?_reverse hi]
   have g:Wq (EE .(121)) .(121).2.2:=by rw[ei]; exact hw _ (by simp[show ss.length-1-i<ss.length by omega])
   have ok:okS T .(121):=by rw[ei]; exact h00.st _ .(0)
   have nx:∀V,(ss.reverse.take (i+1)).foldl bkV V=bkV ((ss.reverse.take i).foldl bkV V) .(121):=λV=>by rw[take_snoc (("weigh",0,0):Stp) (show i<ss.reverse.length by simpa using hi),JH]; rfl
   have ns:bF EE (ss.reverse.take (i+1))=bF EE (ss.reverse.take i)+EE .(121):=by
     rw[take_snoc (("weigh",0,0):Stp) (show i<ss.reverse.length by simpa using hi),cZ];simp[bF]
   have lim:bF EE (ss.reverse.take (i+1))<=bF EE ss:=by
     have:=vN EE ss.reverse (i+1)
     rwa [lK]at this
   rw[ns]at lim;rw[nx,ns];have I2:=I.step g ok;have sqL:∀k,k<T->∀j,j<C->Sq (bF EE (ss.reverse.take i)+i+1) ((ss.reverse.take i).foldl bkV V0 k j):=λk hk j hj=>I.sq hk hj
   generalize bF EE (ss.reverse.take i)=S at *
   generalize (ss.reverse.take i).foldl bkV V0=V at *
   generalize ss.reverse.getD i ("weigh",0,0)=st at *
   generalize EE st=e at *
   obtain⟨u,n,q⟩:=st;have sq:Sq e q:=g.sq;have ll:(cY C T V).length=T:=by simp[cY]
   have sqm:∀k,k<T->∀j,j<C->Sq (e+(S+i+1)) (q*V k j):=λk hk j hj=>sq.mul (sqL k hk j hj)
   refine i8 (M:=λτ=>∃P s6 s7 s8,BkJ T C (S+e) (i+1) P (bkV V (u,n,q))/\τ=[.d (rB T R C ss),.d (.int T),.d (.int R),.d (.int C),.d (.lst (ss.map stD)),.o (cY C T (bkV V (u,n,q))),s6,s7,s8]) (a9 (aa 6) cw vE) (λh=>?_) (λh=>?_) λτ h=>aV h
   . obtain rfl:=of_decide_eq_true h
     have hnT:n<T:=by
       rcases ok.2 with z | z
       . exact z.2
       . have:=z.2; simp only at this; omega
     refine yy 5 (xs:=cY C T V) (j:=n) (aa 7) (bE (fR (cmp 0 (f:=λj=>frD (q*V n j)) b (bD (fj 5 (aa 7) (l6 hnT))) GH .(16) λj hj s0 H0 fp=>?_))) (by rw[ll]; exact cP hnT) (aV ⟨_,.d (.str "weigh"),.d (.int n),.d (frD q),I2,?_⟩)
     . have hj:j<C:=by simpa using hj
       rw[gS _ hj];exact x_call .(109) c_l_times (ae (aa 1) .(110)) ⟨e,S+i+1,q,V n j,rfl,sq,sqL n hnT j hj,.(11),rfl⟩
     . rw[sh (C:=C) .(4) λj=>q*V n j];show [_,_,_,_,_,Sl.o ((cY C T V).set n _),_,_,_]=_;rw[pI hnT];rfl
   . have h0:u ≠ "weigh":=of_decide_eq_false h
     have hnT:n+1<T:=by
       rcases ok.2 with z | z
       . exact absurd z.1 h0
       . exact z.2
     have hnT':n<T:=by omega
     refine i8 (M:=λτ=>∃P s6 s7 s8,BkJ T C (S+e) (i+1) P (bkV V (u,n,q))/\τ=[.d (rB T R C ss),.d (.int T),.d (.int R),.d (.int C),.d (.lst (ss.map stD)),.o (cY C T (bkV V (u,n,q))),s6,s7,s8]) (a9 (aa 6) cw vE) (λh=>?_) (λh=>?_) λτ h=>aV h
     . obtain rfl:=of_decide_eq_true h
       have eb:bkV V ("down",n,q)=gr V n λj=>V n j+q*V (n+1) j:=by
         unfold bkV;rw[if_neg h0];rfl
       refine yy 5 (xs:=cY C T V) (j:=n) (aa 7) (bE (fR (AG 0 1 (f:=λj=>frD (V n j+q*V (n+1) j)) b (uV b (fj 5 (aa 7) (l6 hnT')) (fj 5 (aI (aa 7) af ck) (l6 hnT))) B8 (by rw[gY]; omega) λj hj s0 H0 fp=>?_))) (by rw[ll]; exact cP hnT') (aV ⟨_,.d (.str "down"),.d (.int n),.d (frD q),I2,?_⟩)
       . have hj:j<C:=by rw[gY]at hj; exact hj
         rw[gS _ hj,gS _ hj];exact x_call .(109) c_l_plus (ae (aa 0) (ae (x_call .(109) c_l_times (ae (aa 2) (ae (aa 1) ag)) ⟨e,S+i+1,q,V (n+1) j,rfl,sq,sqL _ hnT j hj,.(11),rfl⟩) ag)) ⟨S+i+1,e+(S+i+1),V n j,q*V (n+1) j,rfl,sqL _ hnT' j hj,sqm _ hnT j hj,.(11),rfl⟩
       . rw[sh gY λj=>V n j+q*V (n+1) j,eb];show [_,_,_,_,_,Sl.o ((cY C T V).set n _),_,_,_]=_;rw[pI hnT']
     . have h1:u ≠ "down":=of_decide_eq_false h
       have eb:bkV V (u,n,q)=gr V (n+1) λj=>V (n+1) j+q*V n j:=by
         unfold bkV rgS rgE;rw[if_neg h0,if_neg h1,if_neg h1]
       refine yy 5 (xs:=cY C T V) (j:=n+1) (aI (aa 7) af ck) (bE (fR (AG 0 1 (f:=λj=>frD (V (n+1) j+q*V n j)) b (uV b (fj 5 (aa 7) (l6 hnT')) (fj 5 (aI (aa 7) af ck) (l6 hnT))) B8 (by rw[gY]; omega) λj hj s0 H0 fp=>?_))) (by rw[ll]; exact cP hnT) (aV ⟨_,.d (.str u),.d (.int n),.d (frD q),I2,?_⟩)
       . have hj:j<C:=by rw[gY]at hj; exact hj
         rw[gS _ hj,gS _ hj];exact x_call .(109) c_l_plus (ae (aa 1) (ae (x_call .(109) c_l_times (ae (aa 2) .(110)) ⟨e,S+i+1,q,V n j,rfl,sq,sqL _ hnT' j hj,.(11),rfl⟩) ag)) ⟨S+i+1,e+(S+i+1),V (n+1) j,q*V n j,rfl,sqL _ hnT j hj,sqm _ hnT' j hj,.(11),rfl⟩
       . rw[sh gY λj=>V (n+1) j+q*V n j,eb];show [_,_,_,_,_,Sl.o ((cY C T V).set (n+1) _),_,_,_]=_;rw[pI hnT]
 . obtain⟨P,s6,s7,s8,I,rfl⟩:=h;rw[rl,HP .(4)];refine kz 5 (aW (GI (aa 5) j5 (i5 (aa 2))) ?_);rw[AB hRT];rfl
end
noncomputable def eB (M:Nat)(st:Stp):Nat:=if st.2.2=0\/st.2.2=1 then 1 else 2*M
theorem BH (h:1<=M)(st:Stp):eB M st<=2*M:=by
 unfold eB;split <;> omega
theorem Gi (h:1<=m):Sq m 0:=⟨IU m,by
 show (1:Int).natAbs<2^m;have:=HS (n:=2) .(2) h;show 1<2^m;omega⟩
theorem Gx (h:1<=m):Sq m 1:=by
 have:=HS (n:=2) .(2) h;exact⟨by show 1<2^m; omega,by show 1<2^m; omega⟩
theorem F9 {st:Stp}(h0:0<=st.2.2.num)(h:Sq (2*M) st.2.2):Wq (eB M st) st.2.2:=by
 refine⟨h0,?_⟩;unfold eB;split
 . rename_i z;rcases z with z | z
   . rw[z]; exact Gi (Ia 1)
   . rw[z]; exact Gx (Ia 1)
 . exact h
theorem Cq (h1:1<=M)(hk:k<n)(hi:i+1<n)(sz:Sz n M g):(∀st∈fI k i g,Sq (2*M) st.2.2)/\bF (eB M) (fI k i g)<=2*M+2:=by
 unfold fI;split
 . exact⟨λ_ z=>(nomatch z),HL _⟩
 . split
   . refine⟨λst hs=>?_,?_⟩
     . rcases HA.mp hs with rfl | hs
       . exact Gi .(0)
       . rw[gV]at hs;subst hs;exact Gx .(0)
     . have e1:eB M ("weigh",i,0)=1:=if_pos (.inl rfl);have e2:eB M ("up",i,1)=1:=if_pos (.inr rfl);show eB M ("weigh",i,0)+(eB M ("up",i,1)+0)<=_;omega
   . rename_i z1 z2;refine⟨λst hs=>?_,?_⟩
     . rw[gV]at hs;subst hs;have:=(sz (i+1) hi k hk).div (sz i .(0) k hk) z2
       rwa [<- Nat.two_mul]at this
     . have:=BH h1 ("up",i,g (i+1) k/g i k);show eB M ("up",i,g (i+1) k/g i k)+0<=_;omega
theorem uU (h1:1<=M):∀(d:Nat) (g:Nat->Nat->Rat),k+d<n->SzP n M k d g->(∀st∈clS k d g,Sq (2*M) st.2.2)/\bF (eB M) (clS k d g)<=d*(2*M+2)
 | 0,_,_,_=>⟨λ_ z=>(nomatch z),HL _⟩
 | d+1,g,hd,sz=>by
   obtain⟨a1,a2⟩:=Cq (i:=k+d) h1 (by omega:k<n) .(0) sz.1;obtain⟨b1,b2⟩:=uU h1 d _ .(0) sz.2;refine⟨λst hs=>?_,?_⟩
   . rcases x3.mp (show st∈fI k (k+d) g++clS k d (de k (k+d) g) from hs) with h | h
     . exact a1 st h
     . exact b1 st h
   . show bF (eB M) (fI k (k+d) g++clS k d (de k (k+d) g))<=_;rw[cZ,IS];omega
theorem BY (h1:1<=M)(sz:SzA n M A):∀k,k<=n->(∀st∈.(113).2.1,Sq (2*M) st.2.2)/\(∀st∈.(113).2.2,Sq (2*M) st.2.2)/\bF (eB M) .(113).2.1<=k*(2*(n*(2*M+2)))/\bF (eB M) .(113).2.2<=k*(n*(2*M+2))
 | 0,_=>⟨λ_ z=>(nomatch z),λ_ z=>(nomatch z),HL _,HL _⟩
 | k+1,hk=>by
   obtain⟨a1,a2,a3,a4⟩:=BY h1 sz k .(0);obtain⟨z1,z2,z3⟩:=sz k .(0);have le:(n-1-k)*(2*M+2)<=n*(2*M+2):=HU _ .(0);obtain⟨c1,d1⟩:=uU h1 (n-1-k) _ .(0) z1;obtain⟨c2,d2⟩:=uU h1 (n-1-k) _ .(0) z2;obtain⟨c3,d3⟩:=uU h1 (n-1-k) _ .(0) z3;have e:apF n A (k+1)=(st3 n k .(113).1,.(113).2.1++stA n k .(113).1,.(113).2.2++stB n k .(113).1):=rfl;rw[e];refine⟨λst hs=>?_,λst hs=>?_,?_,?_⟩
   . rcases x3.mp hs with h | h
     . exact a1 st h
     . rcases x3.mp (show st∈clS k (n-1-k) (apF n A k).1++clS k (n-1-k) (st2 n k (apF n A k).1) from h) with h | h
       . exact c1 st h
       . exact c3 st h
   . rcases x3.mp hs with h | h
     . exact a2 st h
     . exact c2 st h
   . show bF (eB M) (.(113).2.1++(clS k (n-1-k) .(113).1++clS k (n-1-k) (st2 n k .(113).1)))<=_;rw[cZ,cZ,IS];omega
   . show bF (eB M) (.(113).2.2++clS k (n-1-k) (trF (st1 n k .(113).1)))<=_;rw[cZ,IS];omega
theorem BW {n M:Nat}(h1:1<=M){g:Nat->Nat->Rat}:∀k,bF (eB M) ((ox k).map λi=>("weigh",i,g i i))<=k*(2*M)
 | 0=>HL _
 | k+1=>by
   rw[Iz,HB,cZ,IS];have:=BW (n:=n) h1 (g:=g) k;have:=BH h1 ("weigh",k,g k k);show _+(eB M ("weigh",k,g k k)+0)<=_;omega
theorem BB (s:Stp):(trn s).2.2=s.2.2:=by
 unfold trn;split <;> rfl
theorem yq (ss:List Stp):bF (eB M) (ss.reverse.map trn)=bF (eB M) ss:=by
 rw[<- lK (eB M) ss];unfold bF;rw[Ik];congr 1;refine HZ λs _=>?_
 show eB M (trn s)=eB M s;unfold eB;rw[BB]
theorem Gg (h1:1<=M)(sz:SzA n M A)(last:Sz n M (apF n A n).1):(∀st∈apS n A,Sq (2*M) st.2.2)/\bF (eB M) (apS n A)<=(3*(n*n)+n)*(2*M+2):=by
 obtain⟨a1,a2,a3,a4⟩:=BY h1 sz n (Ia n);have c:=BW (n:=n) h1 (g:=(apF n A n).1) n;refine⟨λst hs=>?_,?_⟩
 . unfold apS at hs;rcases x3.mp hs with h | h
   . exact a1 st h
   . rcases x3.mp h with h | h
     . unfold crS at h;obtain⟨k,hk,rfl⟩:=Hu.mp h;have hk:=HN.mp hk;exact(last k hk k hk).mono .(0)
     . obtain⟨s,ms,rfl⟩:=Hu.mp h;rw[BB];exact a2 s (Lj.mp ms)
 . unfold apS;rw[cZ,cZ,yq];have c':bF (eB M) (crS n (apF n A n).1)<=n*(2*M):=c
   have e1:n*(2*(n*(2*M+2)))=2*(n*n*(2*M+2)):=by
     rw[Nat.mul_left_comm,LX n n]
   have e2:n*(n*(2*M+2))=n*n*(2*M+2):=(LX n n _).symm;have e3:(3*(n*n)+n)*(2*M+2)=3*(n*n*(2*M+2))+n*(2*M+2):=by rw[Nat.add_mul,LX 3]
   have e4:n*(2*M)<=n*(2*M+2):=LO _ .(0);rw[e3];rw[e1]at a3;rw[e2]at a4;omega
def gR (ds:List D)(r:Sl):Prop:=∃(T:Nat) (s:Stp),ds=[stD s,.int T]/\okS T s/\r=.d (.bl true)
section
variable {P:FB}{w:World}{K:fw}{mg:Str->Option Value}{base:Heap}{k:Nat}{f:Addr}{fd:GE}{qual:Str}
set_option maxHeartbeats 1000000 in
theorem oB (F:Fun K "_law_is_step" qual (top 56) f fd)(hb:∀x∈aD,mg x=none)(c_l_whole:Cal P w K mg base k "_law_whole" ie)(c_l_divisor:Cal P w K mg base k "_law_divisor" dh):a8 P w K mg base CX0 (k+1) f fd ["_law_step","_law_tracks"] (spD K gR):=by
 refine fnD F jE hb (by rintro _ _ ⟨_,_,rfl,_⟩; rfl) ?_;rintro _ _ ⟨T,⟨u,n,q⟩,rfl,⟨h0,h1⟩,rfl⟩ cdv A outer s H E b;have nd:=jE.nd;have h0:0<=q.num:=h0;have dp:=den_pos q;have g1:IE q.num (q.den:Nat)=1:=by have:=q.reduced; rwa [IE,L1]
 have hu:(u = "weigh" /\ n<T)\/(u = "down" /\ n+1<T)\/(u = "up" /\ n+1<T):=by
   rcases h1 with h | ⟨h | h,h2⟩
   . exact .inl h
   . exact .inr (.inl ⟨h,h2⟩)
   . exact .inr (.inr ⟨h,h2⟩)
 have eu:Ev.cv (.str u)/\(!([D.str "down",.str "up",.str "weigh"].any λz=>Ev.eqD z (.str u)))=false:=by
   rcases hu with ⟨rfl,_⟩ | ⟨rfl,_⟩ | ⟨rfl,_⟩ <;> exact⟨by decide +kernel,by simp[Ev.eqD]⟩
 have el:(decide ((0:Int)<=(n:Nat))&&decide (((n:Nat):Int)<(T:Int)-(if (!decide (u=("weigh" : Str)))=true then 1 else 0)))=true:=by
   rw[decide_eq_true .(0),Bool.true_and];refine decide_eq_true ?_;rcases hu with ⟨rfl,h⟩ | ⟨rfl,h⟩ | ⟨rfl,h⟩
   . rw[decide_eq_true rfl]; show (n:Int)<(T:Int)-0; omega
   . rw[decide_eq_false .(2)]; show (n:Int)<(T:Int)-1; omega
   . rw[decide_eq_false .(2)]; show (n:Int)<(T:Int)-1; omega
 refine gk (PW.pt (iN (cO (c9 (fE .tuple b (aa 0)))) λh=>(iN (a9 (bh b .(110) fX) af vO) λh=>(jr (a9 (aM (aa 0) af (aQ (aG (i:=0) rfl))) (bE (cM (ae cw (ae cw (ae cw ag))))) (CO b eu.1 (by intro z hz; simp only[HA,Jf,or_false]at hz; rcases hz with rfl | rfl | rfl <;> decide +kernel))))))) (by rw[eu.2]; rfl) ?_;refine gk (PW.pt (iN (cO (c9 (x_call b c_l_whole (ae (aM (aa 0) af (aQ (aG (i:=1) rfl))) ag) ⟨_,rfl,rfl⟩))) λh=>(jr (cO ((ud af (aM (aa 0) af (aQ (aG (i:=1) rfl))) (aI (aa 1) (rF b (ae (iD (aM (aa 0) af (aQ (aG (i:=0) rfl))) cw Bw) ag) B1) bO) Eu vV).2 rfl))))) (by rw[el]; rfl) ?_;refine aN 2 nd (aM (aa 0) af (aQ (aG (i:=2) rfl))) ?_;refine gk (PW.pt (iN (cO (c9 (fE .tuple b (aa 2)))) λh=>(iN (a9 (bh b (ae (aa 2) ag) fX) af vO) λh=>(iN (cO (c9 (x_call b c_l_whole (ae (aM (aa 2) af (aQ (aG (i:=0) rfl))) ag) ⟨_,rfl,rfl⟩))) λh=>(jr (cO (c9 (x_call b c_l_whole (ae (aM (aa 2) af (aQ (aG (i:=1) rfl))) ag) ⟨_,rfl,rfl⟩)))))))) rfl ?_;refine aW (km (iD (aM (aa 2) af (aQ (aG (i:=0) rfl))) af CZ) λh=>(km (iD (aM (aa 2) af (aQ (aG (i:=1) rfl))) af xk) λh=>(mj (iD (x_call b c_l_divisor (ae (aM (aa 2) af (aQ (aG (i:=0) rfl))) (ae (aM (aa 2) af (aQ (aG (i:=1) rfl))) ag)) ⟨_,_,rfl,rfl⟩) af gB)))) ?_;rw[g1,decide_eq_true h0,decide_eq_true (show (0:Int)<(q.den:Nat) from dp)];rfl
end
mutual
theorem gN:∀x:D,Ev.eqD x x=true
 | .non=>by rw[Ev.eqD]
 | .bl a=>by simp[Ev.eqD]
 | .int a=>by simp[Ev.eqD]
 | .str a=>by simp[Ev.eqD]
 | .tup xs=>by rw[Ev.eqD]; exact jJ xs
 | .lst xs=>by rw[Ev.eqD]; exact jJ xs
 | .box x=>by rw[Ev.eqD]
theorem jJ:∀xs:List D,Ev.fU xs xs=true
 | []=>by rw[Ev.fU]
 | x::xs=>by rw[Ev.fU,gN x,jJ xs]; rfl
end
theorem vB:∀r:List Rat,Ev.bQ (r.map frD)=true/\Ev.b5 (r.map frD)<=1
 | []=>by simp[Ev.bQ,Ev.b5]
 | x::r=>by
   obtain⟨h1,h2⟩:=vB r;rw[Ii,Ev.bQ,Ev.b5,h1,frD];refine⟨by simp[Ev.cln,Ev.bQ],?_⟩;have:Ev.dep (.tup [.int x.num,.int (x.den:Nat)])=1:=by simp[Ev.dep,Ev.b5]
   rw[this];omega
theorem ui:∀m:List .(123),Ev.bQ (m.map rwQ)=true/\Ev.b5 (m.map rwQ)<=2
 | []=>by simp[Ev.bQ,Ev.b5]
 | r::m=>by
   obtain⟨h1,h2⟩:=ui m;obtain⟨h3,h4⟩:=vB r;rw[Ii,Ev.bQ,Ev.b5,h1,show rwQ r=.lst (r.map frD) from rfl,Ev.cln,Ev.dep,h3];exact⟨rfl,by omega⟩
theorem oO (m:List .(123)):Ev.cv (tbQ m):=by
 obtain⟨h1,h2⟩:=ui m;unfold tbQ Ev.cv;rw[Ev.cln,Ev.dep,h1];exact⟨rfl,by omega⟩
noncomputable def xH (T R C:Nat)(ss:List Stp):D:=.tup [.str "ladder",rB T R C ss]
def hX (ds:List D)(r:Sl):Prop:=∃(E:Stp->Nat) (T R C:Nat) (ss:List Stp) (A:Nat->Nat->Rat),ds=[xH T R C ss,tbQ (mkT R C A)]/\okL T R C ss/\T=sz2 R C/\(∀st∈ss,Wq (E st) st.2.2)/\bF E ss+ss.length<=990000/\(∀i,i<R->∀j,j<C->bwd ss i j=A i j)/\r=.d (.bl true)
theorem t8 (R C:Nat)(L:Nat->Nat->Rat):D.lst (cY C R L)=tbQ (mkT R C L):=by
 unfold cY tbQ mkT;rw[Ik];rfl
theorem BF (a b c:Int):Ev.cv (.tup [.int a,.int b,.int c]):=⟨by simp[Ev.cln,Ev.bQ],by simp[Ev.dep,Ev.b5]⟩
section
variable {P:FB}{w:World}{K:fw}{mg:Str->Option Value}{base:Heap}{k:Nat}{f:Addr}{fd:GE}{qual:Str}
set_option maxHeartbeats 1000000 in
theorem su (F:Fun K "_law_makes" qual (top 57) f fd)(hb:∀x∈aD,mg x=none)(c_l_ladders_table:Cal P w K mg base k "_law_ladders_table" bZ)(c_l_is_step:Cal P w K mg base k "_law_is_step" gR)(c_l_whole:Cal P w K mg base k "_law_whole" ie):a8 P w K mg base CX0 (k+1) f fd ["_law_found","_law_table"] (spD K hX):=by
 refine fnD F me hb (by rintro _ _ ⟨_,_,_,_,_,_,rfl,_⟩; rfl) ?_;rintro _ _ ⟨EE,T,R,C,ss,A,rfl,ok,hT,hw,hn,he,rfl⟩ cdv A' outer s H E b;have nd:=me.nd;have r1:=ok.r1;have c1:=ok.c1;have hl:=ok.len;have lm:((mkT R C A).map rwQ).length=R:=by rw[bp,dF]
 have ln:(((ox C).map (A 0)).map frD).length=C:=by simp
 have r0:atI ((mkT R C A).map rwQ) 0=some (rwQ ((ox C).map (A 0))):=by
   have:=gx (f:=rwQ) (xs:=mkT R C A) [] (i:=0) (by rw[dF]; exact r1);rw[jc r1]at this;exact this
 have es:(if (C:Int)>(R:Int) then (C:Int) else (R:Int))=(T:Nat):=by rw[hT]; unfold sz2; split <;> split <;> omega
 have ix1:∀X:Cx,A1 X (xH T R C ss) (.int 1) (rB T R C ss):=λX=>aQ (aG (i:=1) rfl)
 refine gk (PW.pt (iN (cO (c9 (fE .tuple b (aa 0)))) λh=>(iN (a9 (bh b .(110) fX) af vO) λh=>(iN (a9 (aM (aa 0) af (aQ (aG (i:=0) rfl))) cw Bw) λh=>(jr (cO (c9 (fE .tuple b (aM (aa 0) af (ix1 _)))))))))) rfl ?_;have e3:cutD [D.int T,.int R,.int C,.lst (ss.map stD)] none (some 3)=[.int T,.int R,.int C]:=rfl
 have sl3:∀{X:Cx} {τ:List Sl} {e:Expr} {l2:Expr} {C':Bool} {p2 pos:Pos},PE X e (dE X.K C' τ (.d (rB T R C ss)))->PO X (some l2) (dO X.K τ (some 3))->PE X (.Subscript e (.Slice none (some l2) none p2) pos) (dE X.K C' τ (.d (.tup [.int T,.int R,.int C]))):=λ{X τ e l2 C' p2 pos} h u=>by
   have:=pZ (pos:=pos) (p2:=p2) h j5 u (λz=>by have:=z.2; simp[HT.sIx]at this);rw[e3]at this;exact this
 refine gk (PW.pt (iN (a9 (bh b (ae (aM (aa 0) af (ix1 _)) ag) fX) af vO) λh=>(jr (cO (c9 (bh b (ae (bE (fR (cmp 0 (g:=λi=>.int ((([(T:Int),(R:Int),(C:Int)]).getD i 0))) (f:=λi=>.bl true) b (FU (sl3 (aM (aa 0) af (ix1 _)) (i5 af))) (λi h=>by match i,h with | 0,_=>rfl | 1,_=>rfl | 2,_=>rfl) .(4) λi hi s0 H0 fp=>(x_call .(109) c_l_whole .(110) ⟨_,rfl,rfl⟩)))) ag) (pV b.calm [true,true,true] rfl))))))) rfl ?_;refine gk (a9 (sl3 (aM (aa 0) af (ix1 _)) (i5 af)) (bI (ae (bh b (ae (bh b (ae (aa 1) ag) (iQ lm)) (ae (bh b (ae (aM (aa 1) af (a6 r0)) ag) (iQ ln)) ag)) (BC b.calm)) (ae (bh b (ae (aa 1) ag) (iQ lm)) (ae (bh b (ae (aM (aa 1) af (a6 r0)) ag) (iQ ln)) ag)))) (BN b (BF _ _ _) (BF _ _ _))) (by rw[es,gN]; rfl) ?_;refine aN 2 nd (aM (aM (aa 0) af (ix1 _)) af (aQ (aG (i:=3) rfl))) ?_;refine gk (PW.pt (iN (cO (c9 (fE .list b (aa 2)))) λh=>(jr (a9 (bh b (ae (aa 2) ag) (iQ (n:=ss.length) (by rw[bp]))) af xk)))) (by rw[decide_eq_false .(0)]; rfl) ?_;refine gk (cO (c9 (bh b (ae (bE (fR (cmp 0 (g:=λi=>stD (ss.getD i ("weigh",0,0))) (f:=λi=>.bl true) b (bD (aa 2)) Hm .(15) λi hi s0 H0 fp=>(x_call .(109) c_l_is_step (ae (aa 0) (ae (aM (aM (aa 1) af (ix1 _)) af (aQ (aG (i:=0) rfl))) ag)) ⟨T,_,rfl,ok.st i (by simpa using hi),rfl⟩)))) ag) (pV b.calm (HY ss.length true) (by rw[List.map_replicate,bp]; exact(List.map_const' ..).trans (by rw[Iw])))))) .(4) ?_;refine aW (iD (bE (x_call b c_l_ladders_table (ae (aM (aa 0) af (ix1 _)) ag) ⟨EE,T,R,C,ss,rfl,ok,hw,hn,rfl⟩) (by exact congrArg some (t8 R C (bwd ss)))) (aa 1) (um b (oO _) (oO _))) ?_;rw[vW he,gN]
end
theorem Dd {L:Nat->Nat->Rat}{st:Stp}(H:Tnn T C L)(h:okS T st):Tnn T C (bkV L st):=by
 have w0:(0:Rat)<=st.2.2:=Rat.num_nonneg.mp h.1;unfold bkV;by_cases e:st.1 = "weigh"
 . rw[if_pos e];refine(H.tr.col (h:=st.2.1) (t:=0) (a:=st.2.2) (b:=0) w0 Km (.inl rfl)).tr.congr λi _ j _=>?_
   unfold gr;by_cases z:i=st.2.1
   . rw[if_pos z,if_pos z]; grind
   . rw[if_neg z,if_neg z]
 . rw[if_neg e];obtain⟨h1,h2,_⟩:=FI h e
   have nb:rgE st=rgS st+1\/rgS st=rgE st+1:=by
     unfold rgS rgE;split <;> omega
   refine(H.tr.col (h:=rgS st) (t:=rgE st) (a:=1) (b:=st.2.2) .(2) w0 (.inr ⟨h2,nb⟩)).tr.congr λi _ j _=>?_
   unfold gr;by_cases z:i=rgS st
   . rw[if_pos z,if_pos z]; grind
   . rw[if_neg z,if_neg z]
theorem vz :∀(xs:List Stp) (L:Nat->Nat->Rat),Tnn T C L->(∀st∈xs,okS T st)->Tnn T C (xs.foldl bkV L)
 | [],_,H,_=>H
 | st::xs,L,H,h=>vz xs _ (Dd H (h st .(5))) λs m=>h s (Et _ m)
theorem AQ (h:∀st∈ss,okS T st):Tnn T C (bwd ss):=
 vz _ _ ((DY T C).congr λi _ j _=>by
   unfold V0;by_cases z:i=j
   . rw[if_pos z,if_pos z.symm]
   . rw[if_neg z,if_neg (ID z)]) λst m=>h st (Lj.mp m)
theorem yL :∀(xs:List Stp) (S t:Nat) (P:Int) (L:Nat->Nat->Rat),BkJ T C S t P L->(∀st∈xs,okS T st/\Wq (E st) st.2.2)->∃P',BkJ T C (S+bF E xs) (t+xs.length) P' (xs.foldl bkV L)
 | [],_,_,P,_,I,_=>⟨P,I⟩
 | st::xs,S,t,P,L,I,h=>by
   obtain⟨a,b⟩:=h st .(5);obtain⟨P',J⟩:=yL xs _ _ _ _ (I.step b a) λs m=>h s (Et _ m)
   refine⟨P',?_⟩
   have e1:S+bF E (st::xs)=S+E st+bF E xs:=by
     show S+(E st+bF E xs)=_;omega
   have e2:t+(st::xs).length=t+1+xs.length:=by rw[IA]; omega
   rw[e1,e2];exact J
theorem Ez (h:∀st∈ss,okS T st/\Wq (E st) st.2.2):∃P,BkJ T C (bF E ss) ss.length P (bwd ss):=by
 obtain⟨P,J⟩:=yL (E:=E) ss.reverse 0 0 1 V0 (BkJ.start (T:=T) (C:=C)) λs m=>h s (Lj.mp m)
 rw[lK,Jk,J9,J9]at J;exact⟨P,J⟩
theorem o9 {z:Int}(h0:0<=z)(h:z<=2^n):z.natAbs<=2^n:=by
 have e:((2^n:Nat):Int)=(2:Int)^n:=LI ..;omega
theorem BkJ.cm (I:BkJ T C S t P L)(hR:R<=T):Cm (S+t) S R C L:=
 ⟨P,I.pos,o9 (by have:=I.pos; omega) I.le,λi hi j hj=>by
   obtain⟨z,z0,z1,z2⟩:=I.zq i .(0) j hj;exact⟨z,by rw[z2,JK],o9 z0 z1⟩⟩
theorem BkJ.qs (I:BkJ T C S t P L)(hi:i<T)(hj:j<C):Qs (S+1) (S+t) (L i j):=by
 obtain⟨z,z0,z1,z2⟩:=I.zq i hi j hj;obtain⟨e1,e2⟩:=bU I.pos z2;refine⟨?_,?_⟩
 . rw[e2]; exact(yQ (by have:=I.pos; omega) I.le).ediv _
 . have g1:(1:Int)<=(IE z P:Int):=by have:=eY (i:=z) (j:=P) (by have:=I.pos; omega); omega
   have n0:0<=(L i j).num:=by rw[e1]; exact Int.ediv_nonneg z0 .(0)
   have h1:(L i j).num<=z:=by rw[e1]; exact Int.ediv_le_self _ z0
   have h2:=o9 z0 z1;have d1:1<=(L i j).den:=(L i j).den_pos;have:(L i j).num.natAbs<=2^(S+t):=by omega
   exact HJ this (MR _ d1)
theorem Cm.mono (h:Cm β σ m n A)(h1:β<=β')(h2:σ<=σ'):Cm β' σ' m n A:=by
 obtain⟨P,p0,p1,p2⟩:=h;exact⟨P,p0,HJ p1 (HS .(2) h2),λi hi j hj=>(p2 i hi j hj).mono h1⟩
theorem E7 (h:s<=s'):mB s β σ<=mB s' β σ:=by
 unfold mB;have:=HU (β+3) h;omega
noncomputable def wG (s β σ:Nat):Nat:=(3*(s*s)+s)*(2*mB s β σ+2)+400
theorem Ar (h:s<=s'):wG s β σ<=wG s' β σ:=by
 have h1:=E7 (β:=β) (σ:=σ) h;have h2:s*s<=s'*s':=IV h h;have h3:(3*(s*s)+s)*(2*mB s β σ+2)<=(3*(s'*s')+s')*(2*mB s' β σ+2):=IV .(0) .(0);unfold wG;omega
theorem AY (r1:1<=R)(c1:1<=C)(s7:sz2 R C<=7)(H:Tnn R C A)(cm:Cm β σ R C A)(lim:wG (sz2 R C) β σ<=990000):
   okL (sz2 R C) R C (apS (sz2 R C) (cq R C A))/\(∀st∈apS (sz2 R C) (cq R C A),Wq (eB (mB (sz2 R C) β σ) st) st.2.2)/\bF (eB (mB (sz2 R C) β σ)) (apS (sz2 R C) (cq R C A))+(apS (sz2 R C) (cq R C A)).length<=990000/\∀i,i<R->∀j,j<C->bwd (apS (sz2 R C) (cq R C A)) i j=A i j:=by
 have sm:R<=sz2 R C/\C<=sz2 R C/\1<=sz2 R C:=by unfold sz2; split <;> omega
 unfold wG at lim;generalize sz2 R C=s at *
 have Hs:Tnn s s (cq R C A):=uu H;have cs:Cm β σ s s (cq R C A):=cm.pad;have sz:=zg s7 Hs cs;obtain⟨mk,ok⟩:=yv Hs;have len:=zZ s7 (cq R C A);have M1:1<=mB s β σ:=by unfold mB; omega
 have last:Sz s (mB s β σ) (apF s (cq R C A) s).1:=by
   obtain⟨P,p0,p1,p2⟩:=cs;have F:FS s 0 (λi j=>(P:Rat)*1*cq R C A i j) (λ_=>(P:Rat)) (λ_=>1) (cq R C A):=FS.start (λ_ _ _ _=>rfl) (λ_=>Mt.mpr p0) (λ_=>by decide);obtain⟨φ,o,l,b,κ,o',l',b',G,_,_⟩:=zf Hs F s (Ia s);exact ye s7 (λi hi j hj=>by rw[JE]; exact p2 i hi j hj) (λ_ _=>⟨P,rfl,p1⟩) ⟨φ,o,l,b,κ,o',l',b',G⟩
 obtain⟨z1,z2⟩:=Gg M1 sz last;refine⟨⟨sm.2.2,s7,r1,sm.1,c1,sm.2.1,len,λi hi=>ok _ (bH hi)⟩,λst hs=>F9 (ok st hs).1 (z1 st hs),by omega,λi hi j hj=>?_⟩;rw[mk i .(0) j .(0)];exact if_pos ⟨hi,hj⟩
noncomputable def prZ (ns:List Int):Int:=ns.foldl (·*·) 1
theorem xT (ns:List Int)(n:Int):prZ (ns++[n])=prZ ns*n:=by unfold prZ; rw[JH]; rfl
theorem ya :∀(r:List Int) (s:Int) (n:Nat),Bd n s->(∀q∈r,Bd d q)->Bd (n+r.length*d) (r.foldl (·*·) s)
 | [],s,n,h,_=>by simpa using h
 | q::r,s,n,h,hd=>by
   have:=ya r _ _ (h.mul (hd q .(5))) λx hx=>hd x (Et _ hx)
   rw[IA,IS]
   rwa [show n+d+r.length*d=n+(r.length*d+d) by omega]at this
theorem Dm (h:∀q∈r,Bd d q):Bd (1+r.length*d) (prZ r):=ya r 1 1 (by unfold Bd; decide) h
theorem F5 (hs:0<s)(q:Rat):(s*(q.den:Nat))/(IE s (q.den:Nat):Int)=scS s q:=by
 unfold scS;have d1:(IE s (q.den:Nat):Int)∣s:=Mm ..;rw[Int.mul_comm s,Int.mul_ediv_assoc _ d1,Int.mul_comm]
theorem Ef (R:List .(125)):ndD (pY R)=.lst (R.map dtR):=by
 unfold pY rwN;rw[ndD,rK];congr 1;exact HZ λr _=>by rw[pT]; rfl
def kW (ds:List D)(r:Sl):Prop:=∃(R C d v:Nat) (M:List .(123)),ds=[tbQ M]/\Tq R C M/\(∀r∈M,∀x∈r,Qs d v x)/\1+C*d<=8999/\v+d<=8999/\r=.n (.t [pY (whM M (M.map scL)),.d (.int (prZ (M.map scL)))])
theorem xU {M:List .(123)}(h:i<M.length):((ox (i+1)).map λi=>whR .(108) (scL .(108)))=((ox i).map λi=>whR .(108) (scL .(108)))++[whR .(108) (scL .(108))]:=by
 rw[Iz,HB];rfl
theorem Ak (M:List .(123)):(ox M.length).map (λi=>whR .(108) (scL .(108)))=whM M (M.map scL):=by
 unfold whM;refine HZ λi hi=>?_
 have:i<M.length:=HN.mp hi;simp[this]
section
variable {P:FB}{w:World}{K:fw}{mg:Str->Option Value}{base:Heap}{k:Nat}{f:Addr}{fd:GE}{qual:Str}
set_option maxHeartbeats 1000000 in
theorem vI (F:Fun K "_law_rows" qual (top 49) f fd)(hb:∀x∈aD,mg x=none)(c_l_divisor:Cal P w K mg base k "_law_divisor" dh):a8 P w K mg base CX0 (k+1) f fd ["_law_table"] (spD K kW):=by
 refine fnD F nG hb (by rintro _ _ ⟨_,_,_,_,_,rfl,_⟩; rfl) ?_;rintro _ _ ⟨R,C,d,v,M,rfl,t,hq,z1,z2,rfl⟩ cdv A outer s H E b;have nd:=nG.nd;have r7:=t.r7;have c7:=t.c7;refine aN 1 nd (cM ag) ?_;refine Hi 1 (c:=.l []) ?_;refine aN 2 nd af ?_;refine bP 3 (g:=λi=>rwQ .(108)) (λi τ=>i<=M.length/\∃s3 s4 s5,τ=[.d (tbQ M),.n (pY ((ox i).map λi=>whR .(108) (scL .(108)))),.d (.int (prZ ((M.map scL).take i))),s3,s4,s5]) b nd (bD (aa 0)) (dn (f:=rwQ) (xs:=M) []) ⟨HL _,.un,.un,.un,rfl⟩ (λi hi τ h=>?_) λτ h=>?_
 . obtain⟨_,s3,s4,s5,rfl⟩:=h;have hi:i<M.length:=by simpa using hi
   have mi:=bH (xs:=M) (d:=[]) hi;have hiR:i<R:=by rw[<- t.len]; exact hi
   have hC:=t.at_ hiR;have qr:=hq _ mi;rw[xU hi]
   have et:(M.map scL).take (i+1)=(M.map scL).take i++[scL .(108)]:=by
     rw[MA,HR,ph hi];simp[hi]
   rw[et,xT]
   have bpr:Bd (1+R*8999) (prZ ((M.map scL).take i)):=(Dm (d:=8999) λx hx=>by
     obtain⟨r,hr,rfl⟩:=Hu.mp (Kt hx);have:=jZ (d:=d) (r:=r) λx hx=>(hq r hr x hx).den
     rw[t.row r hr]at this
     exact this.mono z1).mono (by
       have:((M.map scL).take i).length<=R:=by rw[IG,bp,t.len]; omega
       have:=HU 8999 this;omega)
   generalize prZ ((M.map scL).take i)=pr at bpr ⊢;generalize hg:((ox i).map λi=>whR .(108) (scL .(108)))=Gs;have lGs:Gs.length=i:=by rw[<- hg]; simp
   generalize M.getD i []=row at mi hC qr ⊢;refine aN 4 nd af ?_;refine bP 5 (g:=λj=>frD (row.getD j 0)) (λj τ=>j<=row.length/\∃s5,τ=[.d (tbQ M),.n (pY Gs),.d (.int pr),.d (rwQ row),.d (.int (scL (row.take j))),s5]) b nd (bD (aa 3)) (dn (f:=frD) (xs:=row) 0) ⟨HL _,s5,rfl⟩ (λj hj τ h=>?_) λτ h=>?_
   . obtain⟨_,s5,rfl⟩:=h;have hj:j<row.length:=by simpa using hj
     have mm:=bH (d:=(0:Rat)) hj;have hs:=(mq (row.take j)).1
     have bs:Bd (1+C*d) (scL (row.take j)):=(jZ λx hx=>(qr x (Kt hx)).den).mono (by
       have:(row.take j).length*d<=C*d:=HU _ .(23);omega)
     have et:row.take (j+1)=row.take j++[row.getD j 0]:=by rw[MA,ph hj]; simp[hj]
     rw[et,qI];generalize scL (row.take j)=sc at hs bs ⊢;generalize row.getD j 0=x at mm ⊢;have hx:=den_pos x;have sd:=(qr x mm).den;have dv:aL (IE sc (x.den:Nat):Int):=(sd.gcd .(0)).aL (eY .(0)) .(0);refine aN 4 nd (aI (aI (aa 4) (aM (aa 5) af (aQ (aG (i:=1) rfl))) (bK (bs.aH sd .(0) .(0)))) (x_call b c_l_divisor (ae (aa 4) (ae (aM (aa 5) af (aQ (aG (i:=1) rfl))) ag)) ⟨_,_,rfl,rfl⟩) (di dv)) (aV ⟨hj,.d (frD x),?_⟩);rw[bb,F5 hs];rfl
   . obtain⟨_,s5,rfl⟩:=h;rw[bp,List.take_length];have br:=jZ (d:=d) (r:=row) λx hx=>(qr x hx).den
     rw[hC]at br;refine Ek (c:=rwN (whR row (scL row))) (dZ 1) (fR (cmp 0 (g:=λj=>frD (row.getD j 0)) (f:=λj=>.int ((row.getD j 0).num*((scL row).fdiv ((row.getD j 0).den:Nat)))) b (bD (aa 3)) (dn (f:=frD) (xs:=row) 0) .(15) λj hj s0 H0 fp=>?_)) rfl rfl ?hx ?_ ?_
     . have sq:=(qr _ (bH (d:=(0:Rat)) (show j<row.length by simpa using hj))).sq;generalize row.getD j 0=x at sq ⊢;have hx:=den_pos x;have e:(scL row).fdiv (x.den:Nat)=scL row/(x.den:Nat):=Ji _ .(0);exact aI (aM (aa 0) af (aQ (aG (i:=0) rfl))) (aI (aa 1) (aM (aa 0) af (aQ (aG (i:=1) rfl))) (di (sq.den.aL .(0) .(0)))) (bK (by rw[e]; exact sq.num.aH (br.ediv _) .(0) .(0)))
     case hx=>
       refine congrArg (λl=>some (Nd.l (l.map .d))) ((gX (λx:Rat=>D.int (x.num*((scL row).fdiv (x.den:Nat)))) row 0 .(18)).trans ?_);unfold whR;rw[Ik];refine HZ λx _=>?_
       simp only[J6];rw[Ji _ (by have:=den_pos x; omega)]
     . rw[bp,lGs]; omega
     . refine aN 2 nd (aI (aa 2) (aa 4) (bK (bpr.aH br .(0) .(0)))) (aV ⟨hi,.d (rwQ row),.d (.int (scL row)),s5,?_⟩);unfold pY;rw[HB];rfl
 . obtain⟨_,s3,s4,s5,rfl⟩:=h;rw[bp,Ak,HP (by rw[bp]; exact Ia _)];exact CL 1 (aa 2) rfl
end
theorem Qs.mono (h:Qs d v q)(hd:d<=d')(hv:v<=v'):Qs d' v' q:=⟨h.den.mono hd,HJ h.val (HU _ (HS .(2) hv))⟩
theorem AR (q:Rat):frD (-q)=.tup [.int (0-q.num),.int (q.den:Nat)]:=by
 unfold frD;rw[show (-q).num=-q.num from rfl,show (-q).den=q.den from rfl,Int.zero_sub]
theorem Qs.neg (h:Qs d v q):Qs d v (-q):=by
 refine⟨h.den,?_⟩;rw[show (-q).num=-q.num from rfl,show (-q).den=q.den from rfl,J2];exact h.val
structure Oq (R C d v:Nat)(M:List .(123)):Prop where
 t:Tq R C M
 q:∀r∈M,∀x∈r,Qs d v x
noncomputable def tE (M:List .(123))(a b:Nat):List .(123):=(M.set a (M.getD b [])).set b (M.getD a [])
noncomputable def mh (a b:Nat)(r:List Rat):List Rat:=(r.set a (r.getD b 0)).set b (r.getD a 0)
section
variable {R C d v:Nat}{M:List .(123)}
theorem Oq.put {q:Rat}(h:Oq R C d v M)(hi:i<R)(hq:Qs d v q):Oq R C d v (qF M i j q):=by
 have hm:∀r∈qF M i j q,r∈M\/r=.(108).set j q:=λr hr=>Ig hr
 refine⟨⟨h.t.r1,h.t.r7,h.t.c1,h.t.c7,by unfold qF; rw[HV]; exact h.t.len,λr hr=>?_⟩,λr hr x hx=>?_⟩
 . rcases hm r hr with z | z
   . exact h.t.row r z
   . rw[z,HV]; exact h.t.at_ hi
 . rcases hm r hr with z | z
   . exact h.q r z x hx
   . rw[z]at hx;rcases Ig hx with y | y
     . exact h.q _ (bH (d:=[]) (by rw[h.t.len]; exact hi)) x y
     . rw[y]; exact hq
theorem Oq.swap (h:Oq R C d v M)(ha:a<R)(hb:b<R):Oq R C d v (tE M a b):=by
 have mem:∀r∈tE M a b,r∈M:=λr hr=>by
   rcases Ig hr with z | z
   . rcases Ig z with y | y
     . exact y
     . rw[y]; exact bH (d:=[]) (by rw[h.t.len]; exact hb)
   . rw[z]; exact bH (d:=[]) (by rw[h.t.len]; exact ha)
 exact⟨⟨h.t.r1,h.t.r7,h.t.c1,h.t.c7,by unfold tE; rw[HV,HV]; exact h.t.len,λr hr=>h.t.row r (mem r hr)⟩,λr hr=>h.q r (mem r hr)⟩
theorem Oq.csw (h:Oq R C d v M)(ha:a<C)(hb:b<C):Oq R C d v (M.map (mh a b)):=by
 refine⟨⟨h.t.r1,h.t.r7,h.t.c1,h.t.c7,by rw[bp]; exact h.t.len,λr hr=>?_⟩,λr hr x hx=>?_⟩
 . obtain⟨g,hg,rfl⟩:=Hu.mp hr;unfold mh;rw[HV,HV];exact h.t.row g hg
 . obtain⟨g,hg,rfl⟩:=Hu.mp hr;have gl:=h.t.row g hg;unfold mh at hx;rcases Ig hx with z | z
   . rcases Ig z with y | y
     . exact h.q g hg x y
     . rw[y]; exact h.q g hg _ (bH (d:=(0:Rat)) .(0))
   . rw[z]; exact h.q g hg _ (bH (d:=(0:Rat)) .(0))
theorem Oq.cell (h:Oq R C d v M)(hi:i<R)(hj:j<C):Qs d v (.(108).getD j 0):=
 h.q _ (bH (d:=[]) (by rw[h.t.len]; exact hi)) _ (bH (d:=(0:Rat)) (by rw[h.t.at_ hi]; exact hj))
end
theorem qo {M:List .(123)}(hi:i<M.length):(M.map λr=>Nd.l ((r.map frD).map .d))[i]?=some (.l ((.(108).map frD).map .d)):=by
 rw[HR,ph hi];simp[hi]
theorem xG :Nd.l (((M.map λr=>Nd.l ((r.map frD).map .d)).set a (.l (((M.getD b []).map frD).map .d))).set b (.l (((M.getD a []).map frD).map .d)))=fB (tE M a b):=by
 unfold fB tE;rw[Mc,Mc]
theorem Ed (p:Int):Wq 3 (wgt p 0):=by
 obtain⟨h1,h2,h3,h4⟩:=uP p (g:=0) .(2);have f1:=fm (a:=p) (b:=7) .(2);have f2:=fm (a:=p.fdiv 7) (b:=4) .(2);have e1:wgT p 0=p.fmod 7:=rfl;have e2:wgB p 0=1+(p.fdiv 7).fmod 4:=rfl;exact⟨(yk p .(2)).1,Sq.bU h3 (kL p .(2)) (by unfold Bd; omega) (by unfold Bd; omega)⟩
theorem iG :∀ss:List Stp,bF (λ_=>e) ss=e*ss.length
 | []=>rfl
 | s::ss=>by
   have:=iG (e:=e) ss;show e+bF (λ_=>e) ss=_;rw[this,IA,Nat.mul_succ];omega
structure Ld (S t T R C:Nat)(ss:List Stp):Prop where
 ok:okL T R C ss
 w:∃E:Stp->Nat,(∀st∈ss,Wq (E st) st.2.2)/\bF E ss<=S/\bF E ss+ss.length<=t
theorem okL.mem (h:okL T R C ss):∀s∈ss,okS T s:=λs hs=>by
 obtain⟨i,hi,rfl⟩:=J5 hs;have:=h.st i hi;simpa[hi]using this
theorem Ld.tab (h:Ld S t T R C ss):Tq R C (mkT R C (bwd ss))/\(∀r∈mkT R C (bwd ss),∀x∈r,Qs (S+1) t x)/\Cm t S R C (bwd ss)/\Tnn R C (bwd ss):=by
 obtain⟨ok,E,hw,hs,ht⟩:=h;have r1:=ok.r1;have c1:=ok.c1;have rT:=ok.rT;have cT:=ok.cT;have t7:=ok.t7;obtain⟨P,I⟩:=Ez (T:=T) (C:=C) λst m=>⟨ok.mem st m,hw st m⟩
 refine⟨oQ r1 .(0) c1 .(0),λr hr x hx=>?_,(I.cm rT).mono ht hs,(AQ ok.mem).le rT (Ia C)⟩;unfold mkT at hr;obtain⟨i,hi,rfl⟩:=Hu.mp hr;obtain⟨j,hj,rfl⟩:=Hu.mp hx;exact(I.qs (by have:=HN.mp hi; omega) (HN.mp hj)).mono .(0) ht
theorem Fs (T R C:Nat)(ss:List Stp):ndD (.t [.d (.str "ladder"),lcN T R C ss])=xH T R C ss:=by
 unfold lcN xH rB;simp only[ndD,kC,pT]
end K34
namespace Ev
open PySem PySem.Spec PyProof.Rows L2
open PySem.Builtin.Range (rangeFitsLong rangeSize)
noncomputable def jG (m n:Int):Obj:={ cls:=.type "range_iterator",data:=.fields #[Nc (m+(rangeSize m n 1-1)*1),Nc (rangeSize m n 1),Nc (-1)] }
theorem xy (h:m<=n):rangeSize m n 1=n-m:=by
 rw[rangeSize_one];split <;> omega
theorem CT (h0:0<=m)(hmn:m<=n)(h1:n<2^62):.(115)=true:=by
 rw[xy hmn,fits_of (i:=m) .(0) .(0),fits_of (i:=n) .(0) .(0),fits_of (i:=m-1) .(0) .(0),fits_of (i:=n-m) .(0) .(0)];decide
theorem tP (r:Addr)(m n:Int)(t u v:Tok)(hs:.(115)=true):
   Meets (Builtin.«range.__reversed__» ⟨[.ref r],[]⟩) (λ_ R s=>NL s.heap r m n 1 t u v/\R (.ok (.ret (Ip s.heap.objs.size))) { s with heap:=s.heap.push (jG m n),toks:=s.toks }):=
 .of_wp λprog w A R s h=>by
   obtain⟨hp,g,d,tk,os⟩:=s;obtain⟨hl,h⟩:=h;have hs':(!.(115))=false:=by rw[hs]; rfl
   wp_walk
   rw[if_pos hs];exact⟨_,rfl,h⟩
section
variable {prog:FB}{w:World}{A:GT}{E:Value->Da->Prop}{s:Da}
theorem kE (hr:NL s.heap r m n 1 t u v)(h0:0<=m)(hmn:m<=n)(h1:n<2^62)
   (h:Q .(129) { s with heap:=s.heap.push (jG m n) }):wpAny .(107) A (call (.builtin "range.__reversed__") [.ref r]) Q E s:=
 Nm F.slot_range_reversed ⟨_,hr,rfl⟩ F.entry_range_reversed (F.args_range_reversed_1 _) (tP r m n t u v (CT h0 hmn h1)) ⟨hr,h⟩
theorem mL (hr:NL s.heap r m n 1 t u v)(h0:0<=m)(hmn:m<=n)(h1:n<2^62)
   (h:Q₁ .(129) { s with heap:=s.heap.push (jG m n) }) :
   Nq .(107) A (.call (.builtin "reversed.__new__") ⟨[.type "reversed",.ref r],[]⟩) (wants Q₁ E) s:=by
 have hT:s.TypeIs (.ref r) "range":=⟨_,hr,rfl⟩;refine codeAny_of_tree ?_;refine AC (MV (F.newCall_reversed_1 _) (Fk ⟨Nb KC _,N1 F.entry_reversed_new ?_⟩));rw[Js KC _];unfold Builtin.«reversed.__new__»;refine AC (MV (newClass_reversed _) ?_)
 try dsimp only
 refine AC (MV (a:=()) .(20) ?_);refine AC (MV (a:=()) .(20) ?_)
 try dsimp only
 refine AC (MX hT F.slot_range_reversed.lookup ?_)
 try dsimp only
 refine AC (MV (F.slot_range_reversed.bind _) ?_)
 try dsimp only
 first
 | rw[if_neg (show ¬((JV "range.__reversed__" == Jb)=true) from HG)]
 | (show wpAny _ _ (if (JV "range.__reversed__" == Jb)=true then _ else _) _ _ _; rw[if_neg (show ¬((JV "range.__reversed__" == Jb)=true) from HG)])
 refine AC (Ny ?_);refine AC (m:=runValue (.call (.builtin "range.__reversed__") ⟨[.ref r],[]⟩)) (show wpAny _ _ (call (.builtin "range.__reversed__") [.ref r]) _ _ _ from kE hr h0 hmn h1 ?_)
 first
 | exact Fk h
 | exact AC (Fk (Fk h))
theorem kB (hr:NL s.heap r m n 1 t u v)(h0:0<=m)(hmn:m<=n)(h1:n<2^62)
   (h:Q .(129) { s with heap:=s.heap.push (jG m n) }):wpAny .(107) A (call (.type "reversed") [.ref r]) Q E s:=by
 refine callType_other (U:="range_iterator") (Q₁:=λobj s₁=>obj=.ref s.heap.objs.size/\s₁={ s with heap:=s.heap.push (jG m n) }) .(22) F.create_reversed ⟨_,_,F.mro_reversed⟩ F.made_reversed gj (F.typeCall_reversed_1 _) (mL hr h0 hmn h1 ⟨rfl,rfl⟩) ?_;rintro obj s₁ ⟨rfl,rfl⟩;exact⟨⟨_,Hz _ rfl,rfl⟩,h⟩
end
section
variable {X:Cx}{tg:Expr}
def iDm (ta:TA):TI:=λσ H R=>ta σ H λvs H1=>∃(m n:Int) (d:Nat),vs=[.int m,.int n]/\(0<=m/\n<2^30)/\n-m=d/\R (Itg (n-1) d) H1
theorem B0 {a b:Expr}{ta:TA}{p p' pos pos':Pos}(hc:X.calm=true)(hg:Gl X "reversed")(hm:X.mg "reversed" = none)(hg':Gl X "range")(hm':X.mg "range" = none)(ha:PA X [a,b] ta)(hs':Do [a,b] X.env=[.(118),(false,eval b X.env)]:=by rfl)(hs2:Do [b] X.env=[(false,eval b X.env)]:=by rfl)
   (hs:Do [.Call (.Name "range" p') [a,b] [] pos'] X.env=[(false,eval (.Call (.Name "range" p') [a,b] [] pos') X.env)]:=by rfl):PI X tg (.Call (.Name "reversed" p) [.Call (.Name "range" p') [a,b] [] pos'] [] pos) (iDm ta):=by
 intro pins s σ H R I h;refine Call_ (cV I hg hm lI (Ib ?_ hs rfl));rw[hs];refine Kb (Call_ (cV I hg' hm' NQ (Ib (thn (ha pos' pins s σ H _ I h) λus s1 ⟨vs,H1,I1,r1,q1⟩=>?_) (by rw[hs',hs2]) (by rw[hs2]; rfl))));obtain⟨m,n,d,e,⟨q1,q2⟩,en,q⟩:=q1;subst e;cases r1 with
 | cons r rr=>
   cases rr with
   | cons r' rr=>
     cases rr
     obtain⟨t,rfl⟩:=r;obtain⟨t',rfl⟩:=r';refine call_range_2 (K6 ?_);have I2:Inv X pins σ H1 { s1 with heap:=s1.heap.push { cls:=.type "range",data:=.fields #[.int m t,.int n t',.int 1 s1.toks] },toks:=s1.toks+1 }:=I1.kept λb o e=>pq _ e
     refine kB (L9 ..) .(0) .(0) .(0) ?_;have z:rangeSize m n 1=(d:Int):=by rw[xy .(0)]; exact en
     have st:(Heap.push (s1.heap.push { cls:=.type "range",data:=.fields #[.int m t,.int n t',.int 1 s1.toks] }) (jG m n)).get? (s1.heap.push { cls:=.type "range",data:=.fields #[.int m t,.int n t',.int 1 s1.toks] }).objs.size=some (jG m n):=Hz _ rfl
     have st':N7 (Heap.push (s1.heap.push { cls:=.type "range",data:=.fields #[.int m t,.int n t',.int 1 s1.toks] }) (jG m n)) (s1.heap.push { cls:=.type "range",data:=.fields #[.int m t,.int n t',.int 1 s1.toks] }).objs.size (n-1+((0:Nat):Int)*(-1)) ((d:Int)-((0:Nat):Int)) (-1):=by
       unfold N7;rw[st,jG,z,show m+((d:Int)-1)*1=n-1 by omega];congr 6
       all_goals (simp)
     refine N8 (x:=n-1+((0:Nat):Int)*(-1)) (left:=(d:Int)-((0:Nat):Int)) (step:=-1) st' ?_;refine⟨false,_,[(s1.heap.push { cls:=.type "range",data:=.fields #[.int m t,.int n t',.int 1 s1.toks] }).objs.size],_,_,H1,rfl,I2.kept (t':=s1.toks+1) λb o e=>pq _ e,.inl hc,xf _ (n-1) d,⟨HL _,st'⟩,λb hb=>?_,q⟩;have e:b=(s1.heap.push { cls:=.type "range",data:=.fields #[.int m t,.int n t',.int 1 s1.toks] }).objs.size:=by simpa using hb
     subst e;exact I2.jH .(3) (I2.hok.fresh .(3))
end
end Ev
namespace Hy
open PySem PySem.Spec PyProof.Rows L2
open Ev (D Den av aq aY aR Itg B0)
theorem Hc {X:Cx}{k:Nat}{τ:List Sl}{a b tg:Expr}{p p' pos pos':Pos}{m n:Int}(d:Nat)(B:Bk X k)(h:PE X a (dE X.K false τ (.d (.int m))))(h':PE X b (dE X.K false τ (.d (.int n))))(h1:0<=m/\n<2^30)(hn:n-m=d)(hg:Gl X "reversed":=by rfl)(hg':Gl X "range":=by rfl)
   (hs':Do [a,b] X.env=[.(118),(false,eval b X.env)]:=by rfl) (hs2:Do [b] X.env=[(false,eval b X.env)]:=by rfl) (hs:Do [.Call (.Name "range" p') [a,b] [] pos'] X.env=[(false,eval (.Call (.Name "range" p') [a,b] [] pos') X.env)]:=by rfl) :
   PI X tg (.Call (.Name "reversed" p) [.Call (.Name "range" p') [a,b] [] pos'] [] pos) (dI X.K τ (pD (n-1) d)):=
 piW (B0 B.calm hg (B.blt _ .(2)) hg' (B.blt _ .(2)) (ae h (ae h' ag hs2) (by rw[hs',hs2])) hs' hs2 hs) λσ H R ⟨A,H₀,B,S,k⟩=>eQ S λvs H1 e1 d1=>by
   cases d1 with
   | cons d1 r=>
     cases r with
     | cons d2 r=>
       cases r
       cases d1
       cases d2
       exact⟨m,n,d,rfl,h1,hn,k _ H1 e1 (vc (n-1) d)⟩
end Hy
namespace K34
open PySem PySem.Spec PyProof.Rows L2 Hy
open Ev (D Den av aH aL)
noncomputable def upI (L i:Nat):List (Str×Nat):=(ox i).map λa=>("up",L-2-a)
noncomputable def dnI (L x i:Nat):List (Str×Nat):=(ox i).map λa=>("down",L-2-x+a)
noncomputable def wgI (i:Nat):List (Str×Nat):=(ox i).map λa=>("weigh",a)
noncomputable def upP (L b:Nat):List (Str×Nat):=upI L (L-1-b)
noncomputable def dnP (L x:Nat):List (Str×Nat):=dnI L x (x+1)
noncomputable def prU (L a:Nat):List (Str×Nat):=(ox a).flatMap (upP L)
noncomputable def prW (L a:Nat):List (Str×Nat):=prU L (L-1)++wgI a
noncomputable def prD (L a:Nat):List (Str×Nat):=prW L L++(ox a).flatMap (dnP L)
noncomputable def rZ (ps:List Int)(ss:List Stp)(p:Str×Nat):List Stp:=ss++[(p.1,p.2,wgt (ps.getD ss.length 0) 0)]
noncomputable def mkS (ps:List Int)(pt:List (Str×Nat)):List Stp:=pt.foldl (rZ ps) []
theorem Ba (ps:List Int)(pt:List (Str×Nat))(p:Str×Nat):mkS ps (pt++[p])=rZ ps (mkS ps pt) p:=by
 unfold mkS;rw[JH];rfl
theorem qB (ps:List Int):∀(pt:List (Str×Nat)) (ss:List Stp),(pt.foldl (rZ ps) ss).length=ss.length+pt.length
 | [],_=>rfl
 | p::pt,ss=>by
   rw[KG,qB ps pt];unfold rZ;simp;omega
theorem oX (ps:List Int)(pt:List (Str×Nat)):(mkS ps pt).length=pt.length:=by
 unfold mkS;rw[qB];simp
theorem qE (ps:List Int){Q:Stp->Prop}:∀(pt:List (Str×Nat)) (ss:List Stp),(∀s∈ss,Q s)->(∀p∈pt,∀x,Q (p.1,p.2,wgt x 0))->∀s∈pt.foldl (rZ ps) ss,Q s
 | [],_,h,_=>h
 | p::pt,ss,h,g=>qE ps pt _ (λs hs=>by
     unfold rZ at hs;rcases x3.mp hs with z | z
     . exact h s z
     . rw[gV]at z;rw[z];exact g p .(5) _) λq hq=>g q (Et _ hq)
theorem Eb:∀L,L<8->((prD L (L-1)).all λp=>(decide (p.1 = "weigh")&&decide (p.2<L))||((decide (p.1 = "down")||decide (p.1 = "up"))&&decide (p.2+1<L)))=true/\(prD L (L-1)).length<=49:=by decide +kernel
theorem Ds:∀L,L<8->∀a,a<7->(prU L a).length+(L-1-a)<=21+(if L-1<a then 49 else 0):=by decide +kernel
theorem D4:∀L,L<8->(prU L (L-1)).length+L<=28:=by decide +kernel
theorem Dj:∀L,L<8->∀a,a<L-1->(prD L a).length+(a+1)<=49:=by decide +kernel
theorem EF (ps:List Int)(h5:5<=L)(h7:L<=7)(r1:1<=R)(rL:R<=L)(c1:1<=C)(cL:C<=L):Ld 147 196 L R C (mkS ps (prD L (L-1))):=by
 obtain⟨h1,h2⟩:=Eb L .(0);have hl:(mkS ps (prD L (L-1))).length<=49:=by rw[oX]; exact h2
 have hk:∀s∈mkS ps (prD L (L-1)),okS L s/\Wq 3 s.2.2:=qE ps _ [] (λ_ z=>(nomatch z)) λp hp x=>by
   have:=IM.mp h1 p hp;simp only[Bool.or_eq_true,Iy,decide_eq_true_eq]at this;exact⟨⟨(yk x .(2)).1,this⟩,Ed x⟩
 refine⟨⟨by omega,h7,r1,rL,c1,cL,by omega,λi hi=>(hk _ (bH hi)).1⟩,λ_=>3,λst m=>(hk st m).2,?_,?_⟩
 . rw[iG]; omega
 . rw[iG]; omega
noncomputable def fuP (c:Int):List Int:=nums c (HY 49 28)
def kY (ds:List D)(r:Sl):Prop:=∃(c:Int) (L:Nat),ds=[.int c,.int (L:Nat)]/\5<=L/\L<=7/\r=.o ((mkS (fuP c) (prD L (L-1))).map stD)
section
variable {P:FB}{w:World}{K:fw}{mg:Str->Option Value}{base:Heap}{k:Nat}{f:Addr}{fd:GE}{qual:Str}
set_option maxHeartbeats 2000000 in
theorem wy (F:Fun K "_law_full" qual (top 59) f fd)(hb:∀x∈aD,mg x=none)(c_l_numbers:Cal P w K mg base k "_law_numbers" c8)(c_l_weight:Cal P w K mg base k "_law_weight" i4):a8 P w K mg base CX0 (k+1) f fd ["_law_cell_here","_law_tracks"] (spD K kY):=by
 refine fnD F nB hb (by rintro _ _ ⟨_,_,rfl,_⟩; rfl) ?_;rintro _ _ ⟨c,L,rfl,h5,h7,rfl⟩ cdv A outer s H E b;have nd:=nB.nd;have eb:(HY (49:Int).toNat [D.int 28]).flatten=(HY 49 28).map D.int:=rfl;refine aN 2 nd (bE (x_call b c_l_numbers (ae (aa 0) (ae (by rw[<- eb]; exact bE (yx (bE (cM (ae af ag))) af .(2) .(2) .(2))) ag)) ⟨c,HY 49 28,rfl,by decide,λx hx=>?_,rfl⟩)) ?_
 . obtain⟨_,rfl⟩:=List.mem_replicate.mp hx;exact wA .(2) .(2)
 have ln:(fuP c).length=49:=by unfold fuP; rw[mC]; rfl
 show PSs _ _ (dS K [_,_,.d (.lst ((fuP c).map D.int)),_,_,_] _);generalize fuP c=ps at ln ⊢;refine aN 3 nd (cM ag) ?_
 have wt:∀(pt:List (Str×Nat)),pt.length<49->atI (ps.map D.int) ((mkS ps pt).map stD).length=some (.int (ps.getD (mkS ps pt).length 0)):=λpt h=>by
   rw[bp,oX];exact atR .(0)
 have sd:∀(pt:List (Str×Nat)) (u:Str) (n:Nat),(mkS ps pt).map stD++[D.tup [.str u,.int (n:Nat),frD (wgt (ps.getD (mkS ps pt).length 0) 0)]]=(mkS ps (pt++[(u,n)])).map stD:=λpt u n=>by
   rw[Ba];unfold rZ;rw[HB];rfl
 have c0:∀(pt:List (Str×Nat)),((mkS ps pt).map stD).length=pt.length:=λpt=>by rw[bp,oX]
 refine bP 4 (λa τ=>∃s4 s5,τ=[.d (.int c),.d (.int (L:Nat)),.d (.lst (ps.map D.int)),.o ((mkS ps (prU L a)).map stD),s4,s5]) b nd (fH b (aI (aa 1) af bO) .(0) .(0)) ft ⟨_,_,rfl⟩ (λa ha τ h=>?_) λτ h=>?_
 . obtain⟨s4,s5,rfl⟩:=h;rw[aP]at ha;have ha:a<L-1:=by omega
   have l1:=Ds L .(0) a .(0);rw[if_neg .(0)]at l1;refine bP 5 (g:=λi=>.int ((L-2-i:Nat):Int)) (λi τ=>∃s5,τ=[.d (.int c),.d (.int (L:Nat)),.d (.lst (ps.map D.int)),.o ((mkS ps (prU L a++upI L i)).map stD),.d (.int (a:Nat)),s5]) b nd (Hc (L-1-a) b (aa 4) (aI (aa 1) af bO) .(11) .(0)) (λi hi=>by rw[oq]; rw[cI]at hi; exact congrArg D.int .(0)) ⟨_,by rw[show upI L 0=[] from rfl,Io]; rfl⟩ (λi hi τ h=>?_) λτ h=>?_
   . obtain⟨s5',rfl⟩:=h;rw[cI]at hi;have hp:(prU L a++upI L i).length<49:=by unfold upI; rw[vp,bp,Iw]; omega
     refine nY (xs:=(mkS ps (prU L a++upI L i)).map stD) 3 .(111) (by rw[c0]; omega) (aV ⟨.d (.int ((L-2-i:Nat):Int)),?_⟩);rw[sd,Ij];unfold upI;rw[Iz,HB];rfl
   . obtain⟨s5',rfl⟩:=h;rw[cI];refine aV ⟨.d (.int (a:Nat)),s5',?_⟩;rw[show prU L (a+1)=prU L a++upI L (L-1-a) by unfold prU; rw[Iz,Jw]; simp[upP]]
 obtain⟨s4,s5,rfl⟩:=h;rw[aP,show ((L:Int)-1).toNat=L-1 by omega];have l2:=D4 L .(0);refine bP 5 (λa τ=>∃s4 s5,τ=[.d (.int c),.d (.int (L:Nat)),.d (.lst (ps.map D.int)),.o ((mkS ps (prW L a)).map stD),s4,s5]) b nd (fH b (aa 1) .(0) .(0)) ft ⟨_,_,by rw[show prW L 0=prU L (L-1) from Io _]⟩ (λa ha τ h=>?_) λτ h=>?_
 . obtain⟨s4,s5,rfl⟩:=h;rw[aP]at ha;have ha:a<L:=by omega
   have hp:(prW L a).length<49:=by unfold prW wgI; rw[vp,bp,Iw]; omega
   refine nY (xs:=(mkS ps (prW L a)).map stD) 3 .(111) (by rw[c0]; omega) (aV ⟨s4,.d (.int (a:Nat)),?_⟩);rw[sd];unfold prW wgI;rw[Ij,Iz,HB];rfl
 obtain⟨s4,s5,rfl⟩:=h;rw[aP,show (L:Int).toNat=L by omega];refine bP 4 (g:=λa=>.int ((L-2-a:Nat):Int)) (λa τ=>∃s4 s5,τ=[.d (.int c),.d (.int (L:Nat)),.d (.lst (ps.map D.int)),.o ((mkS ps (prD L a)).map stD),s4,s5]) b nd (Fo (n:=L-1) b (by rw[show ((L-1:Nat):Int)=(L:Int)-1 by omega]; exact aI (aa 1) af bO) .(0)) (λi hi=>by rw[FH i hi]; exact congrArg D.int .(0)) ⟨_,_,by unfold prD; rw[List.range_zero,List.flatMap_nil,Io]⟩ (λa ha τ h=>?_) λτ h=>?_
 . obtain⟨s4,s5,rfl⟩:=h;rw[gf]at ha;have l3:=Dj L .(0) a ha;refine bP 5 (g:=λi=>.int ((L-2-a+i:Nat):Int)) (λi τ=>∃s5,τ=[.d (.int c),.d (.int (L:Nat)),.d (.lst (ps.map D.int)),.o ((mkS ps (prD L a++dnI L a i)).map stD),.d (.int ((L-2-a:Nat):Int)),s5]) b nd (sW b (aa 4) (aI (aa 1) af bO) .(14)) (λi hi=>by rw[ji]; exact congrArg D.int .(0)) ⟨_,by rw[show dnI L a 0=[] from rfl,Io]; rfl⟩ (λi hi τ h=>?_) λτ h=>?_
   . obtain⟨s5',rfl⟩:=h;rw[aP]at hi;have hi:i<a+1:=by omega
     have hp:(prD L a++dnI L a i).length<49:=by unfold dnI; rw[vp,bp,Iw]; omega
     refine nY (xs:=(mkS ps (prD L a++dnI L a i)).map stD) 3 .(111) (by rw[c0]; omega) (aV ⟨.d (.int ((L-2-a+i:Nat):Int)),?_⟩);rw[sd,Ij];unfold dnI;rw[Iz,HB];rfl
   . obtain⟨s5',rfl⟩:=h;rw[aP,show ((L:Int)-1-((L-2-a:Nat):Int)).toNat=a+1 by omega];refine aV ⟨.d (.int ((L-2-a:Nat):Int)),s5',?_⟩;rw[show prD L (a+1)=prD L a++dnI L a (a+1) by unfold prD; rw[Iz (n:=a),Jw,Ij]; simp[dnP]]
 obtain⟨s4,s5,rfl⟩:=h;rw[gf];exact px 3 rfl
end
end K34
namespace Hy
open PySem PySem.Spec PyProof.Rows L2
open Ev (D Den av aq aY aR)
section
variable {X:Cx}{τ:List Sl}{ia ia2 ib ib2:Expr}{N:Po}{rest:List Stmt}{xs:List Nd}{xa xb:Nd}{l0:Nat}
theorem AL (i:Nat){tn:Str}{za zb:Int}{a b:Nat}{p1 p2 p3 p4 p5 p6 p7 p8 pv pt s1:Pos}{mv mt}(Bq:Bk X l0)(hi:τ[i]?=some (.n (.l xs)))
   (h1:PE X ib (dE X.K false τ (.d (.int zb)))) (h2:PE X ia (dE X.K false τ (.d (.int za)))) (h3:PE X ia2 (dE X.K false τ (.d (.int za)))) (h4:PE X ib2 (dE X.K false (τ.set i .un) (.d (.int zb))))
   (ea:ixN xs.length za=some a) (eb:ixN xs.length zb=some b) (fa:xs[a]?=some xa) (fb:xs[b]?=some xb)
   (hr:PSs X rest (dS X.K (τ.set i (.n (.l ((xs.set a xb).set b xa)))) N))
   (hNi:X.N[i]?=some tn:=by rfl) (hvi:Vis X.env.scope tn:=by first | exact JM rfl | exact IH .(9) | exact IH .(8))
   (hd1:(tn==("__debug__" : Str))=false:=by decide) (hd2:(tn==("__classdict__" : Str))=false:=by decide)
   (pa:du ia:=by exact λ_ _=>rfl) (pb:du ib:=by exact λ_ _=>rfl)
   (r1:Do [.Subscript (.Name tn p1) ib p2,.Subscript (.Name tn p3) ia p4] X.env=(false,eval (.Subscript (.Name tn p1) ib p2) X.env)::Do [.Subscript (.Name tn p3) ia p4] X.env:=by rfl)
   (r2:Do [.Subscript (.Name tn p3) ia p4] X.env=(false,eval (.Subscript (.Name tn p3) ia p4) X.env)::Do [] X.env:=by rfl)
   (w2:Ng [.Tuple [.Subscript (.Name tn p5) ia2 p6,.Subscript (.Name tn p7) ib2 p8] mt pt] (.Tuple [.Subscript (.Name tn p1) ib p2,.Subscript (.Name tn p3) ia p4] mv pv) s1.line X.env=pure false:=by rfl)
   (w3:Nh [.Tuple [.Subscript (.Name tn p5) ia2 p6,.Subscript (.Name tn p7) ib2 p8] mt pt] (.Tuple [.Subscript (.Name tn p1) ib p2,.Subscript (.Name tn p3) ia p4] mv pv) X.env=pure none:=by rfl)
   (w4:(KF [.Tuple [.Subscript (.Name tn p5) ia2 p6,.Subscript (.Name tn p7) ib2 p8] mt pt] X.env).map (·.2)=[assign (.Tuple [.Subscript (.Name tn p5) ia2 p6,.Subscript (.Name tn p7) ib2 p8] mt pt) X.env]:=by rfl)
   (w5:∀v,assign (.Subscript (.Name tn p5) ia2 p6) X.env v=(do
     let ov <- M6 [v] (eval (.Name tn p5) X.env)
     let iv <- M6 [v,ov] (eval ia2 X.env)
     Nu p6
     M6 [v,ov,iv] (Nv ov iv v)
     NJ [v,ov,iv] []):=by intro _; rfl)
   (w9:∀v,assign (.Subscript (.Name tn p7) ib2 p8) X.env v=(do
     let ov <- M6 [v] (eval (.Name tn p7) X.env)
     let iv <- M6 [v,ov] (eval ib2 X.env)
     Nu p8
     M6 [v,ov,iv] (Nv ov iv v)
     NJ [v,ov,iv] []):=by intro _; rfl)
   (hl:(KF [.Subscript (.Name tn p5) ia2 p6,.Subscript (.Name tn p7) ib2 p8] X.env).length=2:=by rfl) (hst:(KF [.Subscript (.Name tn p5) ia2 p6,.Subscript (.Name tn p7) ib2 p8] X.env).findIdx? (·.1)=none:=by rfl) :
   PSs X (.Assign [.Tuple [.Subscript (.Name tn p5) ia2 p6,.Subscript (.Name tn p7) ib2 p8] mt pt] (.Tuple [.Subscript (.Name tn p1) ib p2,.Subscript (.Name tn p3) ia p4] mv pv) s1::rest) .(114):=by
 refine bw (M:=(·=τ.set i (.n (.l ((xs.set a xb).set b xa))))) (psW (jL (k7 (bj (iw (dZ i hi hNi hvi hd1 hd2) h1 hi rfl eb pb) (bj (iw (dZ i hi hNi hvi hd1 hd2) h2 hi rfl ea pa) cB r2) r1)) (oH (n:=2) Bq.calm (dR (iO (dZ i hi hNi hvi hd1 hd2) h3 set_list w5) (dR (iO (bo hNi hvi hd1 hd2) h4 set_list w9) kM)) hl hst) w2 w3 w4) λD σ H ⟨A,H₀,B,S,Me⟩=>?_) λ_ e=>e▸hr
 refine⟨A,H₀,B,S,λu vb H1 eu e1 pv=>⟨A,H₀,B,S.mono e1,λu2 va H2 eu2 e2 pv2=>?_⟩⟩;rw[eu]at eu2;cases eu2
 have S2:=(S.mono e1).mono e2;refine⟨(show 2<=sizeLine by decide),λpp hp=>?_⟩;have e3:=aq hp (.tup [vb,va]);have S3:=S2.mono e3;refine⟨pp,[vb,va],rfl,SqT.of aK,rfl,vb,[va],rfl,A,H₀,B,S3,λu3 w H4 eu3 e4 pv3=>aU (S3.mono e4) λy H5 e5 d5=>?_⟩;rw[eu]at eu3;cases eu3
 cases d5
 cases pv3
 have S5:=(S3.mono e4).mono e5;obtain⟨u',l,vs,bs0,eu',pv',hH,r0,nd0,hal,hown,put⟩:=S5.putN (p:=[]) hi rfl;rw[eu]at eu';cases eu'
 cases pv'
 have lv:=r0.length
 have vb1:vs[b]?=some vb:=by
   obtain⟨a',vs',w,z1,z2,z3,z4⟩:=(((pv.mono e2).mono e3).mono e4).mono e5;cases z1
   cases z4
   rcases z2 with z2 | z2 <;> rw[hH]at z2 <;> cases z2
   exact z3
 have va1:vs[a]?=some va:=by
   obtain⟨a',vs',w,z1,z2,z3,z4⟩:=((pv2.mono e3).mono e4).mono e5;cases z1
   cases z4
   rcases z2 with z2 | z2 <;> rw[hH]at z2 <;> cases z2
   exact z3
 refine⟨l,vs,za,a,rfl,rfl,hH,by rw[lv]; exact ea,?_⟩
 have hlB:l∈B i:=by
   obtain⟨_,u9,e9,ok⟩:=S5.sl i _ hi;rw[eu]at e9;cases e9
   generalize B i=bi at ok;cases ok with
   | l _ _=>exact Ih ..
 have f0:H₀ l=none:=S5.fr i l hlB;have sub:∀c,own A (upB B i []) c->own A B c:=λc z=>z.elim .inl λ⟨k,z⟩=>(ba z).elim (λz=>nomatch z.2) λz=>.inr ⟨k,z.2⟩
 have sm:∀vs',ao (hd H5 (own A B)) (hd (upd H5 l (.lst vs')) (own A (upB B i []))):=λvs' c o z=>by
   obtain⟨z1,z2⟩:=au.mp z;exact au.mpr ⟨λy=>z1 (sub c y),by rw[aE (λy:c=l=>z1 (by rw[y]; exact hal))]; exact z2⟩
 have Sm:Sta X.K A H₀ (τ.set i .un) (upB B i []) σ (upd H5 l (.lst (vs.set a vb))):=by
   refine⟨λc o z=>?_,S5.len.trans HV.symm,λk s hk=>?_,λk c hc=>?_,λk k' c z1 z2=>?_,S5.ad,λk c hc=>?_⟩
   . rw[aE (λy:c=l=>by rw[y,f0]at z; cases z)]; exact S5.same _ _ z
   . by_cases ek:k=i
     . subst ek;rw[Ic (rp.mp hi).1]at hk;cases hk
       unfold upB;rw[if_pos rfl];exact rfl
     . rw[HI (λz=>ek z.symm)]at hk;have:=(S5.sl k s hk).frame (G':=hd (upd H5 l (.lst (vs.set a vb))) (own A (upB B i []))) (H':=upd H5 l (.lst (vs.set a vb))) (sm _) (λc hc=>aE (λy=>ek (S5.uq k i l (y▸hc) hlB)));unfold upB;rw[if_neg ek];exact this
   . exact(ba hc).elim (λz=>nomatch z.2) λz=>S5.fr k c z.2
   . rcases ba z1 with ⟨_,z⟩ | ⟨_,z⟩
     . cases z
     . rcases ba z2 with ⟨_,z'⟩ | ⟨_,z'⟩
       . cases z'
       . exact S5.uq k k' c z z'
   . rcases ba hc with ⟨_,z⟩ | ⟨n1,z⟩
     . cases z
     . obtain⟨o,q⟩:=S5.bd k c z;exact⟨o,by rw[aE (λy:c=l=>n1 (S5.uq k i l (y▸z) hlB))]; exact q⟩
 refine⟨va,[],rfl,_,slot_of eu,aU Sm λy2 H6 e6 d6=>?_⟩;cases d6
 have hH6:H6 l=some (.lst (vs.set a vb)):=e6 _ _ aK;refine⟨l,vs.set a vb,zb,b,rfl,rfl,hH6,by rw[HV,lv]; exact eb,?_⟩;obtain⟨bs',pm,r1⟩:=r0.swap va1 vb1 fa fb;have ee:∀o,upd H6 l o=upd (upd H6 l (.lst vs)) l o:=λo=>vm.symm
 have sH:ao H5 (upd H6 l (.lst vs)):=λc o z=>by
   by_cases q:c=l
   . rw[q]at z ⊢; rw[hH]at z; cases z; exact aK
   . rw[aE q]; exact e6 _ _ (by rw[aE q]; exact z)
 rw[ee]
 have fr:∀c o,c≠l->H5 c=some o->upd (upd H6 l (.lst vs)) l (.lst ((vs.set a vb).set b va)) c=some o:=λc o q z=>by
   rw[aE q]; exact sH _ _ z
 obtain⟨B9,S9⟩:=put (H1:=upd H6 l (.lst vs)) (vs':=(vs.set a vb).set b va) (bs1:=bs') (xs':=(xs.set a xb).set b xa) sH (pm.nodup_iff.mpr nd0) (λc hc=>.inl (pm.mem_iff.mp hc)) (r1.frame (λc o z=>by
     obtain⟨z1,z2⟩:=au.mp z
     refine au.mpr ⟨λy=>z1 (y.elim id λy=>(hown c (pm.mem_iff.mp y)).1),fr c o (λy=>z1 (by rw[y]; exact hal)) z2⟩) λc hc=>by
       obtain⟨o,q⟩:=r0.some_of c (pm.mem_iff.mp hc);rw[fr c o (hown c (pm.mem_iff.mp hc)).2 q,q])
 exact⟨rfl,Me.nx _ B9 _ _ rfl S9⟩
end
section
variable {X:Cx}{τ:List Sl}{ia ia2 ib ib2 o:Expr}{i j k l0:Nat}{t:Nd}{ds:List D}
theorem C9 {rn:Str}{za zb:Int}{a b:Nat}{xa xb:D}{p1 p2 p3 p4 p5 p6 p7 p8 pv pt s1:Pos}{mv mt}(Bq:Bk X l0)(hi:τ[i]?=some (.n t))(hp:dg [k] t=some (.l (ds.map .d)))
   (h1:PE X ib (dE X.K false τ (.d (.int zb)))) (h2:PE X ia (dE X.K false τ (.d (.int za)))) (h3:PE X ia2 (dE X.K false τ (.d (.int za)))) (h4:PE X ib2 (dE X.K false (τ.set i (.n (cH [k] t (.l ((ds.set a xb).map .d))))) (.d (.int zb))))
   (ea:ixN ds.length za=some a) (eb:ixN ds.length zb=some b) (fa:ds[a]?=some xa) (fb:ds[b]?=some xb)
   (hNj:X.N[j]?=some rn:=by rfl) (hvj:Vis X.env.scope rn:=by first | exact JM rfl | exact IH .(9) | exact IH .(8))
   (hd1:(rn==("__debug__" : Str))=false:=by decide) (hd2:(rn==("__classdict__" : Str))=false:=by decide)
   (pa:du ia:=by exact λ_ _=>rfl) (pb:du ib:=by exact λ_ _=>rfl)
   (r1:Do [.Subscript (.Name rn p1) ib p2,.Subscript (.Name rn p3) ia p4] X.env=(false,eval (.Subscript (.Name rn p1) ib p2) X.env)::Do [.Subscript (.Name rn p3) ia p4] X.env:=by rfl)
   (r2:Do [.Subscript (.Name rn p3) ia p4] X.env=(false,eval (.Subscript (.Name rn p3) ia p4) X.env)::Do [] X.env:=by rfl)
   (w2:Ng [.Tuple [.Subscript (.Name rn p5) ia2 p6,.Subscript (.Name rn p7) ib2 p8] mt pt] (.Tuple [.Subscript (.Name rn p1) ib p2,.Subscript (.Name rn p3) ia p4] mv pv) s1.line X.env=pure false:=by rfl)
   (w3:Nh [.Tuple [.Subscript (.Name rn p5) ia2 p6,.Subscript (.Name rn p7) ib2 p8] mt pt] (.Tuple [.Subscript (.Name rn p1) ib p2,.Subscript (.Name rn p3) ia p4] mv pv) X.env=pure none:=by rfl)
   (w4:(KF [.Tuple [.Subscript (.Name rn p5) ia2 p6,.Subscript (.Name rn p7) ib2 p8] mt pt] X.env).map (·.2)=[assign (.Tuple [.Subscript (.Name rn p5) ia2 p6,.Subscript (.Name rn p7) ib2 p8] mt pt) X.env]:=by rfl)
   (w5:∀v,assign (.Subscript (.Name rn p5) ia2 p6) X.env v=(do
     let ov <- M6 [v] (eval (.Name rn p5) X.env)
     let iv <- M6 [v,ov] (eval ia2 X.env)
     Nu p6
     M6 [v,ov,iv] (Nv ov iv v)
     NJ [v,ov,iv] []):=by intro _; rfl)
   (w9:∀v,assign (.Subscript (.Name rn p7) ib2 p8) X.env v=(do
     let ov <- M6 [v] (eval (.Name rn p7) X.env)
     let iv <- M6 [v,ov] (eval ib2 X.env)
     Nu p8
     M6 [v,ov,iv] (Nv ov iv v)
     NJ [v,ov,iv] []):=by intro _; rfl)
   (hl:(KF [.Subscript (.Name rn p5) ia2 p6,.Subscript (.Name rn p7) ib2 p8] X.env).length=2:=by rfl) (hst:(KF [.Subscript (.Name rn p5) ia2 p6,.Subscript (.Name rn p7) ib2 p8] X.env).findIdx? (·.1)=none:=by rfl) :
   PS X (.Assign [.Tuple [.Subscript (.Name rn p5) ia2 p6,.Subscript (.Name rn p7) ib2 p8] mt pt] (.Tuple [.Subscript (.Name rn p1) ib p2,.Subscript (.Name rn p3) ia p4] mv pv) s1) (dSL X.K τ i j k (τ.set i (.n (cH [k] t (.l (((ds.set a xb).set b xa).map .d)))))):=by
 have lm:(ds.map Nd.d).length=ds.length:=bp ..;refine psW (jL (k7 (bj (BQ (pt:=[]) (m:=b) (oe hNj hvj hd1 hd2) h1 hi hp (by rw[lm]; exact eb) pb) (bj (BQ (pt:=[]) (m:=a) (oe hNj hvj hd1 hd2) h2 hi hp (by rw[lm]; exact ea) pa) cB r2) r1)) (oH (n:=2) Bq.calm (dR (iO (oe (τ:=τ) (i:=i) (k:=k) hNj hvj hd1 hd2) h3 set_list w5) (dR (iO (oe (τ:=τ.set i (.n (cH [k] t (.l ((ds.set a xb).map .d))))) (i:=i) (k:=k) hNj hvj hd1 hd2) h4 set_list w9) kM)) hl hst) w2 w3 w4) λDn σ H ⟨A,H₀,B,S,P,fin⟩=>?_
 refine⟨A,H₀,B,S,P,λu vb H1 eu e1 pvb=>⟨A,H₀,B,S.mono e1,P.mono e1,λu2 va H2 eu2 e2 pva=>?_⟩⟩;rw[eu]at eu2;cases eu2
 have S2:=(S.mono e1).mono e2;refine⟨(show 2<=sizeLine by decide),λpp hpp=>?_⟩;have e3:=aq hpp (.tup [vb,va]);have S3:=S2.mono e3;have P3:=((P.mono e1).mono e2).mono e3;refine⟨pp,[vb,va],rfl,SqT.of aK,rfl,vb,[va],rfl,A,H₀,B,S3,P3,λu3 w H4 eu3 e4 pv3=>aU (S3.mono e4) λy H5 e5 d5=>?_⟩;rw[eu]at eu3;cases eu3
 cases d5
 have S5:=(S3.mono e4).mono e5;have P5:=(P3.mono e4).mono e5;obtain⟨u',l,vs,bs0,eu',pv',hH,r0,nd0,hal,hown,put⟩:=S5.putN hi hp;rw[eu]at eu';cases eu'
 obtain rfl:=(pv3.mono e5).det pv';obtain⟨dl,rfl⟩:=iJ r0
 have rd:∀{v:V} {m:Nat} {x:D},cQ H5 [k,m] u v->ds[m]?=some x->vs[m]?=some v/\Den X.K (hd H5 (own A B)) v x:=λ{v m x} z e=>by
   obtain⟨a1,vs1,w1,q1,q2,q3,a2,vs2,w2,q4,q5,q6,q7⟩:=z;obtain⟨a1',vs1',w1',z1,z2,z3,z4⟩:=pv';rw[q1]at z1;cases z1
   have:vs1=vs1':=by rcases q2 with q2 | q2 <;> rcases z2 with z2 | z2 <;> rw[q2]at z2 <;> cases z2 <;> rfl
   subst this;rw[q3]at z3;cases z3
   cases z4
   cases q4
   have:vs2=vs:=by rcases q5 with q5 | q5 <;> rw[hH]at q5 <;> cases q5; rfl
   subst this;cases q7
   obtain⟨v',e',d'⟩:=dl.get e;rw[q6]at e';cases e'
   exact⟨q6,d'⟩
 obtain⟨_,db⟩:=rd ((((pvb.mono e2).mono e3).mono e4).mono e5) fb;obtain⟨_,da⟩:=rd (((pva.mono e3).mono e4).mono e5) fa;refine⟨l,vs,za,a,rfl,rfl,hH,by rw[dl.length]; exact ea,?_⟩
 have sm:∀vs',ao (hd H5 (own A B)) (hd (upd H5 l (.lst vs')) λb=>own A B b\/b∈([]:List Addr)):=λvs' b o z=>by
   obtain⟨z1,z2⟩:=au.mp z;exact au.mpr ⟨(λy=>y.elim z1 λy=>(nomatch y)),by rw[aE (λy:b=l=>z1 (by rw[y]; exact hal))]; exact z2⟩
 obtain⟨B',S'⟩:=put (H1:=H5) (vs':=vs.set a vb) (bs1:=[]) (xs':=(ds.set a xb).map .d) .(102) JO (λ_ z=>nomatch z) (lT ((fZ a dl db).mono (sm _)))
 have P':Pj σ (upd H5 l (.lst (vs.set a vb))) i j k:=by
   obtain⟨r,rs,v',f1,f2,f3,f4⟩:=P5;rw[f1]at eu;cases eu
   have ne:=S5.below hi hp f1 pv';exact⟨r,rs,v',f1,by rw[aE (ID ne)]; exact f2,f3,f4⟩
 refine⟨va,[],rfl,A,H₀,B',S',P',λu6 w6 H6 eu6 e6 pv6=>aU (S'.mono e6) λy2 H7 e7 d7=>?_⟩;rw[eu]at eu6;cases eu6
 cases d7
 have hw:w6=.ref l:=by
   obtain⟨r,rs,v',f1,f2,f3,f4⟩:=P5;rw[f1]at eu;cases eu
   have ne:=S5.below hi hp f1 pv';obtain⟨a1,vs1,w1,q1,q2,q3,q4⟩:=pv6;cases q1
   cases q4
   obtain⟨a2,vs2,w2,z1,z2,z3,z4⟩:=pv';cases z1
   cases z4
   have g1:H6 r=some (.lst rs):=e6 _ _ (by rw[aE (ID ne)]; exact f2);have:vs1=rs:=by rcases q2 with q2 | q2 <;> rw[g1]at q2 <;> cases q2; rfl
   subst this;have:vs2=vs1:=by rcases z2 with z2 | z2 <;> rw[f2]at z2 <;> cases z2; rfl
   subst this;rw[z3]at q3;cases q3
   rfl
 subst hw;have e67:=e6.trans e7;have hH7:H7 l=some (.lst (vs.set a vb)):=e67 _ _ aK;refine⟨l,vs.set a vb,zb,b,rfl,rfl,hH7,by rw[HV,dl.length]; exact eb,?_⟩;have ee:∀o,upd H7 l o=upd (upd H7 l (.lst vs)) l o:=λo=>vm.symm
 have sH:ao H5 (upd H7 l (.lst vs)):=λc o z=>by
   by_cases q:c=l
   . rw[q]at z ⊢; rw[hH]at z; cases z; exact aK
   . rw[aE q]; exact e67 _ _ (by rw[aE q]; exact z)
 rw[ee]
 have sm9:ao (hd H5 (own A B)) (hd (upd (upd H7 l (.lst vs)) l (.lst ((vs.set a vb).set b va))) λb=>own A B b\/b∈([]:List Addr)):=λc o z=>by
   obtain⟨z1,z2⟩:=au.mp z;exact au.mpr ⟨(λy=>y.elim z1 λy=>(nomatch y)),by rw[aE (λy:c=l=>z1 (by rw[y]; exact hal))]; exact sH _ _ z2⟩
 obtain⟨B9,S9⟩:=put (H1:=upd H7 l (.lst vs)) (vs':=(vs.set a vb).set b va) (bs1:=[]) (xs':=((ds.set a xb).set b xa).map .d) sH JO (λ_ z=>nomatch z) (lT ((fZ b (fZ a dl db) da).mono sm9))
 have P9:Pj σ (upd (upd H7 l (.lst vs)) l (.lst ((vs.set a vb).set b va))) i j k:=by
   obtain⟨r,rs,v',f1,f2,f3,f4⟩:=P5;rw[f1]at eu;cases eu
   have ne:=S5.below hi hp f1 pv';exact⟨r,rs,v',f1,by rw[aE (ID ne)]; exact sH _ _ f2,f3,f4⟩
 exact⟨rfl,fin B9 σ _ S9 P9 rfl⟩
end
end Hy
namespace K34
open PySem PySem.Spec PyProof.Rows L2 Hy
open Ev (D Den av aH aL)
noncomputable def btP (c:Int):List Int:=nums c [6,7,7,7,114]
noncomputable def btI (p:Int)(n:Nat):Nat:=(p.fmod (n:Int)).toNat
theorem dX (h:1<=n):btI p n<n:=by
 have:=fmn (a:=p) (b:=(n:Int)) .(0);unfold btI;omega
theorem pw (h:1<=n):p.fmod (n:Int)=((btI p n:Nat):Int):=by
 have:=fmn (a:=p) (b:=(n:Int)) .(0);unfold btI;omega
noncomputable def bt1 (p0:Int)(M:List .(123))(i j:Nat)(q:Rat):List .(123):=if p0=1 then qF M i j q else M
noncomputable def bt2 (p0:Int)(M:List .(123))(i j:Nat):List .(123):=if p0=2 then qF M i j (-(.(108).getD j 0)) else M
noncomputable def bt3 (p0:Int)(M:List .(123))(a b:Nat):List .(123):=if p0=3 then tE M a b else M
noncomputable def bt4 (p0:Int)(M:List .(123))(a b:Nat):List .(123):=if p0=4 then M.map (mh a b) else M
noncomputable def btX (p:List Int)(R C:Nat)(M:List .(123)):List .(123):=
 bt4 (p.getD 0 0) (bt3 (p.getD 0 0) (bt2 (p.getD 0 0) (bt1 (p.getD 0 0) M (btI (p.getD 1 0) R) (btI (p.getD 2 0) C) (nmQ 0 (p.getD 4 0))) (btI (p.getD 1 0) R) (btI (p.getD 2 0) C)) (btI (p.getD 1 0) R) (btI (p.getD 3 0) R)) (btI (p.getD 2 0) C) (btI (p.getD 3 0) C)
section
variable {R C d v i j a b:Nat}{p0:Int}{M:List .(123)}
theorem yC (h:Oq R C d v M)(hi:i<R)(hq:Qs d v q):Oq R C d v (bt1 p0 M i j q):=by
 unfold bt1;split
 . exact h.put hi hq
 . exact h
theorem xD (h:Oq R C d v M)(hi:i<R)(hj:j<C):Oq R C d v (bt2 p0 M i j):=by
 unfold bt2;split
 . exact h.put hi (h.cell hi hj).neg
 . exact h
theorem y0 (h:Oq R C d v M)(ha:a<R)(hb:b<R):Oq R C d v (bt3 p0 M a b):=by
 unfold bt3;split
 . exact h.swap ha hb
 . exact h
theorem CP (h:Oq R C d v M)(ha:a<C)(hb:b<C):Oq R C d v (bt4 p0 M a b):=by
 unfold bt4;split
 . exact h.csw ha hb
 . exact h
theorem CA (h:Oq R C d v M)(hd:3<=d)(hv:4<=v):Oq R C d v (btX p R C M):=
 CP (y0 (xD (yC h (dX h.t.r1) ((BK (kd:=0) _).mono hd hv)) (dX h.t.r1) (dX h.t.c1)) (dX h.t.r1) (dX h.t.r1)) (dX h.t.c1) (dX h.t.c1)
end
noncomputable def btS (M0:List .(123))(c:Int)(p:List Int)(M:List .(123))(i j:Nat)(s6:Sl):List Sl:=[.d (tbQ M0),.d (.int c),.d (.lst (p.map D.int)),.n (fB M),.d (.int (i:Nat)),.d (.int (j:Nat)),s6,.un]
def lZ (ds:List D)(r:Sl):Prop:=∃(c:Int) (R C d v:Nat) (M:List .(123)),ds=[tbQ M,.int c]/\Oq R C d v M/\3<=d/\4<=v/\r=.n (fB (btX (btP c) R C M))
theorem tK (M:List .(123)):fzD (.n (fB M))=some (tbQ M):=congrArg some (EJ M)
section
variable {P:FB}{w:World}{K:fw}{mg:Str->Option Value}{base:Heap}{k:Nat}{f:Addr}{fd:GE}{qual:Str}
set_option maxHeartbeats 4000000 in
theorem vU (F:Fun K "_law_bent" qual (top 58) f fd)(hb:∀x∈aD,mg x=none)(c_l_numbers:Cal P w K mg base k "_law_numbers" c8)(c_l_number:Cal P w K mg base k "_law_number" iE):a8 P w K mg base CX0 (k+1) f fd ["_law_table","_law_cell_here"] (spD K lZ):=by
 refine fnD F nN hb (by rintro _ _ ⟨_,_,_,_,_,_,rfl,_⟩; rfl) ?_;rintro _ _ ⟨c,R,C,d,v,M0,rfl,ok,hd3,hv4,rfl⟩ cdv A outer s H E b;have nd:=nN.nd;refine aN 2 nd (bE (x_call b c_l_numbers (ae (aa 1) (ae (bE (cM (ae af (ae af (ae af (ae af (ae af ag))))))) ag)) ⟨c,[6,7,7,7,114],rfl,by decide,λx hx=>?_,rfl⟩)) ?_
 . have:0<x/\x<115:=by
     simp only[HA,Jf,or_false]at hx;omega
   exact wA this.1 .(0)
 have ln:(btP c).length=5:=mC c _;have r1:=ok.t.r1;have r7:=ok.t.r7;have c1:=ok.t.c1;have c7:=ok.t.c7;show PSs _ _ (dS K [_,_,.d (.lst ((btP c).map D.int)),_,_,_,_,_] _);refine Bm 3 nd (ns:=(ox (M0.map rwQ).length).map λi=>.l (((M0.getD i []).map frD).map .d)) (GS 0 (g:=λi=>rwQ (M0.getD i [])) (f:=λi=>.l (((M0.getD i []).map frD).map .d)) b (bD (aa 0)) (dn (f:=rwQ) (xs:=M0) []) (by rw[bp,ok.t.len]; omega) (λi hi s0 H0 fp=>rF .(109) .(110) sQ) λi hi=>rfl) ?_;rw[show (ox (M0.map rwQ).length).map (λi=>Nd.l (((M0.getD i []).map frD).map .d))=M0.map (λr=>Nd.l ((r.map frD).map .d)) from xV (λr:List Rat=>Nd.l ((r.map frD).map .d)) M0 [] .(18)];unfold btX;generalize btP c=p at ln ⊢;have pa:∀i:Nat,i<5->atI (p.map D.int) (i:Int)=some (.int (p.getD i 0)):=λi hi=>atR .(0)
 have row0:∀{M:List .(123)},Oq R C d v M->0<M.length:=λo=>by rw[o.t.len]; exact r1
 have eI:=pw (p:=p.getD 1 0) r1;have eJ:=pw (p:=p.getD 2 0) c1;have eO:=pw (p:=p.getD 3 0) r1;have eU:=pw (p:=p.getD 3 0) c1;have hi:=dX (p:=p.getD 1 0) r1;have hj:=dX (p:=p.getD 2 0) c1;have ho:=dX (p:=p.getD 3 0) r1;have hu:=dX (p:=p.getD 3 0) c1;have lnM:∀{X:Cx} {M:List .(123)},Oq R C d v M->gw X (.builtin "len") [tbQ M] (.d (.int (R:Nat))):=λ{X M} o=>m6 (by rw[bp]; exact o.t.len)
 have lnR:∀{X:Cx} {M:List .(123)},Oq R C d v M->gw X (.builtin "len") [ndD (.l (((M.getD 0 []).map frD).map .d))] (.d (.int (C:Nat))):=λ{X M} o=>by
   show gw X _ [.lst (kC _)] _;rw[pT];exact m6 (by rw[bp]; exact o.t.at_ r1)
 refine aN 4 nd (qQ (aI (aM (aa 2) af (a6 (pa 1 .(2)))) (bh b (ae (jU 3 rfl (tK M0)) ag) (lnM ok)) (bW .(0)))) ?_;rw[eI];refine aN 5 nd (qQ (aI (aM (aa 2) af (a6 (pa 2 .(2)))) (bh b (ae (xW (pt:=[]++[0]) (t:=fB M0) (iw (dZ 3) af rfl rfl (by rw[bp]; exact cP (m:=0) (row0 ok))) rfl (hE (row0 ok))) ag) (lnR ok)) (bW .(0)))) ?_;rw[eJ];generalize hI:btI (p.getD 1 0) R=i at hi ⊢;generalize hJ:btI (p.getD 2 0) C=j at hj ⊢;refine i8 (M:=λτ=>τ=btS M0 c p (bt1 (p.getD 0 0) M0 i j (nmQ 0 (p.getD 4 0))) i j .un) (a9 (aM (aa 2) af (a6 (pa 0 .(2)))) af gB) (λh=>?_) (λh=>?_) λτ h=>?_
 . have h:=of_decide_eq_true h;have hm:i<M0.length:=by rw[ok.t.len]; exact hi
   have hm2:j<(M0.getD i []).length:=by rw[ok.t.at_ hi]; exact hj
   refine xI (pt:=[]++[i]) (t:=fB M0) (ds:=(M0.getD i []).map frD) (j:=j) (x:=frD (nmQ 0 (p.getD 4 0))) (iw (dZ 3) (aa 4) rfl rfl (by rw[bp]; exact cP hm)) (aa 5) (x_call b c_l_number (ae af (ae (aM (aa 2) af (a6 (pa 4 .(2)))) ag)) ⟨0,_,rfl,by decide,rfl⟩) rfl (hE hm) (by rw[bp]; exact cP hm2) (aV ?_);show (btS M0 c p _ _ _ _).set 3 (Sl.n (cH [i] (fB M0) _))=_;rw[uD];unfold bt1;rw[if_pos h];rfl
 . unfold bt1;rw[if_neg (of_decide_eq_false h)];exact aV rfl
 subst h;have o1:=yC (p0:=p.getD 0 0) (j:=j) ok hi ((BK (kd:=0) (p.getD 4 0)).mono hd3 hv4);generalize bt1 (p.getD 0 0) M0 i j (nmQ 0 (p.getD 4 0))=M at o1 ⊢;refine i8 (M:=λτ=>τ=btS M0 c p (bt2 (p.getD 0 0) M i j) i j .un) (a9 (aM (aa 2) af (a6 (pa 0 .(2)))) af gB) (λh=>?_) (λh=>?_) λτ h=>?_
 . have h:=of_decide_eq_true h;have hm:i<M.length:=by rw[o1.t.len]; exact hi
   have hm2:j<.(108).length:=by rw[o1.t.at_ hi]; exact hj
   refine xI (pt:=[]++[i]) (t:=fB M) (ds:=.(108).map frD) (j:=j) (x:=frD (-(.(108).getD j 0))) (iw (dZ 3) (aa 4) rfl rfl (by rw[bp]; exact cP hm)) (aa 5) (by rw[AR]; exact bI (ae (aI af (aM (Fj (iw (iw (dZ 3) (aa 4) rfl rfl (by rw[bp]; exact cP hm)) (aa 5) rfl (hE hm) (by rw[bp,bp]; exact cP hm2)) rfl (qk hm hm2)) af (aQ (aG (i:=0) rfl))) bO) (ae (aM (Fj (iw (iw (dZ 3) (aa 4) rfl rfl (by rw[bp]; exact cP hm)) (aa 5) rfl (hE hm) (by rw[bp,bp]; exact cP hm2)) rfl (qk hm hm2)) af (aQ (aG (i:=1) rfl))) ag))) rfl (hE hm) (by rw[bp]; exact cP hm2) (aV ?_);show (btS M0 c p _ _ _ _).set 3 (Sl.n (cH [i] (fB M) _))=_;rw[uD];unfold bt2;rw[if_pos h];rfl
 . unfold bt2;rw[if_neg (of_decide_eq_false h)];exact aV rfl
 subst h;have o2:=xD (p0:=p.getD 0 0) o1 hi hj;generalize bt2 (p.getD 0 0) M i j=M2 at o2 ⊢;refine i8 (M:=λτ=>∃s6,τ=btS M0 c p (bt3 (p.getD 0 0) M2 i (btI (p.getD 3 0) R)) i j s6) (a9 (aM (aa 2) af (a6 (pa 0 .(2)))) af gB) (λh=>?_) (λh=>?_) λτ h=>?_
 . have h:=of_decide_eq_true h;have hm:i<M2.length:=by rw[o2.t.len]; exact hi
   have hm2:btI (p.getD 3 0) R<M2.length:=by rw[o2.t.len]; exact ho
   refine aN 6 nd (qQ (aI (aM (aa 2) af (a6 (pa 3 .(2)))) (bh b (ae (jU 3 rfl (tK M2)) ag) (lnM o2)) (bW .(0)))) ?_;rw[eO];refine AL 3 (xs:=M2.map λr=>.l ((r.map frD).map .d)) (za:=(i:Int)) (zb:=((btI (p.getD 3 0) R:Nat):Int)) (a:=i) (b:=btI (p.getD 3 0) R) b rfl (aa 6) (aa 4) (aa 4) (aa 6) (by rw[bp]; exact cP hm) (by rw[bp]; exact cP hm2) (qo hm) (qo hm2) (aV ⟨.d (.int (btI (p.getD 3 0) R:Nat)),?_⟩);show (btS M0 c p _ _ _ _).set 3 (Sl.n (Nd.l _))=_;rw[xG];unfold bt3;rw[if_pos h];rfl
 . unfold bt3;rw[if_neg (of_decide_eq_false h)];exact aV ⟨_,rfl⟩
 obtain⟨s6,rfl⟩:=h;have o3:=y0 (p0:=p.getD 0 0) o2 hi ho;generalize bt3 (p.getD 0 0) M2 i (btI (p.getD 3 0) R)=M3 at o3 ⊢;refine i8 (M:=λτ=>∃s6,τ=btS M0 c p (bt4 (p.getD 0 0) M3 j (btI (p.getD 3 0) C)) i j s6) (a9 (aM (aa 2) af (a6 (pa 0 .(2)))) af gB) (λh=>?_) (λh=>?_) λτ h=>?_
 . have h:=of_decide_eq_true h;refine aN 6 nd (qQ (aI (aM (aa 2) af (a6 (pa 3 .(2)))) (bh b (ae (xW (pt:=[]++[0]) (t:=fB M3) (iw (dZ 3) af rfl rfl (by rw[bp]; exact cP (m:=0) (row0 o3))) rfl (hE (row0 o3))) ag) (lnR o3)) (bW .(0)))) ?_;rw[eU];generalize btI (p.getD 3 0) C=o at hu ⊢;refine C4 3 7 (M3.map λr=>.l ((r.map frD).map .d)) ((M3.map (mh j o)).map λr=>.l ((r.map frD).map .d)) .(4) b nd rfl (λkk hk hk' r hr=>?_) (aV ⟨.d (.int (o:Nat)),?_⟩)
   . have hk:kk<M3.length:=by simpa using hk
     have hr':r[kk]?=some (.l ((M3[kk].map frD).map .d)):=by rw[hr]; simp
     have hm:=Jt hk;have e:((M3.map (mh j o)).map λr=>Nd.l ((r.map frD).map .d))[kk]=.l (((mh j o M3[kk]).map frD).map .d):=by simp only[Jg]
     rw[e];have gl:=o3.t.row _ hm;generalize M3[kk]=g at hr' gl ⊢
     have p0:dg [kk] (.l r)=some (.l ((g.map frD).map .d)):=by
       show (r[kk]?).bind (dg [])=_;rw[hr'];rfl
     have at_:∀m,m<C->(g.map frD)[m]?=some (frD (g.getD m 0)):=λm hm=>by
       have:m<g.length:=by omega
       simp[this]
     refine Ee (C9 (t:=.l r) (ds:=g.map frD) (za:=(j:Int)) (zb:=(o:Int)) (a:=j) (b:=o) b rfl p0 (aa 6) (aa 5) (aa 5) (aa 6) (by rw[bp]; exact cP .(0)) (by rw[bp]; exact cP .(0)) (at_ j hj) (at_ o hu)) ?_
     have e2:cH [kk] (.l r) (.l ((((g.map frD).set j (frD (g.getD o 0))).set o (frD (g.getD j 0))).map .d))=.l (r.set kk (.l (((mh j o g).map frD).map .d))):=by
       unfold mh;simp only[Mc];rfl
     show PSs _ _ (dSL K (List.set _ 3 (.n (cH [kk] (.l r) (.l ((((g.map frD).set j (frD (g.getD o 0))).set o (frD (g.getD j 0))).map .d))))) 3 7 kk _);rw[e2];exact Gm
   . unfold bt4;rw[if_pos h];rfl
 . unfold bt4;rw[if_neg (of_decide_eq_false h)];exact aV ⟨_,rfl⟩
 obtain⟨s6,rfl⟩:=h;exact px 3 rfl
end
def AlQ (p:Rat->Prop)(M:List .(123)):Prop:=∀r∈M,∀x∈r,p x
section
variable {p:Rat->Prop}{M:List .(123)}{i j a b:Nat}{q:Rat}
theorem AlQ.row (h:AlQ p M):∀x∈M.getD i [],p x:=λx hx=>by
 rcases Jo i M.length with z | z
 . exact h _ (bH z) x hx
 . rw[HF,Jn z]at hx;cases hx
theorem AlQ.get (h:AlQ p M)(h0:p 0):p (.(108).getD j 0):=by
 rcases Jo j (M.getD i []).length with z | z
 . exact h.row _ (bH z)
 . rw[HF (l:=M.getD i []),Jn z];exact h0
theorem AlQ.put (h:AlQ p M)(hq:p q):AlQ p (qF M i j q):=λr hr x hx=>by
 rcases Ig hr with z | z
 . exact h r z x hx
 . rw[z]at hx;rcases Ig hx with y | y
   . exact h.row x y
   . rw[y]; exact hq
theorem AlQ.swap (h:AlQ p M):AlQ p (tE M a b):=λr hr x hx=>by
 rcases Ig hr with z | z
 . rcases Ig z with y | y
   . exact h r y x hx
   . rw[y]at hx; exact h.row x hx
 . rw[z]at hx; exact h.row x hx
theorem AlQ.csw (h:AlQ p M)(h0:p 0):AlQ p (M.map (mh a b)):=λr hr x hx=>by
 obtain⟨g,hg,rfl⟩:=Hu.mp hr
 have at_:∀c,p (g.getD c 0):=λc=>by
   rcases Jo c g.length with z | z
   . exact h g hg _ (bH z)
   . rw[HF,Jn z];exact h0
 unfold mh at hx;rcases Ig hx with z | z
 . rcases Ig z with y | y
   . exact h g hg x y
   . rw[y]; exact at_ b
 . rw[z]; exact at_ a
theorem Df (h:AlQ p M)(h0:p 0)(hn:∀x,p x->p (-x))(hq:∀k,p (nmQ 0 k)):AlQ p (btX l R C M):=by
 have b1:AlQ p (bt1 (l.getD 0 0) M (btI (l.getD 1 0) R) (btI (l.getD 2 0) C) (nmQ 0 (l.getD 4 0))):=by
   unfold bt1;split
   . exact h.put (hq _)
   . exact h
 unfold btX;generalize bt1 (l.getD 0 0) M (btI (l.getD 1 0) R) (btI (l.getD 2 0) C) (nmQ 0 (l.getD 4 0))=M1 at b1 ⊢
 have b2:AlQ p (bt2 (l.getD 0 0) M1 (btI (l.getD 1 0) R) (btI (l.getD 2 0) C)):=by
   unfold bt2;split
   . exact b1.put (hn _ (b1.get h0))
   . exact b1
 generalize bt2 (l.getD 0 0) M1 (btI (l.getD 1 0) R) (btI (l.getD 2 0) C)=M2 at b2 ⊢
 have b3:AlQ p (bt3 (l.getD 0 0) M2 (btI (l.getD 1 0) R) (btI (l.getD 3 0) R)):=by
   unfold bt3;split
   . exact b2.swap
   . exact b2
 generalize bt3 (l.getD 0 0) M2 (btI (l.getD 1 0) R) (btI (l.getD 3 0) R)=M3 at b3 ⊢;unfold bt4;split
 . exact b3.csw h0
 . exact b3
end
def Cz (β σ:Nat)(M:List .(123)):Prop:=∃P:Int,0<P/\P.natAbs<=2^σ/\AlQ (λx=>ZB β ((P:Rat)*x)) M
theorem EI (h:ZB b x):ZB b (-x):=by
 obtain⟨z,e,hz⟩:=h;exact⟨-z,by rw[e,Jy],by rw[J2]; exact hz⟩
theorem b60 (h0:1<=b)(h6:b<=6):∃c:Int,(60:Int)=b*c/\c.natAbs<=60:=by
 rcases(by omega:b=1\/b=2\/b=3\/b=4\/b=5\/b=6) with rfl | rfl | rfl | rfl | rfl | rfl
 . exact⟨60,rfl,by decide⟩
 . exact⟨30,rfl,by decide⟩
 . exact⟨20,rfl,by decide⟩
 . exact⟨15,rfl,by decide⟩
 . exact⟨12,rfl,by decide⟩
 . exact⟨10,rfl,by decide⟩
theorem G8 (k:Int)(hP:P.natAbs<=2^σ):ZB (σ+10) (((60*P:Int):Rat)*nmQ 0 k):=by
 have f1:=fmn (a:=k) (b:=19) .(2);have f2:=fmn (a:=k.fdiv 19) (b:=6) .(2);have eT:nmT 0 k=k.fmod 19-9:=rfl;have eB:nmB 0 k=1+(k.fdiv 19).fmod 6:=rfl;obtain⟨c,hc,cb⟩:=b60 (b:=nmB 0 k) .(0) .(0);have e:=sS (kd:=0) k;refine⟨P*(c*nmT 0 k),?_,?_⟩
 . rw[hc,HW,HW,HW,HW,e];grind
 . rw[Jd,Jd,Jz];refine IV hP ?_;have h9:(nmT 0 k).natAbs<=9:=by omega
   exact HJ (IV cb h9) .(2)
theorem Cz.GP (h:Cz β σ M)(hb:σ+4<=β):Cz (β+6) (σ+6) (btX l R C M):=by
 obtain⟨P,p0,p1,p2⟩:=h;refine⟨60*P,by omega,?_,Df (λr hr x hx=>?_) (by rw[Ie]; exact CF _) (λx hx=>by rw[Rat.mul_neg]; exact EI hx) λk=>(G8 k p1).mono .(0)⟩
 . rw[Jd,Nat.add_comm,Jz];exact IV .(2) p1
 . obtain⟨z,e,hz⟩:=p2 r hr x hx;refine⟨60*z,?_,?_⟩
   . rw[HW,HW,JC,e]
   . rw[Jd,Nat.add_comm,Jz];exact IV .(2) hz
theorem Cz.mono (h:Cz β σ M)(h1:β<=β')(h2:σ<=σ'):Cz β' σ' M:=by
 obtain⟨P,p0,p1,p2⟩:=h;exact⟨P,p0,HJ p1 (HS .(2) h2),λr hr x hx=>(p2 r hr x hx).mono h1⟩
theorem Cm.cz (h:Cm β σ R C A):Cz β σ (mkT R C A):=by
 obtain⟨P,p0,p1,p2⟩:=h;refine⟨P,p0,p1,λr hr x hx=>?_⟩;unfold mkT at hr;obtain⟨i,hi,rfl⟩:=Hu.mp hr;obtain⟨j,hj,rfl⟩:=Hu.mp hx;exact p2 i (HN.mp hi) j (HN.mp hj)
theorem Cz.cm (h:Cz β σ M):Cm β σ R C (qM M):=by
 obtain⟨P,p0,p1,p2⟩:=h;exact⟨P,p0,p1,λi _ j _=>AlQ.get (p:=λx=>ZB β ((P:Rat)*x)) p2 (by rw[Ie]; exact CF _)⟩
theorem DH (t:Tq R C M):mkT R C (qM M)=M:=by
 refine IX (by rw[dF,t.len]) λi h1 h2=>?_
 have hr:=t.row _ (Jt h2);simp only[mkT,Jg,KS];refine IX (by rw[bp,Iw,hr]) λj h3 h4=>?_
 simp only[Jg,KS];unfold qM;rw[HF (l:=M),ph h2];simp[h4]
theorem pM:∀r:List Int,Ev.bQ (r.map D.int)=true/\Ev.b5 (r.map D.int)=0
 | []=>by simp[Ev.bQ,Ev.b5]
 | x::r=>by
   obtain⟨h1,h2⟩:=pM r;rw[Ii,Ev.bQ,Ev.b5,h1,h2];simp[Ev.cln,Ev.dep]
theorem qT (a c:List Int):Ev.cv (.tup [.str "below",.lst (a.map .int),.lst (c.map .int)]):=by
 obtain⟨h1,h2⟩:=pM a;obtain⟨h3,h4⟩:=pM c;refine⟨?_,?_⟩
 . simp only[Ev.cln,Ev.bQ,h1,h3];decide +kernel
 . simp only[Ev.dep,Ev.b5,h2,h4];decide
theorem xv (ok:Oq R C d v M)(hz:v+(1+C*d)<=1400)(cz:Cz β σ M)(lim:wG (sz2 R C) β σ<=990000)(lim2:4*mB 7 β σ<=900000):
   cW [tbQ M] (tkS R C (qM M) (fuO (whM M (M.map scL)) R C 0))/\(fuO (whM M (M.map scL)) R C 0=none->hX [xH (sz2 R C) R C (apS (sz2 R C) (cq R C (qM M))),tbQ M] (.d (.bl true))):=by
 have r1:=ok.t.r1;have r7:=ok.t.r7;have c1:=ok.t.c1;have c7:=ok.t.c7;have e:=DH ok.t;refine⟨⟨R,C,d,v,β,σ,qM M,by rw[e],r1,r7,c1,c7,by rw[e]; exact ok.q,hz,cz.cm,lim2,by rw[e]⟩,λhf=>?_⟩;obtain⟨k1,k2,k3,k4⟩:=AY r1 c1 (by unfold sz2; split <;> omega) (yU ok.t hf) cz.cm lim;exact⟨_,_,R,C,_,qM M,by rw[e],k1,rfl,k2,k3,k4,rfl⟩
end K34
namespace Lc
open PySem PySem.Spec PyProof.Rows L2
open PySem.AutoSeq1 (wpAny_loadPart')
open PySem.MeetsSeq PySem.MeetsSeq2 PySem.MeetsSeq3 PySem.SeqRoads2 PySem.SeqAt
open Ev (D Den av eqD cv toP cln bQ dep b5)
theorem C8 (l b:Addr)(items items2:Array Value)(n n2:Nat)(dd dd2:Option Addr)(sl sl2:Array (Option Value))(j:Nat)(h1:j<items.size)(h2:j<items2.size)(c:Bool):
   Meets (Builtin.«tuple.__lt__» ⟨[.ref l,.ref b],[]⟩)
     (λA R s=>s.heap.get? l=some { cls:=.type "tuple",dict:=dd,data:=.seq items n,slots:=sl }/\s.heap.get? b=some { cls:=.type "tuple",dict:=dd2,data:=.seq items2 n2,slots:=sl2 } /\
       (∀m (_:m<j) (z1:m<items.size) (z2:m<items2.size),EqAt A.in1 s items[m] items2[m] true)/\EqAt A.in1 s items[j] items2[j] false/\iZ .Lt A.in1 s items[j] items2[j] c/\R (.ok (.ret (.bool c))) s):=
 .of_wp λprog w A R s h=>by
   obtain⟨hp,g,d,tk,os⟩:=s; obtain⟨hl,hb,he,hn,hc,h⟩:=h
   have f2:=AutoSeq1.sub_tuple_tuple;have hZ:(items.toList.zip items2.toList).length=min items.size items2.size:=by simp
   wp_walk using M8 hl,M8 hb,Nk _ (λrest b s'=>b.1=none/\s'=⟨hp,g,d,tk,os⟩/\∃i,i<=j/\rest=(items.toList.zip items2.toList).drop i) _
   case turn=>
     rintro⟨y,x⟩ rest b s' ⟨hb',rfl,i,hij,hz⟩;have hlt:i<(items.toList.zip items2.toList).length:=by rw[hZ]; omega
     have h3:i<items.size:=by omega
     have h4:i<items2.size:=by omega
     rw[KY hlt]at hz;injection hz with hyx hrest;have hy:y=items[i]:=by have:=congrArg Prod.fst hyx; simpa using this
     have hx:x=items2[i]:=by have:=congrArg Prod.snd hyx; simpa using this
     subst hy hx;by_cases hij':i<j
     . refine AC (he i hij' h3 h4 prog w _ _ ?_)
       wp_walk
       exact⟨rfl,rfl,i+1,hij',hrest⟩
     . obtain rfl:i=j:=by omega
       refine AC (hn prog w _ _ ?_);simp only[Bool.not_false,if_true];refine AC (Ny ?_);refine AC (hc prog w _ _ ?_)
       wp_walk
       exact⟨_,rfl,h⟩
   case fin=>
     rintro⟨b1,b2⟩ s' ⟨hb',rfl,i,hij,hz⟩;exfalso;have hlt:i<(items.toList.zip items2.toList).length:=by rw[hZ]; omega
     rw[KY hlt]at hz;cases hz
   case h=>exact⟨rfl,rfl,0,HL _,rfl⟩
theorem iZ.ltT (hl:s.heap.IsTuple l items)(hb:s.heap.IsTuple b items2)(hu:A.units<cLine)(h1:j<items.size)(h2:j<items2.size)
   (he:∀m (_:m<j) (z1:m<items.size) (z2:m<items2.size),EqAt A.in1 s items[m] items2[m] true) (hn:EqAt A.in1 s items[j] items2[j] false) (hc:iZ .Lt A.in1 s items[j] items2[j] c):iZ .Lt A s (.ref l) (.ref b) c:=λprog w E Q h=>by
 obtain⟨⟨cls,dd,data,sl⟩,ho,hc1,n,hd⟩:=id hl;obtain⟨⟨cls2,dd2,data2,sl2⟩,ho2,hc2,n2,hd2⟩:=id hb;simp only at hc1 hd hc2 hd2;subst hc1 hd hc2 hd2
 exact richCompare_meets_room (op:=.Lt) ⟨_,ho,rfl⟩ ⟨_,ho2,rfl⟩ F.slot_tuple_lt F.entry_tuple_lt (F.args_tuple_lt_2 _ _) (C8 l b items items2 n n2 dd dd2 sl sl2 j h1 h2 c)
   ⟨ho,ho2,he,hn,hc,show Jj c≠Value.notImplemented/\Q (.bool c) s from⟨(λx=>nomatch x),h⟩⟩ hu
inductive Cm2:D->D->Bool->Prop where
 | int {i j:Int}:Cm2 (.int i) (.int j) (decide (i<j))
 | lst {xs ys:List D} {j:Nat} {x y:D} {c:Bool} (hx:xs[j]?=some x) (hy:ys[j]?=some y) (he:∀(m:Nat) x y,m<j->xs[m]?=some x->ys[m]?=some y->eqD x y=true) (hn:eqD x y=false) (h:Cm2 x y c):Cm2 (.lst xs) (.lst ys) c
 | tup {xs ys:List D} {j:Nat} {x y:D} {c:Bool} (hx:xs[j]?=some x) (hy:ys[j]?=some y) (he:∀(m:Nat) x y,m<j->xs[m]?=some x->ys[m]?=some y->eqD x y=true) (hn:eqD x y=false) (h:Cm2 x y c):Cm2 (.tup xs) (.tup ys) c
section
variable {X:Cx}{pins:List .(103)}{σ:L2.St}{H G:Hp}{s:Da}
theorem GJ (I:Inv X pins σ H s)(e:ao G H)(h:Cm2 x y c):∀{A:GT} {v v':V} {u u':Value},Den X.K G v x->RelV v u->Den X.K G v' y->RelV v' u'->cln x=true->cln y=true->A.units+dep x<cLine->A.units+dep y<cLine->iZ .Lt A s u u' c:=by
 have i1:∀A:GT,A.in1.units=A.units+1:=λ_=>rfl
 have step:∀{A:GT} {xs ys:List D} {vs vs':List V} {its its2:List Value} {j:Nat} {x y:D},av X.K G vs xs->Vals vs its->av X.K G vs' ys->Vals vs' its2->bQ xs=true->bQ ys=true->A.units+1+b5 xs<cLine->A.units+1+b5 ys<cLine->xs[j]?=some x->ys[j]?=some y ->
     (∀(m:Nat) x y,m<j->xs[m]?=some x->ys[m]?=some y->eqD x y=true)->eqD x y=false->∃(s1:j<its.toArray.size) (s2:j<its2.toArray.size),(∀m,m<j->∀(z1:m<its.toArray.size) (z2:m<its2.toArray.size),EqAt A.in1 s its.toArray[m] its2.toArray[m] true)/\EqAt A.in1 s its.toArray[j] its2.toArray[j] false /\
       ∃a a',Den X.K G a x/\RelV a its.toArray[j]/\Den X.K G a' y/\RelV a' its2.toArray[j]/\cln x=true/\cln y=true/\A.in1.units+dep x<cLine/\A.in1.units+dep y<cLine:=λ{A xs ys vs vs' its its2 j x y} q rv q' rv2 c1 c2 u1 u2 hx hy he hn=>by
   obtain⟨a,b,e1,da,ra⟩:=fL q rv hx;obtain⟨a',b',e1',da',ra'⟩:=fL q' rv2 hy;obtain⟨c3,k3⟩:=jD c1 hx;obtain⟨c4,k4⟩:=jD c2 hy;have s1:=(rp.mp e1).1;have s2:=(rp.mp e1').1;have g1:its.toArray[j]'(by simpa using s1)=b:=by simpa using (rp.mp e1).2
   have g2:its2.toArray[j]'(by simpa using s2)=b':=by simpa using (rp.mp e1').2
   have q1:=q.length;have q2:=q'.length;have v1:=rv.length;have v2:=rv2.length;refine⟨by simpa using s1,by simpa using s2,λm hm z1 z2=>?_,?_,a,a',da,by rw[g1]; exact ra,da',by rw[g2]; exact ra',c3,c4,by rw[i1]; omega,by rw[i1]; omega⟩
   . rw[HD]at z1 z2;have f1:xs[m]?=some (xs[m]'(by omega)):=ph _;have f2:ys[m]?=some (ys[m]'(by omega)):=ph _;obtain⟨a,b,e2,da,ra⟩:=fL q rv f1;obtain⟨a',b',e2',da',ra'⟩:=fL q' rv2 f2;obtain⟨c3,k3⟩:=jD c1 f1;obtain⟨c4,k4⟩:=jD c2 f2;have g1:its.toArray[m]=b:=by simpa using (rp.mp e2).2
     have g2:its2.toArray[m]=b':=by simpa using (rp.mp e2').2
     rw[g1,g2];have k1:=lP (A:=A.in1) I e da ra da' ra' c3 c4 (by rw[i1]; omega);rw[he m _ _ hm f1 f2]at k1;exact k1
   . have n1:=lP (A:=A.in1) I e da ra da' ra' c3 c4 (by rw[i1]; omega);rw[hn]at n1;rw[g1,g2];exact n1
 induction h with
 | int=>
   intro A v v' u u' d r d' r' _ _ _ _;cases d; cases d'
   obtain⟨t,rfl⟩:=r;obtain⟨t',rfl⟩:=r';exact λprog w E Q q=>(PyProof.Rows.lt_int q:wpAny .(107) A (Gc .Lt _ _) Q E s)
 | @lst xs ys j x y c hx hy he hn _ ih=>
   intro A v v' u u' d r d' r' c1 c2 u1 u2;rw[cln]at c1 c2;rw[dep]at u1 u2;cases d with
   | lst z q=>
   cases d' with
   | lst z' q'=>
   cases r; cases r'
   obtain⟨its,rv,pl,_⟩:=I.list (Ev.aR e z);obtain⟨its2,rv2,pl2,_⟩:=I.list (Ev.aR e z');obtain⟨s1,s2,eqs,n1,a,a',da,ra,da',ra',c3,c4,k3,k4⟩:=step (A:=A) q rv q' rv2 c1 c2 .(0) .(0) hx hy he hn;exact iZ.lt pl.isList pl2.isList .(0) s1 s2 eqs n1 (ih da ra da' ra' c3 c4 k3 k4)
 | @tup xs ys j x y c hx hy he hn _ ih=>
   intro A v v' u u' d r d' r' c1 c2 u1 u2;rw[cln]at c1 c2;rw[dep]at u1 u2;cases d with
   | tup z q=>
   cases d' with
   | tup z' q'=>
   cases r; cases r'
   obtain⟨its,rv,pl,_⟩:=I.tuple (Ev.aY e z);obtain⟨its2,rv2,pl2,_⟩:=I.tuple (Ev.aY e z');obtain⟨s1,s2,eqs,n1,a,a',da,ra,da',ra',c3,c4,k3,k4⟩:=step (A:=A) q rv q' rv2 c1 c2 .(0) .(0) hx hy he hn;exact iZ.ltT pl pl2 .(0) s1 s2 eqs n1 (ih da ra da' ra' c3 c4 k3 k4)
end
end Lc
namespace Lc
open PySem PySem.Spec PyProof.Rows L2
open Ev (D Den av eqD cv toP cln bQ dep b5)
section
variable {prog:FB}{w:World}{A:GT}{R:Result->Da->Prop}{E:Value->Da->Prop}
theorem pK (bt:Nat->Nat->Bool):∀j,argBest bt j<=j
 | 0=>Ia _
 | j+1=>by
   rw[argBest];split
   . exact Ia _
   . exact Nat.le_succ_of_le (pK bt j)
def Kept (s0 s:Da):Prop:=∃h t,s={ s0 with heap:=h,toks:=t }/\∀b o,s0.heap.get? b=some o->h.get? b=some o
theorem xp (hh:A.in1.handled=none)(hne:l≠I)(hSl:S≠l)(hSI:S≠I)(hI:s0.heap.get? I=none)(hS0:s0.heap.get? S=none)
   (hcmp:∀i j vi vj s,j<i->items[i]?=some vi->items[j]?=some vj->Kept s0 s->iZ .Lt A.in1 s vi vj (bt i j))
   (hR:∀v s,items[argBest bt (items.size-1)]?=some v->Kept s0 s->R (.ok (.ret v)) s) :
   ∀(k j:Nat) (s:Da) (vb:Value) (c:Nat),items.size-(j+1)=k->j+1<=items.size->s.heap.IsListIter I l (j+1)/\s.heap.IsList l items->items[argBest bt j]?=some vb->Kept s0 s ->
     s.heap.get? S=some { cls:=.type "list",dict:=none,data:=.seq #[vb,vb] c,slots:=#[] }->Nq .(107) A (.builtin "min.loop" ⟨[.ref I,.none,.ref S],[]⟩) R s:=by
 have W:=Walks.list (prog:=prog) (w:=w) (A:=A.in1) hh I l hne items;have hname:(toString "min" ++ toString ".loop" : String) = "min.loop":=by decide
 have old:∀{b:Addr} {o:Obj},s0.heap.get? b=some o->b≠I/\b≠S:=λ{b o} e=>⟨(λz=>by rw[z,hI]at e; cases e),(λz=>by rw[z,hS0]at e; cases e)⟩
 have nS:∀b∈[I,l],S≠b:=λb hb=>by
   rcases HA.mp hb with rfl | q
   . exact hSI
   . rw[gV.mp q]; exact hSl
 intro k;induction k with
 | zero=>
   intro j s vb c hk hj hst hb hK hS;have hin:j+1=items.size:=by omega
   obtain⟨h,t,rfl,kp⟩:=hK;refine N1 Mu ?_;rw[Js JR _];show wpAny _ A.in1 (seqItems? (.ref S) >>= _) _ _ _;refine AC (Nr hS rfl ?_);show wpAny _ A.in1 (tryCatch (Nw (.ref I)) _ >>= _) _ _ _;refine AC (NF (W.done _ _ _ (hin▸hst) λh' tk hm=>?_));have hS':=hm S _ (by simpa using hSI) hS;show wpAny _ A.in1 (updateSeq S (λ_=>#[]) >>= _) _ _ _;refine AC ?_;refine wpAny_updateSeq hS' rfl (AC (wpAny_letGo (Fk ?_)));exact hR vb _ (by rw[<- hin]; exact hb) ⟨_,_,rfl,λb o e=>(IT _ _ (ID (old e).2)).trans (hm b o (by simpa using (old e).1) (kp b o e))⟩
 | succ k ih=>
   intro j s vb c hk hj hst hb hK hS;have hlt:j+1<items.size:=by omega
   obtain⟨h,t,rfl,kp⟩:=hK;refine N1 Mu ?_;rw[Js JR _];show wpAny _ A.in1 (seqItems? (.ref S) >>= _) _ _ _;refine AC (Nr hS rfl ?_);show wpAny _ A.in1 (tryCatch (Nw (.ref I)) _ >>= _) _ _ _;refine AC (NF (W.item (j+1) _ _ _ hlt hst λv h' tk hv hst' hm=>?_));have hS':=hm S _ (by simpa using hSI) hS;have kp':∀b o,s0.heap.get? b=some o->h'.get? b=some o:=λb o e=>hm b o (by simpa using (old e).1) (kp b o e)
   show wpAny _ A.in1 (tryCatch (M6 [v,v] (richCompare .Lt v vb >>= _)) _ >>= _) _ _ _;refine AC (NF (Na (AC (hcmp (j+1) (argBest bt j) v vb _ (Nat.lt_succ_of_le (pK bt j)) hv hb ⟨h',tk,rfl,kp'⟩ prog w _ _ ?_))));refine AC (Na (KM ?_));refine AC (wpAny_letGo (Fk ?_));cases hbt:bt (j+1) (argBest bt j) with
   | true=>
     simp only[if_true];refine AC ?_;refine wpAny_updateSeq hS' rfl (AC (wpAny_letGo ?_));rw[hname];refine Fk ⟨Nb JR _,ih (j+1) _ v _ .(0) hlt (W.frame _ _ _ hst' λb hbf o e=>?_) (by simp only[argBest,hbt,if_true]; exact hv) ⟨_,_,rfl,λb o e=>?_⟩ (JS _ hS' rfl)⟩
     . exact(IT _ _ (nS b hbf)).trans e
     . exact(IT _ _ (ID (old e).2)).trans (kp' b o e)
   | false=>
     simp only[Je,if_false];refine AC (wpAny_letGo ?_);rw[hname];exact Fk ⟨Nb JR _,ih (j+1) _ vb c .(0) hlt hst' (by simp only[argBest,hbt,Je,if_false]; exact hb) ⟨_,_,rfl,kp'⟩ hS'⟩
theorem v8 (hh:A.in1.handled=none)(hne:l≠I)(hSl:S≠l)(hSI:S≠I)(hI:s0.heap.get? I=none)(hS0:s0.heap.get? S=none)(hn:0<items.size)
   (hcmp:∀i j vi vj s,j<i->items[i]?=some vi->items[j]?=some vj->Kept s0 s->iZ .Lt A.in1 s vi vj (bt i j))
   (hR:∀v s,items[argBest bt (items.size-1)]?=some v->Kept s0 s->R (.ok (.ret v)) s) (hst:s.heap.IsListIter I l 0/\s.heap.IsList l items) (hK:Kept s0 s)
   (hS:s.heap.get? S=some { cls:=.type "list",dict:=none,data:=.seq #[] c,slots:=#[] }):Nq .(107) A (.builtin "min.loop" ⟨[.ref I,.none,.ref S],[]⟩) R s:=by
 have W:=Walks.list (prog:=prog) (w:=w) (A:=A.in1) hh I l hne items;have hname:(toString "min" ++ toString ".loop" : String) = "min.loop":=by decide
 have old:∀{b:Addr} {o:Obj},s0.heap.get? b=some o->b≠I/\b≠S:=λ{b o} e=>⟨(λz=>by rw[z,hI]at e; cases e),(λz=>by rw[z,hS0]at e; cases e)⟩
 have nS:∀b∈[I,l],S≠b:=λb hb=>by
   rcases HA.mp hb with rfl | q
   . exact hSI
   . rw[gV.mp q]; exact hSl
 obtain⟨h,t,rfl,kp⟩:=hK;refine N1 Mu ?_;rw[Js JR _];show wpAny _ A.in1 (seqItems? (.ref S) >>= _) _ _ _;refine AC (Nr hS rfl ?_);show wpAny _ A.in1 (tryCatch (Nw (.ref I)) _ >>= _) _ _ _;refine AC (NF (W.item 0 _ _ _ hn hst λv h' tk hv hst' hm=>?_));have hS':=hm S _ (by simpa using hSI) hS;have kp':∀b o,s0.heap.get? b=some o->h'.get? b=some o:=λb o e=>hm b o (by simpa using (old e).1) (kp b o e)
 show wpAny _ A.in1 (updateSeq S (λ_=>#[v,v]) >>= _) _ _ _;refine AC ?_;refine wpAny_updateSeq hS' rfl ?_;rw[hname];refine Fk ⟨Nb JR _,xp hh hne hSl hSI hI hS0 hcmp hR _ 0 _ v _ rfl .(0) (W.frame _ _ _ hst' λb hbf o e=>?_) hv ⟨_,_,rfl,λb o e=>?_⟩ (JS _ hS' rfl)⟩
 . exact(IT _ _ (nS b hbf)).trans e
 . exact(IT _ _ (ID (old e).2)).trans (kp' b o e)
theorem yF (hh:A.handled=none)(hl:s.heap.IsList l items)(hn:0<items.size)
   (hcmp:∀i j vi vj s',j<i->items[i]?=some vi->items[j]?=some vj->Kept s s'->iZ .Lt A.in1 s' vi vj (bt i j))
   (hQ:∀v s',items[argBest bt (items.size-1)]?=some v->Kept s s'->Q v s'):wpAny .(107) A (call (.builtin "min") [.ref l]) Q E s:=by
 have hname:(toString "min" ++ toString ".loop" : String) = "min.loop":=by decide
 have hlt:l<s.heap.objs.size:=by obtain⟨_,e,_⟩:=hl; exact Hw e
 refine call_function_tree F.kind_min F.plain_min F.entry_min (F.args_min1 _) ?_;show wpAny _ A.in1 (Lu "min" ["key","default"] 0 ⟨[],[]⟩ >>= _) _ _ s;refine AC (MV (show Lu "min" ["key","default"] 0 ⟨[],[]⟩=pure [none,none] from rfl) ?_);refine AC (Fk ?_);refine AC (wpAny_pyIter_list hl ?_);refine AC (GM ?_);rw[hname]
 have n1:s.heap.get? s.heap.objs.size=none:=by
   cases e:s.heap.get? s.heap.objs.size with
   | none=>rfl
   | some o=>exact absurd (Hw e) .(10)
 have n2:s.heap.get? (s.heap.objs.size+1)=none:=by
   cases e:s.heap.get? (s.heap.objs.size+1) with
   | none=>rfl
   | some o=>exact absurd (Hw e) (Ma.mpr .(17))
 refine Fk ⟨Nb JR _,v8 (s0:=s) (items:=items) (l:=l) (bt:=bt) hh (Il hlt) ?_ ?_ n1 ?_ hn hcmp (λv s' e k=>?_) ⟨?_,?_⟩ ⟨_,_,rfl,λb o e=>?_⟩ (Hz _ rfl)⟩
 . rw[Ja]; exact ID (Il (Ko hlt))
 . rw[Ja]; exact Lk _
 . rw[Ja]; exact n2
 . exact hQ v s' e k
 . exact⟨_,pq _ (Hz _ rfl),rfl,rfl⟩
 . exact(hl.push _).push _
 . exact pq _ (pq _ e)
end
end Lc
namespace Hy
open PySem PySem.Spec PyProof.Rows L2
open Ev (D Den av aR eqD cv)
section
variable {X:Cx}{k:Nat}{xs:List D}
theorem wH (hc:X.calm=true)(hu:X.A.units+70<cLine):fG X (.builtin "min") (λvs H Q=>∃p G xs bt,vs=[.ref p]/\ao G H/\Den X.K G (.ref p) (.lst xs)/\0<xs.length/\(∀z∈xs,cv z)/\(∀i j (hi:i<xs.length) (hj:j<xs.length),j<i->Lc.Cm2 xs[i] xs[j] (bt i j))/\∀v,Den X.K G v (xs.getD (argBest bt (xs.length-1)) .non)->Q v H):=by
 intro pins s σ H vs us Q I r ⟨p,G,xs,bt,e0,sg,dx,h0,ok,cm,q⟩;subst e0;obtain⟨u,rfl,ru⟩:=vals1 r;cases (show u=Ip _ from ru)
 cases dx with
 | @lst _ ws _ hl rl=>
   obtain⟨its,rv,pl,hz⟩:=I.list (aR sg hl);have l1:=rl.length;have l2:=rv.length;have sz:its.toArray.size=xs.length:=by rw[HD]; omega
   have i1:∀A:GT,A.in1.units=A.units+1:=λ_=>rfl
   have at_:∀i v,its.toArray[i]?=some v->∃(h:i<xs.length) (a:V),Den X.K G a xs[i]/\RelV a v:=λi v e=>by
     have hi:i<xs.length:=by rw[<- sz]; exact(Array.getElem?_eq_some_iff.mp e).1
     obtain⟨a,b,e1,da,ra⟩:=Lc.fL rl rv (ph hi);rw[List.getElem?_toArray,e1]at e;cases e
     exact⟨hi,a,da,ra⟩
   refine Lc.yF (bt:=bt) (I.ok.hd hc) pl.isList (by rw[sz]; exact h0) (λi j vi vj s' hij ei ej hk=>?_) λv s' e hk=>?_
   . obtain⟨hi,a,da,ra⟩:=at_ i vi ei;obtain⟨hj,a',da',ra'⟩:=at_ j vj ej;obtain⟨h',t',rfl,kp⟩:=hk;have I':=I.kept (h':=h') (t':=t') kp;have o1:=ok _ (Jt hi);have o2:=ok _ (Jt hj);exact Lc.GJ I' sg (cm i j hi hj hij) da ra da' ra' o1.1 o2.1 (by rw[i1]; have:=o1.2; omega) (by rw[i1]; have:=o2.2; omega)
   . obtain⟨h',t',rfl,kp⟩:=hk;rw[sz]at e;obtain⟨hi,a,da,ra⟩:=at_ _ v e;exact⟨a,H,I.kept kp,ra,q a (by simpa[hi]using da)⟩
theorem Eh (B:Bk X k)(bt:Nat->Nat->Bool)(h0:0<xs.length)(ok:∀z∈xs,cv z)(cm:∀i j (hi:i<xs.length) (hj:j<xs.length),j<i->Lc.Cm2 xs[i] xs[j] (bt i j)):gw X (.builtin "min") [.lst xs] (.d (xs.getD (argBest bt (xs.length-1)) .non)):=
 ⟨_,wH B.calm (by have:=B.room.un; omega),λM vs H Q _ d q=>by
   cases d with
   | cons d r=>
     cases r
     cases d with
     | lst h r=>exact⟨_,_,xs,bt,rfl,aS,.lst h r,h0,ok,cm,λv dv=>q v H [] .(102) e8 (jC dv)⟩⟩
end
end Hy
namespace K34
open PySem PySem.Spec PyProof.Rows L2 Hy
open Ev (D Den av aH aL)
noncomputable def ltI:List Int->List Int->Bool
 | [],[]=>false
 | [],_::_=>true
 | _::_,[]=>false
 | x::xs,y::ys=>if x<y then true else if y<x then false else ltI xs ys
theorem kJ:∀xs,ltI xs xs=false
 | []=>rfl
 | x::xs=>by rw[ltI,if_neg .(0),if_neg .(0),kJ xs]
theorem nF:∀{xs ys zs:List Int},ltI xs ys=true->ltI ys zs=true->ltI xs zs=true
 | [],[],_,h,_=>nomatch h
 | [],_::_,[],_,h=>nomatch h
 | [],_::_,_::_,_,_=>rfl
 | _::_,[],_,h,_=>nomatch h
 | _::_,_::_,[],_,h=>nomatch h
 | x::xs,y::ys,z::zs,h1,h2=>by
   rw[ltI]at h1 h2 ⊢;by_cases a:x<y
   . by_cases b:y<z
     . rw[if_pos .(0)]
     . rw[if_neg b]at h2;by_cases c:z<y
       . rw[if_pos c]at h2; cases h2
       . rw[if_pos .(0)]
   . rw[if_neg a]at h1;by_cases b:y<x
     . rw[if_pos b]at h1; cases h1
     . rw[if_neg b]at h1;by_cases c:y<z
       . rw[if_pos .(0)]
       . rw[if_neg c]at h2;by_cases d:z<y
         . rw[if_pos d]at h2; cases h2
         . rw[if_neg d]at h2;rw[if_neg .(0),if_neg .(0)];exact nF h1 h2
theorem gd:∀{k:Nat} {xs ys:List Int} {x y:Int},xs[k]?=some x->ys[k]?=some y->x≠y->(∀m,m<k->xs[m]?=ys[m]?)->ltI xs ys=decide (x<y)
 | 0,x::xs,y::ys,_,_,h1,h2,h,_=>by
   cases h1
   cases h2
   rw[ltI];by_cases a:x<y
   . rw[if_pos a,decide_eq_true a]
   . rw[if_neg a,if_pos .(0),decide_eq_false a]
 | k+1,x::xs,y::ys,_,_,h1,h2,h,he=>by
   have e:=he 0 .(0);simp only[List.getElem?_cons_zero,Ky]at e;subst e;rw[ltI,if_neg .(0),if_neg .(0)];exact gd (k:=k) h1 h2 h λm hm=>by simpa using he (m+1) .(0)
 | 0,[],_,_,_,h1,_,_,_=>nomatch h1
 | _,_::_,[],_,_,_,h2,_,_=>by simp at h2
 | _+1,[],_,_,_,h1,_,_,_=>nomatch h1
theorem kI:∀{xs ys:List Int},xs.length=ys.length->xs≠ys->∃(k:Nat) (x y:Int),xs[k]?=some x/\ys[k]?=some y/\x≠y/\∀m:Nat,m<k->xs[m]?=ys[m]?
 | [],[],_,h=>absurd rfl h
 | [],_::_,h,_=>by simp at h
 | _::_,[],h,_=>by simp at h
 | x::xs,y::ys,hl,h=>by
   by_cases e:x=y
   . subst e;obtain⟨k,a,b,h1,h2,h3,h4⟩:=kI (xs:=xs) (ys:=ys) (by simpa using hl) λz=>h (by rw[z])
     refine⟨k+1,a,b,by simpa using h1,by simpa using h2,h3,λm hm=>?_⟩;cases m with
     | zero=>rfl
     | succ m=>simpa using h4 m .(0)
   . exact⟨0,x,y,rfl,rfl,e,λm hm=>absurd hm .(6)⟩
theorem jn (zs:List Int):ltI (zs++xs) (zs++ys)=ltI xs ys:=by
 induction zs with
 | nil=>rfl
 | cons z zs ih=>rw[IL,IL,ltI,if_neg .(0),if_neg .(0),ih]
theorem ql {α:Type}{lt:α->α->Bool}(irr:∀x,lt x x=false)(tr:∀{x y z},lt x y=true->lt y z=true->lt x z=true){L:Nat->α}:∀(j i:Nat),i<=j->lt (L i) (L (argBest (λa b=>lt (L a) (L b)) j))=false
 | 0,i,hi=>by rw[show i=0 by omega]; exact irr _
 | j+1,i,hi=>by
   have ih:=ql irr tr (L:=L) j;rw[argBest];by_cases c:lt (L (j+1)) (L (argBest (λa b=>lt (L a) (L b)) j))=true
   . rw[if_pos c];by_cases e:i=j+1
     . rw[e]; exact irr _
     . cases d:lt (L i) (L (j+1)) with
       | false=>rfl
       | true=>
         have:=ih i .(0);rw[tr d c]at this;cases this
   . rw[if_neg c];by_cases e:i=j+1
     . rw[e]; simpa using c
     . exact ih i .(0)
noncomputable def kcd (p:List Int×List Int):List Int:=(p.1.length:Int)::(p.1++p.2)
noncomputable def ltP (p q:List Int×List Int):Bool:=ltI (kcd p) (kcd q)
noncomputable def clz (n:Nat)(S:Nat):List Int:=(cols n S).map LZ
noncomputable def ngL (R:List .(125))(n:Nat)(ls:List Int)(kv:List (Int×Int)):List .(131):=(kv.filter λq=>decide (q.2<0)).map λq=>(ls,clz n q.1.toNat)
noncomputable def ngs (R:List .(125))(n:Nat)(ks:List .(125)):List .(131):=ks.flatMap λls=>ngL R n ls (bY n (lnR R ls))
theorem kP (ok:Rw m n b R):p∈ngs R n (.(112).map (·.1))↔(p∈kys m n (min m n)/\vD R p<0):=by
 have m7:=ok.m1.2;have n7:=ok.n1.2;have f1:=Bool.and_eq_true_iff.mp (EA n .(0) m .(0));have f2:=Bool.and_eq_true_iff.mp (EL n .(0));constructor
 . intro h;obtain⟨ls,hls,h⟩:=IW.mp h;have hls:=ju.mp hls;unfold ngL at h;obtain⟨q,hq,rfl⟩:=Hu.mp h;obtain⟨hq,hn⟩:=Jm.mp hq;have hn:=of_decide_eq_true hn;have hP:=IM.mp f1.1 ls ((oR R n m ls).mp hls);rw[Iy]at hP;have hc:ls∈chs m ls.length:=by simpa using hP.1
   have hl:=of_decide_eq_true hP.2;have RIk:=fK n (lnR R ls);have lnl:(lnR R ls).length=ls.length:=by unfold lnR; rw[bp]
   rw[lnl]at RIk;obtain⟨S,e1,e2,e3⟩:=RIk.key q.1 (Hu.mpr ⟨q,hq,rfl⟩);have hg:=oZ RIk.nd hq;have hv:=(RIk.all S e2 e3).2;unfold gv at hv;rw[<- e1,hg,La]at hv
   have hcc:(cols n S).map LZ∈chs n ls.length:=by
     have:=IM.mp f2.1 S (HN.mpr e2);rw[e3]at this;simpa using this
   have et:((cols n S).map LZ).map J1=cols n S:=by
     rw[Ik];exact(HZ λx _=>rfl).trans (List.map_id _)
   have hd:=kG R ls.length ls ((cols n S).map LZ) rfl (by rw[bp,e3]);rw[et,<- hv]at hd;have e:=zD hd;have eS:q.1.toNat=S:=by rw[e1]; exact HC S
   unfold clz;rw[eS];refine⟨?_,by show dtm R ls.length ls _<0; rw[e]; exact hn⟩;cases hl0:ls.length with
   | zero=>
     rw[hl0]at e;rw[dtm]at e;omega
   | succ s=>exact kN.mpr ⟨s,by omega,by rw[<- hl0]; exact hc,by rw[<- hl0]; exact hcc⟩
 . rintro⟨hp,hneg⟩;obtain⟨ls,c⟩:=p;obtain⟨s,hs,h1,h2⟩:=kN.mp hp;have l1:=(cu m _ ls h1).len;have l2:=(cu n _ c h2).len
   have hls:ls∈lks R n m:=(oR R n m ls).mpr (by
     have:=IM.mp (IM.mp f1.2 (s+1) (HN.mpr .(0))) ls h1;simpa using this)
   obtain⟨S,hS,eS⟩:=J0.mp (IM.mp (IM.mp f2.2 (s+1) (HN.mpr .(0))) c h2);have eS:=of_decide_eq_true eS;have RIk:=fK n (lnR R ls);have lnl:(lnR R ls).length=ls.length:=by unfold lnR; rw[bp]
   rw[lnl,l1]at RIk;obtain⟨a1,a2⟩:=RIk.all S (HN.mp hS) (by rw[eS,bp,l2]);have hd:=kG R (s+1) ls c l1 l2;rw[<- eS,<- a2]at hd;unfold gv at hd;have e:=zD hd;have hneg:dtm R ls.length ls c<0:=hneg;rw[l1,e]at hneg;cases hg:bR (bY n (lnR R ls)) (S:Int) with
   | none=>exact absurd hg a1
   | some v=>
     rw[hg,La]at hneg;unfold bR at hg;obtain⟨q,h3,h4⟩:=Kh.mp hg;have hq:=JY h3;have hk:q.1=(S:Int):=by simpa using List.find?_some h3
     refine IW.mpr ⟨ls,ju.mpr hls,?_⟩;unfold ngL;refine Hu.mpr ⟨q,Jm.mpr ⟨hq,decide_eq_true (by rw[h4]; exact hneg)⟩,?_⟩;rw[hk,HC];unfold clz;rw[eS,Ik];congr 1;refine(HZ λx hx=>?_).trans (List.map_id _);obtain⟨i,hi,ei⟩:=J5 hx;have h0:=((cu n _ c h2).at_ i .(0)).1;rw[show c.getD i 0=x by rw[<- ei]; simp[hi]]at h0;exact J8 h0
theorem uz:∀n,n<8->∀t,t<8->(chs n t).Pairwise λa b=>ltI a b=true:=by decide +kernel
theorem kH {α β:Type}{r:β->β->Prop}{f:α->List β}:∀{xs:List α},(∀x∈xs,(f x).Pairwise r)->(xs.Pairwise λa b=>∀y∈f a,∀z∈f b,r y z)->(xs.flatMap f).Pairwise r
 | [],_,_=>Mw
 | x::xs,h,p=>by
   rw[List.flatMap_cons];obtain⟨p1,p2⟩:=List.pairwise_cons.mp p;refine List.pairwise_append.mpr ⟨h x .(5),kH (λy hy=>h y (Et _ hy)) p2,λy hy z hz=>?_⟩;obtain⟨a,ha,hz⟩:=IW.mp hz;exact p1 a ha y hy z hz
theorem Aq (hm:m<=7)(hn:n<=7)(hk:k<=7):(kys m n k).Pairwise λp q=>ltP p q=true:=by
 unfold kys;refine kH (λt ht=>?_) ?_
 . have ht:t<k:=HN.mp ht;refine kH (λls hls=>?_) ((uz m .(0) (t+1) .(0)).imp_of_mem λ{a b} ha hb h y hy z hz=>?_)
   . unfold ky1;refine L3.mpr ((uz n .(0) (t+1) .(0)).imp λ{a b} h=>?_);show ltI ([(ls.length:Int)]++(ls++a)) ([(ls.length:Int)]++(ls++b))=true;rw[jn,jn];exact h
   . unfold ky1 at hy hz;obtain⟨c,_,rfl⟩:=Hu.mp hy;obtain⟨c',_,rfl⟩:=Hu.mp hz;have la:=(cu m _ a ha).len;have lb:=(cu m _ b hb).len;have hab:a≠b:=λz=>by rw[z,kJ]at h; cases h
     obtain⟨i,x,y,h1,h2,h3,h4⟩:=kI (by rw[la,lb]) hab;have hl:=gd h1 h2 h3 h4;rw[h]at hl;have il:i<a.length:=(rp.mp h1).1;unfold ltP kcd;show ltI ((a.length:Int)::(a++c)) ((b.length:Int)::(b++c'))=true;rw[la,lb];show ltI ([((t+1:Nat):Int)]++(a++c)) ([((t+1:Nat):Int)]++(b++c'))=true;rw[jn]
     rw[gd (k:=i) (x:=x) (y:=y) (by rw[Hv il]; exact h1) (by rw[Hv .(0)]; exact h2) h3 λj hj=>by
       rw[Hv .(0),Hv .(0)];exact h4 j hj]
     exact hl.symm
 . refine(List.pairwise_lt_range).imp_of_mem λ{s t} hs ht hst y hy z hz=>?_
   obtain⟨a,ha,hy⟩:=IW.mp hy;obtain⟨b,hb,hz⟩:=IW.mp hz;unfold ky1 at hy hz;obtain⟨c,_,rfl⟩:=Hu.mp hy;obtain⟨c',_,rfl⟩:=Hu.mp hz;have la:=(cu m _ a ha).len;have lb:=(cu m _ b hb).len;unfold ltP kcd;show ltI ((a.length:Int)::(a++c)) ((b.length:Int)::(b++c'))=true;rw[la,lb,ltI,if_pos .(0)]
theorem vQ [DecidableEq κ](ks:List κ)(h:ks.Nodup):(mkM v ks).map (·.1)=ks:=by
 generalize hn:ks.length=l;induction l generalizing ks with
 | zero=>rw[Ke.mp hn]; rfl
 | succ l ih=>
   have ne:ks≠[]:=λz=>by rw[z]at hn; cases hn
   have e:=Ml ne;have lk:ks.dropLast.length=l:=by rw[List.length_dropLast]; omega
   have nd:(ks.dropLast++[ks.getLast ne]).Nodup:=by rw[e]; exact h
   obtain⟨n1,_,n3⟩:=II.mp nd;have ih':=ih ks.dropLast n1 lk;rw[<- e,gG]
   have no:getM (mkM v ks.dropLast) (ks.getLast ne)=none:=by
     cases g:getM (mkM v ks.dropLast) (ks.getLast ne) with
     | none=>rfl
     | some x=>
       have:=ju.mp (Hu.mpr ⟨_,lA g,rfl⟩);exact absurd rfl (n3 _ this _ (gV.mpr rfl))
   unfold d9;rw[no,if_neg .(4),HB,ih'];rfl
theorem zx (ok:Rw m n b R)(hp:p∈ngs R n (.(112).map (·.1)))(hm:∀q∈ngs R n (.(112).map (·.1)),ltP q p=false):fuO R m n 0=some p:=by
 have m7:=ok.m1.2;have n7:=ok.n1.2;have srt:=Aq (m:=m) (n:=n) (k:=min m n) m7 n7 .(0);have nd:(kys m n (min m n)).Nodup:=srt.imp λ{a b} h z=>by rw[z]at h; unfold ltP at h; rw[kJ]at h; cases h
 obtain⟨p1,p2⟩:=(kP ok).mp hp;unfold fuO fdM;rw[vQ _ nd];cases hf:(kys m n (min m n)).find? (λp=>decide (vD R p<0)) with
 | none=>
   have:=List.find?_eq_none.mp hf p p1;simp[p2]at this
 | some q=>
   obtain⟨h1,as,bs,h2,h3⟩:=List.find?_eq_some_iff_append.mp hf;have h1:=of_decide_eq_true h1;have hq:q∈ngs R n (.(112).map (·.1)):=(kP ok).mpr ⟨by rw[h2]; simp,h1⟩;rw[h2]at p1 srt;rcases x3.mp p1 with z | z
   . have:=h3 p z;simp[p2]at this
   . rcases HA.mp z with z | z
     . rw[z]
     . have:=(List.pairwise_cons.mp (List.pairwise_append.mp srt).2.1).1 p z;rw[hm q hq]at this;cases this
theorem DI (ok:Rw m n b R)(h:ngs R n (.(112).map (·.1))=[]):fuO R m n 0=none:=by
 rw[uZ];intro p hp;rcases Int.lt_or_le (vD R p) 0 with z | z
 . have:=(kP ok).mpr ⟨hp,z⟩;rw[h]at this;cases this
 . exact z
theorem Bh [DecidableEq κ]{m:List (κ×D)}(h:(m.map (·.1)).Nodup):((d9 m k x).map (·.1)).Nodup:=by
 unfold d9;split
 . rw[Ik]
   have e:((λp:κ×D=>p.1)∘λy=>if y.1=k then (y.1,x) else y)=λp=>p.1:=by
     funext y;simp only[J6];split <;> rfl
   rw[e];exact h
 . rename_i g;rw[HB];refine II.mpr ⟨h,by simp,λa ha b hb=>?_⟩;intro e;subst e;simp only[Ii,Lx,gV]at hb;subst hb;obtain⟨p,hp,e⟩:=Hu.mp ha;apply g;unfold getM;rw[Option.isSome_map,List.find?_isSome];exact⟨p,hp,by simpa using e⟩
theorem CG [DecidableEq κ](ks:List κ):((mkM v ks).map (·.1)).Nodup:=by
 unfold mkM
 have:∀(ks:List κ) (m:List (κ×D)),(m.map (·.1)).Nodup->((ks.foldl (λm k=>d9 m k (v k)) m).map (·.1)).Nodup:=by
   intro ks;induction ks with
   | nil=>exact λm h=>h
   | cons k ks ih=>exact λm h=>ih _ (Bh h)
 exact this ks [] JO
theorem yZ (h1:S<2^n)(h2:S'<2^n)(h:cols n S=cols n S'):S=S':=by
 refine Kw λi=>?_
 by_cases hi:i<n
 . have e:∀S,S.testBit i=true↔i∈cols n S:=λS=>by unfold cols; simp[hi]
   rw[JJ,e,e,h]
 . rw[Ln (HH h1 (HS .(2) .(0))),Ln (HH h2 (HS .(2) .(0)))]
theorem zy (h:ks.Nodup):(ngs R n ks).Nodup:=by
 unfold ngs;refine kH (r:=(·≠·)) (λls _=>?_) (h.imp λ{a b} hab y hy z hz e=>?_)
 . unfold ngL;have RIk:=fK n (lnR R ls);refine L3.mpr ((L3.mp RIk.nd).filter _ |>.imp_of_mem λ{a b} ha hb hab e=>?_);obtain⟨S,e1,e2,_⟩:=RIk.key a.1 (Hu.mpr ⟨a,(Jm.mp ha).1,rfl⟩);obtain⟨S',e1',e2',_⟩:=RIk.key b.1 (Hu.mpr ⟨b,(Jm.mp hb).1,rfl⟩);injection e with _ e;unfold clz at e;rw[e1,e1',HC,HC]at e
   have et:∀l:List Nat,(l.map LZ).map J1=l:=λl=>by
     rw[Ik];exact(HZ λx _=>rfl).trans (List.map_id _)
   have e:=congrArg (List.map J1) e;rw[et,et]at e;rw[e1,e1',yZ e2 e2' e]at hab;exact hab rfl
 . unfold ngL at hy hz;obtain⟨_,_,rfl⟩:=Hu.mp hy;obtain⟨_,_,rfl⟩:=Hu.mp hz;injection e with e _;exact hab e
noncomputable def trD (p:List Int×List Int):D:=.tup [.int (p.1.length:Nat),.lst (p.1.map .int),.lst (p.2.map .int)]
theorem jd:∀{xs ys:List Int},Ev.fU (xs.map D.int) (ys.map D.int)=decide (xs=ys)
 | [],[]=>by simp[Ev.fU]
 | [],_::_=>by simp[Ev.fU]
 | _::_,[]=>by simp[Ev.fU]
 | x::xs,y::ys=>by
   rw[Ii,Ii,Ev.fU,jd,Ev.eqD];by_cases h:x=y
   . simp[h]
   . simp[h]
theorem uH (hl:xs.length=ys.length)(h:xs≠ys):Lc.Cm2 (.lst (xs.map .int)) (.lst (ys.map .int)) (ltI xs ys):=by
 obtain⟨k,x,y,h1,h2,h3,h4⟩:=kI hl h;rw[gd h1 h2 h3 h4];refine .lst (j:=k) (x:=.int x) (y:=.int y) (by rw[HR,h1]; rfl) (by rw[HR,h2]; rfl) (λm a b hm ha hb=>?_) (by simp[Ev.eqD,h3]) .int;rw[HR]at ha hb;rw[h4 m hm]at ha;cases e:ys[m]? with
 | none=>rw[e]at ha; cases ha
 | some z=>
   rw[e]at ha hb;cases ha
   cases hb
   simp[Ev.eqD]
theorem C7 (hp:p.1.length=p.2.length)(hq:q.1.length=q.2.length)(h:p≠q):Lc.Cm2 (trD p) (trD q) (ltP p q):=by
 obtain⟨a,c⟩:=p;obtain⟨a',c'⟩:=q;simp only at hp hq;unfold trD ltP kcd;simp only;by_cases hl:a.length=a'.length
 . have e0:∀(x y:D),[D.int (a.length:Nat),.lst (a.map .int),.lst (c.map .int)][0]?=some x->[D.int (a'.length:Nat),.lst (a'.map .int),.lst (c'.map .int)][0]?=some y->Ev.eqD x y=true:=λx y h1 h2=>by
     cases h1
     cases h2
     simp[Ev.eqD,hl]
   rw[hl];show Lc.Cm2 _ _ (ltI ([(a'.length:Int)]++(a++c)) ([(a'.length:Int)]++(a'++c')));rw[jn];by_cases ha:a=a'
   . subst ha;have hc:c≠c':=λz=>h (by rw[z])
     rw[jn];refine .tup (j:=2) rfl rfl (λm x y hm h1 h2=>?_) ?_ (uH .(0) hc)
     . rcases(by omega:m=0\/m=1) with rfl | rfl
       . cases h1; cases h2; simp[Ev.eqD]
       . cases h1; cases h2; rw[Ev.eqD,jd]; simp
     . rw[Ev.eqD,jd]; simp[hc]
   . have hlt:ltI (a++c) (a'++c')=ltI a a':=by
       obtain⟨k,x,y,h1,h2,h3,h4⟩:=kI hl ha;have k1:k<a.length:=(rp.mp h1).1;rw[gd h1 h2 h3 h4]
       exact gd (k:=k) (by rw[Hv k1]; exact h1) (by rw[Hv .(0)]; exact h2) h3 λm hm=>by
         rw[Hv .(0),Hv .(0)];exact h4 m hm
     rw[hlt];refine .tup (j:=1) rfl rfl (λm x y hm h1 h2=>?_) ?_ (uH hl ha)
     . obtain rfl:m=0:=by omega
       cases h1; cases h2; simp[Ev.eqD]
     . rw[Ev.eqD,jd]; simp[ha]
 . have:ltI ((a.length:Int)::(a++c)) ((a'.length:Int)::(a'++c'))=decide ((a.length:Int)<(a'.length:Int)):=gd (k:=0) rfl rfl .(0) λm hm=>absurd hm .(6)
   rw[this];exact .tup (j:=0) rfl rfl (λm x y hm=>absurd hm .(6)) (by simp[Ev.eqD]; omega) .int
theorem so:∀r:List Int,Ev.bQ (r.map D.int)=true/\Ev.b5 (r.map D.int)=0
 | []=>by simp[Ev.bQ,Ev.b5]
 | x::r=>by
   obtain⟨h1,h2⟩:=so r;rw[Ii,Ev.bQ,Ev.b5,Ev.cln,Ev.dep,h1,h2];exact⟨rfl,rfl⟩
theorem sD (p:List Int×List Int):Ev.cln (trD p)=true/\Ev.dep (trD p)<=2:=by
 obtain⟨h1,h2⟩:=so p.1;obtain⟨h3,h4⟩:=so p.2;unfold trD;simp[Ev.cln,Ev.bQ,Ev.dep,Ev.b5,h1,h2,h3,h4]
theorem Gf (p:List Int×List Int):Ev.cv (trD p):=⟨(sD p).1,by have:=(sD p).2; omega⟩
theorem uB:∀L:List .(131),Ev.bQ (L.map trD)=true/\Ev.b5 (L.map trD)<=2
 | []=>by simp[Ev.bQ,Ev.b5]
 | p::L=>by
   obtain⟨h1,h2⟩:=uB L;have h3:=sD p;rw[Ii,Ev.bQ,Ev.b5,h1,h3.1];exact⟨rfl,by have:=h3.2; omega⟩
theorem Dq (L:List .(131)):Ev.cv (.lst (L.map trD)):=by
 obtain⟨h1,h2⟩:=uB L;unfold Ev.cv;rw[Ev.cln,Ev.dep,h1];exact⟨rfl,by omega⟩
theorem F6 (h:PT X c (dT X.K τ v))(e:v=w):PT X c (dT X.K τ w):=e▸h
theorem qJ (R:List .(125))(n:Nat)(ks:List .(125))(ls:List Int):ngs R n (ks++[ls])=ngs R n ks++ngL R n ls (bY n (lnR R ls)):=by unfold ngs; rw[Jw]; simp
theorem yh (R:List .(125))(n:Nat)(ls:List Int)(kv:List (Int×Int))(q:Int×Int):ngL R n ls (kv++[q])=ngL R n ls kv++(if q.2<0 then [(ls,clz n q.1.toNat)] else []):=by
 unfold ngL;rw[Jc,HB];by_cases h:q.2<0
 . simp[h]
 . simp[h]
theorem He {xs:List D}(h:xs.length=n):gw X (.builtin "len") [.tup xs] (.d (.int n)):=h▸fX
theorem BM {α:Type}[DecidableEq α]:∀{l l':List α},l.Nodup->(∀x∈l,x∈l')->l.length<=l'.length
 | [],_,_,_=>HL _
 | x::l,l',h,hs=>by
   obtain⟨h1,h2⟩:=IB.mp h;have hx:=hs x .(5);have:=BM (l:=l) (l':=l'.erase x) h2 λy hy=>(List.mem_erase_of_ne (λz:y=x=>h1 (z▸hy))).mpr (hs y (Et _ hy))
   rw[List.length_erase_of_mem hx]at this;have:=List.length_pos_of_mem hx;rw[IA];omega
theorem wX (h:ks.take (i+1)=ks.take i++[ls]):(ngs R n (ks.take i)++ngL R n ls ((bY n (lnR R ls)).take t)).length<=(ngs R n ks).length:=by
 have e:(ngs R n ks).length=(ngs R n (ks.take (i+1))).length+(ngs R n (ks.drop (i+1))).length:=by
   rw[<- vp];unfold ngs;rw[<- Jw,Lw]
 have l1:(ngL R n ls ((bY n (lnR R ls)).take t)).length<=(ngL R n ls (bY n (lnR R ls))).length:=by
   unfold ngL;rw[bp,bp];exact((List.take_sublist t _).filter _).length_le
 rw[e,h,qJ,vp,vp];omega
def dk (ds:List D)(r:Sl):Prop:=∃(m n d v:Nat) (M:List .(123)),ds=[tbQ M]/\Tq m n M/\(∀r∈M,∀x∈r,Qs d v x)/\v+(1+n*d)<=1400/\r=.d (fuD (fuO (whM M (M.map scL)) m n 0))
section
variable {P:FB}{w:World}{K:fw}{mg:Str->Option Value}{base:Heap}{k:Nat}{f:Addr}{fd:GE}{qual:Str}
set_option maxHeartbeats 4000000 in
theorem jR (F:Fun K "_law_first_below" qual (top 55) f fd)(hb:∀x∈aD,mg x=none)(c_l_minors:Cal P w K mg base k "_law_minors" (iV P w))(c_l_rows:Cal P w K mg base k "_law_rows" kW):a8 P w K mg base CX0 (k+1) f fd ["_law_table"] (spD K dk):=by
 refine fnD F fF hb (by rintro _ _ ⟨_,_,_,_,_,rfl,_⟩; rfl) ?_;rintro _ _ ⟨m,n,d,v,M,rfl,tq,hq,hz,rfl⟩ cdv A outer s H E b;have nd:=fF.nd;have hu:(Xc P w K mg base ["_law_table","_law_made_here","_law_some","_law_lines","_law_mask","_law_columns"] qual (top 55) f cdv A outer s H E).A.units+16<cLine:=HX .(7) b.room.units;have hu1:(Xc P w K mg base ["_law_table","_law_made_here","_law_some","_law_lines","_law_mask","_law_columns"] qual (top 55) f cdv A outer s H E).A.units+1<cLine:=by omega
 have ok:=rw_ok tq hq hz;have c7:=tq.c7;have nd1:d<=n*d:=Nat.le_mul_of_pos_left d tq.c1;have hw:=tq.at_ (i:=0) tq.r1;have m0:0<M.length:=by rw[tq.len]; exact tq.r1
 have ex:fzD (.n (.t [pY (whM M (M.map scL)),.d (.int (prZ (M.map scL)))]))=some (.tup [.lst ((whM M (M.map scL)).map dtR),.int (prZ (M.map scL))]):=by
   show some (D.tup [ndD (pY _),_])=_;rw[Ef];rfl
 refine aN 1 nd (x_call b c_l_minors (ae (aM (bE (x_call b c_l_rows .(110) ⟨m,n,d,v,M,rfl,tq,hq,by omega,by omega,rfl⟩) ex) af (aQ (aG (i:=0) rfl))) ag) ⟨_,m,n,_,rfl,ok,rfl⟩) ?_;generalize whM M (M.map scL)=R at ok ⊢;refine aN 2 nd (cM ag) ?_
 have hall:∀ls∈.(112).map (·.1),getM .(112) ls=some (.box (bxZ (bY n (lnR R ls)))):=λls h=>by
   obtain⟨q,hq,rfl⟩:=Hu.mp h;exact er (v:=vMn R n) (hU hq).1
 have knd:=CG (v:=vMn R n) (lks R n m);have niff:=λp=>kP ok (p:=p)
 have ff:=λp=>zx ok (p:=p)
 have fn_:=DI ok;generalize hks:.(112).map (·.1)=ks at hall knd niff ff fn_;have em:.(112).map (λp=>kT.toD p.1)=ks.map kT.toD:=by rw[<- hks,Ik]; rfl
 have fewL:(ngs R n ks).length<1000000:=by
   have hn:=zy (R:=R) (n:=n) knd;have:=kys_len (m:=m) (n:=n) (i:=min m n) tq.r7 c7 .(0);have:(ngs R n ks).length<=(kys m n (min m n)).length:=BM hn λp hp=>((niff p).mp hp).1
   omega
 refine bP 3 (g:=λi=>kT.toD (ks.getD i [])) (λi τ=>∃s3 s4 s5,τ=[.d (tbQ M),.d (.box (bxW kT hdT P w .(112))),.o ((ngs R n (ks.take i)).map trD),s3,s4,s5]) b nd (em▸tX (aa 1)) (dn (f:=kT.toD) (xs:=ks) []) ⟨.un,.un,.un,rfl⟩ (λi hi τ h=>?_) λτ h=>?_
 . obtain⟨s3,s4,s5,rfl⟩:=h;have hi:i<ks.length:=by simpa using hi
   have gK:=hall _ (bV (d:=[]) hi);have es:ks.take (i+1)=ks.take i++[ks.getD i []]:=take_snoc _ hi;have few:∀t,(ngs R n (ks.take i)++ngL R n (ks.getD i []) ((bY n (lnR R (ks.getD i []))).take t)).length<1000000:=λt=>HX (wX es) fewL
   rw[es,qJ];generalize ks.getD i []=ls at gK few;have RIk:=fK n (lnR R ls);generalize ngs R n (ks.take i)=L0 at few;generalize hkv:bY n (lnR R ls)=kv at gK RIk few
   have hkk:∀t,t<kv.length->bR kv (kv.getD t (0,0)).1=some (kv.getD t (0,0)).2/\∃S:Nat,(kv.getD t (0,0)).1=(S:Int):=λt ht=>by
     have hm:kv.getD t (0,0)∈kv:=bH ht;obtain⟨S,e1,_,_⟩:=RIk.key _ (Hu.mpr ⟨_,hm,rfl⟩);exact⟨oZ RIk.nd hm,S,e1⟩
   refine bP 4 (g:=λt=>.int (kv.getD t (0,0)).1) (λt τ=>∃s4 s5,τ=[.d (tbQ M),.d (.box (bxW kT hdT P w .(112))),.o ((L0++ngL R n ls (kv.take t)).map trD),.d (kT.toD ls),s4,s5]) b nd (uL (rJ (a:=kT) (hd:=hdT) (key:=ls) hu (aa 1) (aa 3) gK (cJ _) dD)) (λt ht=>?_) ⟨s4,s5,?_⟩ (λt ht τ z=>?_) λτ z=>?_
   . have:t<kv.length:=by simpa using ht
     simp[this]
   . unfold ngL;simp
   . obtain⟨s4,s5,rfl⟩:=z;have ht:t<kv.length:=by simpa using ht
     have est:kv.take (t+1)=kv.take t++[kv.getD t (0,0)]:=take_snoc _ ht;have fewt:=few t;obtain⟨hg,S,eS⟩:=hkk t ht;rw[est,yh];generalize kv.getD t (0,0)=q at hg eS;obtain⟨q1,q2⟩:=q;simp only at eS hg;subst eS;refine i8 (M:=λτ=>∃s4 s5,τ=[.d (tbQ M),.d (.box (bxW kT hdT P w .(112))),.o ((L0++(ngL R n ls (kv.take t)++if q2<0 then [(ls,clz n (S:Int).toNat)] else [])).map trD),.d (kT.toD ls),s4,s5]) (a9 (yg hu1 (rJ (a:=kT) (hd:=hdT) (key:=ls) hu (aa 1) (aa 3) gK (cJ _) dD) (aa 4) hg dD) af vV) (λh=>?_) (λh=>?_) λτ h=>aV h
     . have h:=of_decide_eq_true h;refine lL 5 nd (s:=.d (.lst ((clz n S).map .int))) (Fy 0 (g:=λj=>.int (j:Nat)) (f:=λj=>.int (j:Nat)) (t:=λj=>S.testBit j) b (fH (n:=(n:Nat)) b (bh b (ae (aM (aa 0) af (a6 (gx (f:=rwQ) (i:=0) [] m0))) ag) (m6 (by rw[bp]; exact hw))) ((by omega +splitMinMax)) ((by omega +splitMinMax))) ft (by rw[aP]; omega +splitMinMax) (λj hj s0 H0 fp=>?_) λj hj _ s0 H0 fp=>aa 0) (.inr ?_) ?_
       . refine F6 (a9 (aI (aI (aa 1) (aa 0) (By .(0))) af BZ) af gB) ?_;rw[HC];exact BP S j
       . rw[aP,HC];unfold clz cols;rw[Ik];rfl
       refine nY 2 (x:=trD (ls,clz n S)) (bI (ae (bh b (ae (aa 3) ag) (He (xs:=ls.map D.int) .(18))) (ae (bE (rF b (ae (aa 3) ag) oG)) (ae (aa 5) ag)))) ?_ (aV ⟨.d (.int (S:Int)),.d (.lst ((clz n S).map .int)),?_⟩)
       . rw[bp]; exact fewt
       . have e:(L0++(ngL R n ls (kv.take t)++[(ls,clz n (S:Int).toNat)])).map trD=(L0++ngL R n ls (kv.take t)).map trD++[trD (ls,clz n S)]:=by
           rw[HC,<- Ij,HB (l₂:=[(ls,clz n S)])];rfl
         rw[if_pos h,e];rfl
     . have h:=of_decide_eq_false h;rw[if_neg h,Io];exact aV ⟨_,_,rfl⟩
   . obtain⟨s4,s5,rfl⟩:=z;refine aV ⟨.d (kT.toD ls),s4,s5,?_⟩;rw[bp,HP .(3)]
 . obtain⟨s3,s4,s5,rfl⟩:=h;rw[bp,HP .(3)];have lnd:=zy (R:=R) (n:=n) knd
   have lln:∀p∈ngs R n ks,p.1.length=p.2.length:=λp hp=>by
     obtain⟨a,c⟩:=p;obtain⟨s,_,h1,h2⟩:=kN.mp ((niff _).mp hp).1;show a.length=c.length;rw[(cu m _ a h1).len,(cu n _ c h2).len]
   generalize ngs R n ks=L at lnd lln ff fn_;refine kz 2 (x:=.lst (L.map trD)) ?_;refine dW (a9 (aa 2) (bE (cM ag)) (um b (Dq L) ⟨rfl,by decide⟩)) (λh=>?_) λh=>?_
   . cases L with
     | nil=>
       rw[fn_ rfl];exact aW tV rfl
     | cons p L=>simp[Ev.eqD,Ev.fU]at h
   . have h0:0<L.length:=by
       cases L with
       | nil=>simp[Ev.eqD,Ev.fU]at h
       | cons p L=>simp
     have at_:∀i (hi:i<L.length),L.getD i ([],[])=L[i]:=λi hi=>by simp[hi]
     have hmin:=Eh (X:=Xc P w K mg base ["_law_table","_law_made_here","_law_some","_law_lines","_law_mask","_law_columns"] qual (top 55) f cdv A outer s H E) (xs:=L.map trD) b (λi j=>ltP (L.getD i ([],[])) (L.getD j ([],[]))) (by rw[bp]; exact h0) (λz hz=>by
       obtain⟨p,_,rfl⟩:=Hu.mp hz
       exact Gf p) λi j hi hj hij=>by
         have hi:i<L.length:=by simpa using hi
         have hj:j<L.length:=by simpa using hj
         rw[Jg,Jg,at_ i hi,at_ j hj]
         exact C7 (lln _ (Jt hi)) (lln _ (Jt hj)) λz=>by
           have:=(List.pairwise_iff_getElem.mp lnd) j i hj hi hij;exact this z.symm
     have hb:=ql (lt:=ltP) (λx=>kJ _) (λh1 h2=>nF h1 h2) (L:=λi=>L.getD i ([],[])) (L.length-1);have hle:=Lc.pK (λi j=>ltP (L.getD i ([],[])) (L.getD j ([],[]))) (L.length-1);rw[bp]at hmin;generalize argBest (λi j=>ltP (L.getD i ([],[])) (L.getD j ([],[]))) (L.length-1)=kk at hb hle hmin;have hk:kk<L.length:=by omega
     have em:(L.map trD).getD kk .non=trD (L.getD kk ([],[])):=by simp[hk]
     rw[em]at hmin
     have hfu:fuO R m n 0=some (L.getD kk ([],[])):=ff _ (bH hk) λq hq=>by
       obtain⟨i,hi,rfl⟩:=J5 hq;have:=hb i .(0);rw[at_ i hi]at this;exact this
     rw[hfu];generalize L.getD kk ([],[])=p at hmin;exact aW (pZ (xs:=[.int (p.1.length:Nat),.lst (p.1.map .int),.lst (p.2.map .int)]) (bh b (ae (aa 2) ag) hmin) (i5 af) j5 (show ¬(HT.sIx 3 0 (some 1)=0/\HT.sIx 3 3 none=3) by decide)) rfl
end
theorem at7 (h:0<=x/\x<7):∃t:Nat,t<=2/\atI [D.int 0,.int 0,.int 0,.int 0,.int 0,.int 1,.int 2] x=some (.int (t:Nat)):=by
 obtain⟨n,rfl⟩:=Ki h.1;rcases(by omega:n=0\/n=1\/n=2\/n=3\/n=4\/n=5\/n=6) with rfl | rfl | rfl | rfl | rfl | rfl | rfl
 . exact⟨0,by decide,rfl⟩
 . exact⟨0,by decide,rfl⟩
 . exact⟨0,by decide,rfl⟩
 . exact⟨0,by decide,rfl⟩
 . exact⟨0,by decide,rfl⟩
 . exact⟨1,by decide,rfl⟩
 . exact⟨2,by decide,rfl⟩
noncomputable def lwP (c:Int):List Int:=nums c [3,7,7,2,10^(20:Int).toNat]
def uO (ds:List D)(r:Sl):Prop:=∃ns:List Int,ns.length<=63/\ds=[.lst (ns.map .int)]/\r=.d (.bl true)
section
variable {P:FB}{w:World}{K:fw}{mg:Str->Option Value}{base:Heap}{k:Nat}{f:Addr}{fd:GE}{qual:Str}
set_option maxHeartbeats 4000000 in
theorem DO (F:Fun K "law" qual (top 60) f fd)(hb:∀x∈aD,mg x=none)(c_l_numbers:Cal P w K mg base k "_law_numbers" c8)(c_l_ladders_table:Cal P w K mg base k "_law_ladders_table" bZ)(c_l_first_below:Cal P w K mg base k "_law_first_below" dk)(c_taken_apart:Cal P w K mg base k "taken_apart" cW)(c_l_cell:Cal P w K mg base k "_law_cell" lB)(c_l_bent:Cal P w K mg base k "_law_bent" lZ)(c_l_makes:Cal P w K mg base k "_law_makes" hX)(c_l_full:Cal P w K mg base k "_law_full" kY):a8 P w K mg base CX0 (k+1) f fd ["_law_script"] (spD K uO):=by
 refine fnD F y6 hb (by rintro _ _ ⟨_,_,rfl,_⟩; rfl) ?_;rintro _ _ ⟨ns,hn,rfl,rfl⟩ cdv A' outer s H E b;have nd:=y6.nd;refine aN 1 nd (bE (x_call b c_l_numbers (ae (x_call b c_l_cell (ae (aa 0) (ae af ag)) ⟨ns,0,rfl,rfl⟩) (ae (bE (cM (ae af (ae af (ae af (ae af (ae (aI af af (qL .(12))) ag))))))) ag)) ⟨ns.getD 0 0,[3,7,7,2,10^(20:Int).toNat],rfl,by decide,λx hx=>?_,rfl⟩)) ?_
 . simp only[HA,Jf,or_false]at hx;rcases hx with rfl | rfl | rfl | rfl | rfl
   . exact wA .(2) .(2)
   . exact wA .(2) .(2)
   . exact wA .(2) .(2)
   . exact wA .(2) .(2)
   . exact⟨by decide,(show Bd 120 ((10:Int)^(20:Int).toNat) by unfold Bd; decide +kernel).aL .(2) .(2)⟩
 have ln:(lwP (ns.getD 0 0)).length=5:=mC _ _;have lt:∀i,i<5->0<=(lwP (ns.getD 0 0)).getD i 0/\(lwP (ns.getD 0 0)).getD i 0<[3,7,7,2,(10:Int)^(20:Int).toNat].getD i 0:=λi hi=>AA (c:=ns.getD 0 0) (bs:=[3,7,7,2,10^(20:Int).toNat]) .(2) (i:=i) hi
 show PSs _ _ (dS K [_,.d (.lst ((lwP (ns.getD 0 0)).map D.int)),_,_,_,_,_,_,_] _);generalize lwP (ns.getD 0 0)=ps at ln lt ⊢;have pa:∀i:Nat,i<5->atI (ps.map D.int) (i:Int)=some (.int (ps.getD i 0)):=λi hi=>atR .(0)
 have l0:0<=ps.getD 0 0/\ps.getD 0 0<3:=lt 0 .(2);obtain⟨t1,ht1,e1⟩:=at7 (x:=ps.getD 1 0) (lt 1 .(2));obtain⟨t2,ht2,e2⟩:=at7 (x:=ps.getD 2 0) (lt 2 .(2));refine aN 2 nd (aI af (aM (aa 1) af (a6 (pa 0 .(2)))) ck) ?_;obtain⟨L,hL⟩:=Ki (show 0<=5+ps.getD 0 0 by omega);rw[hL];have h5:5<=L:=by omega
 have h7:L<=7:=by omega
 refine aN 3 nd (aI (aa 2) (aM (bE (cM (ae af (ae af (ae af (ae af (ae af (ae af (ae af ag))))))))) (aM (aa 1) af (a6 (pa 1 .(2)))) (a6 e1)) bO) ?_;refine aN 4 nd (aI (aa 2) (aM (bE (cM (ae af (ae af (ae af (ae af (ae af (ae af (ae af ag))))))))) (aM (aa 1) af (a6 (pa 2 .(2)))) (a6 e2)) bO) ?_;rw[show (L:Int)-(t1:Nat)=((L-t1:Nat):Int) by omega,show (L:Int)-(t2:Nat)=((L-t2:Nat):Int) by omega];generalize hR:L-t1=R;generalize hC:L-t2=C;have ld:=EF (fuP (ns.getD 1 0)) (L:=L) (R:=R) (C:=C) h5 h7 .(0) .(0) .(0) .(0);obtain⟨tq,hq,cm,_⟩:=ld.tab;obtain⟨ok,E',hw,hs,ht⟩:=ld;refine aN 5 nd (x_call b c_l_ladders_table (ae (bI (ae (aa 2) (ae (aa 3) (ae (aa 4) (ae (bE (x_call b c_l_full (ae (x_call b c_l_cell (ae (aa 0) (ae af ag)) ⟨ns,1,rfl,rfl⟩) (ae (aa 2) ag)) ⟨_,L,rfl,h5,h7,rfl⟩)) ag))))) ag) ⟨E',L,R,C,_,rfl,ok,hw,by omega,rfl⟩) ?_;refine kz 5 (x:=tbQ (mkT R C (bwd (mkS (fuP (ns.getD 1 0)) (prD L (L-1)))))) ?_ rfl (congrArg some (t8 R C _));have cz:=cm.cz;generalize mkT R C (bwd (mkS (fuP (ns.getD 1 0)) (prD L (L-1))))=M0 at tq hq cz ⊢;have o0:Oq R C 148 196 M0:=⟨tq,hq⟩;refine i8 (M:=λτ=>∃M,Oq R C 148 196 M/\Cz 202 153 M/\τ=[.d (.lst (ns.map .int)),.d (.lst (ps.map D.int)),.d (.int (L:Nat)),.d (.int (R:Nat)),.d (.int (C:Nat)),.d (tbQ M),.un,.un,.un]) (a9 (aM (aa 1) af (a6 (pa 3 .(2)))) af gB) (λh=>?_) (λh=>aV ⟨M0,o0,cz.mono .(2) .(2),rfl⟩) λτ h=>?_
 . exact aN 5 nd (bE (x_call b c_l_bent (ae (aa 5) (ae (aM (aa 1) af (a6 (pa 4 .(2)))) ag)) ⟨ps.getD 4 0,R,C,148,196,M0,rfl,o0,by decide,by decide,rfl⟩) (tK _)) (aV ⟨_,CA o0 .(2) .(2),cz.GP .(2),rfl⟩)
 obtain⟨M,om,cm',rfl⟩:=h;have nd7:C*148<=7*148:=HU _ .(0);have s7:sz2 R C<=7:=by unfold sz2; split <;> omega
 obtain⟨FT,FM⟩:=xv om .(0) cm' (HJ (Ar s7) .(2)) .(2);refine aN 6 nd (x_call b c_l_first_below (ae (aa 5) ag) ⟨R,C,148,196,M,rfl,om.t,om.q,by omega,rfl⟩) ?_;have lR:(M.map rwQ).length=R:=by rw[bp,om.t.len]
 refine lL 7 nd (cmp 0 (g:=λi=>rwQ .(108)) (f:=λi=>rwQ .(108)) b (bD (aa 5)) (dn (f:=rwQ) (xs:=M) []) (by rw[lR]; omega) λi hi s0 H0 fp=>bE (rF .(109) .(110) sQ)) (.inr rfl) ?_;rw[gX (rwQ) M [] .(18)];show PSs _ _ (dS K [_,_,_,_,_,_,_,.d (tbQ M),_] _);refine aN 8 nd (s:=tkS R C (qM M) (fuO (whM M (M.map scL)) R C 0)) (x_call b c_taken_apart (ae (aa 7) ag) FT) ?_;refine gk (a9 (aa 7) (aa 5) (BN b (oO _) (oO _))) (by rw[gN]; rfl) ?_;generalize hf:fuO (whM M (M.map scL)) R C 0=o at FM ⊢;refine dW (a9 (aa 6) tV (En (o:=o))) (λh=>?_) λh=>?_
 . obtain rfl:o=none:=by cases o with | none=>rfl | some p=>cases h
   have FM:=FM rfl;have ef:=Fs (sz2 R C) R C (apS (sz2 R C) (cq R C (qM M)));exact aW (x_call b c_l_makes (ae (by rw[<- ef]; exact xW (dZ 8) rfl rfl) (ae (aa 5) ag)) FM) rfl
 . cases o with
   | none=>cases h
   | some p=>
     refine aW (km (fE .tuple b (aa 8)) λh=>(mj (iD (aa 8) (bI (ae cw (ae (aM (aa 6) af (aQ (aG (i:=0) rfl))) (ae (aM (aa 6) af (aQ (aG (i:=1) rfl))) ag)))) (um b (qT _ _) (qT _ _))))) ?_;rw[gN];rfl
end
end K34
namespace Hy
open PySem PySem.Spec PyProof.Rows L2
open Ev (D Den av)
def Dfn (K:fw)(x:Str)(st:Stmt)(f:Addr):Prop:=KA K IR x=some (some (.ref f))/\(∃oc od kV dc pm an cd ct sl,K.lookup f=some ⟨oc,od,.func (JQ x x (fM st) (cX st) (aw st) .none kV dc pm an cd ct),sl⟩/\KI K cd x=true)/\JL K (.ref f)=true
def BdA (x:Str)(st:Stmt)(ps:List Str):Prop:=∀(kV dc pm:Value) (an:Option Addr) (cd ct:Value) (us:List Value),us.length=ps.length->bindArgs (JQ x x (fM st) (cX st) (aw st) .none kV dc pm an cd ct) ⟨us,[]⟩=pure (ps.zip us)
noncomputable def nsL (K:fw):List Str->Prop
 | []=>True
 | x::r=>KA K IR x=some none/\nsL K r
section
variable {P:FB}{w:World}{K:fw}{h:Heap}{mg:Str->Option Value}{base:Heap}{x:Str}{st:Stmt}{f:Addr}{ps:List Str}{k:Nat}{Φ:List D->Sl->Prop}
theorem Dfn.of {oc:Value}{od an:Option Addr}{kV dc pm cd ct:Value}{sl:Array (Option Value)}(a:KA K IR x=some (some (.ref f)))(l:K.lookup f=some ⟨oc,od,.func (JQ x x (fM st) (cX st) (aw st) .none kV dc pm an cd ct),sl⟩)(c:KI K cd x=true)(k:JL K (.ref f)=true):Dfn K x st f:=⟨a,⟨_,_,_,_,_,_,_,_,_,l,c⟩,k⟩
theorem nsL.none (X:K.In h)(G:h.Ns IR mg):∀{l:List Str},nsL K l->∀x∈l,mg x=none
 | _::_,z,x,m=>by
   rcases HA.mp m with rfl | m
   . exact PySem.W.mg_none_of X G z.1
   . exact nsL.none X G z.2 x m
theorem Dfn.fn (d:Dfn K x st f)(X:K.In h)(G:h.Ns IR mg)(b:BdA x st ps):∃fd,Fun K x x st f fd/\mg x=some (.ref f)/\JL K (.ref f)=true/\Binds K fd ps []:=by
 obtain⟨a,⟨oc,od,kV,dc,pm,an,cd,ct,sl,l,c'⟩,q⟩:=d;have F:=wO l c' q;exact⟨_,F,K4 X G a,q,F.binds (b kV dc pm an cd ct)⟩
theorem Dfn.cal (d:Dfn K x st f)(X:K.In h)(G:h.Ns IR mg)(b:BdA x st ps)(o:∀fd,Fun K x x st f fd->a8 P w K mg base CX0 k f fd ps (spD K Φ)):Cal P w K mg base k x Φ:=by
 obtain⟨fd,F,h1,h2,h3⟩:=d.fn X G b;exact⟨f,fd,ps,o fd F,h1,h2,h3⟩
end
theorem bd1 {Q:List Value->Prop}(h:∀a,Q [a]):∀us:List Value,us.length=1->Q us:=λus e=>match us,e with | [a],_=>h a
theorem bd2 {Q:List Value->Prop}(h:∀a b,Q [a,b]):∀us:List Value,us.length=2->Q us:=λus e=>match us,e with | [a,b],_=>h a b
theorem bd3 {Q:List Value->Prop}(h:∀a b c,Q [a,b,c]):∀us:List Value,us.length=3->Q us:=λus e=>match us,e with | [a,b,c],_=>h a b c
end Hy
namespace L2
open PySem PySem.Spec PyProof.Rows
theorem we {K:fw}{s₁:Da}{vs:List Value}{ns:List Int}
   (KX:K.In s₁.heap) (hns:s₁.heap.Ns IR mg) (hb:s₁.heap.Ns builtinsNs mb) (hbb:∀x:Str,x ≠ "__name__" -> mb x=MY x) (hlim:s₁.heap.NoLimit) (hg:s₁.gens=#[])
   (ha:s₁.heap.get? a=some { cls:=.type "list",data:=.seq vs.toArray }) (hi:IntsAre vs ns) (hl:ns.length<=sizeLine) (hr:gq k callerA)
   (hsr:s₁.heap.NoSeer) (F:∀base:Heap,K.In base->base.Ns IR mg->base.NoSeer->a8 P w K mg base CX k fa fd [x] sp) (hbind:∀(s:Da) (u:Value),BindsTo s fd ⟨[u],[]⟩ [(x,u)])
   (hsp:∀H:Hp,DX H->SqL K H a (ns.map V.int)->sp [.ref a] H (λv _=>v=.bl true) λ_ _ _=>False)
   (hCX:∀H e s',CX [] H s₁ (λ_ _ _=>False) e s'->False) :
   Nq (model P w) callerA (.call (.ref fa) ⟨[.ref a],[]⟩) (λr s'=>r=.ok (.ret (.bool true))/\OldK s₁.heap s'.heap/\s'.os=s₁.os/\NA s'.gens) s₁:=by
 have rv:=nX hi;have lenV:=hi.length
 have core:∀H:Hp,DX H->SqL K H a (ns.map V.int)->HOk P w H s₁.heap->(∀b,H b≠none->b=a)->(H a≠none->K.lookup a=none) ->
     Nq (model P w) callerA (.call (.ref fa) ⟨[.ref a],[]⟩) (λr s'=>r=.ok (.ret (.bool true))/\OldK s₁.heap s'.heap/\s'.os=s₁.os/\NA s'.gens) s₁:=by
   intro H hO hS hok hA hK;have base_of:∀{b:Addr} {o:Obj},s₁.heap.get? b=some o->H b=none->(mV s₁.heap H).get? b=some o:=λe n=>yo e n
   have noA:∀{b:Addr} {o:Obj} {es:Array NM} {ep:Nat},s₁.heap.get? b=some o->o.data=.dict es ep->H b=none:=λ{b o es ep} e d=>by
     cases q:H b with
     | none=>rfl
     | some u=>
       have e':b=a:=hA b (by rw[q]; simp);subst e';rw[ha]at e; cases e
       have d':Data.seq vs.toArray _=Data.dict es ep:=d;cases d'
   have nsK:∀{b:Addr} {m:Str->Option Value},s₁.heap.Ns b m->(mV s₁.heap H).Ns b m:=λ{b m} ⟨o,es,ep,e,d,r⟩=>⟨o,es,ep,base_of e (noA e d),d,r⟩
   have hKb:K.In (mV s₁.heap H):=λb o e=>base_of (KX b o e) (by
     cases q:H b with
     | none=>rfl
     | some u=>
       have e':b=a:=hA b (by rw[q]; simp);subst e';rw[hK (by rw[q]; simp)]at e; cases e)
   have hSr:(mV s₁.heap H).NoSeer:={
     statics:=let ⟨mc,a,c⟩:=hsr.statics; ⟨mc,nsK a,c⟩
     mods:=let ⟨mc,a,c⟩:=hsr.mods; ⟨mc,nsK a,c⟩
     imp:=let ⟨mc,a,c⟩:=hsr.imp; ⟨mc,nsK a,c⟩
     main:=let ⟨mg,bm,ob,g0,g1,g2,g3,g4⟩:=hsr.main; ⟨mg,bm,ob,nsK g0,g1,base_of g2 (by
       cases q:H bm with
       | none=>rfl
       | some u=>
         have e':bm=a:=hA bm (by rw[q]; simp);subst e';rw[ha]at g2; cases g2
         exact absurd (show Lp "list" = Lp "module" from g3) .(4)),g3,g4⟩ }
   have hM:Mod K mg (mV s₁.heap H):=⟨hKb,nsK hns,⟨mb,nsK hb,hbb⟩,let ⟨mc,h1,h2⟩:=hlim; ⟨mc,nsK h1,h2⟩⟩;have e0:AO P w K mg (mV s₁.heap H) callerA [] s₁ H:=⟨rfl,hM,λb o e=>zL e,Nat.le_of_eq (wL _ _),trivial,λb hb=>absurd (show b∈([]:List Addr) from hb) .(4),hok,.of_eq hg⟩;refine codeAny_mono ((F _ hKb (nsK hns) hSr).run callerA [] s₁ H ⟨[.ref a],[]⟩ [.ref a] [.ref a] _ _ hr e0 (hbind s₁ (.ref a)) (.cons rfl .nil) (hsp H hO hS)) λr s' h=>?_
   cases r with
   | error e=>exact(hCX H e s' h).elim
   | ok fl=>
     cases fl with
     | next=>exact J7 h
     | brk=>exact J7 h
     | cont=>exact J7 h
     | ret u=>
       obtain⟨v,H',os,bare,un,hok',r',q⟩:=h;have q':v=.bl true:=q;subst q';obtain rfl:u=Jj true:=r';refine⟨rfl,OldK.of_keep λb o e=>?_,os,bare⟩;cases q:H b with
       | none=>exact un.keep b o e q (by intro z; exact absurd (show b∈([]:List Addr) from z) .(4)) .(4)
       | some u=>
         rcases hO b with z | ⟨ob,xs,z⟩
         . rw[q]at z; cases z
         . have z2:=un.frzs b ob _ z;obtain⟨e1,_⟩:=hok b _ z;obtain⟨e2,_⟩:=hok' b _ z2;rw[e]at e1; cases e1
           exact e2
 cases hk:K.lookup a with
 | some o=>
   have e:=KX a o hk;rw[ha]at e;cases e
   refine core (λ_=>none) (λ_=>.inl rfl) (.inr ⟨_,vs.toArray,_,hk,rfl,rfl,rfl,by rw[HD,lenV]; exact hl,by simpa using rv⟩) (λb u z=>by have z':(none:Option HO)=some u:=z; cases z') (λb z=>absurd rfl z) λz=>absurd rfl z
 | none=>
   refine core (λb=>if b=a then some (.frz { cls:=.type "list",data:=.seq vs.toArray } (.lst (ns.map V.int))) else none) (λb=>?_) (.inl (.inr ⟨{ cls:=.type "list",data:=.seq vs.toArray },if_pos rfl⟩)) (λb u z=>?_) (λb z=>?_) λ_=>hk
   . by_cases hb:b=a
     . exact .inr ⟨_,_,if_pos hb⟩
     . exact .inl (if_neg hb)
   . by_cases hb:b=a
     . have z':=(if_pos hb).symm.trans z;cases z'
       subst hb;exact⟨ha,by rw[bp]; exact hl,vs,_,rv,ha⟩
     . have z':=(if_neg hb).symm.trans z;cases z'
   . by_cases hb:b=a
     . exact hb
     . exact absurd (if_neg hb) z
theorem xo {l:L7}{XP:(Str->Option Value)->Heap->Prop}{YP:World->Heap->Prop}{d:DefRec}{K:Params->fw}{CX:World->CXT}{sp:World->Sp}
   (hn:l.most=some n) (hn2:n<=sizeLine) (hdf:d.params.defaults=[]) (hr:gq k callerA)
   (hY:∀(w:World) (h:Heap),YP w h->(K w.params).In h)
   (F:∀(w:World) (mg:Str->Option Value) (fa:Addr) (h:Heap),(K w.params).In h->h.Ns IR mg->mg d.name=some (.ref fa) ->
     ∃fd:GE,(∀(s:Da) (u:Value),BindsTo s fd ⟨[u],[]⟩ [(x,u)]) /\
       ∀base:Heap,(K w.params).In base->base.Ns IR mg->base.NoSeer->a8 l.prog w (K w.params) mg base (CX w) k fa fd [x] (sp w))
   (hI:importsNone q=true) (hsp:∀(w:World) (H:Hp) (a:Addr) (ns:List Int),ns.length<=n->DX H->SqL (K w.params) H a (ns.map V.int)->sp w [.ref a] H (λv _=>v=.bl true) λ_ _ _=>False)
   (hCX:∀(w:World) (H:Hp) (s:Da) (e:Value) (s':Da),CX w [] H s (λ_ _ _=>False) e s'->False) :
   PySem.W.WalkO q loose XP YP l.row.toRowW d [] (λf vs=>PySem.call f vs):=by
 refine Att.qD hn hdf λw s₀ s₁ mg mb fa o pm cd doc a vs ns G Y ho hd hcd hmg hobj hints hlen hg=>?_
 have KX:=hY w _ Y;obtain⟨fd,hb,hF⟩:=F w mg fa _ KX G.T.g hmg;exact we KX G.T.g G.T.b G.T.builtins G.T.nolimit hg hobj hints (HJ hlen hn2) hr (G.T.seer hI) hF hb (λH hO hS=>hsp w H a ns hlen hO hS) λH e s'=>hCX w H s₁ e s'
end L2
namespace K34
open PySem PySem.Spec PyProof.Rows L2 Hy
set_option maxHeartbeats 0 in
theorem all_mk {l:L7}{K:fw}{h:Heap}(X:K.In h)(G:h.Ns IR mg)(hfa:mg "law" = some (.ref fa))
   (h0:Dfn K "_law_numbers" (top 44) f0) (h1:Dfn K "_law_divisor" (top 45) f1) (h2:Dfn K "_law_made" (top 46) f2) (h3:Dfn K "_law_times" (top 53) f3) (h4:Dfn K "_law_plus" (top 52) f4) (h5:Dfn K "_law_ladders_table" (top 54) f5) (h6:Dfn K "_law_minors" (top 50) f6) (h7:Dfn K "_law_rows" (top 49) f7) (h8:Dfn K "_law_first_below" (top 55) f8) (h9:Dfn K "is_short_list" (top 17) f9) (h10:Dfn K "is_whole" (top 7) f10) (h11:Dfn K "common_divisor" (top 9) f11) (h12:Dfn K "is_fraction" (top 8) f12) (h13:Dfn K "is_row" (top 18) f13) (h14:Dfn K "is_table" (top 19) f14) (h15:Dfn K "look_table" (top 20) f15) (h16:Dfn K "choices_of" (top 21) f16) (h17:Dfn K "along_last_row" (top 31) f17) (h18:Dfn K "one_row_more" (top 30) f18) (h19:Dfn K "all_determinants" (top 29) f19) (h20:Dfn K "whole_row" (top 26) f20) (h21:Dfn K "whole_rows" (top 27) f21) (h22:Dfn K "scale_of" (top 25) f22) (h23:Dfn K "first_under" (top 28) f23) (h24:Dfn K "column_of" (top 23) f24) (h25:Dfn K "columns_of" (top 22) f25) (h26:Dfn K "lift_row" (top 39) f26) (h27:Dfn K "product_of" (top 13) f27) (h28:Dfn K "in_lowest_terms" (top 10) f28) (h29:Dfn K "quotient_of" (top 14) f29) (h30:Dfn K "sum_of" (top 11) f30) (h31:Dfn K "rest_of" (top 12) f31) (h32:Dfn K "take_off" (top 40) f32) (h33:Dfn K "clear_column" (top 38) f33) (h34:Dfn K "turned_step" (top 33) f34) (h35:Dfn K "steps_of" (top 37) f35) (h36:Dfn K "squared" (top 36) f36) (h37:Dfn K "taken_apart" (top 35) f37) (h38:Dfn K "_law_cell" (top 43) f38) (h39:Dfn K "_law_number" (top 47) f39) (h40:Dfn K "_law_bent" (top 58) f40) (h41:Dfn K "_law_whole" (top 48) f41) (h42:Dfn K "_law_is_step" (top 56) f42) (h43:Dfn K "_law_makes" (top 57) f43) (h44:Dfn K "_law_ten" (top 42) f44) (h45:Dfn K "_law_weight" (top 51) f45) (h46:Dfn K "_law_full" (top 59) f46) (h47:Dfn K "law" (top 60) f47) (hz:nsL K aD) (z0:KA K IR "MOST" = some (some (.int 7 t0))) (zb:KA K IR "NOUGHT" = some (some (.ref ab))) (zl:K.lookup ab=some ⟨.type "tuple",db,.seq #[.int 0 tb1,.int 1 tb2] nb,sb⟩) (zc:KA K IR "ONE" = some (some (.ref ac))) (zm:K.lookup ac=some ⟨.type "tuple",dc,.seq #[.int 1 tc1,.int 1 tc2] nc,sc⟩) (htr:l.prog.given.tree=none) :
   ∃fd:GE,(∀(s:Da) (v:Value),BindsTo s fd ⟨[v],[]⟩ [("_law_script",v)])/\∀base:Heap,K.In base->base.Ns IR mg->base.NoSeer->a8 l.prog w K mg base CX0 48 fa fd ["_law_script"] (spD K uO):=by
 have hb:=hz.none X G;have y_MOST:∃t,mg "MOST" = some (.int 7 t):=⟨_,K4 X G z0⟩;have y_NOUGHT:Mk1 K mg "NOUGHT" 0 1:=⟨ab,K4 X G zb,λH=>.inr ⟨_,_,_,zl,rfl,rfl,(by show 2<=sizeLine; decide),.cons ⟨_,rfl⟩ (.cons ⟨_,rfl⟩ .nil)⟩⟩;have y_ONE:Mk1 K mg "ONE" 1 1:=⟨ac,K4 X G zc,λH=>.inr ⟨_,_,_,zm,rfl,rfl,(by show 2<=sizeLine; decide),.cons ⟨_,rfl⟩ (.cons ⟨_,rfl⟩ .nil)⟩⟩;obtain⟨a,⟨oc,od,kV,dc,pm,an,cd,ct,sl,l0,c⟩,r⟩:=h47;cases hfa.symm.trans (K4 X G a)
 refine⟨JQ "law" "law" (fM (top 60)) (cX (top 60)) (aw (top 60)) .none kV dc pm an cd ct,λs v=>.of_eq rfl,λbase _ _ sr=>?_⟩;have pyl:Pyl l.prog base:=⟨sr,htr⟩;have c_l_numbers:Cal l.prog w K mg base 41 "_law_numbers" c8:=h0.cal (ps:=["_law_cell_here","_law_bases"]) X G (λ_ _ _ _ _ _=>Hy.bd2 λ_ _=>rfl) λ_ F=>pF (k:=40) F hb
 have c_l_divisor:Cal l.prog w K mg base 41 "_law_divisor" dh:=h1.cal (ps:=["_law_one","_law_other"]) X G (λ_ _ _ _ _ _=>Hy.bd2 λ_ _=>rfl) λ_ F=>pf (k:=40) F hb
 have c_l_made:Cal l.prog w K mg base 42 "_law_made" fA:=h2.cal (ps:=["_law_top","_law_bottom"]) X G (λ_ _ _ _ _ _=>Hy.bd2 λ_ _=>rfl) λ_ F=>vT (k:=41) F hb pyl .(2) c_l_divisor
 have c_l_times:Cal l.prog w K mg base 43 "_law_times" jI:=h3.cal (ps:=["_law_one","_law_other"]) X G (λ_ _ _ _ _ _=>Hy.bd2 λ_ _=>rfl) λ_ F=>r6 (k:=42) F hb c_l_made
 have c_l_plus:Cal l.prog w K mg base 43 "_law_plus" lN:=h4.cal (ps:=["_law_one","_law_other"]) X G (λ_ _ _ _ _ _=>Hy.bd2 λ_ _=>rfl) λ_ F=>wa (k:=42) F hb c_l_made
 have c_l_ladders_table:Cal l.prog w K mg base 44 "_law_ladders_table" bZ:=h5.cal (ps:=["_law_ladder"]) X G (λ_ _ _ _ _ _=>Hy.bd1 λ_=>rfl) λ_ F=>iM (k:=43) F hb c_l_times c_l_plus
 have c_l_minors:Cal l.prog w K mg base 41 "_law_minors" (iV l.prog w):=h6.cal (ps:=["_law_rows_here"]) X G (λ_ _ _ _ _ _=>Hy.bd1 λ_=>rfl) λ_ F=>pN (k:=40) F hb
 have c_l_rows:Cal l.prog w K mg base 42 "_law_rows" kW:=h7.cal (ps:=["_law_table"]) X G (λ_ _ _ _ _ _=>Hy.bd1 λ_=>rfl) λ_ F=>vI (k:=41) F hb c_l_divisor
 have c_l_first_below:Cal l.prog w K mg base 43 "_law_first_below" dk:=h8.cal (ps:=["_law_table"]) X G (λ_ _ _ _ _ _=>Hy.bd1 λ_=>rfl) λ_ F=>jR (k:=42) F hb (c_l_minors.mono .(2)) c_l_rows
 have c_is_short_list:Cal l.prog w K mg base 41 "is_short_list" cx:=h9.cal (ps:=["thing"]) X G (λ_ _ _ _ _ _=>Hy.bd1 λ_=>rfl) λ_ F=>j3 (k:=40) F hb y_MOST
 have c_is_whole:Cal l.prog w K mg base 41 "is_whole" iH:=h10.cal (ps:=["thing"]) X G (λ_ _ _ _ _ _=>Hy.bd1 λ_=>rfl) λ_ F=>pX (k:=40) F hb
 have c_common_divisor:Cal l.prog w K mg base 41 "common_divisor" bg:=h11.cal (ps:=["one","other"]) X G (λ_ _ _ _ _ _=>Hy.bd2 λ_ _=>rfl) λ_ F=>jw (k:=40) F hb
 have c_is_fraction:Cal l.prog w K mg base 42 "is_fraction" fg:=h12.cal (ps:=["thing"]) X G (λ_ _ _ _ _ _=>Hy.bd1 λ_=>rfl) λ_ F=>lX (k:=41) F hb c_is_whole c_common_divisor
 have c_is_row:Cal l.prog w K mg base 43 "is_row" lJ:=h13.cal (ps:=["thing"]) X G (λ_ _ _ _ _ _=>Hy.bd1 λ_=>rfl) λ_ F=>wb (k:=42) F hb (c_is_short_list.mono .(2)) c_is_fraction
 have c_is_table:Cal l.prog w K mg base 44 "is_table" iP:=h14.cal (ps:=["thing"]) X G (λ_ _ _ _ _ _=>Hy.bd1 λ_=>rfl) λ_ F=>qb (k:=43) F hb (c_is_short_list.mono .(2)) c_is_row
 have c_look_table:Cal l.prog w K mg base 45 "look_table" fS:=h15.cal (ps:=["thing"]) X G (λ_ _ _ _ _ _=>Hy.bd1 λ_=>rfl) λ_ F=>mE (k:=44) F hb c_is_table
 have c_choices_of:Cal l.prog w K mg base 41 "choices_of" gh:=h16.cal (ps:=["many","size"]) X G (λ_ _ _ _ _ _=>Hy.bd2 λ_ _=>rfl) λ_ F=>mG (k:=40) F hb
 have c_along_last_row:Cal l.prog w K mg base 41 "along_last_row" (cS l.prog w):=h17.cal (ps:=["known","row","columns"]) X G (λ_ _ _ _ _ _=>Hy.bd3 λ_ _ _=>rfl) λ_ F=>jz (k:=40) F hb
 have c_one_row_more:Cal l.prog w K mg base 42 "one_row_more" (dQ l.prog w):=h18.cal (ps:=["known","row","column_choices"]) X G (λ_ _ _ _ _ _=>Hy.bd3 λ_ _ _=>rfl) λ_ F=>ky (k:=41) F hb c_along_last_row
 have c_all_determinants:Cal l.prog w K mg base 43 "all_determinants" (cA l.prog w):=h19.cal (ps:=["rows"]) X G (λ_ _ _ _ _ _=>Hy.bd1 λ_=>rfl) λ_ F=>iq (k:=42) F hb (c_choices_of.mono .(2)) c_one_row_more
 have c_whole_row:Cal l.prog w K mg base 41 "whole_row" gM:=h20.cal (ps:=["row","scale"]) X G (λ_ _ _ _ _ _=>Hy.bd2 λ_ _=>rfl) λ_ F=>oD (k:=40) F hb
 have c_whole_rows:Cal l.prog w K mg base 42 "whole_rows" fT:=h21.cal (ps:=["table","scales"]) X G (λ_ _ _ _ _ _=>Hy.bd2 λ_ _=>rfl) λ_ F=>mK (k:=41) F hb c_whole_row
 have c_scale_of:Cal l.prog w K mg base 42 "scale_of" iW:=h22.cal (ps:=["row"]) X G (λ_ _ _ _ _ _=>Hy.bd1 λ_=>rfl) λ_ F=>qU (k:=41) F hb c_common_divisor
 have c_first_under:Cal l.prog w K mg base 44 "first_under" eV:=h23.cal (ps:=["table","bound"]) X G (λ_ _ _ _ _ _=>Hy.bd2 λ_ _=>rfl) λ_ F=>kS (k:=43) F hb c_all_determinants (c_whole_rows.mono .(2)) (c_scale_of.mono .(2))
 have c_column_of:Cal l.prog w K mg base 41 "column_of" gH:=h24.cal (ps:=["table","j"]) X G (λ_ _ _ _ _ _=>Hy.bd2 λ_ _=>rfl) λ_ F=>oS (k:=40) F hb
 have c_columns_of:Cal l.prog w K mg base 42 "columns_of" fN:=h25.cal (ps:=["table"]) X G (λ_ _ _ _ _ _=>Hy.bd1 λ_=>rfl) λ_ F=>mH (k:=41) F hb c_column_of
 have c_product_of:Cal l.prog w K mg base 42 "product_of" dC:=h27.cal (ps:=["one","other"]) X G (λ_ _ _ _ _ _=>Hy.bd2 λ_ _=>rfl) λ_ F=>mP (k:=41) F hb pyl .(2) c_common_divisor
 have c_in_lowest_terms:Cal l.prog w K mg base 42 "in_lowest_terms" cK:=h28.cal (ps:=["top","bottom"]) X G (λ_ _ _ _ _ _=>Hy.bd2 λ_ _=>rfl) λ_ F=>iS (k:=41) F hb pyl .(2) c_common_divisor
 have c_quotient_of:Cal l.prog w K mg base 43 "quotient_of" fh:=h29.cal (ps:=["one","other"]) X G (λ_ _ _ _ _ _=>Hy.bd2 λ_ _=>rfl) λ_ F=>lW (k:=42) F hb c_product_of c_in_lowest_terms
 have c_sum_of:Cal l.prog w K mg base 42 "sum_of" lF:=h30.cal (ps:=["one","other"]) X G (λ_ _ _ _ _ _=>Hy.bd2 λ_ _=>rfl) λ_ F=>v5 (k:=41) F hb pyl .(2) c_common_divisor
 have c_rest_of:Cal l.prog w K mg base 43 "rest_of" jN:=h31.cal (ps:=["one","other"]) X G (λ_ _ _ _ _ _=>Hy.bd2 λ_ _=>rfl) λ_ F=>sk (k:=42) F hb c_sum_of
 obtain⟨fdl,Fl,ml,kl,bl⟩:=h26.fn (ps:=["grid","i"]) X G (λ_ _ _ _ _ _=>Hy.bd2 λ_ _=>rfl);have c_lift_row:sU l.prog w K mg base 44 "lift_row" (spG K iT):=⟨_,_,_,qW (k:=43) Fl hb y_NOUGHT y_ONE,ml,kl,bl⟩;obtain⟨fdt,Ft,mt,kt,bt⟩:=h32.fn (ps:=["grid","i","k"]) X G (λ_ _ _ _ _ _=>Hy.bd3 λ_ _ _=>rfl);have c_take_off:sU l.prog w K mg base 44 "take_off" (spG K iU):=⟨_,_,_,qO (k:=43) Ft hb c_quotient_of c_rest_of (c_product_of.mono .(2)),mt,kt,bt⟩;obtain⟨fdc,Fc,mc,kc,bc⟩:=h33.fn (ps:=["grid","k"]) X G (λ_ _ _ _ _ _=>Hy.bd2 λ_ _=>rfl);have c_clear_column:sU l.prog w K mg base 45 "clear_column" (spG K dM):=⟨_,_,_,kA (k:=44) Fc hb y_NOUGHT c_lift_row c_take_off,mc,kc,bc⟩;have c_turned_step:Cal l.prog w K mg base 41 "turned_step" eX:=h34.cal (ps:=["step"]) X G (λ_ _ _ _ _ _=>Hy.bd1 λ_=>rfl) λ_ F=>k6 (k:=40) F hb
 have c_steps_of:Cal l.prog w K mg base 46 "steps_of" iK:=h35.cal (ps:=["table"]) X G (λ_ _ _ _ _ _=>Hy.bd1 λ_=>rfl) λ_ F=>pS (k:=45) F hb c_clear_column (c_columns_of.mono .(2)) (c_turned_step.mono .(2))
 have c_squared:Cal l.prog w K mg base 41 "squared" jM:=h36.cal (ps:=["table","size"]) X G (λ_ _ _ _ _ _=>Hy.bd2 λ_ _=>rfl) λ_ F=>sV (k:=40) F hb y_NOUGHT
 have c_taken_apart:Cal l.prog w K mg base 47 "taken_apart" cW:=h37.cal (ps:=["table"]) X G (λ_ _ _ _ _ _=>Hy.bd1 λ_=>rfl) λ_ F=>lH (k:=46) F hb (c_look_table.mono .(2)) (c_first_under.mono .(2)) c_steps_of (c_squared.mono .(2))
 have c_l_cell:Cal l.prog w K mg base 41 "_law_cell" lB:=h38.cal (ps:=["_law_script","_law_k"]) X G (λ_ _ _ _ _ _=>Hy.bd2 λ_ _=>rfl) λ_ F=>wI (k:=40) F hb
 have c_l_number:Cal l.prog w K mg base 43 "_law_number" iE:=h39.cal (ps:=["_law_kind","_law_part"]) X G (λ_ _ _ _ _ _=>Hy.bd2 λ_ _=>rfl) λ_ F=>qc (k:=42) F hb c_l_made
 have c_l_bent:Cal l.prog w K mg base 44 "_law_bent" lZ:=h40.cal (ps:=["_law_table","_law_cell_here"]) X G (λ_ _ _ _ _ _=>Hy.bd2 λ_ _=>rfl) λ_ F=>vU (k:=43) F hb (c_l_numbers.mono .(2)) c_l_number
 have c_l_whole:Cal l.prog w K mg base 41 "_law_whole" ie:=h41.cal (ps:=["_law_thing"]) X G (λ_ _ _ _ _ _=>Hy.bd1 λ_=>rfl) λ_ F=>sG (k:=40) F hb
 have c_l_is_step:Cal l.prog w K mg base 42 "_law_is_step" gR:=h42.cal (ps:=["_law_step","_law_tracks"]) X G (λ_ _ _ _ _ _=>Hy.bd2 λ_ _=>rfl) λ_ F=>oB (k:=41) F hb c_l_whole c_l_divisor
 have c_l_makes:Cal l.prog w K mg base 45 "_law_makes" hX:=h43.cal (ps:=["_law_found","_law_table"]) X G (λ_ _ _ _ _ _=>Hy.bd2 λ_ _=>rfl) λ_ F=>su (k:=44) F hb c_l_ladders_table (c_l_is_step.mono .(2)) (c_l_whole.mono .(2))
 have c_l_ten:Cal l.prog w K mg base 41 "_law_ten" o8:=h44.cal (ps:=["_law_many"]) X G (λ_ _ _ _ _ _=>Hy.bd1 λ_=>rfl) λ_ F=>yE (k:=40) F hb
 have c_l_weight:Cal l.prog w K mg base 43 "_law_weight" i4:=h45.cal (ps:=["_law_part","_law_figures"]) X G (λ_ _ _ _ _ _=>Hy.bd2 λ_ _=>rfl) λ_ F=>qv (k:=42) F hb c_l_made (c_l_ten.mono .(2))
 have c_l_full:Cal l.prog w K mg base 44 "_law_full" kY:=h46.cal (ps:=["_law_cell_here","_law_tracks"]) X G (λ_ _ _ _ _ _=>Hy.bd2 λ_ _=>rfl) λ_ F=>wy (k:=43) F hb (c_l_numbers.mono .(2)) c_l_weight
 exact DO (k:=47) (wO l0 c r) hb (c_l_numbers.mono .(2)) (c_l_ladders_table.mono .(2)) (c_l_first_below.mono .(2)) c_taken_apart (c_l_cell.mono .(2)) (c_l_bent.mono .(2)) (c_l_makes.mono .(2)) (c_l_full.mono .(2))
theorem walk {l:L7}{XP:(Str->Option Value)->Heap->Prop}{YP:World->Heap->Prop}{d:DefRec}{K:Params->fw}(hn:l.most=some 63)(hdf:d.params.defaults=[])(hI:importsNone q=true)
   (hY:∀(w:World) (h:Heap),YP w h->(K w.params).In h)
   (F:∀(w:World) (mg:Str->Option Value) (fa:Addr) (h:Heap),(K w.params).In h->h.Ns IR mg->mg d.name=some (.ref fa) ->
     ∃fd:GE,(∀(s:Da) (u:Value),BindsTo s fd ⟨[u],[]⟩ [("_law_script",u)])/\∀base:Heap,(K w.params).In base->base.Ns IR mg->base.NoSeer->a8 l.prog w (K w.params) mg base CX0 48 fa fd ["_law_script"] (spD (K w.params) uO)) :
   PySem.W.WalkO q loose XP YP l.row.toRowW d [] (λf vs=>PySem.call f vs):=
 L2.xo (n:=63) (k:=48) (x:="_law_script") (CX:=λ_=>CX0) (sp:=λw=>spD (K w.params) uO) hn .(2) hdf ⟨rfl,by decide,by decide⟩ hY F hI
   (λw H a ns hl _ hS=>AE (λns h=>⟨ns,h,rfl,rfl⟩) H a ns hl hS) λ_ _ _ _ _ z=>z
end K34
open PySem PySem.W PyProof.Rows
namespace PySem.W.Fast
theorem tw12518589983275900734:True:=⟨⟩
theorem tw7677411099330400142:True:=⟨⟩
theorem tw3683419917534954285:True:=⟨⟩
theorem tw7541144843565920621:True:=⟨⟩
theorem tw3501296530042183222:True:=⟨⟩
theorem tw13098942989135549361:True:=⟨⟩
theorem tw12639373488985975430:True:=⟨⟩
theorem tw12333892766722710984:True:=⟨⟩
theorem tw3751073126800928777:True:=⟨⟩
theorem tw16611827971714725244:True:=⟨⟩
theorem tw3570694738231659653:True:=⟨⟩
theorem tw3469462588532093992:True:=⟨⟩
theorem tw6698468124550313577:True:=⟨⟩
theorem tw5099337526891611700:True:=⟨⟩
theorem tw12590722313342986435:True:=⟨⟩
theorem tw6003192685775521260:True:=⟨⟩
theorem tw6484161625505629570:True:=⟨⟩
theorem tw2588606930955684018:True:=⟨⟩
theorem tw5800755797163419597:True:=⟨⟩
theorem tw17050370501700632404:True:=⟨⟩
theorem tw11732138728284299546:True:=⟨⟩
theorem tw17229184190480198127:True:=⟨⟩
theorem tw554024462091222755:True:=⟨⟩
theorem tw7694296507663678498:True:=⟨⟩
theorem tw1320311613496262048:True:=⟨⟩
theorem tw10105799038460386093:True:=⟨⟩
theorem tw3723743151799994252:True:=⟨⟩
theorem tw6228606938892869178:True:=⟨⟩
theorem tw17957641977696715303:True:=⟨⟩
theorem tw7041196019618021919:True:=⟨⟩
theorem tw153522933014734851:True:=⟨⟩
theorem tw1808210953561708263:True:=⟨⟩
theorem tw1139536816706828710:True:=⟨⟩
theorem tw9020587699634748733:True:=⟨⟩
theorem tw12064500996368502349:True:=⟨⟩
theorem tw13441371947117479052:True:=⟨⟩
theorem tw17868300486994726490:True:=⟨⟩
theorem tw3811553619919981700:True:=⟨⟩
theorem tw968735677421014716:True:=⟨⟩
theorem tw3516965548961366339:True:=⟨⟩
theorem tw5174797139710820689:True:=⟨⟩
theorem tw17081856385842189819:True:=⟨⟩
theorem tw9425959346119097853:True:=⟨⟩
theorem tw11731858508539399237:True:=⟨⟩
theorem tw8853995003653396120:True:=⟨⟩
theorem tw3118751321137326199:True:=⟨⟩
theorem tw17833936116991752699:True:=⟨⟩
theorem tw13245733927643165132:True:=⟨⟩
theorem tw11516625849591966821:True:=⟨⟩
theorem tw13883691536067512496:True:=⟨⟩
theorem tw1671793000937897151:True:=⟨⟩
theorem tw15407555886891731402:True:=⟨⟩
theorem tw8865049584910812769:True:=⟨⟩
theorem tw4182668438101854787:True:=⟨⟩
theorem tw5482941722180922421:True:=⟨⟩
theorem tw12704284354662042541:True:=⟨⟩
theorem tw2098963143506436120:True:=⟨⟩
theorem tw17742625591551661846:True:=⟨⟩
theorem tw1349638961399517779:True:=⟨⟩
theorem tw13998556143007620343:True:=⟨⟩
theorem tw15715131078006660892:True:=⟨⟩
theorem tw10115844974903857010:True:=⟨⟩
theorem tw8792936507413274187:True:=⟨⟩
theorem tw1566937777831938285:True:=⟨⟩
theorem tw14192161927427916144:True:=⟨⟩
theorem tw14404585287507870315:True:=⟨⟩
theorem tw17384973581609499979:True:=⟨⟩
theorem tw3109085266218356928:True:=⟨⟩
theorem tw35630340557402443:True:=⟨⟩
theorem tw17304904912429096656:True:=⟨⟩
theorem tw17124889560509839436:True:=⟨⟩
theorem tw5750328746328889155:True:=⟨⟩
theorem tw9569168298280490282:True:=⟨⟩
theorem tw9697282508533572044:True:=⟨⟩
theorem tw2920595515061034480:True:=⟨⟩
theorem tw12472492883514038723:True:=⟨⟩
theorem tw7550114689152514803:True:=⟨⟩
theorem tw830907663990619105:True:=⟨⟩
theorem tw970201079856966018:True:=⟨⟩
theorem tw8374422491719335603:True:=⟨⟩
theorem tw3086880270359720720:True:=⟨⟩
theorem tw3465598365018037279:True:=⟨⟩
theorem tw15122168772300282775:True:=⟨⟩
theorem tw10429088734456670118:True:=⟨⟩
theorem tw15334507031300560550:True:=⟨⟩
theorem tw4766510178820977616:True:=⟨⟩
theorem tw11415357610266554567:True:=⟨⟩
theorem tw17665511841393768082:True:=⟨⟩
theorem tw9121770559536198172:True:=⟨⟩
end PySem.W.Fast
set_option maxRecDepth 100000 in
set_option maxHeartbeats 0 in
theorem PySem.Challenge.cw_signsmooth_k34_large_ones_taken_apart_holds : PySem.Challenge.rw_signsmooth_k34_large_ones_taken_apart.Holds := by
 w_on; o_law; k_head; (case hw=>w_witness2)
 k_fill
 refine K34.walk (l:=PySem.Challenge.rw_signsmooth_k34_large_ones_taken_apart) rfl rfl .(22) (λw h Y=>PySem.W.kIn_of Y) ?F
 case F=>
   intro w mg fa h KX G hmg;refine' K34.all_mk KX G hmg (.of ?_ ?_ ?_ ?_) (.of ?_ ?_ ?_ ?_) (.of ?_ ?_ ?_ ?_) (.of ?_ ?_ ?_ ?_) (.of ?_ ?_ ?_ ?_) (.of ?_ ?_ ?_ ?_) (.of ?_ ?_ ?_ ?_) (.of ?_ ?_ ?_ ?_) (.of ?_ ?_ ?_ ?_) (.of ?_ ?_ ?_ ?_) (.of ?_ ?_ ?_ ?_) (.of ?_ ?_ ?_ ?_) (.of ?_ ?_ ?_ ?_) (.of ?_ ?_ ?_ ?_) (.of ?_ ?_ ?_ ?_) (.of ?_ ?_ ?_ ?_) (.of ?_ ?_ ?_ ?_) (.of ?_ ?_ ?_ ?_) (.of ?_ ?_ ?_ ?_) (.of ?_ ?_ ?_ ?_) (.of ?_ ?_ ?_ ?_) (.of ?_ ?_ ?_ ?_) (.of ?_ ?_ ?_ ?_) (.of ?_ ?_ ?_ ?_) (.of ?_ ?_ ?_ ?_) (.of ?_ ?_ ?_ ?_) (.of ?_ ?_ ?_ ?_) (.of ?_ ?_ ?_ ?_) (.of ?_ ?_ ?_ ?_) (.of ?_ ?_ ?_ ?_) (.of ?_ ?_ ?_ ?_) (.of ?_ ?_ ?_ ?_) (.of ?_ ?_ ?_ ?_) (.of ?_ ?_ ?_ ?_) (.of ?_ ?_ ?_ ?_) (.of ?_ ?_ ?_ ?_) (.of ?_ ?_ ?_ ?_) (.of ?_ ?_ ?_ ?_) (.of ?_ ?_ ?_ ?_) (.of ?_ ?_ ?_ ?_) (.of ?_ ?_ ?_ ?_) (.of ?_ ?_ ?_ ?_) (.of ?_ ?_ ?_ ?_) (.of ?_ ?_ ?_ ?_) (.of ?_ ?_ ?_ ?_) (.of ?_ ?_ ?_ ?_) (.of ?_ ?_ ?_ ?_) (.of ?_ ?_ ?_ ?_) ⟨?_,?_,?_,?_,?_,?_,?_,?_,?_,?_,?_,?_,?_,?_,?_,?_,?_,?_,trivial⟩ ?_ ?_ ?_ ?_ ?_ rfl
   all_goals try k_is
#print axioms PySem.Challenge.cw_signsmooth_k34_large_ones_taken_apart_holds