import PyProof.Rows.All
import Wide.All
import OpenK.AllK
import Wide.FinOn
import Lean
import PyProof.EqAt
import PyProof.EqKinds
import PyProof.TupleCall
import PyProof.DictKeyH
import PyProof.DictFindH
import PyProof.StrCalls2
import PyProof.StrCalls3
import PyProof.StrCalls
import PyProof.StrWalks
import PyProof.FString
import KE.KIntText
import PyProof.FitsReplace
import PyProof.StrLawsTight
import PyProof.StrLawsOcc
import PyProof.StrBlockI
import PyProof.SliceStr2
import PyProof.StrLawsChain
import PyProof.StrLaws
import PyProof.Rows.StrJoinMade
import PyProof.StrLawsIdx
import PyProof.StrLawsJoin
import KE.KDictList
import PyProof.DictWalks
import PySem.Challenge.RW_signsmooth_k33_rows_that_hang
set_option genSizeOf false
set_option compiler.extract_closed false
set_option bootstrap.genMatcherCode false
set_option Elab.async false
set_option linter.all false
set_option maxRecDepth 100000
set_option maxHeartbeats 4000000
set_option exponentiation.threshold 4000
open PySem renaming wpAny_bind->AC,Shared->Da,starEach->Do,wpAny_pure->Fk,Program->FB,FuncData->Gc,compareOp->GE,wpAny_newObj_type->GM,Around->GT,mainGlobals->IR,binaryOp->KB,backTo->KF,assignEach->KM,wpAny_truthy_bool->N0,swapsWith->N1,cellsFrom->N2,holding->N3,attributeBase->N4,wpAny_loadPart'->N5,Keyword->N6,bootBuiltins->N7,keywordEach->N8,sysModules->N9,NameKind->NA,wpAny_specialOf->NB,behindInMarks->NC,wpAny_call_entry->ND,pushCells->NF,wpAny_typeNameOfWhole_keyiter->NG,wpAny_passesOwn->NH,codeAny_builtin->NI,wpAny_holding->NJ,wpAny_typeNameOf_keyiter->NK,swapsWithSole->NL,swappedStores->NM,plainId_quiet->NN,backToKw->NO,wpAny_of_eq->NP,wpAny_callSpecial?_slot->NQ,IsRangeIter->NR,wpAny_pyIter_rangeiter->NS,rawInt->NT,wpAny_forIn_list->NU,eqIsQuiet->NV,sliceBounds->NW,pushCells_keeps->NX,wpAny_seqItems->NY,wpAny_mono->NZ,call_meets->O0,standAt->O1,setItem->O2,codeAny->O3,pyNext->O4,wpAny_isInstance->O5,reduceHash->O6,wpAny_execs_nil->O8,letOwnedTupleGo->O9,wpAny_callSpecialIfBoundUnlessNone?_slot->Oa,wpAny_tryCatch->Ob,wpAny_pyIter_keyiter->Oc,wpAny_field->Od,firstArgMember->Oe,release->Of,getItem->Og,DictEntry->Oh,wpAny_rule->Oi,wpAny_Call_Name_kw->Oj,entryOfKey->Om
open PyProof.Rows renaming AllBare->O7,envOfC->Ol
open List renaming length_map->bp,mem_singleton->gV,range->ox,getElem?_eq_getElem->ph,length_append->rp,getElem?_eq_some_iff->tf,mem_append->vp,mem_append_right->x3,mem_cons_of_mem->Et,mem_map->HV,getElem?_append_left->HX,mem_cons->HZ,map_append->Ia,size_toArray->Ic,mem_append_left->Ie,getD_eq_getElem?_getD->Ig,replicate->Ii,getElem?_set_ne->Ik,take_of_length_le->Io,mem_range->Iq,getElem?_map->Iy,length_set->Iz,map_map->IC,map_congr_left->ID,mem_cons_self->IF,getElem?_set_self->IH,mem_or_eq_of_mem_set->II,map_cons->IJ,length_range->IQ,getElem?_append_right->IW,length_take->IX,append_assoc->IY,length_singleton->IZ,length_cons->Ja,nodup_cons->Jb,append_nil->Jc,lookup_cons->Jh,nodup_append->Jj,replicate_succ->Jk,not_mem_nil->Jm,cons_append->Jn,mem_of_getElem?->Jp,range_succ->Jt,mem_flatMap->Jv,ext_getElem->Jw,all_eq_true->Jx,flatten_cons->Jz,filter_append->JD,getElem_map->JG,length_reverse->JJ,mem_filter->JL,getElem?_eq_none->JM,getElem_mem->JR,find?_cons->JU,length_eraseIdx_of_lt->JY,nodup_nil->Kd,foldl_append->Km,mem_of_mem_take->Ko,mem_of_find?_eq_some->Kq,any_eq_true->Ks,getElem_of_mem->Kx,flatMap_append->Ky,insertIdx_succ_cons->KC,map_take->KL,length_eq_zero_iff->KN,drop_eq_nil_of_le->KR,filter_congr->KU,length_drop->K3,filter_cons->K4,getElem_range->Lp,drop_eq_getElem_cons->Lu,getD->LF,getElem?_replicate->LJ,mem_reverse->LO,find?_cons_of_pos->LQ,find?_cons_of_neg->LR,take_append_drop->L1,map_nil->L3,length_nil->L4,length_insertIdx->L5,foldl_cons->L6,filter_nil->L7,filterMap_cons->Mg,map_replicate->Mo,flatten_replicate_singleton->Mx,pairwise_map->Mz,find?_append->MA,map_set->MH,dropLast_concat_getLast->MR,of_mem_zip->MW,take_succ->Na,drop_zero->Nb,getElem?_take_of_lt->Nf,map_drop->Nk,map->Nl,filter_cons_of_pos->Nm,filter_cons_of_neg->Nn,any_cons->Np,range_succ_eq_map->Nx,drop_of_length_le->Ny
open PySem.W renaming Frag->fw,keepIn->J9,kia_one->Ke,fnOf->Kf,nsIn->Le,codeIn->Lg,mg_of->Lz,methodObj->Mj,OpenLaw->MD,cellsFrom_some->M8
open PySem.Heap renaming get?_push_of_some->pq,lt_size->HY,get?_push_size->Ib,get?_update_other->Js,size_push->JC,get?_update_self->Ki,SameBut->Lk
open Int renaming toNat_natCast->HW,gcd->Jg,eq_ofNat_of_zero_le->Jo,natAbs_mul->JE,fdiv_eq_ediv_of_nonneg->JH,fmod_nonneg_of_pos->JX,fmod_eq_emod_of_nonneg->JZ,toNat_of_nonneg->Kc,fmod_lt_of_pos->Kh,toNat->Kt,natAbs_neg->Ku,natCast_nonneg->KQ,natAbs_natCast->Lv,ediv_one->Lw,natCast_pow->Mf,ofNat->My,gcd_dvd_left->MS,mul_pos->M7,natAbs_ediv_le_natAbs->Ng,mul_le_mul->Nh,mul_ediv_cancel_left->Nq,mul_assoc->Nz
open Nat renaming lt_of_lt_of_le->Ih,le_trans->Il,zero_le->Im,pow_le_pow_right->Ir,mul_le_mul_right->Iu,lt_of_le_of_lt->IB,le_refl->IE,ne_of_lt->IL,two_pow_pos->Jl,succ_mul->Jr,mul_le_mul->Ju,lt_trans->JA,lt_or_ge->JN,le_of_lt->JO,pow_add->JW,eq_zero_or_pos->J2,testBit_two_pow_of_ne->J5,min_eq_left->J8,add_assoc->Kb,lt_succ_self->Kw,zero_add->KG,testBit_two_pow_self->KH,lt_succ_of_lt->KZ,testBit_or->K0,pow_succ->K2,min_eq_right->K5,pow_lt_pow_right->K7,eq_of_testBit_eq->K8,lt_irrefl->Lb,log2_lt->Lh,mul_lt_mul_of_pos_left->Lo,sub_self->Lr,le_succ->LL,exists_eq_add_of_le->LM,add_sub_cancel_left->LN,succ_ne_self->LP,testBit_lt_two_pow->LS,le_total->Ma,le_of_ble_eq_true->Mb,gcd_comm->Mc,add_zero->Md,mul_le_mul_left->Ml,add_le_add_left->Mm,mul_assoc->Mw,not_lt->MF,lt_trichotomy->MG,succ_le_succ->MQ,le_mul_of_pos_right->Nw
open Bool renaming false_ne_true->Ij,and_eq_true->IS,false_eq_true->JF,eq_iff_iff->J7,or_false->Mp,not_true->Mq,or_true->MJ
open Classical renaming byContradiction->Ip
open PySem.Builtin.Tuple renaming tupleHashOf->Iw,tupleExact->Kj,tupleItemsOf->KY
open Rat renaming intCast_mul->IA,mul_zero->IG,zero_mul->IU,add_zero->IV,one_mul->Jd,div_mul_cancel->JP,intCast_neg->JV,mul_comm->J0,mul_assoc->J1,mul_one->J3,zero_add->Kk,intCast_add->Kl,le_refl->KW,mul_eq_zero->Lf,mul_nonneg->Lx,le_of_mul_le_mul_left->Ly,num_eq_zero->L8,mul_pos->Mh,le_iff_lt_or_eq->Mi,mul_le_mul_of_nonneg_left->MN,mul_add->MY,intCast_pos->MZ,natCast_eq_zero_iff->Nr
open Option.some renaming inj->IM,injEq->La
open PyProof.Rows renaming callWith_type1->IP,slot_tuple_getitem->LZ
open PySem.Value renaming ref->IT,bool->JI,none->JS,builtin->LG,type->LV,str->Nt,int->Nu
open Ne renaming symm->Je
open PySem.F renaming plainAttrs_list->Jf,slot_dict_keyiterator_next->JT,plain_min_loop->Kg,slot_list_extend->KI,slot_list_append->KJ,type_list_extend->Ll,type_list_append->Lm,slot_list_insert->Ln,entry_tuple_add->LC,slot_tuple_add->LH,slot_tuple_hash->LK,args_dict_keyiterator_next_1->LW,entry_dict_keyiterator_next->L9,type_list_insert->MU,entry_min_loop->M4,slot_dict_iter->M9,slot_dict_get->Nc,slot_range_iterator_next->Ni
open Or renaming inr->Ji,inl->Ka
open PySem.PyData renaming eqv->Jq,canLay0->Kn,depth->KS,eqvAll->LD,canLayAll0->Mn,depthAll->MM
open Array renaming length_toList->Jy,getElem?_eq_getElem->Kp,forIn_toList->Lj,getElem?_toList->LU,toList->MB
open PySem.NameKind renaming free->JB,cell->JQ
open Option renaming map_some->JK,map_eq_some_iff->KP,isSome_iff_exists->Lq,getD_some->LI
open PySem.Around renaming under_plainId->J4
open True renaming intro->J6
open PySem renaming mem_of_lookup->Kr,Env->K9
open ForInStep renaming yield->Kv
open Function renaming comp->Kz
open False renaming elim->KA
open Sum renaming inl->KO,inr->MX
open PySem.Builtin.Slice renaming slicePlaces->K1,sliceAdjust->Mk
open PySem.Builtin.List renaming listTooLong->K6
open PySem.Calls renaming spliced_cons->Li,spliced_nil->Mu,Name_function_global->MV,callWith_builtin->Nj
open PySem.Builtin renaming bitNot->LX,bitAnd->MP,bitOr->M5
open PySem.Builtin.Builtins renaming bindParams->LY
open PySem.PassesOwn renaming never->Mr
open PySem.Obj renaming mapFields->Mt,mapSeq->ME
open PySem.Builtin.Range renaming rangeSize->Mv
open Sum.inl renaming inj->MC
open PySem.Str renaming ofString->MK
open PySem.Walks renaming range->MO
open PySem.Heap.SameBut renaming update->MT
open List.Pairwise renaming nil->M6
open PySem.IsRange renaming new->Nv
local macro_rules
 | `(.(0)) => `((by omega))
 | `(.(1)) => `(⟨rfl,rfl,rfl,by decide +kernel,rfl,by decide +kernel,by decide +kernel⟩)
 | `(.(2)) => `((by decide))
 | `(.(3)) => `((IE _))
 | `(.(4)) => `((by simp))
 | `(.(5)) => `((IF ..))
 | `(.(6)) => `((Nat.not_lt_zero _))
 | `(.(7)) => `((Mm (by decide:16<=64) _))
 | `(.(8)) => `((by rw[bp]; omega))
 | `(.(9)) => `((Ji rfl))
 | `(.(10)) => `((Ka rfl))
 | `(.(11)) => `((Lb _))
 | `(.(12)) => `(⟨by decide,by decide,by decide⟩)
 | `(.(13)) => `((by simp; omega))
 | `(.(14)) => `((by simp only[Ic] <;> omega))
 | `(.(15)) => `(⟨by omega,by omega⟩)
 | `(.(16)) => `((LL _))
 | `(.(17)) => `((bp ..))
 | `(.(18)) => `((by rw[Ic]; omega))
 | `(.(19)) => `(⟨by omega,by omega,by omega,by omega⟩)
 | `(.(20)) => `((by rw[IC]; rfl))
 | `(.(21)) => `((by rw[IX]; omega))
 | `(.(22)) => `((PySem.F.args_tuple_add_2 _ _))
 | `(.(23)) => `((by decide +kernel))
 | `(.(24)) => `((KQ _))
local macro_rules|`(tactic|omega)=>`(tactic|first|assumption|lia|omega +splitMinMax)
set_option hygiene false
local macro_rules
|`(.(90))=>`(Cal P w K mg base k)
|`(.(91))=>`(a8 P w K mg base CX0 (k+1) f fd)
|`(.(92))=>`((∀x∈aB,mg x=none))
|`(.(100))=>`(model X.prog X.w)
|`(.(101))=>`(bP τ (bCp X.N scope)++[Sl.un])
|`(.(102))=>`(ao.refl _)
|`(.(103))=>`(M.getD i [])
|`(.(104))=>`(Addr×Obj)
|`(.(105))=>`(cpX X s H scope fp)
|`(.(106))=>`(aU X s H scope N fp)
|`(.(107))=>`(b.comp s0 H0 _ fp)
|`(.(108))=>`(.Name n p)
|`(.(109))=>`(List Rat)
|`(.(110))=>`(model prog w)
|`(.(111))=>`(ae (aa 0) ag)
|`(.(112))=>`(mkM (vMn R n) (lks R n m))
|`(.(113))=>`((false,eval e X.env))
|`(.(114))=>`(dS X.K τ N)
|`(.(115))=>`(apF n A k)
|`(.(116))=>`(rangeFitsLong 0&&rangeFitsLong n&&rangeFitsLong 1&&rangeFitsLong (-1)&&rangeFitsLong (0-1)&&rangeFitsLong (rangeSize 0 n 1))
|`(.(117))=>`(.Attribute (.Name n q) "pop" ap2)
|`(.(118))=>`(aU X s2 H2 scope N fp)
|`(.(119))=>`(ss.reverse.getD i ("weigh",0,0))
|`(.(120))=>`(mkM (vMn R n) (lks R n i))
|`(.(121))=>`((false,eval a X.env))
|`(.(122))=>`(.ListComp elt [⟨tg,iter,ifs,0⟩] scope pos)
|`(.(123))=>`(List Int)
|`(.(124))=>`(dE X.K C τ (.d x))
|`(.(125))=>`((chs n i).getD l [])
|`(.(126))=>`(Xc P w K mg base ["_law_rows_here","_law_wide","_law_made_here","_law_i","_law_lines","_law_longer","_law_mask","_law_behind_it","_law_j","_law_key","_law_part"] qual (top 50) f cdv A outer s H E)
|`(.(127))=>`((items.toList.drop (sIx items.size 0 lo)).take (sIx items.size items.size hi-sIx items.size 0 lo))
|`(.(128))=>`(List Int×List Int)
|`(.(129))=>`(S.mono e1)
|`(.(130))=>`(exK kT hdT P w (mkM (vMn R n) (lks R n i++nx)))
|`(.(131))=>`(trF (st1 n k g))
|`(.(132))=>`(.ref s2.heap.objs.size)
|`(.(133))=>`(ha pos pins s σ H _ I h)
|`(.(134))=>`(ha pins s σ H _ I h)
|`(.(135))=>`(.ListComp elt [⟨tg,it,ifs,0⟩] scope pos)
|`(.(136))=>`(kv.getD t (0,0))
local macro_rules
|`(.(137))=>`(dJ (jz Jf KI Ll jV (bw hN hv hd hcd) (bh he cw hst) hbase hfew hline hst hpl) hs)
|`(.(138))=>`(hd H (own A B))
|`(.(139))=>`(a9 I q .(4))
|`(.(140))=>`(.Tuple [.Subscript (.Name tn p1) ib p2,.Subscript (.Name tn p3) ia p4] mv pv)
|`(.(141))=>`(.Tuple [.Subscript (.Name rn p1) ib p2,.Subscript (.Name rn p3) ia p4] mv pv)
|`(.(142))=>`(whM M (M.map scL))
|`(.(143))=>`(HT.sIx xs.length xs.length hi-HT.sIx xs.length 0 lo)
|`(.(144))=>`(adP c n g)
|`(.(145))=>`(.ref s.heap.objs.size)
|`(.(146))=>`(nomatch z)
|`(.(147))=>`(Xc P w K mg base ["_law_table","_law_made_here","_law_some","_law_lines","_law_mask","_law_columns"] qual (top 56) f cdv A outer s H E)
|`(.(148))=>`(.Call (.Attribute .(108) "extend" ap) [e] [] cp)
|`(.(149))=>`(.Call (.Attribute .(108) "append" ap) [e] [] cp)
namespace Hx
open PySem PySem.Spec PyProof.Rows
def m8:entryFor table "proto.unchain" = some Builtin.«proto.unchain»:=entryFor_of_tree (by kernel_rfl)
section
variable {prog:FB}{w:World}{A:GT}{E:Value->Da->Prop}{s:Da}
def rA (hh:A.handled=some (.ref h))(hne:h≠a)(ha:s.heap.get? a=some oa)(hda:oa.data=.fields us)(hsz:2<us.size)
   (ho:s.heap.get? h=some oh) (hd:oh.data=.fields vs) (h2:vs[2]?=some .none)
   (q:E (.ref a) { s with heap:=s.heap.update a (Mt (·.setIfInBounds 2 (.ref h))) }):wpAny .(110) A (raiseNew (.ref a):Sem α) Q E s:=by
 unfold raiseNew; refine AC (wpAny_handled ?_); rw[hh];dsimp only;rw[if_pos (show (IT h != IT a)=true by simp[hne])];refine AC (NJ (wpAny_runValue (NI m8 ?_)));unfold Builtin.«proto.unchain»;dsimp only;refine AC (Od ho hd h2 ?_);rw[if_pos (show (JS==JS)=true by decide)];refine Fk ?_;show wpAny _ A (do let _ <- updateField a 2 (.ref h); throw (IT a)) _ _ _;unfold updateField;refine AC (AC (wpAny_load ha ?_));rw[hda];dsimp only;rw[if_pos hsz];exact wpAny_update ha (wpAny_throw q)
def tu {r h:Addr}{v left step:Int}{oh:Obj}{vs:Array Value}{Q:Option Value->Da->Prop}(hh:A.handled=some (.ref h))(ho:s.heap.get? h=some oh)(hd:oh.data=.fields vs)(h2:vs[2]?=some .none)
   (hr:NR s.heap r v left step) (hl:left<=0) (k:∀h',Heap.ExtBut r s.heap h'->Q none { s with heap:=h' }):wpAny .(110) A (O4 (.ref r)) Q E s:=by
 have ty:s.TypeIs (.ref r) "range_iterator":=⟨_,hr,rfl⟩;have hlt:=HY ho;have fl:∀{α:Type} {B:GT} {F:Value->Da->Prop} {R:α->Da->Prop} (i:Nat) (y:Int) {f:Value->Sem α},(#[NT v,NT left,NT step]:Array Value)[i]?=some (NT y)->wpAny .(110) B (f (NT y)) R F s->wpAny .(110) B (field (.ref r) i >>= f) R F s:=by intro α B F R i y f e q;exact AC (Od hr rfl e q)
 unfold O4;refine AC (wpAny_attempt (NQ (name:=MK "__next__") ty Ni (ND Ni ty F.entry_range_iterator_next (fl 0 v rfl (fl 1 left rfl (fl 2 step rfl ?_))) (F.args_range_iterator_next_1 _))));show wpAny .(110) A.in1 (if left<=0 then _ else _) _ _ s;rw[if_pos hl];refine AC (Oi (AC ?_));show wpAny _ _ (do let e <- newExc (.type "StopIteration") []; _) _ _ _;refine AC ?_;simp only[newExc,newTuple];refine AC (GM (AC (m:=Oe _ _) (NP (a:=.none) (by first | rfl | (simp only[Oe]; rfl)) (GM ?_ (by size_fits)))) (by size_fits))
 have hg:((s.heap.push { cls:=.type "tuple",data:=.seq ([]:List Value).toArray }).push { cls:=.type "StopIteration",data:=.fields (#[IT s.heap.objs.size,.none,.none,.none,.bool false,.none]++ownMembersOf (.type "StopIteration") []) }).get? (s.heap.push { cls:=.type "tuple",data:=.seq ([]:List Value).toArray }).objs.size
     = some { cls:=.type "StopIteration",data:=.fields (#[IT s.heap.objs.size,.none,.none,.none,.bool false,.none]++ownMembersOf (.type "StopIteration") []) }:=Ib _ rfl
 refine rA (h:=h) (A:=A.in1) hh ?_ hg rfl (by rw[Array.size_append]; exact Ih (by decide:2<6) (Nat.le_add_right _ _)) (pq _ (pq _ ho)) hd h2 ?_
 . intro z;rw[JC]at z;exact absurd hlt (by rw[z]; exact MF.mpr .(16))
 have hu:=Ki (Mt (·.setIfInBounds 2 (.ref h))) hg rfl;refine AC (O5 (T:="StopIteration") (b:=true) ⟨_,hu,rfl⟩ isSubtype_stop ?_);refine Fk (k _ λb o hb e=>?_);have bl:=HY e;rw[Js _ _ (by intro z; rw[JC]at z; exact absurd bl (by rw[<- z]; exact MF.mpr .(16)))];exact pq _ (pq _ e)
end
end Hx
set_option linter.all false
set_option maxRecDepth 100000
namespace L2
open PySem PySem.Spec PyProof.Rows
abbrev Key:=Sum Int Str
noncomputable def oB:Key->Value->Bool
 | .inl k,v=>Value.isInt k v
 | .inr x,v=>Value.isStrOf x v
noncomputable def G5 (w:World):Key->Int
 | .inl k=>hashInt k
 | .inr x=>hashStr w x
def bH:∀{k:Key} {v:Value},oB k v=true->(∃i t,k=KO i/\v=Nu i t)\/(∃x t,k=MX x/\v=Nt x t)
 | .inl i,v,h=>by obtain⟨t,e⟩:=Value.isInt_shape (k:=i) (v:=v) h;exact .inl ⟨i,t,rfl,e⟩
 | .inr x,v,h=>by obtain⟨t,e⟩:=Value.isStrOf_shape (x:=x) (v:=v) h;exact .inr ⟨x,t,rfl,e⟩
def wm (i:Int)(t:Tok):oB (.inl i) (.int i t)=true:=by simp[oB,Value.isInt]
def wA (x:Str)(t:Tok):oB (.inr x) (.str x t)=true:=by simp[oB,Value.isStrOf]
def D1 (a b:Int):decide ((KO a:Key)=KO b)=(a==b):=by
 by_cases e:a=b
 . subst e; simp
 . have h:¬(KO a:Key)=KO b:=λq=>e (MC q);rw[decide_eq_false h];exact(beq_eq_false_iff_ne.mpr e).symm
def CO (a b:Str):decide ((MX a:Key)=MX b)=decide (a=b):=by
 by_cases e:a=b
 . subst e; simp
 . have h:¬(MX a:Key)=MX b:=λq=>e (Sum.inr.inj q);rw[decide_eq_false h,decide_eq_false e]
def DX (a:Int)(b:Str):decide ((KO a:Key)=MX b)=false:=decide_eq_false (λq=>nomatch q)
def D8 (a:Str)(b:Int):decide ((MX a:Key)=KO b)=false:=decide_eq_false (λq=>nomatch q)
noncomputable def b5 (prog:FB)(w:World):PySem.KeyKind prog w Key where
 is:=oB
 hash:=G5 w
 inj:=λv a b ha hb=>by
   rcases bH ha with ⟨i,t,rfl,rfl⟩ | ⟨x,t,rfl,rfl⟩
   . rcases bH hb with ⟨j,u,rfl,e⟩ | ⟨y,u,rfl,e⟩
     . injection e with e1 _; rw[e1]
     . exact nomatch e
   . rcases bH hb with ⟨j,u,rfl,e⟩ | ⟨y,u,rfl,e⟩
     . exact nomatch e
     . injection e with e1 _; rw[e1]
 byValue:=λk v h=>by rcases bH h with ⟨i,t,rfl,rfl⟩ | ⟨x,t,rfl,rfl⟩ <;> rfl
 pyHash:=λhv h=>by
   rcases bH hv with ⟨i,t,rfl,rfl⟩ | ⟨x,t,rfl,rfl⟩
   . exact wpAny_pyHash_int h
   . exact wpAny_pyHash_str h
 eqBool:=λhu hv h=>by
   rcases bH hu with ⟨i,t,rfl,rfl⟩ | ⟨x,t,rfl,rfl⟩
   . rcases bH hv with ⟨j,u,rfl,rfl⟩ | ⟨y,u,rfl,rfl⟩
     . rw[D1]at h; exact wpAny_eqBool_int h
     . rw[DX]at h; exact SeqAt.EqAt.int_str i t y u _ _ _ _ h
   . rcases bH hv with ⟨j,u,rfl,rfl⟩ | ⟨y,u,rfl,rfl⟩
     . rw[D8]at h; exact SeqAt.EqAt.str_int x t j u _ _ _ _ h
     . rw[CO]at h; exact wpAny_eqBool_str h
 «strs»:=λk x t v h=>by
   rcases bH h with ⟨i,u,rfl,e⟩ | ⟨y,u,rfl,e⟩
   . exact nomatch e
   . injection e with e1 _;subst e1;cases v <;> rfl
def rg (prog:FB)(w:World)(i:Int)(t:Tok):(b5 prog w).is (.inl i) (.int i t)=true:=wm i t
def rh (prog:FB)(w:World)(x:Str)(t:Tok):(b5 prog w).is (.inr x) (.str x t)=true:=wA x t
inductive V where
 | non | bl (b:Bool) | int (i:Int) | str (x:Str) | byt (b:Array UInt8) | flt (b:UInt64) | ref (a:Addr) | ty (n:String)
 deriving DecidableEq
def RelV:V->Value->Prop
 | .non,u=>u=JS
 | .bl b,u=>u=JI b
 | .int i,u=>∃t,u=Nu i t
 | .str x,u=>∃t,u=Nt x t
 | .byt b,u=>∃t,u=Value.bytes b t
 | .flt b,u=>∃t,u=Value.float b t
 | .ref a,u=>u=IT a
 | .ty n,u=>u=LV n
abbrev Vals:List V->List Value->Prop:=Paired RelV
def Vals.length (r:Vals xs us):xs.length=us.length:=Paired.length r
theorem Vals.get:∀{xs:List V} {us:List Value} {i:Nat} {x:V},Vals xs us->xs[i]?=some x->∃u,us[i]?=some u/\RelV x u
 | _,_,_,_,.nil,e=>by simp at e
 | _,_,0,_,.cons r _,e=>by simp at e; subst e; exact⟨_,rfl,r⟩
 | _,_,i+1,x,.cons _ t,e=>by obtain⟨u,h1,h2⟩:=Vals.get (i:=i) (x:=x) t (by simpa using e);exact⟨u,by simpa using h1,h2⟩
def Vals.set (r:RelV x u):∀{xs:List V} {us:List Value} (i:Nat),Vals xs us->Vals (xs.set i x) (us.set i u)
 | _,_,_,.nil=>.nil
 | _,_,0,.cons _ t=>.cons r t
 | _,_,i+1,.cons q t=>.cons q (Vals.set r i t)
def Vals.append:∀{xs ys:List V} {us ws:List Value},Vals xs us->Vals ys ws->Vals (xs++ys) (us++ws)
 | _,_,_,_,.nil,s=>s
 | _,_,_,_,.cons r t,s=>.cons r (Vals.append t s)
def Vals.take:∀{xs:List V} {us:List Value} (n:Nat),Vals xs us->Vals (xs.take n) (us.take n)
 | _,_,0,_=>.nil
 | _,_,_+1,.nil=>.nil
 | _,_,n+1,.cons r t=>.cons r (Vals.take n t)
def Vals.drop:∀{xs:List V} {us:List Value} (n:Nat),Vals xs us->Vals (xs.drop n) (us.drop n)
 | _,_,0,r=>r
 | _,_,_+1,.nil=>.nil
 | _,_,n+1,.cons _ t=>Vals.drop n t
def qE:Option V->Option Value->Prop
 | some v,some u=>RelV v u
 | none,none=>True
 | _,_=>False
def KV {κ:Type}:List (κ×V)->List (κ×Value)->Prop:=Paired λ(p:κ×V) (q:κ×Value)=>p.1=q.1/\RelV p.2 q.2
noncomputable def kV:Key->V
 | .inl i=>.int i
 | .inr x=>.str x
inductive HO where
 | lst (xs:List V)
 | tup (xs:List V)
 | dK (kvs:List (Key×V)) | dT (kvs:List (List Key×V))
 | set (S:Int->Bool) (n:Nat)
 | ins (C dx:Addr) (fs:List (Str×V))
 | own (x:Addr)
 | xd (fs:List (Str×V))
 | met (f x:Addr)
 | rng (lo hi:Int)
 | frz (o:Obj) (u:HO)
 | tbl (ps:Array Value)
 | ext (φ:Heap->Prop)
abbrev Hp:=Addr->Option HO
noncomputable def upd (H:Hp)(a:Addr)(o:HO):Hp:=λb=>if b=a then some o else H b
def aN :upd H a o a=some o:=by unfold upd; rw[if_pos rfl]
def aF (h:b≠a):upd H a o b=H b:=by unfold upd; rw[if_neg h]
def a6 {H:Hp}{a b:Addr}{o:HO}(h:H a=some o)(h':H b=none):a≠b:=by intro e; subst e; rw[h]at h'; cases h'
section
variable (P:FB)(w:World)
def bL (H:Hp)(h:Heap)(a:Addr):HO->Prop
 | .lst xs=>xs.length<=sizeLine/\∃(its:List Value) (n:Nat),Vals xs its/\h.get? a=some { cls:=.type "list",data:=.seq its.toArray n }
 | .tup xs=>xs.length<=sizeLine/\∃its:List Value,Vals xs its/\IsTup h a its.toArray
 | .dK kvs=>kvs.length<=sizeLine/\(a==N9)=false/\∃vs,KV kvs vs/\h.DictOf (b5 P w) a vs
 | .dT kvs=>kvs.length<=sizeLine/\(a==N9)=false/\∃xs:List (List Key×Addr×Value),
     Paired (λ(p:List Key×V) (q:List Key×Addr×Value)=>p.1=q.1/\H q.2.1=some (.tup (p.1.map kV))/\RelV p.2 q.2.2) kvs xs /\
     ∃o es ep,h.get? a=some o/\o.ExactDict/\o.data=.dict es ep/\es.toList=xs.map (Om (tupleKind (b5 P w)))/\(xs.map (·.1)).Nodup
 | .set S n=>h.SetOf (intKind P w) a S n
 | .ins C dx fs=>H dx=some (.own a)/\fs.length<=1000/\dx≠a/\h.get? a=some (PySem.W.instObj C dx) /\
     ∃mA,h.Ns1 dx mA/\(∀f,qE (fs.lookup f) (mA f))/\PySem.Within mA (fs.map (·.1))
 | .own _=>∃o,h.get? a=some o
 | .xd fs=>∃mA,h.Ns1 a mA/\∀f,qE (fs.lookup f) (mA f)
 | .rng lo hi=>∃t u v,h.get? a=some { cls:=.type "range",data:=.fields #[.int lo t,.int hi u,.int 1 v] }
 | .frz o u=>h.get? a=some o/\bL H h a u
 | .tbl ps=>h.get? a=some { cls:=.none,data:=.fields ps }
 | .met f x=>h.get? a=some (Mj (.ref f) (.ref x))
 | .ext φ=>φ h/\(∃o,h.get? a=some o)/\∀h1 h2:Heap,φ h1->(∀o,h1.get? a=some o->h2.get? a=some o)->φ h2
def HOk (H:Hp)(h:Heap):Prop:=∀a o,H a=some o->bL P w H h a o
end
section
variable {P:FB}{w:World}{H H':Hp}{h h':Heap}{a:Addr}{o:HO}
def bL.lt (x:bL P w H h a o):a<h.objs.size:=by
 cases o with
 | lst xs=>obtain⟨_,_,_,_,e⟩:=x; exact HY e
 | tup xs=>obtain⟨_,_,_,p⟩:=x; exact p.lt
 | dK kvs=>obtain⟨_,_,_,_,o,_,_,e,_⟩:=x; exact HY e
 | dT kvs=>obtain⟨_,_,_,_,o,_,_,e,_⟩:=x; exact HY e
 | set S n=>obtain⟨o,_,_,_,e,_⟩:=x; exact HY e
 | ins C dx fs=>obtain⟨_,_,_,e,_⟩:=x; exact HY e
 | own y=>obtain⟨_,e⟩:=x; exact HY e
 | xd fs=>obtain⟨_,⟨_,_,_,e,_⟩,_⟩:=x; exact HY e
 | rng lo hi=>obtain⟨_,_,_,e⟩:=x; exact HY e
 | frz ob u=>obtain⟨e,_⟩:=x; exact HY e
 | tbl ps=>exact HY (show h.get? a=some _ from x)
 | met f y=>exact HY (show h.get? a=some _ from x)
 | ext φ=>obtain⟨_,⟨_,e⟩,_⟩:=x; exact HY e
theorem Paired.GV :∀{l₁:List α} {l₂:List β},Paired F l₁ l₂->(∀a b,F a b->G a b)->Paired G l₁ l₂
 | _,_,.nil,_=>.nil
 | _,_,.cons r t,f=>.cons (f _ _ r) (Paired.GV t f)
def bL.lL (x:bL P w H h a o)(k:∀b u,(b=a\/H b=some (.own a))->h.get? b=some u->h'.get? b=some u)
   (ho:∀b,H b=some (.own a)->H' b=some (.own a)) (ht:∀b xs,H b=some (.tup xs)->H' b=some (.tup xs)):bL P w H' h' a o:=by
 induction o with
 | lst xs=>obtain⟨z,its,n,r,e⟩:=x; exact⟨z,its,n,r,k _ _ (.inl rfl) e⟩
 | tup xs=>obtain⟨z,its,r,ob,e,c⟩:=x; exact⟨z,its,r,ob,k _ _ (.inl rfl) e,c⟩
 | dK kvs=>obtain⟨z,y,vs,r,ob,es,ep,e,c⟩:=x; exact⟨z,y,vs,r,ob,es,ep,k _ _ (.inl rfl) e,c⟩
 | dT kvs=>obtain⟨z,y,xs,r,ob,es,ep,e,c⟩:=x;exact⟨z,y,xs,Paired.GV r λp q z=>⟨z.1,ht _ _ z.2.1,z.2.2⟩,ob,es,ep,k _ _ (.inl rfl) e,c⟩
 | set S n=>obtain⟨ob,es,ep,t,e,c⟩:=x; exact⟨ob,es,ep,t,k _ _ (.inl rfl) e,c⟩
 | ins C dx fs=>obtain⟨d,z,ne,e,mA,⟨od,es,ep,e2,c⟩,r⟩:=x;exact⟨ho _ d,z,ne,k _ _ (.inl rfl) e,mA,⟨od,es,ep,k _ _ (.inr d) e2,c⟩,r⟩
 | own y=>obtain⟨ob,e⟩:=x; exact⟨ob,k _ _ (.inl rfl) e⟩
 | xd fs=>obtain⟨mA,⟨od,es,ep,e,c⟩,r⟩:=x; exact⟨mA,⟨od,es,ep,k _ _ (.inl rfl) e,c⟩,r⟩
 | rng lo hi=>obtain⟨t,u,v,e⟩:=x; exact⟨t,u,v,k _ _ (.inl rfl) e⟩
 | frz ob u ih=>obtain⟨e,q⟩:=x; exact⟨k _ _ (.inl rfl) e,ih q⟩
 | tbl ps=>have e:h.get? a=some { cls:=.none,data:=.fields ps }:=x;show h'.get? a=some { cls:=.none,data:=.fields ps };exact k a _ (.inl rfl) e
 | met f y=>have e:h.get? a=some (Mj (.ref f) (.ref y)):=x;show h'.get? a=some (Mj (.ref f) (.ref y));exact k a _ (.inl rfl) e
 | ext φ=>obtain⟨p,⟨o,e⟩,st⟩:=x; exact⟨st _ _ p λo q=>k _ _ (.inl rfl) q,⟨o,k _ _ (.inl rfl) e⟩,st⟩
def HOk.lt (x:HOk P w H h)(e:H a=some o):a<h.objs.size:=(x a o e).lt
def HOk.fresh (x:HOk P w H h)(e:h.objs.size<=a):H a=none:=by
 cases q:H a with
 | none=>rfl
 | some u=>exact absurd (Ih (x.lt q) e) .(11)
def HOk.kept (x:HOk P w H h)(k:∀b u,h.get? b=some u->h'.get? b=some u):HOk P w H h':=λa o e=>(x a o e).lL (λb u _ q=>k b u q) (λ_ q=>q) λ_ _ q=>q
def HOk.laid (x:HOk P w H h)(k:∀b u,h.get? b=some u->h'.get? b=some u)(hp:h.objs.size<=a)(new:bL P w (upd H a o) h' a o):HOk P w (upd H a o) h':=λb u e=>by
 have hn:=x.fresh hp;by_cases hb:b=a
 . subst hb; rw[aN]at e; cases e; exact new
 . rw[aF hb]at e;exact(x b u e).lL (λc v _ q=>k c v q) (λc q=>by rw[aF (a6 q hn)]; exact q) λc xs q=>by rw[aF (a6 q hn)]; exact q
end
def Rd (H:Hp)(a:Addr)(u:HO):Prop:=H a=some u\/∃o,H a=some (.frz o u)
def Rd.ok (r:Rd H a u)(x:HOk P w H h):bL P w H h a u:=by
 rcases r with r | ⟨o,r⟩
 . exact x a u r
 . obtain⟨_,q⟩:=x a _ r;exact q
def Mut:Option HO->Prop
 | some (.lst _)=>True
 | some (.dK _)=>True
 | some (.dT _)=>True
 | some (.set _ _)=>True
 | some (.ins _ _ _)=>True
 | some (.ext _)=>True
 | _=>False
section
variable {P:FB}{w:World}{H:Hp}{h h':Heap}{x e:Addr}{o':HO}
def HOk.write (ok:HOk P w H h)(mu:Mut (H x))(he:e=x\/H e=some (.own x))(k:∀b u,b≠e->h.get? b=some u->h'.get? b=some u)(heo:∃u,h'.get? e=some u)
   (new:bL P w (upd H x o') h' x o'):HOk P w (upd H x o') h':=λb u q=>by
 have nown:∀c y,H c=some (.own y)->c≠x:=λc y r z=>by subst z; rw[r]at mu; exact mu
 have ntup:∀c xs,H c=some (.tup xs)->c≠x:=λc xs r z=>by subst z; rw[r]at mu; exact mu
 by_cases hb:b=x
 . subst hb; rw[aN]at q; cases q; exact new
 . rw[aF hb]at q;by_cases hbe:b=e
   . have q':H b=some (.own x):=by
       rcases he with z | z
       . exact absurd (hbe.trans z) hb
       . rw[hbe]; exact z
     rw[q]at q'; cases q';obtain⟨v,hv⟩:=heo;exact⟨v,by rw[hbe]; exact hv⟩
   . refine(ok b u q).lL (λc v hc r=>k c v ?_ r) (λc r=>by rw[aF (nown c b r)]; exact r) λc xs r=>by rw[aF (ntup c xs r)]; exact r
     rcases hc with rfl | hc
     . exact hbe
     . rintro rfl;rcases he with z | z
       . exact nown c b hc z
       . rw[hc]at z; cases z; exact hb rfl
end
structure Un (fs ex:List Addr)(H H':Hp)(h h':Heap):Prop where
 keep:∀b o,h.get? b=some o->H b=none->b∉fs->b∉ex->h'.get? b=some o
 slot:∀b o,h.get? b=some o->H b=none->b∈fs->b∉ex->∃sl,h'.get? b=some { o with slots:=sl }
 free:∀b o,h.get? b=some o->H b=none->b∉ex->H' b=none
 there:∀b o,h.get? b=some o->b∉ex->∃o',h'.get? b=some o'
 tups:∀b xs,H b=some (.tup xs)->H' b=some (.tup xs)
 frzs:∀b o u,H b=some (.frz o u)->H' b=some (.frz o u)
 tbls:∀b ps,H b=some (.tbl ps)->∃more,H' b=some (.tbl (ps++more))
section
variable {fs ex:List Addr}{H H1:Hp}{h h1 h':Heap}{a x e:Addr}{o:HO}
def Un.any (u:Un fs ex H H1 h h1)(q:h.get? b=some ob)(n:H b=none)(hx:b∉ex):∃sl,h1.get? b=some { ob with slots:=sl }:=by
 by_cases hb:b∈fs
 . exact u.slot b ob q n hb hx
 . exact⟨ob.slots,u.keep b ob q n hb hx⟩
def Un.kept (k:∀b u,h.get? b=some u->h'.get? b=some u):Un fs ex H H h h':=⟨λb ob q _ _ _=>k b ob q,λb ob q _ _ _=>⟨ob.slots,k b ob q⟩,λ_ _ _ n _=>n,λb ob q _=>⟨ob,k b ob q⟩,λ_ _ q=>q,λ_ _ _ q=>q,λ_ ps q=>⟨#[],by rw[q]; simp⟩⟩
def Un.refl:Un fs ex H H h h:=Un.kept λ_ _ q=>q
def Un.laid (k:∀b u,h.get? b=some u->h'.get? b=some u)(hp:h.objs.size<=a)(hn:H a=none):Un fs ex H (upd H a o) h h' where
 keep:=λb u q _ _ _=>k b u q
 slot:=λb u q _ _ _=>⟨u.slots,k b u q⟩
 free:=λb u q n _=>by rw[aF (IL (Ih (HY q) hp))]; exact n
 there:=λb u q _=>⟨u,k b u q⟩
 tups:=λb xs q=>by rw[aF (a6 q hn)]; exact q
 frzs:=λb u xs q=>by rw[aF (a6 q hn)]; exact q
 tbls:=λb ps q=>⟨#[],by rw[aF (a6 q hn),q]; simp⟩
def Un.write (mu:Mut (H x))(he:e=x\/H e=some (.own x))(k:∀b u,b≠e->h.get? b=some u->h'.get? b=some u)(heo:∃u,h'.get? e=some u):Un fs ex H (upd H x o) h h':=by
 have hx:∀b,H b=none->b≠x:=λb n z=>by subst z; rw[n]at mu; exact mu
 have hb:∀b,H b=none->b≠e:=λb n z=>by
   subst z;rcases he with r | r
   . exact hx b n r
   . rw[n]at r; cases r
 have hm:∀b u,H b=some u->¬Mut (some u)->b≠x:=λb u q nm z=>by subst z; rw[q]at mu; exact nm mu
 refine⟨λb u q n _ _=>k b u (hb b n) q,λb u q n _ _=>⟨u.slots,k b u (hb b n) q⟩,λb u q n _=>by rw[aF (hx b n)]; exact n,λb u q _=>?_,
   λb xs q=>by rw[aF (hm b _ q λz=>z)]; exact q,λb u xs q=>by rw[aF (hm b _ q λz=>z)]; exact q,λb ps q=>⟨#[],by rw[aF (hm b _ q λz=>z),q]; simp⟩⟩
 by_cases hbe:b=e
 . subst hbe; exact heo
 . exact⟨u,k b u hbe q⟩
end
noncomputable def trk (h:Heap)(H:Hp):List Addr:=(ox h.objs.size).filter λa=>(H a).isSome
noncomputable def mV (h:Heap)(H:Hp):Heap:=PySem.W.hideAll h (trk h H)
def wL (h:Heap)(H:Hp):(mV h H).objs.size=h.objs.size:=PySem.W.hideAll_size _ _
def yM (e:h.get? b=some o)(n:H b=none):(mV h H).get? b=some o:=PySem.W.hideAll_get _ e λhm=>by have q:(H b).isSome=true:=(JL.mp hm).2;rw[n]at q; simp at q
def BD (e:(mV h H).get? b=some o):h.get? b=some o/\H b=none:=by
 have e':h.get? b=some o:=PySem.W.of_hideAll (trk h H) e;refine⟨e',?_⟩;cases q:H b with
 | none=>rfl
 | some x=>have hm:b∈trk h H:=JL.mpr ⟨Iq.mpr (HY e'),by simp[q]⟩;have z:(mV h H).get? b=none:=PySem.W.hideAll_none (trk h H) hm;rw[z]at e; cases e
noncomputable def A1 (g h:Heap)(L:Addr):List .(104):=(ox h.objs.size).filterMap λa=>if a=L\/(g.get? a).isSome=true then none else (h.get? a).map λo=>(a,o)
noncomputable def rest (g h:Heap)(L d:Addr):List .(104):=(A1 g h L).filter λp=>decide (p.1≠d)
structure Mod (K:fw)(mg:Str->Option Value)(base:Heap):Prop where
 kin:K.In base
 glob:base.Ns IR mg
 blt:∃mb,base.Ns builtinsNs mb/\∀x:Str,x ≠ "__name__" -> mb x=N7 x
 nolimit:base.NoLimit
structure Cx where
 prog:FB
 w:World
 K:fw
 mg:Str->Option Value
 base:Heap
 A:GT
 N:List Str
 s₀:Da
 H₀:Hp
 env:Env
 outer:List Env
 stack:List Env
 ex:List Addr
 fn:Str->Bool
 calm:Bool
 pn:List .(104)
 xe:Value->Da->Prop
noncomputable def frs (l:List Env):List Addr:=l.filterMap (·.frame)
noncomputable abbrev Cx.fs (X:Cx):List Addr:=frs X.outer
def Vis (sc:Scope)(x:Str):Prop:=sc.names.lookup x=some .local\/sc.names.lookup x=some .cell\/sc.names.lookup x=some .free
def Loc (sc:Scope)(x:Str):Prop:=sc.names.lookup x=some .local\/sc.names.lookup x=some .cell
def Look (env:Env)(h:Heap)(m:Str->Option Value)(x:Str)(u:Value):Prop:=(env.kindOf x=some .local/\m x=some u)\/((env.kindOf x=some .cell\/env.kindOf x=some .free)/\∃c,env.cells.lookup x=some c/\h.IsCell c (some u))
structure Cx.Ok (X:Cx):Prop where
 mod:Mod X.K X.mg X.base
 kind:X.env.scope.kind=.function
 glob:X.env.globals=IR
 blt:X.env.builtins=builtinsNs
 above:X.s₀.heap.objs.size<=X.env.locals
 inj:∀x y c,X.env.cells.lookup x=some c->X.env.cells.lookup y=some c->x=y
 has:∀x,(X.env.kindOf x=some .cell\/X.env.kindOf x=some .free)->∃c,X.env.cells.lookup x=some c
 cab:∀x c,X.fn x=true->X.env.cells.lookup x=some c->X.s₀.heap.objs.size<=c
 hd:X.calm=true->X.A.handled=none
 frames:X.A.frames=some X.stack
 stk:X.stack=X.outer\/(X.stack=X.env::X.outer/\X.env.frame=some X.env.locals)
 exf:∀b∈X.ex,b≠X.env.locals/\∀x c,X.env.cells.lookup x=some c->c≠b
 bs:∀b o,X.base.get? b=some o->X.s₀.heap.get? b=some o/\X.H₀ b=none
 bsz:X.base.objs.size<=X.s₀.heap.objs.size
 noex:∀b o,X.base.get? b=some o->b∉X.ex
 exfs:∀b∈X.ex,b∉X.fs
 mH:X.s₀.heap.FunFrames X.base X.outer
 frf:∀b∈X.fs,X.H₀ b=none
structure Inv (X:Cx)(pins:List .(104))(σ:List (Option V))(H:Hp)(s:Da):Prop where
 ok:X.Ok
 os:s.os=X.s₀.os
 bare:O7 s.gens
 base:Un X.fs X.ex X.H₀ H X.s₀.heap s.heap
 loc:∃m,s.heap.Ns X.env.locals m/\∀(i:Nat) (x:Str) (v:V),X.N[i]?=some x->σ[i]?=some (some v)->Vis X.env.scope x->∃u,RelV v u/\Look X.env s.heap m x u
 cell:∀x c,X.env.cells.lookup x=some c->∃v,s.heap.IsCell c v
 free:H X.env.locals=none
 freeC:∀x c,X.env.cells.lookup x=some c->H c=none
 pin:∀p∈X.pn++pins,s.heap.get? p.1=some p.2/\H p.1=none/\p.1≠X.env.locals/\p.1∉X.fs/\∀v,p.2.data≠.cell v
 hok:HOk X.prog X.w H s.heap
 len:σ.length=X.N.length
section
variable {X:Cx}{pins:List .(104)}{σ:List (Option V)}{H H':Hp}{s:Da}{h':Heap}
def Cx.Ok.GZ (ok:X.Ok)(e:X.base.get? b=some o):b∉X.fs:=λhb=>by have:=(ok.mH.mem hb).1;rw[e]at this; cases this
def Inv.bs (I:Inv X pins σ H s):∀b o,X.base.get? b=some o->s.heap.get? b=some o/\H b=none:=λb o e=>⟨I.base.keep b o (I.ok.bs b o e).1 (I.ok.bs b o e).2 (I.ok.GZ e) (I.ok.noex b o e),I.base.free b o (I.ok.bs b o e).1 (I.ok.bs b o e).2 (I.ok.noex b o e)⟩
def Inv.bk (I:Inv X pins σ H s):∀b o,X.base.get? b=some o->s.heap.get? b=some o:=λb o e=>(I.bs b o e).1
def Inv.mod (I:Inv X pins σ H s):Mod X.K X.mg X.base:=I.ok.mod
def Inv.kIn (I:Inv X pins σ H s):X.K.In s.heap:=I.ok.mod.kin.keeps I.bk
def Inv.nolimit (I:Inv X pins σ H s):s.heap.NoLimit:=I.ok.mod.nolimit.keeps I.bk
def Inv.lt (I:Inv X pins σ H s):X.env.locals<s.heap.objs.size:=let ⟨_,hn,_⟩:=I.loc; hn.lt
def Inv.sz (I:Inv X pins σ H s):X.s₀.heap.objs.size<=s.heap.objs.size:=Il I.ok.above (JO I.lt)
def Inv.HJ (I:Inv X pins σ H s){a:Addr}(h:s.heap.objs.size<=a):a∉X.fs:=λhb=>by obtain⟨_,o,ho,_⟩:=I.ok.mH.mem hb;exact absurd (Ih (HY ho) (Il I.sz h)) .(11)
def Inv.cne (I:Inv X pins σ H s):∀x c,X.env.cells.lookup x=some c->c≠X.env.locals:=λx c e z=>by obtain⟨v,o,ho,hd⟩:=I.cell x c e;obtain⟨m,⟨o',es,ep,ho',hd',_⟩,_⟩:=I.loc;rw[z,ho']at ho; cases ho; rw[hd']at hd; cases hd
def Inv.mH (I:Inv X pins σ H s):s.heap.FunFrames X.base X.outer:=by
 have all:∀(l:List Env),(∀b∈frs l,b∈X.fs)->X.s₀.heap.FunFrames X.base l->s.heap.FunFrames X.base l:=by
   intro l;induction l with
   | nil=>intro _ _; trivial
   | cons env r ih=>intro hs hl;obtain⟨hk,⟨L,o,hf,hn,ho,hd⟩,hr⟩:=hl;have hL:L∈X.fs:=hs L (by unfold frs; rw[Mg,hf]; exact IF);obtain⟨sl,e⟩:=I.base.slot L o ho (I.ok.frf L hL) hL λz=>I.ok.exfs L z hL;exact⟨hk,⟨L,_,hf,hn,e,hd⟩,ih (λb hb=>hs b (by unfold frs; rw[Mg,hf]; exact Et _ hb)) hr⟩
 exact all X.outer (λ_ hb=>hb) I.ok.mH
def Inv.stack (I:Inv X pins σ H s):s.heap.FunFrames X.base X.stack:=by
 rcases I.ok.stk with e | ⟨e,hf⟩
 . rw[e]; exact I.mH
 . rw[e];obtain⟨m,hn,_⟩:=I.loc;refine .cons (by rw[I.ok.kind]; decide) hf hn ?_ I.mH;exact Heap.get?_none_of_le (Il I.ok.bsz I.ok.above)
def Inv.ua (I:Inv X pins σ H s):∀b∈frs X.stack,b∈X.env.locals::X.fs:=λb hb=>by
 rcases I.ok.stk with e | ⟨e,hf⟩
 . rw[e]at hb; exact Et _ hb
 . rw[e]at hb;unfold frs at hb;rw[Mg,hf]at hb;exact hb
def Inv.u0 (I:Inv X pins σ H s):∀b∈frs X.stack,H b=none:=λb hb=>by
 rcases HZ.mp (I.ua b hb) with e | hb
 . rw[e]; exact I.free
 . obtain⟨_,o,ho,_⟩:=I.ok.mH.mem hb;exact I.base.free b o ho (I.ok.frf b hb) λz=>I.ok.exfs b z hb
def Inv.step {g':Array GenState}{d':Drawn}{ch:List Addr}(I:Inv X pins σ H s)
   (hch:∀b∈ch,(b∈X.ex\/X.s₀.heap.objs.size<=b)/\b≠X.env.locals/\(∀x c,X.env.cells.lookup x=some c->c≠b)/\∀p∈X.pn++pins,p.1≠b)
   (keep:∀b o,b≠X.env.locals->b∉X.fs->b∉ch->s.heap.get? b=some o->H b=none->h'.get? b=some o)
   (slot:∀b o,b≠X.env.locals->b∈X.fs->b∉ch->s.heap.get? b=some o->H b=none->∃sl,h'.get? b=some { o with slots:=sl }) (free:∀b o,b∉ch->s.heap.get? b=some o->H b=none->H' b=none)
   (there:∀b o,b∉ch->s.heap.get? b=some o->∃o',h'.get? b=some o')
   (tups:∀b xs,H b=some (.tup xs)->H' b=some (.tup xs)) (frzs:∀b o u,H b=some (.frz o u)->H' b=some (.frz o u)) (tbls:∀b ps,H b=some (.tbl ps)->∃more,H' b=some (.tbl (ps++more)))
   (ns:∀m,s.heap.Ns X.env.locals m->h'.Ns X.env.locals m) (hok:HOk X.prog X.w H' h') (hg:O7 g') :
   Inv X pins σ H' { s with heap:=h',gens:=g',drawn:=d',toks:=t' }:=by
 have neL:∀b o,X.s₀.heap.get? b=some o->b≠X.env.locals:=λb o e=>IL (Ih (HY e) I.ok.above)
 have neC:∀b o,X.s₀.heap.get? b=some o->b∉X.ex->b∉ch:=λb o e hx hb=>by
   rcases(hch b hb).1 with z | z
   . exact hx z
   . exact absurd (Ih (HY e) z) .(11)
 have cellK:∀x c,X.env.cells.lookup x=some c->∀v,s.heap.IsCell c v->h'.IsCell c v:=λx c e v ⟨o,ho,hd⟩=>by
   have nch:c∉ch:=λz=>(hch c z).2.2.1 x c e rfl;by_cases hc:c∈X.fs
   . obtain⟨sl,q⟩:=slot c o (I.cne x c e) hc nch ho (I.freeC x c e);exact⟨_,q,hd⟩
   . exact⟨o,keep c o (I.cne x c e) hc nch ho (I.freeC x c e),hd⟩
 refine⟨I.ok,I.os,hg,⟨λb o e n hb hx=>?_,λb o e n hb hx=>?_,λb o e n hx=>?_,λb o e hx=>?_,λb xs e=>tups b xs (I.base.tups b xs e),λb o xs e=>frzs b o xs (I.base.frzs b o xs e),λb ps e=>?_⟩,?_,λx c e=>?_,?_,λx c e=>?_,λp hp=>?_,hok,I.len⟩
 . exact keep b o (neL b o e) hb (neC b o e hx) (I.base.keep b o e n hb hx) (I.base.free b o e n hx)
 . obtain⟨sl,e1⟩:=I.base.slot b o e n hb hx;obtain⟨sl',e2⟩:=slot b _ (neL b o e) hb (neC b o e hx) e1 (I.base.free b o e n hx);exact⟨sl',e2⟩
 . obtain⟨o',e1⟩:=I.base.there b o e hx;exact free b o' (neC b o e hx) e1 (I.base.free b o e n hx)
 . obtain⟨o',e1⟩:=I.base.there b o e hx;exact there b o' (neC b o e hx) e1
 . obtain⟨m1,e1⟩:=I.base.tbls b ps e;obtain⟨m2,e2⟩:=tbls b _ e1;exact⟨m1++m2,by rw[e2,Array.append_assoc]⟩
 . obtain⟨m,hn,hl⟩:=I.loc;refine⟨m,ns m hn,λi x v e1 e2 e3=>?_⟩;obtain⟨u,r,l⟩:=hl i x v e1 e2 e3;refine⟨u,r,?_⟩;rcases l with l | ⟨k,c,e,z⟩
   . exact .inl l
   . exact .inr ⟨k,c,e,cellK x c e _ z⟩
 . obtain⟨v,z⟩:=I.cell x c e;exact⟨v,cellK x c e v z⟩
 . obtain⟨m,⟨o,_,_,ho,_⟩,_⟩:=I.loc;exact free _ o (λz=>(hch _ z).2.1 rfl) ho I.free
 . obtain⟨v,o,ho,hd⟩:=I.cell x c e;exact free c o (λz=>(hch c z).2.2.1 x c e rfl) ho (I.freeC x c e)
 . obtain⟨e,n,ne,nf,d⟩:=I.pin p hp;have nch:p.1∉ch:=λz=>(hch p.1 z).2.2.2 p hp rfl;exact⟨keep p.1 p.2 ne nf nch e n,free p.1 p.2 nch e n,ne,nf,d⟩
def Inv.un (I:Inv X pins σ H s)(u:Un X.fs [] H H' s.heap h')(hok:HOk X.prog X.w H' h'):Inv X pins σ H' { s with heap:=h',toks:=t' }:=by
 obtain⟨m,⟨o,es,ep,ho,r⟩,_⟩:=id I.loc;obtain⟨sl,hL⟩:=u.any ho I.free .(4)
 exact I.step (g':=s.gens) (d':=s.drawn) (ch:=[]) (λ_ z=>nomatch z) (λb o _ hb _ e n=>u.keep b o e n hb .(4)) (λb o _ hb _ e n=>u.slot b o e n hb .(4)) (λb o _ e n=>u.free b o e n .(4)) (λb o _ e=>u.there b o e .(4)) u.tups u.frzs u.tbls (λm' hm=>by
   obtain⟨o',es',ep',ho',r'⟩:=hm;rw[ho]at ho'; cases ho';exact⟨_,es',ep',hL,r'⟩) hok I.bare
def Inv.call (I:Inv X pins σ H s)(u:Un (frs X.stack) ch H H' s.heap h')(hok:HOk X.prog X.w H' h')(hg:O7 g')
   (hch:∀b∈ch,(b∈X.ex\/X.s₀.heap.objs.size<=b)/\b≠X.env.locals/\(∀x c,X.env.cells.lookup x=some c->c≠b)/\∀p∈X.pn++pins,p.1≠b) :
   Inv X pins σ H' { s with heap:=h',gens:=g',drawn:=d',toks:=t' }:=by
 obtain⟨m,⟨o,es,ep,ho,r⟩,_⟩:=id I.loc;obtain⟨sl,hL⟩:=u.any ho I.free λz=>(hch _ z).2.1 rfl
 exact I.step (ch:=ch) hch (λb o hL hb hc e n=>u.keep b o e n (λz=>(HZ.mp (I.ua b z)).elim hL hb) hc) (λb o _ _ hc e n=>u.any e n hc) (λb o hc e n=>u.free b o e n hc) (λb o hc e=>u.there b o e hc) u.tups u.frzs u.tbls (λm' hm=>by
   obtain⟨o',es',ep',ho',r'⟩:=hm;rw[ho]at ho'; cases ho';exact⟨_,es',ep',hL,r'⟩) hok hg
def Inv.turned (I:Inv X pins σ H s)(k:∀b o,b≠it->s.heap.get? b=some o->h'.get? b=some o)(hn:H it=none)(hL:it≠X.env.locals)
   (h1:it∈X.ex\/X.s₀.heap.objs.size<=it) (h2:∀x c,X.env.cells.lookup x=some c->c≠it) (h3:∀p∈X.pn++pins,p.1≠it):Inv X pins σ H { s with heap:=h',toks:=t' }:=by
 have nit:∀b u,H b=some u->b≠it:=λb u e z=>by rw[z,hn]at e; cases e
 refine I.step (g':=s.gens) (d':=s.drawn) (ch:=[it]) (λb hb=>?_) (λb o _ _ hc e _=>k b o (λz=>hc (by simp[z])) e) (λb o _ _ hc e _=>⟨o.slots,k b o (λz=>hc (by simp[z])) e⟩) (λ_ _ _ _ n=>n)
   (λb o hc e=>⟨o,k b o (λz=>hc (by simp[z])) e⟩) (λ_ _ e=>e) (λ_ _ _ e=>e) (λb ps e=>⟨#[],by rw[e]; simp⟩) (λm hm=>?_) (λb u e=>?_) I.bare
 . have e:b=it:=by simpa using hb
   subst e;exact⟨h1,hL,h2,h3⟩
 . obtain⟨o,es,ep,ho,r⟩:=hm;exact⟨o,es,ep,k _ o (Je hL) ho,r⟩
 . refine(I.hok b u e).lL (λc v hc q=>k c v ?_ q) (λ_ q=>q) λ_ _ q=>q;rcases hc with z | z
   . rw[z]; exact nit b u e
   . exact nit c _ z
def Inv.tok (I:Inv X pins σ H s)(t:Nat):Inv X pins σ H { s with toks:=t }:=I.un (h':=s.heap) (t':=t) Un.refl I.hok
def Inv.kept (I:Inv X pins σ H s)(k:∀b u,s.heap.get? b=some u->h'.get? b=some u):Inv X pins σ H { s with heap:=h',toks:=t' }:=I.un (Un.kept k) (I.hok.kept k)
def Inv.laid {a:Addr}{o:HO}(I:Inv X pins σ H s)(k:∀b u,s.heap.get? b=some u->h'.get? b=some u)(hp:s.heap.objs.size<=a)(new:bL X.prog X.w (upd H a o) h' a o):
   Inv X pins σ (upd H a o) { s with heap:=h',toks:=t' }:=I.un (Un.laid k hp (I.hok.fresh hp)) (I.hok.laid k hp new)
def Inv.write (I:Inv X pins σ H s)(mu:Mut (H x))(he:e=x\/H e=some (.own x))(k:∀b u,b≠e->s.heap.get? b=some u->h'.get? b=some u)(heo:∃u,h'.get? e=some u)
   (new:bL X.prog X.w (upd H x o) h' x o):Inv X pins σ (upd H x o) { s with heap:=h',toks:=t' }:=I.un (Un.write mu he k heo) (I.hok.write mu he k heo new)
def Inv.uv (I:Inv X pins σ H s)(h:∀p∈pins',s.heap.get? p.1=some p.2/\H p.1=none/\p.1≠X.env.locals/\p.1∉X.fs/\∀v,p.2.data≠.cell v):Inv X pins' σ H s:=⟨I.ok,I.os,I.bare,I.base,I.loc,I.cell,I.free,I.freeC,λp hp=>(vp.mp hp).elim (λz=>I.pin p (Ie _ z)) (h p),I.hok,I.len⟩
def rY {N:List Str}(hN:N.Nodup){i j:Nat}{x:Str}(a:N[i]?=some x)(b:N[j]?=some x):i=j:=by obtain⟨h1,e1⟩:=tf.mp a;obtain⟨h2,e2⟩:=tf.mp b;exact(List.getElem_inj hN).mp (e1.trans e2.symm)
def wC {M:Model}{A:GT}{E:Value->Da->Prop}{i:Nat}{x:Str}{v:V}{u:Value}{Q:Unit->Da->Prop}(I:Inv X pins σ H s)(hN:X.N.Nodup)(hi:X.N[i]?=some x)(hx:Loc X.env.scope x)(r:RelV v u)
   (h:∀s',Inv X pins (σ.set i (some v)) H s'->(∃a,Lk a s.heap s'.heap/\(a=X.env.locals\/X.env.cells.lookup x=some a))->Q () s') (hf:X.fn x=true\/X.env.scope.names.lookup x=some .local:=by first | exact .inl rfl | exact .inr rfl | assumption):wpAny M A (storeName X.env x u) Q E s:=by
 obtain⟨m,hn,hl⟩:=id I.loc;have hcls:(X.env.scope.kind==.class||(X.env.scope.kind==.module&&X.env.locals != X.env.globals))=false:=by rw[I.ok.kind]; rfl
 have hiσ:i<σ.length:=by rw[I.len]; exact(tf.mp hi).1
 have cne:=I.cne
 have tracked:∀{a:Addr} {h':Heap},(∃o,s.heap.get? a=some o/\H a=none)->Lk a s.heap h'->HOk X.prog X.w H h':=λ{a h'} ha hs b ob e=>by
   obtain⟨_,_,hfree⟩:=ha;refine(I.hok b ob e).lL (λc w' hc q=>(hs.2 c ?_).trans q) (λ_ q=>q) λ_ _ q=>q;rintro rfl;rcases hc with rfl | hc
   . rw[hfree]at e; cases e
   . rw[hfree]at hc; cases hc
 rcases hx with hk | hk
 . refine wpAny_storeName_local hk hn (λh' hn' hs=>?_) hcls;obtain⟨oL,_,_,hoL,_⟩:=id hn;refine h _ ⟨I.ok,I.os,I.bare,⟨λb o e n hb hx=>?_,λb o e n hb hx=>?_,I.base.free,λb o e hx=>?_,I.base.tups,I.base.frzs,I.base.tbls⟩,⟨_,hn',λj y v' e1 e2 e3=>?_⟩,λy c e=>?_,I.free,I.freeC,λp hp=>?_,tracked ⟨oL,hoL,I.free⟩ hs,by simpa using I.len⟩ ⟨_,hs,.inl rfl⟩
   . exact(hs.2 b (IL (Ih (HY e) I.ok.above))).trans (I.base.keep b o e n hb hx)
   . obtain⟨sl,e1⟩:=I.base.slot b o e n hb hx;exact⟨sl,(hs.2 b (IL (Ih (HY e) I.ok.above))).trans e1⟩
   . obtain⟨o',e1⟩:=I.base.there b o e hx;exact⟨o',(hs.2 b (IL (Ih (HY e) I.ok.above))).trans e1⟩
   . by_cases hj:j=i
     . subst hj;rw[hi]at e1; cases e1;rw[IH hiσ]at e2;cases e2;exact⟨u,r,.inl ⟨hk,by simp⟩⟩
     . rw[Ik (Je hj)]at e2;obtain⟨u',r',q⟩:=hl j y v' e1 e2 e3;refine⟨u',r',?_⟩;rcases q with ⟨k,e⟩ | ⟨k,c,e,z⟩
       . refine .inl ⟨k,?_⟩;have:y≠x:=λe=>hj (rY hN e1 (e▸hi));simp[this,e]
       . exact .inr ⟨k,c,e,z.sameBut hs (cne y c e)⟩
   . obtain⟨w',z⟩:=I.cell y c e;exact⟨w',z.sameBut hs (cne y c e)⟩
   . obtain⟨e,n,ne,nf,d⟩:=I.pin p hp;exact⟨(hs.2 p.1 ne).trans e,n,ne,nf,d⟩
 . have hfn:X.fn x=true:=by
     rcases hf with z | z
     . exact z
     . rw[z]at hk; cases hk
   obtain⟨c,hc⟩:=I.ok.has x (.inl hk);obtain⟨w',z⟩:=I.cell x c hc;refine wpAny_storeName_cell I.ok.kind hk hc z (λh' hc' hs=>?_);obtain⟨oc,hoc,hocd⟩:=id z;refine h { s with heap:=h' } ⟨I.ok,I.os,I.bare,⟨λb o e n hb hx=>?_,λb o e n hb hx=>?_,I.base.free,λb o e hx=>?_,I.base.tups,I.base.frzs,I.base.tbls⟩,⟨m,hn.sameBut hs (Je (cne x c hc)),λj y v' e1 e2 e3=>?_⟩,λy c' e=>?_,I.free,I.freeC,λp hp=>?_,tracked ⟨oc,hoc,I.freeC x c hc⟩ hs,by simpa using I.len⟩ ⟨c,hs,.inr hc⟩
   . exact(hs.2 b (IL (Ih (HY e) (I.ok.cab x c hfn hc)))).trans (I.base.keep b o e n hb hx)
   . obtain⟨sl,e1⟩:=I.base.slot b o e n hb hx;exact⟨sl,(hs.2 b (IL (Ih (HY e) (I.ok.cab x c hfn hc)))).trans e1⟩
   . obtain⟨o',e1⟩:=I.base.there b o e hx;exact⟨o',(hs.2 b (IL (Ih (HY e) (I.ok.cab x c hfn hc)))).trans e1⟩
   . by_cases hj:j=i
     . subst hj;rw[hi]at e1; cases e1;rw[IH hiσ]at e2;cases e2;exact⟨u,r,.inr ⟨.inl hk,c,hc,hc'⟩⟩
     . rw[Ik (Je hj)]at e2;obtain⟨u',r',q⟩:=hl j y v' e1 e2 e3;refine⟨u',r',?_⟩;rcases q with q | ⟨k,c',e,z'⟩
       . exact .inl q
       . refine .inr ⟨k,c',e,z'.sameBut hs ?_⟩;rintro rfl;exact hj (rY hN e1 (I.ok.inj _ _ _ e hc▸hi))
   . by_cases hcc:c'=c
     . subst hcc; exact⟨_,hc'⟩
     . obtain⟨w2,z2⟩:=I.cell y c' e;exact⟨w2,z2.sameBut hs hcc⟩
   . obtain⟨e,n,ne,nf,d⟩:=I.pin p hp;refine⟨(hs.2 p.1 ?_).trans e,n,ne,nf,d⟩;intro q;rw[q,hoc]at e;have q':oc=p.2:=IM e;exact d w' (by rw[<- q']; exact hocd)
def qO {M:Model}{A:GT}{E:Value->Da->Prop}{i:Nat}{x:Str}{v:V}{u:Value}{Q:Unit->Da->Prop}(I:Inv X pins σ H s)(hN:X.N.Nodup)(hi:X.N[i]?=some x)(hx:Loc X.env.scope x)(r:RelV v u)
   (h:∀s',Inv X pins (σ.set i (some v)) H s'->Q () s') (hf:X.fn x=true\/X.env.scope.names.lookup x=some .local:=by first | exact .inl rfl | exact .inr rfl | assumption):wpAny M A (storeName X.env x u) Q E s:=
 wC I hN hi hx r (λs' I' _=>h s' I') hf
def Inv.Cs (I:Inv X pins σ H s)(ho:s'.os=s.os)(u:Un (frs X.stack) ch H H' s.heap s'.heap)(hok:HOk X.prog X.w H' s'.heap)(hg:O7 s'.gens)
   (hch:∀b∈ch,(b∈X.ex\/X.s₀.heap.objs.size<=b)/\b≠X.env.locals/\(∀x c,X.env.cells.lookup x=some c->c≠b)/\∀p∈X.pn++pins,p.1≠b):Inv X pins σ H' s':=by
 obtain⟨h',g',d',t',o'⟩:=s';have e:o'=s.os:=ho;subst e;exact I.call (g':=g') (t':=t') (d':=d') u hok hg hch
end
abbrev XK:=Value->Option Addr->Hp->Prop
abbrev St:=List (Option V)
abbrev VK:=V->Hp->Prop
abbrev TE:=St->Hp->VK->Prop
abbrev TT:=St->Hp->(Bool->Hp->Prop)->Prop
abbrev TA:=St->Hp->(List V->Hp->Prop)->Prop
structure Ends where
 nx:St->Hp->Prop
 rt:VK
 bk:St->Hp->Prop:=λ_ _=>False
 ct:St->Hp->Prop:=λ_ _=>False
abbrev TS:=Ends->St->Hp->Prop
def EP (X:Cx)(pins:List .(104))(σ:St)(Q:VK)(u:Value)(s':Da):Prop:=∃v H',Inv X pins σ H' s'/\RelV v u/\Q v H'
def TP (X:Cx)(pins:List .(104))(σ:St)(Q:Bool->Hp->Prop)(b:Bool)(s':Da):Prop:=∃H',Inv X pins σ H' s'/\Q b H'
def AP (X:Cx)(pins:List .(104))(σ:St)(Q:List V->Hp->Prop)(us:List Value)(s':Da):Prop:=∃vs H',Inv X pins σ H' s'/\Vals vs us/\Q vs H'
def SP (X:Cx)(pins:List .(104))(D:Ends)(f:Flow)(s':Da):Prop:=
 match f with
 | .next=>∃σ' H',Inv X pins σ' H' s'/\D.nx σ' H'
 | .brk=>∃σ' H',Inv X pins σ' H' s'/\D.bk σ' H'
 | .cont=>∃σ' H',Inv X pins σ' H' s'/\D.ct σ' H'
 | .ret u=>∃v σ' H',Inv X pins σ' H' s'/\RelV v u/\D.rt v H'
def PE (X:Cx)(e:Expr)(t:TE):Prop:=∀(pins:List .(104)) (s:Da) (σ:St) (H:Hp) (Q:VK),Inv X pins σ H s->t σ H Q->wpAny .(100) X.A (eval e X.env) (EP X pins σ Q) X.xe s
def PT (X:Cx)(e:Expr)(t:TT):Prop:=∀(pins:List .(104)) (s:Da) (σ:St) (H:Hp) (Q:Bool->Hp->Prop),Inv X pins σ H s->t σ H Q->wpAny .(100) X.A (isTrue e X.env (eval e X.env)) (TP X pins σ Q) X.xe s
def PW (X:Cx)(e:Expr)(t:TT):Prop:=∀(whole:Sem Value) (pins:List .(104)) (s:Da) (σ:St) (H:Hp) (Q:Bool->Hp->Prop),Inv X pins σ H s->t σ H Q->wpAny .(100) X.A (isTrue e X.env whole) (TP X pins σ Q) X.xe s
def PW.pt (h:PW X e t):PT X e t:=h _
def PA (X:Cx)(es:List Expr)(t:TA):Prop:=∀(pos:Pos) (pins:List .(104)) (s:Da) (σ:St) (H:Hp) (Q:List V->Hp->Prop),Inv X pins σ H s->t σ H Q->wpAny .(100) X.A (spliced (KF pos (Do es X.env))) (AP X pins σ Q) X.xe s
def PS (X:Cx)(st:Stmt)(t:TS):Prop:=∀(pins:List .(104)) (s:Da) (σ:St) (H:Hp) (D:Ends),Inv X pins σ H s->t D σ H->wpAny .(100) X.A (exec st X.env) (SP X pins D) X.xe s
def PSs (X:Cx)(st:List Stmt)(t:TS):Prop:=∀(pins:List .(104)) (s:Da) (σ:St) (H:Hp) (D:Ends),Inv X pins σ H s->t D σ H->wpAny .(100) X.A (execs st X.env) (SP X pins D) X.xe s
def thn (h:wpAny M A t Q E s)(hQ:∀a s,Q a s->Q' a s):wpAny M A t Q' E s:=NZ h hQ λ_ _ x=>x
section
variable {X:Cx}
def bin {a b:Expr}{ta tb:TE}(ha:PE X a ta)(hb:PE X b tb){pins:List .(104)}{s:Da}{σ:St}{R:V->V->Hp->Prop}(I:Inv X pins σ H s)(h:ta σ H λx H1=>tb σ H1 λy H2=>R x y H2)
   {α:Type} {Q:α->Da->Prop} {f:Value->Value->Sem α}
   (hf:∀v u s2 x y H2,Inv X pins σ H2 s2->RelV x v->RelV y u->R x y H2->wpAny .(100) X.A (f v u) Q X.xe s2) :
   wpAny .(100) X.A (eval a X.env) (λv s₁=>wpAny .(100) X.A (eval b X.env) (λu s₂=>wpAny .(100) X.A (f v u) Q X.xe s₂) X.xe s₁) X.xe s:=by
 refine thn .(134) λv s1 ⟨x,H1,I1,r1,q1⟩=>?_;refine thn (hb pins s1 σ H1 _ I1 q1) λu s2 ⟨y,H2,I2,r2,q2⟩=>?_;exact hf v u s2 x y H2 I2 r1 r2 q2
def FE (i:Nat):TE:=λσ H Q=>∃v,σ[i]?=some (some v)/\Q v H
def tC (v:V):TE:=λ_ H Q=>Q v H
def bw {i:Nat}{x:Str}{pos:Pos}(hN:X.N[i]?=some x)(hv:Vis X.env.scope x)(hd:(x==("__debug__" : Str))=false:=by decide)(hcd:(x==("__classdict__" : Str))=false:=by decide):PE X (.Name x pos) (FE i):=by
 intro pins s σ H Q I h;obtain⟨v,e,h⟩:=h;obtain⟨m,hn,hl⟩:=I.loc;obtain⟨u,r,l⟩:=hl i x v hN e hv;have fin:EP X pins σ Q u s:=⟨v,H,I,r,h⟩;rcases l with ⟨hk,hm⟩ | ⟨hk,c,hc,hcell⟩
 . exact wpAny_Name (wpAny_loadName_local I.ok.kind hk hn hm fin) hd
 . rcases hk with hk | hk
   . exact wpAny_Name (wpAny_loadName_cell I.ok.kind hk hc hcell fin) hd
   . exact wpAny_Name (wpAny_loadName_free I.ok.kind hk hc hcell fin hcd) hd
def sW :PE X (.Constant (.int i) j pos) (tC (.int i)):=λ_ _ _ H _ I h=>wpAny_Constant_int ⟨.int i,H,I.tok _,⟨_,rfl⟩,h⟩
def Fg :PE X (.Constant (.bool b) j pos) (tC (.bl b)):=λ_ _ _ H _ I h=>Constant_bool ⟨.bl b,H,I,rfl,h⟩
def C6 :PE X (.Constant .none j pos) (tC .non):=λ_ _ _ H _ I h=>Constant_none ⟨.non,H,I,rfl,h⟩
def EL :PE X (.Constant (.str x) j pos) (tC (.str x)):=λ_ _ _ H _ I h=>Calls.Constant_str ⟨.str x,H,I.tok _,⟨_,rfl⟩,h⟩
def Gl (X:Cx)(x:Str):Prop:=X.env.kindOf x=some .globalImplicit
def uo {E:Value->Da->Prop}{pins:List .(104)}{s:Da}{σ:St}{H:Hp}{x:Str}{u:Value}{pos:Pos}{Q:Value->Da->Prop}(I:Inv X pins σ H s)(hg:Gl X x)(hm:X.mg x=some u)(h:Q u s)
   (hd:(x==("__debug__" : Str))=false:=by decide):wpAny .(100) X.A (eval (.Name x pos) X.env) Q E s:=
 MV I.ok.kind hg (Calls.loadGlobal_global (by rw[I.ok.glob]; exact I.mod.glob.keeps I.bk) hm h) hd
def dM {E:Value->Da->Prop}{pins:List .(104)}{s:Da}{σ:St}{H:Hp}{x:Str}{u:Value}{pos:Pos}{Q:Value->Da->Prop}(I:Inv X pins σ H s)(hg:Gl X x)(hm:X.mg x=none)(hv:N7 x=some u)(h:Q u s)
   (hn:x ≠ "__name__":=by decide) (hd:(x==("__debug__" : Str))=false:=by decide):wpAny .(100) X.A (eval (.Name x pos) X.env) Q E s:=by
 obtain⟨mb,h1,h2⟩:=I.mod.blt;exact MV I.ok.kind hg (Calls.loadGlobal_builtin (by rw[I.ok.glob]; exact I.mod.glob.keeps I.bk) hm (by rw[I.ok.blt]; exact h1.keeps I.bk) ((h2 x hn).trans hv) h) hd
def ux {x:Str}{v:V}{u:Value}{pos:Pos}(hg:Gl X x)(hm:X.mg x=some u)(r:RelV v u)(hd:(x==("__debug__" : Str))=false:=by decide):PE X (.Name x pos) (tC v):=λ_ _ _ H _ I h=>uo I hg hm ⟨v,H,I,r,h⟩ hd
def Bg {x:Str}{v:V}{u:Value}{pos:Pos}(hg:Gl X x)(hm:X.mg x=none)(hv:N7 x=some u)(r:RelV v u)(hn:x ≠ "__name__":=by decide)(hd:(x==("__debug__" : Str))=false:=by decide):PE X (.Name x pos) (tC v):=λ_ _ _ H _ I h=>dM I hg hm hv ⟨v,H,I,r,h⟩ hn hd
variable {a b:Expr}{ta tb:TE}{pos:Pos}
def PC (X:Cx)(op:CmpOp)(a b:Expr)(t:TE):Prop:=
 ∀(pins:List .(104)) (s:Da) (σ:St) (H:Hp) (Q:VK),Inv X pins σ H s->t σ H Q ->
   wpAny .(100) X.A (eval a X.env) (λv s₁=>wpAny .(100) X.A (eval b X.env) (λu s₂=>wpAny .(100) X.A (GE op v u) (EP X pins σ Q) X.xe s₂) X.xe s₁) X.xe s
def yT (b:Expr)(h:op≠.In)(h2:op≠.NotIn):NC op b=false:=by
 have e1:(op==CmpOp.In)=false:=by cases op <;> first | rfl | exact absurd rfl h
 have e2:(op==CmpOp.NotIn)=false:=by cases op <;> first | rfl | exact absurd rfl h2
 cases b <;> simp[NC,e1,e2]
def tB (t:TE):TT:=λσ H Q=>t σ H λx H1=>∃c,x=.bl c/\Q c H1
def Hc {op:CmpOp}{t:TE}(h:PC X op a b t)(h1:NC op b=false:=by first | exact yT _ .(2) .(2) | rfl):PT X (.Compare a [op] [b] pos) (tB t):=by intro pins s σ H Q I hw;refine wpAny_isTrue_Compare1 (thn (h pins s σ H _ I hw) λv s1 h1=>thn h1 λu s2 h2=>thn h2 λc s3 ⟨x,H1,I1,r1,q1⟩=>?_) h1;obtain⟨d,rfl,q⟩:=q1;cases r1;exact N0 ⟨H1,I1,q⟩
def CL {e:Expr}{t:TE}(h:PE X e t)(he:∀whole,isTrue e X.env whole=(do let v <- whole; O1 e.pos; N3 [v] (truthy v)):=by intro _; rfl):PT X e (tB t):=by intro pins s σ H Q I hw;refine isTrue_plain (thn (h pins s σ H _ I hw) λv s1 ⟨x,H1,I1,r1,q1⟩=>?_) (he _);obtain⟨d,rfl,q⟩:=q1;cases r1;exact N0 ⟨H1,I1,q⟩
variable {tA tB':TT}{rest:List Expr}
def Hh (t u:TT):TT:=λσ H Q=>t σ H λc H1=>if c=true then u σ H1 Q else Q false H1
def tOr (t u:TT):TT:=λσ H Q=>t σ H λc H1=>if c=true then Q true H1 else u σ H1 Q
def He (t:TT):TT:=λσ H Q=>t σ H λc H1=>Q (!c) H1
def pw_and1 (ha:PT X a tA):PW X (.BoolOp .And [a] pos) tA:=by
 intro wh pins s σ H Q I h;refine isTrue_and (thn (ha pins s σ H Q I h) λc s1 e=>?_);cases c with
 | true=>exact isTrue_and_nil e
 | false=>exact e
def pw_or1 (ha:PT X a tA):PW X (.BoolOp .Or [a] pos) tA:=by
 intro wh pins s σ H Q I h;refine isTrue_or (thn (ha pins s σ H Q I h) λc s1 e=>?_);cases c with
 | false=>exact isTrue_or_nil e
 | true=>exact e
def pw_and (ha:PT X a tA)(hb:PW X (.BoolOp .And (b::rest) pos) tB'):PW X (.BoolOp .And (a::b::rest) pos) (Hh tA tB'):=by
 intro wh pins s σ H Q I h;refine isTrue_and (thn .(134) λc s1 ⟨H1,I1,q1⟩=>?_);cases c with
 | true=>exact hb wh pins s1 σ H1 Q I1 q1
 | false=>exact⟨H1,I1,q1⟩
def pw_or (ha:PT X a tA)(hb:PW X (.BoolOp .Or (b::rest) pos) tB'):PW X (.BoolOp .Or (a::b::rest) pos) (tOr tA tB'):=by
 intro wh pins s σ H Q I h;refine isTrue_or (thn .(134) λc s1 ⟨H1,I1,q1⟩=>?_);cases c with
 | true=>exact⟨H1,I1,q1⟩
 | false=>exact hb wh pins s1 σ H1 Q I1 q1
def DG (ha:PT X a tA):PT X (.UnaryOp .Not a pos) (He tA):=by intro pins s σ H Q I h;exact isTrue_not (ha pins s σ H (λc H1=>Q (!c) H1) I h)
def FI (ta tb:TE):TE:=λσ H Q=>ta σ H λx H1=>∃c,x=.bl c/\if c=true then tb σ H1 Q else Q (.bl false) H1
def Fi (ta:TE):TE:=λσ H Q=>ta σ H λx H1=>∃c,x=.bl c/\Q (.bl (!c)) H1
def DL (h:PE X a t):PE X (.BoolOp op [a] pos) t:=λpins s σ H Q I hw=>BoolOp_one (h pins s σ H Q I hw)
def zw (ha:PE X a ta)(hb:PE X (.BoolOp .And (b::rest) pos) tb):PE X (.BoolOp .And (a::b::rest) pos) (FI ta tb):=by
 intro pins s σ H Q I h;refine BoolOp_and (thn .(134) λv s1 ⟨x,H1,I1,r1,q1⟩=>?_);obtain⟨c,rfl,q1⟩:=q1;cases r1;refine N0 ?_;cases c with
 | true=>exact hb pins s1 σ H1 Q I1 q1
 | false=>exact⟨.bl false,H1,I1,rfl,q1⟩
def EZ (ha:PE X a ta):PE X (.UnaryOp .Not a pos) (Fi ta):=by intro pins s σ H Q I h;refine UnaryOp_ (thn .(134) λv s1 ⟨x,H1,I1,r1,q1⟩=>?_);obtain⟨c,rfl,q1⟩:=q1;cases r1;exact not_of (N0 ⟨.bl (!c),H1,I1,rfl,q1⟩)
def tIf (t:TT)(ta tb:TE):TE:=λσ H Q=>t σ H λc H1=>if c=true then ta σ H1 Q else tb σ H1 Q
def qJ (hc:PT X c tA)(ha:PE X a ta)(hb:PE X b tb):PE X (.IfExp c a b pos) (tIf tA ta tb):=by
 intro pins s σ H Q I h;refine wpAny_IfExp (thn (hc pins s σ H _ I h) λd s1 ⟨H1,I1,q1⟩=>?_);cases d with
 | true=>exact ha pins s1 σ H1 Q I1 q1
 | false=>exact hb pins s1 σ H1 Q I1 q1
end
def SqL (K:fw)(H:Hp)(a:Addr)(xs:List V):Prop:=
 Rd H a (.lst xs) \/
   ∃(o:Obj) (its:Array Value) (n:Nat),K.lookup a=some o/\o.cls=.type "list" /\ o.dict=none/\o.data=.seq its n/\its.size<=sizeLine/\Vals xs its.toList
def SqT (K:fw)(H:Hp)(a:Addr)(xs:List V):Prop:=
 Rd H a (.tup xs) \/
   ∃(o:Obj) (its:Array Value) (n:Nat),K.lookup a=some o/\o.cls=.type "tuple" /\ o.data=.seq its n/\its.size<=sizeLine/\Vals xs its.toList
noncomputable def HL:Value->Option V
 | .none=>some .non
 | .bool b=>some (.bl b)
 | .int i _=>some (.int i)
 | .str x _=>some (.str x)
 | .bytes b _=>some (.byt b)
 | .float b _=>some (.flt b)
 | .ref a=>some (.ref a)
 | .type n=>some (.ty n)
 | _=>none
def RelV.abs (r:RelV x u):HL u=some x:=by
 cases x with
 | non=>cases r; rfl
 | bl _=>cases r; rfl
 | int _=>obtain⟨t,rfl⟩:=r; rfl
 | str _=>obtain⟨t,rfl⟩:=r; rfl
 | byt _=>obtain⟨t,rfl⟩:=r; rfl
 | flt _=>obtain⟨t,rfl⟩:=r; rfl
 | ref _=>cases r; rfl
 | ty _=>cases r; rfl
def RelV.inj (r:RelV x u)(q:RelV y u):x=y:=IM (r.abs.symm.trans q.abs)
theorem Vals.inj:∀{xs ys:List V} {us:List Value},Vals xs us->Vals ys us->xs=ys
 | _,_,_,.nil,.nil=>rfl
 | _,_,_,.cons r t,.cons r' t'=>by rw[r.inj r',Vals.inj t t']
section
variable {X:Cx}{pins:List .(104)}{σ:St}{H:Hp}{s:Da}{a:Addr}{xs ys:List V}
def SqL.of {K:fw}(h:H a=some (.lst xs)):SqL K H a xs:=.inl (.inl h)
def SqT.of {K:fw}(h:H a=some (.tup xs)):SqT K H a xs:=.inl (.inl h)
def Inv.list (I:Inv X pins σ H s)(h:SqL X.K H a xs):∃its:List Value,Vals xs its/\PlainL s.heap a its.toArray/\xs.length<=sizeLine:=by
 rcases h with h | ⟨o,its,n,hk,hc,hd,hs,hz,r⟩
 . obtain⟨z,its,n,r,e⟩:=h.ok I.hok;exact⟨its,r,⟨_,n,e,rfl,rfl,rfl⟩,z⟩
 . refine⟨its.toList,r,⟨o,n,I.kIn a o hk,hc,hd,by simpa using hs⟩,?_⟩;have e:=r.length;simp only[Jy]at e;omega
def Inv.tuple (I:Inv X pins σ H s)(h:SqT X.K H a xs):∃its:List Value,Vals xs its/\IsTup s.heap a its.toArray/\xs.length<=sizeLine:=by
 rcases h with h | ⟨o,its,n,hk,hc,hs,hz,r⟩
 . obtain⟨z,its,r,p⟩:=h.ok I.hok;exact⟨its,r,p,z⟩
 . refine⟨its.toList,r,⟨o,I.kIn a o hk,hc,n,by simpa using hs⟩,?_⟩;have e:=r.length;simp only[Jy]at e;omega
def Inv.gU (I:Inv X pins σ H s)(h:SqL X.K H a xs)(h':SqL X.K H a ys):xs=ys:=by
 obtain⟨its,r,⟨o,n,e,_,_,d⟩,_⟩:=I.list h;obtain⟨its',r',⟨o',n',e',_,_,d'⟩,_⟩:=I.list h';rw[e]at e'; cases e';rw[d]at d';injection d' with d1 _;have:its=its':=by simpa using congrArg MB d1
 subst this;exact r.inj r'
def Inv.wO (I:Inv X pins σ H s)(h:SqT X.K H a xs)(h':SqT X.K H a ys):xs=ys:=by
 obtain⟨its,r,⟨o,e,_,n,d⟩,_⟩:=I.tuple h;obtain⟨its',r',⟨o',e',_,n',d'⟩,_⟩:=I.tuple h';rw[e]at e'; cases e';rw[d]at d';injection d' with d1 _;have:its=its':=by simpa using congrArg MB d1
 subst this;exact r.inj r'
end
noncomputable abbrev Cx.nr (X:Cx)(E:Value->Da->Prop):Cx:={ X with xe:=E }
noncomputable abbrev Cx.nox (X:Cx):Cx:=X.nr λ_ _=>False
def Cx.Ok.nr {X:Cx}(ok:X.Ok)(E:Value->Da->Prop):(X.nr E).Ok:=⟨ok.mod,ok.kind,ok.glob,ok.blt,ok.above,ok.inj,ok.has,ok.cab,ok.hd,ok.frames,ok.stk,ok.exf,ok.bs,ok.bsz,ok.noex,ok.exfs,ok.mH,ok.frf⟩
def Cx.Ok.gZ {X:Cx}(ok:(X.nr E).Ok):X.Ok:=⟨ok.mod,ok.kind,ok.glob,ok.blt,ok.above,ok.inj,ok.has,ok.cab,ok.hd,ok.frames,ok.stk,ok.exf,ok.bs,ok.bsz,ok.noex,ok.exfs,ok.mH,ok.frf⟩
section
variable {X:Cx}{pins:List .(104)}{σ:St}{H:Hp}{s:Da}{E:Value->Da->Prop}
def Inv.nr (I:Inv X pins σ H s)(E:Value->Da->Prop):Inv (X.nr E) pins σ H s:=⟨I.ok.nr E,I.os,I.bare,I.base,I.loc,I.cell,I.free,I.freeC,I.pin,I.hok,I.len⟩
def Inv.gZ (I:Inv (X.nr E) pins σ H s):Inv X pins σ H s:=⟨I.ok.gZ,I.os,I.bare,I.base,I.loc,I.cell,I.free,I.freeC,I.pin,I.hok,I.len⟩
def SP.gZ (h:SP (X.nr E) pins D f s'):SP X pins D f s':=by
 cases f with
 | next=>obtain⟨σ',H',I,q⟩:=h; exact⟨σ',H',I.gZ,q⟩
 | brk=>obtain⟨σ',H',I,q⟩:=h; exact⟨σ',H',I.gZ,q⟩
 | cont=>obtain⟨σ',H',I,q⟩:=h; exact⟨σ',H',I.gZ,q⟩
 | ret u=>obtain⟨v,σ',H',I,r,q⟩:=h; exact⟨v,σ',H',I.gZ,r,q⟩
def PSs.nox {st:List Stmt}{t:TS}(h:PSs X.nox st t):PSs X st t:=λpins s σ H D I hw=>NZ (h pins s σ H D (I.nr _) hw) (λ_ _ q=>q.gZ) λ_ _ z=>KA z
end
section
variable {X:Cx}{st:Stmt}{rest:List Stmt}{t u:TS}{e:Expr}{te:TE}{pos:Pos}
def FF:TS:=λD σ H=>D.nx σ H
def Hi (t u:TS):TS:=λD σ H=>t { D with nx:=u D } σ H
def jg:PSs X [] FF:=λ_ _ σ H _ I h=>O8 ⟨σ,H,I,h⟩
def d8 (h1:PS X st t)(h2:PSs X rest u):PSs X (st::rest) (Hi t u):=by
 intro pins s σ H D I h;refine wpAny_execs_cons (thn (h1 pins s σ H { D with nx:=u D } I h) λf s1 q=>?_);cases f with
 | next=>obtain⟨σ',H',I',q⟩:=q;exact h2 pins s1 σ' H' D I' q
 | ret v=>exact q
 | brk=>exact q
 | cont=>exact q
def BU (h1:PS X st t):PSs X [st] t:=by
 intro pins s σ H D I h;refine wpAny_execs_cons (thn (h1 pins s σ H D I h) λf s1 q=>?_);cases f with
 | next=>exact O8 q
 | ret v=>exact q
 | brk=>exact q
 | cont=>exact q
def GC:TS:=λD σ H=>D.ct σ H
def rV:PS X (.Continue pos) GC:=λ_ _ σ H _ I h=>wpAny_Continue ⟨σ,H,I,h⟩
def Inv.quiet {pins:List .(104)}{σ:St}{s:Da}(I:Inv X pins σ H s):interactive X.env=false:=by simp[interactive,I.ok.kind]
def Gx (te:TE):TS:=λD σ H=>te σ H λ_ H1=>D.nx σ H1
def dJ (he:PE X e te)(hs:N1 e none pos.line X.env=pure false:=by rfl):PS X (.Expr e pos) (Gx te):=by intro pins s σ H D I h;exact wpAny_Expr_any (thn (he pins s σ H _ I h) λv s1 ⟨x,H1,I1,r1,q1⟩=>⟨σ,H1,I1,q1⟩) I.quiet hs
def HD (te:TE):TS:=λD σ H=>te σ H D.rt
def mS (he:PE X e te):PS X (.Return (some e) pos) (HD te):=by intro pins s σ H D I h;exact wpAny_Return_some (thn (he pins s σ H _ I h) λv s1 ⟨x,H1,I1,r1,q1⟩=>⟨x,σ,H1,I1,r1,q1⟩)
def HN (c:TT)(t u:TS):TS:=λD σ H=>c σ H λb H1=>if b=true then t D σ H1 else u D σ H1
def nN (hc:PT X c tc)(ha:PSs X a t)(hb:PSs X b u):PS X (.If c a b pos) (HN tc t u):=by
 intro pins s σ H D I h;refine wpAny_If (thn (hc pins s σ H _ I h) λd s1 ⟨H1,I1,q1⟩=>?_);cases d with
 | true=>exact ha pins s1 σ H1 D I1 q1
 | false=>exact hb pins s1 σ H1 D I1 q1
def CH:TS:=λ_ _ _=>False
def cE :PSs X sts CH:=λ_ _ _ _ _ _ h=>h.elim
end
abbrev TG:=V->St->Hp->(St->Hp->Prop)->Prop
abbrev TGs:=List V->St->Hp->(St->Hp->Prop)->Prop
def PG (X:Cx)(target:Expr)(t:TG):Prop:=
 ∀(pins:List .(104)) (s:Da) (σ:St) (H:Hp) (v:V) (u:Value) (Q:St->Hp->Prop),Inv X pins σ H s->RelV v u->t v σ H Q ->
   wpAny .(100) X.A (assign target X.env u) (λ_ s'=>∃σ' H',Inv X pins σ' H' s'/\Q σ' H') X.xe s
def PGs (X:Cx)(ts:List Expr)(t:TGs):Prop:=
 ∀(pins:List .(104)) (s:Da) (σ:St) (H:Hp) (vs:List V) (us:List Value) (Q:St->Hp->Prop),Inv X pins σ H s->Vals vs us->t vs σ H Q ->
   wpAny .(100) X.A (assignInOrder ((KM ts X.env).map (·.2)) us) (λ_ s'=>∃σ' H',Inv X pins σ' H' s'/\Q σ' H') X.xe s
abbrev CJ:=V->V->V->Hp->(Hp->Prop)->Prop
def Fj (X:Cx)(t:CJ):Prop:=
 ∀(pins:List .(104)) (s:Da) (σ:St) (H:Hp) (o i v:V) (ov iv u:Value) (Q:Hp->Prop),Inv X pins σ H s->RelV o ov->RelV i iv->RelV v u->t o i v H Q ->
   wpAny .(100) X.A (O2 ov iv u) (λ_ s'=>∃H',Inv X pins σ H' s'/\Q H') X.xe s
section
variable {X:Cx}{pos:Pos}
def B4 (i:Nat):TG:=λv σ H Q=>Q (σ.set i (some v)) H
def eF {i:Nat}{x:Str}(hN:X.N.Nodup)(hi:X.N[i]?=some x)(hx:Loc X.env.scope x)(hf:X.fn x=true\/X.env.scope.names.lookup x=some .local:=by first | exact .inl rfl | exact .inr rfl | assumption):PG X (.Name x pos) (B4 i):=by intro pins s σ H v u Q I r h;exact wpAny_assign_Name (qO I hN hi hx r (λs' I'=>⟨_,H,I',h⟩) hf)
def Hq:TGs:=λvs σ H Q=>vs=[]/\Q σ H
def Gp (t:TG)(u:TGs):TGs:=λvs σ H Q=>∃v r,vs=v::r/\t v σ H λσ' H'=>u r σ' H' Q
def kR:PGs X [] Hq:=by intro pins s σ H vs us Q I r h;obtain⟨e,h⟩:=h;subst e;cases r;exact assignInOrder_nil ⟨σ,H,I,h⟩
def eg {e:Expr}{es:List Expr}{t:TG}{u:TGs}(h1:PG X e t)(h2:PGs X es u)
   (hs:(KM (e::es) X.env).map (·.2)=assign e X.env::(KM es X.env).map (·.2):=by rfl):PGs X (e::es) (Gp t u):=by
 intro pins s σ H vs us Q I r h;obtain⟨v,vr,e1,h⟩:=h;subst e1;cases r with
 | cons r rr=>rw[hs];refine assignInOrder_cons (thn (h1 pins s σ H _ _ _ I r h) λ_ s1 ⟨σ1,H1,I1,q1⟩=>?_);exact h2 pins s1 σ1 H1 _ _ Q I1 rr q1
def G4 (K:fw)(n:Nat)(t:TGs):TG:=λv σ H Q=>∃a xs,v=.ref a/\SqT K H a xs/\xs.length=n/\t xs σ H Q
def pN {es:List Expr}{k:Nat}{t:TGs}{n:Nat}(hc:X.calm=true)(h:PGs X es t)
   (hn:(KM es X.env).length=n:=by rfl) (hst:(KM es X.env).findIdx? (·.1)=none:=by rfl):PG X (.Tuple es k pos) (G4 X.K n t):=by
 intro pins s σ H v u Q I r hw;obtain⟨a,xs,e1,hq,hl,hw⟩:=hw;subst e1;cases r;obtain⟨its,rv,ht,hz⟩:=I.tuple hq;refine assign_Tuple_tuple (I.ok.hd hc) ht (by simp[hn,<- hl,rv.length]) hst λh' hx=>?_;have I1:Inv X pins σ H { s with heap:=h' }:=I.kept (t':=s.toks) λb o e=>hx b o (IL (HY e)) e;exact h pins _ σ H xs _ Q I1 (by simpa using rv) hw
def HA (to ti:TE)(t:CJ):TG:=λv σ H Q=>to σ H λo H1=>ti σ H1 λi H2=>t o i v H2 λH3=>Q σ H3
def iM {o i:Expr}{to ti:TE}{t:CJ}(ho:PE X o to)(hi:PE X i ti)(hs:Fj X t)
   (ha:∀v,assign (.Subscript o i pos) X.env v=(do
     let ov <- N3 [v] (eval o X.env)
     let iv <- N3 [v,ov] (eval i X.env)
     O1 pos
     N3 [v,ov,iv] (O2 ov iv v)
     Of [v,ov,iv] []):=by intro _; rfl):PG X (.Subscript o i pos) (HA to ti t):=by
 intro pins s σ H v u Q I r h;rw[ha];refine AC (NJ (thn (ho pins s σ H _ I h) λov s1 ⟨x,H1,I1,r1,q1⟩=>?_));refine AC (NJ (thn (hi pins s1 σ H1 _ I1 q1) λiv s2 ⟨y,H2,I2,r2,q2⟩=>?_));refine AC (wpAny_standAt (AC (NJ (thn (hs pins s2 σ H2 x y v ov iv u _ I2 r1 r2 r q2) λ_ s3 ⟨H3,I3,q3⟩=>?_))));exact wpAny_release ⟨σ,H3,I3,q3⟩
def Dm (te:TE)(g:TG):TS:=λD σ H=>te σ H λx H1=>g x σ H1 D.nx
def jM {tg e:Expr}{te:TE}{g:TG}(he:PE X e te)(hg:PG X tg g)(hs:NL [tg] e pos.line X.env=pure false:=by rfl)(hw:NM [tg] e X.env=pure none:=by rfl)
   (h1:(KM [tg] X.env).map (·.2)=[assign tg X.env]:=by rfl):PS X (.Assign [tg] e pos) (Dm te g):=by
 intro pins s σ H D I h;refine wpAny_Assign_stores (thn (he pins s σ H _ I h) λv s1 ⟨x,H1,I1,r1,q1⟩=>?_) hs hw;rw[h1];exact thn (hg pins s1 σ H1 x v _ I1 r1 q1) λ_ s2 q=>q
def yk {i:Nat}{x:Str}{e:Expr}{te:TE}{pos':Pos}(hN:X.N.Nodup)(hi:X.N[i]?=some x)(hx:Loc X.env.scope x)(he:PE X e te)(hs:N1 e (some (.Name x pos')) pos.line X.env=pure false:=by rfl)(hf:X.fn x=true\/X.env.scope.names.lookup x=some .local:=by first | exact .inl rfl | exact .inr rfl | assumption):
   PS X (.Assign [.Name x pos'] e pos) (Dm te (B4 i)):=by
 intro pins s σ H D I h;refine wpAny_Assign_Name (thn (he pins s σ H _ I h) λv s1 ⟨y,H1,I1,r1,q1⟩=>?_) hs;exact qO I1 hN hi hx r1 (λs2 I2=>⟨_,H1,I2,q1⟩) hf
end
section
variable {X:Cx}{pos:Pos}
def D6 (c:TT)(tb:TS):TS:=λD σ H=>∃W:Nat->St->Hp->Prop,(∃m,W m σ H)/\∀m σ H,W m σ H ->
 c σ H λb H1=>if b=true then ∃N:St->Hp->Prop,(∀σ' H',N σ' H'->∃m',m'<m/\W m' σ' H')/\tb { D with nx:=N,ct:=N,bk:=D.nx } σ H1 else D.nx σ H1
def yL (hp:PassesOwn .(100) X.A X.env X.xe)(hc:PT X c tc)(hb:PSs X body tb):PS X (.While c body [] pos) (D6 tc tb):=by
 intro pins s σ H D I h;obtain⟨W,⟨m0,w0⟩,turn⟩:=h;refine wpAny_While (codeAny_whileLoop (λn s'=>∃σ' H',Inv X pins σ' H' s'/\W n σ' H') ?_ m0 ⟨σ,H,I,w0⟩);rintro n s1 ⟨σ1,H1,I1,w1⟩;refine NH hp (thn (hc pins s1 σ1 H1 _ I1 (turn n σ1 H1 w1)) λb s2 ⟨H2,I2,q2⟩=>?_);cases b with
 | true=>
   obtain⟨N,hN,q2⟩:=q2;rw[if_pos rfl];refine NH hp (thn (hb pins s2 σ1 H2 _ I2 q2) λf s3 q3=>?_);cases f with
   | next=>obtain⟨σ3,H3,I3,n3⟩:=q3;obtain⟨m',hm,w3⟩:=hN σ3 H3 n3;exact⟨m',hm,σ3,H3,I3,w3⟩
   | cont=>obtain⟨σ3,H3,I3,n3⟩:=q3;obtain⟨m',hm,w3⟩:=hN σ3 H3 n3;exact⟨m',hm,σ3,H3,I3,w3⟩
   | brk=>exact q3
   | ret v=>exact q3
 | false=>rw[if_neg Ij];exact O8 ⟨σ1,H2,I2,q2⟩
end
structure It where
 go:Nat->Hp->Prop
 yld:Nat->Hp->V->Hp->Prop
 stop:Nat->Hp->Prop
def nu (X:Cx)(pins:List .(104))(H:Hp)(b:Addr):Prop:=H b=none/\b≠X.env.locals/\b∉X.fs/\(b∈X.ex\/X.s₀.heap.objs.size<=b)/\(∀x c,X.env.cells.lookup x=some c->c≠b)/\∀p∈X.pn++pins,p.1≠b
def Inv.kG {X:Cx}{pins:List .(104)}{σ:St}{H H':Hp}{s:Da}{b:Addr}(I:Inv X pins σ H s)(hb:s.heap.objs.size<=b)(hn:H' b=none):nu X pins H' b:=by
 refine⟨hn,Nat.ne_of_gt (Ih I.lt hb),I.HJ hb,.inr (Il I.sz hb),λx c e z=>?_,λp hp z=>?_⟩
 . obtain⟨v,q⟩:=I.cell x c e;exact absurd (Ih q.lt (by rw[z]; exact hb)) .(11)
 . exact absurd (Ih (HY (I.pin p hp).1) (by rw[z]; exact hb)) .(11)
def HI (X:Cx):Prop:=∃h o u vs,X.A.handled=some (.ref h)/\X.H₀ h=some (.frz o u)/\o.data=.fields vs/\vs[2]?=some .none
def Ck (kd:Bool)(X:Cx):Prop:=X.calm=true\/(kd=true/\HI X)
def Ck.calm (h:Ck false X):X.calm=true:=h.resolve_right λz=>nomatch z.1
structure Turn (P:FB)(w:World)(K:fw)(kd:Bool)(tg:Expr)(J:It)(fp:List Addr)(it:Addr)(tn:Nat->Heap->Prop):Prop where
 mem:it∈fp
 obj:∀i h,tn i h->∀b∈fp,∃o,h.get? b=some o/\∀v,o.data≠.cell v
 keep:∀i h h',tn i h->(∀b∈fp,∀o,h.get? b=some o->h'.get? b=some o)->tn i h'
 item:∀(X:Cx),X.prog=P->X.w=w->X.K=K->Ck kd X->∀(i:Nat) (pins:List .(104)) (s:Da) (σ:St) (H:Hp) (E:Value->Da->Prop),Inv X pins σ H s->(∀b∈fp,nu X pins H b)->tn i s.heap->J.go i H ->
   wpAny (model P w) X.A (O4 (.ref it)) (λr s1=>∃u,r=some u /\
     wpAny (model P w) X.A (O9 tg (.ref it) u) (λ_ s2=>∃x H',Inv X pins σ H' s2/\RelV x u/\J.yld i H x H'/\tn (i+1) s2.heap/\∀b∈fp,H' b=none) E s1) E s
 done:∀(X:Cx),X.prog=P->X.w=w->X.K=K->Ck kd X->∀(i:Nat) (pins:List .(104)) (s:Da) (σ:St) (H:Hp) (E:Value->Da->Prop),Inv X pins σ H s->(∀b∈fp,nu X pins H b)->tn i s.heap->J.stop i H ->
   wpAny (model P w) X.A (O4 (.ref it)) (λr s1=>r=none/\Inv X pins σ H s1) E s
 self:∀(A:GT) (i:Nat) (s:Da) (Q:Value->Da->Prop) (E:Value->Da->Prop),tn i s.heap->Q (.ref it) s->wpAny (model P w) A (pyIter (.ref it)) Q E s
abbrev TI:=St->Hp->(It->Hp->Prop)->Prop
def PIE (X:Cx)(pins:List .(104))(σ:St)(tg:Expr)(R:It->Hp->Prop)(itv:Value)(s2:Da):Prop:=∃(kd:Bool) (it:Addr) (fp:List Addr) (tn:Nat->Heap->Prop) (J:It) (H':Hp),itv=.ref it/\Inv X pins σ H' s2/\Ck kd X/\Turn X.prog X.w X.K kd tg J fp it tn/\tn 0 s2.heap/\(∀b∈fp,nu X pins H' b)/\R J H'
def PI (X:Cx)(tg iter:Expr)(wi:TI):Prop:=
 ∀(pins:List .(104)) (s:Da) (σ:St) (H:Hp) (R:It->Hp->Prop),Inv X pins σ H s->wi σ H R ->
   wpAny .(100) X.A (eval iter X.env) (λv s1=>wpAny .(100) X.A (pyIter v) (PIE X pins σ tg R) X.xe s1) X.xe s
def kg (ho:s.heap.get? it=some o)(hc:o.cls=.type n)(hd:o.data=.fields vs)
   (hn:["enumerate","zip","dict_itemiterator","dict_reverseitemiterator","odict_iterator","itertools.zip_longest","itertools.pairwise"].contains n=false) (hQ:Q () s):wpAny M A (O9 tg (.ref it) u) Q E s:=by
 unfold O9
 cases tg <;> first
   | exact Fk hQ
   | (cases u <;> first
       | exact Fk hQ
       | (refine AC (wpAny_load ho ?_)
          rw[hc,hd];show wpAny M A (if (["enumerate","zip","dict_itemiterator","dict_reverseitemiterator","odict_iterator","itertools.zip_longest","itertools.pairwise"].contains n&&vs[0]?==some (NT _))=true then _ else _) Q E s;rw[if_neg (by intro h; rw[hn,Bool.false_and]at h; cases h)];exact Fk hQ))
noncomputable def Itl (K:fw)(a:Addr):It:=⟨λi H=>∃xs x,SqL K H a xs/\xs[i]?=some x,λi H x H'=>H'=H/\∀xs,SqL K H a xs->xs[i]?=some x,λi H=>∃xs,SqL K H a xs/\xs.length<=i⟩
noncomputable def Itt (K:fw)(a:Addr):It:=⟨λi H=>∃xs x,SqT K H a xs/\xs[i]?=some x,λi H x H'=>H'=H/\∀xs,SqT K H a xs->xs[i]?=some x,λi H=>∃xs,SqT K H a xs/\xs.length<=i⟩
noncomputable def Itr (lo:Int)(n:Nat):It:=⟨λi _=>i<n,λi H x H'=>H'=H/\x=.int (lo+i),λi _=>n<=i⟩
def v7 {P:FB}{w:World}{K:fw}{tg:Expr}(a it:Addr):Turn P w K false tg (Itl K a) [it] it (λi h=>h.IsListIter it a i) where
 mem:=by simp
 obj:=λi h st b hb=>by
   have e:b=it:=by simpa using hb
   subst e;obtain⟨o,e,c,d⟩:=st;exact⟨o,e,λv z=>by rw[d]at z; cases z⟩
 keep:=λi h h' st k=>st.at λo e=>k it .(4) o e
 item:=by intro X hP hw hK hc i pins s σ H E I hf st hg;subst hP hw hK;obtain⟨xs,x,hq,hx⟩:=hg;obtain⟨its,rv,p,hz⟩:=I.list hq;obtain⟨u,hu,ru⟩:=rv.get hx;obtain⟨f0,f1,f2,f3,f4,f5⟩:=hf it .(4);refine wpAny_pyNext_list_item st p.isList (x:=u) (by simpa using hu) λh' st' sb=>?_;have I1:Inv X pins σ H { s with heap:=h' }:=I.turned (t':=s.toks) (λb o hb e=>(sb.2 b hb).trans e) f0 f1 f3 f4 f5;obtain⟨o,e,c,d⟩:=id st';exact⟨u,rfl,kg (s:={ s with heap:=h' }) e c d .(2) ⟨x,H,I1,ru,⟨rfl,λys hy=>by rw[I.gU hy hq]; exact hx⟩,st',λb hb=>(hf b hb).1⟩⟩
 done:=by intro X hP hw hK hc i pins s σ H E I hf st hg;subst hP hw hK;obtain⟨xs,hq,hx⟩:=hg;obtain⟨its,rv,p,hz⟩:=I.list hq;obtain⟨f0,f1,f2,f3,f4,f5⟩:=hf it .(4);have hl:=rv.length;exact wpAny_pyNext_list_end (I.ok.hd hc.calm) st p.isList .(13) λh' eb=>⟨rfl,I.turned (t':=s.toks) (λb o hb e=>eb b o hb e) f0 f1 f3 f4 f5⟩
 self:=λ_ _ _ _ _ st h=>wpAny_pyIter_listiter st h
def tJ {P:FB}{w:World}{K:fw}{tg:Expr}(a it:Addr):Turn P w K false tg (Itt K a) [it] it (λi h=>h.IsTupleIter it a i) where
 mem:=by simp
 obj:=λi h st b hb=>by
   have e:b=it:=by simpa using hb
   subst e;obtain⟨o,e,c,d⟩:=st;exact⟨o,e,λv z=>by rw[d]at z; cases z⟩
 keep:=λi h h' st k=>st.at λo e=>k it .(4) o e
 item:=by intro X hP hw hK hc i pins s σ H E I hf st hg;subst hP hw hK;obtain⟨xs,x,hq,hx⟩:=hg;obtain⟨its,rv,p,hz⟩:=I.tuple hq;obtain⟨u,hu,ru⟩:=rv.get hx;obtain⟨f0,f1,f2,f3,f4,f5⟩:=hf it .(4);refine wpAny_pyNext_tuple_item st (show s.heap.IsTuple a its.toArray from p) (x:=u) (by simpa using hu) λh' st' sb=>?_;have I1:Inv X pins σ H { s with heap:=h' }:=I.turned (t':=s.toks) (λb o hb e=>(sb.2 b hb).trans e) f0 f1 f3 f4 f5;obtain⟨o,e,c,d⟩:=id st';exact⟨u,rfl,kg (s:={ s with heap:=h' }) e c d .(2) ⟨x,H,I1,ru,⟨rfl,λys hy=>by rw[I.wO hy hq]; exact hx⟩,st',λb hb=>(hf b hb).1⟩⟩
 done:=by intro X hP hw hK hc i pins s σ H E I hf st hg;subst hP hw hK;obtain⟨xs,hq,hx⟩:=hg;obtain⟨its,rv,p,hz⟩:=I.tuple hq;obtain⟨f0,f1,f2,f3,f4,f5⟩:=hf it .(4);have hl:=rv.length;exact wpAny_pyNext_tuple_end (I.ok.hd hc.calm) st (show s.heap.IsTuple a its.toArray from p) .(13) λh' eb=>⟨rfl,I.turned (t':=s.toks) (λb o hb e=>eb b o hb e) f0 f1 f3 f4 f5⟩
 self:=λ_ _ _ _ _ st h=>wpAny_pyIter_tupleiter st h
def sC {P:FB}{w:World}{K:fw}{tg:Expr}(it:Addr)(lo:Int)(n:Nat):Turn P w K true tg (Itr lo n) [it] it (λi h=>NR h it (lo+(i:Nat)*1) ((n:Int)-(i:Nat)) 1) where
 mem:=by simp
 obj:=λi h st b hb=>by
   have e:b=it:=by simpa using hb
   subst e
   exact⟨_,st,λv z=>by
     have z':Data.fields _=Data.cell v:=z;cases z'⟩
 keep:=λi h h' st k=>k it .(4) _ st
 item:=by
   intro X hP hw hK hc i pins s σ H E I hf st hg;subst hP hw hK;obtain⟨f0,f1,f2,f3,f4,f5⟩:=hf it .(4);refine wpAny_pyNext_range_item st (by have:i<n:=hg; omega) λh' st0 sb=>?_
   have st':NR h' it (lo+((i+1:Nat):Int)*1) ((n:Int)-((i+1:Nat):Int)) 1:=by
     have e1:lo+((i+1:Nat):Int)*1=lo+(i:Nat)*1+1:=(by omega);have e2:(n:Int)-((i+1:Nat):Int)=(n:Int)-(i:Nat)-1:=(by omega);rw[e1,e2]; exact st0
   have I1:Inv X pins σ H { s with heap:=h',toks:=s.toks+1 }:=I.turned (λb o hb e=>(sb.2 b hb).trans e) f0 f1 f3 f4 f5;refine⟨_,rfl,kg (s:={ s with heap:=h',toks:=s.toks+1 }) (n:="range_iterator") st' rfl rfl .(2) ⟨.int (lo+i),H,I1,⟨s.toks,?_⟩,⟨rfl,rfl⟩,st',λb hb=>(hf b hb).1⟩⟩;rw[Int.mul_one]
 done:=by
   intro X hP hw hK hc i pins s σ H E I hf st hg;subst hP hw hK;obtain⟨f0,f1,f2,f3,f4,f5⟩:=hf it .(4);rcases hc with hc | ⟨_,q,o,u,vs,e1,e2,e3,e4⟩
   . exact wpAny_pyNext_range_end (I.ok.hd hc) st (by have:n<=i:=hg; omega) λh' eb=>⟨rfl,I.turned (t':=s.toks) (λb o hb e=>eb b o hb e) f0 f1 f3 f4 f5⟩
   . have e5:=I.hok q _ (I.base.frzs q o u e2);exact Hx.tu e1 e5.1 e3 e4 st (by have:n<=i:=hg; omega) λh' eb=>⟨rfl,I.turned (t':=s.toks) (λb o hb e=>eb b o hb e) f0 f1 f3 f4 f5⟩
 self:=λ_ _ _ _ _ st h=>NS st h
section
variable {X:Cx}{tg:Expr}
def Fq (K:fw)(tl:TE):TI:=λσ H R=>tl σ H λx H1=>∃a,x=.ref a/\(∃xs,SqL K H1 a xs)/\R (Itl K a) H1
def Hb (K:fw)(tl:TE):TI:=λσ H R=>tl σ H λx H1=>∃a,x=.ref a/\(∃xs,SqT K H1 a xs)/\R (Itt K a) H1
def vN (hc:X.calm=true)(hl:PE X l tl):PI X tg l (Fq X.K tl):=by
 intro pins s σ H R I h;refine thn (hl pins s σ H _ I h) λv s1 ⟨x,H1,I1,r1,q1⟩=>?_;obtain⟨a,e,⟨xs,hq⟩,q⟩:=q1;subst e;cases r1;obtain⟨its,rv,p,hz⟩:=I1.list hq;refine wpAny_pyIter_list p.isList ?_;refine⟨false,s1.heap.objs.size,[s1.heap.objs.size],_,_,H1,rfl,I1.kept (t':=s1.toks) λb o e=>pq _ e,.inl hc,v7 a _,⟨_,Ib _ rfl,rfl,rfl⟩,λb hb=>?_,q⟩;have e:b=s1.heap.objs.size:=by simpa using hb
 subst e;exact I1.kG .(3) (I1.hok.fresh .(3))
def EU (hc:X.calm=true)(hl:PE X l tl):PI X tg l (Hb X.K tl):=by
 intro pins s σ H R I h;refine thn (hl pins s σ H _ I h) λv s1 ⟨x,H1,I1,r1,q1⟩=>?_;obtain⟨a,e,⟨xs,hq⟩,q⟩:=q1;subst e;cases r1;obtain⟨its,rv,p,hz⟩:=I1.tuple hq;refine wpAny_pyIter_tuple (show s1.heap.IsTuple a its.toArray from p) ?_;refine⟨false,s1.heap.objs.size,[s1.heap.objs.size],_,_,H1,rfl,I1.kept (t':=s1.toks) λb o e=>pq _ e,.inl hc,tJ a _,⟨_,Ib _ rfl,rfl,rfl⟩,λb hb=>?_,q⟩;have e:b=s1.heap.objs.size:=by simpa using hb
 subst e;exact I1.kG .(3) (I1.hok.fresh .(3))
def qK {pins:List .(104)}{σ:St}{H:Hp}{s:Da}{R:It->Hp->Prop}{E:Value->Da->Prop}{lo hi:Int}{t u v:Tok}(hc:Ck true X)(I:Inv X pins σ H s)(h1:-(2^62)<=lo)(h2:lo<2^62)(h3:-(2^62)<=hi)(h4:hi<2^62)
   (q:R (Itr lo (hi-lo).toNat) H):wpAny .(100) X.A (pyIter .(145)) (PIE X pins σ tg R) E { s with heap:=s.heap.push { cls:=.type "range",data:=.fields #[.int lo t,.int hi u,.int 1 v] },toks:=tk }:=by
 refine wpAny_pyIter_range (Nv ..) (small_one h1 h2 h3 h4) ?_;have I1:Inv X pins σ H { s with heap:=s.heap.push { cls:=.type "range",data:=.fields #[.int lo t,.int hi u,.int 1 v] },toks:=tk }:=I.kept λb o e=>pq _ e
 refine⟨true,(s.heap.push { cls:=.type "range",data:=.fields #[.int lo t,.int hi u,.int 1 v] }).objs.size,[(s.heap.push { cls:=.type "range",data:=.fields #[.int lo t,.int hi u,.int 1 v] }).objs.size],_,_,H,rfl,
   I1.kept (t':=tk) λb o e=>pq _ e,hc,sC _ lo (hi-lo).toNat,?_,λb hb=>?_,q⟩
 . have e1:lo+((0:Nat):Int)*1=lo:=by simp
   have e2:(((hi-lo).toNat:Nat):Int)-((0:Nat):Int)=Mv lo hi 1:=by rw[rangeSize_one]; split <;> omega
   show NR _ _ (lo+((0:Nat):Int)*1) ((((hi-lo).toNat:Nat):Int)-((0:Nat):Int)) 1;rw[e1,e2];exact Ib _ rfl
 . have e:b=(s.heap.push { cls:=.type "range",data:=.fields #[.int lo t,.int hi u,.int 1 v] }).objs.size:=by simpa using hb
   subst e;exact I1.kG .(3) (I1.hok.fresh .(3))
def F2 (ta:TA):TI:=λσ H R=>ta σ H λvs H1=>∃j:Int,vs=[.int j]/\-(2^62)<=j/\j<2^62/\R (Itr 0 j.toNat) H1
def F0 (ta:TA):TI:=λσ H R=>ta σ H λvs H1=>∃i j:Int,vs=[.int i,.int j]/\(-(2^62)<=i/\i<2^62/\-(2^62)<=j/\j<2^62)/\R (Itr i (j-i).toNat) H1
def wj {a:Expr}{ta:TA}{p pos:Pos}(hc:Ck true X)(hg:Gl X "range")(hm:X.mg "range" = none)(ha:PA X [a] ta)(hs:Do [a] X.env=[.(121)]:=by rfl):PI X tg (.Call (.Name "range" p) [a] [] pos) (F2 ta):=by
 intro pins s σ H R I h;refine Call_ (dM I hg hm boot_range (IP (thn .(133) λus s1 ⟨vs,H1,I1,r1,q1⟩=>?_) hs rfl));obtain⟨j,e,q1,q2,q⟩:=q1;subst e;cases r1 with
 | cons r rr=>cases rr;obtain⟨t,rfl⟩:=r;exact call_range_1 (qK hc I1 .(0) .(0) q1 q2 (by simpa using q))
def wH {a b:Expr}{ta:TA}{p pos:Pos}(hc:Ck true X)(hg:Gl X "range")(hm:X.mg "range" = none)(ha:PA X [a,b] ta)(hs:Do [a,b] X.env=[.(121),(false,eval b X.env)]:=by rfl)(hs2:Do [b] X.env=[(false,eval b X.env)]:=by rfl):
   PI X tg (.Call (.Name "range" p) [a,b] [] pos) (F0 ta):=by
 intro pins s σ H R I h;refine Call_ (dM I hg hm boot_range (IP (thn .(133) λus s1 ⟨vs,H1,I1,r1,q1⟩=>?_) (by rw[hs,hs2]) (by rw[hs2]; rfl)));obtain⟨i,j,e,⟨q1,q2,q3,q4⟩,q⟩:=q1;subst e;cases r1 with
 | cons r rr=>
   cases rr with
   | cons r' rr=>cases rr;obtain⟨t,rfl⟩:=r;obtain⟨t',rfl⟩:=r';exact call_range_2 (qK hc I1 q1 q2 q3 q4 q)
def Hu (wi:TI)(g:TG)(tb:TS):TS:=λD σ H=>wi σ H λJ H1=>∃W:Nat->Nat->St->Hp->Prop,(∃m,W 0 m σ H1)/\∀i m σ H,W i m σ H ->
 (J.stop i H/\D.nx σ H)\/(J.go i H/\∃N:St->Hp->Prop,(∀σ' H',N σ' H'->∃m',m'<m/\W (i+1) m' σ' H')/\∀x H',J.yld i H x H'->g x σ H' λσ2 H2=>tb { D with nx:=N,ct:=N,bk:=D.nx } σ2 H2)
noncomputable def iT (fp:List Addr)(h:Heap):List .(104):=fp.filterMap λb=>(h.get? b).map λo=>(b,o)
def cC (hb:b∈fp)(e:h.get? b=some o):(b,o)∈iT fp h:=List.mem_filterMap.mpr ⟨b,hb,by rw[e]; rfl⟩
def wq (hp:p∈iT fp h):p.1∈fp/\h.get? p.1=some p.2:=by
 obtain⟨b,hb,e⟩:=List.mem_filterMap.mp hp;cases q:h.get? b with
 | none=>rw[q]at e; cases e
 | some o=>rw[q]at e;have e':(b,o)=p:=IM e;subst e';exact⟨hb,q⟩
def Inv.pinned {pins:List .(104)}{σ:St}{s:Da}(I:Inv X pins σ H s)(hf:∀b∈fp,nu X pins H b)(ho:∀b∈fp,∃o,s.heap.get? b=some o/\∀v,o.data≠.cell v):Inv X (pins++iT fp s.heap) σ H s:=I.uv λp hp=>(vp.mp hp).elim (λz=>I.pin p (x3 _ z)) λz=>by obtain⟨hb,e⟩:=wq z;obtain⟨f0,f1,f2,_⟩:=hf p.1 hb;obtain⟨o,e',d⟩:=ho p.1 hb;rw[e]at e'; cases e';exact⟨e,f0,f1,f2,d⟩
def Inv.fy {pins pl:List .(104)}{σ:St}{s:Da}(I:Inv X (pins++pl) σ H s):Inv X pins σ H s:=I.uv λp hp=>I.pin p (x3 _ (Ie _ hp))
def t9 {iter:Expr}{body:List Stmt}{wi:TI}{g:TG}{tb:TS}{pos:Pos}(hp:PassesOwn .(100) X.A X.env X.xe)(hi:PI X tg iter wi)(hg:PG X tg g)(hb:PSs X body tb)
   (hs:∀x,foldedSetIterable iter X.env x=pure x:=by intro _; rfl):PS X (.For tg iter body [] pos) (Hu wi g tb):=by
 intro pins s σ H D I h;refine wpAny_For (thn (hi pins s σ H _ I h) λv s1 h1=>thn h1 λitv s2 h2=>?_) hs;obtain⟨kd,it,fp,tn,J,H2,e,I2,hc,T,st2,f2,W,⟨m0,w0⟩,turn⟩:=h2;subst e;have stat:∀{H':Hp},(∀b∈fp,H' b=none)->∀b∈fp,nu X pins H' b:=λhn b hb=>⟨hn b hb,(f2 b hb).2⟩;refine codeAny_forLoop_any (λn s'=>∃i σ' H',Inv X pins σ' H' s'/\tn i s'.heap/\(∀b∈fp,H' b=none)/\W i n σ' H') ?_ m0 ⟨0,σ,H2,I2,st2,λb hb=>(f2 b hb).1,w0⟩;rintro n s3 ⟨i,σ3,H3,I3,st3,fr3,w3⟩;rcases turn i n σ3 H3 w3 with ⟨stop,qn⟩ | ⟨go,N,hN,step⟩
 . refine NH hp (thn (T.done X rfl rfl rfl hc i pins s3 σ3 H3 X.xe I3 (stat fr3) st3 stop) λr s4 ⟨hr,I4⟩=>?_);subst hr;exact O8 ⟨σ3,H3,I4,qn⟩
 . refine NH hp (thn (T.item X rfl rfl rfl hc i pins s3 σ3 H3 X.xe I3 (stat fr3) st3 go) λr s4 ⟨u,hr,h4⟩=>?_);subst hr;refine NH hp (thn h4 λ_ s5 ⟨x,H5,I5,r5,y5,st5,fr5⟩=>?_);have I5':=I5.pinned (stat fr5) (T.obj _ _ st5);refine NH hp (thn (hg _ s5 σ3 H5 x u _ I5' r5 (step x H5 y5)) λ_ s6 ⟨σ6,H6,I6,q6⟩=>?_);refine NH hp (thn (hb _ s6 σ6 H6 _ I6 q6) λf s7 q7=>?_);have again:∀{σ7:St} {H7:Hp},Inv X (pins++iT fp s5.heap) σ7 H7 s7->N σ7 H7->∃m,m<n/\∃i σ' H',Inv X pins σ' H' s7/\tn i s7.heap/\(∀b∈fp,H' b=none)/\W i m σ' H':=λ{σ7 H7} I7 n7=>by obtain⟨m',hm,w7⟩:=hN σ7 H7 n7;refine⟨m',hm,i+1,σ7,H7,I7.fy,T.keep _ _ _ st5 λb hb o e=>(I7.pin (b,o) (x3 _ (x3 _ (cC hb e)))).1,λb hb=>?_,w7⟩;obtain⟨o,e,d⟩:=T.obj _ _ st5 b hb;exact(I7.pin (b,o) (x3 _ (x3 _ (cC hb e)))).2.1
   cases f with
   | next=>obtain⟨σ7,H7,I7,n7⟩:=q7; exact again I7 n7
   | cont=>obtain⟨σ7,H7,I7,n7⟩:=q7; exact again I7 n7
   | brk=>obtain⟨σ7,H7,I7,q7⟩:=q7; exact⟨σ7,H7,I7.fy,q7⟩
   | ret v=>obtain⟨x7,σ7,H7,I7,r7,q7⟩:=q7; exact⟨x7,σ7,H7,I7.fy,r7,q7⟩
end
abbrev R2:=V->V->Hp->VK->Prop
def OpR (X:Cx)(f:Value->Value->Sem Value)(r:R2):Prop:=
 ∀(pins:List .(104)) (s:Da) (σ:St) (H:Hp) (x y:V) (v u:Value) (Q:VK),Inv X pins σ H s->RelV x v->RelV y u->r x y H Q ->
   wpAny .(100) X.A (f v u) (EP X pins σ Q) X.xe s
def UnR (X:Cx)(f:Value->Sem Value)(r:V->Hp->VK->Prop):Prop:=
 ∀(pins:List .(104)) (s:Da) (σ:St) (H:Hp) (x:V) (v:Value) (Q:VK),Inv X pins σ H s->RelV x v->r x H Q ->
   wpAny .(100) X.A (f v) (EP X pins σ Q) X.xe s
def fH (X:Cx)(f:Value)(r:List V->Hp->VK->Prop):Prop:=
 ∀(pins:List .(104)) (s:Da) (σ:St) (H:Hp) (xs:List V) (us:List Value) (Q:VK),Inv X pins σ H s->Vals xs us->r xs H Q ->
   wpAny .(100) X.A (call f us) (EP X pins σ Q) X.xe s
def tOp (r:R2)(ta tb:TE):TE:=λσ H Q=>ta σ H λx H1=>tb σ H1 λy H2=>r x y H2 Q
def tUn (r:V->Hp->VK->Prop)(ta:TE):TE:=λσ H Q=>ta σ H λx H1=>r x H1 Q
def rI (C:Int->Int->Prop)(g:Int->Int->V):R2:=λx y H Q=>∃i j,x=.int i/\y=.int j/\C i j/\Q (g i j) H
def rI0 (g:Int->Int->V):R2:=λx y H Q=>∃i j,x=.int i/\y=.int j/\Q (g i j) H
def rU (g:Int->V):V->Hp->VK->Prop:=λx H Q=>∃i,x=.int i/\Q (g i) H
section
variable {X:Cx}{a b:Expr}{ta tb:TE}{pos:Pos}
def El (ha:PE X a ta)(hb:PE X b tb){pins:List .(104)}{s:Da}{σ:St}{R:V->V->Hp->Prop}(I:Inv X pins σ H s)
   (h:ta σ H λx H1=>tb σ H1 λy H2=>R x y H2) {Q:Value->Da->Prop} {f:Value->Value->Sem Value}
   (hf:∀v u s2 x y H2,Inv X pins σ H2 s2->RelV x v->RelV y u->R x y H2->wpAny .(100) X.A (f v u) Q X.xe s2) :
   wpAny .(100) X.A (eval a X.env) (λv s₁=>wpAny .(100) X.A (eval b X.env) (λu s₂=>wpAny .(100) X.A (f v u) Q X.xe s₂) X.xe s₁) X.xe s:=by
 refine thn .(134) λv s1 ⟨x,H1,I1,r1,q1⟩=>?_;refine thn (hb pins s1 σ H1 _ I1 q1) λu s2 ⟨y,H2,I2,r2,q2⟩=>?_;exact hf v u s2 x y H2 I2 r1 r2 q2
def yV (ho:OpR X (KB op) r)(ha:PE X a ta)(hb:PE X b tb):PE X (.BinOp a op b pos) (tOp r ta tb):=by intro pins s σ H Q I h;exact wpAny_BinOp (El ha hb I h λv u s2 x y H2 I2 rx ry q=>ho pins s2 σ H2 x y v u Q I2 rx ry q)
def FD (ho:UnR X (unaryOp op) r)(ha:PE X a ta):PE X (.UnaryOp op a pos) (tUn r ta):=by intro pins s σ H Q I h;exact UnaryOp_ (thn .(134) λv s1 ⟨x,H1,I1,r1,q1⟩=>ho pins s1 σ H1 x v Q I1 r1 q1)
def opI {f:Value->Value->Sem Value}{C:Int->Int->Prop}{g:Int->Int->Int}
   (rule:∀(i j:Int) (t u:Tok) (s:Da) (Q:Value->Da->Prop) (E:Value->Da->Prop),C i j->Q (.int (g i j) s.toks) { s with toks:=s.toks+1 }->wpAny .(100) X.A (f (.int i t) (.int j u)) Q E s) :
   OpR X f (rI C λi j=>.int (g i j)):=by
 intro pins s σ H x y v u Q I rx ry h;obtain⟨i,j,rfl,rfl,hc,q⟩:=h;obtain⟨t,rfl⟩:=rx;obtain⟨t',rfl⟩:=ry;exact rule i j t t' s _ _ hc ⟨.int (g i j),H,I.tok _,⟨_,rfl⟩,q⟩
def Ag {f:Value->Value->Sem Value}{g:Int->Int->Int}
   (rule:∀(i j:Int) (t u:Tok) (s:Da) (Q:Value->Da->Prop) (E:Value->Da->Prop),Q (.int (g i j) s.toks) { s with toks:=s.toks+1 }->wpAny .(100) X.A (f (.int i t) (.int j u)) Q E s) :
   OpR X f (rI0 λi j=>.int (g i j)):=by
 intro pins s σ H x y v u Q I rx ry h;obtain⟨i,j,rfl,rfl,q⟩:=h;obtain⟨t,rfl⟩:=rx;obtain⟨t',rfl⟩:=ry;exact rule i j t t' s _ _ ⟨.int (g i j),H,I.tok _,⟨_,rfl⟩,q⟩
def Aw {f:Value->Value->Sem Value}{g:Int->Int->Bool}
   (rule:∀(i j:Int) (t u:Tok) (s:Da) (Q:Value->Da->Prop) (E:Value->Da->Prop),Q (.bool (g i j)) s->wpAny .(100) X.A (f (.int i t) (.int j u)) Q E s) :
   OpR X f (rI0 λi j=>.bl (g i j)):=by
 intro pins s σ H x y v u Q I rx ry h;obtain⟨i,j,rfl,rfl,q⟩:=h;obtain⟨t,rfl⟩:=rx;obtain⟨t',rfl⟩:=ry;exact rule i j t t' s _ _ ⟨.bl (g i j),H,I,rfl,q⟩
def AV (i j:Int):Prop:=0<=j/\j<=1000000/\i.natAbs<2^64
def sF (k:Nat):(0:Int)<=2^k:=by rw[two_pow_cast];exact KQ _
def Di:OpR X (KB .Add) (rI0 λi j=>.int (i+j)):=Ag λ_ _ _ _ _ _ _ q=>add_int q
def E8:OpR X (KB .Sub) (rI0 λi j=>.int (i-j)):=Ag λ_ _ _ _ _ _ _ q=>sub_int q
def Bp:OpR X (KB .Mod) (rI (λ_ j=>j≠0) λi j=>.int (i.fmod j)):=opI λ_ _ _ _ _ _ _ hc q=>mod_int' hc q
def D5:OpR X (KB .Pow) (rI AV λi j=>.int (i^j.toNat)):=opI λ_ _ _ _ _ _ _ hc q=>pow_int_small hc.1 hc.2.1 hc.2.2 q
def E6:OpR X (KB .LShift) (rI AV λi j=>.int (i*2^j.toNat)):=opI λ_ _ _ _ _ _ _ hc q=>lshift_int_small hc.1 hc.2.1 hc.2.2 q
def Dl:OpR X (KB .RShift) (rI (λ_ j=>0<=j) λi j=>.int (i/2^j.toNat)):=opI λi j _ _ _ _ _ hc q=>rshift_int hc (by rw[JH i (sF _)]; exact q)
def ER:OpR X (KB .BitAnd) (rI0 λi j=>.int (MP i j)):=Ag λ_ _ _ _ _ _ _ q=>and_int q
def Gy:OpR X (KB .BitOr) (rI0 λi j=>.int (M5 i j)):=Ag λ_ _ _ _ _ _ _ q=>or_int q
def unI {f:Value->Sem Value}{g:Int->Int}
   (rule:∀(i:Int) (t:Tok) (s:Da) (Q:Value->Da->Prop) (E:Value->Da->Prop),Q (.int (g i) s.toks) { s with toks:=s.toks+1 }->wpAny .(100) X.A (f (.int i t)) Q E s) :
   UnR X f (rU λi=>.int (g i)):=by
 intro pins s σ H x v Q I rx h;obtain⟨i,rfl,q⟩:=h;obtain⟨t,rfl⟩:=rx;exact rule i t s _ _ ⟨.int (g i),H,I.tok _,⟨_,rfl⟩,q⟩
def EC:UnR X (unaryOp .USub) (rU λi=>.int (-i)):=unI λ_ _ _ _ _ q=>neg_int q
end
noncomputable def GA:V->V->Bool
 | .non,.non=>true | .non,.int _=>true | .int _,.non=>true | .non,.bl _=>true | .bl _,.non=>true | .non,.str _=>true | .str _,.non=>true
 | .int _,.int _=>true | .bl _,.bl _=>true | .str _,.str _=>true | .byt _,.byt _=>true
 | .int _,.str _=>true | .str _,.int _=>true | .bl _,.str _=>true | .str _,.bl _=>true
 | _,_=>false
def rEq:R2:=λx y H Q=>GA x y=true/\Q (.bl (decide (x=y))) H
def rNe:R2:=λx y H Q=>GA x y=true/\Q (.bl (!decide (x=y))) H
def vM :decide (V.int i=V.int j)=(i==j):=by rw[J7];simp
def zG :decide (V.bl i=V.bl j)=(i==j):=by rw[J7];simp
def uw :decide (V.str i=V.str j)=(i==j):=by rw[J7];simp
def ui :decide (V.byt i=V.byt j)=(i.toList==j.toList):=by rw[J7];cases i;cases j;simp
section
variable {X:Cx}{a b c:Expr}{ta tb tc:TE}{pos:Pos}
def a9 {pins:List .(104)}{σ:St}{s:Da}{Q:VK}(I:Inv X pins σ H s)(q:Q (.bl k) H)(e:k=k'):EP X pins σ Q (.bool k') s:=by subst e;exact⟨.bl k,H,I,rfl,q⟩
def Cj:OpR X (GE .Eq) rEq:=by
 intro pins s σ H x y v u Q I rx ry h;obtain⟨hs,q⟩:=h;cases x with
 | non=>
   cases rx;cases y with
   | non=>cases ry; exact PySem.EqNone.eq_none_none .(139)
   | bl j=>cases ry; exact PySem.EqNone.eq_none_bool .(139)
   | int j=>obtain⟨t',rfl⟩:=ry; exact PySem.EqNone.eq_none_int .(139)
   | str j=>obtain⟨t',rfl⟩:=ry; exact PySem.EqNone.eq_none_str .(139)
   | _=>exact absurd (show false=true from hs) Ij
 | bl i=>
   cases rx;cases y with
   | non=>cases ry; exact PySem.EqNone.eq_bool_none .(139)
   | bl j=>cases ry; exact eq_bool (a9 I q zG)
   | str j=>obtain⟨t',rfl⟩:=ry; exact PySem.EqMixed.eq_bool_str .(139)
   | _=>exact absurd (show false=true from hs) Ij
 | int i=>
   obtain⟨t,rfl⟩:=rx;cases y with
   | non=>cases ry; exact PySem.EqNone.eq_int_none .(139)
   | int j=>obtain⟨t',rfl⟩:=ry; exact eq_int (a9 I q vM)
   | str j=>obtain⟨t',rfl⟩:=ry; exact PySem.EqMixed.eq_int_str .(139)
   | _=>exact absurd (show false=true from hs) Ij
 | str i=>
   obtain⟨t,rfl⟩:=rx;cases y with
   | non=>cases ry; exact PySem.EqNone.eq_str_none .(139)
   | bl j=>cases ry; exact PySem.EqMixed.eq_str_bool .(139)
   | int j=>obtain⟨t',rfl⟩:=ry; exact PySem.EqMixed.eq_str_int .(139)
   | str j=>obtain⟨t',rfl⟩:=ry; exact eq_str (a9 I q uw)
   | _=>exact absurd (show false=true from hs) Ij
 | byt i=>
   obtain⟨t,rfl⟩:=rx;cases y with
   | byt j=>obtain⟨t',rfl⟩:=ry; exact PySem.W.eq_bytes (a9 I q ui)
   | _=>exact absurd (show false=true from hs) Ij
 | _=>cases y <;> exact absurd (show false=true from hs) Ij
def Cr:OpR X (GE .NotEq) rNe:=by
 intro pins s σ H x y v u Q I rx ry h;obtain⟨hs,q⟩:=h;cases x with
 | non=>
   cases rx;cases y with
   | non=>cases ry; exact PySem.EqNone.ne_none_none .(139)
   | bl j=>cases ry; exact PySem.EqNone.ne_none_bool .(139)
   | int j=>obtain⟨t',rfl⟩:=ry; exact PySem.EqNone.ne_none_int .(139)
   | str j=>obtain⟨t',rfl⟩:=ry; exact PySem.EqNone.ne_none_str .(139)
   | _=>exact absurd (show false=true from hs) Ij
 | bl i=>
   cases rx;cases y with
   | non=>cases ry; exact PySem.EqNone.ne_bool_none .(139)
   | bl j=>cases ry; exact ne_bool (a9 I q (congrArg not zG))
   | str j=>obtain⟨t',rfl⟩:=ry; exact PySem.EqMixed.ne_bool_str .(139)
   | _=>exact absurd (show false=true from hs) Ij
 | int i=>
   obtain⟨t,rfl⟩:=rx;cases y with
   | non=>cases ry; exact PySem.EqNone.ne_int_none .(139)
   | int j=>obtain⟨t',rfl⟩:=ry; exact ne_int (a9 I q (congrArg not vM))
   | str j=>obtain⟨t',rfl⟩:=ry; exact PySem.EqMixed.ne_int_str .(139)
   | _=>exact absurd (show false=true from hs) Ij
 | str i=>
   obtain⟨t,rfl⟩:=rx;cases y with
   | non=>cases ry; exact PySem.EqNone.ne_str_none .(139)
   | bl j=>cases ry; exact PySem.EqMixed.ne_str_bool .(139)
   | int j=>obtain⟨t',rfl⟩:=ry; exact PySem.EqMixed.ne_str_int .(139)
   | str j=>obtain⟨t',rfl⟩:=ry; exact ne_str (a9 I q (congrArg not uw))
   | _=>exact absurd (show false=true from hs) Ij
 | byt i=>
   obtain⟨t,rfl⟩:=rx;cases y with
   | byt j=>obtain⟨t',rfl⟩:=ry; exact PySem.W.ne_bytes (a9 I q (congrArg not ui))
   | _=>exact absurd (show false=true from hs) Ij
 | _=>cases y <;> exact absurd (show false=true from hs) Ij
def Fu:OpR X (GE .Lt) (rI0 λi j=>.bl (decide (i<j))):=Aw λ_ _ _ _ _ _ _ q=>lt_int q
def GR:OpR X (GE .LtE) (rI0 λi j=>.bl (decide (i<=j))):=Aw λ_ _ _ _ _ _ _ q=>le_int q
def FN:OpR X (GE .Gt) (rI0 λi j=>.bl (decide (j<i))):=Aw λ_ _ _ _ _ _ _ q=>gt_int q
def F1:OpR X (GE .GtE) (rI0 λi j=>.bl (decide (j<=i))):=Aw λ_ _ _ _ _ _ _ q=>ge_int q
def Dd:OpR X (GE .Is) (λx y H Q=>y=.non/\Q (.bl (decide (x=.non))) H):=by
 intro pins s σ H x y v u Q I rx ry h;obtain⟨rfl,q⟩:=h;cases ry;refine is_none_gen (a9 I q ?_)
 cases x <;> first
   | (cases rx; rfl)
   | (obtain⟨t,rfl⟩:=rx; rfl)
def Bc:OpR X (GE .IsNot) (λx y H Q=>y=.non/\Q (.bl (!decide (x=.non))) H):=by
 intro pins s σ H x y v u Q I rx ry h;obtain⟨rfl,q⟩:=h;cases ry;refine isnot_none_gen (a9 I q ?_)
 cases x <;> first
   | (cases rx; rfl)
   | (obtain⟨t,rfl⟩:=rx; rfl)
def yx (b:Expr){op:CmpOp}(h:op≠.In:=by decide)(h2:op≠.NotIn:=by decide):NC op b=false:=by
 have e1:(op==CmpOp.In)=false:=by cases op <;> first | rfl | exact absurd rfl h
 have e2:(op==CmpOp.NotIn)=false:=by cases op <;> first | rfl | exact absurd rfl h2
 cases b <;> simp[NC,e1,e2]
def Ai (ho:OpR X (GE op) r)(ha:PE X a ta)(hb:PE X b tb)(hm:NC op b=false):PE X (.Compare a [op] [b] pos) (tOp r ta tb):=by intro pins s σ H Q I h;exact wpAny_Compare1 (El ha hb I h λv u s2 x y H2 I2 rx ry q=>ho pins s2 σ H2 x y v u Q I2 rx ry q) hm
def Cn (t:TE):TT:=λσ H Q=>t σ H λx H'=>∃k,x=.bl k/\Q k H'
def Aq (ho:OpR X (GE op) r)(ha:PE X a ta)(hb:PE X b tb)(hm:NC op b=false):PT X (.Compare a [op] [b] pos) (Cn (tOp r ta tb)):=by
 intro pins s σ H Q I h
 refine wpAny_isTrue_Compare1 (thn .(134) λv s1 ⟨x,H1,I1,r1,q1⟩=>thn (hb pins s1 σ H1 _ I1 q1) λu s2 ⟨y,H2,I2,r2,q2⟩=>
   thn (ho pins s2 σ H2 x y v u _ I2 r1 r2 q2) λc s3 ⟨z,H3,I3,r3,k,e,q3⟩=>?_) hm
 subst e;cases r3;exact N0 ⟨H3,I3,q3⟩
def sJ (r r':R2)(ta tb tc:TE):TE:=λσ H Q=>ta σ H λx H1=>tb σ H1 λy H2=>r x y H2 λz H3=>∃k,z=.bl k /\
 (if k=true then tc σ H3 λw' H4=>r' y w' H4 Q else Q (.bl false) H3)
def yo {op op':CmpOp}{r r':R2}(ho:OpR X (GE op) r)(ho':OpR X (GE op') r')(ha:PE X a ta)(hb:PE X b tb)(hc:PE X c tc)
   (hm:lastMarks [op,op'] [b,c]=false:=by with_unfolding_all rfl):PE X (.Compare a [op,op'] [b,c] pos) (sJ r r' ta tb tc):=by
 intro pins s σ H Q I h
 refine Compare_chain (thn .(134) λv s1 ⟨x,H1,I1,r1,q1⟩=>chain_link (thn (hb pins s1 σ H1 _ I1 q1) λu s2 ⟨y,H2,I2,r2,q2⟩=>
   thn (ho pins s2 σ H2 x y v u _ I2 r1 r2 q2) λd s3 ⟨z,H3,I3,r3,k,e,q3⟩=>?_)) hm
 subst e;cases r3;refine N0 ?_;cases k with
 | false=>exact ite_ff ⟨.bl false,H3,I3,rfl,q3⟩
 | true=>exact ite_tt (chain_last (thn (hc pins s3 σ H3 _ I3 q3) λw' s4 ⟨z',H4,I4,r4,q4⟩=>ho' pins s4 σ H4 y z' u w' Q I4 r2 r4 q4))
def zR {op op':CmpOp}{r r':R2}(ho:OpR X (GE op) r)(ho':OpR X (GE op') r')(ha:PE X a ta)(hb:PE X b tb)(hc:PE X c tc)
   (hm:lastMarks [op,op'] [b,c]=false:=by with_unfolding_all rfl):PT X (.Compare a [op,op'] [b,c] pos) (Cn (sJ r r' ta tb tc)):=by
 intro pins s σ H Q I h
 refine isTrue_chain (thn .(134) λv s1 ⟨x,H1,I1,r1,q1⟩=>test_link (thn (hb pins s1 σ H1 _ I1 q1) λu s2 ⟨y,H2,I2,r2,q2⟩=>
   thn (ho pins s2 σ H2 x y v u _ I2 r1 r2 q2) λd s3 ⟨z,H3,I3,r3,k,e,q3⟩=>?_)) hm
 subst e;cases r3;refine N0 ?_;cases k with
 | false=>obtain⟨k',e',q'⟩:=q3;cases e';exact ite_ff ⟨H3,I3,q'⟩
 | true=>refine ite_tt (test_last (thn (hc pins s3 σ H3 _ I3 q3) λw' s4 ⟨z',H4,I4,r4,q4⟩=>thn (ho' pins s4 σ H4 y z' u w' _ I4 r2 r4 q4) λd' s5 ⟨z2,H5,I5,r5,k2,e2,q5⟩=>?_));subst e2;cases r5;exact N0 ⟨H5,I5,q5⟩
def oY:(sizeLine:Nat)<2^63:=by rw[sizeLine_eq]; decide
def vals1 (r:Vals [x] us):∃u,us=[u]/\RelV x u:=by
 cases r with
 | cons r1 r2=>cases r2; exact⟨_,rfl,r1⟩
def vals2 (r:Vals [x,y] us):∃u w',us=[u,w']/\RelV x u/\RelV y w':=by
 cases r with
 | cons r1 r2=>
   cases r2 with
   | cons r3 r4=>cases r4; exact⟨_,_,rfl,r1,r3⟩
def xO:fH X (.builtin "abs") (λxs H Q=>∃i,xs=[.int i]/\Q (.int (if i<0 then -i else i)) H):=by intro pins s σ H xs us Q I r h;obtain⟨i,rfl,q⟩:=h;obtain⟨u,rfl,t,rfl⟩:=vals1 r;exact call_abs_int λu tk=>⟨.int (if i<0 then -i else i),H,I.tok _,⟨_,rfl⟩,q⟩
def wz (hc:X.calm=true):fH X (.builtin "max") (λxs H Q=>∃i j,xs=[.int i,.int j]/\Q (.int (if j>i then j else i)) H):=by
 intro pins s σ H xs us Q I r h;obtain⟨i,j,rfl,q⟩:=h;obtain⟨u,w',rfl,⟨t,rfl⟩,⟨t',rfl⟩⟩:=vals2 r;refine max_two_ints (I.ok.hd hc) λh' tk k=>⟨_,H,I.kept k,?_,q⟩;by_cases hj:j>i
 . rw[if_pos hj,if_pos hj]; exact⟨_,rfl⟩
 . rw[if_neg hj,if_neg hj]; exact⟨_,rfl⟩
def v9 (hc:X.calm=true):fH X (.builtin "min") (λxs H Q=>∃i j,xs=[.int i,.int j]/\Q (.int (if j<i then j else i)) H):=by
 intro pins s σ H xs us Q I r h;obtain⟨i,j,rfl,q⟩:=h;obtain⟨u,w',rfl,⟨t,rfl⟩,⟨t',rfl⟩⟩:=vals2 r;refine min_two_ints (I.ok.hd hc) λh' tk k=>⟨_,H,I.kept k,?_,q⟩;by_cases hj:j<i
 . rw[if_pos hj,if_pos hj]; exact⟨_,rfl⟩
 . rw[if_neg hj,if_neg hj]; exact⟨_,rfl⟩
def wt:fH X (.type "int") (λxs H Q=>(∃i,xs=[.int i]/\Q (.int i) H)\/∃k,xs=[.bl k]/\Q (.int (if k then 1 else 0)) H):=by
 intro pins s σ H xs us Q I r h;rcases h with ⟨i,rfl,q⟩ | ⟨k,rfl,q⟩
 . obtain⟨u,rfl,t,rfl⟩:=vals1 r;exact call_int_int ⟨.int i,H,I,⟨_,rfl⟩,q⟩
 . obtain⟨u,rfl,r1⟩:=vals1 r;cases r1;exact call_int_bool ⟨.int (if k then 1 else 0),H,I.tok _,⟨_,rfl⟩,q⟩
end
def qE.some_of (r:qE (some v) o):∃u,o=some u/\RelV v u:=by
 cases o with
 | none=>exact(show False from r).elim
 | some u=>exact⟨u,rfl,r⟩
structure gC (k:Nat)(A:GT):Prop where
 hd:A.handled=none
 dp:A.depth+3*k+5<recursionLimit
 un:A.units+16*k+200<cLine
def gC.mono (r:gC k A)(h:j<=k):gC j A:=⟨r.hd,by have:=r.dp; omega,by have:=r.un; omega⟩
def gC.deeper (r:gC (k+1) A)(env:Env):gC k (A.deeper env):=⟨r.hd,by have:=r.dp; show A.depth+1+3*k+5<_; omega,by have:=r.un; show A.units+3+16*k+200<_; omega⟩
def gC.depth (r:gC k A):A.depth<recursionLimit:=by have:=r.dp; omega
def gC.units (r:gC k A):A.units+64<cLine:=by have:=r.un; omega
def G6:TA:=λ_ H Q=>Q [] H
def Fm (ta:TE)(tr:TA):TA:=λσ H Q=>ta σ H λx H1=>tr σ H1 λxs H2=>Q (x::xs) H2
section
variable {X:Cx}{e:Expr}{es:List Expr}{te:TE}{t:TA}{pos:Pos}
def cw:PA X [] G6:=λ_ _ _ _ H Q I h=>Mu ⟨[],H,I,.nil,h⟩
def bh (ha:PE X e te)(hr:PA X es t)(hs:Do (e::es) X.env=.(113)::Do es X.env:=by rfl):PA X (e::es) (Fm te t):=by intro pos pins s σ H Q I h;rw[hs];show wpAny _ _ (spliced (.(113)::KF pos (Do es X.env))) _ _ s;refine Li (thn .(134) λu s1 ⟨x,H1,I1,r1,q1⟩=>?_);exact thn (hr pos pins s1 σ H1 _ I1 q1) λus s2 ⟨xs,H2,I2,r2,q2⟩=>⟨x::xs,H2,I2,.cons r1 r2,q2⟩
def Hk (t:TA):TE:=λσ H Q=>t σ H λxs H1=>xs.length<=sizeLine/\∀p,H1 p=none->Q (.ref p) (upd H1 p (.tup xs))
def G7 (t:TA):TE:=λσ H Q=>t σ H λxs H1=>xs.length<=sizeLine/\∀p,H1 p=none->Q (.ref p) (upd H1 p (.lst xs))
def lI (h:PA X es t):PE X (.Tuple es x1 pos) (Hk t):=by intro pins s σ H Q I hq;refine wpAny_Tuple_spliced (thn (h pos pins s σ H _ I hq) λus s1 ⟨xs,H1,I1,r,z,q⟩=>⟨by rw[<- r.length]; exact z,?_⟩);have hf:H1 s1.heap.objs.size=none:=I1.hok.fresh .(3);refine⟨.ref s1.heap.objs.size,upd H1 s1.heap.objs.size (.tup xs),I1.laid (t':=s1.toks) (λb u e=>pq _ e) .(3) ?_,rfl,q _ hf⟩;exact⟨z,us,r,⟨_,Ib _ rfl,rfl,_,rfl⟩⟩
def Dw (h:PA X es t):PE X (.List es pos) (G7 t):=by intro pins s σ H Q I hq;refine wpAny_List_spliced (thn (h pos pins s σ H _ I hq) λus s1 ⟨xs,H1,I1,r,z,q⟩=>⟨by rw[<- r.length]; exact z,?_⟩);have hf:H1 s1.heap.objs.size=none:=I1.hok.fresh .(3);refine⟨.ref s1.heap.objs.size,upd H1 s1.heap.objs.size (.lst xs),I1.laid (t':=s1.toks) (λb u e=>pq _ e) .(3) ?_,rfl,q _ hf⟩;exact⟨z,us,0,r,Ib _ rfl⟩
end
abbrev Sp:=List V->Hp->VK->XK->Prop
abbrev CXT:=List Env->Hp->Da->XK->Value->Da->Prop
structure AJ (P:FB)(w:World)(K:fw)(mg:Str->Option Value)(base:Heap)(A:GT)(outer:List Env)(s:Da)(H:Hp):Prop where
 frames:A.frames=some outer
 mod:Mod K mg base
 bs:∀b o,base.get? b=some o->s.heap.get? b=some o/\H b=none
 bsz:base.objs.size<=s.heap.objs.size
 mH:s.heap.FunFrames base outer
 frf:∀b∈frs outer,H b=none
 hok:HOk P w H s.heap
 bare:O7 s.gens
def CE (outer:List Env)(P:FB)(w:World)(H:Hp)(s:Da)(Q:VK)(u:Value)(s':Da):Prop:=∃v H',s'.os=s.os/\O7 s'.gens/\Un (frs outer) [] H H' s.heap s'.heap/\HOk P w H' s'.heap/\RelV v u/\Q v H'
def CR (CX:CXT)(outer:List Env)(P:FB)(w:World)(H:Hp)(s:Da)(Q:VK)(E:XK)(r:Result)(s':Da):Prop:=
 match r with
 | .ok (.ret u)=>CE outer P w H s Q u s'
 | .ok _=>False
 | .error e=>CX outer H s E e s'
structure a8 (P:FB)(w:World)(K:fw)(mg:Str->Option Value)(base:Heap)(CX:CXT)(k:Nat)(f:Addr)(fd:Gc)(ps:List Str)(sp:Sp):Prop where
 len:∀vs H Q E,sp vs H Q E->vs.length=ps.length
 run:∀(A:GT) (outer:List Env) (s:Da) (H:Hp) (args:Args) (us:List Value) (vs:List V) (Q:VK) (E:XK),gC k A->AJ P w K mg base A outer s H->BindsTo s fd args (ps.zip us)->Vals vs us->sp vs H Q E ->
   O3 (model P w) A (.call (.ref f) args) (CR CX outer P w H s Q E) s
def a8.mono {P:FB}{w:World}{K:fw}{mg:Str->Option Value}{CX:CXT}{fd:Gc}{ps:List Str}{sp:Sp}(F:a8 P w K mg base CX j f fd ps sp)(h:j<=k):
   a8 P w K mg base CX k f fd ps sp:=⟨F.len,λA outer s H args us vs Q E hr=>F.run A outer s H args us vs Q E (hr.mono h)⟩
section
variable {X:Cx}{pins:List .(104)}{σ:St}{H:Hp}{s s':Da}
def Inv.HH (I:Inv X pins σ H s):AJ X.prog X.w X.K X.mg X.base X.A X.stack s H:=⟨I.ok.frames,I.ok.mod,I.bs,Il I.ok.bsz I.sz,I.stack,I.u0,I.hok,I.bare⟩
def Inv.after (I:Inv X pins σ H s)(h:CE X.stack X.prog X.w H s Q u s'):EP X pins σ Q u s':=by obtain⟨v,H',os,bare,un,hok,r,q⟩:=h;obtain⟨hh,g,d,t,os'⟩:=s';obtain rfl:os'=s.os:=os;exact⟨v,H',I.call (h':=hh) (g':=g) (d':=d) (t':=t) (ch:=[]) un hok bare (λb z=>absurd z .(4)),r,q⟩
end
def F8 (sp:Sp)(dvs:List V)(E:XK)(t:TA):TE:=λσ H Q=>t σ H λvs H1=>sp (vs++dvs) H1 Q E
def Binds (K:fw)(fd:Gc)(ps:List Str)(ds:List Value):Prop:=∀(s:Da) (us:List Value),K.In s.heap->(us++ds).length=ps.length->BindsTo s fd ⟨us,[]⟩ (ps.zip (us++ds))
def Binds.all {K:fw}{fd:Gc}{ps:List Str}(h:∀us:List Value,us.length=ps.length->bindArgs fd ⟨us,[]⟩=pure (ps.zip us)):Binds K fd ps []:=λs us _ hl=>by rw[Jc]at hl ⊢;exact .of_eq (h us hl)
def Passes (CX:CXT)(X:Cx)(E:XK):Prop:=∀(pins:List .(104)) (σ:St) (H:Hp) (s:Da) (e:Value) (s':Da),Inv X pins σ H s->CX X.stack H s E e s'->X.xe e s'
section
variable {X:Cx}{CX:CXT}{k:Nat}{f:Addr}{fd:Gc}{ps:List Str}{sp:Sp}{dvs:List V}{ds:List Value}{E:XK}{x:Str}{p pos:Pos}{e:Expr}{es:List Expr}{t:TA}
def DV {pins:List .(104)}{σ:St}{s:Da}{Q:VK}{us:List Value}{vs:List V}(F:a8 X.prog X.w X.K X.mg X.base CX k f fd ps sp)(hr:gC k X.A)(hb:Binds X.K fd ps ds)(hd:Vals dvs ds)(hx:Passes CX X E)
   (I:Inv X pins σ H s) (r:Vals vs us) (h:sp (vs++dvs) H Q E):wpAny .(100) X.A (call (.ref f) us) (EP X pins σ Q) X.xe s:=by
 have r2:Vals (vs++dvs) (us++ds):=r.append hd;have hl:(us++ds).length=ps.length:=by rw[<- r2.length]; exact F.len _ _ _ _ h
 refine wpAny_call (codeAny_mono (F.run X.A X.stack s H ⟨us,[]⟩ (us++ds) (vs++dvs) Q E hr I.HH (hb s us I.kIn hl) r2 h) λr s' hq=>?_);cases r with
 | error e=>exact hx pins σ H s e s' I hq
 | ok fl=>
   cases fl with
   | ret u=>exact I.after hq
   | next=>exact KA hq
   | brk=>exact KA hq
   | cont=>exact KA hq
def vI (F:a8 X.prog X.w X.K X.mg X.base CX k f fd ps sp)(hr:gC k X.A)(hg:Gl X x)(hm:X.mg x=some (.ref f))(hk:J9 X.K (.ref f)=true)(hb:Binds X.K fd ps ds)(hd:Vals dvs ds)(hx:Passes CX X E)
   (ha:PA X (e::es) t) (hdb:(x==("__debug__" : Str))=false:=by decide) (he:Do (e::es) X.env=.(113)::Do es X.env:=by rfl) (hpl:(KF pos (Do es X.env)).any (·.1)=false:=by rfl) :
   PE X (.Call (.Name x p) (e::es) [] pos) (F8 sp dvs E t):=by
 intro pins s σ H Q I h;refine Oj (uo I hg hm ?_ hdb);refine PySem.W.callWith_K (h₀:=X.base) I.ok.mod.kin hk (thn .(133) λus s1 ⟨vs,H1,I1,r,q⟩=>⟨I1.kIn,?_⟩) he hpl;exact DV F hr hb hd hx I1 r q
end
structure aJ (N P:List Str)(sc:Scope):Prop where
 kind:sc.kind=.function
 co:sc.isCoroutine=false
 gen:sc.isGenerator=false
 nd:N.Nodup
 pre:N.take P.length=P
 par:∀x∈P,sc.names.lookup x=some .local\/sc.names.lookup x=some .cell
 nofree:∀y∈sc.names,y.2≠.free
theorem nU {kindOf:Str->Option NA}:∀{binds:List (Str×Value)} {m:Str->Option Value},(∀v,(x,v)∉binds)->bindL kindOf binds m x=m x
 | [],_,_=>rfl
 | (n,v)::r,m,h=>by
   unfold bindL;rw[nU λw hw=>h w (Et _ hw)];split
   . have:x≠n:=by rintro rfl; exact h v IF
     simp[this]
   . rfl
theorem nV {kindOf:Str->Option NA}:∀{binds:List (Str×Value)} {m:Str->Option Value},(∀v,(x,v)∉binds)->bindC kindOf binds m x=m x
 | [],_,_=>rfl
 | (n,v)::r,m,h=>by
   unfold bindC;rw[nV λw hw=>h w (Et _ hw)];split
   . rfl
   . have:x≠n:=by rintro rfl; exact h v IF
     simp[this]
theorem oj {kindOf:Str->Option NA}:∀{P:List Str} {vs:List Value} {i:Nat} {m:Str->Option Value},P.Nodup->P[i]?=some x->vs[i]?=some v->kindOf x=some .local ->
   bindL kindOf (P.zip vs) m x=some v
 | [],_,_,_,_,h,_,_=>by simp at h
 | _::_,[],_,_,_,_,h,_=>by simp at h
 | p::P,w::vs,0,m,nd,h1,h2,hk=>by simp at h1 h2; subst h1; subst h2;show bindL kindOf ((p,w)::P.zip vs) m p=_;unfold bindL;rw[nU λv hv=>(Jb.mp nd).1 (MW hv).1,if_pos hk];simp
 | p::P,w::vs,i+1,m,nd,h1,h2,hk=>by show bindL kindOf ((p,w)::P.zip vs) m x=_;unfold bindL;exact oj (i:=i) (Jb.mp nd).2 (by simpa using h1) (by simpa using h2) hk
theorem oA {kindOf:Str->Option NA}:∀{P:List Str} {vs:List Value} {i:Nat} {m:Str->Option Value},P.Nodup->P[i]?=some x->vs[i]?=some v->kindOf x≠some .local ->
   bindC kindOf (P.zip vs) m x=some v
 | [],_,_,_,_,h,_,_=>by simp at h
 | _::_,[],_,_,_,_,h,_=>by simp at h
 | p::P,w::vs,0,m,nd,h1,h2,hk=>by simp at h1 h2; subst h1; subst h2;show bindC kindOf ((p,w)::P.zip vs) m p=_;unfold bindC;rw[nV λv hv=>(Jb.mp nd).1 (MW hv).1,if_neg hk];simp
 | p::P,w::vs,i+1,m,nd,h1,h2,hk=>by show bindC kindOf ((p,w)::P.zip vs) m x=_;unfold bindC;exact oA (i:=i) (Jb.mp nd).2 (by simpa using h1) (by simpa using h2) hk
noncomputable def start (N:List Str)(vs:List V):St:=vs.map some++Ii (N.length-vs.length) none
noncomputable def tT (CX:CXT)(P:FB)(w:World)(K:fw)(mg:Str->Option Value)(base:Heap)(N:List Str)(qual:Str)(scope:Scope)(f:Addr)(cd:Value)(A:GT)(outer:List Env)(s:Da)(H:Hp)(E:XK):Cx where
 prog:=P
 w:=w
 K:=K
 mg:=mg
 base:=base
 A:=A.deeper (Ol qual scope s.heap.objs.size f cd)
 N:=N
 s₀:=s
 H₀:=H
 env:=Ol qual scope s.heap.objs.size f cd
 outer:=outer
 stack:=Ol qual scope s.heap.objs.size f cd::outer
 ex:=[]
 calm:=true
 fn:=λ_=>true
 pn:=[]
 xe:=λe s'=>wpAny (model P w) (A.deeper (Ol qual scope s.heap.objs.size f cd)) (leaving (Ol qual scope s.heap.objs.size f cd) e) (λ_ s''=>CX outer H s E e s'') (λe' s''=>CX outer H s E e' s'') s'
def qB {sc:Scope}(h:sc.names.lookup x=some .cell):∃c,(N2 n sc.names []).lookup x=some c:=by have q:=M8 sc.names n [] (.inl h);exact Lq.mp q
def wo {CX:CXT}{P:FB}{w:World}{K:fw}{mg:Str->Option Value}{N ps:List Str}{scope:Scope}{A:GT}{outer:List Env}{s s1:Da}{E:XK}{us:List Value}{vs:List V}
   (S:aJ N ps scope)  (hd:cm=true->A.handled=none) (e0:AJ P w K mg base A outer s H) (hl:vs.length=ps.length) (r:Vals vs us)
   (x:InCallC s s.heap.objs.size (bindL (Ol qual scope s.heap.objs.size f cd).kindOf (ps.zip us) λ_=>none) (N2 (s.heap.objs.size+1) scope.names []) (bindC (Ol qual scope s.heap.objs.size f cd).kindOf (ps.zip us) λ_=>none) s1) :
   Inv { tT CX P w K mg base N qual scope f cd A outer s H E with calm:=cm } [] (start N vs) H s1:=by
 have hpl:ps.length<=N.length:=by have:=congrArg List.length S.pre; rw[IX]at this; omega
 obtain⟨h1,tk,rfl,hk⟩:=x.done;have noA:∀b:Addr,b∉(tT CX P w K mg base N qual scope f cd A outer s H E).ex:=λb z=>absurd (show b∈([]:List Addr) from z) .(4)
 refine⟨⟨e0.mod,S.kind,rfl,rfl,IE _,λy z c h1 h2=>?_,λy hy=>?_,λy c _ h=>?_,hd,Around.frames_deeper e0.frames,.inr ⟨rfl,rfl⟩,λb z=>absurd z (noA b),e0.bs,e0.bsz,λb _ _=>noA b,λb z=>absurd z (noA b),e0.mH,e0.frf⟩,
   rfl,e0.bare,Un.kept hk,⟨_,x.toInCall.ns,λi y v h1 h2 h3=>?_⟩,λy c h=>⟨_,x.cell y c h⟩,e0.hok.fresh .(3),λy c h=>?_,λp hp=>absurd (show p∈([]:List .(104)) from hp) .(4),e0.hok.kept hk,?_⟩
 . exact name_of_addr x.apart (Kr h1) (Kr h2)
 . have hy:scope.names.lookup y=some .cell\/scope.names.lookup y=some .free:=hy;rcases hy with hy | hy
   . exact qB hy
   . exact absurd rfl (S.nofree _ (Kr hy))
 . exact JO (x.above y c (Kr h))
 . have hi:i<vs.length:=by
     unfold start at h2;by_cases hi:i<vs.length
     . exact hi
     . rw[IW (by simpa using hi)]at h2;rw[LJ]at h2;split at h2 <;> cases h2
   have ha:vs[i]?=some v:=by
     unfold start at h2;rw[HX (by simpa using hi),Iy]at h2;cases e:vs[i]? with
     | none=>rw[e]at h2; cases h2
     | some a=>rw[e]at h2; cases h2; rfl
   obtain⟨u,hu,rv⟩:=r.get ha;have hp:ps[i]?=some y:=by rw[<- S.pre,Nf .(0)]; exact h1
   have ndP:ps.Nodup:=by rw[<- S.pre]; exact S.nd.sublist (List.take_sublist _ _)
   refine⟨u,rv,?_⟩;rcases S.par y (Jp hp) with k | k
   . exact .inl ⟨k,oj ndP hp hu k⟩
   . obtain⟨c,e⟩:=qB (n:=s.heap.objs.size+1) k;refine .inr ⟨.inl k,c,e,?_⟩;have q:=x.cell y c e;rw[oA ndP hp hu (by show scope.names.lookup y≠_; rw[k]; decide)]at q;exact q
 . exact e0.hok.fresh (JO (x.above y c (Kr h)))
 . unfold start;show _=N.length;rw[rp,bp,List.length_replicate];omega
def Gw {CX:CXT}{P:FB}{w:World}{K:fw}{mg:Str->Option Value}{base:Heap}{f:Addr}{name qual:Str}{params:Arguments}{body:List Stmt}{scope:Scope}{dV kV doc pm cdv ct oc:Value}{an od:Option Addr}
   {osl:Array (Option Value)} {N ps:List Str} {sp:Sp} (lk:K.lookup f=some ⟨oc,od,.func (Kf name qual params body scope dV kV doc pm an cdv ct),osl⟩) (hcd:Lg K cdv qual=true) (S:aJ N ps scope)
   (len:∀vs H Q E,sp vs H Q E->vs.length=ps.length)
   (hbody:∀(A:GT) (outer:List Env) (s:Da) (H:Hp) (vs:List V) (Q:VK) (E:XK),gC k (A.deeper (Ol qual scope s.heap.objs.size f cdv))->sp vs H Q E ->
     ∃t,PSs (tT CX P w K mg base N qual scope f cdv A outer s H E) body t/\t { nx:=λ_ H'=>Q .non H',rt:=Q } (start N vs) H) :
   a8 P w K mg base CX (k+1) f (Kf name qual params body scope dV kV doc pm an cdv ct) ps sp:=by
 refine⟨len,λA outer s H args us vs Q E hr e0 hb r hsp=>?_⟩;have hl:=len _ _ _ _ hsp;have KX:K.In s.heap:=e0.mod.kin.keeps λb o e=>(e0.bs b o e).1;have lim:s.heap.NoLimit:=e0.mod.nolimit.keeps λb o e=>(e0.bs b o e).1
 have hkind:∀y∈ps.zip us,scope.names.lookup y.1=some .local\/(scope.names.lookup y.1=some .cell/\((N2 (s.heap.objs.size+1) scope.names []).lookup y.1).isSome=true):=λ⟨n,v⟩ hy=>by
   rcases S.par n (MW hy).1 with q | q
   . exact .inl q
   . exact .inr ⟨q,M8 _ _ _ (.inl q)⟩
 refine codeAny_call_function hr.depth (KX _ _ lk) rfl S.co S.gen rfl (PySem.W.codeRec_of KX hcd) (hb _ _ _ _ ?_);refine wpAny_newFunctionEnv_cells S.kind hkind λenv he s1 x=>?_;subst he;refine⟨lim.keeps x.toInCall.keep,codeAny_func ?_⟩;obtain⟨t,ht,hq⟩:=hbody A outer s H vs Q E (hr.deeper _) hsp;have I:Inv (tT CX P w K mg base N qual scope f cdv A outer s H E) [] (start N vs) H s1:=wo (cm:=true) S (λ_=>hr.hd) e0 hl r x;refine NZ (ht [] s1 (start N vs) H _ I hq) (λfl s' hs=>?_) λe s' hs=>hs;have fin:∀{σ':St} {H':Hp} {v:V} {u:Value},Inv (tT CX P w K mg base N qual scope f cdv A outer s H E) [] σ' H' s'->RelV v u->Q v H'->CE outer P w H s Q u s':=λ{σ' H' v u} J rv q=>⟨v,H',J.os,J.bare,J.base,J.hok,rv,q⟩;cases fl with
 | ret u=>obtain⟨v,σ',H',J,rv,q⟩:=hs;exact fin J rv q
 | next=>obtain⟨σ',H',J,q⟩:=hs;exact fin (v:=V.non) (u:=JS) J rfl q
 | brk=>obtain⟨_,_,_,q⟩:=hs;exact KA q
 | cont=>obtain⟨_,_,_,q⟩:=hs;exact KA q
section
variable {X:Cx}{x:Str}{p pos:Pos}{e:Expr}{es:List Expr}{t:TA}{id T:String}{r:List V->Hp->VK->Prop}
def tCB (r:List V->Hp->VK->Prop)(t:TA):TE:=λσ H Q=>t σ H λvs H1=>r vs H1 Q
def ql (hc:fH X (.builtin id) r)(hg:Gl X x)(hm:X.mg x=none)(hv:N7 x=some (.builtin id))(ha:PA X (e::es) t)(hn:x ≠ "__name__":=by decide)(hdb:(x==("__debug__" : Str))=false:=by decide)
   (he:Do (e::es) X.env=.(113)::Do es X.env:=by rfl) (hpl:(KF pos (Do es X.env)).any (·.1)=false:=by rfl):PE X (.Call (.Name x p) (e::es) [] pos) (tCB r t):=by
 intro pins s σ H Q I h;refine Oj (dM I hg hm hv ?_ hn hdb);exact PyProof.Rows.callWith_builtin1 (thn .(133) λus s1 ⟨vs,H1,I1,r1,q1⟩=>hc pins s1 σ H1 vs us Q I1 r1 q1) he hpl
def nL (hc:fH X (.type T) r)(hg:Gl X x)(hm:X.mg x=none)(hv:N7 x=some (.type T))(ha:PA X (e::es) t)(hn:x ≠ "__name__":=by decide)(hdb:(x==("__debug__" : Str))=false:=by decide)
   (he:Do (e::es) X.env=.(113)::Do es X.env:=by rfl) (hpl:(KF pos (Do es X.env)).any (·.1)=false:=by rfl):PE X (.Call (.Name x p) (e::es) [] pos) (tCB r t):=by
 intro pins s σ H Q I h;refine Oj (dM I hg hm hv ?_ hn hdb);exact IP (thn .(133) λus s1 ⟨vs,H1,I1,r1,q1⟩=>hc pins s1 σ H1 vs us Q I1 r1 q1) he hpl
end
end L2
namespace HT
open PySem PyProof.Rows
section
open PySem.SeqAt
open PySem.AutoSeq1 (wpAny_loadPart')
open PySem.MeetsSeq PySem.MeetsSeq2 PySem.MeetsSeq3
end
section
variable {prog:FB}{w:World}{A:GT}{E:Value->Da->Prop}{s:Da}
def Ba (ht:IsTup s.heap t vs.toArray)(hb:IsTup s.heap b ws.toArray)(hv:vs≠[])
   (h1:ws=[]->Q (.ref t) s) (h2:ws≠[]->Q .(145) { s with heap:=s.heap.push { cls:=.type "tuple",data:=.seq (vs++ws).toArray } })
   (hsz:vs.length+ws.length<=sizeLine):wpAny .(110) A (KB .Add (.ref t) (.ref b)) Q E s:=by
 obtain⟨⟨cls,dd,data,sl⟩,ho,hc,n,hd⟩:=id ht;obtain⟨⟨cls2,dd2,data2,sl2⟩,ho2,hc2,n2,hd2⟩:=id hb;simp only at hc hd hc2 hd2;subst hc hd hc2 hd2;have e:vs.toArray++ws.toArray=(vs++ws).toArray:=by simp
 by_cases hw:ws=[]
 . exact concat_meets ⟨_,ho,rfl⟩ ⟨_,ho2,rfl⟩ noFill_tuple_add seq_tuple_add LH LC .(22)
     (tuple_addW1 t b vs.toArray ws.toArray n n2 dd dd2 sl sl2 (by simpa using hv) (by simp[hw])) ⟨ho,ho2,h1 hw⟩
 . refine concat_meets ⟨_,ho,rfl⟩ ⟨_,ho2,rfl⟩ noFill_tuple_add seq_tuple_add LH LC .(22)
     (tuple_addW2 t b vs.toArray ws.toArray n n2 dd dd2 sl sl2 (by simpa using hv) (by simpa using hw) (by rw[Ic,Ic]; exact hsz)) ⟨ho,ho2,?_⟩
   rw[e];exact h2 hw
noncomputable def sIx (n d:Nat):Option Int->Nat
 | none=>d
 | some v=>if v<0 then (v+(n:Int)).toNat else min v.toNat n
def lH (n d:Nat):sIx n d none=d:=rfl
def ig (n d k:Nat):sIx n d (some (k:Int))=min k n:=by show (if (k:Int)<0 then ((k:Int)+(n:Int)).toNat else min (k:Int).toNat n)=min k n;rw[if_neg .(0),HW]
def EB (n d:Nat)(hd:d<=n)(o:Option Int):sIx n d o<=n:=by
 cases o with
 | none=>exact hd
 | some v=>
   show (if v<0 then (v+(n:Int)).toNat else min v.toNat n)<=n;by_cases hv:v<0
   . rw[if_pos hv]; omega
   . rw[if_neg hv]; exact Nat.min_le_right _ _
def uK (v:Int)(n d:Nat):(if v<0 then max (v+(n:Int)) 0 else min v (n:Int))=((sIx n d (some v):Nat):Int):=by
 show (if v<0 then max (v+(n:Int)) 0 else min v (n:Int))=(((if v<0 then (v+(n:Int)).toNat else min v.toNat n):Nat):Int);by_cases hv:v<0
 . simp only[if_pos hv]; omega
 . simp only[if_neg hv]; omega
def tQ (lo hi:Option Int)(n:Nat):Mk lo hi 1 (n:Int)=(((sIx n 0 lo:Nat):Int),((sIx n n hi:Nat):Int)):=by
 have h1:¬((1:Int)<0):=by omega
 unfold Builtin.Slice.sliceAdjust;simp only[h1,if_false];refine Prod.ext ?_ ?_
 . cases lo with
   | none=>rfl
   | some v=>exact uK v n 0
 . cases hi with
   | none=>rfl
   | some v=>exact uK v n n
def ud (i j:Nat):K1 (i:Int) (j:Int) 1=j-i:=by
 unfold Builtin.Slice.slicePlaces;have h1:(1:Int)>0:=by omega
 simp only[h1,if_true,Lw];split <;> omega
def mz (p:IsPart v o)(h:Q o s):wpAny .(110) A (Builtin.Slice.slicePartIndex v) Q E s:=by
 cases p with
 | none=>exact slicePart_none h
 | int i t=>exact slicePart_int h
def jY {lo hi:Option Int}{Q:Int×Int×Nat->Da->Prop}(hs:s.heap.IsSliceOf sl vl vu .none)(pl:IsPart vl lo)(pu:IsPart vu hi)
   (h:Q (((sIx n 0 lo:Nat):Int),1,sIx n n hi-sIx n 0 lo) s):wpAny .(110) A (Builtin.Slice.sliceApplied (.ref sl) (pure (n:Int))) Q E s:=by
 obtain⟨os,hos,hcs,hds⟩:=id hs;unfold Builtin.Slice.sliceApplied Builtin.Slice.sliceFields;refine AC (AC (Od hos hds (x:=vl) rfl (AC (Od hos hds (x:=vu) rfl (AC (Od hos hds (x:=.none) rfl (Fk ?_)))))));refine AC (slicePart_none ?_);show wpAny _ _ (if ((1:Int)==0)=true then _ else _) _ _ s;rw[if_neg .(2)];refine AC (mz pl (AC (mz pu (AC (Fk ?_)))));show wpAny _ _ (match Mk lo hi 1 (n:Int) with | (lo,hi)=>pure (lo,(1:Int),K1 lo hi 1)) _ _ s;rw[tQ lo hi n];show wpAny _ _ (pure (((sIx n 0 lo:Nat):Int),(1:Int),K1 ((sIx n 0 lo:Nat):Int) ((sIx n n hi:Nat):Int) 1)) _ _ s;rw[ud];exact Fk h
def yS (xs:Array Value)(i k:Nat):((ox k).filterMap λ(m:Nat)=>xs[((i:Int)+(m:Int)*1).toNat]?).toArray=((xs.toList.drop i).take k).toArray:=by
 have e:(λ(m:Nat)=>xs[((i:Int)+(m:Int)*1).toNat]?)=λm=>xs[i+m]?:=by
   funext m;have:((i:Int)+(m:Int)*1).toNat=i+m:=by omega
   rw[this]
 rw[e];have:=pick_run xs i k;rw[List.filterMap_map]at this;have e2:((λx=>xs[x]?)∘λx=>i+x)=λm=>xs[i+m]?:=rfl;rw[e2]at this;rw[this]
def jc {items:Array Value}{lo hi:Option Int}{Q:Value->Da->Prop}(ht:IsTup s.heap t items)(hs:s.heap.IsSliceOf sl vl vu .none)(pl:IsPart vl lo)(pu:IsPart vu hi)
   (hw:¬(sIx items.size 0 lo=0/\sIx items.size items.size hi=items.size))
   (h:Q .(145) { s with heap:=s.heap.push { cls:=.type "tuple",data:=.seq .(127).toArray } })
   (hsz:items.size<=sizeLine):wpAny .(110) A (Og (.ref t) (.ref sl)) Q E s:=by
 have htake:sizeOk (.seq .(127).toArray):=by show .(127).toArray.size<=sizeLine;rw[Ic,IX,K3,Jy];omega
 have hj:sIx items.size items.size hi<=items.size:=EB _ _ .(3) hi;obtain⟨os,hos,hcs,hds⟩:=id hs;have hTs:s.TypeIs (.ref sl) "slice":=⟨os,hos,hcs⟩;unfold Og
 try with_reducible refine NJ ?_
 first | refine AC (Fk ?_) | skip
 refine AC (wpAny_sequenceKey ht.typeIs .(2) ?_)
 refine AC (NQ (name:=MK "__getitem__") ht.typeIs LZ
   (ND LZ ht.typeIs entry_tuple_getitem ?_ (args_tuple_getitem _ _)))
 show wpAny _ _ (KY (.ref t) >>= _) _ _ s;refine AC (tupleItemsOf_ ht ?_);refine AC (wpAny_typeOf hTs ?_);rw[if_pos .(2)];refine AC (jY hs pl pu ?_);have hno:¬((((sIx items.size 0 lo:Nat):Int)==0&&(1:Int)==1&&(sIx items.size items.size hi-sIx items.size 0 lo)==items.size)=true):=by intro q;rw[IS,IS]at q;have q1:((sIx items.size 0 lo:Nat):Int)=0:=eq_of_beq q.1.1;have q2:sIx items.size items.size hi-sIx items.size 0 lo=items.size:=eq_of_beq q.2;exact hw .(15)
 show wpAny _ _ (if (((sIx items.size 0 lo:Nat):Int)==0&&(1:Int)==1&&(sIx items.size items.size hi-sIx items.size 0 lo)==items.size)=true then _ else _) _ _ s;rw[if_neg hno,yS]
 first
   | exact AC (m:=Kj _) (GM (Fk ⟨_,rfl,Fk h⟩) htake)
   | exact AC (m:=Kj _) (GM (AC (Fk (Fk ⟨_,rfl,Fk h⟩))) htake)
   | exact AC (AC (m:=Kj _) (GM (Fk (Fk ⟨_,rfl,Fk h⟩)) htake))
   | exact AC (AC (m:=Kj _) (GM (Fk ⟨_,rfl,Fk h⟩) htake))
end
end HT
namespace L2
open PySem PySem.Spec PyProof.Rows
abbrev TO:=St->Hp->(Option Int->Hp->Prop)->Prop
def PO (X:Cx)(e:Option Expr)(t:TO):Prop:=
 ∀(pins:List .(104)) (s:Da) (σ:St) (H:Hp) (Q:Option Int->Hp->Prop),Inv X pins σ H s->t σ H Q ->
   wpAny .(100) X.A (evalPart e X.env) (λu s'=>∃o H',Inv X pins σ H' s'/\IsPart u o/\Q o H') X.xe s
def BS:TO:=λ_ H Q=>Q none H
def Gn (t:TE):TO:=λσ H Q=>t σ H λx H1=>∃i,x=.int i/\Q (some i) H1
section
variable {X:Cx}{e:Expr}{te:TE}{lo hi:Option Expr}{tl th:TO}{pos p2:Pos}
def AK:PO X none BS:=by intro pins s σ H Q I h;rw[evalPart_none];exact Fk ⟨none,H,I,.none,h⟩
def By (h:PE X e te):PO X (some e) (Gn te):=by intro pins s σ H Q I hw;rw[evalPart_some];refine thn (h pins s σ H _ I hw) λu s1 ⟨x,H1,I1,r1,q1⟩=>?_;obtain⟨i,rfl,q⟩:=q1;obtain⟨t,rfl⟩:=r1;exact⟨some i,H1,I1,.int i t,q⟩
def SlR (X:Cx)(r:V->Option Int->Option Int->Hp->VK->Prop):Prop:=
 ∀(pins:List .(104)) (s:Da) (σ:St) (H:Hp) (x:V) (v vl vu:Value) (lo hi:Option Int) (sl:Addr) (Q:VK),Inv X pins σ H s->RelV x v->s.heap.IsSliceOf sl vl vu .none->IsPart vl lo->IsPart vu hi->r x lo hi H Q ->
   ∃T id,typeLookup (.type T) "__getitem__" = pure (some (.builtin id))/\s.TypeIs v T/\wpAny .(100) X.A (Og v (.ref sl)) (EP X pins σ Q) X.xe s
def tSl (r:V->Option Int->Option Int->Hp->VK->Prop)(te:TE)(tl th:TO):TE:=λσ H Q=>te σ H λx H1=>tl σ H1 λl H2=>th σ H2 λu H3=>r x l u H3 Q
def rK (hr:SlR X r)(he:PE X e te)(hl:PO X lo tl)(hu:PO X hi th):PE X (.Subscript e (.Slice lo hi none p2) pos) (tSl r te tl th):=by intro pins s σ H Q I h;refine Subscript_ (thn (he pins s σ H _ I h) λv s1 ⟨x,H1,I1,r1,q1⟩=>?_);refine wpAny_Slice (thn (hl pins s1 σ H1 _ I1 q1) λvl s2 ⟨l,H2,I2,pl,q2⟩=>thn (hu pins s2 σ H2 _ I2 q2) λvu s3 ⟨u,H3,I3,pu,q3⟩=>?_);rw[evalPart_none];refine Fk ?_;have I4:Inv X pins σ H3 { s3 with heap:=s3.heap.push { cls:=.type "slice",data:=.fields #[vl,vu,.none] } }:=I3.kept (t':=s3.toks) λb ob q=>pq _ q;obtain⟨T,id,hT,ht,hg⟩:=hr pins { s3 with heap:=s3.heap.push { cls:=.type "slice",data:=.fields #[vl,vu,.none] } } σ H3 x v vl vu l u s3.heap.objs.size Q I4 r1 (Heap.IsSliceOf.new ..) pl pu q3;show wpAny .(100) X.A (subscriptTail e (.Slice lo hi none p2) v (.ref s3.heap.objs.size)) (EP X pins σ Q) X.xe { s3 with heap:=s3.heap.push { cls:=.type "slice",data:=.fields #[vl,vu,.none] } };exact tail_any (ops:=[.ref s3.heap.objs.size,v]) ht hT hg (by with_unfolding_all rfl)
noncomputable def mD (xs:List V)(lo hi:Option Int):List V:=(xs.drop (HT.sIx xs.length 0 lo)).take .(143)
def kn (xs:List V)(lo hi:Option Int):(mD xs lo hi).length<=xs.length:=by unfold mD;rw[IX,K3];omega
def G9 (K:fw):V->Option Int->Option Int->Hp->VK->Prop:=λx lo hi H Q=>∃a xs,x=.ref a/\SqT K H a xs /\
 ¬(HT.sIx xs.length 0 lo=0/\HT.sIx xs.length xs.length hi=xs.length)/\∀p,H p=none->Q (.ref p) (upd H p (.tup (mD xs lo hi)))
def Ee:SlR X (G9 X.K):=by
 intro pins s σ H x v vl vu lo hi sl Q I rx hs pl pu h;obtain⟨a,xs,rfl,hx,hw,q⟩:=h;cases rx;obtain⟨its,r,ht,hz⟩:=I.tuple hx;have hlen:its.toArray.size=xs.length:=by rw[Ic]; exact r.length.symm
 refine⟨"tuple",_,PyProof.Rows.slot_tuple_getitem.lookup,ht.typeIs,?_⟩;refine HT.jc ht hs pl pu (by rw[hlen]; exact hw) ?_ (by rw[hlen]; exact hz);rw[hlen];refine⟨.ref s.heap.objs.size,_,I.laid (t':=s.toks) (o:=.tup (mD xs lo hi)) (λb ob q=>pq _ q) .(3) ?_,rfl,q _ (I.hok.fresh .(3))⟩;exact⟨Il (kn xs lo hi) hz,_,(r.drop (HT.sIx xs.length 0 lo)).take .(143),IsTup.new _ _⟩
def Gg (K:fw):R2:=λx y H Q=>∃a b xs ys,x=.ref a/\y=.ref b/\SqT K H a xs/\SqT K H b ys/\xs≠[]/\xs.length+ys.length<=sizeLine /\
 (ys=[]->Q (.ref a) H)/\(ys≠[]->∀p,H p=none->Q (.ref p) (upd H p (.tup (xs++ys))))
def Vals.oS (r:Vals xs us):us=[]↔xs=[]:=by
 cases r with
 | nil=>simp
 | cons _ _=>simp
def Be:OpR X (KB .Add) (Gg X.K):=by intro pins s σ H x y v u Q I rx ry h;obtain⟨a,b,xs,ys,rfl,rfl,ha,hb,hx,hz,q1,q2⟩:=h;cases rx;cases ry;obtain⟨its,r1,p1,_⟩:=I.tuple ha;obtain⟨its2,r2,p2,_⟩:=I.tuple hb;refine HT.Ba p1 p2 (λz=>hx (r1.oS.mp z)) (λz=>⟨.ref a,H,I,rfl,q1 (r2.oS.mp z)⟩) (λz=>?_) (by rw[<- r1.length,<- r2.length]; exact hz);refine⟨.ref s.heap.objs.size,_,I.laid (t':=s.toks) (o:=.tup (xs++ys)) (λb ob q=>pq _ q) .(3) ?_,rfl,q2 (λw=>z (r2.oS.mpr w)) _ (I.hok.fresh .(3))⟩;exact⟨by rw[rp]; exact hz,_,r1.append r2,IsTup.new _ _⟩
end
noncomputable def ixN (n:Nat)(i:Int):Option Nat:=if 0<=i then (if i<n then some i.toNat else none) else if -(n:Int)<=i then some (i+n).toNat else none
noncomputable def atI {α:Type}(xs:List α)(i:Int):Option α:=(ixN xs.length i).bind λj=>xs[j]?
def uB (h:ixN n i=some j):seqIndex? i n=some j/\j<n/\-(n:Int)<=i/\i<n:=by
 unfold ixN at h;by_cases h0:0<=i
 . rw[if_pos h0]at h;by_cases h1:i<n
   . rw[if_pos h1]at h;have e:i.toNat=j:=IM h;exact⟨by rw[seqIndex_of h0 h1,e],by omega,by omega,h1⟩
   . rw[if_neg h1]at h; cases h
 . rw[if_neg h0]at h;by_cases h1:-(n:Int)<=i
   . rw[if_pos h1]at h;have e:(i+n).toNat=j:=IM h;exact⟨by rw[seqIndex_neg .(0) h1,e],by omega,h1,by omega⟩
   . rw[if_neg h1]at h; cases h
def uX (h:atI xs i=some v):∃j,seqIndex? i xs.length=some j/\xs[j]?=some v/\j<xs.length/\-(xs.length:Int)<=i/\i<xs.length:=by
 unfold atI at h;cases e:ixN xs.length i with
 | none=>rw[e]at h; cases h
 | some j=>rw[e]at h;obtain⟨h1,h2,h3,h4⟩:=uB e;exact⟨j,h1,h,h2,h3,h4⟩
def du (b:Expr):Prop:=∀o i,subscripted b false o i=operate [o,i] (Og o i)
def IxR (X:Cx)(r:R2):Prop:=
 ∀(value slice:Expr) (pins:List .(104)) (s:Da) (σ:St) (H:Hp) (x y:V) (v u:Value) (Q:VK),Inv X pins σ H s->RelV x v->RelV y u->r x y H Q ->
   subscripted slice false v u=operate [v,u] (Og v u)->wpAny .(100) X.A (subscriptTail value slice v u) (EP X pins σ Q) X.xe s
def MtR (X:Cx)(id:String)(r:V->List V->Hp->VK->Prop):Prop:=
 ∀(pins:List .(104)) (s:Da) (σ:St) (H:Hp) (x:V) (xs:List V) (v:Value) (us:List Value) (Q:VK),Inv X pins σ H s->RelV x v->Vals xs us->r x xs H Q ->
   wpAny .(100) X.A (call (.builtin id) (v::us)) (EP X pins σ Q) X.xe s
section
variable {X:Cx}{a b:Expr}{ta tb:TE}{pos:Pos}
def uJ (hr:IxR X r)(ha:PE X a ta)(hb:PE X b tb)(hs:du b):PE X (.Subscript a b pos) (tOp r ta tb):=by intro pins s σ H Q I h;exact Subscript_ (El ha hb I h λv u s2 x y H2 I2 rx ry q=>hr a b pins s2 σ H2 x y v u Q I2 rx ry q (hs _ _))
def HB (K:fw):R2:=λx y H Q=>∃p xs i v,x=.ref p/\y=.int i/\SqL K H p xs/\atI xs i=some v/\Q v H
def Hd (K:fw):R2:=λx y H Q=>∃p xs i v,x=.ref p/\y=.int i/\SqT K H p xs/\atI xs i=some v/\Q v H
def kK:IxR X (HB X.K):=by
 intro value slice pins s σ H x y v u Q I rx ry h hs;obtain⟨p,xs,i,z,rfl,rfl,hq,he,q⟩:=h;cases rx;obtain⟨t,rfl⟩:=ry;obtain⟨its,r,pl,hz⟩:=I.list hq;obtain⟨j,h1,h2,h3,h4,h5⟩:=uX he;obtain⟨w,ew,rw'⟩:=r.get h2;have hl:=r.length;have hn:=oY;have fin:EP X pins σ Q w s:=⟨z,H,I,rw',q⟩;by_cases h0:0<=i
 . have hj:i.toNat=j:=by rw[seqIndex_of h0 h5]at h1;exact IM h1
   exact item_listR pl.isList h0 .(0) (by rw[hj]; simpa using ew) fin hs
 . have hj:(i+(its.toArray.size:Int)).toNat=j:=by rw[seqIndex_neg .(0) h4]at h1;rw[Ic,<- hl];exact IM h1
   exact subscriptTail_builtinR (x:=w) pl.isList.typeIs slot_list_getitem.lookup
     (wpAny_getItem_list_neg (Q:=λr s'=>r=w/\EP X pins σ Q r s') pl.isList .(0) (by rw[Ic] <;> omega) .(0) (by rw[hj]; simpa using ew) ⟨rfl,fin⟩) hs
def D2:IxR X (Hd X.K):=by
 intro value slice pins s σ H x y v u Q I rx ry h hs;obtain⟨p,xs,i,z,rfl,rfl,hq,he,q⟩:=h;cases rx;obtain⟨t,rfl⟩:=ry;obtain⟨its,r,pl,hz⟩:=I.tuple hq;obtain⟨j,h1,h2,h3,h4,h5⟩:=uX he;obtain⟨w,ew,rw'⟩:=r.get h2;have hl:=r.length;have hn:=oY;have fin:EP X pins σ Q w s:=⟨z,H,I,rw',q⟩
 exact subscriptTail_builtinR (x:=w) pl.typeIs slot_tuple_getitem.lookup
   (getItem_tuple (j:=j) (Q:=λr s'=>r=w/\EP X pins σ Q r s') pl .(0) .(0) (by rw[Ic,<- hl]; exact h1) (by simpa using ew) ⟨rfl,fin⟩) hs
def uc (its:List Value)(n j:Nat)(u:Value):ME (·.setIfInBounds j u) { cls:=.type "list",data:=.seq its.toArray n }={ cls:=.type "list",data:=.seq (its.set j u).toArray n }:=by simp[ME]
def Inv.lst {pins:List .(104)}{σ:St}{H:Hp}{s:Da}{p:Addr}{xs:List V}(I:Inv X pins σ H s)(h:H p=some (.lst xs)):
   ∃(its:List Value) (n:Nat),Vals xs its/\s.heap.get? p=some { cls:=.type "list",data:=.seq its.toArray n }/\xs.length<=sizeLine:=by
 obtain⟨z,its,n,r,e⟩:=I.hok p _ h;exact⟨its,n,r,e,z⟩
def Inv.DE {pins:List .(104)}{σ:St}{s:Da}{xs ys:List V}{its its':List Value}{f:Obj->Obj}(I:Inv X pins σ H s)(h:H p=some (.lst xs))
   (ho:s.heap.get? p=some { cls:=.type "list",data:=.seq its.toArray n }) (hf:f { cls:=.type "list",data:=.seq its.toArray n }={ cls:=.type "list",data:=.seq its'.toArray n' }) (r:Vals ys its') (hz:ys.length<=sizeLine) (t:Nat) :
   Inv X pins σ (upd H p (.lst ys)) { s with heap:=s.heap.update p f,toks:=t }:=by
 have e:(s.heap.update p f).get? p=some { cls:=.type "list",data:=.seq its'.toArray n' }:=by rw[Ki f ho (by rw[hf] <;> rfl),hf]
 refine I.write (x:=p) (e:=p) (by rw[h]; trivial) (.inl rfl) (λb u hb q=>(Js _ _ (Je hb)).trans q) ⟨_,e⟩ ?_;exact⟨hz,its',n',r,e⟩
def GN:V->V->V->Hp->(Hp->Prop)->Prop:=λo i v H Q=>∃p xs k j,o=.ref p/\i=.int k/\H p=some (.lst xs)/\ixN xs.length k=some j/\Q (upd H p (.lst (xs.set j v)))
def set_list:Fj X GN:=by
 intro pins s σ H o i v ov iv u Q I ro ri rv h;obtain⟨p,xs,k,j,rfl,rfl,hp,hj,q⟩:=h;cases ro;obtain⟨t,rfl⟩:=ri;obtain⟨its,n,r,ho,hz⟩:=I.lst hp;obtain⟨h1,h2,h3,h4⟩:=uB hj;have hl:=r.length;have hn:=oY;have I':Inv X pins σ (upd H p (.lst (xs.set j v))) { s with heap:=s.heap.update p (ME (·.setIfInBounds j u)) }:=I.DE hp ho (uc its n j u) (r.set rv j) (by rw[Iz]; exact hz) s.toks;by_cases h0:0<=k
 . have hk:k.toNat=j:=by rw[seqIndex_of h0 h4]at h1;exact IM h1
   exact PySem.W.ki_setAt ho h0 .(0) (by rw[Ic,<- hl]; exact h4) (by rw[hk]; exact⟨_,I',q⟩)
 . have hk:(k+(its.toArray.size:Int)).toNat=j:=by rw[seqIndex_neg .(0) h3]at h1;rw[Ic,<- hl];exact IM h1
   exact PySem.W.ki_setBack ho .(0) (by rw[Ic,<- hl]; exact h3) .(0) (by rw[hk]; exact⟨_,I',q⟩)
def pS (lo hi:Option Int)(n:Nat):(NW lo hi none n).1=((HT.sIx n 0 lo:Nat):Int)/\(NW lo hi none n).2.1=((HT.sIx n n hi:Nat):Int)/\(NW lo hi none n).2.2=1:=by
 refine⟨?_,?_,rfl⟩
 . cases lo with
   | none=>simp[NW,HT.sIx]
   | some i=>
     simp only[NW,HT.sIx,Option.getD_none,show (1:Int)>0 by decide,if_true];by_cases h:i<0
     . simp only[h,if_true] <;> omega
     . simp only[h,if_false] <;> omega
 . cases hi with
   | none=>simp[NW,HT.sIx]
   | some i=>
     simp only[NW,HT.sIx,Option.getD_none,show (1:Int)>0 by decide,if_true];by_cases h:i<0
     . simp only[h,if_true] <;> omega
     . simp only[h,if_false] <;> omega
def m5 (its:List Value)(lo hi:Option Int):slicePick its.toArray lo hi none=((its.drop (HT.sIx its.length 0 lo)).take (HT.sIx its.length its.length hi-HT.sIx its.length 0 lo)).toArray:=by obtain⟨h1,h2,h3⟩:=pS lo hi its.toArray.size;unfold slicePick;rw[h1,h2,h3];simp only[sliceRange_one,pick_run,Ic] <;> rfl
def Hj (K:fw):V->Option Int->Option Int->Hp->VK->Prop:=λx lo hi H Q=>∃a xs,x=.ref a/\SqL K H a xs/\∀p,H p=none->Q (.ref p) (upd H p (.lst (mD xs lo hi)))
def BA:SlR X (Hj X.K):=by intro pins s σ H x v vl vu lo hi sl Q I rx hs pl pu h;obtain⟨a,xs,rfl,hx,q⟩:=h;cases rx;obtain⟨its,r,ht,hz⟩:=I.list hx;have hlen:=r.length;refine⟨"list",_,slot_list_getitem.lookup,ht.isList.typeIs,?_⟩;refine wpAny_getItem_list_slice ht.isList hs pl pu .none .(4) ?_ (by rw[Ic] <;> omega);rw[m5,<- hlen];refine⟨.ref s.heap.objs.size,_,I.laid (t':=s.toks) (o:=.lst (mD xs lo hi)) (λb ob q=>pq _ q) .(3) ?_,rfl,q _ (I.hok.fresh .(3))⟩;exact⟨Il (kn xs lo hi) hz,_,0,(r.drop (HT.sIx xs.length 0 lo)).take .(143),Ib _ rfl⟩
def jh:fH X (.builtin "len") (λxs H Q=>∃p ys,xs=[.ref p]/\(SqL X.K H p ys\/SqT X.K H p ys)/\Q (.int ys.length) H):=by
 intro pins s σ H xs us Q I r h;obtain⟨p,ys,rfl,hq,q⟩:=h;obtain⟨u,rfl,rx⟩:=vals1 r;cases rx;have hn:=oY;rcases hq with hq | hq
 . obtain⟨its,r',pl,hz⟩:=I.list hq;have hlen:=r'.length;exact Calls.call_len_list pl.isList .(14) ⟨.int ys.length,H,I.tok _,⟨s.toks+1,by rw[Ic,hlen]⟩,q⟩
 . obtain⟨its,r',pl,hz⟩:=I.tuple hq;have hlen:=r'.length;exact len_tuple pl .(14) ⟨.int ys.length,H,I.tok _,⟨s.toks+1,by rw[Ic,hlen]⟩,q⟩
def jH:fH X (.type "list") (λxs H Q=>∃p ys,xs=[.ref p]/\(SqL X.K H p ys\/SqT X.K H p ys)/\∀l,H l=none->Q (.ref l) (upd H l (.lst ys))):=by
 intro pins s σ H xs us Q I r h;obtain⟨p,ys,rfl,hq,q⟩:=h;obtain⟨u,rfl,rx⟩:=vals1 r;cases rx
 have fin:∀(its:List Value),Vals ys its->ys.length<=sizeLine->∀(h':Heap) (c':Nat),(∀b o',s.heap.get? b=some o'->h'.get? b=some o') ->
     h'.get? s.heap.objs.size=some { cls:=.type "list",dict:=none,data:=.seq its.toArray c',slots:=#[] }->EP X pins σ Q .(145) { s with heap:=h' }:=λits r' hz h' c' kp e=>
   ⟨.ref s.heap.objs.size,_,I.laid (t':=s.toks) kp .(3) (show bL X.prog X.w _ h' _ (.lst ys) from⟨hz,its,c',r',e⟩),rfl,q _ (I.hok.fresh .(3))⟩
 rcases hq with hq | hq
 . obtain⟨its,r',pl,hz⟩:=I.list hq;have hlen:=r'.length;obtain⟨o,ho,hc,n,hd⟩:=pl.isList;exact call_list_seq p (.inl rfl) ho hc hd (λh' c' kp e=>fin its r' hz h' c' kp e) .(14)
 . obtain⟨its,r',pl,hz⟩:=I.tuple hq;have hlen:=r'.length;obtain⟨o,ho,hc,n,hd⟩:=pl;exact call_list_seq p (.inr rfl) ho hc hd (λh' c' kp e=>fin its r' hz h' c' kp e) .(14)
def tyV (K:fw)(T:String)(x:V)(H:Hp):Prop:=match x with
 | .str _=>T = "str"
 | .int _=>T = "int"
 | .ref p=>(T = "list" /\ ∃xs,SqL K H p xs)\/(T = "tuple" /\ ∃o,K.lookup p=some o/\o.cls=.type "tuple" /\ o.dict=none) \/
     (T = "dict" /\ ((∃kvs,H p=some (.dK kvs))\/∃kvs,H p=some (.dT kvs)))\/(T = "set" /\ ∃S n,H p=some (.set S n))
 | _=>False
def Dq {pins:List .(104)}{σ:St}{s:Da}{T:String}(I:Inv X pins σ H s)(r:RelV x v)(ty:tyV X.K T x H):
   s.TypeIs v T/\∀a,v=.ref a->∃ob,s.heap.get? a=some ob/\ob.dict=none:=by
 cases x with
 | str z=>obtain⟨t,rfl⟩:=r;cases (show T = "str" from ty);exact⟨typeIs_str s z t,λ_ e=>nomatch e⟩
 | int i=>obtain⟨t,rfl⟩:=r;cases (show T = "int" from ty);exact⟨typeIs_int s i t,λ_ e=>nomatch e⟩
 | ref p=>
   cases r;rcases ty with ⟨rfl,xs,hq⟩ | ⟨rfl,o,hk,hc,hd⟩ | ⟨rfl,hk⟩ | ⟨rfl,S,n,hk⟩
   . obtain⟨its,_,pl,_⟩:=I.list hq;refine⟨pl.isList.typeIs,λa e=>?_⟩;cases e;obtain⟨o,n,e,c,hd,_⟩:=pl;exact⟨o,e,hd⟩
   . refine⟨⟨o,I.kIn p o hk,hc⟩,λa e=>?_⟩;cases e;exact⟨o,I.kIn _ o hk,hd⟩
   . have z:∃o,s.heap.get? p=some o/\o.ExactDict:=by
       rcases hk with ⟨kvs,hk⟩ | ⟨kvs,hk⟩
       . obtain⟨_,_,_,_,o,_,_,e,ex,_⟩:=I.hok p _ hk;exact⟨o,e,ex⟩
       . obtain⟨_,_,_,_,o,_,_,e,ex,_⟩:=I.hok p _ hk;exact⟨o,e,ex⟩
     obtain⟨o,e,ex⟩:=z;refine⟨⟨o,e,ex.1⟩,λa e2=>?_⟩;cases e2;exact⟨o,e,ex.2.1⟩
   . obtain⟨o,_,_,_,e,ex,_⟩:=I.hok p _ hk;refine⟨⟨o,e,ex.1⟩,λa e2=>?_⟩;cases e2;exact⟨o,e,ex.2.1⟩
 | _=>exact KA ty
def tBM (K:fw)(T:String)(r:V->List V->Hp->VK->Prop)(to:TE)(t:TA):TE:=λσ H Q=>to σ H λx H1=>tyV K T x H1/\t σ H1 λxs H2=>r x xs H2 Q
variable {o e:Expr}{es:List Expr}{to:TE}{t:TA}{name:Str}{apos cpos:Pos}{T id:String}{r:V->List V->Hp->VK->Prop}
def jz (pa:PlainAttrs T)(slot:Slot T name id)(hty:typeOf (.builtin id)=pure (.type "method_descriptor"))(hm:MtR X id r)(ho:PE X o to)(ha:PA X (e::es) t)
   (hbase:N4 o name X.env (eval o X.env)=eval o X.env:=by rfl)
   (hfew:((KF cpos (Do (e::es) X.env)).all (λx=>!x.1)&&(NO cpos (N8 [] X.env)).all (λx=>x.1.isSome)
     && decide ((e::es).length+([]:List N6).length+(if ([]:List N6).isEmpty then 0 else 1)<30))=true:=by rfl)
   (hline:(apos.endLine==cpos.line)=true:=by rfl) (hs:Do (e::es) X.env=.(113)::Do es X.env:=by rfl) (hplain:(KF cpos (Do es X.env)).any (·.1)=false:=by rfl) :
   PE X (.Call (.Attribute o name apos) (e::es) [] cpos) (tBM X.K T r to t):=by
 intro pins s σ H Q I h;refine wpAny_Call_method_late hbase hfew hline rfl (thn (ho pins s σ H _ I h) λv s1 ⟨x,H1,I1,r1,ty,q1⟩=>?_);obtain⟨h1,h2⟩:=Dq I1 r1 ty;refine⟨T,id,pa,slot,hty,h1,h2,?_⟩;have hA:=ha cpos pins s1 σ H1 _ I1 q1;rw[hs]at hA ⊢;refine Nj (by show (false||(KF cpos (Do es X.env)).any (·.1))=false; rw[hplain] <;> rfl) (Calls.evalArgs_plain ?_);exact thn hA λus s2 ⟨vs,H2,I2,r2,q2⟩=>hm pins s2 σ H2 x vs v us Q I2 r1 r2 q2
end
def MtM (X:Cx)(id:String)(r:V->List V->Hp->VK->Prop):Prop:=
 ∀(pins:List .(104)) (s:Da) (σ:St) (H:Hp) (x:V) (xs:List V) (v:Value) (us:List Value) (Q:VK),Inv X pins σ H s->RelV x v->Vals xs us->r x xs H Q ->
   wpAny .(100) X.A (call (.builtin id) (v::us)) (EP X pins σ Q) X.xe s
def Vals.one:∀{x:V} {us:List Value},Vals [x] us->∃u,us=[u]/\RelV x u
 | _,_,.cons r .nil=>⟨_,rfl,r⟩
def Vals.two:∀{x y:V} {us:List Value},Vals [x,y] us->∃u v,us=[u,v]/\RelV x u/\RelV y v
 | _,_,_,.cons r (.cons q .nil)=>⟨_,_,rfl,r,q⟩
def Vals.eraseIdx:∀{xs:List V} {us:List Value} (i:Nat),Vals xs us->Vals (xs.eraseIdx i) (us.eraseIdx i)
 | _,_,_,.nil=>.nil
 | _,_,0,.cons _ t=>t
 | _,_,i+1,.cons r t=>.cons r (Vals.eraseIdx i t)
theorem Vals.rep (h:Vals xs us):∀k:Nat,Vals (Ii k xs).flatten (Ii k us).flatten
 | 0=>.nil
 | k+1=>by rw[Jk,Jk,Jz,Jz];exact Vals.append h (Vals.rep h k)
def nZ {α:Type}:∀(l:List α) (i:Nat),(l.eraseIdx i).length<=l.length
 | [],_=>IE _
 | _::_,0=>LL _
 | _::r,i+1=>MQ (nZ r i)
theorem foldl_rep (its:List Value):∀(k:Nat) (acc:List Value),
   List.foldl (λx1 x2=>x1++x2) acc.toArray (Ii k its.toArray)=(acc++(Ii k its).flatten).toArray
 | 0,acc=>by simp
 | k+1,acc=>by
   have e:acc.toArray++its.toArray=(acc++its).toArray:=by simp
   have e2:(acc++its)++(Ii k its).flatten=acc++(Ii (k+1) its).flatten:=by rw[Jk,Jz,IY]
   rw[<- e2,<- foldl_rep its k (acc++its),<- e,Jk,L6]
section
variable {X:Cx}{pins:List .(104)}{σ:St}{H:Hp}{s:Da}{l:Addr}{xs ys:List V}
def Inv.AG {its its':List Value}(I:Inv X pins σ H s)(hH:H l=some (.lst xs))
   (e:s.heap.get? l=some { cls:=.type "list",data:=.seq its.toArray n }) (hf:f its.toArray=its'.toArray) (hv:Vals ys its') (hz:ys.length<=sizeLine) :
   Inv X pins σ (upd H l (.lst ys)) { s with heap:=s.heap.update l (ME f),toks:=t' }:=by
 have q:=PySem.IsL.update e f;rw[hf]at q;refine I.write (x:=l) (e:=l) (by rw[hH]; exact trivial) (.inl rfl) (λb' u hb hu=>(Js s.heap (ME f) (Je hb)).trans hu) ⟨_,q⟩ ?_;exact⟨hz,its',_,hv,q⟩
def Inv.Fh (I:Inv X pins σ H s)(hv:Vals ys its)(hz:ys.length<=sizeLine):
   Inv X pins σ (upd H s.heap.objs.size (.lst ys)) { s with heap:=s.heap.push { cls:=.type "list",data:=.seq its.toArray },toks:=t' }:=
 I.laid (λ_ _ q=>pq _ q) .(3) ⟨hz,its,0,hv,Ib _ rfl⟩
def Inv.fresh (I:Inv X pins σ H s):H s.heap.objs.size=none:=I.hok.fresh .(3)
def Inv.xi (I:Inv X pins σ H s)(hH:H l=some (.lst xs)):xs.length<=sizeLine/\∃(its:List Value) (n:Nat),Vals xs its/\xs.length=its.length/\s.heap.get? l=some { cls:=.type "list",data:=.seq its.toArray n }:=by obtain⟨z,its,n,r,e⟩:=I.hok l _ hH;exact⟨z,its,n,r,r.length,e⟩
def qz (h:n<=sizeLine):K6 n=false:=by unfold Builtin.List.listTooLong;exact decide_eq_false .(0)
end
section
variable {X:Cx}
def Ao:V->List V->Hp->VK->Prop:=λx vs H Q=>∃l xs y,x=.ref l/\vs=[y]/\H l=some (.lst xs)/\xs.length<sizeLine/\Q .non (upd H l (.lst (xs++[y])))
def fK:MtM X "list.append" Ao:=by intro pins s σ H x vs v us Q I rx rv h;obtain⟨l,xs,y,rfl,rfl,hH,hz,q⟩:=h;cases rx;obtain⟨u,rfl,ru⟩:=rv.one;obtain⟨z,its,n,r,hl,e⟩:=I.xi hH;refine O0 KJ ⟨_,e,rfl⟩ F.entry_list_append (F.args_list_append_2 _ _) (PySem.list_append l its.toArray n u .(18)) ⟨e,?_⟩;refine⟨.non,_,I.AG (its':=its++[u]) hH e .(4) (r.append (.cons ru .nil)) ?_,rfl,q⟩;rw[rp,IZ];omega
def Au:V->List V->Hp->VK->Prop:=λx vs H Q=>∃l b xs zs,x=.ref l/\vs=[.ref b]/\H l=some (.lst xs)/\H b=some (.lst zs)/\xs.length+zs.length<=sizeLine/\Q .non (upd H l (.lst (xs++zs)))
def jV:MtM X "list.extend" Au:=by
 intro pins s σ H x vs v us Q I rx rv h;obtain⟨l,b,xs,zs,rfl,rfl,hH,hB,hz,q⟩:=h;cases rx;obtain⟨u,rfl,ru⟩:=rv.one;cases ru;obtain⟨z,its,n,r,hl,e⟩:=I.xi hH;obtain⟨z2,its2,n2,r2,hl2,e2⟩:=I.xi hB;have hsz:its.toArray.size+its2.toArray.size<=sizeLine:=by rw[Ic,Ic]; omega
 have hlong:¬(!its.toArray.isEmpty&&K6 (its.toArray.size+its2.toArray.size))=true:=by rw[qz hsz,Bool.and_false];exact Ij
 refine O0 KI ⟨_,e,rfl⟩ F.entry_list_extend (F.args_list_extend_2 _ _)
   (AutoSeq1.list_extend_list_list_0 l its.toArray n b its2.toArray n2 hlong .(18) .(0)) ⟨e,e2,?_⟩
 refine⟨.non,_,I.AG (its':=its++its2) hH e .(4) (r.append r2) ?_,rfl,q⟩;rw[rp];omega
def Ek:V->List V->Hp->VK->Prop:=λx vs H Q=>∃l xs i k y,x=.ref l/\vs=[.int i]/\H l=some (.lst xs)/\-(2^63)<=i/\i<2^63/\seqIndex? i xs.length=some k/\xs[k]?=some y/\Q y (upd H l (.lst (xs.eraseIdx k)))
def xZ:MtM X "list.pop" Ek:=by
 intro pins s σ H x vs v us Q I rx rv h;obtain⟨l,xs,i,k,y,rfl,rfl,hH,h1,h2,hk,hy,q⟩:=h;cases rx;obtain⟨u,rfl,ru⟩:=rv.one;obtain⟨t,rfl⟩:=ru;obtain⟨z,its,n,r,hl,e⟩:=I.xi hH;obtain⟨w,hw,rw'⟩:=r.get hy
 refine O0 F.slot_list_pop ⟨_,e,rfl⟩ F.entry_list_pop (F.args_list_pop_2 _ _)
   (MeetsSeq.list_pop_at l its.toArray n i t k w (fitsIndex_both h1 h2) (by rw[Ic,<- hl]; exact hk) (by rw[<- LU]; exact hw) .(18)) ⟨e,?_⟩
 refine⟨y,_,I.AG (its':=its.eraseIdx k) hH e ?_ (r.eraseIdx k) ?_,rw',q⟩
 . show its.toArray.eraseIdxIfInBounds k=(its.eraseIdx k).toArray;rw[List.eraseIdxIfInBounds_toArray]
 . have:=nZ xs k;omega
def len_rep {α:Type}(xs:List α)(k:Nat):(Ii k xs).flatten.length=k*xs.length:=by
 induction k with
 | zero=>simp
 | succ k ih=>rw[Jk,Jz,rp,ih,Jr,Nat.add_comm]
end
end L2
namespace Att
open PySem PySem.W PySem.Calls PyProof.Rows
def kJ :∀(ns:List Int) (vs:List Value),WellAll P h vs (ns.map WData.int)->IntsAre vs ns:=by
 intro ns;induction ns with
 | nil=>intro vs w;rw[L3]at w;cases w;exact .nil
 | cons n ns ih=>
   intro vs w;rw[IJ]at w;cases w with
   | cons a b=>cases a;exact .cons _ _ (ih _ b)
def w8 {l:OpenLaw}(hn:l.most=some n){h:Heap}
   (hpre:l.row.toRowW.claim.pre args=true) (hwl:WellAll P h vals args) :
   ∃a vs ns,vals=[IT a]/\args=[WData.list (ns.map WData.int)]/\h.get? a=some { cls:=.type "list",data:=.seq vs.toArray }/\IntsAre vs ns/\ns.length<=n:=by
 have hsh:WShape.hasAll [] args [.list .int]=true:=(pre_splitW hpre).1;have hc:l.pre.holds [] { args:=args }=true:=(pre_splitW hpre).2;obtain⟨d,r,rfl,h1,h2⟩:=hasAllW_cons hsh;obtain rfl:=hasAllW_nil h2;obtain⟨xs,rfl,h3⟩:=hasW_list h1;obtain⟨ns,rfl⟩:=items_int h3
 have hlen:ns.length<=n:=by
   unfold OpenLaw.pre at hc;have h4:(WTm.not (.lt (.lit (.int (n:Int))) (.len (.arg 0)))).holds [] { args:=[.list (ns.map .int)] }=true:=by have h4:=(holds_andW hc).1;rw[hn]at h4;exact h4
   have h5:=condW_of h4 (w_not (w_lt w_lit (w_len_list (w_arg rfl))));rw[bp]at h5;refine Nat.le_of_not_lt λq=>?_;have q':(n:Int)<((ns.length:Nat):Int):=by omega
   first
     | (rw[decide_eq_true q']at h5; exact absurd h5 .(2))
     | (simp at h5; omega)
 cases hwl with
 | cons w1 w2=>
   cases w2;cases w1 with
   | list ho hall=>exact⟨_,_,ns,rfl,rfl,ho,kJ ns _ hall,hlen⟩
def v3 (l:OpenLaw)(args:List WData):l.row.toRowW.claim.post args (.bool true) args=true:=
 postW_of (r:=l.row.toRowW) (X:=(true==true))
   (show WShape.has [] (.bool true) .bool=true by first | rfl | decide | simp[WShape.has,WShape.arms,WShape.armsAll])
   (show (WTm.eq .res (.lit (.bool true))).value [] { args:=args,res:=some (.bool true),after:=args }=some (.bool (true==true)) from w_eq_bool (w_res rfl) w_lit) rfl
def qj {l:OpenLaw}{d:DefRec}
   (hn:l.most=some n) (hdf:d.params.defaults=[])
   (call:∀(w:World) (s₀ s₁:Da) (mg mb:Str->Option Value) (fa:Addr) (o:Obj) (pm cd doc:Value) (a:Addr) (vs:List Value) (ns:List Int),
     Ground q loose [] XP w s₀ mg mb s₁.heap->YP w s₁.heap ->
     s₁.heap.get? fa=some o->o.data=.func (docDef d.name d.params d.body d.scope pm cd doc)->s₁.heap.CodeRec cd d.name->mg d.name=some (.ref fa) ->
     s₁.heap.get? a=some { cls:=.type "list",data:=.seq vs.toArray }->IntsAre vs ns->ns.length<=n->s₁.gens=#[] ->
     O3 (model l.prog w) callerA (.call (.ref fa) ⟨[.ref a],[]⟩) (λr s'=>r=.ok (.ret (.bool true))/\OldK s₁.heap s'.heap/\s'.os=s₁.os/\O7 s'.gens) s₁) :
   WalkO q loose XP YP l.row.toRowW d [] (λf vs=>PySem.call f vs):=by
 intro w s₀ s₁ mg mb G Y fa o pm cd doc dV kV ho hd hcd hD hmg hg args vals as hpre hlay hrd hwl hlo;obtain rfl:dV=.none:=Dflts.none hD hdf;obtain rfl:kV=.none:=Dflts.noKw hD;obtain⟨a,vs,ns,rfl,rfl,hobj,hints,hlen⟩:=w8 hn hpre hwl;refine enter_call (codeAny_mono (call w s₀ s₁ mg mb fa o pm cd doc a vs ns G Y ho (fd_plain hd) hcd hmg hobj hints hlen hg) λr s' hq=>?_);obtain⟨rfl,h2,h3,h4⟩:=hq;exact⟨.inl ⟨.bool true,.bool true,[],rfl,λ_=>rfl,.bool true,v3 l _,λ_=>⟨M6,λ_ hm=>(nomatch hm)⟩⟩,h2,h3,h4⟩
end Att
namespace L2
open PySem PySem.Spec PyProof.Rows
def nC:∀{vs:List Value} {ns:List Int},IntsAre vs ns->Vals (ns.map V.int) vs
 | _,_,.nil=>.nil
 | _,_,.cons n t h=>.cons ⟨t,rfl⟩ (nC h)
def CK (H:Hp):Prop:=∀b,H b=none\/∃o xs,H b=some (.frz o (.lst xs))
end L2
namespace L2
open PySem PySem.Spec PyProof.Rows
noncomputable def gn (s:Stmt):Arguments:=match s with
 | .FunctionDef _ a _ _ _ _ _ _ _ _=>a
 | _=>{ posonlyargs:=[],args:=[],vararg:=none,kwonlyargs:=[],kw_defaults:=[],kwarg:=none,defaults:=[] }
noncomputable def cZ (s:Stmt):List Stmt:=match s with
 | .FunctionDef _ _ b _ _ _ _ _ _ _=>b
 | _=>[]
noncomputable def av (s:Stmt):Scope:=match s with
 | .FunctionDef _ _ _ _ _ _ sc _ _ _=>sc
 | _=>{ kind:=.function,names:=[],isGenerator:=false,isCoroutine:=false }
abbrev CX0:CXT:=λ_ _ _ _ _ _=>False
abbrev E0:XK:=λ_ _ _=>False
def Cv :Passes CX0 X E0:=λ_ _ _ _ _ _ _ h=>h.elim
structure Fun (K:fw)(x qual:Str)(st:Stmt)(f:Addr)(fd:Gc):Prop where
 ex:∃(oc:Value) (od:Option Addr) (dV kV doc pm:Value) (an:Option Addr) (cdv ct:Value) (osl:Array (Option Value)),
   fd=Kf x qual (gn st) (cZ st) (av st) dV kV doc pm an cdv ct/\K.lookup f=some ⟨oc,od,.func fd,osl⟩/\Lg K cdv qual=true
 kp:J9 K (.ref f)=true
section
variable {P:FB}{w:World}{K:fw}{mg:Str->Option Value}{base:Heap}
def Fun.ok {st:Stmt}{fd:Gc}{N ps:List Str}{sp:Sp}(F:Fun K x qual st f fd)(S:aJ N ps (av st))(len:∀vs H Q E,sp vs H Q E->vs.length=ps.length)
   (hbody:∀(cdv:Value) (A:GT) (outer:List Env) (s:Da) (H:Hp) (vs:List V) (Q:VK) (E:XK),gC k (A.deeper (Ol qual (av st) s.heap.objs.size f cdv))->sp vs H Q E ->
     ∃t,PSs (tT CX0 P w K mg base N qual (av st) f cdv A outer s H E).nox (cZ st) t/\t { nx:=λ_ H'=>Q .non H',rt:=Q } (start N vs) H):.(91) ps sp:=by
 obtain⟨oc,od,dV,kV,doc,pm,an,cdv,ct,osl,rfl,lk,hcd⟩:=F.ex;refine Gw lk hcd S len λA outer s H vs Q E hr hsp=>?_;obtain⟨t,h,q⟩:=hbody cdv A outer s H vs Q E hr hsp;exact⟨t,h.nox,q⟩
def Fun.binds {x qual:Str}{st:Stmt}{f:Addr}{fd:Gc}{ps:List Str}(_:Fun K x qual st f fd)(h:∀us:List Value,us.length=ps.length->bindArgs fd ⟨us,[]⟩=pure (ps.zip us)):Binds K fd ps []:=.all h
def zH {x qual:Str}{st:Stmt}{f:Addr}{oc:Value}{od an:Option Addr}{osl:Array (Option Value)}{dV kV doc pm cdv ct:Value}(l:K.lookup f=some ⟨oc,od,.func (Kf x qual (gn st) (cZ st) (av st) dV kV doc pm an cdv ct),osl⟩)
   (c:Lg K cdv qual=true) (k:J9 K (.ref f)=true):Fun K x qual st f (Kf x qual (gn st) (cZ st) (av st) dV kV doc pm an cdv ct):=⟨⟨oc,od,dV,kV,doc,pm,an,cdv,ct,osl,rfl,l,c⟩,k⟩
end
def jU (h:n<=1000):n<sizeLine:=IB h .(2)
section
variable {X:Cx}
def pv (i:Nat){x:Str}{pos:Pos}(hN:X.N[i]?=some x:=by rfl)(hv:Vis X.env.scope x:=by first | exact Ka rfl | exact Ji .(10) | exact Ji .(9))(hd:(x==("__debug__" : Str))=false:=by decide)
   (hcd:(x==("__classdict__" : Str))=false:=by decide):PE X (.Name x pos) (FE i):=bw hN hv hd hcd
end
def rJ {A B:Prop}(h:B):if false=true then A else B:=by rw[if_neg Ij];exact h
def pz {A B:Prop}(h:A):if true=true then A else B:=by rw[if_pos rfl];exact h
def ao (H H':Hp):Prop:=∀b o,H b=some o->H' b=some o
def ao.refl (H:Hp):ao H H:=λ_ _ h=>h
def ao.trans (a:ao H H1)(b:ao H1 H2):ao H H2:=λc o h=>b c o (a c o h)
def ao.free (e:ao H H')(h:H' l=Option.none):H l=Option.none:=by
 cases q:H l with
 | none=>rfl
 | some o=>rw[e l o q]at h;cases h
def ao.seq {K:fw}{xs:List V}(e:ao H H')(h:SqL K H a xs):SqL K H' a xs:=by
 rcases h with (h | ⟨o,h⟩) | h
 . exact .inl (.inl (e _ _ h))
 . exact .inl (.inr ⟨o,e _ _ h⟩)
 . exact .inr h
end L2
set_option linter.all false
set_option maxRecDepth 100000
namespace Ev
open PySem PySem.Spec PyProof.Rows L2
structure Bx where
 p:fw->Hp->Addr->Prop
 mono:∀{K:fw} {H H':Hp} {a:Addr},ao H H'->p K H a->p K H' a
 isd:∀{K:fw} {H:Hp} {a:Addr},p K H a->∃o:HO,H a=some o/\∀(P:FB) (w:World) (H':Hp) (h:Heap),bL P w H' h a o->∃ob,h.get? a=some ob/\ob.cls=.type "dict"
inductive D where
 | non | bl (b:Bool) | int (i:Int) | str (x:Str) | tup (xs:List D) | lst (xs:List D) | box (x:Bx)
noncomputable instance:Inhabited D:=⟨.non⟩
mutual
inductive Den (K:fw)(H:Hp):V->D->Prop where
 | non:Den K H .non .non
 | bl {b:Bool}:Den K H (.bl b) (.bl b)
 | int {i:Int}:Den K H (.int i) (.int i)
 | str {x:Str}:Den K H (.str x) (.str x)
 | tup {a:Addr} {vs:List V} {ds:List D} (h:SqT K H a vs) (r:aw K H vs ds):Den K H (.ref a) (.tup ds)
 | lst {a:Addr} {vs:List V} {ds:List D} (h:SqL K H a vs) (r:aw K H vs ds):Den K H (.ref a) (.lst ds)
 | box {a:Addr} {x:Bx} (h:x.p K H a):Den K H (.ref a) (.box x)
inductive aw (K:fw)(H:Hp):List V->List D->Prop where
 | nil:aw K H [] []
 | cons {v:V} {d:D} {vs:List V} {ds:List D} (h:Den K H v d) (r:aw K H vs ds):aw K H (v::vs) (d::ds)
end
section
variable {K:fw}{H H':Hp}
def a5 (e:ao H H')(h:SqT K H a xs):SqT K H' a xs:=by
 rcases h with (h | ⟨o,h⟩) | h
 . exact .inl (.inl (e _ _ h))
 . exact .inl (.inr ⟨o,e _ _ h⟩)
 . exact .inr h
def aR (e:ao H H')(h:SqL K H a xs):SqL K H' a xs:=e.seq h
mutual
theorem Den.mono (e:ao H H'):∀{v:V} {d:D},Den K H v d->Den K H' v d
 | _,_,.non=>.non
 | _,_,.bl=>.bl
 | _,_,.int=>.int
 | _,_,.str=>.str
 | _,_,.tup h r=>.tup (a5 e h) (aw.mono e r)
 | _,_,.lst h r=>.lst (aR e h) (aw.mono e r)
 | _,_,.box (x:=x) h=>.box (x.mono e h)
theorem aw.mono (e:ao H H'):∀{vs:List V} {ds:List D},aw K H vs ds->aw K H' vs ds
 | _,_,.nil=>.nil
 | _,_,.cons h r=>.cons (Den.mono e h) (aw.mono e r)
end
def aw.length:∀{vs:List V} {ds:List D},aw K H vs ds->vs.length=ds.length
 | _,_,.nil=>rfl
 | _,_,.cons _ r=>congrArg (·+1) r.length
theorem aw.get:∀{vs:List V} {ds:List D} {i:Nat} {d:D},aw K H vs ds->ds[i]?=some d->∃v,vs[i]?=some v/\Den K H v d
 | _,_,_,_,.nil,e=>by simp at e
 | _,_,0,_,.cons h _,e=>by simp at e; subst e; exact⟨_,rfl,h⟩
 | _,_,i+1,d,.cons _ r,e=>by obtain⟨v,h1,h2⟩:=aw.get (i:=i) (d:=d) r (by simpa using e);exact⟨v,by simpa using h1,h2⟩
theorem aw.append:∀{xs ys:List V} {ds es:List D},aw K H xs ds->aw K H ys es->aw K H (xs++ys) (ds++es)
 | _,_,_,_,.nil,s=>s
 | _,_,_,_,.cons h r,s=>.cons h (aw.append r s)
def aw.take:∀{xs:List V} {ds:List D} (n:Nat),aw K H xs ds->aw K H (xs.take n) (ds.take n)
 | _,_,0,_=>.nil
 | _,_,_+1,.nil=>.nil
 | _,_,n+1,.cons h r=>.cons h (aw.take n r)
def aw.drop:∀{xs:List V} {ds:List D} (n:Nat),aw K H xs ds->aw K H (xs.drop n) (ds.drop n)
 | _,_,0,r=>r
 | _,_,_+1,.nil=>.nil
 | _,_,n+1,.cons _ r=>aw.drop n r
end
def aI (i j:Int):Prop:=i.natAbs.log2<64\/j.natAbs.log2<64\/(i.natAbs.log2<1000000/\j.natAbs.log2<1000000)
def aK (j:Int):Prop:=j≠0/\j.natAbs.log2<9000
def aq (h:H p=none)(o:HO):ao H (upd H p o):=λb u q=>by rw[aF (a6 q h)]; exact q
noncomputable def Ite (K:fw)(a:Addr):L2.It:=⟨λi H=>∃xs x,SqL K H a xs/\xs[i]?=some x,λi H v H'=>∃p x,H p=none/\v=.ref p/\H'=upd H p (.tup [.int (i:Nat),x])/\∀xs,SqL K H a xs->xs[i]?=some x,λi H=>∃xs,SqL K H a xs/\xs.length<=i⟩
def wY {P:FB}{w:World}{K:fw}{ts:List Expr}{q:Nat}{tp:Pos}(a e it:Addr)(hne:e≠it):
   Turn P w K false (.Tuple ts q tp) (Ite K a) [e,it] e (λi h=>(∃old,IsEnum h e it (i:Nat) old)/\h.IsListIter it a i) where
 mem:=by simp
 obj:=λi h st b hb=>by
   obtain⟨⟨old,h1⟩,o,h2,h3,h4⟩:=st;rcases HZ.mp hb with rfl | hb
   . exact⟨_,h1,λv z=>nomatch z⟩
   . have z:b=it:=by simpa using hb
     subst z;exact⟨o,h2,λv z=>by rw[h4]at z; cases z⟩
 keep:=λi h h' st k=>by obtain⟨⟨old,h1⟩,o,h2,h3,h4⟩:=st;exact⟨⟨old,k e .(4) _ h1⟩,o,k it .(4) o h2,h3,h4⟩
 item:=by
   intro X hP hw hK hc i pins s σ H E I hf st hg;subst hP hw hK;obtain⟨xs,x,hq,hx⟩:=hg;obtain⟨its,rv,p,hz⟩:=I.list hq;obtain⟨u,hu,ru⟩:=rv.get hx;obtain⟨⟨old,h1⟩,h2⟩:=st;have fe:=hf e .(4);have fi:=hf it .(4);refine wpAny_pyNext_enum_item h1 h2 p.isList (x:=u) (by simpa using hu) hne λh' g1 g2 g3 g4 g5=>⟨_,rfl,?_⟩;refine wpAny_letOwnedTupleGo_enum (s:={ s with heap:=h',toks:=s.toks+1 }) g1 λh2' k1 k2=>?_;have hn:H s.heap.objs.size=none:=I.hok.fresh .(3);have le1:e<s.heap.objs.size:=HY h1;have le2:it<s.heap.objs.size:=by obtain⟨o,z,_⟩:=h2; exact HY z
   have kp:∀b o,b≠e->b≠it->s.heap.get? b=some o->h2'.get? b=some o:=λb o b1 b2 z=>(k2.2 b b1).trans (g5 b o b1 b2 z);have nt:h2'.get? s.heap.objs.size=some { cls:=.type "tuple",data:=.seq #[.int (i:Nat) s.toks,u] }:=(k2.2 _ (Nat.ne_of_gt le1)).trans g3;have ne1:∀b v,H b=some v->b≠e:=λb v z q=>by rw[q,fe.1]at z; cases z
   have ne2:∀b v,H b=some v->b≠it:=λb v z q=>by rw[q,fi.1]at z; cases z
   have hok0:HOk X.prog X.w H h2':=λb v z=>(I.hok b v z).lL (λc v' hc' q=>kp c v' (by
       rcases hc' with hc' | hc'
       . rw[hc']; exact ne1 b v z
       . exact ne1 c _ hc') (by
       rcases hc' with hc' | hc'
       . rw[hc']; exact ne2 b v z
       . exact ne2 c _ hc') q) (λ_ q=>q) λ_ _ q=>q
   have hok1:HOk X.prog X.w (upd H s.heap.objs.size (.tup [.int (i:Nat),x])) h2':=λb v z=>by
     by_cases hb:b=s.heap.objs.size
     . subst hb;rw[aN]at z; cases z;exact⟨(by show 2<=sizeLine; decide),[.int (i:Nat) s.toks,u],.cons ⟨_,rfl⟩ (.cons ru .nil),_,nt,rfl,_,rfl⟩
     . rw[aF hb]at z;exact(hok0 b v z).lL (λc v' _ q=>q) (λc q=>by rw[aF (a6 q hn)]; exact q) λc ys q=>by rw[aF (a6 q hn)]; exact q
   have I1:Inv X pins σ (upd H s.heap.objs.size (.tup [.int (i:Nat),x])) { s with heap:=h2',toks:=s.toks+1 }:=by
     refine I.step (g':=s.gens) (d':=s.drawn) (ch:=[e,it]) (λb hb=>?_) (λb o _ _ hc' z _=>kp b o (λq=>hc' (by simp[q])) (λq=>hc' (by simp[q])) z)
       (λb o _ _ hc' z _=>⟨o.slots,kp b o (λq=>hc' (by simp[q])) (λq=>hc' (by simp[q])) z⟩)
       (λb o hc' z n=>by rw[aF (IL (HY z))]; exact n) (λb o hc' z=>⟨o,kp b o (λq=>hc' (by simp[q])) (λq=>hc' (by simp[q])) z⟩)
       (λb ys z=>by rw[aF (a6 z hn)]; exact z) (λb o u z=>by rw[aF (a6 z hn)]; exact z) (λb ps z=>⟨#[],by rw[aF (a6 z hn),z]; simp⟩) (λm hm=>?_) hok1 I.bare
     . rcases HZ.mp hb with rfl | hb
       . exact⟨fe.2.2.2.1,fe.2.1,fe.2.2.2.2.1,fe.2.2.2.2.2⟩
       . have z:b=it:=by simpa using hb
         subst z;exact⟨fi.2.2.2.1,fi.2.1,fi.2.2.2.2.1,fi.2.2.2.2.2⟩
     . obtain⟨o,es,ep,ho,r⟩:=hm;exact⟨o,es,ep,kp _ o (Je fe.2.1) (Je fi.2.1) ho,r⟩
   refine⟨.ref s.heap.objs.size,_,I1,rfl,⟨s.heap.objs.size,x,hn,rfl,rfl,λys hy=>by rw[I.gU hy hq]; exact hx⟩,⟨⟨_,k1⟩,?_⟩,λb hb=>?_⟩
   . obtain⟨o,z1,z2,z3⟩:=g2;exact⟨o,(k2.2 it (Je hne)).trans z1,z2,z3⟩
   . rcases HZ.mp hb with rfl | hb
     . rw[aF (IL le1)]; exact fe.1
     . have z:b=it:=by simpa using hb
       subst z;rw[aF (IL le2)]; exact fi.1
 done:=by intro X hP hw hK hc i pins s σ H E I hf st hg;subst hP hw hK;obtain⟨xs,hq,hx⟩:=hg;obtain⟨its,rv,p,hz⟩:=I.list hq;obtain⟨⟨old,h1⟩,h2⟩:=st;obtain⟨f0,f1,f2,f3,f4,f5⟩:=hf it .(4);have hl:=rv.length;exact wpAny_pyNext_enum_end (I.ok.hd hc.calm) h1 h2 p.isList .(13) λh' eb=>⟨rfl,I.turned (t':=s.toks) (λb o hb z=>eb b o hb z) f0 f1 f3 f4 f5⟩
 self:=λ_ _ _ _ _ st h=>by obtain⟨⟨old,h1⟩,_⟩:=st;exact wpAny_pyIter_enum h1 h
section
variable {X:Cx}
def Dp (K:fw)(ta:TA):TI:=λσ H R=>ta σ H λvs H1=>∃a,vs=[.ref a]/\(∃xs,SqL K H1 a xs)/\R (Ite K a) H1
def wx:N7 "enumerate" = some (.type "enumerate"):=by decide +kernel
def oQ (hc:X.calm=true)(hg:Gl X "enumerate")(hm:X.mg "enumerate" = none)(ha:PA X [a] ta)(hs:Do [a] X.env=[.(121)]):
   PI X (.Tuple ts q tp) (.Call (.Name "enumerate" p) [a] [] pos) (Dp X.K ta):=by
 intro pins s σ H R I h;refine Call_ (dM I hg hm wx (IP (thn .(133) λus s1 ⟨vs,H1,I1,r1,q1⟩=>?_) hs rfl));obtain⟨l,e,⟨xs,hq⟩,q⟩:=q1;subst e;obtain⟨u,rfl,ru⟩:=vals1 r1;cases ru;obtain⟨its,rv,pl,hz⟩:=I1.list hq;refine call_enumerate_list pl.isList λh' g1 g2 g3 g4=>?_;refine wpAny_pyIter_enum (s:={ s1 with heap:=h' }) g1 ?_;have I2:Inv X pins σ H1 { s1 with heap:=h' }:=I1.kept (t':=s1.toks) g4;have n1:H1 (s1.heap.objs.size+1)=none:=I1.hok.fresh .(0);have n2:H1 s1.heap.objs.size=none:=I1.hok.fresh .(3);refine⟨false,s1.heap.objs.size+1,[s1.heap.objs.size+1,s1.heap.objs.size],_,_,H1,rfl,I2,.inl hc,wY l (s1.heap.objs.size+1) s1.heap.objs.size (LP _),⟨⟨_,g1⟩,g2⟩,λb hb=>?_,q⟩;rcases HZ.mp hb with rfl | hb
 . exact I1.kG .(0) n1
 . have z:b=s1.heap.objs.size:=by simpa using hb
   subst z;exact I1.kG .(3) n2
end
noncomputable def Itz (K:fw)(a b:Addr):L2.It:=
 ⟨λi H=>∃xs ys x y,SqL K H a xs/\SqL K H b ys/\xs[i]?=some x/\ys[i]?=some y,
  λi H v H'=>∃p x y,H p=none/\v=.ref p/\H'=upd H p (.tup [x,y])/\(∀xs,SqL K H a xs->xs[i]?=some x)/\∀ys,SqL K H b ys->ys[i]?=some y,
  λi H=>∃xs ys,SqL K H a xs/\SqL K H b ys/\(xs.length<=i\/ys.length<=i)⟩
def zSt (a b z TI TO i1 i2:Addr)(i:Nat)(h:Heap):Prop:=IsZip h z TI TO .none/\IsPair h TI (.ref i1) (.ref i2)/\(∃u v,IsPair h TO u v)/\h.IsListIter i1 a i/\h.IsListIter i2 b i
def nR {h:Heap}{a b z TI TO i1 i2:Addr}{xs ys:Array Value}(n:TI≠TO)(m:i1≠i2)(s:zSt a b z TI TO i1 i2 i h)(l1:h.IsList a xs)(l2:h.IsList b ys):ZipApart z TI TO i1 i2 a b:=by
 obtain⟨h1,h2,⟨u,v,h3⟩,⟨o4,h4,c4,d4⟩,⟨o5,h5,c5,d5⟩⟩:=s;obtain⟨o6,h6,c6,n6,d6⟩:=l1;obtain⟨o7,h7,c7,n7,d7⟩:=l2;have kk:∀{x y:Addr} {o p:Obj},h.get? x=some o->h.get? y=some p->o.cls≠p.cls->x≠y:=λe1 e2 c q=>by subst q; rw[e1]at e2; cases e2; exact c rfl
 have cz:∀{s t:String},s≠t->LV s≠LV t:=λn q=>n (by cases q; rfl);refine⟨kk h2 h1 (cz .(2)),kk h3 h1 (cz .(2)),kk h4 h1 ?_,kk h5 h1 ?_,n,kk h2 h4 ?_,kk h2 h5 ?_,kk h3 h4 ?_,kk h3 h5 ?_,m,kk h6 h1 ?_,kk h6 h3 ?_,kk h6 h4 ?_,kk h6 h5 ?_,kk h7 h1 ?_,kk h7 h3 ?_,kk h7 h4 ?_,kk h7 h5 ?_⟩
 all_goals first | (rw[c4]; exact cz .(2)) | (rw[c5]; exact cz .(2)) | (rw[c6]; exact cz .(2)) | (rw[c7]; exact cz .(2)) | (rw[c6,c4]; exact cz .(2)) | (rw[c6,c5]; exact cz .(2)) | (rw[c7,c4]; exact cz .(2)) | (rw[c7,c5]; exact cz .(2))
def xt {P:FB}{w:World}{K:fw}{ts:List Expr}{q:Nat}{tp:Pos}(a b z TI TO i1 i2:Addr)(nT:TI≠TO)(nI:i1≠i2):
   Turn P w K false (.Tuple ts q tp) (Itz K a b) [z,TI,TO,i1,i2] z (zSt a b z TI TO i1 i2) where
 mem:=by simp
 obj:=λi h st c hb=>by
   obtain⟨h1,h2,⟨u,v,h3⟩,⟨o4,h4,c4,d4⟩,⟨o5,h5,c5,d5⟩⟩:=st;simp only[HZ,Jm,or_false]at hb;rcases hb with rfl | rfl | rfl | rfl | rfl
   . exact⟨_,h1,λv z=>nomatch z⟩
   . exact⟨_,h2,λv z=>nomatch z⟩
   . exact⟨_,h3,λv z=>nomatch z⟩
   . exact⟨_,h4,λv z=>by rw[d4]at z; cases z⟩
   . exact⟨_,h5,λv z=>by rw[d5]at z; cases z⟩
 keep:=λi h h' st k=>by obtain⟨h1,h2,⟨u,v,h3⟩,⟨o4,h4,c4,d4⟩,⟨o5,h5,c5,d5⟩⟩:=st;exact⟨k z .(4) _ h1,k TI .(4) _ h2,⟨u,v,k TO .(4) _ h3⟩,⟨o4,k i1 .(4) _ h4,c4,d4⟩,⟨o5,k i2 .(4) _ h5,c5,d5⟩⟩
 item:=by
   intro X hP hw hK hc i pins s σ H E I hf st hg;subst hP hw hK;obtain⟨xs,ys,x,y,hq1,hq2,hx,hy⟩:=hg;obtain⟨its1,rv1,p1,hz1⟩:=I.list hq1;obtain⟨its2,rv2,p2,hz2⟩:=I.list hq2;obtain⟨u1,hu1,ru1⟩:=rv1.get hx;obtain⟨u2,hu2,ru2⟩:=rv2.get hy;have D:=nR nT nI st p1.isList p2.isList;obtain⟨h1,h2,⟨u,v,h3⟩,h4,h5⟩:=st;refine wpAny_pyNext_zip_item D h1 h2 h3 h4 h5 p1.isList p2.isList (x:=u1) (y:=u2) (by simpa using hu1) (by simpa using hu2) λh' g1 g2 g3 g4 g5 g6 g7=>⟨_,rfl,?_⟩;refine wpAny_letOwnedTupleGo_zip (s:={ s with heap:=h' }) g1 λh2' k1 k2=>?_;have hn:H s.heap.objs.size=none:=I.hok.fresh .(3);have le1:z<s.heap.objs.size:=HY h1;have lt2:TI<s.heap.objs.size:=HY h2;have lt3:TO<s.heap.objs.size:=HY h3;have lt4:i1<s.heap.objs.size:=by obtain⟨o,z,_⟩:=h4; exact HY z
   have lt5:i2<s.heap.objs.size:=by obtain⟨o,z,_⟩:=h5; exact HY z
   have kp:∀c o,c≠z->c≠TO->c≠i1->c≠i2->s.heap.get? c=some o->h2'.get? c=some o:=λc o b1 b2 b3 b4 e=>(k2.2 c b1).trans (g7 c o b1 b2 b3 b4 e);have nt:IsPair h2' s.heap.objs.size u1 u2:=(k2.2 _ (Nat.ne_of_gt le1)).trans g5;have ne:∀c,c∈[z,TI,TO,i1,i2]->∀d v,H d=some v->d≠c:=λc hc d v e q=>by have:=(hf c hc).1;rw[q,this]at e; cases e
   have hok0:HOk X.prog X.w H h2':=λd v e=>(I.hok d v e).lL (λc v' hc' q=>kp c v'
       (by rcases hc' with hc' | hc'
           . rw[hc']; exact ne z .(4) d v e
           . exact ne z .(4) c _ hc')
       (by rcases hc' with hc' | hc'
           . rw[hc']; exact ne TO .(4) d v e
           . exact ne TO .(4) c _ hc')
       (by rcases hc' with hc' | hc'
           . rw[hc']; exact ne i1 .(4) d v e
           . exact ne i1 .(4) c _ hc')
       (by rcases hc' with hc' | hc'
           . rw[hc']; exact ne i2 .(4) d v e
           . exact ne i2 .(4) c _ hc') q) (λ_ q=>q) λ_ _ q=>q
   have hok1:HOk X.prog X.w (upd H s.heap.objs.size (.tup [x,y])) h2':=λd v e=>by
     by_cases hb:d=s.heap.objs.size
     . subst hb;rw[aN]at e; cases e;exact⟨(by show 2<=sizeLine; decide),[u1,u2],.cons ru1 (.cons ru2 .nil),_,nt,rfl,_,rfl⟩
     . rw[aF hb]at e;exact(hok0 d v e).lL (λc v' _ q=>q) (λc q=>by rw[aF (a6 q hn)]; exact q) λc ys q=>by rw[aF (a6 q hn)]; exact q
   have I1:Inv X pins σ (upd H s.heap.objs.size (.tup [x,y])) { s with heap:=h2' }:=by
     refine I.step (t':=s.toks) (g':=s.gens) (d':=s.drawn) (ch:=[z,TO,i1,i2]) (λc hb=>?_) (λc o _ _ hc' e _=>kp c o (λq=>hc' (by simp[q])) (λq=>hc' (by simp[q])) (λq=>hc' (by simp[q])) (λq=>hc' (by simp[q])) e)
       (λc o _ _ hc' e _=>⟨o.slots,kp c o (λq=>hc' (by simp[q])) (λq=>hc' (by simp[q])) (λq=>hc' (by simp[q])) (λq=>hc' (by simp[q])) e⟩)
       (λc o hc' e n=>by rw[aF (IL (HY e))]; exact n) (λc o hc' e=>⟨o,kp c o (λq=>hc' (by simp[q])) (λq=>hc' (by simp[q])) (λq=>hc' (by simp[q])) (λq=>hc' (by simp[q])) e⟩)
       (λc ys e=>by rw[aF (a6 e hn)]; exact e) (λc o u e=>by rw[aF (a6 e hn)]; exact e) (λc ps e=>⟨#[],by rw[aF (a6 e hn),e]; simp⟩) (λm hm=>?_) hok1 I.bare
     . have hb':c∈[z,TI,TO,i1,i2]:=by simp only[HZ,Jm,or_false]at hb ⊢;rcases hb with h | h | h | h <;> simp[h]
       have fe:=hf c hb';exact⟨fe.2.2.2.1,fe.2.1,fe.2.2.2.2.1,fe.2.2.2.2.2⟩
     . obtain⟨o,es,ep,ho,r⟩:=hm;exact⟨o,es,ep,kp _ o (Je (hf z .(4)).2.1) (Je (hf TO .(4)).2.1) (Je (hf i1 .(4)).2.1) (Je (hf i2 .(4)).2.1) ho,r⟩
   refine⟨.ref s.heap.objs.size,_,I1,rfl,⟨s.heap.objs.size,x,y,hn,rfl,rfl,λzs hy'=>by rw[I.gU hy' hq1]; exact hx,λzs hy'=>by rw[I.gU hy' hq2]; exact hy⟩,⟨k1,?_,⟨u1,u2,(k2.2 TO D.TOz).trans g2⟩,?_,?_⟩,λc hb=>?_⟩
   . exact kp TI _ D.TIz D.TITO D.TIi1 D.TIi2 h2
   . obtain⟨o,z1,z2,z3⟩:=g3;exact⟨o,(k2.2 i1 D.i1z).trans z1,z2,z3⟩
   . obtain⟨o,z1,z2,z3⟩:=g4;exact⟨o,(k2.2 i2 D.i2z).trans z1,z2,z3⟩
   . have fc:=(hf c hb).1;have lt:c<s.heap.objs.size:=by simp only[HZ,Jm,or_false]at hb;rcases hb with rfl | rfl | rfl | rfl | rfl <;> assumption
     rw[aF (IL lt)];exact fc
 done:=by
   intro X hP hw hK hc i pins s σ H E I hf st hg;subst hP hw hK;obtain⟨xs,ys,hq1,hq2,hx⟩:=hg;obtain⟨its1,rv1,p1,hz1⟩:=I.list hq1;obtain⟨its2,rv2,p2,hz2⟩:=I.list hq2;have D:=nR nT nI st p1.isList p2.isList;obtain⟨h1,h2,⟨u,v,h3⟩,h4,h5⟩:=st;have hl1:=rv1.length;have hl2:=rv2.length
   refine wpAny_pyNext_zip_end (I.ok.hd hc.calm) D h1 h2 h3 h4 h5 p1.isList p2.isList (by
     rcases hx with hx | hx
     . left; simp; omega
     . right; simp; omega) λh' eb=>⟨rfl,?_⟩
   have ne:∀c,c∈[z,TI,TO,i1,i2]->∀d v,H d=some v->d≠c:=λc hc d v e q=>by have:=(hf c hc).1;rw[q,this]at e; cases e
   have hok0:HOk X.prog X.w H h':=λd v e=>(I.hok d v e).lL (λc v' hc' q=>eb c v'
       (by rcases hc' with hc' | hc'
           . rw[hc']; exact ne z .(4) d v e
           . exact ne z .(4) c _ hc')
       (by rcases hc' with hc' | hc'
           . rw[hc']; exact ne TO .(4) d v e
           . exact ne TO .(4) c _ hc')
       (by rcases hc' with hc' | hc'
           . rw[hc']; exact ne i1 .(4) d v e
           . exact ne i1 .(4) c _ hc')
       (by rcases hc' with hc' | hc'
           . rw[hc']; exact ne i2 .(4) d v e
           . exact ne i2 .(4) c _ hc') q) (λ_ q=>q) λ_ _ q=>q
   refine I.step (t':=s.toks) (g':=s.gens) (d':=s.drawn) (ch:=[z,TO,i1,i2]) (λc hb=>?_) (λc o _ _ hc' e _=>eb c o (λq=>hc' (by simp[q])) (λq=>hc' (by simp[q])) (λq=>hc' (by simp[q])) (λq=>hc' (by simp[q])) e)
       (λc o _ _ hc' e _=>⟨o.slots,eb c o (λq=>hc' (by simp[q])) (λq=>hc' (by simp[q])) (λq=>hc' (by simp[q])) (λq=>hc' (by simp[q])) e⟩)
       (λc o hc' e n=>n) (λc o hc' e=>⟨o,eb c o (λq=>hc' (by simp[q])) (λq=>hc' (by simp[q])) (λq=>hc' (by simp[q])) (λq=>hc' (by simp[q])) e⟩)
       (λc ys e=>e) (λc o u e=>e) (λc ps e=>⟨#[],by rw[e]; simp⟩) (λm hm=>?_) hok0 I.bare
   . have hb':c∈[z,TI,TO,i1,i2]:=by simp only[HZ,Jm,or_false]at hb ⊢;rcases hb with h | h | h | h <;> simp[h]
     have fe:=hf c hb';exact⟨fe.2.2.2.1,fe.2.1,fe.2.2.2.2.1,fe.2.2.2.2.2⟩
   . obtain⟨o,es,ep,ho,r⟩:=hm;exact⟨o,es,ep,eb _ o (Je (hf z .(4)).2.1) (Je (hf TO .(4)).2.1) (Je (hf i1 .(4)).2.1) (Je (hf i2 .(4)).2.1) ho,r⟩
 self:=λ_ _ _ _ _ st h=>wpAny_pyIter_zip st.1 h
section
variable {X:Cx}
def DO (K:fw)(ta:TA):TI:=λσ H R=>ta σ H λvs H1=>∃a b,vs=[.ref a,.ref b]/\(∃xs,SqL K H1 a xs)/\(∃ys,SqL K H1 b ys)/\R (Itz K a b) H1
def tH (hc:X.calm=true)(hg:Gl X "zip")(hm:X.mg "zip" = none)(ha:PA X [a,b] ta)(hs:Do [a,b] X.env=.(121)::Do [b] X.env)(hs2:Do [b] X.env=[(false,eval b X.env)]):
   PI X (.Tuple ts q tp) (.Call (.Name "zip" p) [a,b] [] pos) (DO X.K ta):=by
 intro pins s σ H R I h;refine Call_ (dM I hg hm boot_zip (IP (thn .(133) λus s1 ⟨vs,H1,I1,r1,q1⟩=>?_) hs (by rw[hs2]; rfl)));obtain⟨l,l',e,⟨xs,hq1⟩,⟨ys,hq2⟩,q⟩:=q1;subst e;obtain⟨u,u',rfl,ru,ru'⟩:=vals2 r1;cases ru;cases ru';obtain⟨its1,rv1,pl1,hz1⟩:=I1.list hq1;obtain⟨its2,rv2,pl2,hz2⟩:=I1.list hq2;refine call_zip_2 pl1.isList pl2.isList λh' g1 g2 g3 g4 g5 g6 g7=>?_;refine wpAny_pyIter_zip (s:={ s1 with heap:=h' }) g1 ?_;have I2:Inv X pins σ H1 { s1 with heap:=h' }:=I1.kept (t':=s1.toks) g7;have nn:∀j,H1 (s1.heap.objs.size+j)=none:=λj=>I1.hok.fresh .(0);refine⟨false,s1.heap.objs.size+4,[s1.heap.objs.size+4,s1.heap.objs.size+2,s1.heap.objs.size+3,s1.heap.objs.size,s1.heap.objs.size+1],_,_,H1,rfl,I2,.inl hc,xt l l' (s1.heap.objs.size+4) (s1.heap.objs.size+2) (s1.heap.objs.size+3) s1.heap.objs.size (s1.heap.objs.size+1) .(4) (Je (LP _)),⟨g1,g2,⟨_,_,g3⟩,g4,g5⟩,λc hb=>?_,q⟩
 have hb':∃j,c=s1.heap.objs.size+j:=by
   simp only[HZ,Jm,or_false]at hb;rcases hb with h | h | h | h | h
   . exact⟨_,h⟩
   . exact⟨_,h⟩
   . exact⟨_,h⟩
   . exact⟨0,h⟩
   . exact⟨_,h⟩
 obtain⟨j,rfl⟩:=hb';exact I1.kG (Nat.le_add_right _ _) (nn j)
end
noncomputable def Itv (K:fw)(a:Addr)(n:Nat):L2.It:=⟨λi H=>i<n/\∃xs x,SqL K H a xs/\xs[n-1-i]?=some x,λi H x H'=>H'=H/\∀xs,SqL K H a xs->xs[n-1-i]?=some x,λi _=>n<=i⟩
def yR {P:FB}{w:World}{K:fw}{tg:Expr}(a it:Addr)(n:Nat):
   Turn P w K false tg (Itv K a n) [it] it (λi h=>i<=n/\h.IsRevIter it a ((n:Int)-1-(i:Int))) where
 mem:=by simp
 obj:=λi h st b hb=>by
   have e:b=it:=by simpa using hb
   subst e;obtain⟨o,e,c,d⟩:=st.2;exact⟨o,e,λv z=>by rw[d]at z; cases z⟩
 keep:=λi h h' st k=>⟨st.1,st.2.at λo e=>k it .(4) o e⟩
 item:=by intro X hP hw hK hc i pins s σ H E I hf st hg;subst hP hw hK;obtain⟨hi,xs,x,hq,hx⟩:=hg;obtain⟨its,rv,p,hz⟩:=I.list hq;obtain⟨u,hu,ru⟩:=rv.get hx;obtain⟨f0,f1,f2,f3,f4,f5⟩:=hf it .(4);have st2:=st.2;rw[show (n:Int)-1-(i:Int)=((n-1-i:Nat):Int) by omega]at st2;refine wpAny_pyNext_rev_item st2 p.isList (x:=u) (by simpa using hu) λh' st' sb=>?_;have I1:Inv X pins σ H { s with heap:=h' }:=I.turned (t':=s.toks) (λb o hb e=>(sb.2 b hb).trans e) f0 f1 f3 f4 f5;obtain⟨o,e,c,d⟩:=id st';refine⟨u,rfl,kg (s:={ s with heap:=h' }) e c d .(2) ⟨x,H,I1,ru,⟨rfl,λys hy=>by rw[I.gU hy hq]; exact hx⟩,⟨hi,?_⟩,λb hb=>(hf b hb).1⟩⟩;rw[show (n:Int)-1-((i+1:Nat):Int)=((n-1-i:Nat):Int)-1 by omega];exact st'
 done:=by intro X hP hw hK hc i pins s σ H E I hf st hg;subst hP hw hK;obtain⟨f0,f1,f2,f3,f4,f5⟩:=hf it .(4);have st2:=st.2;have hg:n<=i:=hg;rw[show (n:Int)-1-(i:Int)=-1 by have:=st.1; omega]at st2;exact wpAny_pyNext_rev_end (I.ok.hd hc.calm) st2 λh' eb=>⟨rfl,I.turned (t':=s.toks) (λb o hb e=>eb b o hb e) f0 f1 f3 f4 f5⟩
 self:=λ_ _ _ _ _ st h=>wpAny_pyIter_revIter st.2 h
section
variable {X:Cx}{tg:Expr}
def EK (K:fw)(ta:TA):TI:=λσ H R=>ta σ H λvs H1=>∃a xs,vs=[.ref a]/\SqL K H1 a xs/\R (Itv K a xs.length) H1
def qR:N7 "reversed" = some (.type "reversed"):=by decide +kernel
def sQ (hc:X.calm=true)(hg:Gl X "reversed")(hm:X.mg "reversed" = none)(ha:PA X [a] ta)(hs:Do [a] X.env=[.(121)]):PI X tg (.Call (.Name "reversed" p) [a] [] pos) (EK X.K ta):=by
 intro pins s σ H R I h;refine Call_ (dM I hg hm qR (IP (thn .(133) λus s1 ⟨vs,H1,I1,r1,q1⟩=>?_) hs rfl));obtain⟨l,xs,e,hq,q⟩:=q1;subst e;obtain⟨u,rfl,ru⟩:=vals1 r1;cases ru;obtain⟨its,rv,pl,hz⟩:=I1.list hq;have hl:=rv.length;refine call_reversed_list pl.isList ?_;have st:({ s1 with heap:=s1.heap.push (revObj l ((its.toArray.size:Int)-1)) }:Da).heap.IsRevIter s1.heap.objs.size l ((its.toArray.size:Int)-1):=⟨_,Ib _ rfl,rfl,rfl⟩;refine wpAny_pyIter_revIter st ?_;refine⟨false,s1.heap.objs.size,[s1.heap.objs.size],_,_,H1,rfl,I1.kept (t':=s1.toks) (λb o e=>pq _ e),.inl hc,yR l _ xs.length,⟨Im _,?_⟩,λb hb=>?_,q⟩
 . rw[show (xs.length:Int)-1-((0:Nat):Int)=(its.toArray.size:Int)-1 by rw[Ic,<- hl]; omega];exact st
 . have e:b=s1.heap.objs.size:=by simpa using hb
   subst e;exact I1.kG .(3) (I1.hok.fresh .(3))
end
theorem xN:∀(names:List (Str×NA)) (n:Nat) (acc:List (Str×Addr)) (x:Str) (c:Addr),(N2 n names acc).lookup x=some c->n<=c\/acc.lookup x=some c
 | [],_,_,_,_,h=>.inr h
 | (y,k)::r,n,acc,x,c,h=>by
   unfold N2 at h;split at h
   . rcases xN r (n+1) _ x c h with q | q
     . exact .inl .(0)
     . rw[Jh]at q;split at q
       . cases q; exact .inl .(3)
       . exact .inr q
   . exact xN r n acc x c h
theorem lh:∀(names:List (Str×NA)) (n:Nat) (acc:List (Str×Addr)) (x:Str),(x,JQ)∉names->(N2 n names acc).lookup x=acc.lookup x
 | [],_,_,_,_=>rfl
 | (y,k)::r,n,acc,x,h=>by
   have h1:(x,JQ)∉r:=λz=>h (Et _ z);unfold N2;split
   . rename_i hk;rw[lh r _ _ x h1,Jh];have:(x==y)=false:=by rw[beq_eq_false_iff_ne];rintro rfl;exact h (by rw[eq_of_beq hk]; exact IF)
     rw[this]
   . exact lh r n acc x h1
theorem pY:∀(names:List (Str×NA)) (n:Nat) (acc:List (Str×Addr)) (x:Str),(x,JQ)∈names->∃c,(N2 n names acc).lookup x=some c/\n<=c
 | (y,k)::r,n,acc,x,h=>by
   unfold N2;by_cases hr:(x,JQ)∈r
   . split
     . obtain⟨c,e,l⟩:=pY r (n+1) ((y,n)::acc) x hr;exact⟨c,e,by omega⟩
     . exact pY r n acc x hr
   . rcases HZ.mp h with q | q
     . cases q;rw[if_pos (by rfl),lh r _ _ _ hr];exact⟨n,by simp[Jh],IE _⟩
     . exact absurd q hr
theorem si:∀(names:List (Str×NA)) (n:Nat) (acc:List (Str×Addr)),(∀x c,acc.lookup x=some c->c<n)->(∀x y c,acc.lookup x=some c->acc.lookup y=some c->x=y) ->
   ∀x y c,(N2 n names acc).lookup x=some c->(N2 n names acc).lookup y=some c->x=y
 | [],_,_,_,h=>h
 | (z,k)::r,n,acc,hl,h=>by
   unfold N2;split
   . refine si r (n+1) _ (λx c e=>?_) (λx y c e1 e2=>?_)
     . rw[Jh]at e;split at e
       . cases e; exact Kw _
       . exact KZ (hl x c e)
     . rw[Jh]at e1 e2;split at e1
       . rename_i q1;cases e1;split at e2
         . rename_i q2;exact(eq_of_beq q1).trans (eq_of_beq q2).symm
         . exact absurd (hl y _ e2) .(11)
       . split at e2
         . cases e2;exact absurd (hl x _ e1) .(11)
         . exact h x y c e1 e2
   . exact si r n acc hl h
theorem oU:∀(names:List (Str×NA)) (h:Heap) (acc:List (Str×Addr)),(∀x c,acc.lookup x=some c->∃v,h.IsCell c v)->∀x c,(N2 h.objs.size names acc).lookup x=some c->∃v,(NF h names).IsCell c v
 | [],_,_,ha,x,c,e=>ha x c e
 | (z,k)::r,h,acc,ha,x,c,e=>by
   unfold N2 at e;unfold NF;split at e
   . rename_i hk;rw[if_pos hk];refine oU r _ ((z,h.objs.size)::acc) (λy d q=>?_) x c (by rw[JC]; exact e);rw[Jh]at q;split at q
     . cases q;exact⟨none,_,Ib _ rfl,rfl⟩
     . obtain⟨v,o,ho,hd⟩:=ha y d q;exact⟨v,o,pq _ ho,hd⟩
   . rename_i hk;rw[if_neg hk];exact oU r h acc ha x c e
noncomputable def dr (env:K9):List (Str×NA)->List (Str×Addr)->List (Str×Addr)
 | [],acc=>acc
 | (n,k)::r,acc=>if k==.free then (match env.cells.lookup n with | some c=>dr env r ((n,c)::acc) | none=>dr env r acc) else dr env r acc
theorem mP (env:K9):∀(names:List (Str×NA)) (acc:List (Str×Addr)),(∀x∈names,x.2=.free->∃c,env.cells.lookup x.1=some c) ->
   (forIn (m:=Sem) names acc λx cs=>do
     let (name,kind):=x
     if kind==.free then do
       let c <- cellOf env name
       pure (Kv ((name,c)::cs))
     else pure (Kv cs))=pure (dr env names acc)
 | [],acc,_=>rfl
 | (n,k)::r,acc,h=>by
   rw[List.forIn_cons];unfold dr;by_cases hk:(k==.free)=true
   . obtain⟨c,hc⟩:=h (n,k) IF (eq_of_beq hk);simp only[hk,if_true,cellOf,hc,pure_bind];exact mP env r _ λx hx=>h x (Et _ hx)
   . simp only[hk,JF,if_false,pure_bind];exact mP env r _ λx hx=>h x (Et _ hx)
def uh (h:∀x∈scope.names,x.2=.free->∃c,env.cells.lookup x.1=some c):closureFor scope env=pure (dr env scope.names []):=by unfold closureFor;have:=mP env scope.names [] h;simp only[bind_pure];exact this
theorem fX (env:K9):∀(names:List (Str×NA)) (acc:List (Str×Addr)) (x:Str) (c:Addr),(∀y d,acc.lookup y=some d->env.cells.lookup y=some d)->(dr env names acc).lookup x=some c->env.cells.lookup x=some c
 | [],_,x,c,ha,h=>ha x c h
 | (n,k)::r,acc,x,c,ha,h=>by
   unfold dr at h;split at h
   . split at h
     . rename_i c' hc;refine fX env r _ x c (λy d q=>?_) h;rw[Jh]at q;split at q
       . rename_i qq;cases q;rw[eq_of_beq qq]; exact hc
       . exact ha y d q
     . exact fX env r acc x c ha h
   . exact fX env r acc x c ha h
theorem dU (env:K9):∀(names:List (Str×NA)) (acc:List (Str×Addr)) (x:Str) (c:Addr),(∀y d,acc.lookup y=some d->env.cells.lookup y=some d)->env.cells.lookup x=some c->((x,JB)∈names\/acc.lookup x=some c)->(dr env names acc).lookup x=some c
 | [],_,x,c,_,_,h=>h.elim (λz=>absurd z .(4)) id
 | (n,k)::r,acc,x,c,ha,hc,h=>by
   unfold dr;split
   . split
     . rename_i c' hc';refine dU env r _ x c (λy d q=>?_) hc ?_
       . rw[Jh]at q;split at q
         . rename_i qq;cases q;rw[eq_of_beq qq]; exact hc'
         . exact ha y d q
       . by_cases q:x=n
         . subst q;rw[hc]at hc'; cases hc';exact .inr (by simp[Jh])
         . rcases h with h | h
           . rcases HZ.mp h with z | z
             . cases z; exact absurd rfl q
             . exact .inl z
           . refine .inr ?_;rw[Jh,beq_eq_false_iff_ne.mpr q];exact h
     . rename_i hc';refine dU env r acc x c ha hc ?_;rcases h with h | h
       . rcases HZ.mp h with z | z
         . cases z; rw[hc]at hc'; cases hc'
         . exact .inl z
       . exact .inr h
   . rename_i hk;refine dU env r acc x c ha hc ?_;rcases h with h | h
     . rcases HZ.mp h with z | z
       . cases z; exact absurd rfl hk
       . exact .inl z
     . exact .inr h
def oF 
   (h:Q (newEnv scope s.heap.objs.size env.globals (N2 (s.heap.objs.size+1) scope.names cl) env.qual none .none (some env) builtinsNs) { s with heap:=NF (s.heap.push { cls:=.type "dict",data:=.dict #[] }) scope.names }) :
   wpAny M A (newFunctionEnv scope env.globals cl [] env.qual none .none (some env)) Q E s:=by
 simp only[newFunctionEnv,Option.isSome_some,if_true];refine AC (wpAny_alloc ?_);refine AC (wpAny_layCells _ (λname kind cells=>by cases hkc:kind==JQ <;> simp[hkc]) _ _ _ _ ?_);rw[show ({ s with heap:=s.heap.push { cls:=.type "dict",data:=.dict #[] } }:Da).heap.objs.size=s.heap.objs.size+1 from JC ..];exact AC (Fk (Fk h))
noncomputable def aU (X:Cx)(s:Da)(H:Hp)(scope:Scope)(N:List Str)(fp:List Addr):Cx:=
 { prog:=X.prog,w:=X.w,K:=X.K,mg:=X.mg,base:=X.base,A:=X.A,N:=N,s₀:=s,H₀:=H
   env:=compEnvC scope (N2 (s.heap.objs.size+1+1) scope.names (dr X.env scope.names [])) (s.heap.objs.size+1) X.env
   outer:=X.stack,stack:=X.stack,ex:=fp,fn:=λx=>decide ((x,JQ)∈scope.names),calm:=X.calm,pn:=[],xe:=λ_ _=>False }
noncomputable def gB (σ:L2.St)(caps:List (Option Nat)):L2.St:=caps.map λo=>o.bind λi=>(σ[i]?).join
structure eR (X:Cx)(scope:Scope)(N:List Str)(caps:List (Option Nat)):Prop where
 kind:scope.kind=.function
 loc:∀x∈scope.names,x.2=.local->scope.names.lookup x.1=some .local
 fre:∀x∈scope.names,x.2=.free->X.env.kindOf x.1=some .cell
 one:∀x,(x,JB)∈scope.names->(x,JQ)∉scope.names
 noboth:∀x,(x,JB)∈scope.names->(x,NameKind.local)∉scope.names
 len:N.length=caps.length+1
 cap:∀(j i:Nat),caps[j]?=some (some i)->∃x,N[j]?=some x/\X.N[i]?=some x/\(x,JB)∈scope.names
 acc:∃z,N[caps.length]?=some z/\¬Vis (relabel scope X.env) z
section
variable {X:Cx}{pins:List .(104)}{σ:L2.St}{H:Hp}{s:Da}{scope:Scope}{N:List Str}{caps:List (Option Nat)}{fp:List Addr}
def fV {env:K9}{names:List (Str×NA)}(h:∀y,(y,JB)∈names->env.kindOf y=some .cell)(hk:env.scope.kind=.function)
   (e:(names.map λ(n,k)=>if (k==JB&&env.scope.kind==.function&&env.kindOf n==some .cell) then (n,JQ) else (n,k)).lookup x=some k) :
   (x,k)∈names\/((x,JB)∈names/\k=.cell):=by
 induction names with
 | nil=>cases e
 | cons p r ih=>
   obtain⟨n,q⟩:=p;rw[IJ]at e;have hr:∀y,(y,JB)∈r->env.kindOf y=some .cell:=λy hy=>h y (Et _ hy);have sub:((x,k)∈r\/((x,JB)∈r/\k=.cell))->(x,k)∈(n,q)::r\/((x,JB)∈(n,q)::r/\k=.cell):=λz=>z.elim (λy=>.inl (Et _ y)) λy=>.inr ⟨Et _ y.1,y.2⟩;dsimp only at e;split at e
   . rename_i c;rw[Jh]at e;split at e
     . rename_i qq;cases e;rw[IS,IS]at c;rw[eq_of_beq qq,eq_of_beq c.1.1];exact .inr ⟨IF,rfl⟩
     . exact sub (ih hr e)
   . rename_i c;rw[Jh]at e;split at e
     . rename_i qq;cases e;rw[eq_of_beq qq];exact .inl IF
     . exact sub (ih hr e)
def iQ (I:Inv X pins σ H s)(c:eR X scope N caps):∀x∈scope.names,x.2=.free->∃d,X.env.cells.lookup x.1=some d:=λx hx hf=>I.ok.has x.1 (.inl (c.fre x hx hf))
def qy (I:Inv X pins σ H s)(hf:∀b∈fp,nu X pins H b)(ho:∀b∈fp,∃o,s.heap.get? b=some o)(c:eR X scope N caps):
   Inv .(106) [] (gB σ caps++[some .(145)]) (upd H s.heap.objs.size (.lst []))
     { s with heap:=NF ((s.heap.push { cls:=.type "list",data:=.seq ([]:List Value).toArray }).push { cls:=.type "dict",data:=.dict #[] }) scope.names }:=by
 have hcl:∀x d,(dr X.env scope.names []).lookup x=some d->X.env.cells.lookup x=some d:=λx d=>fX X.env scope.names [] x d (λy d z=>by simp at z);have kp:∀b o,s.heap.get? b=some o->(NF ((s.heap.push { cls:=.type "list",data:=.seq ([]:List Value).toArray }).push { cls:=.type "dict",data:=.dict #[] }) scope.names).get? b=some o:=λb o e=>NX _ _ b o (pq _ (pq _ e));have sz2:((s.heap.push { cls:=.type "list",data:=.seq ([]:List Value).toArray }).push { cls:=.type "dict",data:=.dict #[] }).objs.size=s.heap.objs.size+1+1:=by rw[JC,JC]
 have oldc:∀x d,X.env.cells.lookup x=some d->d<s.heap.objs.size:=λx d e=>by obtain⟨v,o,q,_⟩:=I.cell x d e;exact HY q
 have cel:∀x d,.(106).env.cells.lookup x=some d->s.heap.objs.size+1+1<=d\/X.env.cells.lookup x=some d:=λx d e=>by
   rcases xN _ _ _ x d e with q | q
   . exact .inl q
   . exact .inr (hcl x d q)
 have ok:.(106).Ok:=by
   refine⟨I.ok.mod,c.kind,I.ok.glob,I.ok.blt,LL _,?_,?_,?_,I.ok.hd,I.ok.frames,.inl rfl,?_,I.bs,Il I.ok.bsz I.sz,?_,?_,I.stack,I.u0⟩
   . exact si _ _ _ (λx d e=>Ih (oldc x d (hcl x d e)) .(0)) λx y d e1 e2=>I.ok.inj x y d (hcl x d e1) (hcl y d e2)
   . intro x hx;have hfk:∀y,(y,JB)∈scope.names->X.env.kindOf y=some .cell:=λy hy=>c.fre _ hy rfl
     have fre:(x,JB)∈scope.names->∃d,.(106).env.cells.lookup x=some d:=λhm=>by
       obtain⟨d,hd⟩:=iQ I c _ hm rfl
       exact⟨d,by
         show (N2 _ scope.names _).lookup x=_;rw[lh _ _ _ x (c.one x hm)];exact dU X.env scope.names [] x d (λy e z=>by simp at z) hd (.inl hm)⟩
     have own:(x,JQ)∈scope.names->∃d,.(106).env.cells.lookup x=some d:=λhm=>by obtain⟨d,e,_⟩:=pY scope.names (s.heap.objs.size+1+1) (dr X.env scope.names []) x hm;exact⟨d,e⟩
     rcases hx with hx | hx
     . rcases fV hfk I.ok.kind (show (scope.names.map _).lookup x=some .cell from hx) with q | q
       . exact own q
       . exact fre q.1
     . rcases fV hfk I.ok.kind (show (scope.names.map _).lookup x=some .free from hx) with q | q
       . exact fre q
       . exact fre q.1
   . intro x d hfn e;have hm:(x,JQ)∈scope.names:=of_decide_eq_true hfn;obtain⟨d',e',l⟩:=pY scope.names (s.heap.objs.size+1+1) (dr X.env scope.names []) x hm;have e2:(N2 (s.heap.objs.size+1+1) scope.names (dr X.env scope.names [])).lookup x=some d:=e;rw[e']at e2; cases e2;exact Il (Il .(16) .(16)) l
   . intro b hb;obtain⟨o,q⟩:=ho b hb;have bl:=HY q;refine⟨λz=>?_,λx d e z=>?_⟩
     . have z':b=s.heap.objs.size+1:=z;rw[z']at bl;exact absurd bl (MF.mpr .(16))
     . subst z;rcases cel x d e with q | q
       . exact absurd (Ih bl (Il (Il .(16) .(16)) q)) .(11)
       . exact(hf d hb).2.2.2.2.1 x d q rfl
   . intro b o e hb;rcases(hf b hb).2.2.2.1 with q | q
     . exact I.ok.noex b o e q
     . have:=Ih (HY e) I.ok.bsz;exact absurd (Ih this q) .(11)
   . intro b hb hm;rcases HZ.mp (I.ua b hm) with q | q
     . exact(hf b hb).2.1 q
     . exact(hf b hb).2.2.1 q
 have hD:(NF ((s.heap.push { cls:=.type "list",data:=.seq ([]:List Value).toArray }).push { cls:=.type "dict",data:=.dict #[] }) scope.names).get? s.heap.objs.size=some { cls:=.type "list",data:=.seq ([]:List Value).toArray }:=NX _ _ _ _ (pq _ (Ib _ rfl));have fr:∀a,s.heap.objs.size<=a->a≠s.heap.objs.size->(upd H s.heap.objs.size (.lst [])) a=none:=λa h1 h2=>by rw[aF h2]; exact I.hok.fresh h1
 refine⟨ok,rfl,I.bare,Un.laid kp .(3) (I.hok.fresh .(3)),⟨λ_=>none,?_,λi x v e1 e2 e3=>?_⟩,λx d e=>?_,?_,λx d e=>?_,λp hp=>absurd (show p∈([]:List .(104)) from hp) .(4),?_,?_⟩
 . have:=Heap.Ns.new (s.heap.push { cls:=.type "list",data:=.seq ([]:List Value).toArray }) (.type "dict");rw[JC]at this;exact this.keeps (NX _ _)
 . by_cases hi:i<caps.length
   . rw[HX (by unfold gB; rw[bp]; exact hi)]at e2;unfold gB at e2;rw[Iy]at e2;cases hc:caps[i]? with
     | none=>rw[hc]at e2; cases e2
     | some o=>
       rw[hc]at e2;cases o with
       | none=>cases e2
       | some j=>
         have e2':(σ[j]?).join=some v:=IM e2
         have e4:σ[j]?=some (some v):=by
           cases q:σ[j]? with
           | none=>rw[q]at e2'; cases e2'
           | some y=>rw[q]at e2'; exact congrArg some e2'
         obtain⟨x',g1,g2,g3⟩:=c.cap i j hc;rw[show .(106).N=N from rfl,g1]at e1;cases e1;have hkc:=c.fre _ g3 rfl;obtain⟨m,_,hl⟩:=I.loc;obtain⟨u,ru,look⟩:=hl j x v g2 e4 (.inr (.inl hkc));refine⟨u,ru,?_⟩;rcases look with ⟨k,_⟩ | ⟨k,d,hd,hcell⟩
         . rw[hkc]at k; cases k
         . have e5:.(106).env.cells.lookup x=some d:=by show (N2 _ scope.names _).lookup x=_;rw[lh _ _ _ x (c.one x g3)];exact dU X.env scope.names [] x d (λy e z=>by simp at z) hd (.inl g3)
           have hcell':Heap.IsCell (NF ((s.heap.push { cls:=.type "list",data:=.seq ([]:List Value).toArray }).push { cls:=.type "dict",data:=.dict #[] }) scope.names) d (some u):=(by obtain⟨o,q1,q2⟩:=hcell;exact⟨o,kp _ _ q1,q2⟩);refine .inr ⟨?_,d,e5,hcell'⟩;rcases e3 with e3 | e3 | e3
           . exfalso;rcases fV (λy hy=>c.fre _ hy rfl) I.ok.kind (show (scope.names.map _).lookup x=some .local from e3) with q | q
             . have q1:=c.loc _ q rfl;exact c.noboth x g3 q
             . cases q.2
           . exact .inl e3
           . exact .inr e3
   . exfalso;obtain⟨z,z1,z2⟩:=c.acc;have hl:i<N.length:=(tf.mp e1).1;have:i=caps.length:=by have:=c.len; omega
     subst this;rw[show .(106).N=N from rfl,z1]at e1;cases e1;exact z2 e3
 . rw[show .(106).env.cells=N2 (s.heap.objs.size+1+1) scope.names (dr X.env scope.names []) from rfl,<- sz2]at e;refine oU scope.names _ _ (λy d' q=>?_) x d e;obtain⟨v,o,q1,q2⟩:=I.cell y d' (hcl y d' q);exact⟨v,o,pq _ (pq _ q1),q2⟩
 . exact fr _ .(16) (LP _)
 . rcases cel x d e with q | q
   . exact fr d .(0) (by intro z; omega)
   . rw[aF (IL (oldc x d q))]; exact I.freeC x d q
 . exact I.hok.laid kp .(3) ⟨Im _,[],0,.nil,hD⟩
 . rw[rp];unfold gB;rw[bp,show .(106).N=N from rfl,c.len];rfl
end
def PTs (X:Cx)(ifs:List Expr)(t:TT):Prop:=
 ∀(pins:List .(104)) (s:Da) (σ:L2.St) (H:Hp) (Q:Bool->Hp->Prop),Inv X pins σ H s->t σ H Q ->
   wpAny .(100) X.A (forIn ifs true λc r=>if r=true then do let ok <- isTrue c X.env (eval c X.env); pure (Kv ok) else pure (Kv r)) (TP X pins σ Q) X.xe s
section
variable {prog:FB}{w:World}{A:GT}{R:Result->Da->Prop}{s:Da}
def lr (Iv:Nat->Da->Prop)
   (step:∀n s,Iv n s->wpAny .(110) A (O4 it) (λr s₁=>match r with
     | none=>R (.ok .next) s₁
     | some v=>wpAny .(110) A (O9 target it v) (λ_ s₀=>wpAny .(110) A (assign target env v) (λ_ s₂=>
         wpAny .(110) A (forIn ifs true λc r=>if r=true then do let ok <- isTrue c env (eval c env); pure (Kv ok) else pure (Kv r)) (λok s₃=>
           if ok=true then wpAny .(110) A (eval elt env) (λx s₄=>
             wpAny .(110) A (call (.builtin "list.append") [acc,x]) (λ_ s₅=>∃m,m<n/\Iv m s₅) (λ_ _=>False) s₄) (λ_ _=>False) s₃
           else ∃m,m<n/\Iv m s₃) (λ_ _=>False) s₂) (λ_ _=>False) s₀) (λ_ _=>False) s₁) (λ_ _=>False) s)
   (n:Nat) (h:Iv n s):O3 .(110) A (.compLoop (.ListComp elt [⟨target,iter,ifs,0⟩] scope pos) 0 it acc env) R s:=by
 have no:∀{α:Type} {t:Sem α} {Q:α->Da->Prop} {s:Da} {E:Value->Da->Prop},wpAny .(110) A t Q (λ_ _=>False) s->wpAny .(110) A t Q E s:=λh=>NZ h (λ_ _ q=>q) λ_ _ q=>q.elim;refine codeAny_loop rfl Iv (λn s hI=>?_) n h;show wpAny _ A (Sem.onRaise (compTurn (.ListComp elt [⟨target,iter,ifs,0⟩] scope pos) 0 it acc env) (λx=>do noteFrame x env; theTreesLotGoes x)) _ _ s;refine wpAny_noted ?_;rw[compTurn_list];refine AC (wpAny_standAt (AC (thn (no (step n s hI)) λr s₁ h₁=>?_)));cases r with
 | none=>exact Fk h₁
 | some v=>
   refine AC (thn (no h₁) λ_ s₀ h₀=>AC (thn (no h₀) λ_ s₂ h₂=>AC (thn (no h₂) λok s₃ h₃=>?_)));cases ok with
   | false=>exact Fk ⟨rfl,h₃⟩
   | true=>exact AC (AC (thn (no h₃) λx s₄ h₄=>AC (thn (no h₄) λ_ s₅ h₅=>Fk (Fk ⟨rfl,h₅⟩))))
end
def uU {X:Cx}{pins:List .(104)}{σ:L2.St}{s:Da}{scope:Scope}{N:List Str}(h:Ck kd X)(I:Inv X pins σ H s):Ck kd .(106):=by
 rcases h with h | ⟨hk,q,o,u,vs,e1,e2,e3,e4⟩
 . exact .inl h
 . exact .inr ⟨hk,q,o,u,vs,e1,I.base.frzs q o u e2,e3,e4⟩
def fE (In:TG->TT->TE->Prop)(caps:List (Option Nat))(wi:TI):TE:=λσ H Q=>wi σ H λJ H1=>∃g tt te,In g tt te/\∀D,H1 D=none ->
 ∃Z:Nat->Nat->L2.St->Hp->Prop,(∃m,Z 0 m (gB σ caps++[some (.ref D)]) (upd H1 D (.lst [])))/\∀i m σ' H',Z i m σ' H' ->
   (J.stop i H'/\Q (.ref D) H')\/(J.go i H'/\∀x H2,J.yld i H' x H2->g x σ' H2 λσ2 H3=>tt σ2 H3 λb H4=>
     if b=true then te σ2 H4 λv H5=>∃vs m',H5 D=some (.lst vs)/\vs.length<sizeLine/\m'<m/\Z (i+1) m' σ2 (upd H5 D (.lst (vs++[v]))) else ∃m',m'<m/\Z (i+1) m' σ2 H4)
def dB {X:Cx}{In:TG->TT->TE->Prop}(c:eR X scope N caps)(hi:PI X tg iter wi)
   (hs:∀x,foldedSetIterable iter X.env x=pure x)
   (hin:∀g tt te,In g tt te->∀s H fp,PG .(106) tg g/\PTs .(106) ifs tt/\PE .(106) elt te) :
   PE X .(122) (fE In caps wi):=by
 intro pins s σ H Q I h;rw[eval_ListComp];have hcl:=uh (iQ I c);refine wpAny_comprehension_free (use:=none) (g:=⟨tg,iter,ifs,0⟩) (gs:=[]) rfl hs hcl c.kind c.loc ?_;show wpAny _ _ (eval iter X.env) _ _ s;refine thn (hi pins s σ H _ I h) λv s1 h1=>thn h1 λitv s2 h2=>?_;obtain⟨kd,it,fp,tn,J,H2,e,I2,hck,T,st2,f2,g,tt,te,hI,q⟩:=h2;have hc:=uU (scope:=scope) (N:=N) (fp:=fp) hck I2;subst e;obtain⟨Z,⟨m0,z0⟩,turn⟩:=q s2.heap.objs.size (I2.hok.fresh .(3));have ho:∀b∈fp,∃o,s2.heap.get? b=some o:=λb hb=>let ⟨o,e,_⟩:=T.obj _ _ st2 b hb; ⟨o,e⟩
 have I4:=qy (scope:=scope) (N:=N) (caps:=caps) I2 f2 ho c;obtain⟨hg,ht,he⟩:=hin g tt te hI s2 H2 fp;refine GM (oF ?_) (by show 0<=sizeLine; decide);have hC:(s2.heap.push { cls:=.type "list",dict:=none,data:=.seq ([]:List Value).toArray }).objs.size=s2.heap.objs.size+1:=JC ..;dsimp only;rw[hC];have kp:∀b o,s2.heap.get? b=some o->(NF ((s2.heap.push { cls:=.type "list",data:=.seq ([]:List Value).toArray }).push { cls:=.type "dict",data:=.dict #[] }) scope.names).get? b=some o:=λb o e=>NX _ _ b o (pq _ (pq _ e));have st4:tn 0 (NF ((s2.heap.push { cls:=.type "list",data:=.seq ([]:List Value).toArray }).push { cls:=.type "dict",data:=.dict #[] }) scope.names):=T.keep _ _ _ st2 λb _ o e=>kp b o e;have stat:∀{H':Hp},(∀b∈fp,H' b=none)->∀b∈fp,nu .(118) [] H' b:=λhn b hb=>⟨hn b hb,(I4.ok.exf b hb).1,I4.ok.exfs b hb,.inl hb,(I4.ok.exf b hb).2,λp hp=>absurd (show p∈([]:List .(104)) from hp) .(4)⟩;have fr4:∀b∈fp,(upd H2 s2.heap.objs.size (.lst [])) b=none:=λb hb=>by obtain⟨o,e⟩:=ho b hb;rw[aF (IL (HY e))]; exact(f2 b hb).1
 have loop:O3 .(100) X.A (.compLoop .(122) 0 (.ref it) .(132) .(118).env)
     (compPost .(100) X.A X.xe none (EP X pins σ Q) .(132) (s2.heap.objs.size+1))
     { s2 with heap:=NF ((s2.heap.push { cls:=.type "list",data:=.seq ([]:List Value).toArray }).push { cls:=.type "dict",data:=.dict #[] }) scope.names }:=by
   refine lr (λn s'=>∃i σ' H',Inv .(118) [] σ' H' s'/\tn i s'.heap/\(∀b∈fp,H' b=none)/\Z i n σ' H') ?_ m0 ⟨0,_,_,I4,st4,fr4,z0⟩;rintro n s3 ⟨i,σ3,H3,I3,st3,fr3,w3⟩;rcases turn i n σ3 H3 w3 with ⟨stop,qn⟩ | ⟨go,step⟩
   . refine thn (T.done .(118) rfl rfl rfl hc i [] s3 σ3 H3 _ I3 (stat fr3) st3 stop) λr s5 ⟨hr,I5⟩=>?_;subst hr;obtain⟨m,hn,_⟩:=id I5.loc;refine⟨m,hn,λh' sb=>⟨.ref s2.heap.objs.size,H3,?_,rfl,qn⟩⟩;have lt:∀b o,s2.heap.get? b=some o->b≠s2.heap.objs.size+1:=λb o e=>IL (KZ (HY e));have u:=I5.base
     have u':Un (frs X.stack) fp H2 H3 s2.heap h':=⟨λb o e n1 n2 n3=>(sb.2 b (lt b o e)).trans (u.keep b o e n1 n2 n3),λb o e n1 n2 n3=>let ⟨sl,z⟩:=u.slot b o e n1 n2 n3; ⟨sl,(sb.2 b (lt b o e)).trans z⟩,
       u.free,λb o e n1=>let ⟨o',z⟩:=u.there b o e n1; ⟨o',(sb.2 b (lt b o e)).trans z⟩,u.tups,u.frzs,u.tbls⟩
     have fC:H3 (s2.heap.objs.size+1)=none:=I5.free;refine I2.Cs (s':={ s5 with heap:=h' }) I5.os u' (λb o e=>(I5.hok b o e).lL (λd v hd z=>(sb.2 d ?_).trans z) (λ_ z=>z) λ_ _ z=>z) I5.bare λb hb=>⟨(f2 b hb).2.2.2.1,(f2 b hb).2.1,(f2 b hb).2.2.2.2.1,(f2 b hb).2.2.2.2.2⟩;rcases hd with hd | hd
     . rw[hd]; exact a6 e fC
     . exact a6 hd fC
   . refine thn (T.item .(118) rfl rfl rfl hc i [] s3 σ3 H3 _ I3 (stat fr3) st3 go) λr s4 ⟨u,hr,h4⟩=>?_;subst hr;refine thn h4 λ_ s5 ⟨x,H5,I5,r5,y5,st5,fr5⟩=>?_;have I5':=I5.pinned (stat fr5) (T.obj _ _ st5);refine thn (hg _ s5 σ3 H5 x u _ I5' r5 (step x H5 y5)) λ_ s6 ⟨σ6,H6,I6,q6⟩=>?_
     have again:∀{s7:Da} {σ7:L2.St} {H7:Hp} {m':Nat},Inv .(118) ([]++iT fp s5.heap) σ7 H7 s7->m'<n->Z (i+1) m' σ7 H7 ->
         ∃m,m<n/\∃i σ' H',Inv .(118) [] σ' H' s7/\tn i s7.heap/\(∀b∈fp,H' b=none)/\Z i m σ' H':=λ{s7 σ7 H7 m'} I7 hm z7=>by
       refine⟨m',hm,i+1,σ7,H7,I7.fy,T.keep _ _ _ st5 λb hb o e=>(I7.pin (b,o) (x3 _ (x3 _ (cC hb e)))).1,λb hb=>?_,z7⟩;obtain⟨o,e,d⟩:=T.obj _ _ st5 b hb;exact(I7.pin (b,o) (x3 _ (x3 _ (cC hb e)))).2.1
     refine thn (ht _ s6 σ6 H6 _ I6 q6) λok s7 ⟨H7,I7,q7⟩=>?_;cases ok with
     | false=>rw[if_neg .(2)]at q7;obtain⟨m',hm,z7⟩:=q7;exact again I7 hm z7
     | true=>rw[if_pos rfl]at q7;refine thn (he _ s7 σ6 H7 _ I7 q7) λv' s8 ⟨v,H8,I8,r8,vs,m',q8,l8,hm,z8⟩=>?_;refine thn (fK (X:=aU X s2 H2 scope N fp) _ s8 σ6 H8 .(132) [v] .(132) [v'] (λ_ H9=>H9=upd H8 s2.heap.objs.size (.lst (vs++[v]))) I8 rfl (.cons r8 .nil) ⟨_,vs,v,rfl,rfl,q8,l8,rfl⟩) λ_ s9 ⟨_,H9,I9,_,e9⟩=>?_;subst e9;exact again I9 hm z8
 exact codeAny_compStart_list loop (T.self _ 0 _ _ _ st4 loop)
end Ev
namespace Hy
open PySem PySem.Spec PyProof.Rows L2
open Ev (D Den aw)
open Classical in
noncomputable def hd (H:Hp)(M:Addr->Prop):Hp:=λb=>if M b then none else H b
def ar :hd H M b=some o↔¬M b/\H b=some o:=by
 unfold hd;by_cases h:M b
 . rw[if_pos h]; exact⟨λz=>.(146),λz=>absurd h z.1⟩
 . rw[if_neg h]; exact⟨λz=>⟨h,z⟩,λz=>z.2⟩
def aD (e:ao H H')(m:∀b,M' b->M b):ao (hd H M) (hd H' M'):=λb _ h=>ar.mpr ⟨λz=>(ar.mp h).1 (m b z),e b _ (ar.mp h).2⟩
def aT :ao (hd H M) H:=λ_ _ h=>(ar.mp h).2
inductive Nd where
 | d (x:D) | l (xs:List Nd) | t (xs:List Nd)
structure Ex where
 p:fw->Hp->HO->Addr->Prop
 mono:∀{K:fw} {G G':Hp} {o:HO} {a:Addr},ao G G'->p K G o a->p K G' o a
 ext:∀{K:fw} {G:Hp} {o:HO} {a:Addr},p K G o a->(∃φ,o=.ext φ)\/(∃ob φ,o=.frz ob (.ext φ))\/∃kvs,o=.dK kvs\/∃ob,o=.frz ob (.dK kvs)
inductive Sl where
 | un | d (x:D) | o (xs:List D) | n (t:Nd) | x (E:Ex)
mutual
inductive cg (K:fw)(G H:Hp):V->List Addr->Nd->Prop where
 | d {u:V} {x:D} (h:Den K G u x):cg K G H u [] (.d x)
 | l {a:Addr} {vs:List V} {bs:List Addr} {xs:List Nd} (h:H a=some (.lst vs)) (r:aW K G H vs bs xs):cg K G H (.ref a) (a::bs) (.l xs)
 | t {a:Addr} {vs:List V} {bs:List Addr} {xs:List Nd} (h:H a=some (.tup vs)) (r:aW K G H vs bs xs):cg K G H (.ref a) (a::bs) (.t xs)
inductive aW (K:fw)(G H:Hp):List V->List Addr->List Nd->Prop where
 | nil:aW K G H [] [] []
 | cons {v:V} {vs:List V} {b1 b2:List Addr} {s:Nd} {ss:List Nd} (h:cg K G H v b1 s) (r:aW K G H vs b2 ss):aW K G H (v::vs) (b1++b2) (s::ss)
end
def cI (K:fw)(G H:Hp)(v:Option V)(bs:List Addr):Sl->Prop
 | .un=>bs=[]
 | .d x=>bs=[]/\∃u,v=some u/\Den K G u x
 | .o xs=>∃a vs,bs=[a]/\v=some (.ref a)/\H a=some (.lst vs)/\aw K G vs xs
 | .n t=>bs.Nodup/\∃u,v=some u/\cg K G H u bs t
 | .x E=>∃a o,bs=[a]/\v=some (.ref a)/\H a=some o/\E.p K G o a
section
variable {K:fw}{G G' H H':Hp}
mutual
theorem cg.frame (g:ao G G'):∀{u:V} {bs:List Addr} {t:Nd},(∀b∈bs,H' b=H b)->cg K G H u bs t->cg K G' H' u bs t
 | _,_,_,_,.d h=>.d (h.mono g)
 | _,_,_,e,.l h r=>.l (by rw[e _ .(5)]; exact h) (aW.frame g (λb hb=>e b (Et _ hb)) r)
 | _,_,_,e,.t h r=>.t (by rw[e _ .(5)]; exact h) (aW.frame g (λb hb=>e b (Et _ hb)) r)
theorem aW.frame (g:ao G G'):∀{vs:List V} {bs:List Addr} {xs:List Nd},(∀b∈bs,H' b=H b)->aW K G H vs bs xs->aW K G' H' vs bs xs
 | _,_,_,_,.nil=>.nil
 | _,_,_,e,.cons h r=>.cons (cg.frame g (λb hb=>e b (Ie _ hb)) h) (aW.frame g (λb hb=>e b (x3 _ hb)) r)
end
mutual
theorem cg.some_of:∀{u:V} {bs:List Addr} {t:Nd},cg K G H u bs t->∀b∈bs,∃o,H b=some o
 | _,_,_,.d _,_,z=>nomatch z
 | _,_,_,.l h r,b,z=>(HZ.mp z).elim (λe=>e▸⟨_,h⟩) λz=>aW.some_of r b z
 | _,_,_,.t h r,b,z=>(HZ.mp z).elim (λe=>e▸⟨_,h⟩) λz=>aW.some_of r b z
theorem aW.some_of:∀{vs:List V} {bs:List Addr} {xs:List Nd},aW K G H vs bs xs->∀b∈bs,∃o,H b=some o
 | _,_,_,.nil,_,z=>nomatch z
 | _,_,_,.cons h r,b,z=>(vp.mp z).elim (λz=>cg.some_of h b z) λz=>aW.some_of r b z
end
def cg.mono (g:ao G G')(e:ao H H'){t:Nd}(h:cg K G H u bs t):cg K G' H' u bs t:=h.frame g λb hb=>by obtain⟨o,q⟩:=h.some_of b hb;rw[q,e b o q]
def cI.mono (g:ao G G')(e:ao H H'):∀{s:Sl},cI K G H v bs s->cI K G' H' v bs s
 | .un,h=>h
 | .d _,⟨h,u,e1,h2⟩=>⟨h,u,e1,h2.mono g⟩
 | .o _,⟨a,vs,h1,h2,h3,h4⟩=>⟨a,vs,h1,h2,e _ _ h3,h4.mono g⟩
 | .n _,⟨h0,u,h1,h2⟩=>⟨h0,u,h1,h2.mono g e⟩
 | .x E,⟨a,o,h1,h2,h3,h4⟩=>⟨a,o,h1,h2,e _ _ h3,E.mono g h4⟩
end
def own (A:Addr->Prop)(B:Nat->List Addr)(b:Addr):Prop:=A b\/∃i,b∈B i
def vw (C:Bool)(A:Addr->Prop)(B:Nat->List Addr):Addr->Prop:=match C with
 | true=>own A B
 | false=>A
structure Sta (K:fw)(A:Addr->Prop)(H₀:Hp)(τ:List Sl)(B:Nat->List Addr)(σ:L2.St)(H:Hp):Prop where
 same:ao H₀ H
 len:σ.length=τ.length
 sl:∀i s,τ[i]?=some s->cI K .(138) H (σ[i]?).join (B i) s
 fr:∀i b,b∈B i->H₀ b=none
 uq:∀i j b,b∈B i->b∈B j->i=j
 ad:∀b,A b->∃o,H₀ b=some o
 bd:∀i b,b∈B i->∃o,H b=some o
noncomputable def upB (B:Nat->List Addr)(i:Nat)(bs:List Addr):Nat->List Addr:=λj=>if j=i then bs else B j
section
variable {K:fw}{A:Addr->Prop}{H₀ H H':Hp}{τ:List Sl}{B:Nat->List Addr}{σ:L2.St}
def Sta.dm (S:Sta K A H₀ τ B σ H)(b:Addr)(h:own A B b):∃o,H b=some o:=h.elim (λz=>let ⟨o,q⟩:=S.ad b z; ⟨o,S.same _ _ q⟩) λ⟨i,z⟩=>S.bd i b z
def Sta.mono (S:Sta K A H₀ τ B σ H)(e:ao H H'):Sta K A H₀ τ B σ H' where
 same:=S.same.trans e
 len:=S.len
 sl:=λi s h=>(S.sl i s h).mono (aD e λ_ z=>z) e
 fr:=S.fr
 uq:=S.uq
 ad:=S.ad
 bd:=λi b h=>let ⟨o,q⟩:=S.bd i b h; ⟨o,e _ _ q⟩
def bb (h:b∈upB B i bs j):(j=i/\b∈bs)\/(j≠i/\b∈B j):=by
 unfold upB at h;by_cases e:j=i
 . rw[if_pos e]at h; exact .inl ⟨e,h⟩
 . rw[if_neg e]at h; exact .inr ⟨e,h⟩
def Sta.set (S:Sta K A H₀ τ B σ H)(e:ao H H')(hf:∀b∈bs,H b=none/\∃o,H' b=some o)(h:cI K (hd H' λb=>own A B b\/b∈bs) H' (some v) bs s):
   Sta K A H₀ (τ.set i s) (upB B i bs) (σ.set i (some v)) H':=by
 have sub:∀b,own A (upB B i bs) b->own A B b\/b∈bs:=λb z=>z.elim (λz=>.inl (.inl z)) λ⟨j,z⟩=>(bb z).elim (λz=>.inr z.2) λz=>.inl (.inr ⟨j,z.2⟩);have some_of:∀b j,b∈B j->∃o,H b=some o:=λb j z=>S.dm b (.inr ⟨j,z⟩);refine⟨S.same.trans e,by rw[Iz,Iz,S.len],λj t hj=>?_,λj b hb=>?_,λj k b h1 h2=>?_,S.ad,λj b hb=>?_⟩
 . by_cases ej:j=i
   . subst ej
     have hl:j<τ.length:=by
       have:=(tf.mp hj).1
       rwa [Iz]at this
     rw[IH hl]at hj;cases hj;rw[IH (by rw[S.len]; exact hl)];unfold upB;rw[if_pos rfl];exact h.mono (aD .(102) sub) .(102)
   . rw[Ik (λz=>ej z.symm)]at hj;rw[Ik (λz=>ej z.symm)];unfold upB;rw[if_neg ej];have q:=S.sl j t hj;refine q.mono (λb o z=>?_) e;obtain⟨z1,z2⟩:=ar.mp z;refine ar.mpr ⟨λy=>?_,e _ _ z2⟩;rcases sub b y with y | y
     . exact z1 y
     . rw[(hf b y).1]at z2; cases z2
 . rcases bb hb with ⟨_,z⟩ | ⟨_,z⟩
   . exact S.same.free (hf b z).1
   . exact S.fr j b z
 . rcases bb h1 with ⟨e1,z1⟩ | ⟨e1,z1⟩ <;> rcases bb h2 with ⟨e2,z2⟩ | ⟨e2,z2⟩
   . exact e1.trans e2.symm
   . obtain⟨o,q⟩:=some_of b k z2; rw[(hf b z1).1]at q; cases q
   . obtain⟨o,q⟩:=some_of b j z1; rw[(hf b z2).1]at q; cases q
   . exact S.uq j k b z1 z2
 . rcases bb hb with ⟨_,z⟩ | ⟨_,z⟩
   . exact(hf b z).2
   . obtain⟨o,q⟩:=S.bd j b z; exact⟨o,e _ _ q⟩
def Sta.less (S:Sta K A H₀ τ B σ H)(hb:∀b∈bs,b∈B i)(h:∀G:Hp,ao .(138) G->(∀b o,b∈B i->b∉bs->H b=some o->G b=some o)->cI K G H (σ[i]?).join bs s):Sta K A H₀ (τ.set i s) (upB B i bs) σ H:=by
 have sub:∀b,own A (upB B i bs) b->own A B b:=λb z=>z.elim .inl λ⟨j,z⟩=>(bb z).elim (λz=>.inr ⟨i,hb b z.2⟩) λz=>.inr ⟨j,z.2⟩;refine⟨S.same,by rw[Iz,S.len],λj t hj=>?_,λj b h=>?_,λj k b h1 h2=>?_,S.ad,λj b h=>(bb h).elim (λz=>S.bd i b (hb b z.2)) λz=>S.bd j b z.2⟩
 . by_cases ej:j=i
   . subst ej
     have hl:j<τ.length:=by
       have:=(tf.mp hj).1
       rwa [Iz]at this
     rw[IH hl]at hj;cases hj;unfold upB;rw[if_pos rfl];refine h _ (aD .(102) sub) λb o z1 z2 z3=>ar.mpr ⟨λy=>?_,z3⟩;rcases y with y | ⟨m,y⟩
     . obtain⟨_,q⟩:=S.ad b y;rw[S.fr j b z1]at q; cases q
     . rcases bb y with ⟨e,y⟩ | ⟨e,y⟩
       . exact z2 y
       . exact e (S.uq m j b y z1)
   . rw[Ik (λz=>ej z.symm)]at hj;unfold upB;rw[if_neg ej];exact(S.sl j t hj).mono (aD .(102) sub) .(102)
 . rcases bb h with ⟨e,z⟩ | ⟨_,z⟩
   . exact S.fr i b (hb b z)
   . exact S.fr j b z
 . rcases bb h1 with ⟨e1,z1⟩ | ⟨e1,z1⟩ <;> rcases bb h2 with ⟨e2,z2⟩ | ⟨e2,z2⟩
   . exact e1.trans e2.symm
   . exact absurd (S.uq k i b z2 (hb b z1)) e2
   . exact absurd (S.uq j i b z1 (hb b z2)) e1
   . exact S.uq j k b z1 z2
end
end Hy
namespace Hy
open PySem PySem.Spec PyProof.Rows L2
open Ev (D Den aw aI aK aq a5 aR)
def Fr (H H':Hp)(bs:List Addr):Prop:=∀b∈bs,H b=none/\∃o,H' b=some o
def dE (K:fw)(C:Bool)(τ:List Sl)(s:Sl):TE:=λσ H Q=>∃A H₀ B,Sta K A H₀ τ B σ H /\
 ∀v H' bs,ao H H'->Fr H H' bs->cI K (hd H' λb=>vw C A B b\/b∈bs) H' (some v) bs s->Q v H'
def dA (K:fw)(C:Bool)(τ:List Sl)(ds:List D):TA:=λσ H Q=>∃A H₀ B,Sta K A H₀ τ B σ H /\
 ∀vs H',ao H H'->aw K (hd H' (vw C A B)) vs ds->Q vs H'
def dT (K:fw)(τ:List Sl)(c:Bool):TT:=λσ H Q=>∃A H₀ B,Sta K A H₀ τ B σ H/\∀H',ao H H'->Q c H'
structure Po where
 nx:List Sl->Prop
 rt:Sl->Prop
 bk:List Sl->Prop:=λ_=>False
 ct:List Sl->Prop:=λ_=>False
 xc:Hp->Prop:=λ_=>True
structure Meets (K:fw)(A:Addr->Prop)(H₀:Hp)(N:Po)(D:Ends):Prop where
 nx:∀τ B σ H,N.nx τ->Sta K A H₀ τ B σ H->D.nx σ H
 bk:∀τ B σ H,N.bk τ->Sta K A H₀ τ B σ H->D.bk σ H
 ct:∀τ B σ H,N.ct τ->Sta K A H₀ τ B σ H->D.ct σ H
 rt:∀v H bs s,N.rt s->ao H₀ H->Fr H₀ H bs->cI K (hd H λb=>A b\/b∈bs) H (some v) bs s->D.rt v H
 xc:∀H,ao H₀ H->N.xc H
def dS (K:fw)(τ:List Sl)(N:Po):TS:=λD σ H=>∃A H₀ B,Sta K A H₀ τ B σ H/\Meets K A H₀ N D
def peW (h:PE X e t)(f:∀σ H Q,t' σ H Q->t σ H Q):PE X e t':=λpins s σ H Q I q=>h pins s σ H Q I (f σ H Q q)
def ptW (h:PT X e t)(f:∀σ H Q,t' σ H Q->t σ H Q):PT X e t':=λpins s σ H Q I q=>h pins s σ H Q I (f σ H Q q)
def pwW (h:PW X e t)(f:∀σ H Q,t' σ H Q->t σ H Q):PW X e t':=λwh pins s σ H Q I q=>h wh pins s σ H Q I (f σ H Q q)
def paW (h:PA X e t)(f:∀σ H Q,t' σ H Q->t σ H Q):PA X e t':=λp pins s σ H Q I q=>h p pins s σ H Q I (f σ H Q q)
def psW (h:PS X e t)(f:∀D σ H,t' D σ H->t D σ H):PS X e t':=λpins s σ H D I q=>h pins s σ H D I (f D σ H q)
def gH (h:PSs X e t)(f:∀D σ H,t' D σ H->t D σ H):PSs X e t':=λpins s σ H D I q=>h pins s σ H D I (f D σ H q)
section
variable {K:fw}{C:Bool}{τ:List Sl}{A:Addr->Prop}{H₀ H H':Hp}{B:Nat->List Addr}{σ:L2.St}{x y z:D}{Q:VK}
def iZ (h:vw C A B b):own A B b:=by
 cases C with
 | true=>exact h
 | false=>exact .inl h
def Sta.vd (S:Sta K A H₀ τ B σ H)(b:Addr)(h:vw C A B b):∃o,H b=some o:=S.dm b (iZ h)
def aV (S:Sta K A H₀ τ B σ H)(k:∀v H',ao H H'->Den K (hd H' (vw C A B)) v x->Q v H'):dE K C τ (.d x) σ H Q:=
 ⟨A,H₀,B,S,λv H' bs e _ ⟨hb,u,eu,h⟩=>by
   cases eu;exact k v H' e (h.mono (aD .(102) λ_ z=>.inl z))⟩
def dj (h:dE K C τ (.d x) σ H Q):∃A H₀ B,Sta K A H₀ τ B σ H/\∀v H',ao H H'->Den K (hd H' (vw C A B)) v x->Q v H':=by obtain⟨A,H₀,B,S,k⟩:=h;exact⟨A,H₀,B,S,λv H' e d=>k v H' [] e (λ_ z=>nomatch z) ⟨rfl,v,rfl,d.mono (aD .(102) λ_ z=>z.elim id λz=>nomatch z)⟩⟩
def fO {Q:List V->Hp->Prop}(S:Sta K A H₀ τ B σ H)(k:∀vs H',ao H H'->aw K (hd H' (vw C A B)) vs ds->Q vs H'):dA K C τ ds σ H Q:=⟨A,H₀,B,S,k⟩
def lg (hM:∀b,M b->∃o,H b=some o)(hp:H p=none):hd (upd H p o) M p=some o:=ar.mpr ⟨λz=>(by obtain⟨o,q⟩:=hM p z; rw[hp]at q; cases q),aN⟩
mutual
noncomputable def ndD:Nd->D
 | .d x=>x
 | .l xs=>.lst (kI xs)
 | .t xs=>.tup (kI xs)
noncomputable def kI:List Nd->List D
 | []=>[]
 | x::xs=>ndD x::kI xs
end
noncomputable def fzD:Sl->Option D
 | .un=>none
 | .d x=>some x
 | .o xs=>some (.lst xs)
 | .n t=>some (ndD t)
 | .x _=>none
mutual
theorem cg.den {G G':Hp}(g:ao G G'):∀{u:V} {bs:List Addr} {t:Nd},(∀b∈bs,∀o,H b=some o->G' b=some o)->cg K G H u bs t->Den K G' u (ndD t)
 | _,_,_,_,.d h=>h.mono g
 | _,_,_,e,.l h r=>.lst (SqL.of (e _ .(5) _ h)) (aW.den g (λb hb=>e b (Et _ hb)) r)
 | _,_,_,e,.t h r=>.tup (SqT.of (e _ .(5) _ h)) (aW.den g (λb hb=>e b (Et _ hb)) r)
theorem aW.den {G G':Hp}(g:ao G G'):∀{vs:List V} {bs:List Addr} {xs:List Nd},(∀b∈bs,∀o,H b=some o->G' b=some o)->aW K G H vs bs xs->aw K G' vs (kI xs)
 | _,_,_,_,.nil=>.nil
 | _,_,_,e,.cons h r=>.cons (cg.den g (λb hb=>e b (Ie _ hb)) h) (aW.den g (λb hb=>e b (x3 _ hb)) r)
end
def cI.den (h:cI K G H v bs s)(g:ao G G')(hv:∀b∈bs,∀o,H b=some o->G' b=some o)(e:fzD s=some x):∃u,v=some u/\Den K G' u x:=by
 cases s with
 | un=>cases e
 | d y=>cases e; obtain⟨_,u,e,q⟩:=h; exact⟨u,e,q.mono g⟩
 | o xs=>cases e;obtain⟨a,vs,rfl,h2,h3,h4⟩:=h;exact⟨_,h2,.lst (SqL.of (hv a .(5) _ h3)) (h4.mono g)⟩
 | n t=>cases e;obtain⟨_,u,e,q⟩:=h;exact⟨u,e,q.den g hv⟩
 | x E=>cases e
def slot_of {i:Nat}{u:V}(h:(σ[i]?).join=some u):σ[i]?=some (some u):=by
 cases e:σ[i]? with
 | none=>rw[e]at h; cases h
 | some o=>rw[e]at h; exact congrArg some h
end
section
variable {X:Cx}{C:Bool}{τ:List Sl}{x y z:D}{a b e:Expr}{es:List Expr}{pos:Pos}
def aa (i:Nat){n:Str}{x:D}(h:τ[i]?=some (.d x):=by rfl)(hN:X.N[i]?=some n:=by rfl)(hv:Vis X.env.scope n:=by first | exact Ka rfl | exact Ji .(10) | exact Ji .(9))
   (hd:(n==("__debug__" : Str))=false:=by decide) (hcd:(n==("__classdict__" : Str))=false:=by decide):PE X (.Name n pos) .(124):=peW (bw hN hv hd hcd) λσ H Q q=>by
 obtain⟨A,H₀,B,S,k⟩:=dj q;obtain⟨_,u,e,d⟩:=S.sl i _ h;exact⟨u,slot_of e,k u H .(102) (d.mono (aD .(102) λ_ z=>iZ z))⟩
def j8 (i:Nat){n:Str}{s:Sl}{x:D}(h:τ[i]?=some s:=by rfl)(hx:fzD s=some x:=by rfl)(hN:X.N[i]?=some n:=by rfl)(hv:Vis X.env.scope n:=by first | exact Ka rfl | exact Ji .(10) | exact Ji .(9))
   (hd:(n==("__debug__" : Str))=false:=by decide) (hcd:(n==("__classdict__" : Str))=false:=by decide):PE X (.Name n pos) (dE X.K false τ (.d x)):=peW (bw hN hv hd hcd) λσ H Q q=>by
 obtain⟨A,H₀,B,S,k⟩:=dj q;obtain⟨u,e,d⟩:=(S.sl i _ h).den (G':=Hy.hd H A) (aD .(102) λ_ z=>.inl z) (λb hb o ho=>ar.mpr ⟨λz=>(by obtain⟨_,q⟩:=S.ad b z; rw[S.fr i b hb]at q; cases q),ho⟩) hx;exact⟨u,slot_of e,k u H .(102) d⟩
def nB (h:PE X e (tC v))(d:∀H,Den X.K H v x):PE X e .(124):=peW h λσ H Q q=>by obtain⟨A,H₀,B,S,k⟩:=dj q;exact k v H .(102) (d _)
def af :PE X (.Constant (.int i) j pos) (dE X.K C τ (.d (.int i))):=nB sW λ_=>.int
def AL {b j}:PE X (.Constant (.bool b) j pos) (dE X.K C τ (.d (.bl b))):=nB Fg λ_=>.bl
def mI :PE X (.Constant .none j pos) (dE X.K C τ (.d .non)):=nB C6 λ_=>.non
def bZ :PE X (.Constant (.str s) j pos) (dE X.K C τ (.d (.str s))):=nB EL λ_=>.str
def D9 {n:Str}{i:Int}(hm:∃t,X.mg n=some (.int i t))(hg:Gl X n:=by rfl)(hd:(n==("__debug__" : Str))=false:=by decide):PE X (.Name n pos) (dE X.K C τ (.d (.int i))):=by obtain⟨t,hm⟩:=hm;exact nB (ux (v:=.int i) hg hm ⟨t,rfl⟩ hd) λ_=>.int
def bf {s:Sl}(h:PE X e (dE X.K C τ s))(hx:fzD s=some x:=by rfl):PE X e .(124):=peW h λσ H Q q=>by obtain⟨A,H₀,B,S,k⟩:=dj q;refine⟨A,H₀,B,S,λv H' bs e hf q=>?_⟩;have vd:=S.vd (C:=C);obtain⟨u,e1,d⟩:=q.den (G':=Hy.hd H' (vw C A B)) (aD .(102) λ_ z=>.inl z) (λb hb o ho=>ar.mpr ⟨λz=>(by obtain⟨_,q⟩:=vd b z; rw[(hf b hb).1]at q; cases q),ho⟩) hx;cases e1;exact k v H' e d
noncomputable def flat:D->Bool
 | .tup _=>false
 | .lst _=>false
 | .box _=>false
 | _=>true
def yW {K:fw}(h:Den K G v x)(f:flat x=true):Den K G' v x:=by
 cases h with
 | non=>exact .non
 | bl=>exact .bl
 | int=>exact .int
 | str=>exact .str
 | tup _ _=>cases f
 | lst _ _=>cases f
 | box _=>cases f
def yE (h:PE X e (dE X.K false τ (.d x)))(f:flat x=true:=by rfl):PE X e .(124):=peW h λσ H Q q=>by obtain⟨A,H₀,B,S,k⟩:=dj q;exact aV S λv H' e d=>k v H' e (yW d f)
def cH (X:Cx)(f:Value->Value->Sem Value)(x y z:D):Prop:=∃r:R2,OpR X f r /\
 ∀(M:Addr->Prop) (v w:V) (H:Hp) (Q:VK),(∀b,M b->∃o,H b=some o)->Den X.K (hd H M) v x->Den X.K (hd H M) w y->(∀u H',ao H H'->Den X.K (hd H' M) u z->Q u H')->r v w H Q
def two (hr:∀(M:Addr->Prop) (v w:V) (H:Hp) (Q:VK),(∀b,M b->∃o,H b=some o)->Den X.K (hd H M) v x->Den X.K (hd H M) w y->(∀u H',ao H H'->Den X.K (hd H' M) u z->Q u H')->r v w H Q):
   ∀σ H Q,dE X.K C τ (.d z) σ H Q->tOp r .(124) (dE X.K C τ (.d y)) σ H Q:=by
 intro σ H Q h;obtain⟨A,H₀,B,S,k⟩:=dj h;refine aV S λv H1 e1 d1=>aV .(129) λw H2 e2 d2=>hr (vw C A B) v w H2 Q (.(129).mono e2).vd (d1.mono (aD e2 λ_ z=>z)) d2 λu H' e3 d3=>k u H' (e1.trans (e2.trans e3)) d3
def aE (ha:PE X a .(124))(hb:PE X b (dE X.K C τ (.d y)))(ho:cH X (KB op) x y z):PE X (.BinOp a op b pos) (dE X.K C τ (.d z)):=by obtain⟨r,h1,h2⟩:=ho;exact peW (yV h1 ha hb) (two h2)
def jG {op:CmpOp}(ha:PE X a .(124))(hb:PE X b (dE X.K C τ (.d y)))(ho:cH X (GE op) x y z)(hm:NC op b=false:=by first | exact yx _ | rfl):PE X (.Compare a [op] [b] pos) (dE X.K C τ (.d z)):=by obtain⟨r,h1,h2⟩:=ho;exact peW (Ai h1 ha hb hm) (two h2)
def xC {t:TE}(h:∀σ H Q,dE X.K false τ (.d (.bl c)) σ H Q->t σ H Q):∀σ H Q,dT X.K τ c σ H Q->t σ H λx H'=>∃k,x=.bl k/\Q k H':=λσ H Q ⟨A,H₀,B,S,k⟩=>h σ H _ (aV S λv H' e d=>by cases d; exact⟨c,rfl,k H' e⟩)
def aZ {op:CmpOp}{c:Bool}(ha:PE X a (dE X.K false τ (.d x)))(hb:PE X b (dE X.K false τ (.d y)))(ho:cH X (GE op) x y (.bl c))(hm:NC op b=false:=by first | exact yx _ | rfl):PT X (.Compare a [op] [b] pos) (dT X.K τ c):=by obtain⟨r,h1,h2⟩:=ho;exact ptW (Aq h1 ha hb hm) (xC (two h2))
def cQ {c:Bool}(h:PE X e (dE X.K false τ (.d (.bl c))))(he:∀whole,isTrue e X.env whole=(do let v <- whole; O1 e.pos; N3 [v] (truthy v)):=by intro _; rfl):PT X e (dT X.K τ c):=ptW (CL h he) (xC λ_ _ _ q=>q)
def me (hc:P i j)(hz:∀K H,Den K H (g i j) z):∀(M:Addr->Prop) (v w:V) (H:Hp) (Q:VK),(∀b,M b->∃o,H b=some o)->Den X.K (hd H M) v (.int i)->Den X.K (hd H M) w (.int j) ->
   (∀u H',ao H H'->Den X.K (hd H' M) u z->Q u H')->rI P g v w H Q:=λ_ v w H Q _ d1 d2 k=>by
 cases d1;cases d2;exact⟨i,j,rfl,rfl,hc,k _ H .(102) (hz _ _)⟩
def kz (hz:∀K H,Den K H (g i j) z):∀(M:Addr->Prop) (v w:V) (H:Hp) (Q:VK),(∀b,M b->∃o,H b=some o)->Den X.K (hd H M) v (.int i)->Den X.K (hd H M) w (.int j) ->
   (∀u H',ao H H'->Den X.K (hd H' M) u z->Q u H')->rI0 g v w H Q:=λ_ v w H Q _ d1 d2 k=>by
 cases d1;cases d2;exact⟨i,j,rfl,rfl,k _ H .(102) (hz _ _)⟩
variable {i j:Int}
def bA:cH X (KB .Add) (.int i) (.int j) (.int (i+j)):=⟨_,Di,kz λ_ _=>.int⟩
def cA:cH X (KB .Sub) (.int i) (.int j) (.int (i-j)):=⟨_,E8,kz λ_ _=>.int⟩
def Cq:cH X (KB .BitAnd) (.int i) (.int j) (.int (MP i j)):=⟨_,ER,kz λ_ _=>.int⟩
def Hg:cH X (KB .BitOr) (.int i) (.int j) (.int (M5 i j)):=⟨_,Gy,kz λ_ _=>.int⟩
def aI.ok' (h:aI i j):IntMulOk i j:=by
 have b:∀{k:Int} {n:Nat},k.natAbs.log2<n->Builtin.Int.intBits k<=n:=λ{k n} q=>by
   unfold Builtin.Int.intBits;split
   . exact Im _
   . exact q
 rcases h with h | h | ⟨h1,h2⟩
 . exact .of_left (b h)
 . exact .of_right (b h)
 . exact .of_bits (Il (b h1) .(2)) (Il (b h2) .(2))
def bz (h:aI i j):cH X (KB .Mult) (.int i) (.int j) (.int (i*j)):=⟨rI aI λi j=>.int (i*j),opI λ_ _ _ _ _ _ _ hc q=>mul_int q (aI.ok' hc),me h λ_ _=>.int⟩
def dh (h:aK j):cH X (KB .FloorDiv) (.int i) (.int j) (.int (i.fdiv j)):=⟨rI (λ_ j=>aK j) λi j=>.int (i.fdiv j),opI λ_ _ _ _ _ _ _ hc q=>floordiv_int hc.1 q (.inl (PyProof.noPylong_of_log2 hc.2)),me h λ_ _=>.int⟩
def bG (h:j≠0):cH X (KB .Mod) (.int i) (.int j) (.int (i.fmod j)):=⟨_,Bp,me h λ_ _=>.int⟩
def nO (h:AV i j):cH X (KB .Pow) (.int i) (.int j) (.int (i^j.toNat)):=⟨_,D5,me h λ_ _=>.int⟩
def Gz (h:AV i j):cH X (KB .LShift) (.int i) (.int j) (.int (i*2^j.toNat)):=⟨_,E6,me h λ_ _=>.int⟩
def CC (h:0<=j):cH X (KB .RShift) (.int i) (.int j) (.int (i/2^j.toNat)):=⟨_,Dl,me h λ_ _=>.int⟩
def qQ:cH X (GE .Lt) (.int i) (.int j) (.bl (decide (i<j))):=⟨_,Fu,kz λ_ _=>.bl⟩
def Ey:cH X (GE .LtE) (.int i) (.int j) (.bl (decide (i<=j))):=⟨_,GR,kz λ_ _=>.bl⟩
def xy:cH X (GE .Gt) (.int i) (.int j) (.bl (decide (j<i))):=⟨_,FN,kz λ_ _=>.bl⟩
def DW:cH X (GE .GtE) (.int i) (.int j) (.bl (decide (j<=i))):=⟨_,F1,kz λ_ _=>.bl⟩
def fD:cH X (GE .Eq) (.int i) (.int j) (.bl (decide (i=j))):=⟨_,Cj,λ_ v w H Q _ d1 d2 k=>by
 cases d1;cases d2;exact⟨rfl,by rw[show decide (V.int i=V.int j)=decide (i=j) by simp]; exact k _ H .(102) .bl⟩⟩
def wQ:cH X (GE .NotEq) (.int i) (.int j) (.bl (!decide (i=j))):=⟨_,Cr,λ_ v w H Q _ d1 d2 k=>by
 cases d1;cases d2;exact⟨rfl,by rw[show decide (V.int i=V.int j)=decide (i=j) by simp]; exact k _ H .(102) .bl⟩⟩
def mM (h:PE X a (dE X.K C τ (.d (.int i)))):PE X (.UnaryOp .USub a pos) (dE X.K C τ (.d (.int (-i)))):=peW (FD EC h) λσ H Q q=>by obtain⟨A,H₀,B,S,k⟩:=dj q;refine aV S λv H1 e1 d1=>?_;cases d1;exact⟨i,rfl,k _ H1 e1 .int⟩
def xM :PE X e λ_ _ _=>False:=λ_ _ _ _ _ _ h=>h.elim
def pw_no :PW X e λ_ _ _=>False:=λ_ _ _ _ _ _ _ h=>h.elim
variable {p q:Bool}{c:Expr}{rest:List Expr}
def nM (h:PE X a (dE X.K C τ s)):PE X (.BoolOp op [a] pos) (dE X.K C τ s):=DL h
def mO (ha:PE X a (dE X.K C τ (.d (.bl p))))(hb:p=true->PE X (.BoolOp .And (b::rest) pos) (dE X.K C τ (.d (.bl q)))):PE X (.BoolOp .And (a::b::rest) pos) (dE X.K C τ (.d (.bl (p&&q)))):=by
 cases p with
 | false=>refine peW (zw ha xM) λσ H Q z=>?_;obtain⟨A,H₀,B,S,k⟩:=dj z;exact aV S λv H' e d=>by cases d; exact⟨_,rfl,k _ H' e .bl⟩
 | true=>refine peW (zw ha (hb rfl)) λσ H Q z=>?_;obtain⟨A,H₀,B,S,k⟩:=dj z;exact aV S λv H' e d=>by cases d; exact⟨_,rfl,aV (S.mono e) λv H2 e2 d2=>k v H2 (e.trans e2) d2⟩
def B8 (ha:PE X a (dE X.K C τ (.d (.bl p)))):PE X (.UnaryOp .Not a pos) (dE X.K C τ (.d (.bl (!p)))):=peW (EZ ha) λσ H Q z=>by obtain⟨A,H₀,B,S,k⟩:=dj z;exact aV S λv H' e d=>by cases d; exact⟨_,rfl,k _ H' e .bl⟩
def oN (ha:PT X a (dT X.K τ p)):PW X (.BoolOp .And [a] pos) (dT X.K τ p):=pw_and1 ha
def jC (ha:PT X a (dT X.K τ p)):PW X (.BoolOp .Or [a] pos) (dT X.K τ p):=pw_or1 ha
def oy (ha:PT X a (dT X.K τ p))(hb:p=true->PW X (.BoolOp .And (b::rest) pos) (dT X.K τ q)):PW X (.BoolOp .And (a::b::rest) pos) (dT X.K τ (p&&q)):=by
 cases p with
 | false=>exact pwW (pw_and ha pw_no) λσ H Q ⟨A,H₀,B,S,k⟩=>⟨A,H₀,B,S,λH' e=>rJ (k H' e)⟩
 | true=>exact pwW (pw_and ha (hb rfl)) λσ H Q ⟨A,H₀,B,S,k⟩=>⟨A,H₀,B,S,λH' e=>pz (⟨A,H₀,B,S.mono e,λH2 e2=>k H2 (e.trans e2)⟩)⟩
def iW (ha:PT X a (dT X.K τ p))(hb:p=false->PW X (.BoolOp .Or (b::rest) pos) (dT X.K τ q)):PW X (.BoolOp .Or (a::b::rest) pos) (dT X.K τ (p||q)):=by
 cases p with
 | true=>exact pwW (pw_or ha pw_no) λσ H Q ⟨A,H₀,B,S,k⟩=>⟨A,H₀,B,S,λH' e=>pz (k H' e)⟩
 | false=>exact pwW (pw_or ha (hb rfl)) λσ H Q ⟨A,H₀,B,S,k⟩=>⟨A,H₀,B,S,λH' e=>rJ (⟨A,H₀,B,S.mono e,λH2 e2=>k H2 (e.trans e2)⟩)⟩
def cL (ha:PT X a (dT X.K τ p)):PT X (.UnaryOp .Not a pos) (dT X.K τ (!p)):=ptW (DG ha) λσ H Q ⟨A,H₀,B,S,k⟩=>⟨A,H₀,B,S,λH' e=>k H' e⟩
def x9 (hc:PT X c (dT X.K τ p))(ha:p=true->PE X a (dE X.K C τ s))(hb:p=false->PE X b (dE X.K C τ s)):PE X (.IfExp c a b pos) (dE X.K C τ s):=by
 have fin:∀{σ H H' Q} {A:Addr->Prop} {H₀ B},Sta X.K A H₀ τ B σ H->(∀v H' bs,ao H H'->Fr H H' bs->cI X.K (hd H' λb=>vw C A B b\/b∈bs) H' (some v) bs s->Q v H')->ao H H'->dE X.K C τ s σ H' Q:=λS k e=>⟨_,_,_,S.mono e,λv H2 bs e2 hf h=>k v H2 bs (e.trans e2) (λb hb=>⟨e.free (hf b hb).1,(hf b hb).2⟩) h⟩;cases p with
 | true=>exact peW (qJ hc (ha rfl) xM) λσ H Q ⟨A,H₀,B,S,k⟩=>⟨A,H₀,B,S,λH' e=>pz (fin S k e)⟩
 | false=>exact peW (qJ hc xM (hb rfl)) λσ H Q ⟨A,H₀,B,S,k⟩=>⟨A,H₀,B,S,λH' e=>rJ (fin S k e)⟩
def uV {op op':CmpOp}(ha:PE X a .(124))(hb:PE X b (dE X.K C τ (.d y)))(hc:PE X c (dE X.K C τ (.d z)))(h1:cH X (GE op) x y (.bl p))(h2:cH X (GE op') y z (.bl q))
   (hm:lastMarks [op,op'] [b,c]=false:=by with_unfolding_all rfl):PE X (.Compare a [op,op'] [b,c] pos) (dE X.K C τ (.d (.bl (p&&q))))/\(C=false->PT X (.Compare a [op,op'] [b,c] pos) (dT X.K τ (p&&q))):=by
 obtain⟨r,o1,k1⟩:=h1;obtain⟨r',o2,k2⟩:=h2
 have key:∀σ H Q,dE X.K C τ (.d (.bl (p&&q))) σ H Q->sJ r r' .(124) (dE X.K C τ (.d y)) (dE X.K C τ (.d z)) σ H Q:=λσ H Q h=>by
   obtain⟨A,H₀,B,S,k⟩:=dj h;refine aV S λv H1 e1 d1=>aV .(129) λw H2 e2 d2=>k1 (vw C A B) v w H2 _ (.(129).mono e2).vd (d1.mono (aD e2 λ_ z=>z)) d2 λu H3 e3 d3=>?_;cases d3;refine⟨p,rfl,?_⟩;cases p with
   | false=>exact rJ (k _ H3 (e1.trans (e2.trans e3)) .bl)
   | true=>exact pz (aV ((.(129).mono e2).mono e3) λw' H4 e4 d4=>k2 (vw C A B) w w' H4 Q (((.(129).mono e2).mono e3).mono e4).vd (d2.mono (aD (e3.trans e4) λ_ z=>z)) d4 λu H5 e5 d5=>k u H5 (e1.trans (e2.trans (e3.trans (e4.trans e5)))) d5)
 exact⟨peW (yo o1 o2 ha hb hc hm) key,λhC=>by subst hC; exact ptW (zR o1 o2 ha hb hc hm) (xC key)⟩
def ag:PA X [] (dA X.K C τ []):=paW cw λσ H Q ⟨A,H₀,B,S,k⟩=>k [] H .(102) .nil
def ae {ds:List D}(ha:PE X e .(124))(hr:PA X es (dA X.K C τ ds))(hs:Do (e::es) X.env=.(113)::Do es X.env:=by rfl):PA X (e::es) (dA X.K C τ (x::ds)):=paW (bh ha hr hs) λσ H Q ⟨A,H₀,B,S,k⟩=>aV S λv H1 e1 d1=>fO .(129) λvs H2 e2 d2=>k _ H2 (e1.trans e2) (.cons (d1.mono (aD e2 λ_ z=>z)) d2)
def bO {ds:List D}{m}(h:PA X es (dA X.K C τ ds))(hl:Nat.ble ds.length 1000=true:=by rfl):PE X (.Tuple es m pos) (dE X.K C τ (.d (.tup ds))):=peW (lI h) λσ H Q q=>by obtain⟨A,H₀,B,S,k⟩:=dj q;refine fO S λvs H1 e1 d1=>⟨by rw[d1.length]; exact JO (jU (Mb hl)),λp hp=>k _ _ (e1.trans (aq hp _)) ?_⟩;exact .tup (SqT.of (lg .(129).vd hp)) (d1.mono (aD (aq hp _) λ_ z=>z))
def ck {ds:List D}(h:PA X es (dA X.K C τ ds))(hl:Nat.ble ds.length 1000=true:=by rfl):PE X (.List es pos) (dE X.K C τ (.o ds)):=peW (Dw h) λσ H Q ⟨A,H₀,B,S,k⟩=>
 fO S λvs H1 e1 d1=>⟨by rw[d1.length]; exact JO (jU (Mb hl)),λp hp=>k _ _ [p] (e1.trans (aq hp _)) (λb hb=>by
   obtain rfl:=gV.mp hb
   exact⟨e1.free hp,_,aN⟩) ⟨p,vs,rfl,rfl,aN,d1.mono λb o z=>by
     obtain⟨z1,z2⟩:=ar.mp z;refine ar.mpr ⟨λy=>?_,aq hp _ _ _ z2⟩;rcases y with y | y
     . exact z1 y
     . rw[gV.mp y]at z2; rw[hp]at z2; cases z2⟩⟩
end
def spD (K:fw)(Φ:List D->Sl->Prop):Sp:=λvs H Q _=>∃A ds s,(∀b,A b->∃o,H b=some o)/\aw K (hd H A) vs ds/\Φ ds s /\
 ∀v H' bs,ao H H'->Fr H H' bs->cI K (hd H' λb=>A b\/b∈bs) H' (some v) bs s->Q v H'
def Cal (P:FB)(w:World)(K:fw)(mg:Str->Option Value)(base:Heap)(k:Nat)(n:Str)(Φ:List D->Sl->Prop):Prop:=∃f fd ps,a8 P w K mg base CX0 k f fd ps (spD K Φ)/\mg n=some (.ref f)/\J9 K (.ref f)=true/\Binds K fd ps []
def Cal.mono {P:FB}{w:World}{K:fw}{mg:Str->Option Value}{Φ:List D->Sl->Prop}(c:Cal P w K mg base j n Φ)(h:j<=k):.(90) n Φ:=let ⟨f,fd,ps,F,r⟩:=c; ⟨f,fd,ps,F.mono h,r⟩
noncomputable def aB:List Str:=["len","abs","max","min","int","bool","list","tuple","str","isinstance","range","enumerate","all","zip","sorted","sum","any","reversed"]
structure Bk (X:Cx)(k:Nat):Prop where
 room:gC k X.A
 calm:X.calm=true
 blt:∀x∈aB,X.mg x=none
 po:PassesOwn .(100) X.A X.env X.xe
section
variable {X:Cx}{C:Bool}{τ:List Sl}{x y z:D}{a b e:Expr}{es:List Expr}{pos p:Pos}{k:Nat}{s:Sl}{ds:List D}{i j:Int}
def x_call {n:Str}{Φ:List D->Sl->Prop}(B:Bk X k)(c:Cal X.prog X.w X.K X.mg X.base k n Φ)(ha:PA X (e::es) (dA X.K C τ ds))(h:Φ ds s)(hg:Gl X n:=by rfl)(hdb:(n==("__debug__" : Str))=false:=by decide)
   (he:Do (e::es) X.env=.(113)::Do es X.env:=by rfl) (hpl:(KF pos (Do es X.env)).any (·.1)=false:=by rfl):PE X (.Call .(108) (e::es) [] pos) (dE X.K C τ s):=by
 obtain⟨f,fd,ps,F,hm,hk,hb⟩:=c;refine peW (vI F B.room hg hm hk hb .nil Cv ha hdb he hpl) λσ H Q ⟨A,H₀,B,S,q⟩=>fO S λvs H1 e1 d1=>?_;rw[Jc];exact⟨vw C A B,ds,s,.(129).vd,d1,h,λv H' bs e2 hf h2=>q v H' bs (e1.trans e2) (λb hb=>⟨e1.free (hf b hb).1,(hf b hb).2⟩) h2⟩
def gx (X:Cx)(f:Value)(ds:List D)(s:Sl):Prop:=∃r:List V->Hp->VK->Prop,fH X f r /\
 ∀(M:Addr->Prop) (vs:List V) (H:Hp) (Q:VK),(∀b,M b->∃o,H b=some o)->aw X.K (hd H M) vs ds->(∀u H' bs,ao H H'->Fr H H' bs->cI X.K (hd H' λb=>M b\/b∈bs) H' (some u) bs s->Q u H')->r vs H Q
def x5 (hr:∀(M:Addr->Prop) (vs:List V) (H:Hp) (Q:VK),(∀b,M b->∃o,H b=some o)->aw X.K (hd H M) vs ds->(∀u H' bs,ao H H'->Fr H H' bs->cI X.K (hd H' λb=>M b\/b∈bs) H' (some u) bs s->Q u H')->r vs H Q):
   ∀σ H Q,dE X.K C τ s σ H Q->tCB r (dA X.K C τ ds) σ H Q:=λσ H Q ⟨A,H₀,B,S,q⟩=>
 fO S λvs H1 e1 d1=>hr (vw C A B) vs H1 Q .(129).vd d1 λv H' bs e2 hf h2=>q v H' bs (e1.trans e2) (λb hb=>⟨e1.free (hf b hb).1,(hf b hb).2⟩) h2
def bo {n:Str}{id:String}(B:Bk X k)(ha:PA X (e::es) (dA X.K C τ ds))(c:gx X (.builtin id) ds s)(hn:n∈aB:=by decide)(hg:Gl X n:=by rfl)(hv:N7 n=some (.builtin id):=by decide +kernel)(h1:n ≠ "__name__":=by decide)(hdb:(n==("__debug__" : Str))=false:=by decide)
   (he:Do (e::es) X.env=.(113)::Do es X.env:=by rfl) (hpl:(KF pos (Do es X.env)).any (·.1)=false:=by rfl):PE X (.Call .(108) (e::es) [] pos) (dE X.K C τ s):=by
 obtain⟨r,h1,h2⟩:=c;exact peW (ql h1 hg (B.blt _ hn) hv ha (by assumption) hdb he hpl) (x5 h2)
def pB {n:Str}{T:String}(B:Bk X k)(ha:PA X (e::es) (dA X.K C τ ds))(c:gx X (.type T) ds s)(hn:n∈aB:=by decide)(hg:Gl X n:=by rfl)(hv:N7 n=some (.type T):=by decide +kernel)(h1:n ≠ "__name__":=by decide)(hdb:(n==("__debug__" : Str))=false:=by decide)
   (he:Do (e::es) X.env=.(113)::Do es X.env:=by rfl) (hpl:(KF pos (Do es X.env)).any (·.1)=false:=by rfl):PE X (.Call .(108) (e::es) [] pos) (dE X.K C τ s):=by
 obtain⟨r,h1,h2⟩:=c;exact peW (nL h1 hg (B.blt _ hn) hv ha (by assumption) hdb he hpl) (x5 h2)
def jw {K:fw}{M:Addr->Prop}(h:Den K (hd H M) v x):cI K (hd H λb=>M b\/b∈([]:List Addr)) H (some v) [] (.d x):=⟨rfl,v,rfl,h.mono (aD .(102) λ_ z=>z.elim id λz=>nomatch z)⟩
def fu :Fr H H' []:=λ_ z=>nomatch z
def kr :gx X (.builtin "len") [.lst xs] (.d (.int xs.length)):=⟨_,jh,λM vs H Q _ d q=>by
 cases d with
 | cons d r=>
   cases r;cases d with
   | lst h r=>
     refine⟨_,_,rfl,.inl (aR aT h),?_⟩;rw[r.length];exact q _ H [] .(102) fu (jw .int)⟩
def fY :gx X (.builtin "len") [.tup xs] (.d (.int xs.length)):=⟨_,jh,λM vs H Q _ d q=>by
 cases d with
 | cons d r=>
   cases r;cases d with
   | tup h r=>
     refine⟨_,_,rfl,.inr (a5 aT h),?_⟩;rw[r.length];exact q _ H [] .(102) fu (jw .int)⟩
noncomputable def A6 (i:Int):Int:=if i<0 then -i else i
def rH:gx X (.builtin "abs") [.int i] (.d (.int (A6 i))):=⟨_,xO,λM vs H Q _ d q=>by
 cases d with
 | cons d r=>
   cases r;cases d;exact⟨_,rfl,q _ H [] .(102) fu (jw .int)⟩⟩
def xl (hc:X.calm=true):gx X (.builtin "max") [.int i,.int j] (.d (.int (if j>i then j else i))):=⟨_,wz hc,λM vs H Q _ d q=>by
 cases d with
 | cons d r=>
   cases r with
   | cons d' r=>
     cases r;cases d;cases d';exact⟨_,_,rfl,q _ H [] .(102) fu (jw .int)⟩⟩
def FJ (hc:X.calm=true):gx X (.builtin "min") [.int i,.int j] (.d (.int (if j<i then j else i))):=⟨_,v9 hc,λM vs H Q _ d q=>by
 cases d with
 | cons d r=>
   cases r with
   | cons d' r=>
     cases r;cases d;cases d';exact⟨_,_,rfl,q _ H [] .(102) fu (jw .int)⟩⟩
def BZ :gx X (.type "int") [.bl c] (.d (.int (if c then 1 else 0))):=⟨_,wt,λM vs H Q _ d q=>by
 cases d with
 | cons d r=>
   cases r;cases d;exact .inr ⟨_,rfl,q _ H [] .(102) fu (jw .int)⟩⟩
def jP {K:fw}{H:Hp}{M:Addr->Prop}{p:Addr}{vs:List V}{xs:List D}(hp:H p=none)(d:aw K (hd H M) vs xs):
   ao H (upd H p (.lst vs))/\Fr H (upd H p (.lst vs)) [p]/\cI K (hd (upd H p (.lst vs)) λb=>M b\/b∈[p]) (upd H p (.lst vs)) (some (.ref p)) [p] (.o xs):=
 ⟨aq hp _,λb hb=>by
   obtain rfl:=gV.mp hb
   exact⟨hp,_,aN⟩,p,vs,rfl,rfl,aN,d.mono λb o z=>by
     obtain⟨z1,z2⟩:=ar.mp z;refine ar.mpr ⟨λy=>?_,aq hp _ _ _ z2⟩;rcases y with y | y
     . exact z1 y
     . rw[gV.mp y]at z2; rw[hp]at z2; cases z2⟩
def oW :gx X (.type "list") [.lst xs] (.o xs):=⟨_,jH,λM vs H Q _ d q=>by
 cases d with
 | cons d r=>
   cases r;cases d with
   | lst h r=>
     refine⟨_,_,rfl,.inl (aR aT h),λp hp=>?_⟩;obtain⟨z1,z2,z3⟩:=jP (K:=X.K) (M:=M) hp r;exact q _ _ [p] z1 z2 z3⟩
def pJ :gx X (.type "list") [.tup xs] (.o xs):=⟨_,jH,λM vs H Q _ d q=>by
 cases d with
 | cons d r=>
   cases r;cases d with
   | tup h r=>
     refine⟨_,_,rfl,.inr (a5 aT h),λp hp=>?_⟩;obtain⟨z1,z2,z3⟩:=jP (K:=X.K) (M:=M) hp r;exact q _ _ [p] z1 z2 z3⟩
def sY {K:fw}{vs:List V}{ds:List D}{d:D}(r:aw K H vs ds)(h:atI ds i=some d):∃v,atI vs i=some v/\Den K H v d:=by
 unfold atI at h ⊢;rw[r.length];cases e:ixN ds.length i with
 | none=>rw[e]at h; cases h
 | some j=>rw[e]at h; exact r.get h
def Ar (X:Cx)(x y z:D):Prop:=∃r:R2,IxR X r /\
 ∀(M:Addr->Prop) (v w:V) (H:Hp) (Q:VK),(∀b,M b->∃o,H b=some o)->Den X.K (hd H M) v x->Den X.K (hd H M) w y->(∀u H',ao H H'->Den X.K (hd H' M) u z->Q u H')->r v w H Q
def aL (ha:PE X a .(124))(hb:PE X b (dE X.K C τ (.d y)))(ho:Ar X x y z)(hs:du b:=by exact λ_ _=>rfl):PE X (.Subscript a b pos) (dE X.K C τ (.d z)):=by obtain⟨r,h1,h2⟩:=ho;exact peW (uJ h1 ha hb hs) (two h2)
def aY (h:atI xs i=some z):Ar X (.lst xs) (.int i) z:=⟨_,kK,λM v w H Q _ d1 d2 q=>by
 cases d2;cases d1 with
 | lst hs r=>
   obtain⟨v,e,d⟩:=sY r h;exact⟨_,_,_,_,rfl,rfl,aR aT hs,e,q _ H .(102) d⟩⟩
def aQ (h:atI xs i=some z):Ar X (.tup xs) (.int i) z:=⟨_,D2,λM v w H Q _ d1 d2 q=>by
 cases d2;cases d1 with
 | tup hs r=>
   obtain⟨v,e,d⟩:=sY r h;exact⟨_,_,_,_,rfl,rfl,a5 aT hs,e,q _ H .(102) d⟩⟩
def fJ (n:Nat){nm:Str}{xs:List D}(hb:PE X b (dE X.K false τ (.d (.int i))))(hz:atI xs i=some z)(h:τ[n]?=some (.o xs):=by rfl)(hs:du b:=by exact λ_ _=>rfl)(hN:X.N[n]?=some nm:=by rfl)
   (hv:Vis X.env.scope nm:=by first | exact Ka rfl | exact Ji .(10) | exact Ji .(9)) (hd:(nm==("__debug__" : Str))=false:=by decide) (hcd:(nm==("__classdict__" : Str))=false:=by decide):PE X (.Subscript (.Name nm p) b pos) (dE X.K C τ (.d z)):=
 peW (uJ kK (bw (i:=n) hN hv hd hcd) hb hs) λσ H Q q=>by obtain⟨A,H₀,B,S,k⟩:=dj q;obtain⟨l,vs,hb,e1,e2,d⟩:=S.sl n _ h;refine⟨_,slot_of e1,aV S λw H1 e3 d1=>?_⟩;cases d1;obtain⟨v,e4,d4⟩:=sY d hz;exact⟨l,vs,i,v,rfl,rfl,SqL.of (e3 _ _ e2),e4,k v H1 e3 (d4.mono (aD e3 λ_ z=>iZ z))⟩
def dO (K:fw)(τ:List Sl)(c:Option Int):TO:=λσ H Q=>∃A H₀ B,Sta K A H₀ τ B σ H/\∀H',ao H H'->Q c H'
def GD {e:Option Expr}{t t':TO}(h:PO X e t)(f:∀σ H Q,t' σ H Q->t σ H Q):PO X e t':=λpins s σ H Q I q=>h pins s σ H Q I (f σ H Q q)
def iF:PO X none (dO X.K τ none):=GD AK λσ H Q ⟨A,H₀,B,S,k⟩=>k H .(102)
def fo (h:PE X e (dE X.K false τ (.d (.int i)))):PO X (some e) (dO X.K τ (some i)):=GD (By h) λσ H Q ⟨A,H₀,B,S,k⟩=>aV S λv H1 e1 d1=>by cases d1;exact⟨_,rfl,k H1 e1⟩
noncomputable def cutD (xs:List D)(lo hi:Option Int):List D:=(xs.drop (HT.sIx xs.length 0 lo)).take .(143)
def CW {lo hi:Option Expr}{l u:Option Int}{xs:List D}(ha:PE X a (dE X.K C τ (.d (.lst xs))))(hl:PO X lo (dO X.K τ l))(hu:PO X hi (dO X.K τ u)):PE X (.Subscript a (.Slice lo hi none p2) pos) (dE X.K C τ (.o (cutD xs l u))):=
 peW (rK BA ha hl hu) λσ H Q ⟨A,H₀,B,S,k⟩=>aV S λv H1 e1 d1=>⟨A,H₀,B,S.mono e1,λH2 e2=>⟨A,H₀,B,.(129).mono e2,λH3 e3=>by
   cases d1 with
   | @lst _ ws _ h r=>
     have h:=aR (e2.trans e3) (aR aT h);refine⟨_,_,rfl,h,λp hp=>?_⟩;have r:=r.mono (aD (e2.trans e3) λ_ z=>z);have r':aw X.K (hd H3 (vw C A B)) (mD ws l u) (cutD xs l u):=(by unfold mD cutD;rw[r.length];exact(r.drop _).take _);obtain⟨z1,z2,z3⟩:=jP (K:=X.K) hp r';exact k _ _ [p] (e1.trans (e2.trans (e3.trans z1))) (λb hb=>⟨(e1.trans (e2.trans e3)).free (z2 b hb).1,(z2 b hb).2⟩) z3⟩⟩
inductive Ty where
 | int | bool | str | list | tuple
noncomputable def tyN:Ty->String
 | .int=>"int" | .bool=>"bool" | .str=>"str" | .list=>"list" | .tuple=>"tuple"
noncomputable def GS:D->String
 | .non=>"NoneType" | .bl _=>"bool" | .int _=>"int" | .str _=>"str" | .tup _=>"tuple" | .lst _=>"list" | .box _=>"dict"
noncomputable def nq:Ty->D->Bool
 | .int,.int _=>true
 | .int,.bl _=>true
 | .bool,.bl _=>true
 | .str,.str _=>true
 | .list,.lst _=>true
 | .tuple,.tup _=>true
 | _,_=>false
def EO (K:fw)(d:D)(t:Ty):PySem.W.kitOne K (.type (GS d)) (.type (tyN t))=some (nq t d):=by cases d <;> cases t <;> (show PySem.W.kitOne K (.type _) (.type _)=some _) <;> with_unfolding_all rfl
def D3 (t:Ty):fH X (.builtin "isinstance") (λxs H Q=>∃G x d,ao G H/\xs=[x,.ty (tyN t)]/\Den X.K G x d/\Q (.bl (nq t d)) H):=by
 intro pins s σ H xs us Q I r q;obtain⟨G,x,d,sg,rfl,dx,q⟩:=q
 obtain⟨u,w,rfl,rx,rt⟩:∃u w,us=[u,w]/\RelV x u/\RelV (.ty (tyN t)) w:=by
   cases r with
   | cons r1 r=>cases r with
     | cons r2 r=>cases r; exact⟨_,_,rfl,r1,r2⟩
 cases (show w=LV (tyN t) from rt);have kt:=EO X.K d t;have fin:∀tk,EP X pins σ Q (.bool (nq t d)) { s with toks:=tk }:=λtk=>⟨.bl _,H,I.tok _,rfl,q⟩;cases dx with
 | non=>cases (show u=JS from rx); exact Ke PySem.W.kitx_none I.kIn J6 kt (λz=>nomatch z) fin
 | bl=>cases (show u=JI _ from rx); exact Ke PySem.W.kitx_bool I.kIn J6 kt (λz=>nomatch z) fin
 | int=>obtain⟨t',z⟩:=(show ∃t,u=Nu _ t from rx); cases z; exact Ke PySem.W.kitx_int I.kIn J6 kt (λz=>nomatch z) fin
 | str=>obtain⟨t',z⟩:=(show ∃t,u=Nt _ t from rx); cases z; exact Ke PySem.W.kitx_str I.kIn J6 kt (λz=>nomatch z) fin
 | tup h r1=>cases (show u=IT _ from rx);obtain⟨its,_,⟨o,h1,h2,_⟩,_⟩:=I.tuple (a5 sg h);exact Ke PySem.W.kitx_tuple I.kIn ⟨o,h1,h2⟩ kt (λz=>nomatch z) fin
 | lst h r1=>cases (show u=IT _ from rx);obtain⟨its,_,⟨o,n,h1,h2,_⟩,_⟩:=I.list (aR sg h);exact Ke PySem.W.kitx_list I.kIn ⟨o,h1,h2⟩ kt (λz=>nomatch z) fin
 | @box a x h=>cases (show u=IT _ from rx);obtain⟨o',h1,h2⟩:=x.isd h;obtain⟨o,h3,h4⟩:=h2 _ _ _ _ (I.hok a _ (sg _ _ h1));exact Ke PySem.W.kitx_dict I.kIn ⟨o,h3,h4⟩ kt (λz=>nomatch z) fin
def gw {n:Str}{q:Pos}(t:Ty)(B:Bk X k)(ha:PE X a (dE X.K false τ (.d x)))(hn:n∈aB:=by decide)(ht:N7 n=some (.type (tyN t)):=by decide +kernel)(hg:Gl X "isinstance":=by rfl)(hg':Gl X n:=by rfl)(h1:n ≠ "__name__":=by decide)(hdb:(n==("__debug__" : Str))=false:=by decide)
   (he:Do [a,.Name n q] X.env=.(121)::Do [.Name n q] X.env:=by rfl) (hpl:(KF pos (Do [.Name n q] X.env)).any (·.1)=false:=by rfl):PE X (.Call (.Name "isinstance" p) [a,.Name n q] [] pos) (dE X.K C τ (.d (.bl (nq t x)))):=by
 refine peW (ql (D3 t) hg (B.blt _ .(2)) .(23) (bh ha (bh (Bg (v:=.ty (tyN t)) hg' (B.blt _ hn) ht rfl h1 hdb) cw) he) .(2) .(2) he hpl) λσ H Q q=>?_;obtain⟨A,H₀,B,S,k⟩:=dj q;exact aV S λv H1 e1 d1=>⟨_,v,x,aT,rfl,d1,k _ H1 e1 .bl⟩
end
section
variable {K:fw}{A:Addr->Prop}{H₀ H:Hp}{τ:List Sl}{B:Nat->List Addr}{σ:L2.St}
def Sta.put (S:Sta K A H₀ τ B σ H)(hi:τ[i]?=some (.o xs))(hB:B i=[a])(d:aw K .(138) vs ys):Sta K A H₀ (τ.set i (.o ys)) B σ (upd H a (.lst vs)):=by
 have ha:own A B a:=.inr ⟨i,by rw[hB]; exact gV.mpr rfl⟩;have ne:∀b,b≠a->upd H a (.lst vs) b=H b:=λb h=>aF h;have sm:ao .(138) (hd (upd H a (.lst vs)) (own A B)):=λb o z=>by obtain⟨z1,z2⟩:=ar.mp z;exact ar.mpr ⟨z1,by rw[ne b (λe=>z1 (e▸ha))]; exact z2⟩
 have f0:H₀ a=none:=S.fr i a (by rw[hB]; exact gV.mpr rfl);have hs:ao H₀ (upd H a (.lst vs)):=λb o z=>by rw[ne b (λe=>by rw[e,f0]at z; cases z)]; exact S.same b o z
 refine⟨hs,by rw[Iz,S.len],λj t hj=>?_,S.fr,S.uq,S.ad,λj b hb=>?_⟩
 . by_cases ej:j=i
   . subst ej;have hl:=(tf.mp hi).1;rw[IH hl]at hj;cases hj;obtain⟨a',vs',e1,e2,_,_⟩:=S.sl j _ hi;rw[hB]at e1;cases e1;exact⟨a,vs,hB,e2,aN,d.mono sm⟩
   . rw[Ik (λz=>ej z.symm)]at hj;have q:=S.sl j t hj;have off:∀b∈B j,b≠a:=λb hb e=>ej (S.uq j i a (e▸hb) (by rw[hB]; exact gV.mpr rfl));cases t with
     | un=>exact q
     | d x=>obtain⟨z,u,e,d⟩:=q; exact⟨z,u,e,d.mono sm⟩
     | o zs=>obtain⟨c,ws,z1,z2,z3,z4⟩:=q;exact⟨c,ws,z1,z2,by rw[ne c (off c (by rw[z1]; exact gV.mpr rfl))]; exact z3,z4.mono sm⟩
     | n t=>obtain⟨z0,u,z1,z2⟩:=q;exact⟨z0,u,z1,z2.frame sm λb hb=>ne b (off b hb)⟩
     | x E=>obtain⟨c,o,z1,z2,z3,z4⟩:=q;exact⟨c,o,z1,z2,by rw[ne c (off c (by rw[z1]; exact gV.mpr rfl))]; exact z3,E.mono sm z4⟩
 . by_cases e:b=a
   . subst e; exact⟨_,aN⟩
   . rw[ne b e]; exact S.bd j b hb
def Sta.fz (S:Sta K A H₀ τ B σ H)(hi:τ[i]?=some s)(hx:fzD s=some x):Sta K A H₀ (τ.set i (.d x)) (upB B i []) σ H:=S.less (λ_ z=>nomatch z) λG g hv=>by obtain⟨u,e,d⟩:=(S.sl i s hi).den (G':=G) g (λb hb o ho=>hv b o hb (λz=>nomatch z) ho) hx;exact⟨rfl,u,e,d⟩
end
section
variable {X:Cx}{τ:List Sl}{x z:D}{b e c:Expr}{pos p:Pos}{s:Sl}{ds:List D}{N:Po}{st:Stmt}{rest body els:List Stmt}
def aS (h:N.nx τ):PSs X [] .(114):=gH jg λD σ H ⟨A,H₀,B,S,M⟩=>M.nx τ B σ H h S
def bB (h1:PS X st (dS X.K τ { N with nx:=M }))(h2:∀τ',M τ'->PSs X rest (dS X.K τ' N)):PSs X (st::rest) .(114):=by have h:PSs X rest λD σ H=>∃τ',M τ'/\dS X.K τ' N D σ H:=λpins s σ H D I ⟨τ',m,q⟩=>h2 τ' m pins s σ H D I q;exact gH (d8 h1 h) λD σ H ⟨A,H₀,B,S,Me⟩=>⟨A,H₀,B,S,λτ' B' σ' H' m S'=>⟨τ',m,A,H₀,B',S',Me⟩,Me.bk,Me.ct,Me.rt,Me.xc⟩
def jX (i:Nat){s:Sl}{x:D}(h:PSs X rest (dS X.K (τ.set i (.d x)) N))(hi:τ[i]?=some s:=by rfl)(hx:fzD s=some x:=by rfl):PSs X rest .(114):=gH h λD σ H ⟨A,H₀,B,S,Me⟩=>⟨A,H₀,_,S.fz hi hx,Me⟩
def aM (i:Nat){n:Str}{p:Pos}(hN:X.N.Nodup)(he:PE X e (dE X.K true τ s))(hr:PSs X rest (dS X.K (τ.set i s) N))(hi:X.N[i]?=some n:=by rfl)(hx:Loc X.env.scope n:=by first | exact .inl rfl | exact .inr rfl)(hs:N1 e (some (.Name n p)) pos.line X.env=pure false:=by rfl)
   (hf:X.fn n=true\/X.env.scope.names.lookup n=some .local:=by first | exact .inl rfl | exact .inr rfl | assumption):PSs X (.Assign [.Name n p] e pos::rest) (dS X.K τ N):=
 bB (M:=(·=τ.set i s)) (psW (yk hN hi hx he hs hf) λD σ H ⟨A,H₀,B,S,Me⟩=>⟨A,H₀,B,S,λv H' bs e hf h=>Me.nx _ _ _ _ rfl (S.set e hf h)⟩) λ_ e=>e▸hr
def Dj (he:PE X e (dE X.K true τ s))(hr:PSs X rest .(114))(hs:N1 e none pos.line X.env=pure false:=by rfl):PSs X (.Expr e pos::rest) .(114):=bB (M:=(·=τ)) (psW (dJ he hs) λD σ H ⟨A,H₀,B,S,Me⟩=>⟨A,H₀,B,S,λv H' bs e hf h=>Me.nx _ _ _ _ rfl (S.mono e)⟩) λ_ e=>e▸hr
def aX (he:PE X e (dE X.K false τ s))(h:N.rt s):PSs X (.Return (some e) pos::rest) .(114):=bB (M:=λ_=>False) (psW (mS he) λD σ H ⟨A,H₀,B,S,Me⟩=>⟨A,H₀,B,S,λv H' bs e hf q=>Me.rt v H' bs s h (S.same.trans e) (λb hb=>⟨S.same.free (hf b hb).1,(hf b hb).2⟩) q⟩) λ_ e=>e.elim
def tM (i:Nat){n:Str}(h:N.rt s)(hi:τ[i]?=some s:=by rfl)(h0:s≠.un:=by exact nofun)(hN:X.N[i]?=some n:=by rfl)(hv:Vis X.env.scope n:=by first | exact Ka rfl | exact Ji .(10) | exact Ji .(9))
   (hd:(n==("__debug__" : Str))=false:=by decide) (hcd:(n==("__classdict__" : Str))=false:=by decide):PSs X (.Return (some .(108)) pos::rest) .(114):=
 bB (M:=λ_=>False) (psW (mS (bw hN hv hd hcd)) λD σ H ⟨A,H₀,B,S,Me⟩=>by
   have q:=S.sl i s hi
   obtain⟨u,e⟩:∃u,(σ[i]?).join=some u:=by
     cases s with
     | un=>exact absurd rfl h0
     | d x=>obtain⟨_,u,e,_⟩:=q; exact⟨u,e⟩
     | o xs=>obtain⟨_,_,_,e,_⟩:=q; exact⟨_,e⟩
     | n t=>obtain⟨_,u,e,_⟩:=q; exact⟨u,e⟩
     | x E=>obtain⟨_,_,_,e,_⟩:=q; exact⟨_,e⟩
   rw[e]at q;exact⟨u,slot_of e,Me.rt u H (B i) s h S.same (λb hb=>⟨S.fr i b hb,S.bd i b hb⟩) (q.mono (aD .(102) λb z=>z.elim .inl λz=>.inr ⟨i,z⟩) .(102))⟩) λ_ e=>e.elim
def B1 {σ:L2.St}{D:Ends}{A:Addr->Prop}{B:Nat->List Addr}(S:Sta X.K A H₀ τ B σ H)(Me:Meets X.K A H₀ N D)(e:ao H H'):dS X.K τ N D σ H':=⟨A,H₀,B,S.mono e,Me⟩
def HP (hc:PT X c (dT X.K τ t))(ha:t=true->PSs X body .(114))(hb:t=false->PSs X els .(114)):PS X (.If c body els pos) .(114):=by
 cases t with
 | true=>exact psW (nN hc (ha rfl) cE) λD σ H ⟨A,H₀,B,S,Me⟩=>⟨A,H₀,B,S,λH' e=>pz (B1 S Me e)⟩
 | false=>exact psW (nN hc cE (hb rfl)) λD σ H ⟨A,H₀,B,S,Me⟩=>⟨A,H₀,B,S,λH' e=>rJ (B1 S Me e)⟩
def gq (hc:PT X c (dT X.K τ t))(ha:t=true->PSs X body (dS X.K τ { N with nx:=M }))(hb:t=false->PSs X els (dS X.K τ { N with nx:=M }))(hr:∀τ',M τ'->PSs X rest (dS X.K τ' N)):PSs X (.If c body els pos::rest) .(114):=bB (HP hc ha hb) hr
def eD (hc:PT X c (dT X.K τ t))(ha:t=true->PSs X body (dS X.K τ { N with nx:=λ_=>False }))(hr:t=false->PSs X rest .(114)):PSs X (.If c body [] pos::rest) .(114):=by
 cases t with
 | true=>exact gq (M:=λ_=>False) hc ha (λz=>nomatch z) λ_ z=>z.elim
 | false=>exact gq (M:=(·=τ)) hc (λz=>nomatch z) (λ_=>aS rfl) λ_ e=>e▸hr rfl
def dQ (hc:PT X c (dT X.K τ t))(ht:t=false)(hr:PSs X rest .(114)):PSs X (.If c body [] pos::rest) .(114):=eD hc (λz=>by rw[ht]at z; cases z) λ_=>hr
def lW (i:Nat){n:Str}{xs:List D}{ap cp:Pos}(he:PE X e (dE X.K true τ (.d x)))(hl:xs.length<1000000)(hr:PSs X rest (dS X.K (τ.set i (.o (xs++[x]))) N))(hi:τ[i]?=some (.o xs):=by rfl)(hN:X.N[i]?=some n:=by rfl)
   (hv:Vis X.env.scope n:=by first | exact Ka rfl | exact Ji .(10) | exact Ji .(9)) (hd:(n==("__debug__" : Str))=false:=by decide) (hcd:(n==("__classdict__" : Str))=false:=by decide)
   (hfew:((KF cp (Do [e] X.env)).all (λx=>!x.1)&&(NO cp (N8 [] X.env)).all (λx=>x.1.isSome)&&decide (([e]:List Expr).length+([]:List N6).length+(if ([]:List N6).isEmpty then 0 else 1)<30))=true:=by rfl)
   (hline:(ap.endLine==cp.line)=true:=by rfl) (hst:Do [e] X.env=.(113)::Do [] X.env:=by rfl) (hpl:(KF cp (Do [] X.env)).any (·.1)=false:=by rfl)
   (hs:N1 .(149) none pos.line X.env=pure false:=by rfl) (hbase:N4 .(108) "append" X.env (eval .(108) X.env)=eval .(108) X.env:=by rfl) :
   PSs X (.Expr .(149) pos::rest) .(114):=
 bB (M:=(·=τ.set i (.o (xs++[x])))) (psW (dJ (jz Jf KJ Lm fK (bw hN hv hd hcd) (bh he cw hst) hbase hfew hline hst hpl) hs) λD σ H ⟨A,H₀,B,S,Me⟩=>by
   obtain⟨l,vs,hb,e1,e2,d⟩:=S.sl i _ hi;refine⟨_,slot_of e1,.inl ⟨rfl,_,SqL.of e2⟩,aV S λv H1 e3 d1=>⟨l,vs,v,rfl,rfl,e3 _ _ e2,by rw[d.length]; exact JA hl .(2),?_⟩⟩;exact Me.nx _ _ _ _ rfl ((S.mono e3).put hi hb ((d.mono (aD e3 λ_ z=>z)).append (.cons d1 .nil)))) λ_ e=>e▸hr
theorem fZ {K:fw}:∀{vs:List V} {ds:List D} {v:V} {d:D} (j:Nat),aw K H vs ds->Den K H v d->aw K H (vs.set j v) (ds.set j d)
 | _,_,_,_,_,.nil,_=>.nil
 | _,_,_,_,0,.cons _ r,h=>.cons h r
 | _,_,_,_,j+1,.cons h' r,h=>.cons h' (fZ j r h)
def xW (i:Nat){n:Str}{xs:List D}{m:Int}{j:Nat}{ix:Expr}{sp:Pos}(hx:PE X ix (dE X.K false τ (.d (.int m))))(he:PE X e (dE X.K true τ (.d x)))(hj:ixN xs.length m=some j)(hr:PSs X rest (dS X.K (τ.set i (.o (xs.set j x))) N))(hi:τ[i]?=some (.o xs):=by rfl)(hN:X.N[i]?=some n:=by rfl)
   (hv:Vis X.env.scope n:=by first | exact Ka rfl | exact Ji .(10) | exact Ji .(9)) (hd:(n==("__debug__" : Str))=false:=by decide) (hcd:(n==("__classdict__" : Str))=false:=by decide)
   (hs:NL [.Subscript .(108) ix sp] e pos.line X.env=pure false:=by rfl) (hw:NM [.Subscript .(108) ix sp] e X.env=pure none:=by rfl) (h1:(KM [.Subscript .(108) ix sp] X.env).map (·.2)=[assign (.Subscript .(108) ix sp) X.env]:=by rfl)
   (ha:∀v,assign (.Subscript .(108) ix sp) X.env v=(do
     let ov <- N3 [v] (eval .(108) X.env)
     let iv <- N3 [v,ov] (eval ix X.env)
     O1 sp
     N3 [v,ov,iv] (O2 ov iv v)
     Of [v,ov,iv] []):=by intro _; rfl) :
   PSs X (.Assign [.Subscript .(108) ix sp] e pos::rest) .(114):=
 bB (M:=(·=τ.set i (.o (xs.set j x)))) (psW (jM he (iM (bw hN hv hd hcd) hx set_list ha) hs hw h1) λD σ H ⟨A,H₀,B,S,Me⟩=>aV S λv H1 e1 d1=>by
   obtain⟨l,vs,hb,f1,f2,d⟩:=.(129).sl i _ hi;refine⟨_,slot_of f1,aV .(129) λw H2 e2 d2=>?_⟩;cases d2;refine⟨l,vs,m,j,rfl,rfl,e2 _ _ f2,by rw[d.length]; exact hj,?_⟩;exact Me.nx _ _ _ _ rfl ((.(129).mono e2).put hi hb (fZ j (d.mono (aD e2 λ_ z=>z)) (d1.mono (aD e2 λ_ z=>z))))) λ_ e=>e▸hr
end
end Hy
namespace Hy
open PySem PySem.Spec PyProof.Rows L2
open Ev (D Den aw aq a5 aR Ite Itz Itv Dp DO EK oQ tH sQ aU gB eR PTs dB fE)
def Yl (K:fw)(J:L2.It)(xs:List D)(G:Hp):Prop:=∀H,ao G H->(∀i,xs.length<=i->J.stop i H)/\∀(i:Nat) (h:i<xs.length),J.go i H /\
 ∀x H',J.yld i H x H'->ao H H'/\∀M:Addr->Prop,(∀b,M b->∃o,H b=some o)->ao G (hd H M)->Den K (hd H' M) x xs[i]
def dI (K:fw)(τ:List Sl)(xs:List D):TI:=λσ H R=>∃A H₀ B,Sta K A H₀ τ B σ H/\∀J H',ao H H'->Yl K J xs (hd H' (own A B))->R J H'
def dG (K:fw)(τ:List Sl)(x:D)(τ':List Sl):TG:=λv σ H Q=>∃A H₀ B,Sta K A H₀ τ B σ H/\Den K .(138) v x/\∀σ' B',Sta K A H₀ τ' B' σ' H->Q σ' H
def piW (h:PI X tg e t)(f:∀σ H Q,t' σ H Q->t σ H Q):PI X tg e t':=λpins s σ H Q I q=>h pins s σ H Q I (f σ H Q q)
def pgW (h:PG X e t)(f:∀v σ H Q,t' v σ H Q->t v σ H Q):PG X e t':=λpins s σ H v u Q I r q=>h pins s σ H v u Q I r (f v σ H Q q)
section
variable {K:fw}{G:Hp}{a:Addr}{vs:List V}{xs:List D}
def Ak (h:SqL K G a vs)(r:aw K G vs xs):Yl K (Itl K a) xs G:=by
 intro H sg;have hl:=r.length;refine⟨λi hi=>⟨vs,aR sg h,by omega⟩,λi hi=>?_⟩;obtain⟨v,hv,dv⟩:=r.get (ph hi);refine⟨⟨vs,v,aR sg h,hv⟩,λx H' ⟨e1,e2⟩=>?_⟩;subst e1;have ex:x=v:=by have:=e2 vs (aR sg h); rw[hv]at this; exact(IM this).symm
 subst ex;exact⟨ao.refl _,λM _ sv=>dv.mono sv⟩
def DZ (h:SqT K G a vs)(r:aw K G vs xs):Yl K (Itt K a) xs G:=by
 intro H sg;have hl:=r.length;refine⟨λi hi=>⟨vs,a5 sg h,by omega⟩,λi hi=>?_⟩;obtain⟨v,hv,dv⟩:=r.get (ph hi);refine⟨⟨vs,v,a5 sg h,hv⟩,λx H' ⟨e1,e2⟩=>?_⟩;subst e1;have ex:x=v:=by have:=e2 vs (a5 sg h); rw[hv]at this; exact(IM this).symm
 subst ex;exact⟨ao.refl _,λM _ sv=>dv.mono sv⟩
noncomputable def i8 (lo:Int)(n:Nat):List D:=(ox n).map λk=>D.int (lo+(k:Nat))
def aP (lo:Int)(n:Nat):(i8 lo n).length=n:=by simp[i8]
def kW (lo:Int)(n i:Nat)(h:i<(i8 lo n).length):(i8 lo n)[i]=.int (lo+(i:Nat)):=by simp[i8]
def xG (lo:Int)(n:Nat):Yl K (Itr lo n) (i8 lo n) G:=by
 intro H sg;refine⟨λi hi=>by rw[aP]at hi; exact hi,λi hi=>?_⟩;have hi':i<n:=by rw[aP]at hi; exact hi
 refine⟨hi',λx H' ⟨e1,e2⟩=>?_⟩;subst e1 e2;refine⟨ao.refl _,λM _ sv=>?_⟩;rw[kW];exact .int
noncomputable def mF (xs:List D):List D:=(ox xs.length).map λi=>D.tup [.int (i:Nat),xs.getD i .non]
def dN (xs:List D):(mF xs).length=xs.length:=by simp[mF]
def oM (xs:List D)(i:Nat)(h:i<(mF xs).length):(mF xs)[i]=.tup [.int (i:Nat),xs.getD i .non]:=by simp[mF]
def Dt (h:SqL K G a vs)(r:aw K G vs xs):Yl K (Ite K a) (mF xs) G:=by
 intro H sg;have hl:=r.length;have el:=dN xs;refine⟨λi hi=>⟨vs,aR sg h,by omega⟩,λi hi=>?_⟩;have hi':i<xs.length:=by omega
 obtain⟨v,hv,dv⟩:=r.get (ph hi');refine⟨⟨vs,v,aR sg h,hv⟩,λy H' ⟨p,x,hp,e0,e1,e2⟩=>?_⟩;subst e0 e1;have ex:x=v:=by have:=e2 vs (aR sg h); rw[hv]at this; exact(IM this).symm
 subst ex;refine⟨aq hp _,λM hM sv=>?_⟩;rw[oM,show xs.getD i .non=xs[i] by simp[LF,hi']];exact .tup (SqT.of (lg hM hp)) (.cons .int (.cons (dv.mono (sv.trans (aD (aq hp _) λ_ z=>z))) .nil))
end
section
variable {X:Cx}{τ:List Sl}{x y z:D}{a b e tg it:Expr}{pos p q:Pos}{k:Nat}{s:Sl}{xs:List D}{N:Po}{rest body:List Stmt}
def bC (h:PE X it (dE X.K true τ (.d (.lst xs))))(hc:X.calm=true:=by first | rfl | assumption):PI X tg it (dI X.K τ xs):=piW (vN hc h) λσ H R ⟨A,H₀,B,S,k⟩=>aV S λv H1 e1 d1=>by
 cases d1 with
 | lst h r=>exact⟨_,rfl,⟨_,aR aT h⟩,k _ H1 e1 (Ak h r)⟩
def F6 (h:PE X it (dE X.K true τ (.d (.tup xs))))(hc:X.calm=true:=by first | rfl | assumption):PI X tg it (dI X.K τ xs):=piW (EU hc h) λσ H R ⟨A,H₀,B,S,k⟩=>aV S λv H1 e1 d1=>by
 cases d1 with
 | tup h r=>exact⟨_,rfl,⟨_,a5 aT h⟩,k _ H1 e1 (DZ h r)⟩
def eX {n:Int}(B:Bk X k)(h:PE X a (dE X.K false τ (.d (.int n))))(h1:-(2^62)<=n)(h2:n<2^62)(hg:Gl X "range":=by rfl)(hs:Do [a] X.env=[.(121)]:=by rfl):PI X tg (.Call (.Name "range" p) [a] [] pos) (dI X.K τ (i8 0 n.toNat)):=
 piW (wj (.inl B.calm) hg (B.blt _ .(2)) (ae h ag hs) hs) λσ H R ⟨A,H₀,B,S,k⟩=>fO S λvs H1 e1 d1=>by
   cases d1 with
   | cons d r=>cases r;cases d;exact⟨n,rfl,h1,h2,k _ H1 e1 (xG 0 _)⟩
def yQ {m n:Int}(B:Bk X k)(h:PE X a (dE X.K false τ (.d (.int m))))(h':PE X b (dE X.K false τ (.d (.int n))))(h1:-(2^62)<=m/\m<2^62/\-(2^62)<=n/\n<2^62)(hg:Gl X "range":=by rfl)(hs:Do [a,b] X.env=[.(121),(false,eval b X.env)]:=by rfl)
   (hs2:Do [b] X.env=[(false,eval b X.env)]:=by rfl):PI X tg (.Call (.Name "range" p) [a,b] [] pos) (dI X.K τ (i8 m (n-m).toNat)):=
 piW (wH (.inl B.calm) hg (B.blt _ .(2)) (ae h (ae h' ag hs2) (by rw[hs,hs2])) hs hs2) λσ H R ⟨A,H₀,B,S,k⟩=>fO S λvs H1 e1 d1=>by
   cases d1 with
   | cons d r=>
     cases r with
     | cons d' r=>cases r;cases d;cases d';exact⟨m,n,rfl,h1,k _ H1 e1 (xG m _)⟩
def zF {ts:List Expr}{m:Nat}{tp:Pos}(B:Bk X k)(h:PE X a (dE X.K true τ (.d (.lst xs))))(hg:Gl X "enumerate":=by rfl)(hs:Do [a] X.env=[.(121)]:=by rfl):PI X (.Tuple ts m tp) (.Call (.Name "enumerate" p) [a] [] pos) (dI X.K τ (mF xs)):=
 piW (oQ B.calm hg (B.blt _ .(2)) (ae h ag hs) hs) λσ H R ⟨A,H₀,B,S,k⟩=>fO S λvs H1 e1 d1=>by
   cases d1 with
   | cons d r=>
     cases r;cases d with
     | lst h r=>exact⟨_,rfl,⟨_,aR aT h⟩,k _ H1 e1 (Dt h r)⟩
def Bi (i:Nat){n:Str}(hN:X.N.Nodup)(hi:X.N[i]?=some n:=by rfl)(hx:Loc X.env.scope n:=by first | exact .inl rfl | exact .inr rfl)(hf:X.fn n=true\/X.env.scope.names.lookup n=some .local:=by first | exact .inl rfl | exact .inr rfl | assumption):PG X (.Name n p) (dG X.K τ x (τ.set i (.d x))):=pgW (eF (i:=i) hN hi hx hf) λv σ H Q ⟨A,H₀,B,S,d,k⟩=>k _ _ (S.set .(102) (bs:=[]) (λ_ z=>nomatch z) (jw d))
def B5 (i j:Nat){n m:Str}{p2 pt:Pos}{md:Nat}(hc:X.calm=true)(hN:X.N.Nodup)(hi:X.N[i]?=some n:=by rfl)(hj:X.N[j]?=some m:=by rfl)(hx:Loc X.env.scope n:=by first | exact .inl rfl | exact .inr rfl)(hy:Loc X.env.scope m:=by first | exact .inl rfl | exact .inr rfl)
   (hf:X.fn n=true\/X.env.scope.names.lookup n=some .local:=by first | exact .inl rfl | exact .inr rfl | assumption) (hf':X.fn m=true\/X.env.scope.names.lookup m=some .local:=by first | exact .inl rfl | exact .inr rfl | assumption) :
   PG X (.Tuple [.Name n p,.Name m p2] md pt) (dG X.K τ (.tup [x,y]) ((τ.set i (.d x)).set j (.d y))):=by
 refine pgW (pN hc (eg (eF (i:=i) hN hi hx hf) (eg (eF (i:=j) hN hj hy hf') kR))) λv σ H Q ⟨A,H₀,B,S,d,k⟩=>?_;cases d with
 | tup h r=>
   cases r with
   | cons d1 r=>
     cases r with
     | cons d2 r=>cases r;have S1:=S.set (i:=i) .(102) (bs:=[]) (λ_ z=>nomatch z) (jw d1);have sub:∀b,own A (upB B i []) b->own A B b:=λb z=>z.elim .inl λ⟨j,z⟩=>(bb z).elim (λz=>nomatch z.2) λz=>.inr ⟨j,z.2⟩;exact⟨_,_,rfl,a5 aT h,rfl,_,_,rfl,_,_,rfl,rfl,k _ _ (S1.set (i:=j) .(102) (bs:=[]) (λ_ z=>nomatch z) (jw (d2.mono (aD .(102) sub))))⟩
def Sta.base {K:fw}{A:Addr->Prop}{τ:List Sl}{B:Nat->List Addr}{σ:L2.St}(S:Sta K A H₀ τ B σ H):ao H₀ (hd H λb=>∃i,b∈B i)/\Sta K A (hd H λb=>∃i,b∈B i) τ B σ H:=by
 have s0:ao H₀ (hd H λb=>∃i,b∈B i):=λb o h=>ar.mpr ⟨λ⟨i,z⟩=>(by rw[S.fr i b z]at h; cases h),S.same _ _ h⟩
 exact⟨s0,aT,S.len,S.sl,λi b hb=>by
   cases e:hd H (λb=>∃i,b∈B i) b with
   | none=>rfl
   | some o=>exact absurd ⟨i,hb⟩ (ar.mp e).1,S.uq,λb hb=>let ⟨o,q⟩:=S.ad b hb; ⟨o,s0 _ _ q⟩,S.bd⟩
def Sta.back {K:fw}{A:Addr->Prop}{τ:List Sl}{B:Nat->List Addr}{σ:L2.St}(S:Sta K A G τ B σ H)(s:ao H₀ G)(ad:∀b,A b->∃o,H₀ b=some o):Sta K A H₀ τ B σ H:=⟨s.trans S.same,S.len,S.sl,λi b hb=>s.free (S.fr i b hb),S.uq,ad,S.bd⟩
def xo {M:Nat->List Sl->Prop}{T:Nat->List Sl->List Sl}(B:Bk X k)(hi:PI X tg it (dI X.K τ xs))(h0:M 0 τ)(hg:∀i (h:i<xs.length) τ',M i τ'->PG X tg (dG X.K τ' xs[i] (T i τ')))
   (hb:∀i,i<xs.length->∀τ',M i τ'->PSs X body (dS X.K (T i τ') { N with nx:=M (i+1),ct:=M (i+1),bk:=N.nx })) (hn:∀τ',M xs.length τ'->N.nx τ')
   (hs:∀x,foldedSetIterable it X.env x=pure x:=by intro _; rfl):PS X (.For tg it body [] pos) .(114):=by
 have hg':PG X tg λv σ H Q=>∃(i:Nat) (h:i<xs.length) (τ':List Sl),M i τ'/\dG X.K τ' xs[i] (T i τ') v σ H Q:=λpins s σ H v u Q I r ⟨i,h,τ',m,q⟩=>hg i h τ' m pins s σ H v u Q I r q;have hb':PSs X body λD σ H=>∃i τ',i<xs.length/\M i τ'/\dS X.K (T i τ') { N with nx:=M (i+1),ct:=M (i+1),bk:=N.nx } D σ H:=λpins s σ H D I ⟨i,τ',h,m,q⟩=>hb i h τ' m pins s σ H D I q;refine psW (t9 B.po hi hg' hb' hs) λD σ H ⟨A,H₀,B,S,Me⟩=>⟨A,H₀,B,S,λJ H1 e1 yl=>?_⟩;obtain⟨s0,S1⟩:=.(129).base;have sub:∀{H'},ao (hd H1 λb=>∃i,b∈B i) H'->ao (hd H1 (own A B)) H':=λe=>(aD .(102) λ_ z=>.inr z).trans e;refine⟨λi m σ' H'=>m=xs.length-i/\i<=xs.length/\∃τ' B',M i τ'/\Sta X.K A (hd H1 λb=>∃i,b∈B i) τ' B' σ' H',⟨xs.length,rfl,Im _,τ,B,h0,S1⟩,?_⟩;rintro i m σ' H' ⟨rfl,hi,τ',B',hM,S'⟩;obtain⟨y1,y2⟩:=yl H' (sub S'.same);by_cases hlt:i<xs.length
 . obtain⟨g,y⟩:=y2 i hlt;refine .inr ⟨g,λσ2 H2=>∃τ2 B2,M (i+1) τ2/\Sta X.K A (hd H1 λb=>∃i,b∈B i) τ2 B2 σ2 H2,λσ2 H2 q=>⟨xs.length-(i+1),by omega,rfl,hlt,q⟩,λx H2 hy=>?_⟩;obtain⟨e2,dx⟩:=y x H2 hy;have S2:=S'.mono e2;refine⟨i,hlt,τ',hM,A,_,B',S2,dx (own A B') S'.dm ?_,λσ3 B3 S3=>⟨i,τ',hlt,hM,A,_,B3,S3,?_⟩⟩
   . intro b o z;obtain⟨z1,z2⟩:=ar.mp z;have z3:hd H1 (λb=>∃i,b∈B i) b=some o:=ar.mpr ⟨λy=>z1 (.inr y),z2⟩;refine ar.mpr ⟨λy=>?_,S'.same _ _ z3⟩;rcases y with y | ⟨l,y⟩
     . exact z1 (.inl y)
     . rw[S'.fr l b y]at z3; cases z3
   . exact⟨λτ3 B3 σ3 H3 m S3=>⟨τ3,B3,m,S3⟩,λτ3 B3 σ3 H3 m S3=>Me.nx τ3 B3 σ3 H3 m (S3.back s0 S.ad),λτ3 B3 σ3 H3 m S3=>⟨τ3,B3,m,S3⟩,
       λv H3 bs s3 hr e3 hf q=>Me.rt v H3 bs s3 hr (s0.trans e3) (λb hb=>⟨s0.free (hf b hb).1,(hf b hb).2⟩) q,λH3 e3=>Me.xc H3 (s0.trans e3)⟩
 . have e:i=xs.length:=by omega
   subst e;exact .inl ⟨y1 _ .(3),Me.nx τ' B' σ' H' (hn τ' hM) (S'.back s0 S.ad)⟩
def cn (j:Nat){n:Str}(M:Nat->List Sl->Prop){g:Nat->D}(B:Bk X k)(hN:X.N.Nodup)(hi:PI X .(108) it (dI X.K τ xs))(hx:∀i (h:i<xs.length),xs[i]=g i)(h0:M 0 τ)
   (hb:∀i,i<xs.length->∀τ',M i τ'->PSs X body (dS X.K (τ'.set j (.d (g i))) { N with nx:=M (i+1),ct:=M (i+1),bk:=λ_=>False }))
   (hr:∀τ',M xs.length τ'->PSs X rest (dS X.K τ' N)) (hs:∀x,foldedSetIterable it X.env x=pure x:=by intro _; rfl) (hi':X.N[j]?=some n:=by rfl) (hl:Loc X.env.scope n:=by first | exact .inl rfl | exact .inr rfl)
   (hf:X.fn n=true\/X.env.scope.names.lookup n=some .local:=by first | exact .inl rfl | exact .inr rfl | assumption):PSs X (.For (.Name n p) it body [] pos::rest) (dS X.K τ N):=
 bB (M:=M xs.length) (xo (M:=M) (T:=λi τ'=>τ'.set j (.d (g i))) B hi h0 (λi h τ' m=>by rw[hx i h]; exact Bi j hN hi' hl hf)
   (λi h τ' m=>gH (hb i h τ' m) λD σ H ⟨A,H₀,B,S,Me⟩=>⟨A,H₀,B,S,Me.nx,λ_ _ _ _ z=>z.elim,Me.ct,Me.rt,Me.xc⟩) (λ_ m=>m) hs) hr
def sG (j l:Nat){n m:Str}{p2 pt:Pos}{md:Nat}(M:Nat->List Sl->Prop){g g':Nat->D}(B:Bk X k)(hN:X.N.Nodup)(hi:PI X (.Tuple [.Name n p,.Name m p2] md pt) it (dI X.K τ xs))(hx:∀i (h:i<xs.length),xs[i]=.tup [g i,g' i])(h0:M 0 τ)
   (hb:∀i,i<xs.length->∀τ',M i τ'->PSs X body (dS X.K ((τ'.set j (.d (g i))).set l (.d (g' i))) { N with nx:=M (i+1),ct:=M (i+1),bk:=λ_=>False }))
   (hr:∀τ',M xs.length τ'->PSs X rest (dS X.K τ' N)) (hs:∀x,foldedSetIterable it X.env x=pure x:=by intro _; rfl) (hi':X.N[j]?=some n:=by rfl) (hj':X.N[l]?=some m:=by rfl) (hl:Loc X.env.scope n:=by first | exact .inl rfl | exact .inr rfl) (hl':Loc X.env.scope m:=by first | exact .inl rfl | exact .inr rfl)
   (hf:X.fn n=true\/X.env.scope.names.lookup n=some .local:=by first | exact .inl rfl | exact .inr rfl | assumption) (hf':X.fn m=true\/X.env.scope.names.lookup m=some .local:=by first | exact .inl rfl | exact .inr rfl | assumption):PSs X (.For (.Tuple [.Name n p,.Name m p2] md pt) it body [] pos::rest) (dS X.K τ N):=
 bB (M:=M xs.length) (xo (M:=M) (T:=λi τ'=>(τ'.set j (.d (g i))).set l (.d (g' i))) B hi h0 (λi h τ' m=>by rw[hx i h]; exact B5 j l B.calm hN hi' hj' hl hl' hf hf')
   (λi h τ' m=>gH (hb i h τ' m) λD σ H ⟨A,H₀,B,S,Me⟩=>⟨A,H₀,B,S,Me.nx,λ_ _ _ _ z=>z.elim,Me.ct,Me.rt,Me.xc⟩) (λ_ m=>m) hs) hr
def eV (i:Nat)(h:i<(i8 0 n).length):(i8 0 n)[i]=.int (i:Nat):=by rw[kW,Int.zero_add]
def GP {bs:List Int}(i:Nat)(h:i<(bs.map D.int).length):(bs.map D.int)[i]=.int (bs.getD i 0):=by
 have:i<bs.length:=by simpa using h
 simp[this]
def CA {bs:List Int}(i:Nat)(h:i<(mF (bs.map D.int)).length):(mF (bs.map D.int))[i]=.tup [.int (i:Nat),.int (bs.getD i 0)]:=by
 have:i<bs.length:=by rw[dN]at h; simpa using h
 rw[oM];simp[this]
end
end Hy
namespace Ev
open PySem PySem.Spec PyProof.Rows L2
def lX {X:Cx}{py spos:Pos}{In:TG->TT->TE->Prop}(hT:PG X (.Name y py) gT)(c:eR X scope N caps)(hi:PI X tg iter wi)
   (hs:∀x,foldedSetIterable iter X.env x=pure x)
   (hin:∀g tt te,In g tt te->∀s H fp,PG .(106) tg g/\PTs .(106) ifs tt/\PE .(106) elt te)
   (hsw:N1 .(122) (some (.Name y py)) spos.line X.env=pure true) :
   PS X (.Assign [.Name y py] .(122) spos) (Dm (fE In caps wi) gT):=by
 intro pins s σ H D I h;rw[exec_Assign_Name_used _ _ _ _ hsw];refine AC (wpAny_standAt (AC ?_));show wpAny _ _ (do let _ <- comprehension .(122) scope X.env _ (newList []) false _ (some (assign (.Name y py) X.env))) _ _ s;refine AC ?_;have hcl:=uh (iQ I c);refine wpAny_comprehension_free (use:=some (assign (.Name y py) X.env)) (Q:=λ_ s'=>wpAny .(100) X.A (pure ()) (λ_ s''=>wpAny .(100) X.A (pure Flow.next) (SP X pins D) X.xe s'') X.xe s') (g:=⟨tg,iter,ifs,0⟩) (gs:=[]) rfl hs hcl c.kind c.loc ?_;show wpAny _ _ (eval iter X.env) _ _ s;refine thn (hi pins s σ H _ I h) λv s1 h1=>thn h1 λitv s2 h2=>?_;obtain⟨kd,it,fp,tn,J,H2,e,I2,hck,T,st2,f2,g,tt,te,hI,q⟩:=h2;have hc:=uU (scope:=scope) (N:=N) (fp:=fp) hck I2;subst e;obtain⟨Z,⟨m0,z0⟩,turn⟩:=q s2.heap.objs.size (I2.hok.fresh .(3));have ho:∀b∈fp,∃o,s2.heap.get? b=some o:=λb hb=>let ⟨o,e,_⟩:=T.obj _ _ st2 b hb; ⟨o,e⟩
 have I4:=qy (scope:=scope) (N:=N) (caps:=caps) I2 f2 ho c;obtain⟨hg,ht,he⟩:=hin g tt te hI s2 H2 fp;refine GM (oF ?_) (by show 0<=sizeLine; decide);have hC:(s2.heap.push { cls:=.type "list",dict:=none,data:=.seq ([]:List Value).toArray }).objs.size=s2.heap.objs.size+1:=JC ..;dsimp only;rw[hC];have kp:∀b o,s2.heap.get? b=some o->(NF ((s2.heap.push { cls:=.type "list",data:=.seq ([]:List Value).toArray }).push { cls:=.type "dict",data:=.dict #[] }) scope.names).get? b=some o:=λb o e=>NX _ _ b o (pq _ (pq _ e));have st4:tn 0 (NF ((s2.heap.push { cls:=.type "list",data:=.seq ([]:List Value).toArray }).push { cls:=.type "dict",data:=.dict #[] }) scope.names):=T.keep _ _ _ st2 λb _ o e=>kp b o e;have stat:∀{H':Hp},(∀b∈fp,H' b=none)->∀b∈fp,nu .(118) [] H' b:=λhn b hb=>⟨hn b hb,(I4.ok.exf b hb).1,I4.ok.exfs b hb,.inl hb,(I4.ok.exf b hb).2,λp hp=>absurd (show p∈([]:List .(104)) from hp) .(4)⟩;have fr4:∀b∈fp,(upd H2 s2.heap.objs.size (.lst [])) b=none:=λb hb=>by obtain⟨o,e⟩:=ho b hb;rw[aF (IL (HY e))]; exact(f2 b hb).1
 have loop:O3 .(100) X.A (.compLoop .(122) 0 (.ref it) .(132) .(118).env)
     (compPost .(100) X.A X.xe (some (assign (.Name y py) X.env)) (λ_ s'=>wpAny .(100) X.A (pure ()) (λ_ s''=>wpAny .(100) X.A (pure Flow.next) (SP X pins D) X.xe s'') X.xe s') .(132) (s2.heap.objs.size+1))
     { s2 with heap:=NF ((s2.heap.push { cls:=.type "list",data:=.seq ([]:List Value).toArray }).push { cls:=.type "dict",data:=.dict #[] }) scope.names }:=by
   refine lr (λn s'=>∃i σ' H',Inv .(118) [] σ' H' s'/\tn i s'.heap/\(∀b∈fp,H' b=none)/\Z i n σ' H') ?_ m0 ⟨0,_,_,I4,st4,fr4,z0⟩;rintro n s3 ⟨i,σ3,H3,I3,st3,fr3,w3⟩;rcases turn i n σ3 H3 w3 with ⟨stop,qn⟩ | ⟨go,step⟩
   . refine thn (T.done .(118) rfl rfl rfl hc i [] s3 σ3 H3 _ I3 (stat fr3) st3 stop) λr s5 ⟨hr,I5⟩=>?_;subst hr;obtain⟨m,hn,_⟩:=id I5.loc;have I6:Inv X pins σ H3 s5:=by have lt:∀b o,s2.heap.get? b=some o->b≠s2.heap.objs.size+1:=λb o e=>IL (KZ (HY e));have u:=I5.base;have u':Un (frs X.stack) fp H2 H3 s2.heap s5.heap:=⟨λb o e n1 n2 n3=>u.keep b o e n1 n2 n3,λb o e n1 n2 n3=>u.slot b o e n1 n2 n3,u.free,λb o e n1=>u.there b o e n1,u.tups,u.frzs,u.tbls⟩;exact I2.Cs (s':=s5) I5.os u' I5.hok I5.bare λb hb=>⟨(f2 b hb).2.2.2.1,(f2 b hb).2.1,(f2 b hb).2.2.2.2.1,(f2 b hb).2.2.2.2.2⟩
     have fC:H3 (s2.heap.objs.size+1)=none:=I5.free;have fk:nu X pins H3 (s2.heap.objs.size+1):=I2.kG .(16) fC;obtain⟨oC,es,ep,hoC,hdC,rC⟩:=id hn;have hpin:=I6.pinned (fp:=[s2.heap.objs.size+1]) (λb hb=>by rw[gV.mp hb]; exact fk) (λb hb=>by rw[gV.mp hb]; exact⟨oC,hoC,λv z=>by rw[hdC]at z; cases z⟩);have hmem:(s2.heap.objs.size+1,oC)∈iT [s2.heap.objs.size+1] s5.heap:=cC (List.mem_singleton_self _) hoC;refine thn (hT _ s5 σ H3 .(132) .(132) _ hpin rfl qn) λ_ s6 ⟨σ6,H6,I7,q7⟩=>?_;obtain⟨p1,p2,p3,p4,p5⟩:=I7.pin _ (x3 _ (x3 _ hmem));refine⟨m,⟨oC,es,ep,p1,hdC,rC⟩,λh' sb=>Fk (Fk ?_)⟩;refine⟨σ6,H6,?_,q7⟩;exact(I7.fy).turned (t':=s6.toks) (it:=s2.heap.objs.size+1) (λb o hb e=>(sb.2 b hb).trans e) p2 p3 fk.2.2.2.1 fk.2.2.2.2.1 fk.2.2.2.2.2
   . refine thn (T.item .(118) rfl rfl rfl hc i [] s3 σ3 H3 _ I3 (stat fr3) st3 go) λr s4 ⟨u,hr,h4⟩=>?_;subst hr;refine thn h4 λ_ s5 ⟨x,H5,I5,r5,y5,st5,fr5⟩=>?_;have I5':=I5.pinned (stat fr5) (T.obj _ _ st5);refine thn (hg _ s5 σ3 H5 x u _ I5' r5 (step x H5 y5)) λ_ s6 ⟨σ6,H6,I6,q6⟩=>?_
     have again:∀{s7:Da} {σ7:L2.St} {H7:Hp} {m':Nat},Inv .(118) ([]++iT fp s5.heap) σ7 H7 s7->m'<n->Z (i+1) m' σ7 H7 ->
         ∃m,m<n/\∃i σ' H',Inv .(118) [] σ' H' s7/\tn i s7.heap/\(∀b∈fp,H' b=none)/\Z i m σ' H':=λ{s7 σ7 H7 m'} I7 hm z7=>by
       refine⟨m',hm,i+1,σ7,H7,I7.fy,T.keep _ _ _ st5 λb hb o e=>(I7.pin (b,o) (x3 _ (x3 _ (cC hb e)))).1,λb hb=>?_,z7⟩;obtain⟨o,e,d⟩:=T.obj _ _ st5 b hb;exact(I7.pin (b,o) (x3 _ (x3 _ (cC hb e)))).2.1
     refine thn (ht _ s6 σ6 H6 _ I6 q6) λok s7 ⟨H7,I7,q7⟩=>?_;cases ok with
     | false=>rw[if_neg .(2)]at q7;obtain⟨m',hm,z7⟩:=q7;exact again I7 hm z7
     | true=>rw[if_pos rfl]at q7;refine thn (he _ s7 σ6 H7 _ I7 q7) λv' s8 ⟨v,H8,I8,r8,vs,m',q8,l8,hm,z8⟩=>?_;refine thn (fK (X:=aU X s2 H2 scope N fp) _ s8 σ6 H8 .(132) [v] .(132) [v'] (λ_ H9=>H9=upd H8 s2.heap.objs.size (.lst (vs++[v]))) I8 rfl (.cons r8 .nil) ⟨_,vs,v,rfl,rfl,q8,l8,rfl⟩) λ_ s9 ⟨_,H9,I9,_,e9⟩=>?_;subst e9;exact again I9 hm z8
 exact codeAny_compStart_list loop (T.self _ 0 _ _ _ st4 loop)
end Ev
namespace Hy
open PySem PySem.Spec PyProof.Rows L2
open Ev (D Den aw aq a5 aR aU gB eR PTs dB fE lX)
noncomputable def slot:List Str->Str->Option Nat
 | [],_=>none
 | y::r,x=>if x=y then some 0 else (slot r x).map (·+1)
theorem slot_get:∀{N:List Str} {x:Str} {i:Nat},slot N x=some i->N[i]?=some x
 | [],_,_,h=>by cases h
 | y::r,x,i,h=>by
   unfold slot at h;split at h
   . cases h; rename_i e; rw[e]; rfl
   . cases e:slot r x with
     | none=>rw[e]at h; cases h
     | some j=>rw[e]at h; cases h; simpa using slot_get e
noncomputable def xK (scope sc:Scope):Scope:={ scope with names:=scope.names.map λ(n,k)=>if (k==.free&&sc.kind==.function&&sc.names.lookup n==some .cell) then (n,.cell) else (n,k) }
noncomputable def bNm (scope:Scope):List Str:=(scope.names.filter λp=>(p.2==.local||p.2==.cell||p.2==.free)&&p.1 != (".0" : Str)).map (·.1)
noncomputable def bCp (No:List Str)(scope:Scope):List (Option Nat):=(bNm scope).map λx=>if (x,JB)∈scope.names then slot No x else none
noncomputable def bOk (sc scope:Scope):Bool:=
 scope.kind==.function&&scope.names.all (λp=>p.2 != .local||scope.names.lookup p.1==some .local)&&scope.names.all (λp=>p.2 != .free||sc.names.lookup p.1==some .cell)
   && scope.names.all (λp=>p.2 != .free||(!decide ((p.1,JQ)∈scope.names)&&!decide ((p.1,NameKind.local)∈scope.names)))&&decide (bNm scope++[("#" : Str)]).Nodup
   && (xK scope sc).names.all (λp=>p.1 != ("#" : Str))
def yq (h:(a&&b)=true):a=true/\b=true:=by rw[IS]at h; exact h
theorem yv :∀{names:List (Str×NA)},names.lookup x=some q->(x,q)∈names
 | (y,k)::r,h=>by
   rw[Jh]at h;split at h
   . rename_i e; cases h; rw[eq_of_beq e]; exact IF ..
   . exact Et _ (yv h)
def hE (h:bOk X.env.scope scope=true):eR X scope (bNm scope++[("#" : Str)]) (bCp X.N scope)/\(bNm scope++[("#" : Str)]).Nodup:=by
 unfold bOk at h;obtain⟨h,h6⟩:=yq h;obtain⟨h,h5⟩:=yq h;obtain⟨h,h4⟩:=yq h;obtain⟨h,h3⟩:=yq h;obtain⟨h1,h2⟩:=yq h;rw[Jx]at h2 h3 h4 h6;refine⟨⟨eq_of_beq h1,λx hx hk=>?_,λx hx hk=>?_,λx hx hm=>?_,λx hx hm=>?_,?_,λj i hj=>?_,?_⟩,of_decide_eq_true h5⟩
 . have:=h2 x hx; rw[hk]at this; simpa using this
 . have:=h3 x hx; rw[hk]at this; show X.env.scope.names.lookup x.1=_; simpa using this
 . have:=h4 _ hx; simp[hm]at this
 . have:=h4 _ hx; simp[hm]at this
 . unfold bCp; rw[rp,bp]; rfl
 . unfold bCp at hj;rw[Iy]at hj;cases e:(bNm scope)[j]? with
   | none=>rw[e]at hj; cases hj
   | some x=>
     rw[e]at hj;simp only[JK,La]at hj;split at hj
     . exact⟨x,by rw[HX (tf.mp e).1]; exact e,slot_get hj,by assumption⟩
     . cases hj
 . refine⟨("#" : Str),?_,λhv=>?_⟩
   . unfold bCp; rw[bp,IW .(3),Lr]; rfl
   . have key:∀q,(xK scope X.env.scope).names.lookup ("#" : Str)≠some q:=λq hq=>by have:=h6 _ (yv hq);simp at this
     rcases hv with hv | hv | hv <;> exact key _ hv
noncomputable abbrev cpX (X:Cx)(s:Da)(H:Hp)(scope:Scope)(fp:List Addr):Cx:=aU X s H scope (bNm scope++[("#" : Str)]) fp
def Bk.comp (B:Bk X k)(s:Da)(H:Hp)(scope:Scope)(fp:List Addr):Bk .(105) k:=⟨B.room,B.calm,B.blt,Mr⟩
noncomputable def bP (τ:List Sl)(caps:List (Option Nat)):List Sl:=caps.map λo=>match o with
 | some i=>match τ[i]? with
   | some (.d x)=>.d x
   | _=>.un
 | none=>.un
def oK :PTs X [] λ_ H Q=>Q true H:=λpins s σ H Q I q=>by show wpAny _ _ (pure true) _ _ _;exact Fk ⟨H,I,q⟩
section
variable {X:Cx}{C:Bool}{τ:List Sl}{x y z:D}{b e tg it elt:Expr}{ifs:List Expr}{pos p q:Pos}{k:Nat}{xs:List D}{scope:Scope}
structure Cmp (X:Cx)(elt tg it:Expr)(ifs:List Expr)(scope:Scope)(τ:List Sl)(ys:List D):Prop where
 ex:∃(In:TG->TT->TE->Prop) (caps:List (Option Nat)) (N:List Str) (wi:TI),eR X scope N caps/\PI X tg it wi/\(∀g tt te,In g tt te->∀s H fp,PG .(106) tg g/\PTs .(106) ifs tt/\PE .(106) elt te) /\
   ∀C σ H Q,dE X.K C τ (.o ys) σ H Q->fE In caps wi σ H Q
 hs:∀x,foldedSetIterable it X.env x=pure x
def dD (h:Cmp X elt tg it ifs scope τ ys):PE X .(135) (dE X.K C τ (.o ys)):=by obtain⟨In,caps,N,wi,h1,h2,h3,h4⟩:=h.ex;exact peW (dB h1 h2 h.hs h3) (h4 C)
def pe (i:Nat){n:Str}{p spos:Pos}{rest:List Stmt}{N:Po}{ys:List D}{s:Sl}(hN:X.N.Nodup)(h:Cmp X elt tg it ifs scope τ ys)(hz:s=.o ys\/s=.d (.lst ys))(hr:PSs X rest (dS X.K (τ.set i s) N))(hi:X.N[i]?=some n:=by rfl)(hx:Loc X.env.scope n:=by first | exact .inl rfl | exact .inr rfl)
   (hsw:N1 .(135) (some .(108)) spos.line X.env=pure true:=by rfl) (hf:X.fn n=true\/X.env.scope.names.lookup n=some .local:=by first | exact .inl rfl | exact .inr rfl | assumption) :
   PSs X (.Assign [.Name n p] .(135) spos::rest) .(114):=by
 obtain⟨In,caps,N',wi,h1,h2,h3,h4⟩:=h.ex
 have h5:∀σ H Q,dE X.K true τ s σ H Q->fE In caps wi σ H Q:=by
   rcases hz with rfl | rfl
   . exact h4 true
   . intro σ H Q q;obtain⟨A,H₀,B,S,k⟩:=dj q;refine h4 true σ H Q ⟨A,H₀,B,S,λv H' bs e hf q=>?_⟩;obtain⟨u,e1,d⟩:=q.den (G':=Hy.hd H' (vw true A B)) (aD .(102) λ_ z=>.inl z) (λb hb o ho=>ar.mpr ⟨λz=>(by obtain⟨_,q⟩:=S.vd (C:=true) b z; rw[(hf b hb).1]at q; cases q),ho⟩) rfl;cases e1;exact k v H' e d
 exact bB (M:=(·=τ.set i s)) (psW (lX (eF (i:=i) hN hi hx hf) h1 h2 h.hs h3 hsw) λD σ H ⟨A,H₀,B,S,Me⟩=>h5 _ _ _ ⟨A,H₀,B,S,λv H' bs e hf h=>Me.nx _ _ _ _ rfl (S.set e hf h)⟩) λ_ e=>e▸hr
def uf {T:Nat->List Sl}{t:Nat->Bool}{f:Nat->D}(hc:bOk X.env.scope scope=true)(hi:PI X tg it (dI X.K τ xs))(hT:∀i,(T i).length=.(101).length/\∀(l:Nat) (x:D),.(101)[l]?=some (.d x)->(T i)[l]?=some (.d x))
   (hg:∀i (h:i<xs.length) s H fp,PG .(105) tg (dG X.K .(101) xs[i] (T i)))
   (ht:∀i,i<xs.length->∀s H fp,PTs .(105) ifs (dT X.K (T i) (t i)))
   (he:∀i,i<xs.length->t i=true->∀s H fp,PE .(105) elt (dE X.K true (T i) (.d (f i)))) (hl:xs.length<1000000) (hs:∀x,foldedSetIterable it X.env x=pure x:=by intro _; rfl) :
   Cmp X elt tg it ifs scope τ (((ox xs.length).filter t).map f):=by
 obtain⟨cap,_⟩:=hE hc;generalize hτ:bP τ (bCp X.N scope)++[Sl.un]=τb at *
 refine⟨⟨λg tt te=>g=(λv σ H Q=>∃(i:Nat) (h:i<xs.length),dG X.K τb xs[i] (T i) v σ H Q)/\tt=(λσ H Q=>∃i,i<xs.length/\dT X.K (T i) (t i) σ H Q)/\te=(λσ H Q=>∃i,i<xs.length/\t i=true/\dE X.K true (T i) (.d (f i)) σ H Q),_,_,_,cap,hi,?_,?_⟩,hs⟩
 . rintro g tt te ⟨rfl,rfl,rfl⟩ s H fp;exact⟨λpins s' σ H' v u Q I r ⟨i,h,q⟩=>hg i h s H fp pins s' σ H' v u Q I r q,λpins s' σ H' Q I ⟨i,h,q⟩=>ht i h s H fp pins s' σ H' Q I q,λpins s' σ H' Q I ⟨i,h,h',q⟩=>he i h h' s H fp pins s' σ H' Q I q⟩
 rintro C σ H Q ⟨A,H₀,B,S,kk⟩;refine⟨A,H₀,B,S,λJ H1 e1 yl=>⟨_,_,_,⟨rfl,rfl,rfl⟩,λD hD=>?_⟩⟩;have S1:=S.mono e1;have nD:¬own A B D:=λz=>by obtain⟨o,q⟩:=S1.dm D z; rw[hD]at q; cases q
 have noN:∀(l:Nat) (t:Nd),τb[l]?=some (.n t)->0≠0:=λl t h=>by
   exfalso;rw[<- hτ]at h;have:=Jp h;rcases vp.mp this with z | z
   . unfold bP at z;obtain⟨o,_,ho⟩:=HV.mp z;split at ho
     . split at ho <;> cases ho
     . cases ho
   . cases gV.mp z
 have slots:∀{σ':L2.St} {H':Hp},ao H1 H'->(∃o,H' D=some o)->σ'.length=τb.length->(∀(l:Nat) (s:Sl),τb[l]?=some s->cI X.K (hd H' λb=>own A B b\/b=D) H' (σ'[l]?).join [] s)->Sta X.K (λb=>own A B b\/b=D) H' τb (λ_=>[]) σ' H':=λ{σ' H'} e1 e2 e3 e4=>⟨ao.refl _,e3,λl s h=>(e4 l s h).mono (aD .(102) λ_ z=>z.elim id λ⟨_,z⟩=>.(146)) .(102),λ_ _ z=>.(146),λ_ _ _ z=>.(146),λb z=>z.elim (λz=>let ⟨o,q⟩:=S1.dm b z; ⟨o,e1 _ _ q⟩) λz=>z▸e2,λ_ _ z=>.(146)⟩
 refine⟨λi m σ' H'=>m=xs.length-i/\i<=xs.length/\ao H1 H'/\(∃vs,H' D=some (.lst vs)/\vs.length<=i/\aw X.K (hd H' λb=>own A B b\/b=D) vs (((ox i).filter t).map f)) /\
   σ'.length=τb.length/\∀(l:Nat) (s:Sl),τb[l]?=some s->cI X.K (hd H' λb=>own A B b\/b=D) H' (σ'[l]?).join [] s,⟨xs.length,rfl,Im _,aq hD _,⟨[],aN,IE _,.nil⟩,?_,λl s h=>?_⟩,?_⟩
 . rw[<- hτ]; unfold gB bP; rw[rp,rp,bp,bp]; rfl
 . have hv:ao .(138) (hd (upd H1 D (.lst [])) λb=>own A B b\/b=D):=λb o z=>by
     obtain⟨z1,z2⟩:=ar.mp z;have z2:=e1 _ _ z2;have ne:b≠D:=λz=>by rw[z,hD]at z2; cases z2
     exact ar.mpr ⟨λy=>y.elim z1 ne,by rw[aF ne]; exact z2⟩
   cases s with
   | un=>rfl
   | d x=>
     rw[<- hτ]at h
     have hlt:l<(bCp X.N scope).length:=by
       rcases JN l (bCp X.N scope).length with h' | h'
       . exact h'
       . exfalso;rw[IW (by unfold bP; rw[bp]; exact h')]at h;cases e:l-(bP τ (bCp X.N scope)).length with
         | zero=>rw[e]at h; cases h
         | succ n=>rw[e]at h; cases h
     rw[HX (by unfold bP; rw[bp]; exact hlt)]at h;rw[HX (by unfold gB; rw[bp]; exact hlt)];unfold bP at h;unfold gB;rw[Iy]at h ⊢;cases e:(bCp X.N scope)[l]? with
     | none=>rw[e]at h; cases h
     | some o=>
       rw[e]at h;cases o with
       | none=>cases h
       | some i=>
         simp only[JK,La]at h;split at h
         . rename_i x' hx';cases h;obtain⟨_,u,eu,d⟩:=S.sl i _ hx';exact⟨rfl,u,by simpa using eu,d.mono hv⟩
         . cases h
   | o xs'=>
     exfalso;rw[<- hτ]at h;have:=Jp h;rcases vp.mp this with z | z
     . unfold bP at z;obtain⟨o,_,ho⟩:=HV.mp z;split at ho
       . split at ho <;> cases ho
       . cases ho
     . cases gV.mp z
   | n t'=>
     exfalso;rw[<- hτ]at h;have:=Jp h;rcases vp.mp this with z | z
     . unfold bP at z;obtain⟨o,_,ho⟩:=HV.mp z;split at ho
       . split at ho <;> cases ho
       . cases ho
     . cases gV.mp z
   | x E'=>
     exfalso;rw[<- hτ]at h;have:=Jp h;rcases vp.mp this with z | z
     . unfold bP at z;obtain⟨o,_,ho⟩:=HV.mp z;split at ho
       . split at ho <;> cases ho
       . cases ho
     . cases gV.mp z
 rintro i m σ' H' ⟨rfl,hi,e2,⟨vs,hv1,hv2,hv3⟩,hlen,hsl⟩;obtain⟨y1,y2⟩:=yl H' (aT.trans e2);by_cases hlt:i<xs.length
 . obtain⟨g,y⟩:=y2 i hlt;refine .inr ⟨g,λx H2 hy=>?_⟩;obtain⟨e3,dx⟩:=y x H2 hy;have S2:Sta X.K (λb=>own A B b\/b=D) H' τb (λ_=>[]) σ' H':=slots e2 ⟨_,hv1⟩ hlen hsl;have o0:∀b,own (λb=>own A B b\/b=D) (λ_=>([]:List Addr)) b->own A B b\/b=D:=λb z=>z.elim id λ⟨_,z⟩=>.(146)
   have dx':=dx _ S2.dm (λb o z=>by
     obtain⟨z1,z2⟩:=ar.mp z;exact ar.mpr ⟨λy=>(o0 b y).elim z1 λy=>(by rw[y,hD]at z2; cases z2),e2 _ _ z2⟩)
   refine⟨i,hlt,_,_,_,S2.mono e3,dx',λσ2 B2 S3=>?_⟩;have hB2:∀j b,b∈B2 j->b≠D:=λj b hb z=>by have:=S3.fr j b hb;rw[z,hv1]at this;cases this
   have back:∀{H5:Hp},ao H2 H5->σ2.length=τb.length/\∀(l:Nat) (s:Sl),τb[l]?=some s->cI X.K (hd H5 λb=>own A B b\/b=D) H5 (σ2[l]?).join [] s:=λ{H5} e5=>by
     refine⟨S3.len.trans (hT i).1,λl s h=>?_⟩;cases s with
     | un=>rfl
     | d x=>obtain⟨_,u,eu,d⟩:=S3.sl l _ ((hT i).2 l x h);exact⟨rfl,u,eu,d.mono (aD e5 λ_ z=>.inl z)⟩
     | o xs'=>exact absurd (hsl l _ h) (λ⟨_,_,z,_⟩=>.(146))
     | n t'=>exact absurd rfl (noN l t' h)
     | x E'=>exact absurd (hsl l _ h) (λ⟨_,_,z,_⟩=>.(146))
   refine⟨i,hlt,_,_,_,S3,λH4 e4=>?_⟩;cases ht:t i with
   | false=>rw[if_neg Ij];obtain⟨b1,b2⟩:=back e4;refine⟨xs.length-(i+1),by omega,rfl,hlt,e2.trans (e3.trans e4),⟨vs,e4 _ _ (e3 _ _ hv1),by omega,?_⟩,b1,b2⟩;rw[Jt,JD,Ia,K4,ht];simpa using hv3.mono (aD (e3.trans e4) λ_ z=>z)
   | true=>
     rw[if_pos rfl];refine⟨i,hlt,ht,aV (S3.mono e4) λv H5 e5 d5=>?_⟩;have e6:=e3.trans (e4.trans e5);have hv5:=e6 _ _ hv1;refine⟨vs,xs.length-(i+1),hv5,JA (IB hv2 (JA hlt hl)) .(2),by omega,rfl,hlt,?_,?_⟩
     . intro b o z;have ne:b≠D:=λy=>by rw[y,hD]at z; cases z
       rw[aF ne];exact e6 _ _ (e2 _ _ z)
     have sm:ao (hd H5 λb=>own A B b\/b=D) (hd (upd H5 D (.lst (vs++[v]))) λb=>own A B b\/b=D):=λb o z=>by obtain⟨z1,z2⟩:=ar.mp z;exact ar.mpr ⟨z1,by rw[aF λy=>z1 (.inr y)]; exact z2⟩
     obtain⟨b1,b2⟩:=back (e4.trans e5);refine⟨⟨vs++[v],aN,by rw[rp]; exact MQ hv2,?_⟩,b1,λl s h=>?_⟩
     . rw[Jt,JD,Ia,K4,ht,if_pos rfl];refine aw.append (hv3.mono ((aD e6 λ_ z=>z).trans sm)) (.cons (d5.mono ((aD .(102) λ_ z=>.inl z).trans sm)) .nil)
     . cases s with
       | un=>rfl
       | d x=>obtain⟨z1,u,eu,d⟩:=b2 l _ h; exact⟨z1,u,eu,d.mono sm⟩
       | o xs'=>exact absurd (hsl l _ h) (λ⟨_,_,z,_⟩=>.(146))
       | n t'=>exact absurd rfl (noN l t' h)
       | x E'=>exact absurd (hsl l _ h) (λ⟨_,_,z,_⟩=>.(146))
 . have e:i=xs.length:=by omega
   subst e;refine .inl ⟨y1 _ .(3),kk _ _ [D] (e1.trans e2) (λb hb=>?_) ⟨D,vs,rfl,rfl,hv1,hv3.mono (aD .(102) λb z=>z.elim (λz=>.inl (iZ z)) λz=>.inr (gV.mp z))⟩⟩;obtain rfl:=gV.mp hb;exact⟨e1.free hD,_,hv1⟩
def cmp (j:Nat){n:Str}{g f:Nat->D}(B:Bk X k)(hi:PI X .(108) it (dI X.K τ xs))(hx:∀i (h:i<xs.length),xs[i]=g i)(hl:xs.length<1000000)
   (he:∀i,i<xs.length->∀s H fp,PE .(105) elt (dE X.K true (.(101).set j (.d (g i))) (.d (f i))))
   (hc:bOk X.env.scope scope=true:=by kernel_rfl) (hu:.(101)[j]?=some .un:=by rfl) (hN:(bNm scope++[("#" : Str)])[j]?=some n:=by rfl) (hv:∀s H fp,Loc .(105).env.scope n:=by intro _ _ _; first | exact .inl rfl | exact .inr rfl)
   (hf:∀s H fp,.(105).fn n=true\/.(105).env.scope.names.lookup n=some .local:=by intro _ _ _; first | exact .inr rfl | exact .inl rfl) (hs:∀x,foldedSetIterable it X.env x=pure x:=by intro _; rfl) :
   Cmp X elt .(108) it [] scope τ ((ox xs.length).map f):=by
 have h:=uf (T:=λi=>.(101).set j (.d (g i))) (t:=λ_=>true) (f:=f) (elt:=elt) (ifs:=[]) hc hi (λi=>⟨Iz,λl x h=>?_⟩) (λi h s H fp=>?_) (λi h s H fp=>?_) (λi h _ s H fp=>he i h s H fp) hl hs
 . rwa [List.filter_eq_self.mpr λ_ _=>rfl]at h
 . rw[Ik (λz=>by rw[<- z,hu]at h; cases h)];exact h
 . rw[hx i h];exact Bi j (hE hc).2 hN (hv s H fp) (hf s H fp)
 . exact λpins s' σ H' Q I ⟨A,H₀,B,S,q⟩=>oK pins s' σ H' Q I (q H' .(102))
end
section
variable {P:FB}{w:World}{K:fw}{mg:Str->Option Value}{base:Heap}
noncomputable def CM (N:List Str)(ds:List D):List Sl:=ds.map .d++Ii (N.length-ds.length) .un
noncomputable abbrev Xc (P:FB)(w:World)(K:fw)(mg:Str->Option Value)(base:Heap)(N:List Str)(qual:Str)(st:Stmt)(f:Addr)(cdv:Value)(A:GT)(outer:List Env)(s:Da)(H:Hp)(E:XK):Cx:=(tT CX0 P w K mg base N qual (av st) f cdv A outer s H E).nox
def fnD {st:Stmt}{fd:Gc}{N ps:List Str}{Φ:List D->Sl->Prop}(F:Fun K x qual st f fd)(S:aJ N ps (av st))(hb:.(92))(len:∀ds r,Φ ds r->ds.length=ps.length)
   (body:∀ds r,Φ ds r->∀cdv A outer s H E,Bk (Xc P w K mg base N qual st f cdv A outer s H E) k->PSs (Xc P w K mg base N qual st f cdv A outer s H E) (cZ st) (dS K (CM N ds) { nx:=λ_=>r=.d .non,rt:=λr'=>r'=r })) :
   .(91) ps (spD K Φ):=by
 refine F.ok S (λvs H Q E ⟨A,ds,r,_,d,h,_⟩=>d.length.trans (len ds r h)) λcdv A outer s H vs Q E hr ⟨A',ds,r,ha,d,h,q⟩=>⟨_,body ds r h cdv A outer s H E ⟨hr,rfl,hb,Mr⟩,A',H,λ_=>[],⟨ao.refl _,?_,λi s hi=>?_,λ_ _ z=>.(146),λ_ _ _ z=>.(146),ha,λ_ _ z=>.(146)⟩,λτ B σ H' h S=>?_,λ_ _ _ _ h=>h.elim,λ_ _ _ _ h=>h.elim,λv H' bs s h e hf z=>?_,λ_ _=>trivial⟩
 . unfold L2.start CM;simp[d.length]
 . have hl:=d.length;unfold CM at hi;unfold L2.start;by_cases hlt:i<ds.length
   . rw[HX (by simpa using hlt),Iy,ph hlt]at hi;cases hi;obtain⟨v,e,dv⟩:=d.get (ph hlt);refine⟨rfl,v,?_,dv.mono (aD .(102) λ_ z=>z.elim id λ⟨_,z⟩=>.(146))⟩;rw[HX (by simpa[hl]using hlt),Iy,e];rfl
   . rw[IW (by simpa using hlt),LJ]at hi;split at hi
     . cases hi; rfl
     . cases hi
 . obtain rfl:=(h:r=_);exact q .non H' [] S.same fu (jw .non)
 . obtain rfl:=(h:s=r);exact q v H' bs e hf z
def BI (hΦ:∀ns:List Int,ns.length<=63->Φ [.lst (ns.map .int)] (.d (.bl true)))(H:Hp)(a:Addr)(ns:List Int)(hl:ns.length<=63)(hS:SqL K H a (ns.map V.int)):spD K Φ [.ref a] H (λv _=>v=.bl true) λ_ _ _=>False:=by
 have hh:hd H (λ_=>False)=H:=by funext b; unfold hd; rw[if_neg id]
 refine⟨λ_=>False,_,_,λ_ z=>z.elim,.cons (.lst (vs:=ns.map V.int) (by rw[hh]; exact hS) ?_) .nil,hΦ ns hl,λv H' bs _ _ h=>?_⟩
 . clear hl hS;induction ns with
   | nil=>exact .nil
   | cons n ns ih=>exact .cons .int ih
 . obtain⟨_,u,e,d⟩:=h;cases e;cases d;rfl
end
end Hy
namespace K33
open PySem PySem.Spec PyProof.Rows L2 Hy
noncomputable def top (i:Nat):Stmt:=PySem.Challenge.pw_signsmooth_k33_rows_that_hang.main.body.getD i (.Pass ⟨0,0,0,0⟩)
def js:aJ ["_law_cell_here","_law_bases","_law_row","_law_base","_law_k","_law_mixed"] ["_law_cell_here","_law_bases"] (av (top 44)):=.(1)
def jr:aJ ["_law_one","_law_other","_law_rest"] ["_law_one","_law_other"] (av (top 45)):=.(1)
def nF:aJ ["_law_top","_law_bottom","_law_common"] ["_law_top","_law_bottom"] (av (top 46)):=.(1)
def qA:aJ ["_law_many","_law_number_here","_law_k"] ["_law_many"] (av (top 42)):=.(1)
def ki:aJ ["_law_part","_law_figures","_law_ten_here"] ["_law_part","_law_figures"] (av (top 51)):=.(1)
def kx:aJ ["_law_cell_here","_law_tracks","_law_rows_here","_law_columns","_law_many","_law_figures","_law_parts","_law_steps","_law_k","_law_word","_law_at"] ["_law_cell_here","_law_tracks","_law_rows_here","_law_columns","_law_many","_law_figures"] (av (top 52)):=.(1)
def wR:aJ ["_law_one","_law_other"] ["_law_one","_law_other"] (av (top 53)):=.(1)
def je:aJ ["_law_rows_here","_law_cell_here","_law_parts","_law_made_here","_law_k","_law_row","_law_noughts"] ["_law_rows_here","_law_cell_here"] (av (top 60)):=.(1)
def kC:aJ ["_law_rows_here"] ["_law_rows_here"] (av (top 61)):=.(1)
def kj:aJ ["_law_rows_here","_law_wide","_law_made_here","_law_i","_law_lines","_law_longer","_law_mask","_law_behind_it","_law_j","_law_key","_law_part"] ["_law_rows_here"] (av (top 50)):=.(1)
def oo:aJ ["_law_table","_law_rows_here","_law_all_bottoms","_law_row","_law_factor","_law_number_here"] ["_law_table"] (av (top 49)):=.(1)
def fA:aJ ["_law_table","_law_made_here","_law_some","_law_lines","_law_mask","_law_columns"] ["_law_table"] (av (top 56)):=.(1)
def jS:aJ ["thing"] ["thing"] (av (top 17)):=.(1)
def rm:aJ ["thing"] ["thing"] (av (top 7)):=.(1)
def eA:aJ ["one","other","greater","lesser","rest"] ["one","other"] (av (top 9)):=.(1)
def k9:aJ ["thing"] ["thing"] (av (top 8)):=.(1)
def wa:aJ ["thing"] ["thing"] (av (top 18)):=.(1)
def rB:aJ ["thing"] ["thing"] (av (top 19)):=.(1)
def mW:aJ ["thing"] ["thing"] (av (top 20)):=.(1)
def iA:aJ ["many","size","found","turn","longer","choice","least"] ["many","size"] (av (top 21)):=.(1)
def eW:aJ ["known","row","columns","total","k","part"] ["known","row","columns"] (av (top 31)):=.(1)
def gu:aJ ["known","row","column_choices","found","columns"] ["known","row","column_choices"] (av (top 30)):=.(1)
def dn:aJ ["rows","found","known","size","fresh","column_choices","some","columns"] ["rows"] (av (top 29)):=.(1)
def pD:aJ ["row","scale"] ["row","scale"] (av (top 26)):=.(1)
def mY:aJ ["table","scales"] ["table","scales"] (av (top 27)):=.(1)
def kB:aJ ["row","scale","number"] ["row"] (av (top 25)):=.(1)
def gO:aJ ["table","bound","found","choices"] ["table","bound"] (av (top 28)):=.(1)
def o9:aJ ["table","j"] ["table","j"] (av (top 23)):=.(1)
def ni:aJ ["table"] ["table"] (av (top 22)):=.(1)
def ky:aJ ["grid","i"] ["grid","i"] (av (top 39)):=.(1)
def iB:aJ ["one","other","first","second"] ["one","other"] (av (top 13)):=.(1)
def dY:aJ ["top","bottom","divisor"] ["top","bottom"] (av (top 10)):=.(1)
def mq:aJ ["one","other"] ["one","other"] (av (top 14)):=.(1)
def nW:aJ ["one","other","shared","top","divisor"] ["one","other"] (av (top 11)):=.(1)
def tm:aJ ["one","other"] ["one","other"] (av (top 12)):=.(1)
def ku:aJ ["grid","i","k","weight"] ["grid","i","k"] (av (top 40)):=.(1)
def gr:aJ ["grid","k","steps","i"] ["grid","k"] (av (top 38)):=.(1)
def lS:aJ ["step"] ["step"] (av (top 33)):=.(1)
def ko:aJ ["table","grid","many","ahead","behind","k","corners"] ["table"] (av (top 37)):=.(1)
def lU:aJ ["table","size","wide"] ["table","size"] (av (top 36)):=.(1)
def gN:aJ ["table","below","size"] ["table"] (av (top 35)):=.(1)
def tV:aJ ["_law_one","_law_other"] ["_law_one","_law_other"] (av (top 54)):=.(1)
def dX:aJ ["_law_ladder_here","_law_tracks","_law_rows_here","_law_columns","_law_steps","_law_lines","_law_word","_law_k","_law_weight_here"] ["_law_ladder_here"] (av (top 55)):=.(1)
def km:aJ ["_law_kind","_law_part","_law_top"] ["_law_kind","_law_part"] (av (top 47)):=.(1)
def ou:aJ ["_law_table","_law_cell_here","_law_parts","_law_made_here","_law_i","_law_j","_law_other","_law_row"] ["_law_table","_law_cell_here"] (av (top 59)):=.(1)
def xh:aJ ["_law_script","_law_k"] ["_law_script","_law_k"] (av (top 43)):=.(1)
def tK:aJ ["_law_thing"] ["_law_thing"] (av (top 48)):=.(1)
def ju:aJ ["_law_step","_law_tracks","_law_weight_here"] ["_law_step","_law_tracks"] (av (top 57)):=.(1)
def mw:aJ ["_law_found","_law_table","_law_steps"] ["_law_found","_law_table"] (av (top 58)):=.(1)
def xS:aJ ["_law_script","_law_k","_law_cell_here","_law_parts","_law_tracks","_law_ladder_here","_law_table","_law_due","_law_found"] ["_law_script"] (av (top 62)):=.(1)
end K33
namespace L2
open PySem PySem.Spec PyProof.Rows
section
variable {κ:Type}[DecidableEq κ]
noncomputable def gf (kvs:List (κ×V))(k:κ):Option V:=(kvs.find? λkv=>decide (kv.1=k)).map (·.2)
noncomputable def putK (kvs:List (κ×V))(k:κ)(v:V):List (κ×V):=if (kvs.any λkv=>decide (kv.1=k))=true then kvs.map (λkv=>if kv.1=k then (kv.1,v) else kv) else kvs++[(k,v)]
def b8 {p:κ×V}(e:p.1=k):gf (p::r) k=some p.2:=by simp[gf,JU,e]
def b7 {p:κ×V}(e:¬p.1=k):gf (p::r) k=gf r k:=by simp[gf,JU,e]
theorem ly (k:κ):∀kvs:List (κ×V),(kvs.any λkv=>decide (kv.1=k))=(gf kvs k).isSome
 | []=>rfl
 | p::r=>by
   rw[Np];by_cases e:p.1=k
   . simp only[b8 e,decide_eq_true e,Bool.true_or,Option.isSome_some]
   . rw[b7 e,decide_eq_false e,Bool.false_or]; exact ly k r
theorem rZ (k j:κ)(y:V):∀kvs:List (κ×V),gf (kvs.map λkv=>if kv.1=k then (kv.1,y) else kv) j=(gf kvs j).map λx=>if j=k then y else x
 | []=>rfl
 | p::r=>by
   have ih:=rZ k j y r;rw[IJ];by_cases h:p.1=k
   . rw[if_pos h];by_cases e:p.1=j
     . rw[b8 (p:=(p.1,y)) e,b8 e,JK,if_pos (e.symm.trans h)]
     . rw[b7 (p:=(p.1,y)) e,b7 e,ih]
   . rw[if_neg h];by_cases e:p.1=j
     . rw[b8 (p:=p) e,b8 e,JK,if_neg (λz=>h (e.trans z))]
     . rw[b7 (p:=p) e,b7 e,ih]
theorem nP (k j:κ)(y:V):∀kvs:List (κ×V),gf kvs k=none->gf (kvs++[(k,y)]) j=if j=k then some y else gf kvs j
 | [],_=>by
   by_cases e:k=j
   . rw[if_pos e.symm]; exact b8 (p:=(k,y)) e
   . rw[if_neg (λz=>e z.symm)]; exact b7 (p:=(k,y)) e
 | p::r,hn=>by
   rw[Jn];have hk:¬p.1=k:=λz=>by rw[b8 z]at hn; cases hn
   rw[b7 hk]at hn;have ih:=nP k j y r hn;by_cases e:p.1=j
   . rw[b8 e,b8 e,if_neg (λz=>hk (e.trans z))]
   . rw[b7 e,b7 e,ih]
def yI (kvs:List (κ×V))(k j:κ)(y:V):gf (putK kvs k y) j=if j=k then some y else gf kvs j:=by
 unfold putK;by_cases a:(kvs.any λkv=>decide (kv.1=k))=true
 . rw[if_pos a,rZ];rw[ly]at a;by_cases e:j=k
   . obtain⟨x,hx⟩:=Lq.mp a;rw[if_pos e,e,hx,JK,if_pos rfl]
   . rw[if_neg e];cases gf kvs j with
     | none=>rfl
     | some x=>rw[JK,if_neg e]
 . rw[if_neg a];refine nP k j y kvs ?_;rw[ly]at a;cases q:gf kvs k with
   | none=>rfl
   | some x=>rw[q]at a; exact(a rfl).elim
def kq (kvs:List (κ×V))(k:κ)(v:V):(putK kvs k v).length<=kvs.length+1:=by
 unfold putK;split
 . rw[bp]; omega
 . rw[rp,Ja,L4]; omega
def qE.getD (r:qE o u)(rd:RelV d d'):RelV (o.getD d) (u.getD d'):=by
 cases o with
 | none=>cases u with
   | none=>exact rd
   | some _=>exact(show False from r).elim
 | some _=>cases u with
   | none=>exact(show False from r).elim
   | some _=>exact r
def KV.val (r:KV kvs vs)(k:κ):qE (gf kvs k) (valueAt vs k):=by
 unfold KV at r;induction r with
 | nil=>exact J6
 | @cons p q ps qs h t ih=>
   obtain⟨h1,h2⟩:=h;by_cases e:p.1=k
   . have e':q.1=k:=h1.symm.trans e;have b:valueAt (q::qs) k=some q.2:=by simp[valueAt,JU,e']
     rw[b8 e,b]; exact h2
   . have e':¬q.1=k:=λz=>e (h1.trans z);have b:valueAt (q::qs) k=valueAt qs k:=by simp[valueAt,JU,e']
     rw[b7 e,b]; exact ih
def KV.any (r:KV kvs vs)(k:κ):(kvs.any λkv=>decide (kv.1=k))=vs.any λkv=>decide (kv.1=k):=by
 unfold KV at r;induction r with
 | nil=>rfl
 | cons h t ih=>rw[Np,Np,ih,h.1]
def KV.Ht (r:KV kvs vs)(k:κ)(ry:RelV y u):
   KV (kvs.map λkv=>if kv.1=k then (kv.1,y) else kv) (vs.map λkv=>if kv.1=k then (kv.1,u) else kv):=by
 unfold KV at r ⊢;induction r with
 | nil=>exact .nil
 | @cons p q ps qs h t ih=>
   rw[IJ,IJ];refine .cons ?_ ih;obtain⟨h1,h2⟩:=h;by_cases e:p.1=k
   . rw[if_pos e,if_pos (h1.symm.trans e)]; exact⟨h1,ry⟩
   . rw[if_neg e,if_neg (λz=>e (h1.trans z))]; exact⟨h1,h2⟩
def KV.put (r:KV kvs vs)(k:κ)(ry:RelV y u):KV (putK kvs k y) (stored vs k u):=by
 unfold putK stored;rw[r.any k];by_cases e:(vs.any λkv=>decide (kv.1=k))=true
 . rw[if_pos e,if_pos e]; exact r.Ht k ry
 . rw[if_neg e,if_neg e]; exact Paired.snoc r ⟨rfl,ry⟩
def KV.keys {kvs:List (κ×V)}{vs:List (κ×Value)}(r:KV kvs vs):kvs.map (·.1)=vs.map (·.1):=by
 unfold KV at r;induction r with
 | nil=>rfl
 | cons h t ih=>rw[IJ,IJ,ih,h.1]
def KV.length {kvs:List (κ×V)}{vs:List (κ×Value)}(r:KV kvs vs):kvs.length=vs.length:=Paired.length r
end
def vY (r:RelV (kV k) u):(b5 P w).is k u=true:=by
 cases k with
 | inl i=>obtain⟨t,e⟩:=(show ∃t,u=Nu i t from r); subst e; exact rg P w i t
 | inr x=>obtain⟨t,e⟩:=(show ∃t,u=Nt x t from r); subst e; exact rh P w x t
section
variable {P:FB}{w:World}{H:Hp}{h:Heap}{a:Addr}
def Fo (ok:HOk P w H h)(e:Rd H a u):bL P w H h a u:=e.ok ok
def qV (ok:HOk P w H h)(e:Rd H a (.dK kvs)):kvs.length<=sizeLine/\(a==N9)=false/\∃vs,KV kvs vs/\h.DictOf (b5 P w) a vs:=show bL P w H h a (.dK kvs) from Fo ok e
def vo (ok:HOk P w H h)(e:H a=some (.dK kvs)):kvs.length<=sizeLine/\(a==N9)=false/\∃vs,KV kvs vs/\h.DictOf (b5 P w) a vs:=qV ok (.inl e)
end
def yr (H:Hp)(a:Addr)(y:V)(r:Option V):Prop:=∃kvs k,Rd H a (.dK kvs)/\y=kV k/\r=gf kvs k
def F3 (H:Hp)(a:Addr)(y v:V)(H':Hp):Prop:=∃kvs k,H a=some (.dK kvs)/\y=kV k/\kvs.length<sizeLine/\H'=upd H a (.dK (putK kvs k v))
section
variable {X:Cx}{pins:List .(104)}{σ:St}{H:Hp}{s:Da}{a:Addr}{y v:V}{u r:Value}{o:Option V}{A:GT}{E:Value->Da->Prop}
def Inv.big (I:Inv X pins σ H s):N9<s.heap.objs.size:=by have h:IR<s.heap.objs.size:=(I.mod.glob.keeps I.bk).lt;exact JA .(2) h
def wG (hu:A.units+1<cLine)(I:Inv X pins σ H s)(g:yr H a y (some v))(ry:RelV y u)(h:∀w' s',Inv X pins σ H s'->RelV v w'->Q w' s'):
   wpAny .(100) A (Og (.ref a) u) Q E s:=by
 obtain⟨kvs,k,e,ey,l⟩:=g;subst ey;obtain⟨z,hd,vs,rel,dd⟩:=qV I.hok e;obtain⟨w',hw,rw'⟩:=qE.some_of (v:=v) (o:=valueAt vs k) (by rw[l]; exact rel.val k);exact wpAny_getItem_of (vY ry) dd.mapOf hw (h w' _ (I.tok _) rw')
def gh (I:Inv X pins σ H s)(mu:Mut (H a))(hs:Lk a s.heap h')(he:∃q,h'.get? a=some q)(new:bL X.prog X.w (upd H a ob) h' a ob):
   Inv X pins σ (upd H a ob) { s with heap:=h',toks:=t' }:=
 I.write (x:=a) (e:=a) mu (.inl rfl) (λb q hb z=>(hs.2 b hb).trans z) he new
def qb (z:kvs.length<=sizeLine)(hd:(a==N9)=false)(rel:KV kvs vs)(dd:h'.DictOf (b5 P w) a vs):
   bL P w H' h' a (.dK kvs):=⟨z,hd,vs,rel,dd⟩
def we (hu:A.units+1<cLine)(I:Inv X pins σ H s)(g:F3 H a y v H')(ry:RelV y u)(rv:RelV v r)(h:∀s',Inv X pins σ H' s'->Q () s'):
   wpAny .(100) A (O2 (.ref a) u r) Q E s:=by
 obtain⟨kvs,k,e,ey,l,eH⟩:=g;subst ey eH;obtain⟨z,hd,vs,rel,dd⟩:=vo I.hok e;have hz:vs.length<=sizeLine:=by rw[<- rel.length]; exact z
 have hl:(putK kvs k v).length<=sizeLine:=by have:=kq kvs k v; omega
 refine wpAny_setItem_pairs (hsz:=hz) (vY ry) dd λh' dd' hs=>h _ ?_;have he:∃q,h'.get? a=some q:=let ⟨q,_,_,hq,_⟩:=dd'; ⟨q,hq⟩
 exact gh I (by rw[e]; exact J6) hs he (qb hl hd (rel.put k rv) dd')
end
def ny (i:Expr):Prop:=∀ov iv,subscripted i false ov iv=operate [ov,iv] (Og ov iv)
def pZ {prog:FB}{w:World}{A:GT}{E:Value->Da->Prop}{s:Da}{env:Env}{value slice:Expr}{T id:String}{Q:Value->Da->Prop}
   (hl:typeLookup (.type T) "__getitem__" = pure (some (.builtin id))) (hs:ny slice)
   (h:wpAny .(110) A (eval value env) (λo s₁=>wpAny .(110) A (eval slice env) (λi s₂=>s₂.TypeIs o T/\wpAny .(110) A (Og o i) Q E s₂) E s₁) E s) :
   wpAny .(110) A (eval (.Subscript value slice pos) env) Q E s:=by
 refine Subscript_ (NZ h (λo s₁ h₁=>NZ h₁ (λi s₂ h₂=>?_) λ_ _ x=>x) λ_ _ x=>x);obtain⟨hT,h₂⟩:=h₂;unfold subscriptTail;refine AC ?_;rw[getitemInPython_of_ne hT.not_modules];refine AC (NB hT hl ?_);have fin:wpAny .(110) A (subscripted slice false o i) (λr s₃=>wpAny .(110) A (letTemporaryGo value o r >>= λ_=>pure r) Q E s₃) E s₂:=by rw[hs o i];exact wpAny_operating (NZ h₂ (λr s₃ h₃=>AC (wpAny_letTemporaryGo (Fk h₃))) λ_ _ x=>x)
 first
   | exact Fk (AC fin)
   | exact AC (Fk (AC fin))
   | exact AC fin
def rq {X:Cx}{pins:List .(104)}{σ:St}{s:Da}{o:Option V}(I:Inv X pins σ H s)(g:yr H a y o):s.TypeIs (.ref a) "dict":=by obtain⟨kvs,k,e,_,_⟩:=g;obtain⟨_,_,vs,_,dd⟩:=qV I.hok e;exact dd.typeIs
def Gh (td ty:TE):TE:=λσ H Q=>td σ H λx H1=>ty σ H1 λy H2=>∃a v,x=.ref a/\yr H2 a y (some v)/\Q v H2
def FP (td ty tv:TE):TS:=λD σ H=>tv σ H λv H1=>td σ H1 λx H2=>ty σ H2 λy H3=>∃a H4,x=.ref a/\F3 H3 a y v H4/\D.nx σ H4
section
variable {X:Cx}{o i value:Expr}{pos pos':Pos}{td ty tv:TE}
def BC (hu:X.A.units+1<cLine)(ho:PE X o td)(hi:PE X i ty)(hs:ny i):PE X (.Subscript o i pos) (Gh td ty):=by intro pins s σ H Q I h;refine pZ PySem.F.slot_dict_getitem.lookup hs (thn (ho pins s σ H _ I h) λu s1 ⟨x,H1,I1,rx,q1⟩=>thn (hi pins s1 σ H1 _ I1 q1) λiv s2 ⟨y,H2,I2,ry,a,v,ex,g,q2⟩=>?_);subst ex;obtain rfl:u=IT a:=rx;exact⟨rq I2 g,wG hu I2 g ry λw' s3 I3 rw'=>⟨v,H2,I3,rw',q2⟩⟩
def AU (hu:X.A.units+1<cLine)(ho:PE X o td)(hi:PE X i ty)(hv:PE X value tv)(hs:N1 value (some (.Subscript o i pos')) pos.line X.env=pure false):
   PS X (.Assign [.Subscript o i pos'] value pos) (FP td ty tv):=by
 intro pins s σ H D I h;refine wpAny_Assign_Subscript (thn (hv pins s σ H _ I h) λr s1 ⟨v,H1,I1,rv,q1⟩=>thn (ho pins s1 σ H1 _ I1 q1) λu s2 ⟨x,H2,I2,rx,q2⟩=>thn (hi pins s2 σ H2 _ I2 q2) λiv s3 ⟨y,H3,I3,ry,a,H4,ex,g,q3⟩=>?_) hs;subst ex;obtain rfl:u=IT a:=rx;exact we hu I3 g ry rv λs4 I4=>⟨σ,H4,I4,q3⟩
end
def rf (h:Heap)(hb:N9<h.objs.size):bL P w H (h.push { cls:=.type "dict",data:=.dict #[] }) h.objs.size (.dK []):=⟨Im _,beq_eq_false_iff_ne.mpr (Je (IL hb)),[],.nil,Heap.DictOf.new h⟩
def DJ:TE:=λ_ H Q=>∀p,H p=none->Q (.ref p) (upd H p (.dK []))
section
variable {X:Cx}{pos:Pos}
def y3:PE X (.Dict [] [] pos) DJ:=λpins s σ H Q I h=>wpAny_Dict_empty ⟨.ref s.heap.objs.size,_,I.laid (a:=s.heap.objs.size) (o:=.dK []) (t':=s.toks) (λ_ _ q=>pq _ q) .(3) (rf s.heap I.big),rfl,h _ (I.hok.fresh .(3))⟩
end
def tP:List (TE×TE)->St->Hp->(List (V×V)->Hp->Prop)->Prop
 | [],_,H,Q=>Q [] H
 | (tk,tv)::r,σ,H,Q=>tk σ H λx H1=>tv σ H1 λy H2=>tP r σ H2 λps H3=>Q ((x,y)::ps) H3
abbrev VV:List (V×V)->List (Value×Value)->Prop:=Paired λp q=>RelV p.1 q.1/\RelV p.2 q.2
def PPs (X:Cx)(pos:Pos)(keys:List (Option Expr))(values:List Expr)(trs:List (TE×TE)):Prop:=
 ∀(pins:List .(104)) (s:Da) (σ:St) (H:Hp) (Q:List (V×V)->Hp->Prop),Inv X pins σ H s->tP trs σ H Q ->
   wpAny .(100) X.A (evalPairs (pairTrees keys values X.env pos)) (λvs s'=>∃ps H',Inv X pins σ H' s'/\VV ps vs/\Q ps H') X.xe s
def Bw :PPs X pos [] [] []:=λpins s σ H Q I h=>pairTrees_nil_walk ⟨[],H,I,.nil,h⟩
def zI (hk:PE X k tk)(hv:PE X v tv)(hr:PPs X pos ks vs trs):
   PPs X pos (some k::ks) (v::vs) ((tk,tv)::trs):=λpins s σ H Q I h=>
 pairTrees_cons_walk (thn (hk pins s σ H _ I h) λu s1 ⟨x,H1,I1,rx,q1⟩=>thn (hv pins s1 σ H1 _ I1 q1) λw2 s2 ⟨y,H2,I2,ry,q2⟩=>
   thn (hr pins s2 σ H2 _ I2 q2) λws s3 ⟨ps,H3,I3,rel,q3⟩=>⟨(x,y)::ps,H3,I3,.cons ⟨rx,ry⟩ rel,q3⟩)
noncomputable def jO (kvs more:List (Key×V)):List (Key×V):=more.foldl (λacc kv=>putK acc kv.1 kv.2) kvs
def KV.merge:∀{more:List (Key×V)} {rs:List (Key×Value)} {kvs:List (Key×V)} {vs:List (Key×Value)},KV more rs->KV kvs vs->KV (jO kvs more) (merged vs rs):=by
 intro more rs kvs vs r;unfold KV at r;induction r generalizing kvs vs with
 | nil=>intro q; exact q
 | @cons p q ps qs h t ih=>
   intro r0;have e:KV (putK kvs p.1 p.2) (stored vs q.1 q.2):=by have:=r0.put p.1 h.2;rw[<- h.1]; exact this
   exact ih e
theorem iE:∀(more kvs:List (Key×V)),(jO kvs more).length<=kvs.length+more.length
 | [],kvs=>by show kvs.length<=kvs.length+0; omega
 | p::r,kvs=>by have h1:=iE r (putK kvs p.1 p.2);have h2:=kq kvs p.1 p.2;show (jO (putK kvs p.1 p.2) r).length<=_;rw[Ja]; omega
theorem lQ :∀{kvs:List (Key×V)} {ws:List (Value×Value)},VV (kvs.map λkv=>(kV kv.1,kv.2)) ws->∃rs,Carries (b5 P w) ws rs/\KV kvs rs
 | [],_,r=>by rw[L3]at r; cases r; exact⟨[],J6,.nil⟩
 | p::kvs,_,r=>by
   rw[IJ]at r;cases r with
   | @cons a b as bs h t=>obtain⟨rs,c,q⟩:=lQ (P:=P) (w:=w) t;obtain⟨b1,b2⟩:=b;exact⟨(p.1,b2)::rs,⟨vY h.1,rfl,c⟩,.cons ⟨rfl,h.2⟩ q⟩
def GY (trs:List (TE×TE)):TE:=λσ H Q=>∀p,H p=none->tP trs σ (upd H p (.dK [])) λps H2=>H2 p=some (.dK [])/\∃kvs:List (Key×V),ps=kvs.map (λkv=>(kV kv.1,kv.2))/\kvs.length<=15/\Q (.ref p) (upd H2 p (.dK (jO [] kvs)))
def BH (h:PPs X pos keys values trs)(hall:keys.all (·.isSome)=true)(hl:keys.length=values.length)(h0:keys≠[])
   (h15:keys.length<=15):PE X (.Dict keys values pos) (GY trs):=by
 intro pins s σ H Q I q;have hn:=I.hok.fresh (IE s.heap.objs.size);have I1:=I.laid (a:=s.heap.objs.size) (o:=.dK []) (h':=s.heap.push { cls:=.type "dict",data:=.dict #[] }) (t':=s.toks) (λ_ _ q=>pq _ q) .(3) (rf s.heap I.big);refine wpAny_Dict_walk (knd:=b5 X.prog X.w) hall hl h0 h15 (thn (h pins _ σ _ _ I1 (q _ hn)) λws s2 ⟨ps,H2,I2,rel,e,kvs,ep,lk,q2⟩=>?_);subst ep;obtain⟨rs,c,rk⟩:=lQ (P:=X.prog) (w:=X.w) rel;obtain⟨z,hd,vs0,r0,dd⟩:=vo I2.hok e;cases r0;refine⟨rs,c,dd,λh' dd' hs=>⟨.ref s.heap.objs.size,_,?_,rfl,q2⟩⟩;have hz:(jO [] kvs).length<=sizeLine:=by have h1:=iE kvs [];rw[L4]at h1;rw[sizeLine_eq]; omega
 have he:∃q,h'.get? s.heap.objs.size=some q:=let ⟨q,_,_,hq,_⟩:=dd'; ⟨q,hq⟩
 exact gh I2 (by rw[e]; exact J6) hs he (qb hz hd (rk.merge .nil) dd')
structure M2 (X:Cx)(o:Expr)(m:Str)(apos:Pos)(e f:Expr)(cpos:Pos):Prop where
 base:N4 o m X.env (eval o X.env)=eval o X.env
 few:((KF cpos (Do [e,f] X.env)).all (λx=>!x.1)&&(NO cpos (N8 [] X.env)).all (λx=>x.1.isSome)
   && decide (([e,f]:List Expr).length+([]:List N6).length+(if ([]:List N6).isEmpty then 0 else 1)<30))=true
 line:(apos.endLine==cpos.line)=true
 trees:KF cpos (Do [e,f] X.env)=[.(113),(false,eval f X.env)]
def IsD (H:Hp)(a:Addr):Prop:=∃kvs,Rd H a (.dK kvs)
def DF {X:Cx}{pins:List .(104)}{σ:St}{s:Da}(I:Inv X pins σ H s)(d:IsD H a):
   s.TypeIs (.ref a) "dict" /\ (∀b,IT a=.ref b->∃ob,s.heap.get? b=some ob/\ob.dict=none)/\(a==N9)=false:=by
 obtain⟨kvs,e⟩:=d;obtain⟨_,hd,vs,_,dd⟩:=qV I.hok e;refine⟨dd.typeIs,λb q=>?_,hd⟩;cases q;obtain⟨ob,_,_,h1,h2,_⟩:=dd;exact⟨ob,h1,h2.2.1⟩
section
variable {X:Cx}{pins:List .(104)}{σ:St}{H:Hp}{s:Da}{a:Addr}{y d:V}{u r:Value}{o:Option V}{A:GT}{E:Value->Da->Prop}
def Ea (hu:A.units+1<cLine)(I:Inv X pins σ H s)(g:yr H a y o)(ry:RelV y u)(rd:RelV d r)(h:∀w' s',Inv X pins σ H s'->RelV (o.getD d) w'->Q w' s'):
   wpAny .(100) A (call (.builtin "dict.get") [.ref a,u,r]) Q E s:=by
 obtain⟨kvs,k,e,ey,l⟩:=g;subst ey;obtain⟨z,hd,vs,rel,dd⟩:=qV I.hok e;refine call_meetsIn Nc dd.typeIs PySem.F.entry_dict_get (PySem.F.args_dict_get_3 _ _ _) (meets_dict_get_default (b5 X.prog X.w) a (vY ry) hd r) ⟨_,dd.mapOf,h _ _ (I.tok _) ?_⟩;rw[l];exact(rel.val k).getD rd
end
def Df (td ty tx:TE):TE:=λσ H Q=>td σ H λx H1=>∃a,x=.ref a/\IsD H1 a/\ty σ H1 λy H2=>tx σ H2 λz H3=>∃o,yr H3 a y o/\Q (o.getD z) H3
section
variable {X:Cx}{o e f:Expr}{apos cpos:Pos}{td ty tx:TE}
def xX (hu:X.A.units+1<cLine)(ho:PE X o td)(he:PE X e ty)(hf:PE X f tx)(m:M2 X o "get" apos e f cpos):PE X (.Call (.Attribute o "get" apos) [e,f] [] cpos) (Df td ty tx):=by
 intro pins s σ H Q I h;refine wpAny_Call_method m.base m.few m.line PySem.F.plainAttrs_dict Nc PySem.F.type_dict_get (thn (ho pins s σ H _ I h) λu s1 ⟨x,H1,I1,rx,a,ex,d,q1⟩=>?_);subst ex;obtain rfl:u=IT a:=rx;obtain⟨t1,t2,_⟩:=DF I1 d;refine⟨t1,t2,?_⟩;rw[m.trees]
 refine Nj rfl (Calls.evalArgs_plain (Li (thn (he pins s1 σ H1 _ I1 q1) λiv s2 ⟨y,H2,I2,ry,q2⟩=>
   Li (thn (hf pins s2 σ H2 _ I2 q2) λfv s3 ⟨z,H3,I3,rz,ov,g,q3⟩=>Mu ?_))))
 exact Ea hu I3 g ry rz λw' s4 I4 rw'=>⟨_,H3,I4,rw',q3⟩
end
end L2
namespace Ev
open PySem PySem.Spec PyProof.Rows L2
open PySem.Builtin.Range (rangeFitsLong rangeSize)
noncomputable def jj (n:Int):Obj:={ cls:=.type "range_iterator",data:=.fields #[NT (0+(rangeSize 0 n 1-1)*1),NT (rangeSize 0 n 1),NT (-1)] }
def fits_of (h1:-(2^62)<=i)(h2:i<=2^62):rangeFitsLong i=true:=by unfold rangeFitsLong;rw[IS,decide_eq_true_iff,decide_eq_true_iff];omega
def xV (h:0<=n):rangeSize 0 n 1=n:=by rw[rangeSize_one];split <;> omega
def DU (h0:0<=n)(h1:n<2^62):.(116)=true:=by rw[xV h0,fits_of (i:=n) .(0) .(0)];decide
def wg (r:Addr)(n:Int)(t u v:Tok)(hs:.(116)=true):
   Meets (Builtin.«range.__reversed__» ⟨[.ref r],[]⟩) (λ_ R s=>IsRange s.heap r 0 n 1 t u v/\R (.ok (.ret (IT s.heap.objs.size))) { s with heap:=s.heap.push (jj n),toks:=s.toks }):=
 .of_wp λprog w A R s h=>by
   obtain⟨hp,g,d,tk,os⟩:=s;obtain⟨hl,h⟩:=h;have hs':(!.(116))=false:=by rw[hs]; rfl
   wp_walk
   rw[if_neg (by rw[hs]; decide),if_pos hs];exact AC (GM (Fk ⟨_,rfl,h⟩))
section
variable {prog:FB}{w:World}{A:GT}{E:Value->Da->Prop}{s:Da}
def l5 (hr:IsRange s.heap r 0 n 1 t u v)(h0:0<=n)(h1:n<2^62)
   (h:Q .(145) { s with heap:=s.heap.push (jj n) }):wpAny .(110) A (call (.builtin "range.__reversed__") [.ref r]) Q E s:=
 O0 F.slot_range_reversed ⟨_,hr,rfl⟩ F.entry_range_reversed (F.args_range_reversed_1 _) (wg r n t u v (DU h0 h1)) ⟨hr,h⟩
def pC (hr:IsRange s.heap r 0 n 1 t u v)(h0:0<=n)(h1:n<2^62)
   (h:Q₁ .(145) { s with heap:=s.heap.push (jj n) }) :
   O3 .(110) A (.call (.builtin "reversed.__new__") ⟨[.type "reversed",.ref r],[]⟩) (wants Q₁ E) s:=by
 have hT:s.TypeIs (.ref r) "range":=⟨_,hr,rfl⟩;refine codeAny_of_tree ?_;refine AC (NP (F.newCall_reversed_1 _) (Fk ⟨NN F.plain_reversed_new _,NI F.entry_reversed_new ?_⟩));rw[J4 F.plain_reversed_new _];unfold Builtin.«reversed.__new__»;refine AC (NP (newClass_reversed _) ?_)
 try dsimp only
 refine AC (NP (a:=()) (by first | rfl | kernel_rfl) ?_);refine AC (NP (a:=()) (by first | rfl | kernel_rfl) ?_)
 try dsimp only
 refine AC (NB hT F.slot_range_reversed.lookup ?_)
 try dsimp only
 refine AC (NP (F.slot_range_reversed.bind _) ?_)
 try dsimp only
 first
 | rw[if_neg (show ¬((LG "range.__reversed__" == JS)=true) from Ij)]
 | (show wpAny _ _ (if (LG "range.__reversed__" == JS)=true then _ else _) _ _ _; rw[if_neg (show ¬((LG "range.__reversed__" == JS)=true) from Ij)])
 refine AC (Oi ?_);refine AC (m:=runValue (.call (.builtin "range.__reversed__") ⟨[.ref r],[]⟩)) (show wpAny _ _ (call (.builtin "range.__reversed__") [.ref r]) _ _ _ from l5 hr h0 h1 ?_)
 first
 | exact Fk h
 | exact AC (Fk (Fk h))
def kF:isSubtype (.type "range_iterator") (.type "reversed")=pure false:=by rw[isSubtype_type]; kernel_rfl
def lP (hr:IsRange s.heap r 0 n 1 t u v)(h0:0<=n)(h1:n<2^62)
   (h:Q .(145) { s with heap:=s.heap.push (jj n) }):wpAny .(110) A (call (.type "reversed") [.ref r]) Q E s:=by
 refine callType_other (U:="range_iterator") (Q₁:=λobj s₁=>obj=.ref s.heap.objs.size/\s₁={ s with heap:=s.heap.push (jj n) }) .(23) F.create_reversed ⟨_,_,F.mro_reversed⟩ F.made_reversed kF (F.typeCall_reversed_1 _) (pC hr h0 h1 ⟨rfl,rfl⟩) ?_;rintro obj s₁ ⟨rfl,rfl⟩;exact⟨⟨_,Ib _ rfl,rfl⟩,h⟩
end
noncomputable def Itd (n:Nat):L2.It:=⟨λi _=>i<n,λi H x H'=>H'=H/\x=.int ((n:Int)-1-i),λi _=>n<=i⟩
def AB {P:FB}{w:World}{K:fw}{tg:Expr}(it:Addr)(n:Nat):Turn P w K false tg (Itd n) [it] it (λi h=>i<=n/\NR h it ((n:Int)-1+(i:Nat)*(-1)) ((n:Int)-(i:Nat)) (-1)) where
 mem:=by simp
 obj:=λi h st b hb=>by
   have e:b=it:=by simpa using hb
   subst e
   exact⟨_,st.2,λv z=>by
     have z':Data.fields _=Data.cell v:=z;cases z'⟩
 keep:=λi h h' st k=>⟨st.1,k it .(4) _ st.2⟩
 item:=by intro X hP hw hK hc i pins s σ H E I hf st hg;subst hP hw hK;obtain⟨f0,f1,f2,f3,f4,f5⟩:=hf it .(4);have W:=MO (prog:=X.prog) (w:=X.w) (I.ok.hd hc.calm) it ((n:Int)-1) (-1) n;refine W.item i s _ _ hg st.2 λv h' tk hv st' kk=>?_;obtain⟨t,rfl⟩:=hv;have I1:Inv X pins σ H { s with heap:=h',toks:=tk }:=I.turned (λb o hb e=>kk b o (by simpa using hb) e) f0 f1 f3 f4 f5;refine⟨_,rfl,kg (s:={ s with heap:=h',toks:=tk }) (n:="range_iterator") st' rfl rfl .(2) ⟨.int ((n:Int)-1-i),H,I1,⟨t,?_⟩,⟨rfl,rfl⟩,⟨hg,st'⟩,λb hb=>(hf b hb).1⟩⟩;rw[Int.mul_neg,Int.mul_one,<- Int.sub_eq_add_neg]
 done:=by intro X hP hw hK hc i pins s σ H E I hf st hg;subst hP hw hK;obtain⟨f0,f1,f2,f3,f4,f5⟩:=hf it .(4);have hg:n<=i:=hg;obtain rfl:i=n:=Nat.le_antisymm st.1 hg;have W:=MO (prog:=X.prog) (w:=X.w) (I.ok.hd hc.calm) it ((i:Int)-1) (-1) i;exact W.done s _ _ st.2 λh' tk kk=>⟨rfl,I.turned (λb o hb e=>kk b o (by simpa using hb) e) f0 f1 f3 f4 f5⟩
 self:=λ_ _ _ _ _ st h=>NS st.2 h
section
variable {X:Cx}{tg:Expr}
def iDn (ta:TA):TI:=λσ H R=>ta σ H λvs H1=>∃n:Nat,vs=[.int n]/\n<1000/\R (Itd n) H1
def BY {a:Expr}{ta:TA}{p p' pos pos':Pos}(hc:X.calm=true)(hg:Gl X "reversed")(hm:X.mg "reversed" = none)(hg':Gl X "range")(hm':X.mg "range" = none)(ha:PA X [a] ta)(hs':Do [a] X.env=[.(121)]:=by rfl)
   (hs:Do [.Call (.Name "range" p') [a] [] pos'] X.env=[(false,eval (.Call (.Name "range" p') [a] [] pos') X.env)]:=by rfl):PI X tg (.Call (.Name "reversed" p) [.Call (.Name "range" p') [a] [] pos'] [] pos) (iDn ta):=by
 intro pins s σ H R I h;refine Call_ (dM I hg hm qR (IP ?_ hs rfl));rw[hs];refine Li (Call_ (dM I hg' hm' boot_range (IP (thn (ha pos' pins s σ H _ I h) λus s1 ⟨vs,H1,I1,r1,n,e,hn,q⟩=>?_) hs' rfl)));subst e;cases r1 with
 | cons r rr=>
   cases rr;obtain⟨t,rfl⟩:=r;refine call_range_1 (Mu ?_);have I2:Inv X pins σ H1 { s1 with heap:=s1.heap.push { cls:=.type "range",data:=.fields #[.int 0 s1.toks,.int n t,.int 1 (s1.toks+1)] },toks:=s1.toks+1+1 }:=I1.kept λb o e=>pq _ e;refine lP (Nv ..) .(0) .(0) ?_;have z:rangeSize 0 (n:Int) 1=n:=xV .(0);have st:(Heap.push (s1.heap.push { cls:=.type "range",data:=.fields #[.int 0 s1.toks,.int n t,.int 1 (s1.toks+1)] }) (jj n)).get? (s1.heap.push { cls:=.type "range",data:=.fields #[.int 0 s1.toks,.int n t,.int 1 (s1.toks+1)] }).objs.size=some (jj n):=Ib _ rfl
   have st':NR (Heap.push (s1.heap.push { cls:=.type "range",data:=.fields #[.int 0 s1.toks,.int n t,.int 1 (s1.toks+1)] }) (jj n)) (s1.heap.push { cls:=.type "range",data:=.fields #[.int 0 s1.toks,.int n t,.int 1 (s1.toks+1)] }).objs.size ((n:Int)-1+((0:Nat):Int)*(-1)) ((n:Int)-((0:Nat):Int)) (-1):=by
     unfold NR;rw[st,jj,z];congr 6
     all_goals (simp)
   refine NS (x:=(n:Int)-1+((0:Nat):Int)*(-1)) (left:=(n:Int)-((0:Nat):Int)) (step:=-1) st' ?_;refine⟨false,_,[(s1.heap.push { cls:=.type "range",data:=.fields #[.int 0 s1.toks,.int n t,.int 1 (s1.toks+1)] }).objs.size],_,_,H1,rfl,I2.kept (t':=s1.toks+1+1) λb o e=>pq _ e,.inl hc,AB _ n,⟨Im _,st'⟩,λb hb=>?_,q⟩;have e:b=(s1.heap.push { cls:=.type "range",data:=.fields #[.int 0 s1.toks,.int n t,.int 1 (s1.toks+1)] }).objs.size:=by simpa using hb
   subst e;exact I2.kG .(3) (I2.hok.fresh .(3))
end
end Ev
namespace Ev
open PySem PySem.Spec PyProof.Rows L2
noncomputable def cO (kv:List (Int×Int)):List (Key×V):=kv.map λp=>(.inl p.1,.int p.2)
noncomputable def Itk (a:Addr)(o:Obj)(kv:List (Int×Int)):L2.It:=⟨λi H=>i<kv.length/\H a=some (.frz o (.dK (cO kv))),λi H x H'=>H'=H/\∃p,kv[i]?=some p/\x=.int p.1,λi H=>kv.length<=i/\H a=some (.frz o (.dK (cO kv)))⟩
def zt {X:Cx}{pins:List .(104)}{σ:L2.St}{s:Da}{o:Obj}{kvs:List (Key×V)}{es:Array Oh}(I:Inv X pins σ H s)(h:H a=some (.frz o (.dK kvs)))(hd:o.data=.dict es ep):
   ∃vs,KV kvs vs/\s.heap.DictAt (b5 X.prog X.w) a vs ep:=by
 obtain⟨e,_,_,vs,rel,o',es',ep',e',r⟩:=(show bL X.prog X.w H s.heap a (.frz o (.dK kvs)) from I.hok a _ h);rw[e]at e'; cases e';have z:=r.2.1;rw[hd]at z;injection z with z1 z2;subst z1 z2;exact⟨vs,rel,o,es,e,r⟩
def wJ {P:FB}{w:World}{K:fw}{tg:Expr}(a it:Addr)(o:Obj)(kv:List (Int×Int))(es:Array Oh)(ep:Nat)(hd:o.data=.dict es ep):
   Turn P w K false tg (Itk a o kv) [it] it (λi h=>i<=kv.length/\h.IsKeyIter it a i kv.length ep) where
 mem:=by simp
 obj:=λi h st b hb=>by
   have e:b=it:=by simpa using hb
   subst e;obtain⟨o,e,c,d⟩:=st.2;exact⟨o,e,λv z=>by rw[d]at z; cases z⟩
 keep:=λi h h' st k=>⟨st.1,st.2.at λo e=>k it .(4) o e⟩
 item:=by
   intro X hP hw hK hc i pins s σ H E I hf st hg;subst hP hw hK;obtain⟨hi,ha⟩:=hg;obtain⟨f0,f1,f2,f3,f4,f5⟩:=hf it .(4);obtain⟨vs,rel,dd⟩:=zt I ha hd;have hl:kv.length=vs.length:=by rw[<- rel.length,cO,bp]
   have st2:=st.2;rw[hl]at st2;have hx:vs[i]?=some vs[i]:=by simp[show i<vs.length by omega]
   have kk:=congrArg (λl=>l[i]?) rel.keys;simp only[cO,IC,Iy,hx,ph hi,JK,Kz]at kk;have kk:=IM kk;refine wpAny_pyNext_dict_item st2 dd hx λkey h' hk st' sb=>?_;have hk:(b5 X.prog X.w).is (KO kv[i].fst) key=true:=by rw[kk]; exact hk
   obtain⟨t,rfl⟩:=Value.isInt_shape (show Value.isInt _ key=true from hk);have I1:Inv X pins σ H { s with heap:=h' }:=I.turned (t':=s.toks) (λb o hb e=>(sb.2 b hb).trans e) f0 f1 f3 f4 f5;obtain⟨o',e,c,d⟩:=id st';refine⟨_,rfl,kg (s:={ s with heap:=h' }) e c d .(2) ⟨.int kv[i].1,H,I1,⟨t,rfl⟩,⟨rfl,_,ph hi,rfl⟩,⟨hi,by rw[hl]; exact st'⟩,λb hb=>(hf b hb).1⟩⟩
 done:=by
   intro X hP hw hK hc i pins s σ H E I hf st hg;subst hP hw hK;obtain⟨hi,ha⟩:=hg;obtain⟨f0,f1,f2,f3,f4,f5⟩:=hf it .(4);obtain⟨vs,rel,dd⟩:=zt I ha hd;have hl:kv.length=vs.length:=by rw[<- rel.length,cO,bp]
   have st2:=st.2;rw[hl]at st2;exact wpAny_pyNext_dict_end (I.ok.hd hc.calm) st2 dd (JM .(0)) λh' eb=>⟨rfl,I.turned (t':=s.toks) (λb o hb e=>eb b o hb e) f0 f1 f3 f4 f5⟩
 self:=λ_ _ _ _ _ st h=>Oc st.2 h
section
variable {X:Cx}{tg:Expr}
def xn (tl:TE):TI:=λσ H R=>tl σ H λx H1=>∃a o kv,x=.ref a/\H1 a=some (.frz o (.dK (cO kv)))/\R (Itk a o kv) H1
def qt (hc:X.calm=true)(hl:PE X l tl):PI X tg l (xn tl):=by
 intro pins s σ H R I h;refine thn (hl pins s σ H _ I h) λu s1 ⟨x,H1,I1,r1,a,o,kv,ex,ha,q⟩=>?_;subst ex;cases r1;obtain⟨e,ok⟩:=(show bL X.prog X.w H1 s1.heap a (.frz o (.dK (cO kv))) from I1.hok a _ ha);obtain⟨z,hd,vs,rel,o',es,ep,e',r⟩:=ok;rw[e]at e';cases e';refine wpAny_pyIter_dict hd (show s1.heap.DictAt (b5 X.prog X.w) a vs ep from⟨o,es,e,r⟩) ?_;have hv:vs.length=kv.length:=by rw[<- rel.length,cO,bp]
 refine⟨false,s1.heap.objs.size,[s1.heap.objs.size],_,_,H1,rfl,I1.kept (t':=s1.toks) λb o e=>pq _ e,.inl hc,wJ a _ o kv es ep r.2.1,⟨Im _,?_⟩,λb hb=>?_,q⟩
 . rw[<- hv];exact⟨_,Ib _ rfl,rfl,rfl⟩
 . have e:b=s1.heap.objs.size:=by simpa using hb
   subst e;exact I1.kG .(3) (I1.hok.fresh .(3))
end
end Ev
namespace Hy
open PySem PySem.Spec PyProof.Rows L2
open Ev (D Den aw aI aK aq a5 aR)
section
variable {X:Cx}{C:Bool}{τ:List Sl}{x y z:D}{a b e:Expr}{pos p:Pos}{k:Nat}{s:Sl}{i j:Int}
def AO:OpR X (KB .Add) (λx y H Q=>∃l b xs zs,x=.ref l/\y=.ref b/\SqL X.K H l xs/\SqL X.K H b zs/\xs.length+zs.length<=sizeLine/\∀p,H p=none->Q (.ref p) (upd H p (.lst (xs++zs)))):=by
 intro pins s σ H x y v u Q I rx ry h;obtain⟨l,b,xs,zs,rfl,rfl,hH,hB,hz,q⟩:=h;cases rx;cases ry;obtain⟨its,r,pl,_⟩:=I.list hH;obtain⟨its2,r2,pl2,_⟩:=I.list hB;have hl:=r.length;have hl2:=r2.length;obtain⟨⟨cls,dd,data,sl⟩,ho,hc,n,hd⟩:=pl.isList;obtain⟨⟨cls2,dd2,data2,sl2⟩,ho2,hc2,n2,hd2⟩:=pl2.isList;simp only at hc hd hc2 hd2;subst hc hd hc2 hd2;have e:its.toArray++its2.toArray=(its++its2).toArray:=by simp
 refine concat_meets ⟨_,ho,rfl⟩ ⟨_,ho2,rfl⟩ noFill_list_add seq_list_add PySem.F.slot_list_add PySem.F.entry_list_add (PySem.F.args_list_add_2 _ _) (list_addW l b its.toArray its2.toArray n n2 dd dd2 sl sl2 (by rw[Ic,Ic]; omega)) ⟨ho,ho2,?_⟩;rw[e];exact⟨.ref _,_,I.Fh (t':=s.toks) (r.append r2) (by rw[rp]; omega),rfl,q _ I.fresh⟩
def qL (ha:PE X a (dE X.K C τ (.d (.lst xs))))(hb:PE X b (dE X.K C τ (.d (.lst ys))))(hl:xs.length+ys.length<1000000):PE X (.BinOp a .Add b pos) (dE X.K C τ (.o (xs++ys))):=peW (yV AO ha hb) λσ H Q ⟨A,H₀,B,S,k⟩=>
 aV S λv H1 e1 d1=>aV .(129) λw H2 e2 d2=>by
   cases d1 with
   | lst h1 r1=>cases d2 with
     | lst h2 r2=>refine⟨_,_,_,_,rfl,rfl,aR (aT.trans e2) h1,aR aT h2,by rw[r1.length,r2.length]; exact JO (JA hl .(2)),λp hp=>?_⟩;obtain⟨z1,z2,z3⟩:=jP (K:=X.K) hp ((r1.mono (aD e2 λ_ z=>z)).append r2);exact k _ _ [p] (e1.trans (e2.trans z1)) (λb hb=>⟨(e1.trans e2).free (z2 b hb).1,(z2 b hb).2⟩) z3
def mkL (h:i.natAbs<2^60):aI i j:=.inl (by
 rcases J2 i.natAbs with z | z
 . rw[z]; decide
 . exact JA ((Lh .(0)).mpr h) .(2))
def mkR (h:j.natAbs<2^60):aI i j:=.inr (.inl (by
 rcases J2 j.natAbs with z | z
 . rw[z]; decide
 . exact JA ((Lh .(0)).mpr h) .(2)))
def mkD (h0:j≠0)(h:j.natAbs<2^62):aK j:=⟨h0,JA ((Lh .(0)).mpr h) .(2)⟩
end
def aH {α:Type}{xs:List α}{i:Nat}{x:α}(h:xs[i]?=some x):atI xs (i:Int)=some x:=by unfold atI ixN;have:=(tf.mp h).1;rw[if_pos .(0),if_pos .(0)];simpa using h
def jR {ns:List Int}{i:Int}(h0:0<=i)(h:i.toNat<ns.length):atI (ns.map D.int) i=some (.int (ns.getD i.toNat 0)):=by
 obtain⟨n,rfl⟩:=Jo h0
 exact aH (by
   have h:n<ns.length:=h;simp[h])
def sU (n:Nat):cutD xs none (some (n:Int))=xs.take n:=by
 unfold cutD;rw[HT.ig,HT.lH,Nb,Nat.sub_zero];rcases Ma n xs.length with h | h
 . rw[J8 h]
 . rw[K5 h,Io .(3),Io h]
def Bn (m n:Nat):cutD xs (some (m:Int)) (some (n:Int))=(xs.take n).drop m:=by
 unfold cutD;rw[HT.ig,HT.ig];rw[<- List.drop_take];rcases Ma n xs.length with h | h
 . rw[J8 h];rcases Ma m xs.length with h' | h'
   . rw[J8 h']
   . rw[K5 h',KR .(13),KR .(13)]
 . rw[K5 h,Io .(3),Io h];rcases Ma m xs.length with h' | h'
   . rw[J8 h']
   . rw[K5 h',KR .(3),KR h']
def getD_none {α:Type}{xs:List α}{d:α}(h:xs.length<=i):xs.getD i d=d:=by simp[LF,h]
def ex1 {α:Type}{p:α->Prop}{a:α}(h:p a):∃a,p a:=⟨a,h⟩
def ex2 {α:Type}{p:α->α->Prop}{a b:α}(h:p a b):∃a b,p a b:=⟨a,b,h⟩
def ex3 {α:Type}{p:α->α->α->Prop}{a b c:α}(h:p a b c):∃a b c,p a b c:=⟨a,b,c,h⟩
end Hy
namespace L2
open PySem PySem.Spec PyProof.Rows PySem.SeqAt
section
variable {P:FB}{w:World}{A:GT}{E:Value->Da->Prop}{s:Da}
def HK (P:FB)(w:World)(A:GT)(h:Heap)(v:Value)(x:Int)(d:Nat):Prop:=∀(s:Da) (E:Value->Da->Prop) (Q:Int->Da->Prop),s.heap=h->Q x { s with toks:=s.toks+d }->wpAny (model P w) A (pyHash v) Q E s
def wW (hu:A.units<cLine)(hk:IsTup s.heap a #[u,v])(h1:∀B,B.units<=A.units+1->HK P w B s.heap u x m)(h2:∀B,B.units<=A.units+1->HK P w B s.heap v y n)
   (h:Q (O6 (Iw [x,y])) { s with toks:=s.toks+(m+n+1) }):wpAny (model P w) A (pyHash (.ref a)) Q E s:=by
 obtain⟨o,ho,hc,k,hd⟩:=hk;have hT:s.TypeIs (.ref a) "tuple":=⟨o,ho,hc⟩;unfold pyHash;refine AC (wpAny_cRoomFor_or (.inr hu) ?_);refine AC (NB hT F.slot_tuple_hash.lookup ?_);show wpAny _ _ (if (some (LG "tuple.__hash__")==some JS)=true then _ else _) Q E s;rw[if_neg (by rw[beq_builtin_none]; exact Ij)];refine AC (NB hT F.slot_tuple_hash.lookup ?_);show wpAny _ _ (callSpecialIfBoundUnlessNone? (.ref a) "__hash__" _ >>= _) Q E s;refine AC (Oa hT LK (ND LK hT F.entry_tuple_hash ?_ (F.args_tuple_hash_1 _)));show wpAny _ _ (KY (.ref a) >>= _) _ _ s;refine AC (wpAny_tupleItemsOf ho hd ?_);refine AC ?_;rw[<- Lj]
 refine NU _
   (λrest (b:Array Int) s'=>(rest=[u,v]/\b=#[]/\s'=s)\/(rest=[v]/\b=#[x]/\s'={ s with toks:=s.toks+m })\/(rest=[]/\b=#[x,y]/\s'={ s with toks:=s.toks+(m+n) }))
   _ ?_ ?_ _ _ (.inl ⟨rfl,rfl,rfl⟩)
 . rintro z rest b s' (⟨e,rfl,rfl⟩ | ⟨e,rfl,rfl⟩ | ⟨e,_⟩)
   . cases e;refine AC (h1 _ ?_ _ _ _ rfl ?_)
     . exact IE _
     . exact Fk (.inr (.inl ⟨rfl,rfl,rfl⟩))
   . cases e;refine AC (h2 _ ?_ _ _ _ rfl ?_)
     . exact IE _
     . exact Fk (.inr (.inr ⟨rfl,rfl,by simp[Kb]⟩))
   . cases e
 . rintro b s' (⟨e,_⟩ | ⟨e,_⟩ | ⟨_,rfl,rfl⟩)
   . cases e
   . cases e
   show wpAny _ _ (retInt (Iw [x,y])) _ _ _;refine wpAny_ret_mkInt ?_;show wpAny _ _ (if (decide (-(2:Int)^63<=Iw [x,y])&&decide (Iw [x,y]<2^63))=true then _ else _) Q E _;unfold O6 at h;by_cases hr:(decide (-(2:Int)^63<=Iw [x,y])&&decide (Iw [x,y]<2^63))=true
   . rw[if_pos hr];rw[if_pos hr]at h;exact Fk (by simpa[Kb]using h)
   . rw[if_neg hr];rw[if_neg hr]at h;exact AC (Oi (Fk (by simpa[Kb]using h)))
def sL (hk:IsTup s.heap a #[u,v])(h1:∀A E Q,Q true s->wpAny (model P w) A (NV n u) Q E s)(h2:∀A E Q,Q true s->wpAny (model P w) A (NV n v) Q E s)(h:Q true s):
   wpAny (model P w) A (NV (n+1) (.ref a)) Q E s:=by
 obtain⟨o,ho,hc,k,hd⟩:=hk;have hT:s.TypeIs (.ref a) "tuple":=⟨o,ho,hc⟩;unfold NV;refine AC (NB hT F.slot_tuple_eq.lookup ?_);show wpAny _ _ (isInstance (.ref a) (.type "tuple") >>= _) _ _ s;refine AC (O5 hT isSubtype_tuple_tuple ?_);simp only[Mq,JF,if_false];refine AC (NY ho hd ?_);refine AC ?_;show wpAny _ _ (forIn #[u,v] _ _) _ _ s;rw[<- Lj];refine NU _ (λrest r s'=>r.1=none/\s'=s/\∀z∈rest,z=u\/z=v) _ ?_ ?_ _ _ ⟨rfl,rfl,λz hz=>by simpa using hz⟩
 . rintro z rest r s' ⟨hr,rfl,hall⟩
   have hz:∀A E Q,Q true s'->wpAny (model P w) A (NV n z) Q E s':=by
     rcases hall z IF with rfl | rfl
     . exact h1
     . exact h2
   refine AC (hz _ _ _ ?_);simp only[Mq,JF,if_false];exact Fk ⟨rfl,rfl,λx hx=>hall x (Et _ hx)⟩
 . rintro⟨r1,r2⟩ s' ⟨hr,rfl,_⟩;simp only at hr;subst hr;exact Fk h
def A4 (hu:A.units<cLine)(ha:IsTup s.heap a #[u,v])(hb:IsTup s.heap b #[u',v'])(h1:EqAt A.in1 s u u' p)(h2:EqAt A.in1 s v v' q)(hs:a=b->(p&&q)=true):EqAt A s (.ref a) (.ref b) (p&&q):=by
 by_cases z:a=b
 . subst z;rw[hs rfl];exact .same _
 . have:=EqAt.of_refs z (RcAt.tuples (e:=λj=>if j=0 then p else q) ha hb hu λj j1 j2=>by
     match j,j1 with
     | 0,_=>exact h1
     | 1,_=>exact h2)
   have e:((ox (min (#[u,v]:Array Value).size (#[u',v']:Array Value).size)).all (λj=>if j=0 then p else q)&&(#[u,v]:Array Value).size==(#[u',v']:Array Value).size)=(p&&q):=by show (p&&(q&&true)&&true)=(p&&q);cases p <;> cases q <;> rfl
   rw[e]at this;exact this
end
def kU (p:IsTup h a x)(q:IsTup h a y):x=y:=by obtain⟨o,ho,_,n,hd⟩:=p;obtain⟨o',ho',_,n',hd'⟩:=q;rw[ho]at ho'; cases ho';rw[hd]at hd'; cases hd'; rfl
def ug (p:IsTup h a x)(ho:h.get? d=some o)(hd:o.data=.dict es ep)(hs:Lk d h h'):IsTup h' a x:=by
 obtain⟨o',ho',hc,n,hd'⟩:=p;have hne:a≠d:=by rintro rfl;rw[ho]at ho'; cases ho';rw[hd]at hd'; exact nomatch hd'
 exact⟨o',(hs.2 a hne).trans ho',hc,n,hd'⟩
structure IK (P:FB)(w:World)(K:Type)[DecidableEq K] where
 is:Heap->K->Value->Prop
 hash:K->Int
 draws:K->Nat
 dep:Nat
 inj:∀{h:Heap} {v:Value} {x y:K},is h x v->is h y v->x=y
 keeps:∀{h h':Heap} {k:K} {v:Value} {d:Addr} {o:Obj} {es ep},is h k v->h.get? d=some o->o.data=.dict es ep->Lk d h h'->is h' k v
 hk:∀{A:GT} {h:Heap} {k:K} {v:Value},is h k v->A.units+dep<cLine->HK P w A h v (hash k) (draws k)
 eq:∀{A:GT} {s:Da} {x y:K} {u v:Value},is s.heap x u->is s.heap y v->A.units+dep<cLine->EqAt A s u v (decide (x=y))
 quiet:∀{s:Da} {k:K} {v:Value} {n:Nat},dep<n->is s.heap k v->∀A E Q,Q true s->wpAny (model P w) A (NV n v) Q E s
section
variable {P:FB}{w:World}
noncomputable def FV:IK P w Int where
 is:=λ_ k v=>∃t,v=.int k t
 hash:=hashInt
 draws:=λ_=>1
 dep:=0
 inj:=λ⟨_,e⟩ ⟨_,g⟩=>by rw[e]at g; cases g; rfl
 keeps:=λh _ _ _=>h
 hk:=λ⟨_,e⟩ _ s E Q _ hq=>by rw[e]; exact wpAny_pyHash_int hq
 eq:=λ{A s x y u v} ⟨_,e⟩ ⟨_,g⟩ _=>by
   rw[e,g];have:decide (x=y)=(x==y):=by by_cases h:x=y <;> simp[h]
   rw[this];exact .int_int _ _ _ _
 quiet:=λ{s k v n} hn ⟨_,e⟩ A E Q q=>by obtain⟨m,rfl⟩:∃m,n=m+1:=⟨n-1,by omega⟩;rw[e];exact Fk q
variable {K K':Type}[DecidableEq K][DecidableEq K']
noncomputable def EJ (a:IK P w K)(b:IK P w K'):IK P w (K×K') where
 is:=λh k v=>∃p u u',v=.ref p/\IsTup h p #[u,u']/\a.is h k.1 u/\b.is h k.2 u'
 hash:=λk=>O6 (Iw [a.hash k.1,b.hash k.2])
 draws:=λk=>a.draws k.1+b.draws k.2+1
 dep:=max a.dep b.dep+1
 inj:=λ{h v x y} ⟨p,u,u',e,t,h1,h2⟩ ⟨p',v1,v2,e',t',g1,g2⟩=>by rw[e]at e';cases e';have q:=kU t t';simp only[Array.mk.injEq,List.cons.injEq,and_true]at q;obtain⟨rfl,rfl⟩:=q;exact Prod.ext (a.inj h1 g1) (b.inj h2 g2)
 keeps:=λ⟨p,u,u',e,t,h1,h2⟩ ho hd hs=>⟨p,u,u',e,ug t ho hd hs,a.keeps h1 ho hd hs,b.keeps h2 ho hd hs⟩
 hk:=λ{A h k v} ⟨p,u,u',e,t,h1,h2⟩ hu s E Q eh hq=>by rw[e];subst eh;exact wW .(0) t (λB hB=>a.hk h1 .(0)) (λB hB=>b.hk h2 .(0)) hq
 eq:=λ{A s x y u v} hx hy hu=>by
   obtain⟨p,u1,u2,e,t,h1,h2⟩:=id hx;obtain⟨p',v1,v2,e',t',g1,g2⟩:=id hy;have ed:decide (x=y)=(decide (x.1=y.1)&&decide (x.2=y.2)):=by obtain⟨x1,x2⟩:=x;obtain⟨y1,y2⟩:=y;rw[J7];simp
   rw[e,e',ed];refine A4 .(0) t t' (a.eq h1 g1 (show A.units+1+a.dep<cLine by omega)) (b.eq h2 g2 (show A.units+1+b.dep<cLine by omega)) λz=>?_;subst z;have q:=kU t t';simp only[Array.mk.injEq,List.cons.injEq,and_true]at q;obtain⟨rfl,rfl⟩:=q;rw[a.inj h1 g1,b.inj h2 g2];simp
 quiet:=λ{s k v n} hn ⟨p,u,u',e,t,h1,h2⟩ A E Q q=>by obtain⟨m,rfl⟩:∃m,n=m+1:=⟨n-1,by omega⟩;rw[e];exact sL t (a.quiet .(0) h1) (b.quiet .(0) h2) q
noncomputable def kindOf (a:IK P w K)(hd:a.dep<=7):HeapKind P w K where
 is:=λh k p=>a.is h k (.ref p)
 hash:=a.hash
 draws:=a.draws
 room:=λA=>A.units+8<cLine
 inj:=a.inj
 keeps:=a.keeps
 pyHash:=λ{A E s k p Q} hu hk h=>a.hk hk .(0) s E Q rfl h
 eqBool:=λ{A E s x y p p' Q} hu hx hy h=>a.eq hx hy .(0) _ _ _ _ h
 quiet:=λ{A E s k p Q} hk h=>a.quiet .(0) hk A E Q h
end
inductive fh {K:Type}(R:K->Value->Prop):List K->List Value->Prop where
 | nil:fh R [] []
 | cons {x:K} {v:Value} {xs:List K} {vs:List Value} (h:R x v) (r:fh R xs vs):fh R (x::xs) (v::vs)
section
variable {K:Type}
theorem fh.mono (f:∀x v,R x v->S x v):∀{xs:List K} {vs:List Value},fh R xs vs->fh S xs vs
 | _,_,.nil=>.nil
 | _,_,.cons h r=>.cons (f _ _ h) (r.mono f)
theorem fh.inj (f:∀x y v,R x v->R y v->x=y):∀{xs ys:List K} {vs:List Value},fh R xs vs->fh R ys vs->xs=ys
 | _,_,_,.nil,.nil=>rfl
 | _,_,_,.cons h r,.cons g q=>by rw[f _ _ _ h g,r.inj f q]
def fh.length :∀{xs:List K} {vs:List Value},fh R xs vs->xs.length=vs.length
 | _,_,.nil=>rfl
 | _,_,.cons _ r=>congrArg (·+1) r.length
theorem fh.at :∀{xs:List K} {vs:List Value},fh R xs vs->∀(j:Nat) (h1:j<xs.length) (h2:j<vs.length),R xs[j] vs[j]
 | _,_,.nil,_,h1,_=>absurd h1 .(6)
 | _,_,.cons h _,0,_,_=>h
 | _,_,.cons _ r,j+1,h1,h2=>r.at j (Nat.lt_of_succ_lt_succ h1) (Nat.lt_of_succ_lt_succ h2)
theorem fh.mem :∀{xs:List K} {vs:List Value},fh R xs vs->∀v∈vs,∃x,R x v
 | _,_,.nil,_,h=>nomatch h
 | _,_,.cons h r,v,hv=>(HZ.mp hv).elim (λz=>⟨_,z▸h⟩) (r.mem v)
def all_eq [DecidableEq K]{xs ys:List K}:((ox (min xs.length ys.length)).all (λj=>decide (xs[j]?=ys[j]?))&&xs.length==ys.length)=decide (xs=ys):=by
 rw[J7];simp only[IS,Jx,Iq,decide_eq_true_eq,beq_iff_eq];constructor
 . rintro⟨h1,h2⟩;refine List.ext_getElem? λj=>?_;by_cases hj:j<xs.length
   . exact h1 j .(0)
   . rw[JM .(0),JM .(0)]
 . rintro rfl;exact⟨λ_ _=>rfl,rfl⟩
end
section
variable {P:FB}{w:World}{K:Type}[DecidableEq K]
def wy {a:IK P w K}{A:GT}{s:Da}{its:List Value}{xs:List K}(hu:A.units+(a.dep+1)<cLine)(hk:IsTup s.heap p its.toArray)(hs:fh (a.is s.heap) xs its)
   (h:Q (O6 (Iw (xs.map a.hash))) { s with toks:=s.toks+((xs.map a.draws).sum+1) }):wpAny (model P w) A (pyHash (.ref p)) Q E s:=by
 obtain⟨o,ho,hc,k,hd⟩:=hk;have hT:s.TypeIs (.ref p) "tuple":=⟨o,ho,hc⟩;unfold pyHash;refine AC (wpAny_cRoomFor_or (.inr .(0)) ?_);refine AC (NB hT F.slot_tuple_hash.lookup ?_);show wpAny _ _ (if (some (LG "tuple.__hash__")==some JS)=true then _ else _) Q E s;rw[if_neg (by rw[beq_builtin_none]; exact Ij)];refine AC (NB hT F.slot_tuple_hash.lookup ?_);show wpAny _ _ (callSpecialIfBoundUnlessNone? (.ref p) "__hash__" _ >>= _) Q E s;refine AC (Oa hT LK (ND LK hT F.entry_tuple_hash ?_ (F.args_tuple_hash_1 _)));show wpAny _ _ (KY (.ref p) >>= _) _ _ s;refine AC (wpAny_tupleItemsOf ho hd ?_);refine AC ?_;rw[<- Lj]
 refine NU _
   (λrest (b:Array Int) s'=>∃(ks:List K) (n:Nat),fh (a.is s.heap) ks rest/\b.toList++ks.map a.hash=xs.map a.hash/\n+(ks.map a.draws).sum=(xs.map a.draws).sum/\s'={ s with toks:=s.toks+n })
   _ ?_ ?_ _ _ ⟨xs,0,hs,rfl,by omega,rfl⟩
 . rintro z rest b s' ⟨ks,n,hr,e1,e2,rfl⟩;cases hr with
   | @cons x _ ks' _ hx hr=>
     refine AC (a.hk hx (show A.units+1+a.dep<cLine by omega) _ _ _ rfl ?_);refine Fk ⟨ks',n+a.draws x,hr,?_,?_,by simp[Kb]⟩
     . simpa using e1
     . rw[IJ,List.sum_cons]at e2;omega
 . rintro b s' ⟨ks,n,hr,e1,e2,rfl⟩;cases hr;rw[L3,Jc]at e1;rw[L3,List.sum_nil,Md]at e2;subst e2;show wpAny _ _ (retInt (Iw b.toList)) _ _ _;rw[e1];refine wpAny_ret_mkInt ?_;show wpAny _ _ (if (decide (-(2:Int)^63<=Iw (xs.map a.hash))&&decide (Iw (xs.map a.hash)<2^63))=true then _ else _) Q E _;unfold O6 at h;by_cases hr:(decide (-(2:Int)^63<=Iw (xs.map a.hash))&&decide (Iw (xs.map a.hash)<2^63))=true
   . rw[if_pos hr];rw[if_pos hr]at h;exact Fk (by simpa[Kb]using h)
   . rw[if_neg hr];rw[if_neg hr]at h;exact AC (Oi (Fk (by simpa[Kb]using h)))
def tI {s:Da}{its:List Value}(hk:IsTup s.heap p its.toArray)(h1:∀z∈its,∀A E Q,Q true s->wpAny (model P w) A (NV n z) Q E s)(h:Q true s):
   wpAny (model P w) A (NV (n+1) (.ref p)) Q E s:=by
 obtain⟨o,ho,hc,k,hd⟩:=hk;have hT:s.TypeIs (.ref p) "tuple":=⟨o,ho,hc⟩;unfold NV;refine AC (NB hT F.slot_tuple_eq.lookup ?_);show wpAny _ _ (isInstance (.ref p) (.type "tuple") >>= _) _ _ s;refine AC (O5 hT isSubtype_tuple_tuple ?_);simp only[Mq,JF,if_false];refine AC (NY ho hd ?_);refine AC ?_;show wpAny _ _ (forIn its.toArray _ _) _ _ s;rw[<- Lj];refine NU _ (λrest r s'=>r.1=none/\s'=s/\∀z∈rest,z∈its) _ ?_ ?_ _ _ ⟨rfl,rfl,λz hz=>by simpa using hz⟩
 . rintro z rest r s' ⟨hr,rfl,hall⟩;refine AC (h1 z (hall z IF) _ _ _ ?_);simp only[Mq,JF,if_false];exact Fk ⟨rfl,rfl,λx hx=>hall x (Et _ hx)⟩
 . rintro⟨r1,r2⟩ s' ⟨hr,rfl,_⟩;simp only at hr;subst hr;exact Fk h
noncomputable def ET (a:IK P w K):IK P w (List K) where
 is:=λh ks v=>∃p its,v=.ref p/\IsTup h p its.toArray/\fh (a.is h) ks its
 hash:=λks=>O6 (Iw (ks.map a.hash))
 draws:=λks=>(ks.map a.draws).sum+1
 dep:=a.dep+1
 inj:=λ{h v x y} ⟨p,its,e,t,r⟩ ⟨p',its',e',t',r'⟩=>by rw[e]at e';cases e';have q:its=its':=congrArg MB (kU t t');subst q;exact fh.inj (R:=a.is h) (λ_ _ _ z1 z2=>a.inj z1 z2) r r'
 keeps:=λ⟨p,its,e,t,r⟩ ho hd hs=>⟨p,its,e,ug t ho hd hs,r.mono λ_ _ z=>a.keeps z ho hd hs⟩
 hk:=λ{A h k v} ⟨p,its,e,t,r⟩ hu s E Q eh hq=>by rw[e];subst eh;exact wy hu t r hq
 eq:=λ{A s x y u v} hx hy hu=>by
   obtain⟨p,its,e,t,r⟩:=id hx;obtain⟨p',its',e',t',r'⟩:=id hy;rw[e,e'];by_cases z:p=p'
   . subst z;have q:its=its':=congrArg MB (kU t t');subst q;rw[decide_eq_true (fh.inj (R:=a.is s.heap) (λ_ _ _ z1 z2=>a.inj z1 z2) r r')];exact .same _
   . have:=EqAt.of_refs z (RcAt.tuples (e:=λj=>decide (x[j]?=y[j]?)) t t' (show A.units<cLine by omega) λj j1 j2=>by
       have l1:j<x.length:=(by rw[r.length]; simpa using j1);have l2:j<y.length:=(by rw[r'.length]; simpa using j2);rw[ph l1,ph l2];have:=a.eq (A:=A.in1) (r.at j l1 (by simpa using j1)) (r'.at j l2 (by simpa using j2)) (show A.units+1+a.dep<cLine by omega);simpa using this)
     have el:(its.toArray.size,its'.toArray.size)=(x.length,y.length):=(by rw[r.length,r'.length]; simp);have e1:its.toArray.size=x.length:=congrArg Prod.fst el;have e2:its'.toArray.size=y.length:=congrArg Prod.snd el;rw[e1,e2,all_eq]at this;exact this
 quiet:=λ{s k v n} hn ⟨p,its,e,t,r⟩ A E Q q=>by obtain⟨m,rfl⟩:∃m,n=m+1:=⟨n-1,by omega⟩;rw[e];refine tI t (λz hz=>?_) q;obtain⟨x,hx⟩:=r.mem z hz;exact a.quiet .(0) hx
end
end L2
namespace Ev
open PySem PySem.Spec PyProof.Rows L2
structure KD (K:Type)[DecidableEq K] where
 ik:∀(P:FB) (w:World),IK P w K
 dep:Nat
 dep_ok:∀P w,(ik P w).dep=dep
 toD:K->D
 den:∀{X:Cx} {pins:List .(104)} {σ:L2.St} {H:Hp} {s:Da} {v:V} {u:Value} {k:K},Inv X pins σ H s->Den X.K H v (toD k)->RelV v u->(ik X.prog X.w).is s.heap k u
noncomputable def FQ:KD Int where
 ik:=λ_ _=>FV
 dep:=0
 dep_ok:=λ_ _=>rfl
 toD:=.int
 den:=λ_ d r=>by cases d; exact r
section
variable {K K':Type}[DecidableEq K][DecidableEq K']
noncomputable def Dv (a:KD K)(b:KD K'):KD (K×K') where
 ik:=λP w=>EJ (a.ik P w) (b.ik P w)
 dep:=max a.dep b.dep+1
 dep_ok:=λP w=>by show max (a.ik P w).dep (b.ik P w).dep+1=_; rw[a.dep_ok,b.dep_ok]
 toD:=λk=>.tup [a.toD k.1,b.toD k.2]
 den:=λ{X pins σ H s v u k} I d r=>by
   cases d with
   | tup h q=>
     cases (show u=IT _ from r);obtain⟨its,rv,t,_⟩:=I.tuple h;cases q with
     | cons d1 q=>cases q with
       | cons d2 q=>cases q with
         | nil=>cases rv with
           | cons r1 rv=>cases rv with
             | cons r2 rv=>cases rv with
               | nil=>exact⟨_,_,_,rfl,t,a.den I d1 r1,b.den I d2 r2⟩
theorem qT (a:KD K){X:Cx}{pins:List .(104)}{σ:L2.St}{s:Da}(I:Inv X pins σ H s):∀{ks:List K} {vs:List V} {us:List Value},aw X.K H vs (ks.map a.toD)->Vals vs us->fh ((a.ik X.prog X.w).is s.heap) ks us
 | [],_,_,.nil,.nil=>.nil
 | _::_,_,_,.cons d r,.cons q t=>.cons (a.den I d q) (qT a I r t)
noncomputable def E1 (a:KD K):KD (List K) where
 ik:=λP w=>ET (a.ik P w)
 dep:=a.dep+1
 dep_ok:=λP w=>by show (a.ik P w).dep+1=_; rw[a.dep_ok]
 toD:=λks=>.tup (ks.map a.toD)
 den:=λ{X pins σ H s v u k} I d r=>by
   generalize e:D.tup (k.map a.toD)=x at d;cases d with
   | tup h q=>cases e;cases (show u=IT _ from r);obtain⟨its,rv,t,_⟩:=I.tuple h;exact⟨_,its,rfl,t,qT a I q rv⟩
   | _=>cases e
abbrev NEs (K:Type):=List (K×Addr×Value)
noncomputable def kd (a:KD K)(hd:a.dep<=7)(P:FB)(w:World):HeapKind P w K:=kindOf (a.ik P w) (by rw[a.dep_ok]; exact hd)
variable {a:KD K}{hd:a.dep<=7}
noncomputable def dNk (a:KD K)(hd:a.dep<=7)(P:FB)(w:World)(p:Addr)(xs:NEs K):HO:=.ext λh=>(p==N9)=false/\∃o es ep,h.get? p=some o/\o.ExactDict/\o.data=.dict es ep/\es.toList=xs.map (Om (kd a hd P w))/\(xs.map (·.1)).Nodup
structure iC (a:KD K)(hd:a.dep<=7)(P:FB)(w:World)(F:fw)(H:Hp)(d:Addr)(xs:NEs K):Prop where
 at_:H d=some (dNk a hd P w d xs)
 key:∀x∈xs,Den F H (.ref x.2.1) (a.toD x.1)
variable {X:Cx}{pins:List .(104)}{σ:L2.St}{H:Hp}{s:Da}{d b:Addr}{xs:NEs K}{k:K}{A:GT}
def key_is (I:Inv X pins σ H s)(q:Den X.K H (.ref b) (a.toD k)):(kd a hd X.prog X.w).is s.heap k b:=a.den I q rfl
def x4 (I:Inv X pins σ H s)(D:iC a hd X.prog X.w X.K H d xs):(d==N9)=false/\s.heap.DictOfH (kd a hd X.prog X.w) d xs:=by obtain⟨⟨h0,o,es,ep,h1,h2,h3,h4,h5⟩,_⟩:=(show bL X.prog X.w H s.heap d (dNk a hd X.prog X.w d xs) from I.hok d _ D.at_);exact⟨h0,o,es,ep,h1,h2,h3,h4,λx hx=>key_is I (D.key x hx),h5⟩
def GL (a:KD K)(hd:a.dep<=7)(P:FB)(w:World)(F:fw)(td ty:TE):TE:=λσ H Q=>td σ H λx H1=>ty σ H1 λy H2=>∃d b k xs p v,x=.ref d/\y=.ref b/\iC a hd P w F H2 d xs/\Den F H2 (.ref b) (a.toD k)/\atKey xs k=some p/\RelV v p.2/\Q v H2
def Gm (a:KD K)(hd:a.dep<=7)(P:FB)(w:World)(F:fw)(td ty tv:TE):TS:=λD σ H=>tv σ H λv H1=>td σ H1 λx H2=>ty σ H2 λy H3=>∃d b k xs,x=.ref d/\y=.ref b/\iC a hd P w F H3 d xs/\Den F H3 (.ref b) (a.toD k)/\xs.length<=sizeLine/\∀u,RelV v u->D.nx σ (upd H3 d (dNk a hd P w d (storedH xs k b u)))
def Gb (a:KD K)(hd:a.dep<=7)(P:FB)(w:World):TE:=λ_ H Q=>∀p,H p=none->Q (.ref p) (upd H p (dNk a hd P w p []))
variable {o i value:Expr}{pos pos':Pos}{td ty tv:TE}
def jK (hu:X.A.units+16<cLine)(ho:PE X o td)(hi:PE X i ty)(hs:ny i):PE X (.Subscript o i pos) (GL a hd X.prog X.w X.K td ty):=by intro pins s σ H Q I h;refine pZ PySem.F.slot_dict_getitem.lookup hs (thn (ho pins s σ H _ I h) λu s1 ⟨x,H1,I1,rx,q1⟩=>thn (hi pins s1 σ H1 _ I1 q1) λiv s2 ⟨y,H2,I2,ry,d,b,k,xs,p,v,ex,ey,D,g,hp,rv,q2⟩=>?_);subst ex ey;obtain rfl:u=IT d:=rx;obtain rfl:iv=IT b:=ry;obtain⟨_,dd⟩:=x4 I2 D;exact⟨dd.typeIs,wpAny_getItem_heap (show X.A.units+1+8<cLine by omega) (key_is I2 g) dd hp ⟨v,H2,I2.tok _,rv,q2⟩⟩
def pU (hu:X.A.units+16<cLine)(ho:PE X o td)(hi:PE X i ty)(hv:PE X value tv)(hs:N1 value (some (.Subscript o i pos')) pos.line X.env=pure false):
   PS X (.Assign [.Subscript o i pos'] value pos) (Gm a hd X.prog X.w X.K td ty tv):=by
 intro pins s σ H D I h;refine wpAny_Assign_Subscript (thn (hv pins s σ H _ I h) λr s1 ⟨v,H1,I1,rv,q1⟩=>thn (ho pins s1 σ H1 _ I1 q1) λu s2 ⟨x,H2,I2,rx,q2⟩=>thn (hi pins s2 σ H2 _ I2 q2) λiv s3 ⟨y,H3,I3,ry,d,b,k,xs,ex,ey,D',g,hl,q3⟩=>?_) hs;subst ex ey;obtain rfl:u=IT d:=rx;obtain rfl:iv=IT b:=ry;obtain⟨hd',dd⟩:=x4 I3 D';refine wpAny_setItem_heap (hsz:=hl) (show X.A.units+1+8<cLine by omega) (key_is I3 g) dd λh' dd' hs=>⟨σ,_,?_,q3 r rv⟩;obtain⟨q,es,ep,hq,h2,h3,h4,_,h5⟩:=dd';refine gh I3 (by rw[D'.at_]; exact J6) hs ⟨q,hq⟩ ⟨⟨hd',q,es,ep,hq,h2,h3,h4,h5⟩,⟨q,hq⟩,λa1 a2 ⟨z0,o,es,ep,z1,z2⟩ hk=>⟨z0,o,es,ep,hk o z1,z2⟩⟩
def pV:PE X (.Dict [] [] pos) (Gb a hd X.prog X.w):=λpins s σ H Q I h=>
 wpAny_Dict_empty ⟨.ref s.heap.objs.size,_,I.laid (a:=s.heap.objs.size) (o:=dNk a hd X.prog X.w s.heap.objs.size []) (t':=s.toks) (λ_ _ q=>pq _ q) .(3)
   ⟨⟨beq_eq_false_iff_ne.mpr (Je (IL I.big)),_,#[],0,Ib _ rfl,⟨rfl,rfl,rfl⟩,rfl,rfl,Kd⟩,⟨_,Ib _ rfl⟩,λa1 a2 ⟨z0,o,es,ep,z1,z2⟩ hk=>⟨z0,o,es,ep,hk o z1,z2⟩⟩,rfl,h _ (I.hok.fresh .(3))⟩
end
end Ev
namespace Hy
open PySem PySem.Spec PyProof.Rows L2
open Ev (D Den aw KD NEs dNk iC)
section
variable {K:Type}[DecidableEq K]
inductive EnK (a:KD K)(F:fw)(G:Hp):NEs K->List (K×D)->Prop where
 | nil:EnK a F G [] []
 | cons {k:K} {b:Addr} {u:Value} {v:V} {x:D} {xs:NEs K} {m:List (K×D)} (hk:Den F G (.ref b) (a.toD k)) (hr:RelV v u) (hv:Den F G v x) (r:EnK a F G xs m):EnK a F G ((k,b,u)::xs) ((k,x)::m)
variable {a:KD K}{F:fw}{G G':Hp}
def EnK.mono (e:ao G G'):∀{xs:NEs K} {m:List (K×D)},EnK a F G xs m->EnK a F G' xs m
 | _,_,.nil=>.nil
 | _,_,.cons h1 h2 h3 r=>.cons (h1.mono e) h2 (h3.mono e) (r.mono e)
def EnK.length:∀{xs:NEs K} {m:List (K×D)},EnK a F G xs m->xs.length=m.length
 | _,_,.nil=>rfl
 | _,_,.cons _ _ _ r=>congrArg (·+1) r.length
theorem EnK.key:∀{xs:NEs K} {m:List (K×D)},EnK a F G xs m->∀x∈xs,Den F G (.ref x.2.1) (a.toD x.1)
 | _,_,.nil,_,h=>nomatch h
 | _,_,.cons h _ _ r,x,hx=>(HZ.mp hx).elim (λz=>z▸h) (r.key x)
noncomputable def getM (m:List (K×D))(k:K):Option D:=(m.find? λx=>decide (x.1=k)).map (·.2)
noncomputable def er (m:List (K×D))(k:K)(x:D):List (K×D):=if (getM m k).isSome then m.map λy=>if y.1=k then (y.1,x) else y else m++[(k,x)]
theorem EnK.at:∀{xs:NEs K} {m:List (K×D)},EnK a F G xs m->∀k,match getM m k with
   | none=>atKey xs k=none
   | some x=>∃p v,atKey xs k=some p/\RelV v p.2/\Den F G v x
 | _,_,.nil,_=>rfl
 | _,_,.cons (k:=k') (x:=y) (m:=m) (xs:=xs) h1 h2 h3 r,k=>by
   have ih:=r.at k;unfold getM atKey at *
   by_cases e:k'=k
   . simp only[JU,e,decide_true,JK];exact⟨_,_,rfl,h2,h3⟩
   . simp only[JU,e,decide_false];exact ih
def EnK.isSome (h:EnK a F G xs m)(k:K):(atKey xs k).isSome=(getM m k).isSome:=by
 have:=h.at k;cases e:getM m k with
 | none=>rw[e]at this; simp only at this; rw[this]; rfl
 | some x=>rw[e]at this; obtain⟨p,v,h1,_⟩:=this; rw[h1]; rfl
theorem EnK.snoc (h1:Den F G (.ref b) (a.toD k))(h2:RelV v u)(h3:Den F G v x):∀{xs:NEs K} {m:List (K×D)},EnK a F G xs m->EnK a F G (xs++[(k,b,u)]) (m++[(k,x)])
 | _,_,.nil=>.cons h1 h2 h3 .nil
 | _,_,.cons g1 g2 g3 r=>.cons g1 g2 g3 (r.snoc h1 h2 h3)
theorem EnK.over (h2:RelV v u)(h3:Den F G v x):∀{xs:NEs K} {m:List (K×D)},EnK a F G xs m->EnK a F G (xs.map (putAt k u)) (m.map λy=>if y.1=k then (y.1,x) else y)
 | _,_,.nil=>.nil
 | _,_,.cons (k:=k') g1 g2 g3 r=>by
   rw[IJ,IJ];unfold putAt;by_cases e:k'=k
   . simp only[e,if_true];rw[e]at g1;exact .cons g1 h2 h3 (r.over h2 h3)
   . simp only[e,if_false];exact .cons g1 g2 g3 (r.over h2 h3)
def EnK.put (h:EnK a F G xs m)(h1:Den F G (.ref b) (a.toD k))(h2:RelV v u)(h3:Den F G v x):EnK a F G (storedH xs k b u) (er m k x):=by
 unfold storedH er;rw[h.isSome k];split
 . exact h.over h2 h3
 . exact h.snoc h1 h2 h3
noncomputable def exK (a:KD K)(hd:a.dep<=7)(P:FB)(w:World)(m:List (K×D)):Ex where
 p:=λF G o p=>∃xs,o=dNk a hd P w p xs/\EnK a F G xs m
 mono:=λe ⟨xs,h1,h2⟩=>⟨xs,h1,h2.mono e⟩
 ext:=λ⟨xs,h1,_⟩=>.inl ⟨_,h1⟩
end
end Hy
namespace Hy
open PySem PySem.Spec PyProof.Rows L2
open Ev (D Den aw KD NEs dNk iC aq jK pV pU)
section
variable {K:Type}[DecidableEq K]{a:KD K}{hd:a.dep<=7}{X:Cx}{C:Bool}{τ:List Sl}{x:D}{b ix:Expr}{pos p q:Pos}{k:Nat}{N:Po}{m:List (K×D)}{key:K}
def tW:PE X (.Dict [] [] pos) (dE X.K C τ (.x (exK a hd X.prog X.w []))):=peW pV λσ H Q ⟨A,H₀,B,S,k⟩=>λp hp=>k (.ref p) _ [p] (aq hp _) (λb hb=>by rw[gV.mp hb]; exact⟨hp,_,aN⟩) ⟨p,_,rfl,rfl,aN,[],rfl,.nil⟩
def Sta.dct (S:Sta F A H₀ τ B σ H)(hi:τ[i]?=some (.x (exK a hd P w m))):∃d xs,(σ[i]?).join=some (.ref d)/\B i=[d]/\H d=some (dNk a hd P w d xs)/\EnK a F (Hy.hd H (own A B)) xs m:=by obtain⟨d,o,h1,h2,h3,xs,rfl,h5⟩:=S.sl i _ hi;exact⟨d,xs,h2,h1,h3,h5⟩
def sk (i:Nat){n:Str}(hu:X.A.units+16<cLine)(hi:τ[i]?=some (.x (exK a hd X.prog X.w m)))(hk:PE X ix (dE X.K false τ (.d (a.toD key))))(hx:getM m key=some x)(hr:∀H v,Den X.K H v (a.toD key)->∃b,v=.ref b)(hs:ny ix)(hN:X.N[i]?=some n:=by rfl)
   (hv:Vis X.env.scope n:=by first | exact Ka rfl | exact Ji .(10) | exact Ji .(9)) (hd1:(n==("__debug__" : Str))=false:=by decide) (hcd:(n==("__classdict__" : Str))=false:=by decide):PE X (.Subscript (.Name n p) ix pos) (dE X.K C τ (.d x)):=
 peW (jK (a:=a) (hd:=hd) hu (bw (i:=i) hN hv hd1 hcd) hk hs) λσ H Q q=>by obtain⟨A,H₀,B,S,kk⟩:=dj q;obtain⟨d,xs,e1,e2,e3,e4⟩:=S.dct hi;refine⟨_,slot_of e1,aV S λy H2 e5 dy=>?_⟩;obtain⟨b,rfl⟩:=hr _ _ dy;have S2:=S.mono e5;obtain⟨d',xs',g1,g2,g3,g4⟩:=S2.dct hi;rw[e1]at g1;cases g1;have:=g4.at key;rw[hx]at this;obtain⟨pp,v,h1,h2,h3⟩:=this;exact⟨d,b,key,xs',pp,v,rfl,rfl,⟨g3,λz hz=>(g4.key z hz).mono aT⟩,dy.mono aT,h1,h2,kk v H2 e5 (h3.mono (aD .(102) λ_ z=>iZ z))⟩
end
section
variable {K:fw}{A:Addr->Prop}{H₀ H:Hp}{τ:List Sl}{B:Nat->List Addr}{σ:L2.St}
def Sta.AA (S:Sta K A H₀ τ B σ H)(hi:τ[i]?=some (.x E))(hB:B i=[a])(d:E'.p K .(138) o' a):Sta K A H₀ (τ.set i (.x E')) B σ (upd H a o'):=by
 have ha:own A B a:=.inr ⟨i,by rw[hB]; exact gV.mpr rfl⟩;have ne:∀b,b≠a->upd H a o' b=H b:=λb h=>aF h;have sm:ao .(138) (hd (upd H a o') (own A B)):=λb o z=>by obtain⟨z1,z2⟩:=ar.mp z;exact ar.mpr ⟨z1,by rw[ne b (λe=>z1 (e▸ha))]; exact z2⟩
 have f0:H₀ a=none:=S.fr i a (by rw[hB]; exact gV.mpr rfl);have hs:ao H₀ (upd H a o'):=λb o z=>by rw[ne b (λe=>by rw[e,f0]at z; cases z)]; exact S.same b o z
 refine⟨hs,by rw[Iz,S.len],λj t hj=>?_,S.fr,S.uq,S.ad,λj b hb=>?_⟩
 . by_cases ej:j=i
   . subst ej;have hl:=(tf.mp hi).1;rw[IH hl]at hj;cases hj;obtain⟨a',o,e1,e2,_,_⟩:=S.sl j _ hi;rw[hB]at e1;cases e1;exact⟨a,o',hB,e2,aN,E'.mono sm d⟩
   . rw[Ik (λz=>ej z.symm)]at hj;have off:∀b∈B j,b≠a:=λb hb e=>ej (S.uq j i a (e▸hb) (by rw[hB]; exact gV.mpr rfl));have q:=S.sl j t hj;cases t with
     | un=>exact q
     | d x=>obtain⟨z,u,e,d⟩:=q; exact⟨z,u,e,d.mono sm⟩
     | o zs=>obtain⟨c,ws,z1,z2,z3,z4⟩:=q;exact⟨c,ws,z1,z2,by rw[ne c (off c (by rw[z1]; exact gV.mpr rfl))]; exact z3,z4.mono sm⟩
     | n t=>obtain⟨z0,u,z1,z2⟩:=q;exact⟨z0,u,z1,z2.frame sm λb hb=>ne b (off b hb)⟩
     | x E=>obtain⟨c,o,z1,z2,z3,z4⟩:=q;exact⟨c,o,z1,z2,by rw[ne c (off c (by rw[z1]; exact gV.mpr rfl))]; exact z3,E.mono sm z4⟩
 . by_cases e:b=a
   . subst e; exact⟨_,aN⟩
   . rw[ne b e]; exact S.bd j b hb
end
section
variable {K:Type}[DecidableEq K]{a:KD K}{hd:a.dep<=7}{X:Cx}{τ:List Sl}{x:D}{b e ix:Expr}{pos p sp:Pos}{N:Po}{rest:List Stmt}{m:List (K×D)}{key:K}
def pQ (i:Nat){n:Str}(hu:X.A.units+16<cLine)(hi:τ[i]?=some (.x (exK a hd X.prog X.w m)))(hk:PE X ix (dE X.K true τ (.d (a.toD key))))(he:PE X e (dE X.K true τ (.d x)))(hl:m.length<=sizeLine)(hr:∀H v,Den X.K H v (a.toD key)->∃b,v=.ref b)
   (hn:PSs X rest (dS X.K (τ.set i (.x (exK a hd X.prog X.w (er m key x)))) N)) (hN:X.N[i]?=some n:=by rfl)
   (hv:Vis X.env.scope n:=by first | exact Ka rfl | exact Ji .(10) | exact Ji .(9)) (hd1:(n==("__debug__" : Str))=false:=by decide) (hcd:(n==("__classdict__" : Str))=false:=by decide)
   (hs:N1 e (some (.Subscript .(108) ix sp)) pos.line X.env=pure false:=by rfl):PSs X (.Assign [.Subscript .(108) ix sp] e pos::rest) .(114):=
 bB (M:=(·=τ.set i (.x (exK a hd X.prog X.w (er m key x))))) (psW (pU (a:=a) (hd:=hd) hu (bw (i:=i) hN hv hd1 hcd) hk he hs) λD σ H ⟨A,H₀,B,S,Me⟩=>aV S λv H1 e1 d1=>by
   have S1:=S.mono e1;obtain⟨d,xs,g1,_⟩:=S1.dct hi;refine⟨_,slot_of g1,aV S1 λy H2 e2 dy=>?_⟩;obtain⟨b,rfl⟩:=hr _ _ dy;have S2:=S1.mono e2;obtain⟨d',xs',h1,h2,h3,h4⟩:=S2.dct hi;rw[g1]at h1;cases h1;have d1':=d1.mono (aD e2 λ_ z=>z);exact⟨d,b,key,xs',rfl,rfl,⟨h3,λz hz=>(h4.key z hz).mono aT⟩,dy.mono aT,by rw[h4.length]; exact hl,λu hu=>Me.nx _ _ _ _ rfl (S2.AA hi h2 ⟨_,rfl,h4.put dy hu d1'⟩)⟩) λ_ e=>e▸hn
end
end Hy
namespace Hy
open PySem PySem.Spec PyProof.Rows L2
open Ev (D Den aw Bx aq cO Itk xn qt Itd iDn BY)
noncomputable def gz (kv:List (Int×Int))(k v:Int):List (Int×Int):=if (kv.any λp=>decide (p.1=k))=true then kv.map (λp=>if p.1=k then (p.1,v) else p) else kv++[(k,v)]
noncomputable def bS (kv:List (Int×Int))(k:Int):Option Int:=(kv.find? λp=>decide (p.1=k)).map (·.2)
def BK (kv:List (Int×Int))(k:Int):((cO kv).any λp=>decide (p.1=.inl k))=kv.any λp=>decide (p.1=k):=by unfold cO;rw[List.any_map];congr 1;funext p;simp
def u4 (kv:List (Int×Int))(k v:Int):putK (cO kv) (.inl k) (.int v)=cO (gz kv k v):=by
 unfold putK gz;rw[BK];by_cases h:(kv.any λp=>decide (p.1=k))=true
 . rw[if_pos h,if_pos h];unfold cO;rw[IC,IC];refine ID λp _=>?_;simp only[Kz];by_cases z:p.1=k
   . rw[if_pos (congrArg KO z),if_pos z]
   . rw[if_neg (λy=>z (MC y)),if_neg z]
 . rw[if_neg h,if_neg h];unfold cO;rw[Ia];rfl
theorem jq:∀(kv:List (Int×Int)) (k:Int),gf (cO kv) (.inl k)=(bS kv k).map V.int
 | [],_=>rfl
 | p::r,k=>by
   unfold bS;by_cases z:p.1=k
   . rw[LQ (by simp[z])];exact b8 (p:=(KO p.1,V.int p.2)) (congrArg KO z)
   . rw[LR (by simp[z])];exact(b7 (p:=(KO p.1,V.int p.2)) (λy=>z (MC y))).trans (jq r k)
def BB (kv:List (Int×Int))(k v:Int):(gz kv k v).length<=kv.length+1:=by
 unfold gz;split
 . rw[bp]; omega
 . rw[rp,Ja,L4]; omega
noncomputable def exZ (m:List (Int×Int)):Ex where
 p:=λ_ _ o _=>o=.dK (cO m)
 mono:=λ_ h=>h
 ext:=λh=>.inr (.inr ⟨_,.inl h⟩)
noncomputable def exF (ob:Obj)(m:List (Int×Int)):Ex where
 p:=λ_ _ o _=>o=.frz ob (.dK (cO m))
 mono:=λ_ h=>h
 ext:=λh=>.inr (.inr ⟨_,.inr ⟨_,h⟩⟩)
noncomputable def bxZ (m:List (Int×Int)):Bx where
 p:=λ_ H d=>∃o,H d=some (.frz o (.dK (cO m)))
 mono:=λe ⟨o,h⟩=>⟨o,e _ _ h⟩
 isd:=λ⟨o,h⟩=>⟨_,h,λP w H' h z=>by
   obtain⟨_,_,_,vs,_,ob,_,_,z1,z2,_⟩:=z;exact⟨ob,z1,z2.1⟩⟩
section
variable {K:fw}{A:Addr->Prop}{H₀ H:Hp}{τ:List Sl}{B:Nat->List Addr}{σ:L2.St}{m:List (Int×Int)}{i:Nat}
def Sta.dz (S:Sta K A H₀ τ B σ H)(hi:τ[i]?=some (.x (exZ m))):∃d,(σ[i]?).join=some (.ref d)/\B i=[d]/\H d=some (.dK (cO m)):=by obtain⟨d,o,h1,h2,h3,h4⟩:=S.sl i _ hi;cases (show o=_ from h4);exact⟨d,h2,h1,h3⟩
def Sta.fzF (S:Sta K A H₀ τ B σ H)(hi:τ[i]?=some (.x (exF ob m))):Sta K A H₀ (τ.set i (.d (.box (bxZ m)))) (upB B i []) σ H:=S.less (λ_ z=>nomatch z) λG g hv=>by obtain⟨d,o,h1,h2,h3,h4⟩:=S.sl i _ hi;cases (show o=_ from h4);exact⟨rfl,_,h2,.box ⟨ob,hv d _ (by rw[h1]; exact gV.mpr rfl) (λz=>nomatch z) h3⟩⟩
end
section
variable {X:Cx}{C:Bool}{τ:List Sl}{x:D}{a b e f o ix tg:Expr}{pos p q apos cpos sp:Pos}{k:Nat}{N:Po}{rest:List Stmt}{m:List (Int×Int)}{key v n:Int}
def gc {xs:List D}{n:Nat}(h:xs.length=n):gx X (.builtin "len") [.lst xs] (.d (.int n)):=h▸kr
def dt {n:Str}:ny .(108):=λ_ _=>rfl
def xk :ny (.BinOp a op b p):=λ_ _=>rfl
def EY:PE X (.Dict [] [] pos) (dE X.K C τ (.x (exZ []))):=peW y3 λσ H Q ⟨A,H₀,B,S,k⟩=>λp hp=>k (.ref p) _ [p] (aq hp _) (λb hb=>by rw[gV.mp hb]; exact⟨hp,_,aN⟩) ⟨p,_,rfl,rfl,aN,rfl⟩
def Ew :PE X (.Dict [some (.Constant (.int key) j p)] [.Constant (.int v) l q] pos) (dE X.K C τ (.x (exZ [(key,v)]))):=peW (BH (zI sW sW Bw) rfl rfl .(4) (by show (1:Nat)<=15; decide)) λσ H Q ⟨A,H₀,B,S,k⟩=>λp hp=>by
 refine⟨aN,[(.inl key,.int v)],rfl,(by show (1:Nat)<=15; decide),?_⟩;have e:upd (upd H p (.dK [])) p (.dK (jO [] [(KO key,V.int v)]))=upd H p (.dK (cO [(key,v)])):=by funext b;unfold upd;split <;> rfl
 rw[e];exact k (.ref p) _ [p] (aq hp _) (λb hb=>by rw[gV.mp hb]; exact⟨hp,_,aN⟩) ⟨p,_,rfl,rfl,aN,rfl⟩
def GU (i:Nat)(h:PSs X rest (dS X.K (τ.set i (.d (.box (bxZ m)))) N))(hi:τ[i]?=some (.x (exZ m)):=by rfl):PSs X rest .(114):=by intro pins s σ H D I ⟨A,H₀,B,S,Me⟩;obtain⟨d,h1,h2,h3⟩:=S.dz hi;obtain⟨z,hd,vs,rel,dd⟩:=vo I.hok h3;obtain⟨o,es,ep,e,r⟩:=id dd;have I2:Inv X pins σ (upd H d (.frz o (.dK (cO m)))) s:=gh (t':=s.toks) (h':=s.heap) I (by rw[h3]; exact J6) (.refl _ _) ⟨o,e⟩ ⟨e,qb z hd rel dd⟩;have hl:=(tf.mp hi).1;have S2:=S.AA (E':=exF o m) hi h2 rfl;have S3:=S2.fzF (ob:=o) (m:=m) (IH hl);rw[List.set_set]at S3;exact h pins s σ _ D I2 ⟨A,H₀,_,S3,Me⟩
def xU (hu:X.A.units+1<cLine)(hb:PE X b (dE X.K C τ (.d (.box (bxZ m)))))(hk:PE X ix (dE X.K C τ (.d (.int key))))(hx:bS m key=some v)(hs:ny ix):PE X (.Subscript b ix pos) (dE X.K C τ (.d (.int v))):=
 peW (BC hu hb hk hs) λσ H Q q=>by
   obtain⟨A,H₀,B,S,kk⟩:=dj q;refine aV S λu H1 e1 d1=>aV .(129) λy H2 e2 dy=>?_;cases dy;cases d1.mono (aD e2 λ_ z=>z) with
   | box h=>obtain⟨o,g⟩:=h;exact⟨_,.int v,rfl,⟨_,.inl key,.inr ⟨o,aT _ _ g⟩,rfl,by rw[jq,hx]; rfl⟩,kk _ H2 (e1.trans e2) .int⟩
def BL (i:Nat){nm:Str}(hu:X.A.units+1<cLine)(hi:τ[i]?=some (.x (exZ m)))(hk:PE X e (dE X.K false τ (.d (.int key))))(hx:PE X f (dE X.K false τ (.d (.int v))))(m2:M2 X (.Name nm p) "get" apos e f cpos:=by exact⟨rfl,rfl,rfl,rfl⟩)(hN:X.N[i]?=some nm:=by rfl)
   (hv:Vis X.env.scope nm:=by first | exact Ka rfl | exact Ji .(10) | exact Ji .(9)) (hd1:(nm==("__debug__" : Str))=false:=by decide) (hcd:(nm==("__classdict__" : Str))=false:=by decide):PE X (.Call (.Attribute (.Name nm p) "get" apos) [e,f] [] cpos) (dE X.K C τ (.d (.int ((bS m key).getD v)))):=
 peW (xX hu (bw (i:=i) hN hv hd1 hcd) hk hx m2) λσ H Q q=>by
   obtain⟨A,H₀,B,S,kk⟩:=dj q;obtain⟨d,h1,h2,h3⟩:=S.dz hi;refine⟨_,slot_of h1,d,rfl,⟨_,.inl h3⟩,aV S λy H2 e2 dy=>aV (S.mono e2) λz H3 e3 dz=>?_⟩;cases dy;cases dz;refine⟨_,⟨_,.inl key,.inl ((e2.trans e3) _ _ h3),rfl,rfl⟩,?_⟩;have e:(gf (cO m) (.inl key)).getD (.int v)=V.int ((bS m key).getD v):=by rw[jq]; cases bS m key <;> rfl
   rw[e];exact kk _ H3 (e2.trans e3) .int
def ED (i:Nat){nm:Str}(hu:X.A.units+1<cLine)(hi:τ[i]?=some (.x (exZ m)))(hk:PE X ix (dE X.K true τ (.d (.int key))))(he:PE X e (dE X.K true τ (.d (.int v))))(hl:m.length<sizeLine)
   (hn:PSs X rest (dS X.K (τ.set i (.x (exZ (gz m key v)))) N)) (hN:X.N[i]?=some nm:=by rfl)
   (hv:Vis X.env.scope nm:=by first | exact Ka rfl | exact Ji .(10) | exact Ji .(9)) (hd1:(nm==("__debug__" : Str))=false:=by decide) (hcd:(nm==("__classdict__" : Str))=false:=by decide)
   (hs:N1 e (some (.Subscript (.Name nm p) ix sp)) pos.line X.env=pure false:=by rfl):PSs X (.Assign [.Subscript (.Name nm p) ix sp] e pos::rest) .(114):=
 bB (M:=(·=τ.set i (.x (exZ (gz m key v))))) (psW (AU hu (bw (i:=i) hN hv hd1 hcd) hk he hs) λD σ H ⟨A,H₀,B,S,Me⟩=>aV S λu H1 e1 d1=>by
   cases d1;have S1:=S.mono e1;obtain⟨d,g1,_⟩:=S1.dz hi;refine⟨_,slot_of g1,aV S1 λy H2 e2 dy=>?_⟩;cases dy;have S2:=S1.mono e2;obtain⟨d',h1,h2,h3⟩:=S2.dz hi;rw[g1]at h1;cases h1;refine⟨d,_,rfl,⟨_,.inl key,h3,rfl,by unfold cO; rw[bp]; exact hl,rfl⟩,?_⟩;rw[u4];exact Me.nx _ _ _ _ rfl (S2.AA hi h2 rfl)) λ_ e=>e▸hn
def vQ (h:PE X e (dE X.K true τ (.d (.box (bxZ m)))))(hc:X.calm=true:=by first | rfl | assumption):PI X tg e (dI X.K τ (m.map λp=>.int p.1)):=piW (qt hc h) λσ H R ⟨A,H₀,B,S,k⟩=>aV S λv H1 e1 d1=>by
 cases d1 with
 | box h=>
   obtain⟨o,g⟩:=h;refine⟨_,o,m,rfl,aT _ _ g,k _ H1 e1 λH2 sg=>⟨λi hi=>⟨by simpa using hi,sg _ _ g⟩,λi hi=>⟨⟨by simpa using hi,sg _ _ g⟩,λx H' ⟨eH,p,hp,ex⟩=>?_⟩⟩⟩;subst eH ex;refine⟨ao.refl _,λM _ _=>?_⟩;have hi':i<m.length:=by simpa using hi
   rw[ph hi']at hp;cases hp;rw[JG];exact .int
def A8 :∀i (h:i<(m.map λp=>D.int p.1).length),(m.map λp=>D.int p.1)[i]=.int (m.getD i (0,0)).1:=λi h=>by
 have:i<m.length:=by simpa using h
 simp[this]
noncomputable def dnD (n:Nat):List D:=(ox n).map λi:Nat=>.int ((n:Int)-1-(i:Int))
def jI (n:Nat):(dnD n).length=n:=by simp[dnD]
def HE {n:Nat}:∀i (h:i<(dnD n).length),(dnD n)[i]=.int ((n-1-i:Nat):Int):=λi h=>by rw[jI]at h;simp only[dnD,JG,Lp];congr 1;omega
def HQ {n:Nat}{p' pos':Pos}(B:Bk X k)(h:PE X a (dE X.K false τ (.d (.int n))))(hn:n<1000)(hg:Gl X "reversed":=by rfl)(hg':Gl X "range":=by rfl)(hs':Do [a] X.env=[.(121)]:=by rfl)
   (hs:Do [.Call (.Name "range" p') [a] [] pos'] X.env=[(false,eval (.Call (.Name "range" p') [a] [] pos') X.env)]:=by rfl):PI X tg (.Call (.Name "reversed" p) [.Call (.Name "range" p') [a] [] pos'] [] pos) (dI X.K τ (dnD n)):=
 piW (BY B.calm hg (B.blt _ .(2)) hg' (B.blt _ .(2)) (ae h ag hs') hs' hs) λσ H R ⟨A,H₀,B,S,k⟩=>fO S λvs H1 e1 d1=>by
   cases d1 with
   | cons d r=>cases r;cases d;refine⟨n,rfl,hn,k _ H1 e1 λH2 sg=>⟨λi hi=>by rw[jI]at hi; exact hi,λi hi=>⟨by rw[jI]at hi; exact hi,λx H' ⟨eH,ex⟩=>?_⟩⟩⟩;subst eH ex;refine⟨ao.refl _,λM _ _=>?_⟩;simp only[dnD,JG,Lp];exact .int
end
end Hy
namespace Hy
open PySem PySem.Spec PyProof.Rows L2
open Ev (D Den aw aq a5 aR)
noncomputable def cP:List Nat->Nd->Option Nd
 | [],t=>some t
 | i::p,.l xs=>(xs[i]?).bind (cP p)
 | i::p,.t xs=>(xs[i]?).bind (cP p)
 | _::_,.d _=>none
noncomputable def cy:List Nat->Nd->Nd->Nd
 | [],_,n=>n
 | i::p,.l xs,n=>.l (xs.set i (cy p (xs.getD i (.d .non)) n))
 | i::p,.t xs,n=>.t (xs.set i (cy p (xs.getD i (.d .non)) n))
 | _::_,.d x,_=>.d x
def cR (H:Hp):List Nat->V->V->Prop
 | [],u,v=>v=u
 | i::p,u,v=>∃a vs w,u=.ref a/\(H a=some (.lst vs)\/H a=some (.tup vs))/\vs[i]?=some w/\cR H p w v
theorem cR.mono (e:ao H H'):∀{p:List Nat} {u v:V},cR H p u v->cR H' p u v
 | [],_,_,h=>h
 | _::_,_,_,⟨a,vs,w,h1,h2,h3,h4⟩=>⟨a,vs,w,h1,h2.elim (λz=>.inl (e _ _ z)) (λz=>.inr (e _ _ z)),h3,h4.mono e⟩
theorem cR.snoc :∀{p:List Nat} {u:V},cR H p u (.ref a)->(H a=some (.lst vs)\/H a=some (.tup vs))->vs[i]?=some w->cR H (p++[i]) u w
 | [],_,h,h1,h2=>⟨a,vs,w,h.symm,h1,h2,rfl⟩
 | _::_,_,⟨b,us,x,z1,z2,z3,z4⟩,h1,h2=>⟨b,us,x,z1,z2,z3,z4.snoc h1 h2⟩
section
variable {K:fw}{G H:Hp}
def aW.length:∀{vs:List V} {bs:List Addr} {xs:List Nd},aW K G H vs bs xs->vs.length=xs.length
 | _,_,_,.nil=>rfl
 | _,_,_,.cons _ r=>congrArg (·+1) r.length
theorem aW.part:∀{vs:List V} {bs:List Addr} {xs:List Nd} {i:Nat} {c:Nd},aW K G H vs bs xs->xs[i]?=some c->∃v l m r,vs[i]?=some v/\bs=l++(m++r)/\cg K G H v m c /\
   ∀{G' H':Hp} {m':List Addr} {c':Nd},ao G G'->(∀b,b∈l\/b∈r->H' b=H b)->cg K G' H' v m' c'->aW K G' H' vs (l++(m'++r)) (xs.set i c')
 | _,_,_,_,_,.nil,e=>by cases e
 | _,_,_,0,_,.cons (b1:=b1) (b2:=b2) h r,e=>by cases e;exact⟨_,[],b1,b2,rfl,rfl,h,λg e h'=>by rw[List.nil_append]; exact .cons h' (r.frame g λb hb=>e b (.inr hb))⟩
 | _,_,_,i+1,c,.cons (b1:=b1) h r,e=>by obtain⟨v,l,m,q,h1,h2,h3,h4⟩:=aW.part (i:=i) (c:=c) r (by simpa using e);refine⟨v,b1++l,m,q,by simpa using h1,by rw[h2,IY],h3,λ{G' H' m' c'} g e h'=>?_⟩;rw[IY];exact .cons (h.frame g λb hb=>e b (.inl (Ie _ hb))) (h4 g (λb hb=>e b (hb.elim (λz=>.inl (x3 _ z)) .inr)) h')
theorem cg.focus:∀(p:List Nat) {u:V} {bs:List Addr} {t c:Nd},cg K G H u bs t->cP p t=some c->∃v l m r,cR H p u v/\bs=l++(m++r)/\cg K G H v m c /\
   ∀{G' H':Hp} {m':List Addr} {c':Nd},ao G G'->(∀b,b∈l\/b∈r->H' b=H b)->cg K G' H' v m' c'->cg K G' H' u (l++(m'++r)) (cy p t c')
 | [],u,bs,tr,c,h,e=>by cases e;exact⟨u,[],bs,[],rfl,by simp,h,λg _ h'=>by simpa[cy]using h'⟩
 | i::p,_,_,.l xs,c,.l (a:=a) (bs:=bs) hH r,e=>by
   rw[cP]at e;cases ei:xs[i]? with
   | none=>rw[ei]at e; cases e
   | some x=>rw[ei]at e;obtain⟨v,l,m,q,h1,h2,h3,h4⟩:=r.part ei;obtain⟨w,l',m',q',g1,g2,g3,g4⟩:=cg.focus p h3 e;refine⟨w,a::(l++l'),m',q'++q,⟨a,_,v,rfl,.inl hH,h1,g1⟩,by rw[h2,g2]; simp,g3,λ{G' H' m2 c2} g e2 h'=>?_⟩;have k1:=g4 g (λb hb=>e2 b (hb.elim (λz=>.inl (Et _ (x3 _ z))) λz=>.inr (Ie _ z))) h';have k2:=h4 g (λb hb=>e2 b (hb.elim (λz=>.inl (Et _ (Ie _ z))) λz=>.inr (x3 _ z))) k1;rw[cy,show xs.getD i (.d .non)=x by simp[LF,ei]];have k3:=cg.l (G:=G') (K:=K) (a:=a) (by rw[e2 a (.inl .(5))]; exact hH) k2;simpa using k3
 | i::p,_,_,.t xs,c,.t (a:=a) (bs:=bs) hH r,e=>by
   rw[cP]at e;cases ei:xs[i]? with
   | none=>rw[ei]at e; cases e
   | some x=>rw[ei]at e;obtain⟨v,l,m,q,h1,h2,h3,h4⟩:=r.part ei;obtain⟨w,l',m',q',g1,g2,g3,g4⟩:=cg.focus p h3 e;refine⟨w,a::(l++l'),m',q'++q,⟨a,_,v,rfl,.inr hH,h1,g1⟩,by rw[h2,g2]; simp,g3,λ{G' H' m2 c2} g e2 h'=>?_⟩;have k1:=g4 g (λb hb=>e2 b (hb.elim (λz=>.inl (Et _ (x3 _ z))) λz=>.inr (Ie _ z))) h';have k2:=h4 g (λb hb=>e2 b (hb.elim (λz=>.inl (Et _ (Ie _ z))) λz=>.inr (x3 _ z))) k1;rw[cy,show xs.getD i (.d .non)=x by simp[LF,ei]];have k3:=cg.t (G:=G') (K:=K) (a:=a) (by rw[e2 a (.inl .(5))]; exact hH) k2;simpa using k3
theorem cR.det:∀{p:List Nat} {u v w:V},cR H p u v->cR H p u w->v=w
 | [],_,_,_,h,h'=>h.trans h'.symm
 | _::_,_,_,_,⟨a,vs,x,h1,h2,h3,h4⟩,⟨b,us,y,g1,g2,g3,g4⟩=>by
   rw[h1]at g1;cases g1;have e:vs=us:=by rcases h2 with h2 | h2 <;> rcases g2 with g2 | g2 <;> rw[h2]at g2 <;> cases g2 <;> rfl
   subst e;rw[h3]at g3;cases g3;exact h4.det g4
def cI.frame (g:ao G G'):∀{s:Sl},(∀b∈bs,H' b=H b)->cI K G H v bs s->cI K G' H' v bs s
 | .un,_,h=>h
 | .d _,_,⟨h,u,e1,h2⟩=>⟨h,u,e1,h2.mono g⟩
 | .o _,e,⟨a,vs,h1,h2,h3,h4⟩=>⟨a,vs,h1,h2,by rw[e a (by rw[h1]; exact IF ..)]; exact h3,h4.mono g⟩
 | .n _,e,⟨h0,u,h1,h2⟩=>⟨h0,u,h1,h2.frame g e⟩
 | .x E,e,⟨a,o,h1,h2,h3,h4⟩=>⟨a,o,h1,h2,by rw[e a (by rw[h1]; exact IF ..)]; exact h3,E.mono g h4⟩
def tN {l r b0 b1:List Addr}(h:(l++((a::b0)++r)).Nodup)(h1:b1.Nodup)(hb:∀b∈b1,b∈b0\/(b∉l/\b≠a/\b∉r)):(l++((a::b1)++r)).Nodup:=by
 obtain⟨z1,z2,z3⟩:=Jj.mp h;rw[Jn]at z2;obtain⟨z4,z5⟩:=Jb.mp z2;obtain⟨z6,z7,z8⟩:=Jj.mp z5;refine Jj.mpr ⟨z1,?_,λx hx y hy=>?_⟩
 . rw[Jn];refine Jb.mpr ⟨λz=>?_,Jj.mpr ⟨h1,z7,λx hx y hy=>?_⟩⟩
   . rcases vp.mp z with z | z
     . rcases hb a z with q | q
       . exact z4 (Ie _ q)
       . exact q.2.1 rfl
     . exact z4 (x3 _ z)
   . rcases hb x hx with q | q
     . exact z8 x q y hy
     . exact λe=>q.2.2 (e▸hy)
 . rw[Jn]at hy;rcases HZ.mp hy with q | q
   . exact z3 x hx y (by rw[q]; exact Ie _ .(5))
   . rcases vp.mp q with q | q
     . rcases hb y q with q | q
       . exact z3 x hx y (Ie _ (Et _ q))
       . exact λe=>q.1 (e▸hx)
     . exact z3 x hx y (x3 _ q)
def Sta.putN (S:Sta K A H₀ τ B σ H)(hi:τ[i]?=some (.n t))(hp:cP p t=some (.l xs)):
   ∃u a vs bs0,(σ[i]?).join=some u/\cR H p u (.ref a)/\H a=some (.lst vs)/\aW K .(138) H vs bs0 xs/\bs0.Nodup/\own A B a/\(∀b∈bs0,own A B b/\b≠a) /\
     ∀{H1:Hp} {vs':List V} {bs1:List Addr} {xs':List Nd},ao H H1->bs1.Nodup->(∀b∈bs1,b∈bs0\/(H b=none/\∃o,H1 b=some o))->aW K (hd (upd H1 a (.lst vs')) λb=>own A B b\/b∈bs1) (upd H1 a (.lst vs')) vs' bs1 xs' ->
       ∃B',Sta K A H₀ (τ.set i (.n (cy p t (.l xs')))) B' σ (upd H1 a (.lst vs')):=by
 obtain⟨nd,u,eu,ok⟩:=S.sl i _ hi;obtain⟨v,l,m,r,pv,hbs,okc,back⟩:=ok.focus p hp;cases okc with
 | @l a vs bs0 _ hH r0=>
   have mem:∀b,b∈l\/b=a\/b∈bs0\/b∈r->b∈B i:=λb hb=>by
     rw[hbs];rcases hb with z | z | z | z
     . exact Ie _ z
     . exact x3 _ (by rw[z]; exact Ie _ .(5))
     . exact x3 _ (Ie _ (Et _ z))
     . exact x3 _ (x3 _ z)
   have nd':=nd;rw[hbs]at nd';obtain⟨n1,n2,n3⟩:=Jj.mp nd';rw[Jn]at n2;obtain⟨n4,n5⟩:=Jb.mp n2;obtain⟨n6,_,_⟩:=Jj.mp n5;have ha:own A B a:=.inr ⟨i,mem a (.inr (.inl rfl))⟩;refine⟨u,a,vs,bs0,eu,pv,hH,r0,n6,ha,λb hb=>⟨.inr ⟨i,mem b (.inr (.inr (.inl hb)))⟩,λz=>n4 (z▸Ie _ hb)⟩,λ{H1 vs' bs1 xs'} e h1 hb hx=>?_⟩;have keep:∀b o,b≠a->H b=some o->upd H1 a (.lst vs') b=H b:=λb o ne h=>by rw[aF ne,e _ _ h,h]
   have la:∀b,b∈l\/b∈r->b≠a:=λb hb z=>by
     rcases hb with q | q
     . exact n3 b q a (Ie _ .(5)) z
     . exact n4 (z▸x3 _ q)
   have fresh:∀b∈bs1,b∈bs0\/(b∉l/\b≠a/\b∉r):=λb hb1=>by
     rcases hb b hb1 with q | ⟨q,_⟩
     . exact .inl q
     . have no:∀c,c∈B i->b≠c:=λc hc z=>by obtain⟨o,hc⟩:=S.bd i c hc; rw[<- z,q]at hc; cases hc
       exact .inr ⟨λz=>no b (mem b (.inl z)) rfl,no a (mem a (.inr (.inl rfl))),λz=>no b (mem b (.inr (.inr (.inr z)))) rfl⟩
   have sub:∀b,own A (upB B i (l++((a::bs1)++r))) b->own A B b\/b∈bs1:=λb z=>by
     rcases z with z | ⟨j,z⟩
     . exact .inl (.inl z)
     . rcases bb z with ⟨_,z⟩ | ⟨_,z⟩
       . rcases vp.mp z with z | z
         . exact .inl (.inr ⟨i,mem b (.inl z)⟩)
         . rw[Jn]at z;rcases HZ.mp z with z | z
           . exact .inl (z▸ha)
           . rcases vp.mp z with z | z
             . exact .inr z
             . exact .inl (.inr ⟨i,mem b (.inr (.inr (.inr z)))⟩)
       . exact .inl (.inr ⟨j,z⟩)
   have sm:ao .(138) (hd (upd H1 a (.lst vs')) (own A (upB B i (l++((a::bs1)++r))))):=λb o z=>by
     obtain⟨z1,z2⟩:=ar.mp z;refine ar.mpr ⟨λy=>?_,by rw[keep b o (λq=>z1 (q▸ha)) z2]; exact z2⟩;rcases sub b y with y | y
     . exact z1 y
     . rcases hb b y with q | ⟨q,_⟩
       . exact z1 (.inr ⟨i,mem b (.inr (.inr (.inl q)))⟩)
       . rw[q]at z2; cases z2
   have hs:ao H₀ (upd H1 a (.lst vs')):=λb o z=>by have f0:=S.fr i a (mem a (.inr (.inl rfl)));rw[aF (λq=>by rw[q,f0]at z; cases z)];exact e _ _ (S.same _ _ z)
   refine⟨upB B i (l++((a::bs1)++r)),hs,by rw[Iz,S.len],λj s hj=>?_,λj b z=>?_,λj k b z1 z2=>?_,S.ad,λj b z=>?_⟩
   . by_cases ej:j=i
     . subst ej;have hl:=(tf.mp hi).1;rw[IH hl]at hj;cases hj;unfold upB;rw[if_pos rfl];refine⟨tN nd' h1 fresh,u,eu,back sm (λb hb=>?_) (.l aN (hx.frame (aD .(102) sub) λ_ _=>rfl))⟩;obtain⟨o,q⟩:=S.bd j b (mem b (hb.elim .inl λz=>.inr (.inr (.inr z))));exact keep b o (la b hb) q
     . rw[Ik (λz=>ej z.symm)]at hj;unfold upB;rw[if_neg ej];refine(S.sl j s hj).frame sm λb hb=>?_;obtain⟨o,q⟩:=S.bd j b hb;exact keep b o (λz=>ej (S.uq j i a (z▸hb) (mem a (.inr (.inl rfl))))) q
   . rcases bb z with ⟨_,z⟩ | ⟨_,z⟩
     . rcases sub b (.inr ⟨i,by unfold upB; rw[if_pos rfl]; exact z⟩) with y | y
       . rcases vp.mp z with z | z
         . exact S.fr i b (mem b (.inl z))
         . rw[Jn]at z;rcases HZ.mp z with z | z
           . exact S.fr i b (mem b (.inr (.inl z)))
           . rcases vp.mp z with z | z
             . rcases hb b z with q | ⟨q,_⟩
               . exact S.fr i b (mem b (.inr (.inr (.inl q))))
               . exact S.same.free q
             . exact S.fr i b (mem b (.inr (.inr (.inr z))))
       . rcases hb b y with q | ⟨q,_⟩
         . exact S.fr i b (mem b (.inr (.inr (.inl q))))
         . exact S.same.free q
     . exact S.fr j b z
   . have inB:∀{c},c∈l++((a::bs1)++r)->c∈B i\/H c=none:=λ{c} z=>by
       rcases vp.mp z with z | z
       . exact .inl (mem c (.inl z))
       . rw[Jn]at z;rcases HZ.mp z with z | z
         . exact .inl (mem c (.inr (.inl z)))
         . rcases vp.mp z with z | z
           . rcases hb c z with q | ⟨q,_⟩
             . exact .inl (mem c (.inr (.inr (.inl q))))
             . exact .inr q
           . exact .inl (mem c (.inr (.inr (.inr z))))
     have cross:∀{j},j≠i->b∈B j->b∈l++((a::bs1)++r)->False:=λ{j} nj y1 y2=>by
       rcases inB y2 with q | q
       . exact nj (S.uq j i b y1 q)
       . obtain⟨o,w⟩:=S.bd j b y1; rw[q]at w; cases w
     rcases bb z1 with ⟨e1,y1⟩ | ⟨e1,y1⟩ <;> rcases bb z2 with ⟨e2,y2⟩ | ⟨e2,y2⟩
     . exact e1.trans e2.symm
     . exact(cross e2 y2 y1).elim
     . exact(cross e1 y1 y2).elim
     . exact S.uq j k b y1 y2
   . rcases bb z with ⟨_,z⟩ | ⟨_,z⟩
     . by_cases e':b=a
       . exact⟨_,by rw[e']; exact aN⟩
       . rw[aF e'];have old:b∈B i->∃o,H1 b=some o:=λq=>let ⟨o,w⟩:=S.bd i b q; ⟨o,e _ _ w⟩
         rcases vp.mp z with z | z
         . exact old (mem b (.inl z))
         . rw[Jn]at z;rcases HZ.mp z with z | z
           . exact absurd z e'
           . rcases vp.mp z with z | z
             . rcases hb b z with q | ⟨_,q⟩
               . exact old (mem b (.inr (.inr (.inl q))))
               . exact q
             . exact old (mem b (.inr (.inr (.inr z))))
     . by_cases e':b=a
       . exact⟨_,by rw[e']; exact aN⟩
       . rw[aF e'];obtain⟨o,w⟩:=S.bd j b z;exact⟨o,e _ _ w⟩
end
def dP (K:fw)(τ:List Sl)(i:Nat)(p:List Nat):TE:=λσ H Q=>∃A H₀ B,Sta K A H₀ τ B σ H/\∀u v H',(σ[i]?).join=some u->ao H H'->cR H' p u v->Q v H'
noncomputable def so:Sl->Option Nd
 | .un=>none
 | .d x=>some (.d x)
 | .o xs=>some (.l (xs.map .d))
 | .n t=>some t
 | .x _=>none
section
variable {K:fw}{G H:Hp}
def k5:∀{vs:List V} {xs:List D},aw K G vs xs->aW K G H vs [] (xs.map .d)
 | _,_,.nil=>.nil
 | _,_,.cons h r=>.cons (b1:=[]) (b2:=[]) (.d h) (k5 r)
def cI.nd (h:cI K G H (some v) bs s)(e:so s=some c):cg K G H v bs c/\bs.Nodup:=by
 cases s with
 | un=>cases e
 | d x=>cases e; obtain⟨rfl,u,eu,d⟩:=h; cases eu; exact⟨.d d,Kd⟩
 | o xs=>cases e; obtain⟨a,vs,rfl,e2,h3,h4⟩:=h; cases e2; exact⟨.l h3 (k5 h4),by simp⟩
 | n t=>cases e; obtain⟨h0,u,eu,h2⟩:=h; cases eu; exact⟨h2,h0⟩
 | x E=>cases e
theorem aW.snoc (h:cg K G H v b2 c):∀{vs:List V} {bs:List Addr} {xs:List Nd},aW K G H vs bs xs->aW K G H (vs++[v]) (bs++b2) (xs++[c])
 | _,_,_,.nil=>by have:=aW.cons h .nil; rw[Jc]at this; exact this
 | _,_,_,.cons h1 r=>by rw[IY]; exact .cons h1 (aW.snoc h r)
def Sta.nd (S:Sta K A H₀ τ B σ H)(hi:τ[i]?=some s)(hc:so s=some c):Sta K A H₀ (τ.set i (.n c)) (upB B i (B i)) σ H:=
 S.less (λ_ z=>z) λG' g _=>by
   have q:=S.sl i s hi
   obtain⟨u,e⟩:∃u,(σ[i]?).join=some u:=by
     cases s with
     | un=>cases hc
     | d x=>obtain⟨_,u,e,_⟩:=q; exact⟨u,e⟩
     | o xs=>obtain⟨_,_,_,e,_⟩:=q; exact⟨_,e⟩
     | n t=>obtain⟨_,u,e,_⟩:=q; exact⟨u,e⟩
     | x E=>cases hc
   rw[e]at q ⊢;obtain⟨q1,q2⟩:=q.nd hc;exact⟨q2,u,rfl,q1.frame g λ_ _=>rfl⟩
end
section
variable {X:Cx}{C:Bool}{τ:List Sl}{x y z:D}{a b e o:Expr}{pos q:Pos}{k:Nat}{s:Sl}{N:Po}{rest:List Stmt}{i:Nat}{t c:Nd}{pt:List Nat}{xs:List Nd}{j:Int}{m:Nat}
def Ge (i:Nat){s:Sl}{c:Nd}(h:PSs X rest (dS X.K (τ.set i (.n c)) N))(hi:τ[i]?=some s:=by rfl)(hc:so s=some c:=by rfl):PSs X rest .(114):=gH h λD σ H ⟨A,H₀,B,S,Me⟩=>⟨A,H₀,_,S.nd hi hc,Me⟩
def cV (i:Nat){n:Str}{t:Nd}(h:τ[i]?=some (.n t):=by rfl)(hN:X.N[i]?=some n:=by rfl)(hv:Vis X.env.scope n:=by first | exact Ka rfl | exact Ji .(10) | exact Ji .(9))
   (hd:(n==("__debug__" : Str))=false:=by decide) (hcd:(n==("__classdict__" : Str))=false:=by decide):PE X (.Name n pos) (dP X.K τ i []):=peW (bw hN hv hd hcd) λσ H Q ⟨A,H₀,B,S,k⟩=>by
 obtain⟨_,u,e,_⟩:=S.sl i _ h;exact⟨u,slot_of e,k u u H e .(102) rfl⟩
def Sta.at {K:fw}{A:Addr->Prop}{τ:List Sl}{B:Nat->List Addr}{σ:L2.St}(S:Sta K A H₀ τ B σ H)(hi:τ[i]?=some (.n t))(hp:cP pt t=some c):∃u v m,(σ[i]?).join=some u/\cR H pt u v/\cg K .(138) H v m c/\∀b∈m,b∈B i:=by obtain⟨_,u,e,ok⟩:=S.sl i _ hi;obtain⟨v,l,m,r,h1,h2,h3,_⟩:=ok.focus pt hp;exact⟨u,v,m,e,h1,h3,λb hb=>by rw[h2]; exact x3 _ (Ie _ hb)⟩
def vW {K:fw}{vs:List V}(r:aW K G H vs bs xs)(hm:m<xs.length):∃v,vs[m]?=some v:=⟨vs[m]'(by rw[r.length]; exact hm),ph _⟩
def yg (h:ixN n j=some m):m<n:=by
 unfold ixN at h;split at h
 . split at h
   . cases h; omega
   . cases h
 . split at h
   . cases h; omega
   . cases h
def gW (ha:PE X a (dP X.K τ i pt))(hb:PE X b (dE X.K false τ (.d (.int j))))(hi:τ[i]?=some (.n t))(hp:cP pt t=some (.l xs))(hj:ixN xs.length j=some m)(hs:du b:=by exact λ_ _=>rfl):PE X (.Subscript a b pos) (dP X.K τ i (pt++[m])):=
 peW (uJ kK ha hb hs) λσ H Q ⟨A,H₀,B,S,k⟩=>⟨A,H₀,B,S,λu v H1 eu e1 pv=>aV .(129) λw H2 e2 d2=>by
   cases d2;obtain⟨u',v',m',eu',pv',ok,_⟩:=(.(129).mono e2).at hi hp;rw[eu]at eu';cases eu';obtain rfl:=(pv.mono e2).det pv';cases ok with
   | @l ad vs _ _ hH r=>
     obtain⟨x,hx⟩:=vW r (yg hj);exact⟨ad,vs,j,x,rfl,rfl,SqL.of hH,by unfold atI; rw[r.length,hj]; exact hx,k u x H2 eu (e1.trans e2) (pv'.snoc (.inl hH) hx)⟩⟩
def C5 (h:PE X e (dP X.K τ i pt))(hi:τ[i]?=some (.n t))(hp:cP pt t=some (.d x)):PE X e .(124):=peW h λσ H Q q=>by
 obtain⟨A,H₀,B,S,k⟩:=dj q;refine⟨A,H₀,B,S,λu v H1 eu e1 pv=>?_⟩;obtain⟨u',v',m',eu',pv',ok,_⟩:=.(129).at hi hp;rw[eu]at eu';cases eu';obtain rfl:=pv.det pv';cases ok with
 | d h=>exact k v H1 e1 (h.mono (aD .(102) λ_ z=>iZ z))
def zi (h:PE X e (dP X.K τ i pt))(hi:τ[i]?=some (.n t))(hp:cP pt t=some c):PE X e (dE X.K false τ (.d (ndD c))):=peW h λσ H Q q=>by obtain⟨A,H₀,B,S,k⟩:=dj q;refine⟨A,H₀,B,S,λu v H1 eu e1 pv=>?_⟩;obtain⟨u',v',m',eu',pv',ok,hm⟩:=.(129).at hi hp;rw[eu]at eu';cases eu';obtain rfl:=pv.det pv';exact k v H1 e1 (ok.den (aD .(102) λ_ z=>.inl z) λb hb o ho=>ar.mpr ⟨λz=>(by obtain⟨_,w⟩:=S.ad b z; rw[S.fr i b (hm b hb)]at w; cases w),ho⟩)
def EA {ap cp:Pos}(ho:PE X o (dP X.K τ i pt))(he:PE X e (dE X.K true τ s))(hi:τ[i]?=some (.n t))(hp:cP pt t=some (.l xs))(hc:so s=some c)(hl:xs.length<1000000)(hr:PSs X rest (dS X.K (τ.set i (.n (cy pt t (.l (xs++[c]))))) N))
   (hfew:((KF cp (Do [e] X.env)).all (λx=>!x.1)&&(NO cp (N8 [] X.env)).all (λx=>x.1.isSome)&&decide (([e]:List Expr).length+([]:List N6).length+(if ([]:List N6).isEmpty then 0 else 1)<30))=true:=by rfl)
   (hline:(ap.endLine==cp.line)=true:=by rfl) (hst:Do [e] X.env=.(113)::Do [] X.env:=by rfl) (hpl:(KF cp (Do [] X.env)).any (·.1)=false:=by rfl)
   (hs:N1 (.Call (.Attribute o "append" ap) [e] [] cp) none pos.line X.env=pure false:=by rfl) (hbase:N4 o "append" X.env (eval o X.env)=eval o X.env:=by rfl) :
   PSs X (.Expr (.Call (.Attribute o "append" ap) [e] [] cp) pos::rest) .(114):=
 bB (M:=(·=τ.set i (.n (cy pt t (.l (xs++[c])))))) (psW (dJ (jz Jf KJ Lm fK ho (bh he cw hst) hbase hfew hline hst hpl) hs) λD σ H ⟨A,H₀,B,S,Me⟩=>by
   refine⟨A,H₀,B,S,λu v H1 eu e1 pv=>?_⟩;have S1:=S.mono e1;obtain⟨u',l,vs,bs0,eu',pv',hH,r0,nd0,hal,hown,put⟩:=S1.putN hi hp;rw[eu]at eu';cases eu';obtain rfl:=pv.det pv';refine⟨.inl ⟨rfl,_,SqL.of hH⟩,A,H₀,B,S1,λw H2 bs e2 hf hw=>⟨l,vs,w,rfl,rfl,e2 _ _ hH,by rw[r0.length]; exact JA hl .(2),?_⟩⟩;obtain⟨nw,ndw⟩:=hw.nd hc;have off:∀b∈bs,b≠l:=λb hb z=>by rw[z]at hb; rw[(hf l hb).1]at hH; cases hH
   have sm:ao (hd H2 λb=>own A B b\/b∈bs) (hd (upd H2 l (.lst (vs++[w]))) λb=>own A B b\/b∈bs0++bs):=λb o z=>by
     obtain⟨z1,z2⟩:=ar.mp z;refine ar.mpr ⟨λy=>z1 ?_,by rw[aF (λy:b=l=>z1 (.inl (by rw[y]; exact hal)))]; exact z2⟩;rcases y with y | y
     . exact .inl y
     . exact(vp.mp y).elim (λz=>.inl (hown b z).1) .inr
   have sm0:ao (hd H1 (own A B)) (hd (upd H2 l (.lst (vs++[w]))) λb=>own A B b\/b∈bs0++bs):=λb o z=>by
     obtain⟨z1,z2⟩:=ar.mp z;refine ar.mpr ⟨λy=>?_,by rw[aF (λy:b=l=>z1 (by rw[y]; exact hal))]; exact e2 _ _ z2⟩;rcases y with y | y
     . exact z1 y
     . rcases vp.mp y with y | y
       . exact z1 (hown b y).1
       . rw[(hf b y).1]at z2; cases z2
   obtain⟨B',S'⟩:=put (H1:=H2) (vs':=vs++[w]) (bs1:=bs0++bs) (xs':=xs++[c]) e2 (Jj.mpr ⟨nd0,ndw,λx hx y hy z=>by
       obtain⟨o,q⟩:=r0.some_of x hx;rw[z,(hf y hy).1]at q; cases q⟩)
     (λb hb=>(vp.mp hb).elim .inl λz=>.inr (hf b z))
     (aW.snoc (nw.frame sm λb hb=>aF (off b hb)) (r0.frame sm0 λb hb=>by
       obtain⟨o,q⟩:=r0.some_of b hb;rw[aF (hown b hb).2,e2 _ _ q,q]))
   exact Me.nx _ B' _ _ rfl S') λ_ e=>e▸hr
end
end Hy
namespace Ev
open PySem PySem.Spec PyProof.Rows L2
noncomputable def bad:Str:=⟨#[0x110000]⟩
mutual
noncomputable def eqD:D->D->Bool
 | .non,.non=>true
 | .bl a,.bl b=>a==b
 | .bl a,.int j=>(if a then 1 else 0)==j
 | .int i,.bl b=>i==(if b then 1 else 0)
 | .int a,.int b=>a==b
 | .str a,.str b=>a==b
 | .tup xs,.tup ys=>gk xs ys
 | .lst xs,.lst ys=>gk xs ys
 | .box _,.box _=>true
 | .box _,.str b=>bad==b
 | .str a,.box _=>a==bad
 | .box _,.non | .box _,.bl _ | .box _,.int _ | .box _,.tup _ | .box _,.lst _=>false
 | .non,.box _ | .bl _,.box _ | .int _,.box _ | .tup _,.box _ | .lst _,.box _=>false
 | .non,.bl _ | .non,.int _ | .non,.str _ | .non,.tup _ | .non,.lst _=>false
 | .bl _,.non | .bl _,.str _ | .bl _,.tup _ | .bl _,.lst _=>false
 | .int _,.non | .int _,.str _ | .int _,.tup _ | .int _,.lst _=>false
 | .str _,.non | .str _,.bl _ | .str _,.int _ | .str _,.tup _ | .str _,.lst _=>false
 | .tup _,.non | .tup _,.bl _ | .tup _,.int _ | .tup _,.str _ | .tup _,.lst _=>false
 | .lst _,.non | .lst _,.bl _ | .lst _,.int _ | .lst _,.str _ | .lst _,.tup _=>false
noncomputable def gk:List D->List D->Bool
 | [],[]=>true
 | x::xs,y::ys=>eqD x y&&gk xs ys
 | [],_::_=>false
 | _::_,[]=>false
end
mutual
noncomputable def toP:D->PyData
 | .non=>.none
 | .bl b=>.bool b
 | .int i=>.int i
 | .str x=>.str x
 | .tup xs=>.tuple (iz xs)
 | .lst xs=>.list (iz xs)
 | .box _=>.str bad
noncomputable def iz:List D->List PyData
 | []=>[]
 | x::xs=>toP x::iz xs
end
mutual
noncomputable def cln:D->Bool
 | .str x=>PyData.strOk x
 | .tup xs=>bR xs
 | .lst xs=>bR xs
 | .box _=>false
 | .non | .bl _ | .int _=>true
noncomputable def bR:List D->Bool
 | []=>true
 | x::xs=>cln x&&bR xs
end
mutual
noncomputable def dep:D->Nat
 | .tup xs=>b6 xs+1
 | .lst xs=>b6 xs+1
 | .non | .bl _ | .int _ | .str _ | .box _=>0
noncomputable def b6:List D->Nat
 | []=>0
 | x::xs=>max (dep x) (b6 xs)
end
def cu (x:D):Prop:=cln x=true/\dep x<=64
noncomputable instance (x:D):Decidable (cu x):=inferInstanceAs (Decidable (_/\_))
mutual
theorem iw:∀x y:D,Jq (toP x) (toP y)=eqD x y
 | .non,y=>by cases y <;> simp[toP,Jq,eqD]
 | .bl a,y=>by cases y <;> simp[toP,Jq,eqD]
 | .int a,y=>by cases y <;> simp[toP,Jq,eqD]
 | .str a,y=>by cases y <;> simp[toP,Jq,eqD]
 | .tup xs,.tup ys=>by simp only[toP,Jq,eqD]; exact mN xs ys
 | .lst xs,.lst ys=>by simp only[toP,Jq,eqD]; exact mN xs ys
 | .tup xs,.non=>by simp[toP,Jq,eqD]
 | .tup xs,.bl _=>by simp[toP,Jq,eqD]
 | .tup xs,.int _=>by simp[toP,Jq,eqD]
 | .tup xs,.str _=>by simp[toP,Jq,eqD]
 | .tup xs,.lst _=>by simp[toP,Jq,eqD]
 | .lst xs,.non=>by simp[toP,Jq,eqD]
 | .lst xs,.bl _=>by simp[toP,Jq,eqD]
 | .lst xs,.int _=>by simp[toP,Jq,eqD]
 | .lst xs,.str _=>by simp[toP,Jq,eqD]
 | .lst xs,.tup _=>by simp[toP,Jq,eqD]
 | .tup xs,.box _=>by simp[toP,Jq,eqD]
 | .lst xs,.box _=>by simp[toP,Jq,eqD]
 | .box _,y=>by cases y <;> simp[toP,Jq,eqD]
theorem mN:∀xs ys:List D,LD (iz xs) (iz ys)=gk xs ys
 | [],[]=>by simp[iz,LD,gk]
 | [],_::_=>by simp[iz,LD,gk]
 | _::_,[]=>by simp[iz,LD,gk]
 | x::xs,y::ys=>by simp only[iz,LD,gk]; rw[iw x y,mN xs ys]
end
mutual
theorem jl:∀x:D,(toP x).canLay0=cln x
 | .non=>by simp[toP,Kn,cln]
 | .bl _=>by simp[toP,Kn,cln]
 | .int _=>by simp[toP,Kn,cln]
 | .str _=>by simp[toP,Kn,cln]
 | .tup xs=>by simp only[toP,Kn,cln]; exact my xs
 | .lst xs=>by simp only[toP,Kn,cln]; exact my xs
 | .box _=>by simp only[toP,Kn,cln]; decide +kernel
theorem my:∀xs:List D,Mn (iz xs)=bR xs
 | []=>by simp[iz,Mn,bR]
 | x::xs=>by simp only[iz,Mn,bR]; rw[jl x,my xs]
end
mutual
theorem kM:∀x:D,(toP x).depth=dep x
 | .non=>by simp[toP,KS,dep]
 | .bl _=>by simp[toP,KS,dep]
 | .int _=>by simp[toP,KS,dep]
 | .str _=>by simp[toP,KS,dep]
 | .tup xs=>by simp only[toP,KS,dep]; rw[mL xs]
 | .lst xs=>by simp only[toP,KS,dep]; rw[mL xs]
 | .box _=>by simp[toP,KS,dep]
theorem mL:∀xs:List D,MM (iz xs)=b6 xs
 | []=>by simp[iz,MM,b6]
 | x::xs=>by simp only[iz,MM,b6]; rw[kM x,mL xs]
end
def d9 (h:cu x):SeqAt.shaped (toP x)=true:=by unfold SeqAt.shaped;rw[jl,kM,h.1,Bool.true_and];exact decide_eq_true h.2
section
variable {X:Cx}{pins:List .(104)}{σ:L2.St}{H G:Hp}{s:Da}
mutual
theorem cJ (I:Inv X pins σ H s)(e:ao G H):∀{v:V} {d:D} {u:Value},Den X.K G v d->RelV v u->cln d=true->∃as,Reads s.heap u (toP d) as
 | _,_,_,.non,r,_=>by cases r; exact⟨_,.none⟩
 | _,_,_,.bl,r,_=>by cases r; exact⟨_,.bool _⟩
 | _,_,_,.int,r,_=>by obtain⟨t,rfl⟩:=r; exact⟨_,.int _ _⟩
 | _,_,_,.str,r,_=>by obtain⟨t,rfl⟩:=r; exact⟨_,.str _ _⟩
 | _,_,_,.tup h q,r,c=>by cases r;obtain⟨its,rv,⟨o,h1,h2,n,h3⟩,_⟩:=I.tuple (a5 e h);obtain⟨as,z⟩:=ke I e q rv (by rw[cln]at c; exact c);exact⟨_,.tuple h1 h2 h3 (by simpa using z)⟩
 | _,_,_,.lst h q,r,c=>by cases r;obtain⟨its,rv,⟨o,n,h1,h2,_,h3⟩,_⟩:=I.list (aR e h);obtain⟨as,z⟩:=ke I e q rv (by rw[cln]at c; exact c);exact⟨_,.list h1 h2 h3 (by simpa using z)⟩
 | _,_,_,.box _,_,c=>by rw[cln]at c; cases c
theorem ke (I:Inv X pins σ H s)(e:ao G H):∀{vs:List V} {ds:List D} {us:List Value},aw X.K G vs ds->Vals vs us->bR ds=true->∃as,ReadsAll s.heap us (iz ds) as
 | _,_,_,.nil,.nil,_=>⟨_,.nil⟩
 | _,_,_,.cons h q,.cons r rs,c=>by rw[bR,IS]at c;obtain⟨as,z⟩:=cJ I e h r c.1;obtain⟨bs,z'⟩:=ke I e q rs c.2;exact⟨_,.cons z z'⟩
end
end
end Ev
namespace Hy
open PySem PySem.Spec PyProof.Rows L2
open Ev (D Den aw aq a5 aR Itz Itv DO EK tH sQ eqD cu cJ d9 iw)
section
variable {X:Cx}{τ:List Sl}{x y z:D}{a b e c tg:Expr}{pos p q:Pos}{k:Nat}{s:Sl}{N:Po}{rest body:List Stmt}{xs ys:List D}{i:Int}
def uE (M:Nat->Bool->List Sl->Prop)(B:Bk X k)(h0:∃n t,M n t τ)(hc:∀n t τ',M n t τ'->PT X c (dT X.K τ' t))(hb:∀n τ',M n true τ'->PSs X body (dS X.K τ' { N with nx:=λτ2=>∃m t,m<n/\M m t τ2,ct:=λτ2=>∃m t,m<n/\M m t τ2,bk:=λ_=>False }))
   (hr:∀n τ',M n false τ'->PSs X rest (dS X.K τ' N)):PSs X (.While c body [] pos::rest) .(114):=by
 have hc':PT X c λσ H Q=>∃n t τ',M n t τ'/\dT X.K τ' t σ H Q:=λpins s σ H Q I ⟨n,t,τ',m,q⟩=>hc n t τ' m pins s σ H Q I q;have hb':PSs X body λD σ H=>∃n τ',M n true τ'/\dS X.K τ' { N with nx:=λτ2=>∃m t,m<n/\M m t τ2,ct:=λτ2=>∃m t,m<n/\M m t τ2,bk:=λ_=>False } D σ H:=λpins s σ H D I ⟨n,τ',m,q⟩=>hb n τ' m pins s σ H D I q;refine bB (M:=λτ'=>∃n,M n false τ') (psW (yL B.po hc' hb') λD σ H ⟨A,H₀,B,S,Me⟩=>⟨λm σ' H'=>∃t τ' B',M m t τ'/\Sta X.K A H₀ τ' B' σ' H',?_,?_⟩) λτ' h=>let ⟨n,h⟩:=h; hr n τ' h
 . obtain⟨n,t,h0⟩:=h0;exact⟨n,t,τ,B,h0,S⟩
 rintro m σ' H' ⟨t,τ',B',hM,S'⟩;refine⟨m,t,τ',hM,A,H₀,B',S',λH1 e1=>?_⟩;cases t with
 | false=>exact rJ (Me.nx τ' B' σ' H1 ⟨m,hM⟩ (S'.mono e1))
 | true=>refine pz ⟨λσ2 H2=>∃τ2 B2,(∃n t,n<m/\M n t τ2)/\Sta X.K A H₀ τ2 B2 σ2 H2,λσ2 H2 ⟨τ2,B2,⟨n,t,l,q⟩,S2⟩=>⟨n,l,t,τ2,B2,q,S2⟩,m,τ',hM,A,H₀,B',S'.mono e1,?_⟩;exact⟨λτ2 B2 σ2 H2 m S2=>⟨τ2,B2,m,S2⟩,λ_ _ _ _ z=>z.elim,λτ2 B2 σ2 H2 m S2=>⟨τ2,B2,m,S2⟩,Me.rt,Me.xc⟩
noncomputable def gG (xs ys:List D):List D:=(xs.zip ys).map λp=>.tup [p.1,p.2]
def bQ:(gG xs ys).length=min xs.length ys.length:=by simp[gG]
def pG (i:Nat)(h:i<(gG xs ys).length):(gG xs ys)[i]=.tup [xs.getD i .non,ys.getD i .non]:=by rw[bQ]at h;simp[gG,show i<xs.length by omega,show i<ys.length by omega]
def Dg {K:fw}{G:Hp}{a b:Addr}{vs ws:List V}(h:SqL K G a vs)(r:aw K G vs xs)(h':SqL K G b ws)(r':aw K G ws ys):Yl K (Itz K a b) (gG xs ys) G:=by
 intro H sg;have hl:=r.length;have hl':=r'.length;refine⟨λi hi=>⟨vs,ws,aR sg h,aR sg h',by rw[bQ]at hi; omega⟩,λi hi=>?_⟩;have hi':=hi;rw[bQ]at hi';obtain⟨v,hv,dv⟩:=r.get (ph (show i<xs.length by omega));obtain⟨w,hw,dw⟩:=r'.get (ph (show i<ys.length by omega));refine⟨⟨vs,ws,v,w,aR sg h,aR sg h',hv,hw⟩,λy H' ⟨p,x1,x2,hp,e0,e1,e2,e3⟩=>?_⟩;subst e0 e1;have ex:x1=v:=by have:=e2 vs (aR sg h); rw[hv]at this; exact(IM this).symm
 have ey:x2=w:=by have:=e3 ws (aR sg h'); rw[hw]at this; exact(IM this).symm
 subst ex ey;refine⟨aq hp _,λM hM sv=>?_⟩;rw[pG,show xs.getD i .non=xs[i] by simp[show i<xs.length by omega],show ys.getD i .non=ys[i] by simp[show i<ys.length by omega]];have up:=sv.trans (aD (aq hp (.tup [x1,x2])) λ_ z=>z);exact .tup (SqT.of (lg hM hp)) (.cons (dv.mono up) (.cons (dw.mono up) .nil))
def qZ {ts:List Expr}{m:Nat}{tp:Pos}(B:Bk X k)(h:PE X a (dE X.K true τ (.d (.lst xs))))(h':PE X b (dE X.K true τ (.d (.lst ys))))(hg:Gl X "zip":=by rfl)(hs:Do [a,b] X.env=.(121)::Do [b] X.env:=by rfl)(hs2:Do [b] X.env=[(false,eval b X.env)]:=by rfl):
   PI X (.Tuple ts m tp) (.Call (.Name "zip" p) [a,b] [] pos) (dI X.K τ (gG xs ys)):=
 piW (tH B.calm hg (B.blt _ .(2)) (ae h (ae h' ag hs2) hs) hs hs2) λσ H R ⟨A,H₀,B,S,k⟩=>fO S λvs H1 e1 d1=>by
   cases d1 with
   | cons d r=>
     cases r with
     | cons d' r=>
       cases r;cases d with
       | lst h r=>cases d' with
         | lst h' r'=>exact⟨_,_,rfl,⟨_,aR aT h⟩,⟨_,aR aT h'⟩,k _ H1 e1 (Dg h r h' r')⟩
def Ej {K:fw}{G:Hp}{a:Addr}{vs:List V}(h:SqL K G a vs)(r:aw K G vs xs):Yl K (Itv K a vs.length) xs.reverse G:=by
 intro H sg;have hl:=r.length;refine⟨λi hi=>by rw[JJ]at hi; show vs.length<=i; omega,λi hi=>?_⟩;rw[JJ]at hi;obtain⟨v,hv,dv⟩:=r.get (ph (show xs.length-1-i<xs.length by omega));rw[<- hl]at hv;refine⟨⟨by omega,vs,v,aR sg h,hv⟩,λx H' ⟨e1,e2⟩=>?_⟩;subst e1;have ex:x=v:=by have:=e2 vs (aR sg h); rw[hv]at this; exact(IM this).symm
 subst ex;refine⟨ao.refl _,λM _ sv=>?_⟩;rw[List.getElem_reverse];exact dv.mono sv
def B0 (B:Bk X k)(h:PE X a (dE X.K true τ (.d (.lst xs))))(hg:Gl X "reversed":=by rfl)(hs:Do [a] X.env=[.(121)]:=by rfl):PI X tg (.Call (.Name "reversed" p) [a] [] pos) (dI X.K τ xs.reverse):=
 piW (sQ B.calm hg (B.blt _ .(2)) (ae h ag hs) hs) λσ H R ⟨A,H₀,B,S,k⟩=>fO S λvs H1 e1 d1=>by
   cases d1 with
   | cons d r=>
     cases r;cases d with
     | lst h r=>exact⟨_,_,rfl,aR aT h,k _ H1 e1 (Ej h r)⟩
def CN (hu:X.A.units+64<cLine):OpR X (GE .Eq) (λx y H Q=>∃G d e,ao G H/\Den X.K G x d/\Den X.K G y e/\cu d/\cu e/\Q (.bl (eqD d e)) H):=by intro pins s σ H x y v u Q I rx ry ⟨G,d,e,sg,dx,dy,o1,o2,q⟩;obtain⟨as,r1⟩:=cJ I sg dx rx o1.1;obtain⟨bs,r2⟩:=cJ I sg dy ry o2.1;exact eq_dataH r1 r2 (d9 o1) (d9 o2) hu ⟨.bl _,H,I,by rw[iw]; rfl,q⟩
def EG (hu:X.A.units+64<cLine):OpR X (GE .NotEq) (λx y H Q=>∃G d e,ao G H/\Den X.K G x d/\Den X.K G y e/\cu d/\cu e/\Q (.bl (!eqD d e)) H):=by intro pins s σ H x y v u Q I rx ry ⟨G,d,e,sg,dx,dy,o1,o2,q⟩;obtain⟨as,r1⟩:=cJ I sg dx rx o1.1;obtain⟨bs,r2⟩:=cJ I sg dy ry o2.1;exact ne_dataH r1 r2 (d9 o1) (d9 o2) hu ⟨.bl _,H,I,by rw[iw]; rfl,q⟩
def zg (B:Bk X k)(h1:cu x)(h2:cu y):cH X (GE .Eq) x y (.bl (eqD x y)):=⟨_,CN B.room.units,λM v w H Q _ d1 d2 q=>⟨_,x,y,aT,d1,d2,h1,h2,q _ H .(102) .bl⟩⟩
def Cu (B:Bk X k)(h1:cu x)(h2:cu y):cH X (GE .NotEq) x y (.bl (!eqD x y)):=⟨_,EG B.room.units,λM v w H Q _ d1 d2 q=>⟨_,x,y,aT,d1,d2,h1,h2,q _ H .(102) .bl⟩⟩
variable {u v:Str}
def vJ:cH X (GE .Eq) (.str u) (.str v) (.bl (decide (u=v))):=⟨_,Cj,λ_ v' w H Q _ d1 d2 k=>by
 cases d1;cases d2;exact⟨rfl,by rw[show decide (V.str u=V.str v)=decide (u=v) by simp]; exact k _ H .(102) .bl⟩⟩
def u5:cH X (GE .NotEq) (.str u) (.str v) (.bl (!decide (u=v))):=⟨_,Cr,λ_ v' w H Q _ d1 d2 k=>by
 cases d1;cases d2;exact⟨rfl,by rw[show decide (V.str u=V.str v)=decide (u=v) by simp]; exact k _ H .(102) .bl⟩⟩
theorem kA:∀{bs:List Bool} {us:List Value},Vals (bs.map V.bl) us->us=bs.map JI
 | [],_,h=>by cases h; rfl
 | b::bs,_,h=>by
   cases h with
   | cons rv rs=>rw[kA rs,show _=JI b from rv]; rfl
def zh (hc:X.calm=true):fH X (.builtin "all") (λxs H Q=>∃(p:Addr) (bs:List Bool),xs=[.ref p]/\SqL X.K H p (bs.map V.bl)/\Q (.bl (bs.all id)) H):=by
 intro pins s σ H xs us Q I r q;obtain⟨p,bs,rfl,h,q⟩:=q
 obtain⟨u,rfl,ru⟩:∃u,us=[u]/\RelV (.ref p) u:=by
   cases r with
   | cons r1 r=>cases r; exact⟨_,rfl,r1⟩
 cases (show u=IT _ from ru);obtain⟨its,rv,pl,hz⟩:=I.list h;obtain rfl:=kA rv;have lt:∀a,s.heap.IsList a (bs.map JI).toArray->a≠s.heap.objs.size:=λa ⟨o,z,_⟩=>IL (HY z);refine call_all_walk (wpAny_pyIter_list pl.isList ⟨_,_,_,_,_,_,λi=>(bs.map JI)[i]?==some (JI true),rfl,Walks.list (A:=X.A.in1) (I.ok.hd hc) _ _ (lt _ pl.isList) (bs.map JI).toArray,⟨⟨_,Ib _ rfl,rfl,rfl⟩,?_⟩,λi v s' Q' E' hP hQ=>?_,λh' tk hk=>?_⟩)
 . obtain⟨o,z1,z2⟩:=pl.isList;exact⟨o,pq _ z1,z2⟩
 . have hP':(bs.map JI)[i]?=some v:=by simpa using hP
   obtain⟨c,_,rfl⟩:=HV.mp (Jp hP');refine N0 ?_;have hQ:Q' ((bs.map JI)[i]?==some (JI true)) s':=hQ;rw[hP']at hQ;cases c
   . exact hQ
   . exact hQ
 . refine⟨.bl (bs.all id),H,I.kept (t':=tk) λb' o z=>?_,?_,q⟩
   . refine hk b' o (λhm=>?_) (pq _ z);have:b'=s.heap.objs.size:=by simpa using hm
     exact absurd (HY z) (by rw[this]; exact Lb _)
   . have e:∀bs:List Bool,bs.all id=(ox (bs.map JI).toArray.size).all λi=>(bs.map JI)[i]?==some (JI true):=λbs=>by
       rw[Ic,bp];induction bs with
       | nil=>rfl
       | cons b bs ih=>rw[List.all_cons,ih,Ja,Nx,List.all_cons,List.all_map];congr 1;cases b <;> rfl
     rw[e]; rfl
theorem uA {K:fw}:∀{vs:List V} {bs:List Bool},aw K H vs (bs.map .bl)->vs=bs.map V.bl
 | _,[],h=>by cases h; rfl
 | _,_::_,h=>by
   cases h with
   | cons d r=>cases d; rw[uA r]; rfl
def rL (hc:X.calm=true)(bs:List Bool)(hx:xs=bs.map .bl):gx X (.builtin "all") [.lst xs] (.d (.bl (bs.all id))):=⟨_,zh hc,λM vs H Q _ d q=>by
 subst hx;cases d with
 | cons d r=>
   cases r;cases d with
   | lst h r=>
     cases uA r;exact⟨_,_,rfl,aR aT h,q _ H [] .(102) fu (jw .bl)⟩⟩
end
end Hy
namespace Hy
open PySem PySem.Spec PyProof.Rows L2
open Ev (D Den aw aI aK aq a5 aR)
end Hy
namespace Hy
open PySem PySem.Spec PyProof.Rows L2
open Ev (D Den aw aq a5 aR aU gB eR PTs dB fE)
section
variable {X:Cx}{C:Bool}{τ:List Sl}{x y z:D}{a b e o:Expr}{es:List Expr}{pos p q:Pos}{k:Nat}{s:Sl}{xs:List D}{i j:Int}
def AS:OpR X (KB .Mult) (λx y H Q=>∃l k xs,x=.ref l/\y=.int k/\SqL X.K H l xs/\0<=k/\k<100000/\xs.length*k.toNat<=sizeLine/\∀p,H p=none->Q (.ref p) (upd H p (.lst (Ii k.toNat xs).flatten))):=by
 intro pins s σ H x y v u Q I rx ry h;obtain⟨l,k,xs,rfl,rfl,hH,h1,h2,hz,q⟩:=h;cases rx;obtain⟨t,rfl⟩:=ry;obtain⟨its,r,pl,_⟩:=I.list hH;have hl:=r.length;obtain⟨⟨cls,dd,data,sl⟩,e,hc,n,hd⟩:=pl.isList;simp only at hc hd;subst hc hd;have hlen:its.toArray.size*k.toNat<=sizeLine:=by rw[Ic,<- hl]; exact hz
 have hcap:¬its.toArray.size*k.toNat>(2^63-1)/8:=by
   have:(sizeLine:Nat)<=(2^63-1)/8:=by decide
   omega
 have hfit:¬(!Builtin.List.listFitsIndex k)=true:=by rw[fitsIndex_both .(0) .(0)];exact Ij
 have hlong:¬K6 (its.toArray.size*k.toNat)=true:=by rw[qz hlen];exact Ij
 have hnew:List.foldl (λx1 x2=>x1++x2) #[] (Ii (if its.toArray.isEmpty=true then 0 else k.toNat) its.toArray)=(Ii k.toNat its).flatten.toArray:=by
   have f0:∀m:Nat,List.foldl (λx1 x2=>x1++x2) #[] (Ii m its.toArray)=(Ii m its).flatten.toArray:=λm=>by have:=foldl_rep its m [];rw[List.nil_append]at this;exact this
   rw[f0];cases its with
   | nil=>simp
   | cons a r'=>rw[if_neg .(4)]
 refine wpAny_binaryOp_repeat_ref (T:="list") (U:="int") .(2) ⟨_,e,rfl⟩ (λs'=>typeIs_int s' k t) noFill_list_mul F.fills_int_mul F.slot_int_rmul repeat_list F.slot_int_index.lookup
   (O0 F.slot_int_rmul (typeIs_int s k t) F.entry_int_rmul (F.args_int_rmul_2 _ _) (lm_int_rmul_list_any k t l its.toArray n dd sl)
     ⟨e,rfl,⟨_,e,rfl⟩,O0 F.slot_list_mul ⟨_,e,rfl⟩ F.entry_list_mul (F.args_list_mul_2 _ _) (lm_list_mul_any l its.toArray n dd sl k t hfit hcap hlong) ⟨e,?_⟩⟩)
 rw[hnew];exact⟨.ref _,_,I.Fh (t':=s.toks) (r.rep k.toNat) (by rw[len_rep,Nat.mul_comm]; exact hz),rfl,q _ I.fresh⟩
theorem vK {K:fw}{vs:List V}(h:aw K H vs xs):∀k:Nat,aw K H (Ii k vs).flatten (Ii k xs).flatten
 | 0=>.nil
 | k+1=>by rw[Jk,Jk,Jz,Jz]; exact h.append (vK h k)
def vO (ha:PE X a (dE X.K C τ (.d (.lst xs))))(hb:PE X b (dE X.K C τ (.d (.int j))))(h0:0<=j)(h1:j<100000)(hl:xs.length*j.toNat<1000000):PE X (.BinOp a .Mult b pos) (dE X.K C τ (.o (Ii j.toNat xs).flatten)):=peW (yV AS ha hb) λσ H Q ⟨A,H₀,B,S,k⟩=>
 aV S λv H1 e1 d1=>aV .(129) λw H2 e2 d2=>by
   cases d2;cases d1 with
   | lst h1' r1=>refine⟨_,j,_,rfl,rfl,aR (aT.trans e2) h1',h0,h1,by rw[r1.length]; exact JO (JA hl .(2)),λp hp=>?_⟩;obtain⟨z1,z2,z3⟩:=jP (K:=X.K) hp (vK (r1.mono (aD e2 λ_ z=>z)) j.toNat);exact k _ _ [p] (e1.trans (e2.trans z1)) (λb hb=>⟨(e1.trans e2).free (z2 b hb).1,(z2 b hb).2⟩) z3
def dN' (K:fw)(C:Bool)(τ:List Sl)(ns:List Nd):TA:=λσ H Q=>∃A H₀ B,Sta K A H₀ τ B σ H/\∀vs H' bs,ao H H'->Fr H H' bs->bs.Nodup->aW K (hd H' λb=>vw C A B b\/b∈bs) H' vs bs ns->Q vs H'
def ye:PA X [] (dN' X.K C τ []):=paW cw λσ H Q ⟨A,H₀,B,S,k⟩=>k [] H [] .(102) fu Kd .nil
def Sta.hide {K:fw}{A:Addr->Prop}{H₀ H H1:Hp}{B:Nat->List Addr}{σ:L2.St}{b1:List Addr}(S:Sta K A H₀ τ B σ H)(e:ao H H1)(f:Fr H H1 b1):Sta K (λb=>A b\/b∈b1) (hd H1 λb=>∃i,b∈B i) τ B σ H1 where
 same:=aT
 len:=S.len
 sl:=λi s h=>(S.sl i s h).mono (λb o z=>by
   obtain⟨z1,z2⟩:=ar.mp z;refine ar.mpr ⟨λw=>?_,e _ _ z2⟩;rcases w with (w | w) | w
   . exact z1 (.inl w)
   . rw[(f b w).1]at z2; cases z2
   . exact z1 (.inr w)) e
 fr:=λi b hb=>by
   cases q:hd H1 (λb=>∃i,b∈B i) b with
   | none=>rfl
   | some o=>exact absurd ⟨i,hb⟩ (ar.mp q).1
 uq:=S.uq
 ad:=λb hb=>by
   rcases hb with z | z
   . obtain⟨o,q⟩:=S.ad b z;exact⟨o,ar.mpr ⟨λ⟨i,w⟩=>(by rw[S.fr i b w]at q; cases q),e _ _ (S.same _ _ q)⟩⟩
   . obtain⟨w1,o,w2⟩:=f b z;exact⟨o,ar.mpr ⟨λ⟨i,w⟩=>(by obtain⟨o',q⟩:=S.bd i b w; rw[w1]at q; cases q),w2⟩⟩
 bd:=λi b hb=>let ⟨o,q⟩:=S.bd i b hb; ⟨o,e _ _ q⟩
def qf {A:Addr->Prop}{B:Nat->List Addr}{b1:List Addr}{b:Addr}(h:vw C A B b\/b∈b1):vw C (λb=>A b\/b∈b1) B b:=by
 cases C with
 | true=>
   rcases h with (h | h) | h
   . exact .inl (.inl h)
   . exact .inr h
   . exact .inl (.inr h)
 | false=>exact h
def gE {n:Nd}{ns:List Nd}(ha:PE X e (dE X.K C τ s))(hn:so s=some n)(hr:PA X es (dN' X.K C τ ns))(hs:Do (e::es) X.env=.(113)::Do es X.env:=by rfl):PA X (e::es) (dN' X.K C τ (n::ns)):=paW (bh ha hr hs) λσ H Q ⟨A,H₀,B,S,k⟩=>
 ⟨A,H₀,B,S,λv H1 b1 e1 f1 h1=>⟨_,_,B,S.hide e1 f1,λvs H2 b2 e2 f2 n2 h2=>by
   obtain⟨q1,n1⟩:=h1.nd hn;refine k _ H2 (b1++b2) (e1.trans e2) (λb hb=>?_) (Jj.mpr ⟨n1,n2,λx hx y hy z=>?_⟩) (.cons (q1.frame ?_ λb hb=>?_) (h2.frame ?_ λ_ _=>rfl))
   . rcases vp.mp hb with z | z
     . obtain⟨w1,o,w2⟩:=f1 b z; exact⟨w1,o,e2 _ _ w2⟩
     . exact⟨e1.free (f2 b z).1,(f2 b z).2⟩
   . obtain⟨_,o,w⟩:=f1 x hx; rw[z,(f2 y hy).1]at w; cases w
   . intro b o z;obtain⟨z1,z2⟩:=ar.mp z;refine ar.mpr ⟨λw=>?_,e2 _ _ z2⟩;rcases w with w | w
     . exact z1 (.inl w)
     . rcases vp.mp w with w | w
       . exact z1 (.inr w)
       . rw[(f2 b w).1]at z2; cases z2
   . obtain⟨_,o,w⟩:=f1 b hb;rw[w,e2 _ _ w]
   . refine aD .(102) λb w=>?_;rcases w with w | w
     . exact .inl (qf (.inl w))
     . rcases vp.mp w with w | w
       . exact .inl (qf (.inr w))
       . exact .inr w⟩⟩
def yF {K:fw}{H:Hp}{M:Addr->Prop}{p:Addr}{o:HO}{vs:List V}{bs:List Addr}{ns:List Nd}(hp:H p=none)(d:aW K (hd H λb=>M b\/b∈bs) H vs bs ns)(nd:bs.Nodup):
   aW K (hd (upd H p o) λb=>M b\/b∈p::bs) (upd H p o) vs bs ns/\(p::bs).Nodup:=by
 have off:∀b∈bs,b≠p:=λb hb z=>by obtain⟨w,q⟩:=d.some_of b hb; rw[z,hp]at q; cases q
 refine⟨d.frame (λb w z=>?_) λb hb=>aF (off b hb),Jb.mpr ⟨λz=>off p z rfl,nd⟩⟩;obtain⟨z1,z2⟩:=ar.mp z;have ne:b≠p:=λy=>by rw[y,hp]at z2; cases z2
 refine ar.mpr ⟨λy=>?_,by rw[aF ne]; exact z2⟩;rcases y with y | y
 . exact z1 (.inl y)
 . rcases HZ.mp y with y | y
   . exact ne y
   . exact z1 (.inr y)
def ub {ns:List Nd}{m}(h:PA X es (dN' X.K C τ ns))(hl:Nat.ble ns.length 1000=true:=by rfl):PE X (.Tuple es m pos) (dE X.K C τ (.n (.t ns))):=peW (lI h) λσ H Q ⟨A,H₀,B,S,k⟩=>
 ⟨A,H₀,B,S,λvs H1 bs e1 f1 n1 h1=>⟨by rw[h1.length]; exact JO (jU (Mb hl)),λp hp=>by
   obtain⟨z1,z2⟩:=yF (o:=.tup vs) hp h1 n1
   exact k _ _ (p::bs) (e1.trans (aq hp _)) (λb hb=>by
     rcases HZ.mp hb with w | w
     . subst w; exact⟨e1.free hp,_,aN⟩
     . obtain⟨w1,o,w2⟩:=f1 b w; exact⟨w1,o,aq hp _ _ _ w2⟩) ⟨z2,_,rfl,.t aN z1⟩⟩⟩
end
section
variable {X:Cx}{C:Bool}{τ τ':List Sl}{x y z:D}{b e c tg it elt o:Expr}{es ifs:List Expr}{pos p q:Pos}{k:Nat}{s:Sl}{N:Po}{rest body:List Stmt}{xs:List D}{i:Nat}{j:Int}{scope:Scope}
def dGs (K:fw)(τ:List Sl)(xs:List D)(τ':List Sl):TGs:=λvs σ H Q=>∃A H₀ B,Sta K A H₀ τ B σ H/\aw K .(138) vs xs/\∀σ' B',Sta K A H₀ τ' B' σ' H->Q σ' H
def Ff (h:PGs X es t)(f:∀v σ H Q,t' v σ H Q->t v σ H Q):PGs X es t':=λpins s σ H v u Q I r q=>h pins s σ H v u Q I r (f v σ H Q q)
def x8:PGs X [] (dGs X.K τ [] τ):=Ff kR λv σ H Q ⟨A,H₀,B,S,d,k⟩=>by cases d;exact⟨rfl,k σ B S⟩
def gi (i:Nat){n:Str}(hN:X.N.Nodup)(h:PGs X es (dGs X.K (τ.set i (.d x)) xs τ'))(hi:X.N[i]?=some n:=by rfl)(hx:Loc X.env.scope n:=by first | exact .inl rfl | exact .inr rfl)(hf:X.fn n=true\/X.env.scope.names.lookup n=some .local:=by first | exact .inl rfl | exact .inr rfl | assumption):PGs X (.Name n p::es) (dGs X.K τ (x::xs) τ'):=
 Ff (eg (eF (i:=i) hN hi hx hf) h) λv σ H Q ⟨A,H₀,B,S,d,k⟩=>by
   cases d with
   | cons d r=>have sub:∀b,own A (upB B i []) b->own A B b:=λb z=>z.elim .inl λ⟨j,z⟩=>(bb z).elim (λz=>nomatch z.2) λz=>.inr ⟨j,z.2⟩;exact⟨_,_,rfl,A,H₀,_,S.set .(102) (bs:=[]) (λ_ z=>nomatch z) (jw d),r.mono (aD .(102) sub),k⟩
def B6 {m:Nat}(hc:X.calm=true)(h:PGs X es (dGs X.K τ xs τ'))(hl:(KM es X.env).length=xs.length:=by rfl)(hst:(KM es X.env).findIdx? (·.1)=none:=by rfl):PG X (.Tuple es m pos) (dG X.K τ (.tup xs) τ'):=
 pgW (pN (n:=xs.length) hc h hl hst) λv σ H Q ⟨A,H₀,B,S,d,k⟩=>by
   cases d with
   | tup h r=>exact⟨_,_,rfl,a5 aT h,r.length,A,H₀,B,S,r,k⟩
def D0 {m:Nat}(he:PE X e (dE X.K true τ (.d x)))(hg:PG X (.Tuple es m p) (dG X.K τ x τ'))(hr:PSs X rest (dS X.K τ' N))(hs:NL [.Tuple es m p] e pos.line X.env=pure false:=by rfl)(hw:NM [.Tuple es m p] e X.env=pure none:=by rfl)
   (h1:(KM [.Tuple es m p] X.env).map (·.2)=[assign (.Tuple es m p) X.env]:=by rfl):PSs X (.Assign [.Tuple es m p] e pos::rest) .(114):=
 bB (M:=(·=τ')) (psW (jM he hg hs hw h1) λD σ H ⟨A,H₀,B,S,Me⟩=>aV S λv H1 e1 d1=>⟨A,H₀,B,S.mono e1,d1,λσ' B' S'=>Me.nx _ _ _ _ rfl S'⟩) λ_ e=>e▸hr
def De (M:Nat->List Sl->Prop)(T:Nat->List Sl->List Sl)(B:Bk X k)(hi:PI X tg it (dI X.K τ xs))(hg:∀i (h:i<xs.length) τ',M i τ'->PG X tg (dG X.K τ' xs[i] (T i τ')))(h0:M 0 τ)
   (hb:∀i,i<xs.length->∀τ',M i τ'->PSs X body (dS X.K (T i τ') { N with nx:=M (i+1),ct:=M (i+1),bk:=λ_=>False }))
   (hr:∀τ',M xs.length τ'->PSs X rest (dS X.K τ' N)) (hs:∀x,foldedSetIterable it X.env x=pure x:=by intro _; rfl):PSs X (.For tg it body [] pos::rest) .(114):=
 bB (M:=M xs.length) (xo (M:=M) (T:=T) B hi h0 hg (λi h τ' m=>gH (hb i h τ' m) λD σ H ⟨A,H₀,B,S,Me⟩=>⟨A,H₀,B,S,Me.nx,λ_ _ _ _ z=>z.elim,Me.ct,Me.rt,Me.xc⟩) (λ_ m=>m) hs) hr
def Hl (T:Nat->List Sl){f:Nat->D}(B:Bk X k)(hi:PI X tg it (dI X.K τ xs))(hl:xs.length<1000000)(hT:∀i,(T i).length=.(101).length/\∀(l:Nat) (x:D),.(101)[l]?=some (.d x)->(T i)[l]?=some (.d x))
   (hg:∀i (h:i<xs.length) s H fp,PG .(105) tg (dG X.K (bP τ (bCp X.N scope)++[.un]) xs[i] (T i)))
   (he:∀i,i<xs.length->∀s H fp,PE .(105) elt (dE X.K true (T i) (.d (f i)))) (hc:bOk X.env.scope scope=true:=by kernel_rfl) (hs:∀x,foldedSetIterable it X.env x=pure x:=by intro _; rfl) :
   Cmp X elt tg it [] scope τ ((ox xs.length).map f):=by
 have h:=uf (T:=T) (t:=λ_=>true) (f:=f) (elt:=elt) (ifs:=[]) hc hi hT hg (λi h s H fp=>λpins s' σ H' Q I ⟨A,H₀,B,S,q⟩=>oK pins s' σ H' Q I (q H' .(102))) (λi h _ s H fp=>he i h s H fp) hl hs
 rwa [List.filter_eq_self.mpr λ_ _=>rfl]at h
def As (h:PT X c t):PTs X [c] t:=λpins s σ H Q I q=>wpAny_tests_one (h pins s σ H Q I q)
def F9 (j:Nat){n:Str}{g f:Nat->D}{t:Nat->Bool}(B:Bk X k)(hi:PI X .(108) it (dI X.K τ xs))(hx:∀i (h:i<xs.length),xs[i]=g i)(hl:xs.length<1000000)
   (ht:∀i,i<xs.length->∀s H fp,PT .(105) c (dT X.K (.(101).set j (.d (g i))) (t i)))
   (he:∀i,i<xs.length->t i=true->∀s H fp,PE .(105) elt (dE X.K true (.(101).set j (.d (g i))) (.d (f i))))
   (hc:bOk X.env.scope scope=true:=by kernel_rfl) (hu:.(101)[j]?=some .un:=by rfl) (hN:(bNm scope++[("#" : Str)])[j]?=some n:=by rfl) (hv:∀s H fp,Loc .(105).env.scope n:=by intro _ _ _; first | exact .inl rfl | exact .inr rfl)
   (hf:∀s H fp,.(105).fn n=true\/.(105).env.scope.names.lookup n=some .local:=by intro _ _ _; first | exact .inr rfl | exact .inl rfl) (hs:∀x,foldedSetIterable it X.env x=pure x:=by intro _; rfl) :
   Cmp X elt .(108) it [c] scope τ (((ox xs.length).filter t).map f):=by
 refine uf (T:=λi=>.(101).set j (.d (g i))) (t:=t) (f:=f) (elt:=elt) (ifs:=[c]) hc hi (λi=>⟨Iz,λl x h=>?_⟩) (λi h s H fp=>?_) (λi h s H fp=>As (ht i h s H fp)) he hl hs
 . rw[Ik (λz=>by rw[<- z,hu]at h; cases h)];exact h
 . rw[hx i h];exact Bi j (hE hc).2 hN (hv s H fp) (hf s H fp)
structure D7 (X:Cx)(elt tg it:Expr)(ifs:List Expr)(scope:Scope)(τ:List Sl)(ns:List Nd):Prop where
 ex:∃(In:TG->TT->TE->Prop) (caps:List (Option Nat)) (N:List Str) (wi:TI),eR X scope N caps/\PI X tg it wi/\(∀g tt te,In g tt te->∀s H fp,PG .(106) tg g/\PTs .(106) ifs tt/\PE .(106) elt te) /\
   ∀C σ H Q,dE X.K C τ (.n (.l ns)) σ H Q->fE In caps wi σ H Q
 hs:∀x,foldedSetIterable it X.env x=pure x
def A7 {T:Nat->List Sl}{f:Nat->Nd}{S':Nat->Sl}(B:Bk X k)(hc:bOk X.env.scope scope=true)(hi:PI X tg it (dI X.K τ xs))(hT:∀i,(T i).length=.(101).length/\∀(l:Nat) (x:D),.(101)[l]?=some (.d x)->(T i)[l]?=some (.d x))
   (hg:∀i (h:i<xs.length) s H fp,PG .(105) tg (dG X.K (bP τ (bCp X.N scope)++[.un]) xs[i] (T i)))
   (he:∀i,i<xs.length->∀s H fp,PE .(105) elt (dE X.K true (T i) (S' i))) (hn:∀i,i<xs.length->so (S' i)=some (f i)) (hl:xs.length<1000000) (hs:∀x,foldedSetIterable it X.env x=pure x:=by intro _; rfl) :
   D7 X elt tg it [] scope τ ((ox xs.length).map f):=by
 obtain⟨cap,_⟩:=hE hc;generalize hτ:bP τ (bCp X.N scope)++[Sl.un]=τb at *
 refine⟨⟨λg tt te=>g=(λv σ H Q=>∃(i:Nat) (h:i<xs.length),dG X.K τb xs[i] (T i) v σ H Q)/\tt=(λσ H Q=>Q true H)/\te=(λσ H Q=>∃i,i<xs.length/\dE X.K true (T i) (S' i) σ H Q),_,_,_,cap,hi,?_,?_⟩,hs⟩
 . rintro g tt te ⟨rfl,rfl,rfl⟩ s H fp;exact⟨λpins s' σ H' v u Q I r ⟨i,h,q⟩=>hg i h s H fp pins s' σ H' v u Q I r q,oK,λpins s' σ H' Q I ⟨i,h,q⟩=>he i h s H fp pins s' σ H' Q I q⟩
 rintro C σ H Q ⟨A,H₀,B,S,kk⟩;refine⟨A,H₀,B,S,λJ H1 e1 yl=>⟨_,_,_,⟨rfl,rfl,rfl⟩,λD hD=>?_⟩⟩;have S1:=S.mono e1
 have flat:∀(l:Nat) (s:Sl),τb[l]?=some s->s=.un\/∃x,s=.d x:=λl s h=>by
   rw[<- hτ]at h;rcases vp.mp (Jp h) with z | z
   . unfold bP at z;obtain⟨o,_,ho⟩:=HV.mp z;split at ho
     . split at ho
       . exact .inr ⟨_,ho.symm⟩
       . exact .inl ho.symm
     . exact .inl ho.symm
   . exact .inl (gV.mp z)
 have slots:∀{σ':L2.St} {H':Hp} {rs:List Addr},ao H1 H'->(∃o,H' D=some o)->(∀b∈rs,∃o,H' b=some o)->σ'.length=τb.length->(∀(l:Nat) (s:Sl),τb[l]?=some s->cI X.K (hd H' λb=>own A B b\/b=D\/b∈rs) H' (σ'[l]?).join [] s)->Sta X.K (λb=>own A B b\/b=D\/b∈rs) H' τb (λ_=>[]) σ' H':=λ{σ' H' rs} e1 e2 e5 e3 e4=>⟨ao.refl _,e3,λl s h=>(e4 l s h).mono (aD .(102) λ_ z=>z.elim id λ⟨_,z⟩=>.(146)) .(102),λ_ _ z=>.(146),λ_ _ _ z=>.(146),λb z=>z.elim (λz=>let ⟨o,q⟩:=S1.dm b z; ⟨o,e1 _ _ q⟩) λz=>z.elim (λz=>z▸e2) (e5 b),λ_ _ z=>.(146)⟩
 refine⟨λi m σ' H'=>m=xs.length-i/\i<=xs.length/\ao H1 H'/\(∃vs rs,H' D=some (.lst vs)/\vs.length<=i/\aW X.K (hd H' λb=>own A B b\/b=D\/b∈rs) H' vs rs ((ox i).map f)/\(D::rs).Nodup/\(∀b∈rs,H1 b=none) /\
   σ'.length=τb.length/\∀(l:Nat) (s:Sl),τb[l]?=some s->cI X.K (hd H' λb=>own A B b\/b=D\/b∈rs) H' (σ'[l]?).join [] s),⟨xs.length,rfl,Im _,aq hD _,[],[],aN,IE _,.nil,by simp,λ_ z=>.(146),?_,λl s h=>?_⟩,?_⟩
 . rw[<- hτ]; unfold gB bP; rw[rp,rp,bp,bp]; rfl
 . have hv:ao .(138) (hd (upd H1 D (.lst [])) λb=>own A B b\/b=D\/b∈([]:List Addr)):=λb o z=>by
     obtain⟨z1,z2⟩:=ar.mp z;have z2:=e1 _ _ z2;have ne:b≠D:=λz=>by rw[z,hD]at z2; cases z2
     exact ar.mpr ⟨λy=>y.elim z1 λy=>y.elim ne λy=>(nomatch y),by rw[aF ne]; exact z2⟩
   rcases flat l s h with rfl | ⟨x,rfl⟩
   . rfl
   . rw[<- hτ]at h
     have hlt:l<(bCp X.N scope).length:=by
       rcases JN l (bCp X.N scope).length with h' | h'
       . exact h'
       . exfalso;rw[IW (by unfold bP; rw[bp]; exact h')]at h;cases e:l-(bP τ (bCp X.N scope)).length with
         | zero=>rw[e]at h; cases h
         | succ n=>rw[e]at h; cases h
     rw[HX (by unfold bP; rw[bp]; exact hlt)]at h;rw[HX (by unfold gB; rw[bp]; exact hlt)];unfold bP at h;unfold gB;rw[Iy]at h ⊢;cases e:(bCp X.N scope)[l]? with
     | none=>rw[e]at h; cases h
     | some o=>
       rw[e]at h;cases o with
       | none=>cases h
       | some i=>
         simp only[JK,La]at h;split at h
         . rename_i x' hx';cases h;obtain⟨_,u,eu,d⟩:=S.sl i _ hx';exact⟨rfl,u,by simpa using eu,d.mono hv⟩
         . cases h
 rintro i m σ' H' ⟨rfl,hi,e2,vs,rs,hv1,hv2,hv3,hnd,hfr,hlen,hsl⟩;obtain⟨y1,y2⟩:=yl H' (aT.trans e2);have rsd:∀b∈rs,∃o,H' b=some o:=hv3.some_of;by_cases hlt:i<xs.length
 . obtain⟨g,y⟩:=y2 i hlt;refine .inr ⟨g,λx H2 hy=>?_⟩;obtain⟨e3,dx⟩:=y x H2 hy;have S2:=slots e2 ⟨_,hv1⟩ rsd hlen hsl;have o0:∀b,own (λb=>own A B b\/b=D\/b∈rs) (λ_=>([]:List Addr)) b->own A B b\/b=D\/b∈rs:=λb z=>z.elim id λ⟨_,z⟩=>.(146)
   have dx':=dx _ S2.dm (λb o z=>by
     obtain⟨z1,z2⟩:=ar.mp z;exact ar.mpr ⟨λy=>(o0 b y).elim z1 λy=>y.elim (λy=>(by rw[y,hD]at z2; cases z2)) λy=>(by rw[hfr b y]at z2; cases z2),e2 _ _ z2⟩)
   refine⟨i,hlt,_,_,_,S2.mono e3,dx',λσ2 B2 S3=>?_⟩;refine pz ⟨i,hlt,_,_,_,S3,λv H5 bs e5 hf5 d5=>?_⟩;obtain⟨nv,ndv⟩:=d5.nd (hn i hlt);have e6:=e3.trans e5;have hv5:=e6 _ _ hv1;have bsD:∀b∈bs,b≠D:=λb hb z=>by have:=(hf5 b hb).1; rw[z,e3 _ _ hv1]at this; cases this
   have bsR:∀b∈bs,b∉rs:=λb hb z=>by obtain⟨o,q⟩:=rsd b z; have:=(hf5 b hb).1; rw[e3 _ _ q]at this; cases this
   refine⟨vs,xs.length-(i+1),hv5,JA (IB hv2 (JA hlt hl)) .(2),by omega,rfl,hlt,?_,vs++[v],rs++bs,aN,by rw[rp]; exact MQ hv2,?_,?_,?_,S3.len.trans (hT i).1,λl s h=>?_⟩
   . intro b o z;have ne:b≠D:=λy=>by rw[y,hD]at z; cases z
     rw[aF ne];exact e6 _ _ (e2 _ _ z)
   . rw[Jt,Ia]
     have sm1:ao (hd H5 λb=>vw true (λb=>own A B b\/b=D\/b∈rs) B2 b\/b∈bs) (hd (upd H5 D (.lst (vs++[v]))) λb=>own A B b\/b=D\/b∈rs++bs):=λb o z=>by
       obtain⟨z1,z2⟩:=ar.mp z;refine ar.mpr ⟨λy=>z1 ?_,by rw[aF (λy:b=D=>z1 (.inl (.inl (.inr (.inl y)))))]; exact z2⟩;rcases y with y | y | y
       . exact .inl (.inl (.inl y))
       . exact .inl (.inl (.inr (.inl y)))
       . exact(vp.mp y).elim (λy=>.inl (.inl (.inr (.inr y)))) .inr
     have sm2:ao (hd H' λb=>own A B b\/b=D\/b∈rs) (hd (upd H5 D (.lst (vs++[v]))) λb=>own A B b\/b=D\/b∈rs++bs):=λb o z=>by
       obtain⟨z1,z2⟩:=ar.mp z;refine ar.mpr ⟨λy=>?_,by rw[aF (λy:b=D=>z1 (.inr (.inl y)))]; exact e6 _ _ z2⟩;rcases y with y | y | y
       . exact z1 (.inl y)
       . exact z1 (.inr (.inl y))
       . rcases vp.mp y with y | y
         . exact z1 (.inr (.inr y))
         . have:=(hf5 b y).1; rw[e3 _ _ z2]at this; cases this
     refine aW.snoc (nv.frame sm1 λb hb=>aF (bsD b hb)) (hv3.frame sm2 λb hb=>?_);obtain⟨o,q⟩:=rsd b hb;rw[aF (λz:b=D=>(Jb.mp hnd).1 (by rw[<- z]; exact hb)),e6 _ _ q,q]
   . obtain⟨n1,n2⟩:=Jb.mp hnd;refine Jb.mpr ⟨λz=>?_,Jj.mpr ⟨n2,ndv,λx hx y hy z=>bsR y hy (z▸hx)⟩⟩;exact(vp.mp z).elim n1 λz=>bsD D z rfl
   . intro b hb;rcases vp.mp hb with z | z
     . exact hfr b z
     . exact(e2.trans e3).free (hf5 b z).1
   . rcases flat l s h with rfl | ⟨x,rfl⟩
     . rfl
     . obtain⟨_,u,eu,d⟩:=S3.sl l _ ((hT i).2 l x h);refine⟨rfl,u,eu,d.mono λb o z=>?_⟩;obtain⟨z1,z2⟩:=ar.mp z;refine ar.mpr ⟨λy=>?_,by rw[aF (λy:b=D=>z1 (.inl (.inr (.inl y))))]; exact e5 _ _ z2⟩;rcases y with y | y | y
       . exact z1 (.inl (.inl y))
       . exact z1 (.inl (.inr (.inl y)))
       . rcases vp.mp y with y | y
         . exact z1 (.inl (.inr (.inr y)))
         . rw[(hf5 b y).1]at z2; cases z2
 . have e:i=xs.length:=by omega
   subst e;refine .inl ⟨y1 _ .(3),kk _ _ (D::rs) (e1.trans e2) (λb hb=>?_) ⟨hnd,_,rfl,.l hv1 (hv3.frame (aD .(102) λb z=>?_) λ_ _=>rfl)⟩⟩
   . rcases HZ.mp hb with rfl | z
     . exact⟨e1.free hD,_,hv1⟩
     . exact⟨e1.free (hfr b z),rsd b z⟩
   . rcases z with z | z
     . exact .inl (iZ z)
     . exact .inr ((HZ.mp z).elim .inl .inr)
def HC (j:Nat){n:Str}{g:Nat->D}{f:Nat->Nd}{S':Nat->Sl}(B:Bk X k)(hi:PI X .(108) it (dI X.K τ xs))(hx:∀i (h:i<xs.length),xs[i]=g i)(hl:xs.length<1000000)
   (he:∀i,i<xs.length->∀s H fp,PE .(105) elt (dE X.K true (.(101).set j (.d (g i))) (S' i))) (hn:∀i,i<xs.length->so (S' i)=some (f i))
   (hc:bOk X.env.scope scope=true:=by kernel_rfl) (hu:.(101)[j]?=some .un:=by rfl) (hN:(bNm scope++[("#" : Str)])[j]?=some n:=by rfl) (hv:∀s H fp,Loc .(105).env.scope n:=by intro _ _ _; first | exact .inl rfl | exact .inr rfl)
   (hf:∀s H fp,.(105).fn n=true\/.(105).env.scope.names.lookup n=some .local:=by intro _ _ _; first | exact .inr rfl | exact .inl rfl) (hs:∀x,foldedSetIterable it X.env x=pure x:=by intro _; rfl) :
   D7 X elt .(108) it [] scope τ ((ox xs.length).map f):=by
 refine A7 (T:=λi=>.(101).set j (.d (g i))) B hc hi (λi=>⟨Iz,λl x h=>?_⟩) (λi h s H fp=>?_) he hn hl hs
 . rw[Ik (λz=>by rw[<- z,hu]at h; cases h)];exact h
 . rw[hx i h];exact Bi j (hE hc).2 hN (hv s H fp) (hf s H fp)
end
section
variable {X:Cx}{τ:List Sl}{x z:D}{it elt:Expr}{p:Pos}{k:Nat}{s:Sl}{N:Po}{xs:List D}{i:Nat}{scope:Scope}
def Ac (j l:Nat){n m:Str}{p2 pt:Pos}{md:Nat}{g g' f:Nat->D}(B:Bk X k)(hi:PI X (.Tuple [.Name n p,.Name m p2] md pt) it (dI X.K τ xs))(hx:∀i (h:i<xs.length),xs[i]=.tup [g i,g' i])(hl:xs.length<1000000)
   (he:∀i,i<xs.length->∀s H fp,PE .(105) elt (dE X.K true ((.(101).set j (.d (g i))).set l (.d (g' i))) (.d (f i))))
   (hc:bOk X.env.scope scope=true:=by kernel_rfl) (hu:.(101)[j]?=some .un:=by rfl) (hu':.(101)[l]?=some .un:=by rfl) (hN:(bNm scope++[("#" : Str)])[j]?=some n:=by rfl) (hN':(bNm scope++[("#" : Str)])[l]?=some m:=by rfl) (hv:∀s H fp,Loc .(105).env.scope n:=by intro _ _ _; first | exact .inl rfl | exact .inr rfl) (hv':∀s H fp,Loc (cpX X s H scope fp).env.scope m:=by intro _ _ _; first | exact .inl rfl | exact .inr rfl)
   (hf:∀s H fp,.(105).fn n=true\/.(105).env.scope.names.lookup n=some .local:=by intro _ _ _; first | exact .inr rfl | exact .inl rfl) (hf':∀s H fp,(cpX X s H scope fp).fn m=true\/(cpX X s H scope fp).env.scope.names.lookup m=some .local:=by intro _ _ _; first | exact .inr rfl | exact .inl rfl) (hs:∀x,foldedSetIterable it X.env x=pure x:=by intro _; rfl) :
   Cmp X elt (.Tuple [.Name n p,.Name m p2] md pt) it [] scope τ ((ox xs.length).map f):=
 Hl (λi=>(.(101).set j (.d (g i))).set l (.d (g' i))) B hi hl (λi=>⟨by rw[Iz,Iz],λr x h=>by
     rw[Ik (λz=>by rw[<- z,hu']at h; cases h),Ik (λz=>by rw[<- z,hu]at h; cases h)];exact h⟩)
   (λi h s H fp=>by rw[hx i h]; exact B5 j l (B.comp s H scope fp).calm (hE hc).2 hN hN' (hv s H fp) (hv' s H fp) (hf s H fp) (hf' s H fp)) he hc hs
end
end Hy
namespace Su
open PySem PyProof.Rows HT
open PySem.SeqAt
open PySem.AutoSeq1 (wpAny_loadPart')
open PySem.MeetsSeq PySem.MeetsSeq2 PySem.MeetsSeq3
end Su
namespace Hy
open PySem PySem.Spec PyProof.Rows L2
open Ev (D Den aw aI aK aq a5 aR)
section
variable {X:Cx}{x y z:D}{a b e:Expr}{p:Pos}{k:Nat}{s:Sl}{xs ys:List D}
def BG:OpR X (KB .Add) (λx y H Q=>∃a b ys,x=.ref a/\y=.ref b/\SqT X.K H a []/\SqT X.K H b ys/\Q (.ref b) H):=by intro pins s σ H x y v u Q I rx ry h;obtain⟨a,b,ys,rfl,rfl,ha,hb,q⟩:=h;cases rx;cases ry;obtain⟨its,r1,p1,_⟩:=I.tuple ha;obtain⟨its2,r2,p2,_⟩:=I.tuple hb;cases r1;obtain⟨⟨cls,dd,data,sl⟩,ho,hc,n,hd⟩:=id p1;obtain⟨⟨cls2,dd2,data2,sl2⟩,ho2,hc2,n2,hd2⟩:=id p2;simp only at hc hd hc2 hd2;subst hc hd hc2 hd2;exact concat_meets ⟨_,ho,rfl⟩ ⟨_,ho2,rfl⟩ noFill_tuple_add seq_tuple_add LH LC .(22) (tuple_addW0 a b _ _ n n2 dd dd2 sl sl2 .(4)) ⟨ho,ho2,⟨.ref b,H,I,rfl,q⟩⟩
def sE (hl:xs.length+ys.length<1000000):cH X (KB .Add) (.tup xs) (.tup ys) (.tup (xs++ys)):=by
 have lim:1000000<=sizeLine:=by decide
 cases xs with
 | nil=>exact⟨_,BG,λM v w H Q _ d1 d2 k=>by
     cases d1 with
     | tup h1 r1=>
       cases r1;cases d2 with
       | tup h2 r2=>exact⟨_,_,_,rfl,rfl,a5 aT h1,a5 aT h2,k _ H .(102) (.tup h2 r2)⟩⟩
 | cons x0 xs=>exact⟨_,Be,λM v w H Q hM d1 d2 k=>by
     cases d1 with
     | @tup a1 vs _ h1 r1=>
     cases d2 with
     | @tup a2 ws _ h2 r2=>
     have l1:=r1.length;have l2:=r2.length;refine⟨_,_,_,_,rfl,rfl,a5 aT h1,a5 aT h2,λz=>by subst z; simp at l1,by omega,λz=>?_,λ_ p hp=>?_⟩
     . subst z;cases r2;rw[Jc]at k;exact k _ H .(102) (.tup h1 r1)
     . have e:=aq hp (.tup (vs++ws));exact k _ _ e (.tup (SqT.of (lg hM hp)) ((r1.append r2).mono (aD e λ_ z=>z)))⟩
end
section
variable {X:Cx}{τ:List Sl}{x z:D}{e:Expr}{pos p:Pos}{xs ys:List D}{N:Po}{rest:List Stmt}
def GK (i:Nat){n:Str}{ap cp:Pos}(he:PE X e (dE X.K true τ (.o ys)))(hl:xs.length+ys.length<1000000)(hr:PSs X rest (dS X.K (τ.set i (.o (xs++ys))) N))(hi:τ[i]?=some (.o xs):=by rfl)(hN:X.N[i]?=some n:=by rfl)
   (hv:Vis X.env.scope n:=by first | exact Ka rfl | exact Ji .(10) | exact Ji .(9)) (hd:(n==("__debug__" : Str))=false:=by decide) (hcd:(n==("__classdict__" : Str))=false:=by decide)
   (hfew:((KF cp (Do [e] X.env)).all (λx=>!x.1)&&(NO cp (N8 [] X.env)).all (λx=>x.1.isSome)&&decide (([e]:List Expr).length+([]:List N6).length+(if ([]:List N6).isEmpty then 0 else 1)<30))=true:=by rfl)
   (hline:(ap.endLine==cp.line)=true:=by rfl) (hst:Do [e] X.env=.(113)::Do [] X.env:=by rfl) (hpl:(KF cp (Do [] X.env)).any (·.1)=false:=by rfl)
   (hs:N1 .(148) none pos.line X.env=pure false:=by rfl) (hbase:N4 .(108) "extend" X.env (eval .(108) X.env)=eval .(108) X.env:=by rfl) :
   PSs X (.Expr .(148) pos::rest) .(114):=
 bB (M:=(·=τ.set i (.o (xs++ys)))) (psW .(137) λD σ H ⟨A,H₀,B,S,Me⟩=>by
   obtain⟨l,vs,hb,e1,e2,d⟩:=S.sl i _ hi;refine⟨_,slot_of e1,.inl ⟨rfl,_,SqL.of e2⟩,A,H₀,B,S,λv H1 bs e3 fr ⟨l2,ws,eb,ev,h2,d2⟩=>?_⟩;cases ev;have lim:1000000<=sizeLine:=by decide
   refine⟨l,l2,vs,ws,rfl,rfl,e3 _ _ e2,h2,by rw[d.length,d2.length]; omega,?_⟩;exact Me.nx _ _ _ _ rfl ((S.mono e3).put hi hb ((d.mono (aD e3 λ_ z=>z)).append (d2.mono (aD .(102) λ_ z=>.inl z))))) λ_ e=>e▸hr
end
end Hy
namespace Hy
open PySem PySem.Spec PyProof.Rows L2
open Ev (D Den aw)
def Ae {X:Cx}{τ:List Sl}{elt tg it:Expr}{ifs:List Expr}{pos p spos:Pos}{scope:Scope}{rest:List Stmt}{N:Po}{ns:List Nd}(i:Nat){n:Str}(hN:X.N.Nodup)(h:D7 X elt tg it ifs scope τ ns)(hr:PSs X rest (dS X.K (τ.set i (.n (.l ns))) N))
   (hi:X.N[i]?=some n:=by rfl) (hl:Loc X.env.scope n:=by first | exact .inl rfl | exact .inr rfl)
   (hsw:N1 .(135) (some .(108)) spos.line X.env=pure true:=by rfl) (hf:X.fn n=true\/X.env.scope.names.lookup n=some .local:=by first | exact .inl rfl | exact .inr rfl | assumption) :
   PSs X (.Assign [.Name n p] .(135) spos::rest) .(114):=by
 obtain⟨In,caps,N',wi,h1,h2,h3,h4⟩:=h.ex;exact bB (M:=(·=τ.set i (.n (.l ns)))) (psW (Ev.lX (eF (i:=i) hN hi hl hf) h1 h2 h.hs h3 hsw) λD σ H ⟨A,H₀,B,S,Me⟩=>h4 true _ _ _ ⟨A,H₀,B,S,λv H' bs e hf h=>Me.nx _ _ _ _ rfl (S.set e hf h)⟩) λ_ e=>e▸hr
end Hy
namespace Hy
open PySem PySem.Spec PyProof.Rows L2
open Ev (D Den aw aq a5 aR)
section
variable {y:D}{i:Nat}{xs:List Nd}
def set_same {α:Type}{xs:List α}{y:α}(h:xs[i]?=some y):xs.set i y=xs:=by obtain⟨h1,h2⟩:=tf.mp h;rw[<- h2];exact List.set_getElem_self h1
end
end Hy
namespace Hy
open PySem PySem.Spec PyProof.Rows L2
open Ev (D Den aw)
def But (d:Addr)(H H':Hp):Prop:=∀b o,b≠d->H b=some o->H' b=some o
def But.hd (e:But d H H')(h:M d):ao (Hy.hd H M) (Hy.hd H' M):=λb o z=>by obtain⟨z1,z2⟩:=ar.mp z;exact ar.mpr ⟨z1,e b o (λy=>z1 (y▸h)) z2⟩
def Hid (M:Addr->Prop)(H:Hp)(d:Addr):Prop:=M d/\∀b,M b->∃o,H b=some o
def Hid.but (h:Hid M H d)(e:But d H H')(hd:∃o,H' d=some o):Hid M H' d:=⟨h.1,λb z=>by
 by_cases q:b=d
 . rw[q]; exact hd
 . obtain⟨o,y⟩:=h.2 b z;exact⟨o,e b o q y⟩⟩
def t5 (P:FB)(w:World)(K:fw)(mg:Str->Option Value)(base:Heap)(k:Nat)(n:Str)(sp:Sp):Prop:=∃f fd ps,a8 P w K mg base CX0 k f fd ps sp/\mg n=some (.ref f)/\J9 K (.ref f)=true/\Binds K fd ps []
section
variable {K:fw}{A:Addr->Prop}{H₀ H:Hp}{τ:List Sl}{B:Nat->List Addr}{σ:L2.St}
def Sta.hid (S:Sta K A H₀ τ B σ H)(hB:B i=[a]):Hid (own A B) H a:=⟨.inr ⟨i,by rw[hB]; exact gV.mpr rfl⟩,S.dm⟩
end
end Hy
namespace Ev
open PySem PySem.Spec PyProof.Rows L2
section
variable {K:Type}[DecidableEq K]{a:KD K}{hd:a.dep<=7}{X:Cx}{o e f:Expr}{pos:Pos}{tk tv:TE}
def Fw (a:KD K)(hd:a.dep<=7)(P:FB)(w:World)(F:fw)(tk tv:TE):TE:=λσ H Q=>∀p,H p=none->tk σ (upd H p (dNk a hd P w p [])) λy H1=>tv σ H1 λv H2=>∃b k,y=.ref b/\H2 p=some (dNk a hd P w p [])/\Den F H2 (.ref b) (a.toD k)/\∀u,RelV v u->Q (.ref p) (upd H2 p (dNk a hd P w p (storedH [] k b u)))
def uz (hu:X.A.units+16<cLine)(hk:PE X e tk)(hv:PE X f tv):PE X (.Dict [some e] [f] pos) (Fw a hd X.prog X.w X.K tk tv):=λpins s σ H Q I h=>by
 refine wpAny_Dict_any rfl rfl .(4) (show 1<=15 by decide) (pairTrees_cons_walk ?_)
 have I0:=I.laid (a:=s.heap.objs.size) (o:=dNk a hd X.prog X.w s.heap.objs.size []) (t':=s.toks) (h':=s.heap.push { cls:=.type "dict",data:=.dict #[] }) (λ_ _ q=>pq _ q) .(3)
   ⟨⟨beq_eq_false_iff_ne.mpr (Je (IL I.big)),_,#[],0,Ib _ rfl,⟨rfl,rfl,rfl⟩,rfl,rfl,Kd⟩,⟨_,Ib _ rfl⟩,λa1 a2 ⟨z0,o,es,ep,z1,z2⟩ hk=>⟨z0,o,es,ep,hk o z1,z2⟩⟩
 refine thn (hk _ _ σ _ _ I0 (h _ (I.hok.fresh .(3)))) λkv s1 ⟨y,H1,I1,ry,q1⟩=>thn (hv _ s1 σ H1 _ I1 q1) λvv s2 ⟨v,H2,I2,rv,b,k,ey,hp,g,q2⟩=>pairTrees_nil_walk ?_;subst ey;obtain rfl:kv=IT b:=ry;have D:iC a hd X.prog X.w X.K H2 s.heap.objs.size []:=⟨hp,λ_ z=>nomatch z⟩;obtain⟨hd',dd⟩:=x4 I2 D;unfold storeAll;rw[List.forIn_cons];refine AC (AC (wpAny_dictSet_heap (hsz:=Im _) (show X.A.units+8<cLine by omega) (key_is I2 g) dd λh' dd' hs=>Fk ?_));dsimp only;rw[List.forIn_nil];refine Fk ?_;obtain⟨q,es,ep,hq,h2,h3,h4,_,h5⟩:=dd';refine⟨.ref s.heap.objs.size,_,gh (ob:=dNk a hd X.prog X.w s.heap.objs.size (storedH [] k b vv)) I2 (by rw[hp]; exact J6) hs ⟨q,hq⟩ ⟨⟨hd',q,es,ep,hq,h2,h3,h4,h5⟩,⟨q,hq⟩,λa1 a2 ⟨z0,o,es,ep,z1,z2⟩ hk=>⟨z0,o,es,ep,hk o z1,z2⟩⟩,rfl,q2 vv rv⟩
end
end Ev
namespace Hy
open PySem PySem.Spec PyProof.Rows L2
open Ev (D Den aw KD NEs dNk iC Bx aq jK uz)
section
variable {K:Type}[DecidableEq K]{a:KD K}{hd:a.dep<=7}{X:Cx}{C:Bool}{τ:List Sl}{x y:D}{b e f o ix:Expr}{pos p q:Pos}{k:Nat}{N:Po}{rest:List Stmt}{m:List (K×D)}{key:K}
noncomputable def bxK (a:KD K)(hd:a.dep<=7)(P:FB)(w:World)(m:List (K×D)):Bx where
 p:=λF H d=>∃xs,H d=some (dNk a hd P w d xs)/\EnK a F H xs m
 mono:=λe ⟨xs,h1,h2⟩=>⟨xs,e _ _ h1,h2.mono e⟩
 isd:=λ{_ _ d} ⟨xs,h1,_⟩=>⟨_,h1,λP w H' h z=>let ⟨_,o,_,_,z1,z2,_⟩:=z.1; ⟨o,z1,z2.1⟩⟩
noncomputable abbrev bxD (a:KD K)(hd:a.dep<=7)(P:FB)(w:World)(m:List (K×D)):D:=.box (bxK a hd P w m)
def Sta.fzX (S:Sta F A H₀ τ B σ H)(hi:τ[i]?=some (.x (exK a hd P w m))):Sta F A H₀ (τ.set i (.d (bxD a hd P w m))) (upB B i []) σ H:=S.less (λ_ z=>nomatch z) λG g hv=>by obtain⟨d,xs,h1,h2,h3,h4⟩:=S.dct hi;exact⟨rfl,_,h1,.box ⟨xs,hv d _ (by rw[h2]; exact gV.mpr rfl) (λz=>nomatch z) h3,h4.mono g⟩⟩
def BV (i:Nat)(h:PSs X rest (dS X.K (τ.set i (.d (bxD a hd X.prog X.w m))) N))(hi:τ[i]?=some (.x (exK a hd X.prog X.w m)):=by rfl):PSs X rest .(114):=gH h λD σ H ⟨A,H₀,B,S,Me⟩=>⟨A,H₀,_,S.fzX hi,Me⟩
def Co (h:PE X e (dE X.K C τ (.x (exK a hd X.prog X.w m)))):PE X e (dE X.K C τ (.d (bxD a hd X.prog X.w m))):=peW h λσ H Q q=>by
 obtain⟨A,H₀,B,S,k⟩:=dj q;refine⟨A,H₀,B,S,λv H' bs e hf ⟨d,o,h1,h2,h3,xs,h4,h5⟩=>?_⟩;cases h2;subst h1 h4;have vd:=S.vd (C:=C);have un:¬vw C A B d:=λz=>by obtain⟨_,q⟩:=vd d z;rw[(hf d (gV.mpr rfl)).1]at q;cases q
 exact k _ H' e (.box ⟨xs,ar.mpr ⟨un,h3⟩,h5.mono (aD .(102) λ_ z=>.inl z)⟩)
def sI (hu:X.A.units+16<cLine)(hb:PE X b (dE X.K C τ (.d (bxD a hd X.prog X.w m))))(hk:PE X ix (dE X.K C τ (.d (a.toD key))))(hx:getM m key=some x)(hr:∀H v,Den X.K H v (a.toD key)->∃b,v=.ref b)(hs:ny ix):PE X (.Subscript b ix pos) .(124):=
 peW (jK (a:=a) (hd:=hd) hu hb hk hs) λσ H Q q=>by
   obtain⟨A,H₀,B,S,kk⟩:=dj q;refine aV S λv H1 e1 d1=>aV .(129) λy H2 e2 dy=>?_;obtain⟨b',rfl⟩:=hr _ _ dy;cases d1.mono (aD e2 λ_ z=>z) with
   | box h=>obtain⟨xs,g3,g4⟩:=h;have:=g4.at key;rw[hx]at this;obtain⟨pp,v,h1,h2,h3⟩:=this;exact⟨_,b',key,xs,pp,v,rfl,rfl,⟨aT _ _ g3,λz hz=>(g4.key z hz).mono aT⟩,dy.mono aT,h1,h2,kk v H2 (e1.trans e2) h3⟩
def tD (hu:X.A.units+16<cLine)(hk:PE X e (dE X.K C τ (.d (a.toD key))))(hv:PE X f .(124))(hr:∀H v,Den X.K H v (a.toD key)->∃b,v=.ref b):PE X (.Dict [some e] [f] pos) (dE X.K C τ (.x (exK a hd X.prog X.w [(key,x)]))):=
 peW (uz (a:=a) (hd:=hd) hu hk hv) λσ H Q ⟨A,H₀,B,S,kk⟩=>λp hp=>by
   have e0:=aq hp (dNk a hd X.prog X.w p []);have f0:Fr H (upd H p (dNk a hd X.prog X.w p [])) [p]:=λb hb=>by rw[gV.mp hb]; exact⟨hp,_,aN⟩
   have S1:=S.hide e0 f0;refine aV S1 λy H2 e2 dy=>aV (S1.mono e2) λv H3 e3 dv=>?_;obtain⟨b',rfl⟩:=hr _ _ dy;have e03:=e2.trans e3;have hp3:=e03 _ _ (aN (H:=H) (a:=p) (o:=dNk a hd X.prog X.w p []));have dy3:=dy.mono (aD e3 λ_ z=>z);refine⟨b',key,rfl,hp3,dy3.mono aT,λu hu=>?_⟩;have sm:ao (Hy.hd H3 (vw C (λb=>A b\/b∈[p]) B)) (Hy.hd (upd H3 p (dNk a hd X.prog X.w p (storedH [] key b' u))) λb=>vw C A B b\/b∈[p]):=λb o z=>by obtain⟨z1,z2⟩:=ar.mp z;have nh:¬(vw C A B b\/b∈[p]):=λy=>z1 (qf y);exact ar.mpr ⟨nh,by rw[aF (λq=>nh (.inr (gV.mpr q)))]; exact z2⟩
   have hs:ao H (upd H3 p (dNk a hd X.prog X.w p (storedH [] key b' u))):=λb o z=>by
     have ne:b≠p:=λq=>by rw[q,hp]at z; cases z
     rw[aF ne];exact e03 _ _ (e0 _ _ z)
   exact kk (.ref p) _ [p] hs (λb hb=>by rw[gV.mp hb]; exact⟨hp,_,aN⟩) ⟨p,_,rfl,rfl,aN,_,rfl,(EnK.nil.put dy3 hu dv).mono sm⟩
end
end Hy
namespace Hy
open PySem PySem.Spec PyProof.Rows L2
open Ev (D Den aw aq aU gB eR PTs dB fE)
end Hy
namespace Hy
open PySem PySem.Spec PyProof.Rows L2
open Ev (D Den aw aq a5 aR)
section
variable {X:Cx}
theorem y8 {α:Type}:∀(its:List α) (k:Nat) (y:α),k<=its.length->its.insertIdx k y=its.take k++[y]++its.drop k
 | _,0,_,_=>rfl
 | a::r,k+1,y,h=>by rw[KC,y8 r k y (by simpa using h)];rfl
def CS {its:List Value}(h:k<=its.length):(its.toArray.extract 0 k).push y++its.toArray.extract k=(its.insertIdx k y).toArray:=by apply Array.toList_inj.mp;simp only[Array.toList_append,Array.toList_push,Array.toList_extract,List.extract_eq_drop_take,Nb,Nat.sub_zero,Ic];rw[y8 its k y h];congr 1;exact Io (by rw[K3]; exact IE _)
def Av:V->List V->Hp->VK->Prop:=λx vs H Q=>∃l xs,∃i:Int,∃y,x=.ref l/\vs=[.int i,y]/\H l=some (.lst xs)/\0<=i/\i.toNat<=xs.length/\xs.length<sizeLine/\Q .non (upd H l (.lst (xs.insertIdx i.toNat y)))
def nE:MtM X "list.insert" Av:=by
 intro pins s σ H x vs v us Q I rx rv h;obtain⟨l,xs,i,y,rfl,rfl,hH,h0,h1,h2,q⟩:=h;cases rx;obtain⟨u,w,rfl,ru,rw'⟩:=rv.two;obtain⟨t,rfl⟩:=ru;obtain⟨z,its,n,r,hl,e⟩:=I.xi hH;have hi:i<2^63:=by have:=Kc h0; have:sizeLine<2^62:=.(2); omega
 have hf:Builtin.List.listFitsIndex i=true:=by unfold Builtin.List.listFitsIndex;rw[IS];exact⟨decide_eq_true .(0),decide_eq_true hi⟩
 refine O0 Ln ⟨_,e,rfl⟩ PySem.F.entry_list_insert (PySem.F.args_list_insert_3 _ _ _) (PySem.AutoSeq1.list_insert_list_int_val_1 l its.toArray n i t w (by simp[hf]) .(18)) ⟨e,?_⟩
 have vi:∀{xs:List V} {us:List Value} (k:Nat) {a:V} {b:Value},Vals xs us->RelV a b->Vals (xs.insertIdx k a) (us.insertIdx k b):=λ{xs us} k {a b} r ra=>by
   induction k generalizing xs us with
   | zero=>exact .cons ra r
   | succ k ih=>cases r with
     | nil=>exact .nil
     | cons r1 r2=>exact .cons r1 (ih r2)
 refine⟨.non,_,I.AG (its':=its.insertIdx i.toNat w) hH e ?_ (vi _ r rw') ?_,rfl,q⟩
 . show (its.toArray.extract 0 (if i<0 then (i+(its.toArray.size:Int)).toNat else min i.toNat its.toArray.size)).push w++its.toArray.extract (if i<0 then (i+(its.toArray.size:Int)).toNat else min i.toNat its.toArray.size)=_;rw[if_neg .(0),Ic,J8 .(0)];exact CS .(0)
 . rw[List.length_insertIdx_of_le_length h1]; omega
end
theorem aW.ins {K:fw}{x:D}(h:Den K G v x):∀{vs:List V} {bs:List Addr} {xs:List Nd} (k:Nat),k<=xs.length->aW K G H vs bs xs->aW K G H (vs.insertIdx k v) bs (xs.insertIdx k (.d x))
 | _,_,_,0,_,r=>aW.cons (b1:=[]) (.d h) r
 | _,_,_,k+1,hk,.nil=>absurd hk (Nat.not_succ_le_zero _)
 | _,_,_,k+1,hk,.cons h1 r=>by rw[KC,KC];exact .cons h1 (aW.ins h k (by simpa using hk) r)
section
variable {X:Cx}{τ:List Sl}{x y z:D}{b e f o:Expr}{pos q:Pos}{N:Po}{rest:List Stmt}{i:Nat}{t:Nd}{pt:List Nat}{xs:List Nd}{m:Nat}
def C7 {ap cp:Pos}(ho:PE X o (dP X.K τ i pt))(hj:PE X e (dE X.K false τ (.d (.int (m:Nat)))))(he:PE X f (dE X.K true τ (.d x)))(hi:τ[i]?=some (.n t))(hp:cP pt t=some (.l xs))(hm:m<=xs.length)(hl:xs.length<1000000)(hr:PSs X rest (dS X.K (τ.set i (.n (cy pt t (.l (xs.insertIdx m (.d x)))))) N))
   (hfew:((KF cp (Do [e,f] X.env)).all (λx=>!x.1)&&(NO cp (N8 [] X.env)).all (λx=>x.1.isSome)&&decide (([e,f]:List Expr).length+([]:List N6).length+(if ([]:List N6).isEmpty then 0 else 1)<30))=true:=by rfl)
   (hline:(ap.endLine==cp.line)=true:=by rfl) (hst:Do [e,f] X.env=.(113)::Do [f] X.env:=by rfl) (hst2:Do [f] X.env=(false,eval f X.env)::Do [] X.env:=by rfl) (hpl:(KF cp (Do [f] X.env)).any (·.1)=false:=by rfl)
   (hs:N1 (.Call (.Attribute o "insert" ap) [e,f] [] cp) none pos.line X.env=pure false:=by rfl) (hbase:N4 o "insert" X.env (eval o X.env)=eval o X.env:=by rfl) :
   PSs X (.Expr (.Call (.Attribute o "insert" ap) [e,f] [] cp) pos::rest) .(114):=
 bB (M:=(·=τ.set i (.n (cy pt t (.l (xs.insertIdx m (.d x))))))) (psW (dJ (jz Jf Ln MU nE ho (bh hj (bh he cw hst2) hst) hbase hfew hline hst hpl) hs) λD σ H ⟨A,H₀,B,S,Me⟩=>by
   refine⟨A,H₀,B,S,λu v H1 eu e1 pv=>?_⟩;have S1:=S.mono e1;obtain⟨u',l,vs,bs0,eu',pv',hH,r0,nd0,hal,hown,put⟩:=S1.putN hi hp;rw[eu]at eu';cases eu';obtain rfl:=pv.det pv';refine⟨.inl ⟨rfl,_,SqL.of hH⟩,aV S1 λw1 H2 e2 d1=>aV (S1.mono e2) λw H3 e3 dw=>?_⟩;cases d1;have e3':=e2.trans e3;refine⟨l,vs,_,w,rfl,rfl,e3' _ _ hH,KQ _,by rw[HW,r0.length]; exact hm,by rw[r0.length]; exact JA hl .(2),?_⟩;rw[HW];have sm:∀{H':Hp},ao H' H3->ao (hd H' (own A B)) (hd (upd H3 l (.lst (vs.insertIdx m w))) λb=>own A B b\/b∈bs0):=λe b o z=>by obtain⟨z1,z2⟩:=ar.mp z;refine ar.mpr ⟨λy=>z1 (y.elim id λy=>(hown b y).1),by rw[aF (λy:b=l=>z1 (by rw[y]; exact hal))]; exact e _ _ z2⟩
   obtain⟨B',S'⟩:=put (H1:=H3) (vs':=vs.insertIdx m w) (bs1:=bs0) (xs':=xs.insertIdx m (.d x)) e3' nd0 (λb hb=>.inl hb)
     (aW.ins (dw.mono (sm .(102))) m hm (r0.frame (sm e3') λb hb=>by
       obtain⟨o,q⟩:=r0.some_of b hb;rw[aF (hown b hb).2,e3' _ _ q,q]))
   exact Me.nx _ B' _ _ rfl S') λ_ e=>e▸hr
end
end Hy
namespace Hy
open PySem PySem.Spec PyProof.Rows L2
open Ev (D Den aw aq)
def nH {K:fw}:∀{vs:List V} {ds:List D} (j:Nat),aw K H vs ds->aw K H (vs.eraseIdx j) (ds.eraseIdx j)
 | _,_,_,.nil=>.nil
 | _,_,0,.cons _ r=>r
 | _,_,j+1,.cons h r=>.cons h (nH j r)
theorem uN {K:fw}{x:D}(h:Den K H v x):∀{vs:List V} {ds:List D} (j:Nat),aw K H vs ds->aw K H (vs.insertIdx j v) (ds.insertIdx j x)
 | _,_,0,r=>.cons h r
 | _,_,_+1,.nil=>.nil
 | _,_,j+1,.cons h1 r=>.cons h1 (uN h j r)
end Hy
namespace Ev
open PySem PySem.Spec PyProof.Rows L2
section
variable {prog:FB}{w:World}{A:GT}{E:Value->Da->Prop}{s:Da}{d it:Addr}{o:Obj}{es:Array Oh}{ep i:Nat}
def uC (hd:(d==N9)=false)(ho:s.heap.get? d=some o)(hx:o.ExactDict)(hdat:o.data=.dict es ep)
   (hQ:Q .(145) { s with heap:=s.heap.push { cls:=.type "dict_keyiterator",data:=.fields #[.ref d,.int 0 0,.int es.size 0,.int ep 0] } }):wpAny .(110) A (pyIter (.ref d)) Q E s:=by
 have hT:s.TypeIs (.ref d) "dict":=⟨o,ho,hx.1⟩;refine wpAny_pyIter_slot hT M9 (ND M9 hT PySem.F.entry_dict_iter ?_ (PySem.F.args_dict_iter_1 _));unfold Builtin.«dict.__iter__»;refine AC ?_;unfold Builtin.Dict.dictSlotNone;refine AC (wpAny_notOrdered_dict hT (Fk ?_));show wpAny _ _ (Builtin.Dict.showsAll d >>= _) _ _ s;unfold Builtin.Dict.showsAll;rw[if_neg (by rw[hd]; exact Ij)];refine AC (Fk (AC (wpAny_dictEntries ho hdat (AC (wpAny_dictEpoch ho hdat ?_)))));refine AC (GM (Fk ⟨_,rfl,"dict_keyiterator",_,⟨_,Ib _ rfl,rfl⟩,PySem.F.slot_dict_keyiterator_next.lookup,?_⟩));simpa[NT]using hQ
def xB:Builtin.Dict_items.ownsTuple "dict_keyiterator" = false:=by decide
def vV (hit:s.heap.IsKeyIter it d i es.size ep)(ho:s.heap.get? d=some o)(hdat:o.data=.dict es ep)(hlt:i<es.size)
   (hQ:∀h',h'.IsKeyIter it d (i+1) es.size ep->Lk it s.heap h'->Q (some es[i].key) { s with heap:=h' }):wpAny .(110) A (O4 (.ref it)) Q E s:=by
 obtain⟨oi,hoi,hc,hdi⟩:=id hit;unfold O4;refine AC (wpAny_attempt (NQ (name:=MK "__next__") hit.typeIs JT (ND JT hit.typeIs L9 ?_ (LW _))));refine AC (Fk (AC (AC ?_)))
 first | refine AC (NG hit.typeIs (Fk ?_)) | refine AC (NK hit.typeIs (Fk ?_))
 refine AC (wpAny_fieldsOf hoi hdi ?_);simp only[xB,JF,if_false];show wpAny _ _ (if (IT d==JS)=true then _ else _) _ _ s;rw[if_neg (show ¬((IT d==JS)=true) from Ij)];refine AC (Fk (AC (wpAny_dictEntries ho hdat ?_)));rw[if_neg .(4)];refine AC (Fk (AC (wpAny_dictEpoch ho hdat ?_)));rw[if_neg .(4)];refine Fk ?_;simp only[show ¬((i:Int)<0) from by omega,if_false,HW,Kp hlt];refine AC ?_
 first | refine AC (NG hit.typeIs (Fk ?_)) | refine AC (NK hit.typeIs (Fk ?_))
 refine AC (wpAny_isOneOf_keyiter hit.typeIs ?_);show wpAny _ _ (setField (.ref it) 1 (NT ((i:Int)+1)) >>= _) _ _ s;refine AC (wpAny_setField hoi hdi .(4) ?_);have hit':(s.heap.update it (Mt (·.setIfInBounds 1 (NT ((i:Int)+1))))).IsKeyIter it d (i+1) es.size ep:=⟨_,Ki _ hoi (Obj.isFreed_of_fields (Obj.data_mapFields hdi _)),(Obj.cls_mapFields ..).trans hc,by rw[Obj.data_mapFields hdi]; simp[NT]⟩;refine AC (NJ ?_);refine AC (wpAny_isOneOf_keyiter (s:={ s with heap:=s.heap.update it (Mt (·.setIfInBounds 1 (NT ((i:Int)+1)))) }) hit'.typeIs ?_);show wpAny _ _ (pure es[i].key) _ _ _;exact Fk (Fk ⟨_,rfl,Fk (hQ _ hit' (MT ..))⟩)
def xR (hh:A.handled=none)(hit:s.heap.IsKeyIter it d i es.size ep)(ho:s.heap.get? d=some o)(hdat:o.data=.dict es ep)(hge:es.size<=i)
   (hQ:∀h',Heap.ExtBut it s.heap h'->Q none { s with heap:=h' }):wpAny .(110) A (O4 (.ref it)) Q E s:=by
 obtain⟨oi,hoi,hc,hdi⟩:=id hit;unfold O4;refine AC (wpAny_attempt (NQ (name:=MK "__next__") hit.typeIs JT (ND JT hit.typeIs L9 ?_ (LW _))));refine AC (Fk (AC (AC ?_)))
 first | refine AC (NG hit.typeIs (Fk ?_)) | refine AC (NK hit.typeIs (Fk ?_))
 refine AC (wpAny_fieldsOf hoi hdi ?_);simp only[xB,JF,if_false];show wpAny _ _ (if (IT d==JS)=true then _ else _) _ _ s;rw[if_neg (show ¬((IT d==JS)=true) from Ij)];refine AC (Fk (AC (wpAny_dictEntries ho hdat ?_)));rw[if_neg .(4)];refine AC (Fk (AC (wpAny_dictEpoch ho hdat ?_)));rw[if_neg .(4)];refine Fk ?_;simp only[show ¬((i:Int)<0) from by omega,if_false,HW,Array.getElem?_eq_none hge];refine AC ?_
 first | refine AC (NG hit.typeIs (Fk ?_)) | refine AC (NK hit.typeIs (Fk ?_))
 show wpAny _ _ (setField (.ref it) 0 .none >>= _) _ _ s;refine AC (wpAny_setField hoi hdi .(4) ?_);show wpAny _ _ (newExc (.type "StopIteration") [] >>= _) _ _ _;refine AC ?_;simp only[newExc,newTuple];refine AC (GM ?_ (by size_fits));refine AC (m:=Oe _ _) (NP (a:=JS) (by first | rfl | (simp only[Oe]; rfl)) ?_);refine GM ?_ (by size_fits);simp only[raiseNew];refine AC (wpAny_handled ?_);rw[show A.in1.handled=none from hh];refine AC (Fk (wpAny_throw ?_));refine AC (O5 (T:="StopIteration") (b:=true) ⟨_,Ib _ rfl,rfl⟩ isSubtype_stop ?_);exact Fk (hQ _ (((MT ..).extBut.push _).push _))
end
section
variable {K:Type}[DecidableEq K]{a:KD K}{hd:a.dep<=7}{X:Cx}{pins:List .(104)}{σ:L2.St}{H:Hp}{s:Da}{d:Addr}{xs:NEs K}{ob:Obj}
def ze (I:Inv X pins σ H s)(h:H d=some (.frz ob (dNk a hd X.prog X.w d xs))):(d==N9)=false/\∃es ep,s.heap.get? d=some ob/\ob.ExactDict/\ob.data=.dict es ep/\es.toList=xs.map (Om (kd a hd X.prog X.w))/\(xs.map (·.1)).Nodup:=by obtain⟨e,⟨h0,o,es,ep,h1,h2⟩,_⟩:=(show bL X.prog X.w H s.heap d (.frz ob (dNk a hd X.prog X.w d xs)) from I.hok d _ h);rw[e]at h1;cases h1;exact⟨h0,es,ep,e,h2⟩
noncomputable def Itw (a:KD K)(hd:a.dep<=7)(P:FB)(w:World)(d:Addr)(ob:Obj)(xs:NEs K):L2.It:=⟨λi H=>i<xs.length/\H d=some (.frz ob (dNk a hd P w d xs)),λi H x H'=>H'=H/\∃p,xs[i]?=some p/\x=.ref p.2.1,λi H=>xs.length<=i/\H d=some (.frz ob (dNk a hd P w d xs))⟩
def Bu {P:FB}{w:World}{F:fw}{tg:Expr}(it:Addr)(es:Array Oh)(ep:Nat)(hdat:ob.data=.dict es ep):
   Turn P w F false tg (Itw a hd P w d ob xs) [it] it (λi h=>i<=xs.length/\h.IsKeyIter it d i xs.length ep) where
 mem:=by simp
 obj:=λi h st b hb=>by
   have e:b=it:=by simpa using hb
   subst e;obtain⟨o,e,c,d⟩:=st.2;exact⟨o,e,λv z=>by rw[d]at z; cases z⟩
 keep:=λi h h' st k=>⟨st.1,st.2.at λo e=>k it .(4) o e⟩
 item:=by
   intro X hP hw hK hc i pins s σ H E I hf st hg;subst hP hw hK;obtain⟨hi,ha⟩:=hg;obtain⟨f0,f1,f2,f3,f4,f5⟩:=hf it .(4);obtain⟨_,es',ep',g1,_,g3,g4,_⟩:=ze I ha;rw[hdat]at g3;injection g3 with z1 z2;subst z1 z2;have hl:es.size=xs.length:=by rw[<- Jy,g4,bp]
   have st2:=st.2;rw[<- hl]at st2;have hie:i<es.size:=by omega
   have hk:es[i].key=.ref (xs[i]).2.1:=by
     have e:es.toList[i]?=some (Om (kd a hd X.prog X.w) xs[i]):=(by rw[g4,Iy,ph hi]; rfl);rw[LU,Kp hie]at e;rw[IM e];rfl
   refine vV st2 g1 hdat hie λh' st' sb=>?_;have I1:Inv X pins σ H { s with heap:=h' }:=I.turned (t':=s.toks) (λb o hb e=>(sb.2 b hb).trans e) f0 f1 f3 f4 f5;obtain⟨o',e,c,dd⟩:=id st';rw[hk];refine⟨_,rfl,kg (s:={ s with heap:=h' }) e c dd .(2) ⟨.ref (xs[i]).2.1,H,I1,rfl,⟨rfl,_,ph hi,rfl⟩,⟨hi,by rw[<- hl]; exact st'⟩,λb hb=>(hf b hb).1⟩⟩
 done:=by
   intro X hP hw hK hc i pins s σ H E I hf st hg;subst hP hw hK;obtain⟨hi,ha⟩:=hg;obtain⟨f0,f1,f2,f3,f4,f5⟩:=hf it .(4);obtain⟨_,es',ep',g1,_,g3,g4,_⟩:=ze I ha;rw[hdat]at g3;injection g3 with z1 z2;subst z1 z2;have hl:es.size=xs.length:=by rw[<- Jy,g4,bp]
   have st2:=st.2;rw[<- hl]at st2;exact xR (I.ok.hd hc.calm) st2 g1 hdat .(0) λh' eb=>⟨rfl,I.turned (t':=s.toks) (λb o hb e=>eb b o hb e) f0 f1 f3 f4 f5⟩
 self:=λ_ _ _ _ _ st h=>Oc st.2 h
end
section
variable {K:Type}[DecidableEq K]{a:KD K}{hd:a.dep<=7}{X:Cx}{tg l o i:Expr}{tl td ty:TE}{pos:Pos}
def DR (a:KD K)(hd:a.dep<=7)(P:FB)(w:World)(tl:TE):TI:=λσ H R=>tl σ H λx H1=>∃d ob xs,x=.ref d/\H1 d=some (.frz ob (dNk a hd P w d xs))/\R (Itw a hd P w d ob xs) H1
def qW (hc:X.calm=true)(hl:PE X l tl):PI X tg l (DR a hd X.prog X.w tl):=by
 intro pins s σ H R I h;refine thn (hl pins s σ H _ I h) λu s1 ⟨x,H1,I1,r1,d,ob,xs,ex,ha,q⟩=>?_;subst ex;cases r1;obtain⟨h0,es,ep,g1,g2,g3,g4,_⟩:=ze I1 ha;have hl:es.size=xs.length:=by rw[<- Jy,g4,bp]
 refine uC h0 g1 g2 g3 ?_;refine⟨false,s1.heap.objs.size,[s1.heap.objs.size],_,_,H1,rfl,I1.kept (t':=s1.toks) λb o e=>pq _ e,.inl hc,Bu (xs:=xs) _ es ep g3,⟨Im _,?_⟩,λb hb=>?_,q⟩
 . rw[<- hl];exact⟨_,Ib _ rfl,rfl,rfl⟩
 . have e:b=s1.heap.objs.size:=by simpa using hb
   subst e;exact I1.kG .(3) (I1.hok.fresh .(3))
def GQ (a:KD K)(hd:a.dep<=7)(P:FB)(w:World)(F:fw)(td ty:TE):TE:=λσ H Q=>td σ H λx H1=>ty σ H1 λy H2=>∃d ob b k xs p v,x=.ref d/\y=.ref b/\H2 d=some (.frz ob (dNk a hd P w d xs))/\(∀x∈xs,Den F H2 (.ref x.2.1) (a.toD x.1))/\Den F H2 (.ref b) (a.toD k)/\atKey xs k=some p/\RelV v p.2/\Q v H2
def uj (hu:X.A.units+16<cLine)(ho:PE X o td)(hi:PE X i ty)(hs:ny i):PE X (.Subscript o i pos) (GQ a hd X.prog X.w X.K td ty):=by intro pins s σ H Q I h;refine pZ PySem.F.slot_dict_getitem.lookup hs (thn (ho pins s σ H _ I h) λu s1 ⟨x,H1,I1,rx,q1⟩=>thn (hi pins s1 σ H1 _ I1 q1) λiv s2 ⟨y,H2,I2,ry,d,ob,b,k,xs,p,v,ex,ey,ha,hk,g,hp,rv,q2⟩=>?_);subst ex ey;obtain rfl:u=IT d:=rx;obtain rfl:iv=IT b:=ry;obtain⟨_,es,ep,g1,g2,g3,g4,g5⟩:=ze I2 ha;have dd:s2.heap.DictOfH (kd a hd X.prog X.w) d xs:=⟨ob,es,ep,g1,g2,g3,g4,λx hx=>key_is I2 (hk x hx),g5⟩;exact⟨dd.typeIs,wpAny_getItem_heap (show X.A.units+1+8<cLine by omega) (key_is I2 g) dd hp ⟨v,H2,I2.tok _,rv,q2⟩⟩
end
end Ev
namespace Hy
open PySem PySem.Spec PyProof.Rows L2
open Ev (D Den aw KD NEs dNk iC Bx aq ze Itw qW uj)
section
variable {K:Type}[DecidableEq K]{a:KD K}{hd:a.dep<=7}{X:Cx}{C:Bool}{τ:List Sl}{x:D}{b e o ix tg:Expr}{pos p q:Pos}{k:Nat}{N:Po}{rest:List Stmt}{m:List (K×D)}{key:K}
noncomputable def bxW (a:KD K)(hd:a.dep<=7)(P:FB)(w:World)(m:List (K×D)):Bx where
 p:=λF H d=>∃ob xs,H d=some (.frz ob (dNk a hd P w d xs))/\EnK a F H xs m
 mono:=λe ⟨ob,xs,h1,h2⟩=>⟨ob,xs,e _ _ h1,h2.mono e⟩
 isd:=λ{_ _ d} ⟨ob,xs,h1,_⟩=>⟨_,h1,λP w H' h z=>let ⟨_,o,_,_,z1,z2,_⟩:=z.2.1; ⟨o,z1,z2.1⟩⟩
noncomputable def exW (a:KD K)(hd:a.dep<=7)(P:FB)(w:World)(ob:Obj)(m:List (K×D)):Ex where
 p:=λF G o p=>∃xs,o=.frz ob (dNk a hd P w p xs)/\EnK a F G xs m
 mono:=λe ⟨xs,h1,h2⟩=>⟨xs,h1,h2.mono e⟩
 ext:=λ⟨xs,h1,_⟩=>.inr (.inl ⟨_,_,h1⟩)
def Sta.fzW (S:Sta F A H₀ τ B σ H)(hi:τ[i]?=some (.x (exW a hd P w ob m))):Sta F A H₀ (τ.set i (.d (.box (bxW a hd P w m)))) (upB B i []) σ H:=S.less (λ_ z=>nomatch z) λG g hv=>by obtain⟨d,o,h1,h2,h3,xs,h4,h5⟩:=S.sl i _ hi;subst h4;exact⟨rfl,_,h2,.box ⟨ob,xs,hv d _ (by rw[h1]; exact gV.mpr rfl) (λz=>nomatch z) h3,h5.mono g⟩⟩
def Cg (i:Nat)(h:PSs X rest (dS X.K (τ.set i (.d (.box (bxW a hd X.prog X.w m)))) N))(hi:τ[i]?=some (.x (exK a hd X.prog X.w m)):=by rfl):PSs X rest .(114):=by intro pins s σ H D I ⟨A,H₀,B,S,Me⟩;obtain⟨d,xs,h1,h2,h3,h4⟩:=S.dct hi;obtain⟨⟨z0,o,es,ep,z1,z2⟩,z3,z4⟩:=(show bL X.prog X.w H s.heap d (dNk a hd X.prog X.w d xs) from I.hok d _ h3);have I2:Inv X pins σ (upd H d (.frz o (dNk a hd X.prog X.w d xs))) s:=gh (t':=s.toks) (h':=s.heap) I (by rw[h3]; exact J6) (.refl _ _) ⟨o,z1⟩ ⟨z1,⟨z0,o,es,ep,z1,z2⟩,z3,z4⟩;have hl:=(tf.mp hi).1;have S2:=S.AA (E':=exW a hd X.prog X.w o m) hi h2 ⟨xs,rfl,h4⟩;have S3:=S2.fzW (ob:=o) (m:=m) (IH hl);rw[List.set_set]at S3;exact h pins s σ _ D I2 ⟨A,H₀,_,S3,Me⟩
def sZ (hu:X.A.units+16<cLine)(hb:PE X b (dE X.K C τ (.d (.box (bxW a hd X.prog X.w m)))))(hk:PE X ix (dE X.K C τ (.d (a.toD key))))(hx:getM m key=some x)(hr:∀H v,Den X.K H v (a.toD key)->∃b,v=.ref b)(hs:ny ix):PE X (.Subscript b ix pos) .(124):=
 peW (uj (a:=a) (hd:=hd) hu hb hk hs) λσ H Q q=>by
   obtain⟨A,H₀,B,S,kk⟩:=dj q;refine aV S λv H1 e1 d1=>aV .(129) λy H2 e2 dy=>?_;obtain⟨b',rfl⟩:=hr _ _ dy;cases d1.mono (aD e2 λ_ z=>z) with
   | box h=>obtain⟨ob,xs,g3,g4⟩:=h;have:=g4.at key;rw[hx]at this;obtain⟨pp,v,h1,h2,h3⟩:=this;exact⟨_,ob,b',key,xs,pp,v,rfl,rfl,aT _ _ g3,λz hz=>(g4.key z hz).mono aT,dy.mono aT,h1,h2,kk v H2 (e1.trans e2) h3⟩
theorem EnK.yO :∀{xs:NEs K} {m:List (K×D)},EnK a F G xs m->∀i (h:i<m.length),∃p,xs[i]?=some p/\p.1=(m[i]).1
 | _,_,.nil,i,h=>absurd h .(4)
 | _,_,.cons ..,0,_=>⟨_,rfl,rfl⟩
 | _,_,.cons _ _ _ r,i+1,h=>by obtain⟨p,h1,h2⟩:=EnK.yO r i (by simpa using h);exact⟨p,h1,h2⟩
def uu (h:PE X e (dE X.K true τ (.d (.box (bxW a hd X.prog X.w m)))))(hc:X.calm=true:=by first | rfl | assumption):PI X tg e (dI X.K τ (m.map λp=>a.toD p.1)):=piW (qW (a:=a) (hd:=hd) hc h) λσ H R ⟨A,H₀,B,S,k⟩=>aV S λv H1 e1 d1=>by
 cases d1 with
 | box h=>
   obtain⟨ob,xs,g,en⟩:=h;have ln:=en.length;refine⟨_,ob,xs,rfl,aT _ _ g,k _ H1 e1 λH2 sg=>⟨λi hi=>⟨by rw[ln]; simpa using hi,sg _ _ g⟩,λi hi=>⟨⟨by rw[ln]; simpa using hi,sg _ _ g⟩,λx H' ⟨eH,p,hp,ex⟩=>?_⟩⟩⟩;subst eH ex;refine⟨ao.refl _,λM hM sM=>?_⟩;have hi':i<m.length:=by simpa using hi
   obtain⟨p',hp',ek⟩:=en.yO i hi';rw[hp]at hp';cases hp';rw[JG,<- ek];exact(en.key p (Jp hp)).mono sM
end
end Hy
namespace Ev
open PySem PySem.Spec PyProof.Rows L2
end Ev
namespace Hy
open PySem PySem.Spec PyProof.Rows L2
open Ev (D Den aw aq)
end Hy
namespace Tx
open PySem
noncomputable def inj (c:Nat):List (List Nat)->List Nat
 | []=>[]
 | [a]=>a
 | a::b::r=>a++c::inj c (b::r)
noncomputable def cs (x:Str):List Nat:=x.cps.toList
end Tx
namespace Hx
open PySem PySem.Spec PyProof.Rows
end Hx
namespace Hx
open PySem PySem.Spec PySem.Calls PyProof.Rows PySem.W
end Hx
namespace Hx
open PySem PySem.Spec PySem.Calls PyProof.Rows PySem.W L2
def there (x:bL P w H h a o):∃u,h.get? a=some u:=by
 cases o with
 | lst xs=>obtain⟨_,_,_,_,e⟩:=x; exact⟨_,e⟩
 | tup xs=>obtain⟨_,_,_,o,e,_⟩:=x; exact⟨_,e⟩
 | dK kvs=>obtain⟨_,_,_,_,o,_,_,e,_⟩:=x; exact⟨_,e⟩
 | dT kvs=>obtain⟨_,_,_,_,o,_,_,e,_⟩:=x; exact⟨_,e⟩
 | set S n=>obtain⟨o,_,_,_,e,_⟩:=x; exact⟨_,e⟩
 | ins C dx fs=>obtain⟨_,_,_,e,_⟩:=x; exact⟨_,e⟩
 | own y=>exact x
 | xd fs=>obtain⟨_,⟨o,_,_,e,_⟩,_⟩:=x; exact⟨_,e⟩
 | met f y=>exact⟨_,x⟩
 | rng lo hi=>obtain⟨_,_,_,e⟩:=x; exact⟨_,e⟩
 | frz o u=>exact⟨_,x.1⟩
 | tbl ps=>exact⟨_,x⟩
 | ext φ=>exact x.2.1
end Hx
namespace Hy
open PySem PySem.Spec PyProof.Rows L2
open Ev (D Den aw aq)
end Hy
namespace Hx
open PySem PySem.Spec PyProof.Rows L2
end Hx
namespace Hy
open PySem PySem.Spec PyProof.Rows L2
end Hy
namespace Hy
open PySem PySem.Spec PyProof.Rows L2
open Ev (D Den aw aq a5 aR)
section
variable {X:Cx}{C:Bool}{τ:List Sl}{a b e e1 e2 e3 o:Expr}{pos p2:Pos}{k:Nat}{x:D}{N:Po}{rest:List Stmt}
def qw {lo hi:Option Expr}{l u:Option Int}{xs:List D}(ha:PE X a (dE X.K C τ (.d (.tup xs))))(hl:PO X lo (dO X.K τ l))(hu:PO X hi (dO X.K τ u))(hw:¬(HT.sIx xs.length 0 l=0/\HT.sIx xs.length xs.length u=xs.length)):PE X (.Subscript a (.Slice lo hi none p2) pos) (dE X.K C τ (.d (.tup (cutD xs l u)))):=
 peW (rK Ee ha hl hu) λσ H Q q=>by
   obtain⟨A,H₀,B,S,k⟩:=dj q
   exact aV S λv H1 e1 d1=>⟨A,H₀,B,S.mono e1,λH2 e2=>⟨A,H₀,B,.(129).mono e2,λH3 e3=>by
     cases d1 with
     | @tup _ ws _ h r=>
       have h:=a5 (e2.trans e3) (a5 aT h);have r:=r.mono (aD (e2.trans e3) λ_ z=>z);refine⟨_,_,rfl,h,by rw[r.length]; exact hw,λp hp=>?_⟩;have r':aw X.K (hd H3 (vw C A B)) (mD ws l u) (cutD xs l u):=(by unfold mD cutD;rw[r.length];exact(r.drop _).take _);have hM:=((.(129).mono e2).mono e3).vd (C:=C);have e4:=aq hp (.tup (mD ws l u));exact k _ _ ((e1.trans (e2.trans e3)).trans e4) (.tup (SqT.of (lg hM hp)) (r'.mono (aD e4 λ_ z=>z)))⟩⟩
theorem iY {K:fw}:∀{vs:List V} {bs:List Addr} {ds:List D},aW K G H vs bs (ds.map .d)->aw K G vs ds/\bs=[]
 | _,_,[],h=>by cases h; exact⟨.nil,rfl⟩
 | _,_,x::ds,h=>by
   rw[IJ]at h;cases h with
   | cons h r=>
     cases h with
     | d h=>obtain⟨d1,rfl⟩:=iY r;exact⟨.cons h d1,rfl⟩
def xT {i:Nat}{pt:List Nat}{t:Nd}{ds:List D}{m:Int}{j:Nat}{ix:Expr}{sp:Pos}(ho:PE X o (dP X.K τ i pt))(hx:PE X ix (dE X.K false τ (.d (.int m))))(he:PE X e (dE X.K true τ (.d x)))(hi:τ[i]?=some (.n t))(hp:cP pt t=some (.l (ds.map .d)))(hj:ixN ds.length m=some j)
   (hr:PSs X rest (dS X.K (τ.set i (.n (cy pt t (.l ((ds.set j x).map .d))))) N))
   (hs:NL [.Subscript o ix sp] e pos.line X.env=pure false:=by rfl) (hw:NM [.Subscript o ix sp] e X.env=pure none:=by rfl) (h1:(KM [.Subscript o ix sp] X.env).map (·.2)=[assign (.Subscript o ix sp) X.env]:=by rfl)
   (ha:∀v,assign (.Subscript o ix sp) X.env v=(do
     let ov <- N3 [v] (eval o X.env)
     let iv <- N3 [v,ov] (eval ix X.env)
     O1 sp
     N3 [v,ov,iv] (O2 ov iv v)
     Of [v,ov,iv] []):=by intro _; rfl) :
   PSs X (.Assign [.Subscript o ix sp] e pos::rest) .(114):=
 bB (M:=(·=τ.set i (.n (cy pt t (.l ((ds.set j x).map .d)))))) (psW (jM he (iM ho hx set_list ha) hs hw h1) λD σ H ⟨A,H₀,B,S,Me⟩=>aV S λv H1 e1 d1=>by
   refine⟨A,H₀,B,S.mono e1,λu w H2 eu e2 pv=>aV (.(129).mono e2) λy H3 e3 d3=>?_⟩;have S3:=(.(129).mono e2).mono e3;obtain⟨u',l,vs,bs0,eu',pv',hH,r0,nd0,hal,hown,put⟩:=S3.putN hi hp;rw[eu]at eu';cases eu';obtain rfl:=(pv.mono e3).det pv';cases d3;obtain⟨dl,rfl⟩:=iY r0;refine⟨l,vs,m,j,rfl,rfl,hH,by rw[dl.length]; exact hj,?_⟩;have sm:ao (hd H3 (own A B)) (hd (upd H3 l (.lst (vs.set j v))) λb=>own A B b\/b∈([]:List Addr)):=λb o z=>by obtain⟨z1,z2⟩:=ar.mp z;exact ar.mpr ⟨(λy=>y.elim z1 λy=>(nomatch y)),by rw[aF (λy:b=l=>z1 (by rw[y]; exact hal))]; exact z2⟩
   obtain⟨B',S'⟩:=put (H1:=H3) (vs':=vs.set j v) (bs1:=[]) (xs':=(ds.set j x).map .d) .(102) Kd (λ_ z=>nomatch z) (k5 ((fZ j dl (d1.mono (aD (e2.trans e3) λ_ z=>z))).mono sm));exact Me.nx _ B' _ _ rfl S') λ_ e=>e▸hr
end
end Hy
namespace K33
open PySem PySem.Spec PyProof.Rows L2 Hy
open Ev (D Den aw aI aK)
noncomputable def aA (f:Nat->Rat):Nat->Rat
 | 0=>0
 | n+1=>aA f n+f n
theorem au :∀{n:Nat},(∀k<n,f k=g k)->aA f n=aA g n
 | 0,_=>rfl
 | n+1,h=>by rw[aA,aA,au λk hk=>h k .(0),h n .(0)]
theorem a7 (c:Rat)(f:Nat->Rat):∀n:Nat,c*aA f n=aA (λk=>c*f k) n
 | 0=>IG c
 | n+1=>by rw[aA,aA,MY,a7 c f n]
theorem gY (c:Rat)(f:Nat->Rat):∀n:Nat,aA f n*c=aA (λk=>f k*c) n
 | 0=>IU c
 | n+1=>by rw[aA,aA,Rat.add_mul,gY c f n]
theorem df (f g:Nat->Rat):∀n:Nat,aA (λk=>f k+g k) n=aA f n+aA g n
 | 0=>(IV 0).symm
 | n+1=>by rw[aA,aA,aA,df f g n]; grind
def jN:∀n:Nat,aA (λ_=>0) n=0
 | 0=>rfl
 | n+1=>by rw[aA,jN n,IV]
theorem fL (f:Nat->Nat->Rat)(m:Nat):∀n:Nat,aA (λk=>aA (λl=>f k l) m) n=aA (λl=>aA (λk=>f k l) n) m
 | 0=>by simp only[aA]; exact(jN m).symm
 | n+1=>by simp only[aA]; rw[fL f m n,<- df]
noncomputable def dq (i j:Nat):Rat:=if i=j then 1 else 0
theorem rQ (A:Nat->Rat)(j:Nat):∀n:Nat,n<=j->aA (λk=>A k*dq k j) n=0
 | 0,_=>rfl
 | n+1,h=>by rw[aA,rQ A j n .(0),dq,if_neg .(0),IG,IV]
theorem bN (A:Nat->Rat)(j:Nat):∀n:Nat,j<n->aA (λk=>A k*dq k j) n=A j
 | n+1,h=>by
   rw[aA];by_cases e:j=n
   . subst e;rw[rQ A j j .(3),dq,if_pos rfl,J3,Kk]
   . rw[bN A j n .(0),dq,if_neg .(0),IG,IV]
def lF (A:Nat->Rat)(i n:Nat)(h:i<n):aA (λk=>dq i k*A k) n=A i:=by
 rw[<- bN A i n h];congr 1;funext k;rw[J0,dq,dq];by_cases e:i=k
 . rw[if_pos e,if_pos e.symm]
 . rw[if_neg e,if_neg λz=>e z.symm]
noncomputable def skp (i r:Nat):Nat:=if r<i then r else r+1
noncomputable def minor (M:Nat->Nat->Rat)(i r c:Nat):Rat:=M (skp i r) (c+1)
noncomputable def sgn (i:Nat):Rat:=if i%2=0 then 1 else -1
def gD (i:Nat):sgn (i+1)=-sgn i:=by
 unfold sgn;by_cases h:i%2=0
 . rw[if_pos h,if_neg .(0)]
 . rw[if_neg h,if_pos .(0)];rfl
def pA (i:Nat):sgn i*sgn i=1:=by unfold sgn;split <;> grind
noncomputable def det:Nat->(Nat->Nat->Rat)->Rat
 | 0,_=>1
 | n+1,M=>aA (λi=>sgn i*M i 0*det n (minor M i)) (n+1)
def iS (h:r<n):skp i r<n+1:=by unfold skp; split <;> omega
def En (i r:Nat):skp i r≠i:=by unfold skp; split <;> omega
theorem aG:∀{n:Nat} {M M':Nat->Nat->Rat},(∀i<n,∀j<n,M i j=M' i j)->det n M=det n M'
 | 0,_,_,_=>rfl
 | n+1,M,M',h=>by unfold det;refine au λi hi=>?_;rw[h i hi 0 .(0),aG (M:=minor M i) (M':=minor M' i) λr hr c hc=>h _ (iS hr) _ .(0)]
noncomputable def aC (M:Nat->Nat->Rat)(p:Nat)(v:Nat->Rat)(r c:Nat):Rat:=if r=p then v c else M r c
noncomputable def aO (M:Nat->Nat->Rat)(q:Nat)(v:Nat->Rat)(r c:Nat):Rat:=if c=q then v r else M r c
noncomputable def un (i p:Nat):Nat:=if p<i then p else p-1
def i4 (M:Nat->Nat->Rat)(p:Nat)(v:Nat->Rat):minor (aC M p v) p=minor M p:=by funext r c;unfold minor aC;rw[if_neg (En p r)]
def gJ (M:Nat->Nat->Rat)(h:i≠p)(v:Nat->Rat):minor (aC M p v) i=aC (minor M i) (un i p) λc=>v (c+1):=by
 funext r c;unfold minor aC;have:skp i r=p↔r=un i p:=by unfold skp un; split <;> split <;> omega
 by_cases q:skp i r=p
 . rw[if_pos q,if_pos (this.mp q)]
 . rw[if_neg q,if_neg λz=>q (this.mpr z)]
theorem pX:∀{n:Nat} (M:Nat->Nat->Rat) {p:Nat},p<n->∀(a b:Rat) (x y:Nat->Rat),det n (aC M p λc=>a*x c+b*y c)=a*det n (aC M p x)+b*det n (aC M p y)
 | 0,_,_,h,_,_,_,_=>absurd h .(6)
 | n+1,M,p,hp,a,b,x,y=>by
   unfold det;rw[a7,a7,<- df];refine au λi hi=>?_;by_cases h:i=p
   . subst h;rw[i4,i4,i4];simp only[aC,if_pos rfl];grind
   . rw[gJ M h,gJ M h,gJ M h,pX (minor M i) (show un i p<n by unfold un; split <;> omega) a b];simp only[aC,if_neg h];grind
def xP (h0:∀i,i≠p->i≠p+1->f i=0)(h:f p+f (p+1)=0):∀n,p+1<n->aA f n=0:=by
 have z:∀n,n<=p->aA f n=0:=by
   intro n;induction n with
   | zero=>intro _; rfl
   | succ n ih=>intro hn; rw[aA,ih .(0),h0 n .(0) .(0),IV]
 intro n;induction n with
 | zero=>intro hn; omega
 | succ n ih=>
   intro hn;rw[aA];by_cases q:n=p+1
   . subst q;rw[aA,z p .(3),Kk];exact h
   . rw[ih .(0),h0 n .(0) q,IV]
def bx (h:∀i<n,f i=0):aA f n=0:=by rw[au h]; exact jN n
theorem pf:∀{n:Nat} {M:Nat->Nat->Rat} {p:Nat},p+1<n->(∀c<n,M p c=M (p+1) c)->det n M=0
 | 0,_,_,h,_=>absurd h .(6)
 | n+1,M,p,hp,h=>by
   unfold det
   let f:Nat->Rat:=λi=>if i<n+1 then sgn i*M i 0*det n (minor M i) else 0
   have e:aA (λi=>sgn i*M i 0*det n (minor M i)) (n+1)=aA f (n+1):=au λi hi=>by simp only[f]; rw[if_pos hi]
   rw[e];refine xP (p:=p) (λi h1 h2=>?_) ?_ _ hp
   . simp only[f];by_cases hi:i<n+1
     . rw[if_pos hi]
       have:det n (minor M i)=0:=by
         by_cases q:i<p
         . refine pf (p:=p-1) .(0) λc hc=>?_;unfold minor skp;rw[if_neg .(0),if_neg .(0),show p-1+1=p by omega];exact h (c+1) .(0)
         . refine pf (p:=p) .(0) λc hc=>?_;unfold minor skp;rw[if_pos .(0),if_pos .(0)];exact h (c+1) .(0)
       rw[this,IG]
     . rw[if_neg hi]
   . simp only[f];rw[if_pos .(0),if_pos hp,gD,<- h 0 .(0)]
     have:det n (minor M p)=det n (minor M (p+1)):=aG λr hr c hc=>by
       unfold minor skp;by_cases q:r<p
       . rw[if_pos q,if_pos .(0)]
       . rw[if_neg q];by_cases q2:r=p
         . subst q2;rw[if_pos .(0)];exact(h (c+1) .(0)).symm
         . rw[if_neg .(0)]
     rw[this];grind
structure ML (n:Nat)(f:(Nat->Nat->Rat)->Rat):Prop where
 cong:∀{M M':Nat->Nat->Rat},(∀i<n,∀j<n,M i j=M' i j)->f M=f M'
 lin:∀(M:Nat->Nat->Rat) {p:Nat},p<n->∀(a b:Rat) (x y:Nat->Rat),f (aC M p λc=>a*x c+b*y c)=a*f (aC M p x)+b*f (aC M p y)
 alt:∀{M:Nat->Nat->Rat} {p:Nat},p+1<n->(∀c<n,M p c=M (p+1) c)->f M=0
def b9 (n:Nat):ML n (det n):=⟨aG,pX,pf⟩
section
variable {n:Nat}{f:(Nat->Nat->Rat)->Rat}
def bD (M:Nat->Nat->Rat)(p:Nat):aC M p (M p)=M:=by
 funext r c;unfold aC;split
 . rename_i h; rw[h]
 . rfl
def bT :aC M p v p=v:=by funext c; unfold aC; rw[if_pos rfl]
def bU (h:r≠p):aC M p v r=M r:=by funext c; unfold aC; rw[if_neg h]
def bF (h:p≠q):aC (aC M p v) q u=aC (aC M q u) p v:=by
 funext r c;unfold aC;by_cases h1:r=q
 . rw[if_pos h1,if_neg λz=>h (z.symm.trans h1),if_pos h1]
 . rw[if_neg h1,if_neg h1]
def ML.add (h:ML n f)(M:Nat->Nat->Rat)(hp:p<n)(x y:Nat->Rat):f (aC M p λc=>x c+y c)=f (aC M p x)+f (aC M p y):=by have:=h.lin M hp 1 1 x y;simp only[Jd]at this;exact this
def ML.nb (h:ML n f)(M:Nat->Nat->Rat)(hp:p+1<n)(x y:Nat->Rat):f (aC (aC M p x) (p+1) y)=-f (aC (aC M p y) (p+1) x):=by
 have z:∀u:Nat->Rat,f (aC (aC M p u) (p+1) u)=0:=λu=>h.alt hp λc _=>by rw[bT,bU .(0),bT]
 have e:=z λc=>x c+y c;rw[h.add _ hp]at e;rw[bF .(0),h.add _ (show p<n by omega),bF (M:=M) (p:=p) (q:=p+1) (v:=λc=>x c+y c) (u:=y) .(0),h.add _ (show p<n by omega)]at e;rw[bF (M:=M) (p:=p+1) (q:=p) (v:=x) (u:=x) .(0),z x,bF (M:=M) (p:=p+1) (q:=p) (v:=y) (u:=y) .(0),z y,bF (M:=M) (p:=p+1) (q:=p) (v:=x) (u:=y) .(0),bF (M:=M) (p:=p+1) (q:=p) (v:=y) (u:=x) .(0)]at e;grind
theorem ML.two (h:ML n f):∀(d:Nat) (M:Nat->Nat->Rat) (p:Nat),p+1+d<n->M p=M (p+1+d)->f M=0
 | 0,M,p,hp,e=>h.alt hp λc _=>by rw[e]
 | d+1,M,p,hp,e=>by have s:=h.nb M (p:=p+1+d) .(0) (M (p+1+d)) (M (p+1+d+1));rw[bD,bD]at s;rw[s,ML.two h d _ p .(0) (by rw[bU .(0),bU .(0),bU .(0),bT]; exact e)];rfl
def ML.same (h:ML n f)(hp:p<n)(hq:q<n)(hpq:p≠q)(e:M p=M q):f M=0:=by
 rcases Nat.lt_or_lt_of_ne hpq with z | z
 . exact h.two (q-p-1) M p .(0) (by rw[show p+1+(q-p-1)=q by omega]; exact e)
 . exact h.two (p-q-1) M q .(0) (by rw[show q+1+(p-q-1)=p by omega]; exact e.symm)
def ML.swap (h:ML n f)(hp:p<n)(hq:q<n)(hpq:p≠q)(x y:Nat->Rat):f (aC (aC M p x) q y)=-f (aC (aC M p y) q x):=by have z:∀u:Nat->Rat,f (aC (aC M p u) q u)=0:=λu=>h.same hp hq hpq (by rw[bT,bU hpq,bT]);have e:=z λc=>x c+y c;have c1:∀u v:Nat->Rat,aC (aC M q u) p v=aC (aC M p v) q u:=λu v=>bF λz=>hpq z.symm;rw[h.add _ hq,bF hpq,h.add _ hp,bF (M:=M) (p:=p) (q:=q) (v:=λc=>x c+y c) (u:=y) hpq,h.add _ hp,c1,c1,c1,c1,z x,z y]at e;grind
def ML.xJ (h:ML n f)(M:Nat->Nat->Rat)(hp:p<n):f (aC M p λ_=>0)=0:=by have:=h.lin M hp 0 0 (λ_=>0) (λ_=>0);simp only[IU,IV]at this;exact this
theorem ML.sum (h:ML n f)(M:Nat->Nat->Rat)(hp:p<n)(v:Nat->Rat)(e:Nat->Nat->Rat):∀m,f (aC M p λj=>aA (λc=>v c*e c j) m)=aA (λc=>v c*f (aC M p (e c))) m
 | 0=>h.xJ M hp
 | m+1=>by have:=h.lin M hp 1 (v m) (λj=>aA (λc=>v c*e c j) m) (e m);simp only[Jd]at this;rw[aA,<- ML.sum h M hp v e m];exact this
def ML.comb (h:ML n f)(M:Nat->Nat->Rat)(hp:p<n)(hk:k<=p)(d:Rat)(β:Nat->Rat):f (aC M p λj=>d*M p j+aA (λi=>β i*M i j) k)=d*f M:=by have e:=h.lin M hp d 1 (M p) (λj=>aA (λi=>β i*M i j) k);simp only[Jd]at e;rw[e,bD,h.sum M hp β M k,bx,IV];intro i hi;rw[h.same (p:=i) (q:=p) .(0) hp .(0) (by rw[bU .(0),bT]),IG]
end
noncomputable def idQ (i j:Nat):Rat:=if i=j then 1 else 0
noncomputable def un1 (σ:Nat->Nat)(i j:Nat):Rat:=if σ i=j then 1 else 0
theorem zK:∀(m:Nat) (σ:Nat->Nat),(∀i<m+1,σ i<m)->∃i j,i<j/\j<m+1/\σ i=σ j
 | 0,σ,h=>absurd (h 0 .(2)) .(6)
 | m+1,σ,h=>by
   by_cases q:∃i,i<m+1/\σ i=σ (m+1)
   . obtain⟨i,hi,e⟩:=q;exact⟨i,m+1,hi,by omega,e⟩
   . have q':∀i<m+1,σ i≠σ (m+1):=λi hi z=>q ⟨i,hi,z⟩;obtain⟨i,j,h1,h2,e⟩:=zK m (λi=>if σ (m+1)<σ i then σ i-1 else σ i) λi hi=>by have a:=h i .(0);have b:=h (m+1) .(0);have c:=q' i hi;split <;> omega
     refine⟨i,j,h1,by omega,?_⟩;have a:=q' i .(0);have b:=q' j h2;split at e <;> split at e <;> omega
def A9 {σ:Nat->Nat}(h:∀i<n,σ i<n)(hk:k<n)(hn:∀i<n,σ i≠k):∃i j,i<j/\j<n/\σ i=σ j:=by
 obtain⟨m,rfl⟩:∃m,n=m+1:=⟨n-1,by omega⟩;obtain⟨i,j,h1,h2,e⟩:=zK m (λi=>if k<σ i then σ i-1 else σ i) λi hi=>by have a:=h i hi;have b:=hn i hi;split <;> omega
 refine⟨i,j,h1,h2,?_⟩;have a:=hn i .(0);have b:=hn j h2;split at e <;> split at e <;> omega
section
variable {n:Nat}{h:(Nat->Nat->Rat)->Rat}
theorem ML.zo (H:ML n h)(h0:h idQ=0):∀(d k:Nat),k+d=n->∀σ:Nat->Nat,(∀i<n,σ i<n)->(∀i<k,σ i=i)->h (un1 σ)=0
 | 0,k,hk,σ,_,hf=>by rw[<- h0];exact H.cong λi hi j _=>by unfold un1 idQ; rw[hf i .(0)]
 | d+1,k,hk,σ,hs,hf=>by
   by_cases q:∃j,k<=j/\j<n/\σ j=k
   . obtain⟨j,h1,h2,h3⟩:=q;by_cases z:j=k
     . subst z
       exact ML.zo H h0 d (j+1) .(0) σ hs λi hi=>by
         by_cases y:i=j
         . rw[y]; exact h3
         . exact hf i .(0)
     . have e:un1 σ=aC (aC (un1 σ) k (un1 σ k)) j (un1 σ j):=by rw[bD,bD]
       have e2:aC (aC (un1 σ) k (un1 σ j)) j (un1 σ k)=un1 λi=>if i=j then σ k else if i=k then σ j else σ i:=by funext r c;have zk:¬k=j:=λy=>z y.symm;by_cases y1:r=j <;> by_cases y2:r=k <;> simp[aC,un1,y1,y2,zk]
       rw[e,H.swap .(0) h2 (λy=>z y.symm),e2,ML.zo H h0 d (k+1) .(0) _ (λi hi=>?_) (λi hi=>?_)]
       . rfl
       . split
         . exact hs k .(0)
         . split
           . exact hs j h2
           . exact hs i hi
       . rw[if_neg .(0)];by_cases y:i=k
         . rw[if_pos y,h3,y]
         . rw[if_neg y];exact hf i .(0)
   . obtain⟨i,j,h1,h2,e⟩:=A9 hs (show k<n by omega) λi hi z=>by
       by_cases y:i<k
       . have:=hf i y;omega
       . exact q ⟨i,by omega,hi,z⟩
     exact H.same (p:=i) (q:=j) .(0) h2 .(0) (by funext c; unfold un1; rw[e])
noncomputable def px (k:Nat)(M:Nat->Nat->Rat)(σ:Nat->Nat)(i j:Nat):Rat:=if i<k then M i j else un1 σ i j
theorem ML.FC (H:ML n h)(h0:h idQ=0)(M:Nat->Nat->Rat):∀(k:Nat),k<=n->∀σ:Nat->Nat,(∀i<n,σ i<n)->h (px k M σ)=0
 | 0,_,σ,hs=>by rw[<- ML.zo H h0 n 0 .(0) σ hs λi hi=>absurd hi .(6)];exact H.cong λi _ j _=>by unfold px; rw[if_neg .(6)]
 | k+1,hk,σ,hs=>by
   have e:h (px (k+1) M σ)=h (aC (px k M σ) k λj=>aA (λc=>M k c*idQ c j) n):=H.cong λi hi j hj=>by
     unfold aC px;by_cases y:i=k
     . subst y;rw[if_pos .(0),if_pos rfl];exact(bN (M i) j n hj).symm
     . rw[if_neg y];by_cases z:i<k
       . rw[if_pos .(0),if_pos z]
       . rw[if_neg .(0),if_neg z]
   rw[e,H.sum _ .(0),bx];intro c hc;have e2:aC (px k M σ) k (idQ c)=px k M λi=>if i=k then c else σ i:=by funext r j;by_cases y:r=k <;> simp[aC,px,un1,idQ,y]
   rw[e2,ML.FC H h0 M k .(0) _ (λi hi=>?_),IG];split
   . exact hc
   . exact hs i hi
def ML.zero (H:ML n h)(h0:h idQ=0)(M:Nat->Nat->Rat):h M=0:=by rw[<- ML.FC H h0 M n .(3) (λi=>i) λi hi=>hi];exact H.cong λi hi j _=>by unfold px; rw[if_pos hi]
end
def y6:minor idQ 0=idQ:=by
 funext r c;unfold minor idQ skp;rw[if_neg .(6)];by_cases h:r=c
 . rw[if_pos .(0),if_pos h]
 . rw[if_neg .(0),if_neg h]
theorem tX:∀n,det n idQ=1
 | 0=>rfl
 | n+1=>by
   unfold det;rw[au (g:=λi=>det n (minor idQ i)*idQ i 0) λi hi=>?_]
   . have:=bN (λi=>det n (minor idQ i)) 0 (n+1) .(0);have e:(λi=>det n (minor idQ i)*idQ i 0)=λk=>(λi=>det n (minor idQ i)) k*dq k 0:=rfl;rw[e,this,y6,tX n]
   . by_cases z:i=0
     . subst z;show 1*1*_=_*1;grind
     . unfold idQ;rw[if_neg z];grind
def ML.uniq (F:ML n f)(M:Nat->Nat->Rat):f M=det n M*f idQ:=by
 have D:=b9 n
 have H:ML n λM=>f M-det n M*f idQ:=by
   refine⟨λ{M M'} e=>?_,λM p hp a b x y=>?_,λ{M p} hp e=>?_⟩
   . rw[F.cong e,D.cong e]
   . rw[F.lin M hp,D.lin M hp];grind
   . rw[F.alt hp e,D.alt hp e];grind
 have:=H.zero (by rw[tX]; grind) M;grind
theorem ji:∀{n:Nat} (M:Nat->Nat->Rat) {q:Nat},q<n->∀(a b:Rat) (x y:Nat->Rat),det n (aO M q λc=>a*x c+b*y c)=a*det n (aO M q x)+b*det n (aO M q y)
 | 0,_,_,h,_,_,_,_=>absurd h .(6)
 | n+1,M,q,hq,a,b,x,y=>by
   unfold det;rw[a7,a7,<- df];refine au λi hi=>?_;cases q with
   | zero=>
     have e:∀v,minor (aO M 0 v) i=minor M i:=λv=>by funext r c;unfold minor aO;rw[if_neg .(0)]
     rw[e,e,e];simp only[aO,if_true];grind
   | succ q=>
     have e:∀v,minor (aO M (q+1) v) i=aO (minor M i) q λr=>v (skp i r):=λv=>by
       funext r c;unfold minor aO;by_cases z:c=q
       . rw[if_pos .(0),if_pos z]
       . rw[if_neg .(0),if_neg z]
     rw[e,e,e,ji (minor M i) (show q<n by omega) a b];have z:¬(0=q+1):=(by omega);simp only[aO,if_neg z];grind
theorem n8 (g:Nat->Rat)(i:Nat):∀n,i<=n->aA (λj=>g (skp i j)) n=aA g (n+1)-g i
 | 0,h=>by
   have:i=0:=by omega
   subst this;show (0:Rat)=0+g 0-g 0;grind
 | n+1,h=>by
   by_cases q:i=n+1
   . subst q;have e:aA (λj=>g (skp (n+1) j)) (n+1)=aA g (n+1):=au λk hk=>by unfold skp; rw[if_pos hk]
     rw[e,aA.eq_2 g (n+1)];grind
   . rw[aA,n8 g i n .(0),aA.eq_2 g (n+1)];have:skp i n=n+1:=by unfold skp; rw[if_neg .(0)]
     rw[this];grind
def wc {G:Nat->Nat->Rat}(h:∀i<n,∀j<n,G i j=-G j i):aA (λi=>aA (λj=>G i j) n) n=0:=by
 have e:aA (λi=>aA (λj=>G i j) n) n=-1*aA (λi=>aA (λj=>G i j) n) n:=by
   conv=>lhs; rw[fL]
   rw[a7];refine au λi hi=>?_;rw[a7];refine au λj hj=>?_;rw[h j hj i hi];grind
 grind
def AX (h:i<j):skp i (skp (j-1) r)=skp j (skp i r):=by unfold skp;split <;> split <;> (try split) <;> (try split) <;> omega
theorem se:∀{n:Nat} {M:Nat->Nat->Rat} {q:Nat},q+1<n->(∀r<n,M r q=M r (q+1))->det n M=0
 | 0,_,_,h,_=>absurd h .(6)
 | 1,_,_,h,_=>by omega
 | n+2,M,q+1,hq,h=>by rw[det];refine bx λi hi=>?_;rw[se (M:=minor M i) (q:=q) .(0) λr hr=>h _ (iS hr),IG]
 | n+2,M,0,hq,h=>by
   let D:Nat->Nat->Rat:=λi j=>det n λr c=>M (skp i (skp j r)) (c+2)
   let G:Nat->Nat->Rat:=λi j=>if i<j then -(sgn i*sgn j*M i 0*M j 0*D i (j-1)) else if j<i then sgn i*sgn j*M i 0*M j 0*D i j else 0
   have inner:∀i<n+2,sgn i*M i 0*det (n+1) (minor M i)=aA (λj=>G i j) (n+2):=λi hi=>by
     have e:aA (λj=>G i j) (n+2)=aA (λj=>G i (skp i j)) (n+1):=by
       have g0:G i i=0:=(by simp only[G]; rw[if_neg (Lb i),if_neg (Lb i)]);rw[n8 (λj=>G i j) i (n+1) .(0),g0];grind
     rw[e,det,a7];refine au λj hj=>?_;have m0:minor M i j 0=M (skp i j) 0:=(h _ (iS hj)).symm;have mm:det n (minor (minor M i) j)=D i j:=rfl;rw[m0,mm];simp only[G];by_cases z:j<i
     . have s:skp i j=j:=by unfold skp; rw[if_pos z]
       rw[s,if_neg .(0),if_pos z];grind
     . have s:skp i j=j+1:=by unfold skp; rw[if_neg z]
       rw[s,if_pos .(0),gD,show j+1-1=j by omega];grind
   rw[det,au inner];refine wc λi hi j hj=>?_;have sy:∀{i j:Nat},i<j->D i (j-1)=D j i:=λ{i j} z=>by simp only[D];congr 1;funext r c;rw[AX z]
   simp only[G];rcases MG i j with z | z | z
   . rw[if_pos z,if_neg .(0),if_pos z,sy z];grind
   . subst z;rw[if_neg .(11),if_neg .(11)];rfl
   . rw[if_neg .(0),if_pos z,if_pos z,sy z];grind
def cS (n:Nat)(M:Nat->Nat->Rat):det n (λi j=>M j i)=det n M:=by
 have H:ML n λM=>det n λi j=>M j i:=by refine⟨λ{M M'} e=>aG λi hi j hj=>e j hj i hi,λM p hp a b x y=>?_,λ{M p} hp e=>se hp λr hr=>e r hr⟩;exact ji (λi j=>M j i) hp a b x y
 have u:=H.uniq M
 have i1:(det n λi j=>idQ j i)=1:=by
   rw[<- tX n];congr 1;funext i j;unfold idQ;by_cases z:i=j
   . rw[if_pos z,if_pos z.symm]
   . rw[if_neg z,if_neg λy=>z y.symm]
 simp only[i1,J3]at u;exact u
theorem n9 (m:Nat):∀(k:Nat) (M:Nat->Nat->Rat),(∀i,k<=i->i<k+m->∀j<k,M i j=0)->det (k+m) M=det k M*det m λi j=>M (k+i) (k+j)
 | 0,M,_=>by rw[KG];show det m M=1*_;rw[Jd];congr 1;funext i j;rw[KG,KG]
 | k+1,M,h=>by
   have a:k+1+m=(k+m)+1:=by omega
   rw[a,det,det,gY]
   have tail:∀t,aA (λi=>sgn i*M i 0*det (k+m) (minor M i)) (k+1+t)=aA (λi=>sgn i*M i 0*det (k+m) (minor M i)) (k+1)\/¬t<=m:=by
     intro t;induction t with
     | zero=>exact .inl rfl
     | succ t ih=>
       by_cases q:t+1<=m
       . rcases ih with ih | ih
         . refine .inl ?_;rw[show k+1+(t+1)=(k+1+t)+1 by omega,aA,ih,h (k+1+t) .(0) .(0) 0 .(0)];grind
         . omega
       . exact .inr q
   rcases tail m with e | e
   . rw[show k+m+1=k+1+m by omega,e];refine au λi hi=>?_;rw[n9 m k (minor M i) λr h1 h2 c hc=>?_]
     . have:(λr c=>minor M i (k+r) (k+c))=λr c=>M (k+1+r) (k+1+c):=by funext r c;unfold minor skp;rw[if_neg .(0),show k+r+1=k+1+r by omega,show k+c+1=k+1+c by omega]
       rw[this];grind
     . unfold minor skp;rw[if_neg .(0)];exact h _ .(0) .(0) _ .(0)
   . exact absurd (IE m) e
noncomputable def bm (Y:Nat->Nat->Rat)(k p q:Nat):Rat:=det (k+1) λr c=>Y (if r<k then r else p) (if c<k then c else q)
noncomputable def bc (Y:Nat->Nat->Rat)(k p i:Nat):Rat:=det (k+1) (aC (λr c=>Y (if c<k then c else p) r) k (idQ i))
def hX (M:Nat->Nat->Rat):det 1 M=M 0 0:=by show 0+1*M 0 0*1=M 0 0;grind
def Bj (M:Nat->Nat->Rat):det 2 M=M 0 0*M 1 1-M 0 1*M 1 0:=by show 0+1*M 0 0*det 1 (minor M 0) + -1*M 1 0*det 1 (minor M 1)=_;rw[hX,hX];show 0+1*M 0 0*M 1 1 + -1*M 1 0*M 0 1=_;grind
section
variable {Y:Nat->Nat->Rat}{k p q:Nat}
def ue:bm Y k p q=det k Y*Y p q+aA (λi=>bc Y k p i*Y i q) k:=by
 have e:bm Y k p q=det (k+1) (aC (λr c=>Y (if c<k then c else p) r) k λr=>aA (λc=>Y (if c<k then c else p) q*idQ c r) (k+1)):=by
   unfold bm;rw[<- cS];refine aG λi hi j hj=>?_;unfold aC;by_cases z:i=k
   . subst z;rw[if_pos rfl,if_neg .(11)];exact(bN (λc=>Y (if c<i then c else p) q) j (i+1) hj).symm
   . rw[if_neg z,if_pos (show i<k by omega)]
 have last:det (k+1) (aC (λr c=>Y (if c<k then c else p) r) k (idQ k))=det k Y:=by
   rw[n9 1 k _ λi h1 h2 j hj=>?_,hX]
   . have e1:aC (λr c=>Y (if c<k then c else p) r) k (idQ k) (k+0) (k+0)=1:=by unfold aC idQ;rw[if_pos (Md k),if_pos (Md k).symm]
     rw[e1,J3,<- cS];refine aG λi hi j hj=>?_;unfold aC;rw[if_neg .(0)];dsimp only;rw[if_pos hi]
   . have:i=k:=by omega
     subst this;unfold aC idQ;rw[if_pos rfl,if_neg .(0)]
 rw[e,(b9 (k+1)).sum _ (Kw k),aA,last,if_neg .(11),Rat.add_comm,J0 (Y p q)];congr 1;exact au λi hi=>by rw[if_pos hi,J0]; rfl
def uD (h:q<k):bm Y k p q=0:=by unfold bm;rw[<- cS];refine(b9 (k+1)).same (p:=q) (q:=k) .(0) .(0) .(0) ?_;funext r;rw[if_pos h,if_neg .(11)]
noncomputable def rho (k m r:Nat):Nat:=if r<k then r else if r=k then k+m else if r<=k+m then r-1 else r
theorem pF :∀(m:Nat) (Y:Nat->Nat->Rat),k+m<n->(det n λr=>Y (rho k m r))=sgn m*det n Y
 | 0,Y,_=>by
   have:(λr=>Y (rho k 0 r))=Y:=by
     funext r;congr 1;unfold rho;split
     . rfl
     . split
       . omega
       . split <;> omega
   rw[this];show _=1*_;rw[Jd]
 | m+1,Y,h=>by
   have ih:=pF (n:=n) m (aC (aC Y (k+m) (Y (k+m+1))) (k+m+1) (Y (k+m))) .(0);have s:=(b9 n).nb Y (p:=k+m) .(0) (Y (k+m+1)) (Y (k+m));rw[bD,bD]at s;rw[s]at ih;rw[gD]
   have e:(λr=>aC (aC Y (k+m) (Y (k+m+1))) (k+m+1) (Y (k+m)) (rho k m r))=λr=>Y (rho k (m+1) r):=by
     funext r;by_cases z:rho k m r=k+m+1
     . rw[z,bT];congr 1;unfold rho at z ⊢;split at z
       . omega
       . split at z
         . omega
         . split at z
           . omega
           . rename_i a b c;rw[if_neg a,if_neg b,if_pos .(0)];omega
     . rw[bU z];by_cases y:rho k m r=k+m
       . rw[y,bT];congr 1;unfold rho at y z ⊢;split at y
         . omega
         . split at y
           . rename_i a b;rw[if_neg a,if_pos b];omega
           . split at y
             . omega
             . omega
       . rw[bU y];congr 1;unfold rho at y z ⊢;split at y
         . rename_i a;rw[if_pos a,if_pos a]
         . rename_i a;rw[if_neg a]at z;split at y
           . omega
           . rename_i b;rw[if_neg b]at z;rw[if_neg a,if_neg b,if_neg a,if_neg b];split at y
             . rename_i c;rw[if_pos c,if_pos .(0)]
             . rename_i c;rw[if_neg c]at z;rw[if_neg c,if_neg .(0)]
   rw[e]at ih;rw[ih];grind
end
def ZB (b:Nat)(x:Rat):Prop:=∃z:Int,x=(z:Rat)/\z.natAbs<=2^b
def ZB.mono (h:ZB b x)(hc:b<=c):ZB c x:=by obtain⟨z,e,l⟩:=h;exact⟨z,e,Il l (Ir .(2) hc)⟩
def ZB.mul (h:ZB b x)(g:ZB c y):ZB (b+c) (x*y):=by obtain⟨u,rfl,l⟩:=h;obtain⟨v,rfl,k⟩:=g;exact⟨u*v,(IA u v).symm,by rw[JE,JW]; exact Ju l k⟩
def ZB.sgn (i:Nat):ZB 0 (sgn i):=by
 show ZB 0 (if i%2=0 then 1 else -1);split
 . exact⟨1,rfl,by decide⟩
 . exact⟨-1,rfl,by decide⟩
theorem ZB.sum :∀{n:Nat},(∀i<n,ZB b (f i))->∃z:Int,aA f n=(z:Rat)/\z.natAbs<=n*2^b
 | 0,_=>⟨0,rfl,Im _⟩
 | n+1,h=>by obtain⟨u,e,l⟩:=ZB.sum λi hi=>h i (KZ hi);obtain⟨v,e',l'⟩:=h n (Kw n);refine⟨u+v,by rw[aA,e,e',Kl],?_⟩;rw[Jr];exact Il (Int.natAbs_add_le _ _) (Nat.add_le_add l l')
theorem AM :∀{n:Nat} {M:Nat->Nat->Rat},n<=8->(∀i<n,∀j<n,ZB b (M i j))->ZB (n*(b+3)) (det n M)
 | 0,_,_,_=>⟨1,rfl,Nat.one_le_two_pow⟩
 | n+1,M,hn,h=>by
   obtain⟨z,e,l⟩:=ZB.sum (b:=b+n*(b+3)) (f:=λi=>sgn i*M i 0*det n (minor M i)) (n:=n+1) λi hi=>by have:=((ZB.sgn i).mul (h i hi 0 .(0))).mul (AM (n:=n) (M:=minor M i) .(0) λr hr c hc=>h _ (iS hr) _ .(0));exact this.mono .(0)
   refine⟨z,e,Il l ?_⟩;rw[show (n+1)*(b+3)=3+(b+n*(b+3)) by rw[Jr]; omega,JW 2 3];exact Iu _ .(0)
noncomputable def kh (s:Nat->Rat):Nat->Rat
 | 0=>1
 | n+1=>kh s n*s n
theorem oD (s:Nat->Rat)(M:Nat->Nat->Rat):∀t,t<=n->det n (λi j=>if i<t then s i*M i j else M i j)=kh s t*det n M
 | 0,_=>by rw[kh,Jd];exact aG λi _ j _=>if_neg .(6)
 | t+1,h=>by
   have ih:=oD (n:=n) s M t .(0);have c:=(b9 n).comb (λi j=>if i<t then s i*M i j else M i j) (p:=t) (k:=0) .(0) (Im _) (s t) (λ_=>0);rw[ih]at c;rw[kh,J0 (kh s t),J1,<- c];refine aG λi _ j _=>?_;unfold aC;by_cases q:i=t
   . subst q;rw[if_pos (Kw i),if_pos rfl];dsimp only;rw[if_neg (Lb i)];show _=_+0;rw[IV]
   . rw[if_neg q];dsimp only;by_cases z:i<t
     . rw[if_pos .(0),if_pos z]
     . rw[if_neg .(0),if_neg z]
noncomputable def sh (k:Int)(j:Nat):Bool:=decide (MP (k/2^j) 1=1)
noncomputable def lV (k:Int)(j:Nat):Int:=M5 k (1*2^j)
noncomputable def sgZ (b:Int):Int:=1-2*b.fmod 2
noncomputable def mh (row:List Int)(k v:Int)(j:Nat)(s:Int×List (Int×Int)):Int×List (Int×Int):=if sh k j then (s.1+1,s.2) else (s.1,gz s.2 (lV k j) ((bS s.2 (lV k j)).getD 0+sgZ s.1*row.getD j 0*v))
noncomputable def cF (n:Nat)(row:List Int)(k v:Int)(kv:List (Int×Int)):Nat->Int×List (Int×Int)
 | 0=>(0,kv)
 | c+1=>mh row k v (n-1-c) (cF n row k v kv c)
noncomputable def bK (n:Nat)(row:List Int)(kv:List (Int×Int)):Nat->List (Int×Int)
 | 0=>[]
 | t+1=>(cF n row .(136).1 ((bS kv .(136).1).getD 0) (bK n row kv t) n).2
def zB (m:Nat)(Y:Nat->Nat->Rat):det (m+1) Y=aA (λc=>sgn (m+c)*Y m c*det m λr q=>Y r (skp c q)) (m+1):=by
 have e1:=pF (k:=0) (n:=m+1) m Y .(0);have e2:=cS (m+1) λr=>Y (rho 0 m r);rw[det]at e2;have r0:rho 0 m 0=m:=by unfold rho; rw[if_neg .(0),if_pos rfl]; omega
 have rs:∀r,r<m->rho 0 m (r+1)=r:=λr hr=>by unfold rho;rw[if_neg .(0),if_neg .(0),if_pos .(0)];omega
 have e3:aA (λc=>sgn c*Y m c*det m λr q=>Y r (skp c q)) (m+1)=sgn m*det (m+1) Y:=by rw[<- e1,<- e2];refine au λc _=>?_;rw[r0,<- cS m];congr 1;exact aG λr hr q hq=>by unfold minor;dsimp only;rw[rs q hq]
 have sm:∀c,sgn (m+c)=sgn m*sgn c:=λc=>by
   induction c with
   | zero=>rw[Md,show sgn 0=1 from rfl,J3]
   | succ c ih=>rw[<- Kb,gD,ih,gD]; grind
 have:aA (λc=>sgn (m+c)*Y m c*det m λr q=>Y r (skp c q)) (m+1)=sgn m*aA (λc=>sgn c*Y m c*det m λr q=>Y r (skp c q)) (m+1):=by rw[a7];refine au λc _=>?_;rw[sm];grind
 rw[this,e3,<- J1,pA,Jd]
noncomputable def eP (M:Nat->Nat->Rat)(L:List Nat):Rat:=det L.length λr c=>M r (L.getD c 0)
def lT (h:L.length=m+1):eP M L=aA (λc=>sgn (m-c)*M m (L.getD c 0)*eP M (L.eraseIdx c)) (m+1):=by
 unfold eP;rw[h,zB];refine au λc hc=>?_
 have e1:sgn (m+c)=sgn (m-c):=by
   unfold sgn;by_cases z:(m+c)%2=0
   . rw[if_pos z,if_pos .(0)]
   . rw[if_neg z,if_neg .(0)]
 have e2:(L.eraseIdx c).length=m:=by rw[JY .(0)]; omega
 rw[e1,e2];refine congrArg (λx=>sgn (m-c)*M m (L.getD c 0)*x) (aG λr _ q hq=>?_);rw[Ig,Ig,List.getElem?_eraseIdx];unfold skp;split <;> rfl
noncomputable def cols (n S:Nat):List Nat:=(ox n).filter λj=>S.testBit j
def rO :j∈cols n S↔j<n/\S.testBit j=true:=by unfold cols;rw[JL,Iq]
def Ah (hj:j<n)(h:S.testBit j=false):cols n (S ||| 2^j)=(cols j S)++j::((ox (n-(j+1))).map (j+1+·)).filter (λk=>S.testBit k):=by
 unfold cols;obtain⟨d,rfl⟩:=LM (show j+1<=n from hj);rw[List.range_add,Jt,JD,JD,show j+1+d-(j+1)=d by omega,IY];have lo:(ox j).filter (λk=>(S ||| 2^j).testBit k)=(ox j).filter λk=>S.testBit k:=KU λk hk=>by have:=Iq.mp hk;rw[K0,J5 .(0),Mp]
 have hi:((ox d).map (j+1+·)).filter (λk=>(S ||| 2^j).testBit k)=((ox d).map (j+1+·)).filter λk=>S.testBit k:=KU λk hk=>by obtain⟨q,_,rfl⟩:=HV.mp hk;rw[K0,J5 .(0),Mp]
 rw[lo,hi,Nm (by rw[K0,KH,MJ]),L7];rfl
noncomputable def above (n j S:Nat):List Nat:=((ox (n-(j+1))).map (j+1+·)).filter λk=>S.testBit k
def sV (hj:j<n)(h:S.testBit j=false):cols n S=cols j S++above n j S:=by unfold cols above;obtain⟨d,rfl⟩:=LM (show j+1<=n from hj);rw[List.range_add,Jt,JD,JD,show j+1+d-(j+1)=d by omega,Nn (by rw[h]; decide),L7,Jc]
def lZ (hj:j<n)(h:S.testBit j=false):(cols n (S ||| 2^j)).length=(cols n S).length+1/\(cols n (S ||| 2^j)).getD (cols j S).length 0=j/\(cols n (S ||| 2^j)).eraseIdx (cols j S).length=cols n S/\(cols n S).length-(cols j S).length=(above n j S).length/\(cols j S).length<=(cols n S).length:=by
 rw[Ah hj h,sV hj h];refine⟨by simp only[rp,Ja]; rfl,?_,?_,by rw[rp]; omega,by rw[rp]; omega⟩
 . rw[Ig,IW .(3),Lr];rfl
 . rw[List.eraseIdx_append_of_length_le .(3),Lr];rfl
def wI (n S:Nat):cols (n+1) S=if S.testBit n then cols n S++[n] else cols n S:=by
 unfold cols;rw[Jt,JD];cases h:S.testBit n with
 | true=>rw[Nm h,L7,if_pos rfl]
 | false=>rw[Nn (by rw[h]; decide),L7,Jc,if_neg .(2)]
theorem qm (G:Nat->Nat->Rat)(S:Nat):∀n,aA (λc=>G c ((cols n S).getD c 0)) (cols n S).length=aA (λj=>if S.testBit j then G (cols j S).length j else 0) n
 | 0=>rfl
 | n+1=>by
   rw[wI,aA,<- qm G S n];cases h:S.testBit n with
   | true=>
     rw[if_pos rfl,if_pos rfl,rp,IZ,aA];have e1:(cols n S++[n]).getD (cols n S).length 0=n:=(by rw[Ig,IW .(3),Lr];rfl);rw[e1];refine congrArg (·+G (cols n S).length n) (au λc hc=>?_);rw[Ig,HX hc,<- Ig]
   | false=>rw[if_neg .(2),if_neg .(2),IV]
def jF (h:S.testBit j=true):(S ^^^ 2^j).testBit j=false/\(S ^^^ 2^j) ||| 2^j=S/\∀k,k≠j->(S ^^^ 2^j).testBit k=S.testBit k:=by
 have a:∀k,k≠j->(S ^^^ 2^j).testBit k=S.testBit k:=λk hk=>by rw[Nat.testBit_xor,J5 (Je hk),Bool.xor_false]
 have b:(S ^^^ 2^j).testBit j=false:=by rw[Nat.testBit_xor,KH,h]; rfl
 refine⟨b,K8 λk=>?_,a⟩;rw[K0];by_cases z:k=j
 . subst z;rw[KH,MJ,h]
 . rw[a k z,J5 (Je z),Mp]
def wN (h:(cols n S).length=m+1):eP M (cols n S)=aA (λj=>if S.testBit j then sgn (above n j S).length*M m j*eP M (cols n (S ^^^ 2^j)) else 0) n:=by
 rw[lT h,<- h,qm (λc j=>sgn (m-c)*M m j*eP M ((cols n S).eraseIdx c)) S n];refine au λj hj=>?_;cases hb:S.testBit j with
 | false=>rfl
 | true=>
   rw[if_pos rfl,if_pos rfl];obtain⟨b1,b2,b3⟩:=jF hb;obtain⟨c1,c2,c3,c4,c5⟩:=lZ hj b1;rw[b2]at c1 c2 c3;have l1:cols j (S ^^^ 2^j)=cols j S:=KU λk hk=>b3 k (by have:=Iq.mp hk; omega);have l2:above n j (S ^^^ 2^j)=above n j S:=KU λk hk=>by obtain⟨q,_,rfl⟩:=HV.mp hk;exact b3 _ .(0)
   rw[l1]at c3 c4;rw[l2]at c4;rw[c3,<- c4,show (cols n (S ^^^ 2^j)).length=m by omega]
def Cd (S j:Nat):sh (S:Int) j=S.testBit j:=by
 unfold sh;have e:(S:Int)/2^j=((S/2^j:Nat):Int):=by simp
 rw[e,PyProof.Rows.bitAnd_pp .(24) .(2),HW,Nat.testBit_eq_decide_div_mod_eq];have:(S/2^j) &&& (1:Int).toNat=S/2^j%2:=by show (S/2^j) &&& 1=_; rw[Nat.and_one_is_mod]
 rw[this];congr 1;rw[eq_iff_iff];omega
def FX (S j:Nat):lV (S:Int) j=((S ||| 2^j:Nat):Int):=by
 unfold lV;have e:(1:Int)*2^j=((2^j:Nat):Int):=by simp
 rw[e];generalize 2^j=y;unfold Builtin.bitOr;have h1:¬(0<=LX (S:Int)):=by unfold Builtin.bitNot; omega
 have h2:¬(0<=LX (y:Int)):=by unfold Builtin.bitNot; omega
 rw[PyProof.Rows.bitAnd_nn h1 h2];have h3:∀x:Int,LX (LX x)=x:=λx=>by unfold Builtin.bitNot; omega
 rw[h3,h3,h3,HW,HW]
def HM (k:Nat):((sgZ (k:Int):Int):Rat)=sgn k:=by
 unfold sgZ sgn;rw[JZ _ .(2)];by_cases h:k%2=0
 . rw[if_pos h,show (k:Int)%2=0 by omega]; rfl
 . rw[if_neg h,show (k:Int)%2=1 by omega]; rfl
def oZ (kv:List (Int×Int))(k v j:Int):bS (gz kv k v) j=if j=k then some v else bS kv j:=by
 have e:=yI (Ev.cO kv) (KO k) (KO j) (V.int v);rw[u4,jq,jq]at e;by_cases h:j=k
 . rw[if_pos (congrArg KO h)]at e;rw[if_pos h];cases z:bS (gz kv k v) j with
   | none=>rw[z]at e; cases e
   | some x=>rw[z]at e; cases e; rfl
 . rw[if_neg (λz=>h (MC z))]at e;rw[if_neg h];cases z:bS (gz kv k v) j <;> cases z':bS kv j <;> rw[z,z']at e <;> cases e <;> rfl
def rG (kv:List (Int×Int))(k v:Int):(gz kv k v).map (·.1)=if (kv.any λp=>decide (p.1=k))=true then kv.map (·.1) else kv.map (·.1)++[k]:=by
 unfold gz;split
 . rw[IC];refine ID λp _=>?_;simp only[Kz];split <;> rfl
 . rw[Ia]; rfl
def Dz (h:(kv.map (·.1)).Nodup):((gz kv k v).map (·.1)).Nodup:=by
 rw[rG];split
 . exact h
 . rename_i z;rw[Jj];refine⟨h,by simp,λa ha b hb e=>z ?_⟩;obtain⟨p,hp,rfl⟩:=HV.mp ha;rw[gV]at hb;exact Ks.mpr ⟨p,hp,decide_eq_true (e.trans hb)⟩
def Bv (h:x∈(gz kv k v).map (·.1)):x=k\/x∈kv.map (·.1):=by
 rw[rG]at h;split at h
 . exact .inr h
 . rcases vp.mp h with h | h
   . exact .inr h
   . exact .inl (gV.mp h)
theorem oR:∀{kv:List (Int×Int)} {q:Int×Int},(kv.map (·.1)).Nodup->q∈kv->bS kv q.1=some q.2
 | p::t,q,h,hq=>by
   rw[IJ,Jb]at h;unfold bS;by_cases z:p.1=q.1
   . rw[LQ (by simp[z])];rcases HZ.mp hq with e | hq
     . rw[e]; rfl
     . exact absurd (HV.mpr ⟨q,hq,z.symm⟩) h.1
   . rw[LR (by simp[z])];rcases HZ.mp hq with e | hq
     . exact absurd (by rw[e]) z
     . exact oR h.2 hq
theorem zv:∀{kv:List (Int×Int)} {k v:Int},bS kv k=some v->(k,v)∈kv
 | p::t,k,v,h=>by
   unfold bS at h;by_cases z:p.1=k
   . rw[LQ (by simp[z])]at h;cases h;rw[<- z];exact IF ..
   . rw[LR (by simp[z])]at h;exact Et _ (zv h)
noncomputable def gv (kv:List (Int×Int))(k:Int):Rat:=(((bS kv k).getD 0:Int):Rat)
def DK (kv:List (Int×Int))(k j x:Int):gv (gz kv k ((bS kv k).getD 0+x)) j=gv kv j+if j=k then (x:Rat) else 0:=by
 unfold gv;rw[oZ];by_cases h:j=k
 . rw[if_pos h,if_pos h,h,LI,Kl]
 . rw[if_neg h,if_neg h,IV]
def tU (h:j+1<n):(above n j S).length=(if S.testBit (j+1) then 1 else 0)+(above n (j+1) S).length:=by
 unfold above;obtain⟨d,rfl⟩:=LM (show j+2<=n from h);rw[show j+2+d-(j+1)=d+1 by omega,show j+2+d-(j+1+1)=d by omega,Nx,IJ,IC,K4];have e:(ox d).map ((j+1+·)∘Nat.succ)=(ox d).map (j+1+1+·):=ID λk _=>by simp only[Kz]; omega
 rw[e,Md];split
 . rw[Ja]; omega
 . omega
def sO :(above (n+1) n S).length=0:=by unfold above;rw[show n+1-(n+1)=0 by omega];rfl
theorem iP (g:Nat->Rat):∀n,aA g (n+1)=g 0+aA (λk=>g (k+1)) n
 | 0=>by simp only[aA,IV,Kk]
 | n+1=>by rw[aA,iP g n,aA,Rat.add_assoc]
theorem qx (f:Nat->Rat):∀n,aA (λt=>f (n-1-t)) n=aA f n
 | 0=>rfl
 | n+1=>by rw[iP,aA,Rat.add_comm,show n+1-1-0=n by omega,<- qx f n];refine congrArg (·+f n) (au λk hk=>?_);rw[show n+1-1-(k+1)=n-1-k by omega]
noncomputable def sx (n S:Nat):Nat->Nat
 | 0=>0
 | c+1=>sx n S c+if S.testBit (n-1-c) then 1 else 0
theorem oH :∀c,c<n->sx n S c=(above n (n-1-c) S).length
 | 0,h=>by obtain⟨m,rfl⟩:=Nat.exists_eq_succ_of_ne_zero (show n≠0 by omega);rw[show m.succ-1-0=m by omega,sO];rfl
 | c+1,h=>by rw[sx,oH c .(0),tU (n:=n) (j:=n-1-(c+1)) .(0),show n-1-(c+1)+1=n-1-c by omega];omega
noncomputable def evQ (n:Nat)(row:List Int)(S:Nat)(v:Rat)(T:Int)(j:Nat):Rat:=if S.testBit j then 0 else if T=((S ||| 2^j:Nat):Int) then sgn (above n j S).length*((row.getD j 0:Int):Rat)*v else 0
structure CI (n S:Nat)(row:List Int)(v:Int)(lk:List (Int×Int))(c:Nat)(r:Int×List (Int×Int)):Prop where
 cnt:r.1=(sx n S c:Nat)
 val:∀T,gv r.2 T=gv lk T+aA (λt=>evQ n row S v T (n-1-t)) c
 key:∀x∈r.2.map (·.1),x∈lk.map (·.1)\/∃j,j<n/\S.testBit j=false/\x=((S ||| 2^j:Nat):Int)
 nd:(r.2.map (·.1)).Nodup
 old:∀T,bS lk T≠none->bS r.2 T≠none
 new:∀t<c,S.testBit (n-1-t)=false->bS r.2 ((S ||| 2^(n-1-t):Nat):Int)≠none
theorem vt (hn:(lk.map (·.1)).Nodup):∀c,c<=n->CI n S row v lk c (cF n row (S:Int) v lk c)
 | 0,_=>⟨rfl,λT=>by rw[aA,IV]; rfl,λx h=>.inl h,hn,λ_ h=>h,λt h=>by omega⟩
 | c+1,hc=>by
   obtain⟨h1,h2,h3,h4,h5,h6⟩:=vt (n:=n) (S:=S) (row:=row) (v:=v) hn c .(0);rw[cF,mh,Cd,FX];generalize cF n row (S:Int) v lk c=r at h1 h2 h3 h4 h5 h6 ⊢;cases hb:S.testBit (n-1-c) with
   | true=>
     rw[if_pos rfl];refine⟨by dsimp only; rw[h1,sx,hb,if_pos rfl]; omega,λT=>?_,h3,h4,h5,λt ht hf=>?_⟩
     . rw[aA,evQ,if_pos hb,IV]; exact h2 T
     . rcases JN t c with z | z
       . exact h6 t z hf
       . obtain rfl:t=c:=by omega
         rw[hb]at hf; cases hf
   | false=>
     rw[if_neg .(2)];refine⟨by dsimp only; rw[h1,sx,hb]; rfl,λT=>?_,λx hx=>?_,Dz h4,λT hT=>?_,λt ht hf=>?_⟩
     . dsimp only;have e:evQ n row S v T (n-1-c)=if T=((S ||| 2^(n-1-c):Nat):Int) then sgn (sx n S c)*((row.getD (n-1-c) 0:Int):Rat)*v else 0:=by unfold evQ;rw[if_neg (by rw[hb]; decide),<- oH (n:=n) (S:=S) c .(0)]
       rw[DK,h2,aA,<- Rat.add_assoc,e,h1,IA,IA,HM]
     . rcases Bv hx with e | e
       . exact .inr ⟨n-1-c,by omega,hb,e⟩
       . exact h3 x e
     . dsimp only;rw[oZ];split
       . exact nofun
       . exact h5 T hT
     . dsimp only;rw[oZ];split
       . exact nofun
       . rename_i z;rcases JN t c with y | y
         . exact h6 t y hf
         . obtain rfl:t=c:=by omega
           exact absurd rfl z
structure MI (n:Nat)(row:List Int)(Sf:Nat->Nat)(vf:Nat->Rat)(t:Nat)(r:List (Int×Int)):Prop where
 val:∀T,gv r T=aA (λs=>aA (evQ n row (Sf s) (vf s) T) n) t
 key:∀x∈r.map (·.1),∃s<t,∃j,j<n/\(Sf s).testBit j=false/\x=((Sf s ||| 2^j:Nat):Int)
 nd:(r.map (·.1)).Nodup
 new:∀s<t,∀j<n,(Sf s).testBit j=false->bS r ((Sf s ||| 2^j:Nat):Int)≠none
theorem qh (hS:∀s<kv.length,(kv.getD s (0,0)).1=(Sf s:Int)):∀t,t<=kv.length->MI n row Sf (λs=>gv kv (Sf s)) t (bK n row kv t)
 | 0,_=>⟨λT=>rfl,λx h=>by simp[bK]at h,by simp[bK],λs h=>by omega⟩
 | t+1,ht=>by
   obtain⟨h1,h2,h3,h4⟩:=qh (n:=n) (row:=row) hS t .(0);rw[bK,hS t .(0)];generalize bK n row kv t=r at h1 h2 h3 h4 ⊢;obtain⟨_,c2,c3,c4,c5,c6⟩:=vt (n:=n) (S:=Sf t) (row:=row) (v:=(bS kv (Sf t:Int)).getD 0) h3 n .(3);refine⟨λT=>?_,λx hx=>?_,c4,λs hs j hj hf=>?_⟩
   . rw[c2,h1,aA,qx (evQ n row (Sf t) _ T)];rfl
   . rcases c3 x hx with e | ⟨j,e⟩
     . obtain⟨s,hs,e⟩:=h2 x e;exact⟨s,by omega,e⟩
     . exact⟨t,by omega,j,e⟩
   . rcases JN s t with z | z
     . exact c5 _ (h4 s z j hj hf)
     . obtain rfl:s=t:=by omega
       have:=c6 (n-1-j) .(0);rw[show n-1-(n-1-j)=j by omega]at this;exact this hf
structure RI (n i:Nat)(M:Nat->Nat->Rat)(kv:List (Int×Int)):Prop where
 key:∀x∈kv.map (·.1),∃S:Nat,x=(S:Int)/\S<2^n/\(cols n S).length=i
 nd:(kv.map (·.1)).Nodup
 all:∀S:Nat,S<2^n->(cols n S).length=i->bS kv (S:Int)≠none/\gv kv (S:Int)=eP M (cols n S)
def yJ (h:S.testBit j=false)(e:T=S ||| 2^j):T.testBit j=true/\S=T ^^^ 2^j:=by
 have h1:T.testBit j=true:=by rw[e,K0,KH,MJ]
 refine⟨h1,K8 λk=>?_⟩;obtain⟨b1,_,b3⟩:=jF h1;by_cases z:k=j
 . subst z; rw[h,b1]
 . rw[b3 k z,e,K0,J5 (Je z),Mp]
def RI.step (h:RI n i M kv)(hr:∀j<n,((row.getD j 0:Int):Rat)=M i j):RI n (i+1) M (bK n row kv kv.length):=by
 have hS:∀s<kv.length,(kv.getD s (0,0)).1=((kv.getD s (0,0)).1.toNat:Int)/\(kv.getD s (0,0)).1.toNat<2^n/\(cols n (kv.getD s (0,0)).1.toNat).length=i:=λs hs=>by
   have hm:kv.getD s (0,0)∈kv:=by rw[Ig,ph hs]; exact JR hs
   obtain⟨S,e1,e2,e3⟩:=h.key _ (HV.mpr ⟨_,hm,rfl⟩);rw[e1,HW];exact⟨rfl,e2,e3⟩
 obtain⟨m1,m2,m3,m4⟩:=qh (n:=n) (row:=row) (kv:=kv) (Sf:=λs=>(kv.getD s (0,0)).1.toNat) (λs hs=>(hS s hs).1) kv.length .(3)
 have off:∀{T j:Nat},T<2^n->(cols n T).length=i+1->j<n->T.testBit j=true->T ^^^ 2^j<2^n/\(cols n (T ^^^ 2^j)).length=i/\∃s<kv.length,(kv.getD s (0,0)).1.toNat=T ^^^ 2^j:=λ{T j} hT hl hj hb=>by
   obtain⟨b1,b2,_⟩:=jF hb;have l1:T ^^^ 2^j<2^n:=Nat.xor_lt_two_pow hT (K7 .(2) hj);have l2:=(lZ hj b1).1;rw[b2,hl]at l2;refine⟨l1,by omega,?_⟩;obtain⟨q,_⟩:=h.all _ l1 .(0);cases z:bS kv ((T ^^^ 2^j:Nat):Int) with
   | none=>exact absurd z q
   | some v=>obtain⟨s,hs⟩:=List.getElem?_of_mem (zv z);refine⟨s,(tf.mp hs).1,?_⟩;rw[Ig,hs];show (((T ^^^ 2^j:Nat):Int)).toNat=_;rw[HW]
 refine⟨λx hx=>?_,m3,λT hT hl=>⟨?_,?_⟩⟩
 . obtain⟨s,hs,j,hj,hf,rfl⟩:=m2 x hx;obtain⟨_,e2,e3⟩:=hS s hs;exact⟨_,rfl,Nat.or_lt_two_pow e2 (K7 .(2) hj),by rw[(lZ hj hf).1,e3]⟩
 . obtain⟨j,hj⟩:=List.exists_mem_of_length_pos (l:=cols n T) .(0);obtain⟨hj,hb⟩:=rO.mp hj;obtain⟨_,_,s,hs,e⟩:=off hT hl hj hb;obtain⟨b1,b2,_⟩:=jF hb;have:=m4 s hs j hj
   try dsimp only at this
   rw[e,b2]at this;exact this b1
 . rw[m1,fL (λs j=>evQ n row (kv.getD s (0,0)).1.toNat (gv kv ((kv.getD s (0,0)).1.toNat:Int)) (T:Int) j) n kv.length,wN hl];refine au λj hj=>?_;cases hb:T.testBit j with
   | false=>
     rw[if_neg .(2)];refine bx λs hs=>?_;unfold evQ;cases hf:(kv.getD s (0,0)).1.toNat.testBit j with
     | true=>rw[if_pos rfl]
     | false=>rw[if_neg .(2),if_neg λz=>?_];have:=(yJ hf (Int.ofNat.inj z)).1;rw[hb]at this; cases this
   | true=>
     rw[if_pos rfl];obtain⟨l1,l2,s0,hs0,e0⟩:=off hT hl hj hb;obtain⟨b1,b2,b3⟩:=jF hb;have ea:above n j (T ^^^ 2^j)=above n j T:=KU λk hk=>by obtain⟨q,_,rfl⟩:=HV.mp hk;exact b3 _ .(0)
     rw[<- (h.all _ l1 l2).2,<- hr j hj,<- ea,<- bN (λ_=>sgn (above n j (T ^^^ 2^j)).length*((row.getD j 0:Int):Rat)*gv kv ((T ^^^ 2^j:Nat):Int)) s0 kv.length hs0];refine au λs hs=>?_;unfold evQ dq;by_cases z:s=s0
     . subst z;rw[e0,b1,b2,if_neg .(2),if_pos rfl,if_pos rfl,J3]
     . rw[if_neg z,IG];cases hf:(kv.getD s (0,0)).1.toNat.testBit j with
       | true=>rw[if_pos rfl]
       | false=>
         rw[if_neg .(2),if_neg λy=>z ?_];have e1:=(yJ hf (Int.ofNat.inj y)).2
         have e2:(kv.map (·.1))[s]?=(kv.map (·.1))[s0]?:=by
           have g:∀s<kv.length,(kv.map (·.1))[s]?=some (kv.getD s (0,0)).1:=λs hs=>by rw[Iy,Ig,ph hs]; rfl
           rw[g s hs,g s0 hs0,(hS s hs).1,(hS s0 hs0).1,e1,e0]
         exact(List.getElem?_inj (by rw[bp]; exact hs) h.nd).mp e2
def RI.zero (n:Nat)(M:Nat->Nat->Rat):RI n 0 M [(0,1)]:=by
 have c0:∀S:Nat,S<2^n->(cols n S).length=0->S=0:=λS hS h=>K8 λk=>by
   rw[Nat.zero_testBit];rcases JN k n with z | z
   . cases hb:S.testBit k with
     | false=>rfl
     | true=>have:=rO.mpr ⟨z,hb⟩;rw[KN.mp h]at this;cases this
   . exact LS (Ih hS (Ir .(2) z))
 refine⟨λx hx=>⟨0,?_,Jl n,?_⟩,by simp,λS hS h=>?_⟩
 . simpa using hx
 . unfold cols;rw[List.filter_eq_nil_iff.mpr λa _=>by rw[Nat.zero_testBit]; decide];rfl
 . obtain rfl:=c0 S hS h;refine⟨nofun,?_⟩;rw[eP,h];rfl
noncomputable def mi (M:Nat->Nat->Rat)(k:Nat)(ρ γ:Nat->Nat):Rat:=det k λr c=>M (ρ r) (γ c)
def z9 (h:∀i<k,ρ i=ρ' i)(h':∀i<k,γ i=γ' i):mi M k ρ γ=mi M k ρ' γ':=aG λi hi j hj=>by rw[h i hi,h' j hj]
def Gr (M:Nat->Nat->Rat)(k:Nat)(ρ γ:Nat->Nat):mi (λi j=>M j i) k γ ρ=mi M k ρ γ:=cS k λr c=>M (ρ r) (γ c)
def qP (m:Nat)(Y:Nat->Nat->Rat)(h:k+m<n):(det n λr c=>Y r (rho k m c))=sgn m*det n Y:=by rw[<- cS n Y,<- pF (k:=k) m (λi j=>Y j i) h];exact(cS n λi j=>Y j (rho k m i))
def um {d x y:Rat}(h:d≠0)(e:d*x=d*y):x=y:=by have:=congrArg (d⁻¹*·) e;simp only[<- J1,Rat.inv_mul_cancel d h,Jd]at this;exact this
noncomputable def k2 (Y:Nat->Nat->Rat)(s x y:Nat):Rat:=det (s+2) λr c=>Y r (if c<s then c else if c=s then x else y)
def E5 (h:x=sgn s*y):y=sgn s*x:=by rw[h,<- J1,pA,Jd]
def Inc (k:Nat)(γ:Nat->Nat):Prop:=∀i,i+1<k->γ i<γ (i+1)
def Inc.lt (h:Inc k γ):∀(d i:Nat),i+d+1<k->γ i<γ (i+d+1)
 | 0,i,hi=>h i hi
 | d+1,i,hi=>JA (h.lt d i .(0)) (h (i+d+1) hi)
def Inc.mono (h:Inc k γ)(hij:i<j)(hj:j<k):γ i<γ j:=by
 have:=h.lt (j-i-1) i .(0)
 rwa [show i+(j-i-1)+1=j by omega]at this
def Inc.up (h:Inc (k+1) γ):Inc k λc=>γ (c+1):=λi hi=>h (i+1) .(0)
def Tnn (m n:Nat)(A:Nat->Nat->Rat):Prop:=∀(k:Nat) (ρ γ:Nat->Nat),Inc k ρ->(∀i,i<k->ρ i<m)->Inc k γ->(∀i,i<k->γ i<n)->0<=mi A k ρ γ
def Tnn.congr (h:Tnn m n A)(e:∀i,i<m->∀j,j<n->A i j=B i j):Tnn m n B:=λk ρ γ h1 h2 h3 h4=>by have:mi B k ρ γ=mi A k ρ γ:=aG λi hi j hj=>(e _ (h2 i hi) _ (h4 j hj)).symm;rw[this];exact h k ρ γ h1 h2 h3 h4
def Tnn.tr (h:Tnn m n A):Tnn n m λi j=>A j i:=λk ρ γ h1 h2 h3 h4=>by rw[Gr];exact h k γ ρ h3 h4 h1 h2
def Tnn.le (h:Tnn m n A)(hm:m'<=m)(hn:n'<=n):Tnn m' n' A:=λk ρ γ h1 h2 h3 h4=>h k ρ γ h1 (λi hi=>by have:=h2 i hi; omega) h3 λi hi=>by have:=h4 i hi; omega
def Inc.ne (h:Inc k γ)(hi:i<k)(hj:j<k)(ne:i≠j):γ i≠γ j:=by
 rcases JN i j with z | z
 . have:=h.mono z hj; omega
 . have:=h.mono (show j<i by omega) hi; omega
def hG (hp:p<n)(hq:q<n)(hpq:p≠q)(e:∀r,M r p=M r q):det n M=0:=by rw[<- cS];exact(b9 n).same hp hq hpq (funext e)
def Tnn.col (H:Tnn m n A)(ha:0<=a)(hb:0<=b)(ht:b=0\/(t<n/\(t=h+1\/h=t+1))):Tnn m n λi j=>if j=h then a*A i h+b*A i t else A i j:=λk ρ γ h1 h2 h3 h4=>by
 by_cases ex:∃c,c<k/\γ c=h
 . obtain⟨c0,hc,ec⟩:=ex
   have e1:mi (λi j=>if j=h then a*A i h+b*A i t else A i j) k ρ γ=det k (aO (λr c=>A (ρ r) (γ c)) c0 λr=>a*A (ρ r) h+b*A (ρ r) t):=aG λi hi j hj=>by
     show (if γ j=h then a*A (ρ i) h+b*A (ρ i) t else A (ρ i) (γ j))=if j=c0 then a*A (ρ i) h+b*A (ρ i) t else A (ρ i) (γ j);by_cases z:j=c0
     . rw[if_pos z,if_pos (by rw[z]; exact ec)]
     . rw[if_neg z,if_neg (by rw[<- ec]; exact h3.ne hj hc z)]
   rw[e1,ji _ hc a b]
   have e2:det k (aO (λr c=>A (ρ r) (γ c)) c0 λr=>A (ρ r) h)=mi A k ρ γ:=aG λi hi j hj=>by
     show (if j=c0 then A (ρ i) h else A (ρ i) (γ j))=A (ρ i) (γ j);split
     . rename_i z; rw[z,ec]
     . rfl
   rw[e2];have p1:=Lx ha (H k ρ γ h1 h2 h3 h4)
   have p2:0<=b*det k (aO (λr c=>A (ρ r) (γ c)) c0 λr=>A (ρ r) t):=by
     rcases ht with z | ⟨tn,nb⟩
     . rw[z,IU]; exact KW
     refine Lx hb ?_;by_cases ex:∃c,c<k/\γ c=t
     . obtain⟨c1,hc1,ec1⟩:=ex;have ne:c0≠c1:=λz=>by rw[z,ec1]at ec; omega
       rw[hG hc hc1 ne λr=>?_]
       . exact KW
       . show (if c0=c0 then A (ρ r) t else A (ρ r) (γ c0))=if c1=c0 then A (ρ r) t else A (ρ r) (γ c1);rw[if_pos rfl,if_neg (Je ne),ec1]
     . have e3:det k (aO (λr c=>A (ρ r) (γ c)) c0 λr=>A (ρ r) t)=mi A k ρ λc=>if c=c0 then t else γ c:=aG λi hi j hj=>by
         show (if j=c0 then A (ρ i) t else A (ρ i) (γ j))=A (ρ i) (if j=c0 then t else γ j);by_cases z:j=c0
         . rw[if_pos z,if_pos z]
         . rw[if_neg z,if_neg z]
       rw[e3];have nt:∀c,c<k->γ c≠t:=λc hc z=>ex ⟨c,hc,z⟩;refine H k ρ _ h1 h2 (λi hi=>?_) λi hi=>?_
       . have:=h3 i hi;have n1:=nt i .(0);have n2:=nt (i+1) .(0);show (if i=c0 then t else γ i)<if i+1=c0 then t else γ (i+1);by_cases z:i=c0
         . rw[if_pos z,if_neg .(0)];rw[z]at this n2 ⊢;omega
         . by_cases z':i+1=c0
           . rw[if_neg z,if_pos z'];rw[z']at this;omega
           . rw[if_neg z,if_neg z'];exact this
       . show (if i=c0 then t else γ i)<n;split
         . exact tn
         . exact h4 i hi
   exact Rat.add_nonneg p1 p2
 . have e1:mi (λi j=>if j=h then a*A i h+b*A i t else A i j) k ρ γ=mi A k ρ γ:=aG λi hi j hj=>if_neg λz=>ex ⟨j,hj,z⟩;rw[e1];exact H k ρ γ h1 h2 h3 h4
def Aa (hk:0<k)(h:∀c,c<k->M 0 c=0):det k M=0:=by
 rw[<- (b9 k).xJ M hk];refine aG λi hi j hj=>?_;unfold aC;split
 . rename_i z; rw[z]; exact h j hj
 . rfl
def E2 (m n:Nat):Tnn m n λi j=>if i=j then 1 else 0:=λk=>by
 induction k with
 | zero=>intro ρ γ _ _ _ _; show (0:Rat)<=1; decide
 | succ k ih=>
   intro ρ γ h1 h2 h3 h4;unfold mi;by_cases z:ρ 0=γ 0
   . have e:det (k+1) (λr c=>if ρ r=γ c then (1:Rat) else 0)=det k λr c=>if ρ (r+1)=γ (c+1) then 1 else 0:=by
       show aA _ (k+1)=_;rw[iP];rw[bx λi hi=>?_,IV]
       . show sgn 0*(if ρ 0=γ 0 then 1 else 0)*det k (minor _ 0)=_;rw[if_pos z,show sgn 0=1 from rfl,Jd,Jd];rfl
       . show sgn (i+1)*(if ρ (i+1)=γ 0 then 1 else 0)*_=(0:Rat);have:=h1.mono (show 0<i+1 by omega) .(0);rw[if_neg .(0),IG,IU]
     rw[e];exact ih (λr=>ρ (r+1)) (λc=>γ (c+1)) (λi hi=>h1 (i+1) .(0)) (λi hi=>h2 (i+1) .(0)) (λi hi=>h3 (i+1) .(0)) λi hi=>h4 (i+1) .(0)
   . have e:det (k+1) (λr c=>if ρ r=γ c then (1:Rat) else 0)=0:=by
       have mono:∀{δ:Nat->Nat},Inc (k+1) δ->∀c,c<k+1->δ 0<=δ c:=λ{δ} hd c hc=>by
         rcases J2 c with y | y
         . rw[y]; exact IE _
         . have:=hd.mono y hc; omega
       rcases JN (ρ 0) (γ 0) with y | y
       . exact Aa .(0) λc hc=>if_neg (by have:=mono h3 c hc; omega)
       . show aA _ (k+1)=0;refine bx λi hi=>?_;show sgn i*(if ρ i=γ 0 then 1 else 0)*_=(0:Rat);have:=mono h1 i hi;rw[if_neg .(0),IG,IU]
     rw[e];exact KW
noncomputable def mJ:Int->List Int->List Int
 | _,[]=>[]
 | c,b::r=>c.fmod b::mJ (c.fdiv b) r
noncomputable def AF (c:Int)(bs:List Int):Int:=bs.foldl (λc b=>c.fdiv b) c
noncomputable def DC (c:Int)(k:Nat)(b:Int):Int:=(((((c*48271+(k:Int)*k*69621+(k:Int)*16807+11).fmod 2147483647)*40692+c+31*(k:Int)).fmod 2147483399).fdiv 7).fmod b
noncomputable def BJ (c:Int)(bs:List Int):List Int:=(ox bs.length).map λk=>DC c k (bs.getD k 0)
noncomputable def nums (c:Int)(bs:List Int):List Int:=if (10:Int)^(18:Int).toNat<=A6 c then mJ c bs else BJ c bs
theorem nX:∀(bs:List Int) (c b:Int),mJ c (bs++[b])=mJ c bs++[(AF c bs).fmod b]
 | [],_,_=>rfl
 | a::bs,c,b=>by rw[Jn,mJ,mJ,nX bs]; rfl
def mC:∀(bs:List Int) (c:Int),(mJ c bs).length=bs.length
 | [],_=>rfl
 | _::bs,c=>congrArg (·+1) (mC bs _)
def gQ (c:Int)(bs:List Int):(nums c bs).length=bs.length:=by
 unfold nums;split
 . exact mC bs c
 . simp[BJ]
theorem uL:∀(bs:List Int) (c:Int),(∀b∈bs,0<b)->∀(i:Nat),i<bs.length->0<=(mJ c bs).getD i 0/\(mJ c bs).getD i 0<bs.getD i 0
 | b::bs,c,h,0,_=>by have:=h b .(5);exact⟨JX c this,Kh c this⟩
 | b::bs,c,h,i+1,hi=>by have:=uL bs (c.fdiv b) (λx hx=>h x (Et _ hx)) i (by simpa using hi);simpa[mJ]using this
def oJ (h:∀b∈bs,0<b)(hi:i<bs.length):0<=(nums c bs).getD i 0/\(nums c bs).getD i 0<bs.getD i 0:=by
 unfold nums;split
 . exact uL bs c h i hi
 . have hp:0<bs.getD i 0:=h _ (by simp[hi]);have e:(BJ c bs).getD i 0=DC c i (bs.getD i 0):=by simp[BJ,hi]
   rw[e];exact⟨JX _ hp,Kh _ hp⟩
def take_snoc {α:Type}{xs:List α}(d:α)(h:i<xs.length):xs.take (i+1)=xs.take i++[xs.getD i d]:=by rw[List.take_add_one,ph h];simp[h]
def oO (h0:0<b)(h:b<2^60):0<b/\aK b:=⟨h0,mkD .(0) .(0)⟩
def cG (ds:List D)(r:Sl):Prop:=∃(c:Int) (bs:List Int),ds=[.int c,.lst (bs.map .int)]/\bs.length<=10000/\(∀b∈bs,0<b/\aK b)/\r=.o ((nums c bs).map .int)
section
variable {P:FB}{w:World}{K:fw}{mg:Str->Option Value}{base:Heap}{k:Nat}{f:Addr}{fd:Gc}{qual:Str}
def oP (F:Fun K "_law_numbers" qual (top 44) f fd)(hb:.(92)):.(91) ["_law_cell_here","_law_bases"] (spD K cG):=by
 refine fnD F js hb (by rintro _ _ ⟨_,_,rfl,_⟩; rfl) ?_;rintro _ _ ⟨c,bs,rfl,hl,hbs,rfl⟩ cdv A outer s H E b;have nd:=js.nd;have hp:∀i,i<bs.length->0<bs.getD i 0/\aK (bs.getD i 0):=λi hi=>hbs _ (by simp[hi]);refine aM 2 nd (ck ag) ?_;refine eD (aZ (bo b .(111) rH) (aE af af (nO .(12))) DW) (λh=>?_) λh=>?_
 . refine cn 3 (λi τ=>∃s3,τ=[.d (.int (AF c (bs.take i))),.d (.lst (bs.map .int)),.o ((mJ c (bs.take i)).map .int),s3,.un,.un]) b nd (bC (aa 1)) GP ⟨_,rfl⟩ (λi hi τ h=>?_) λτ h=>?_
   . obtain⟨s3,rfl⟩:=h;have hi:i<bs.length:=by simpa using hi
     obtain⟨p1,p2⟩:=hp i hi;refine lW 2 (aE (aa 0) (aa 3) (bG .(0))) ?_ ?_
     . rw[bp,mC,IX]; omega
     refine aM 0 nd (aE (aa 0) (aa 3) (dh p2)) (aS ?_);apply ex1;show [Sl.d (.int ((AF c (bs.take i)).fdiv (bs.getD i 0))),_,Sl.o _,_,_,_]=_;rw[take_snoc 0 hi,nX,Ia];unfold AF;rw[Km];rfl
   . obtain⟨s3,rfl⟩:=h;refine tM 2 ?_;rw[bp,Io .(3)];unfold nums;rw[if_pos (of_decide_eq_true h)]
 . refine sG 4 3 (λi τ=>∃s3 s4 s5,τ=[.d (.int c),.d (.lst (bs.map .int)),.o (((ox i).map λk=>DC c k (bs.getD k 0)).map .int),s3,s4,s5]) b nd (zF b (aa 1)) CA ⟨_,_,_,rfl⟩ (λi hi τ h=>?_) λτ h=>?_
   . obtain⟨s3,s4,s5,rfl⟩:=h;have hi:i<bs.length:=by rw[dN,bp]at hi; exact hi
     obtain⟨p1,p2⟩:=hp i hi;refine aM 5 nd (aE (aE (aE (aE (aE (aa 0) af (bz (mkR .(2)))) (aE (aE (aa 4) (aa 4) (bz (mkL .(0)))) af (bz (mkR .(2)))) bA) (aE (aa 4) af (bz (mkR .(2)))) bA) af bA) af (bG .(2))) ?_;refine lW 2 (aE (aE (aE (aE (aE (aE (aa 5) af (bz (mkR .(2)))) (aa 0) bA) (aE af (aa 4) (bz (mkL .(2)))) bA) af (bG .(2))) af (dh (mkD .(2) .(2)))) (aa 3) (bG .(0))) ?_ (aS ?_)
     . rw[bp,bp,IQ]; omega
     apply ex3;rw[Jt,Ia,Ia];rfl
   . obtain⟨s3,s4,s5,rfl⟩:=h;refine tM 2 ?_;rw[dN,bp];unfold nums;rw[if_neg (of_decide_eq_false h)];rfl
end
end K33
namespace Hy
open PySem PySem.Spec PyProof.Rows L2
open Ev (D Den aw aI aK)
structure Pyl (P:FB)(base:Heap):Prop where
 seer:base.NoSeer
 tree:P.given.tree=none
def C8 {X:Cx}{pins:List .(104)}{σ:L2.St}{s:Da}(y:Pyl X.prog X.base)(I:Inv X pins σ H s)(hst:X.stack=X.env::X.outer)(hg:X.env.scope.isGenerator=false)(hc:X.env.scope.isCoroutine=false):SeerAt .(100) X.A s.heap:=SeerAt.of (M:=model X.prog X.w) (y.seer.keeps I.bk) y.tree (I.ok.frames.trans (congrArg some hst)) hg hc I.ok.blt I.ok.glob
def cj {X:Cx}{k:Nat}{i j:Int}(y:Pyl X.prog X.base)(b:Bk X k)(hk:33<=k)(h:j≠0)(hst:X.stack=X.env::X.outer:=by rfl)(hg:X.env.scope.isGenerator=false:=by rfl)(hc:X.env.scope.isCoroutine=false:=by rfl):
   cH X (KB .FloorDiv) (.int i) (.int j) (.int (i.fdiv j)):=
 ⟨rI (λ_ j=>j≠0) λi j=>.int (i.fdiv j),(λpins s σ H x z v u Q I rx ry h=>by
   obtain⟨i,j,rfl,rfl,hc',q⟩:=h;obtain⟨t,rfl⟩:=rx;obtain⟨t',rfl⟩:=ry;exact floordiv_int hc' ⟨.int (i.fdiv j),H,I.tok _,⟨_,rfl⟩,q⟩ (.inr (PylongRoom.of I.nolimit (by have:=b.room.dp; show X.A.depth+100<_; omega) (C8 y I hst hg hc)))),me h λ_ _=>.int⟩
end Hy
namespace K33
open PySem PySem.Spec PyProof.Rows L2 Hy
open Ev (D Den aw aI aK)
noncomputable def frD (q:Rat):D:=.tup [.int q.num,.int (q.den:Nat)]
def dC (x:Rat):x*(((x.den:Nat):Int):Rat)=(x.num:Rat):=by
 have h:mkRat x.num x.den=x:=by rw[<- Rat.normalize_eq_mkRat x.den_nz]; exact Rat.normalize_self x
 rw[Rat.mkRat_eq_div]at h;have hd:((x.den:Nat):Rat)≠0:=λz=>x.den_nz (Nr.mp z);rw[Rat.intCast_natCast];conv=>lhs; lhs; rw[<- h]
 exact JP hd
def bW {t b:Int}{x:Rat}(hb:0<b)(h:(t:Rat)=x*(b:Rat)):x.num=t/(Jg t b:Int)/\((x.den:Nat):Int)=b/(Jg t b:Int):=by
 have hb0:((b.toNat:Nat):Rat)≠0:=λz=>by have:=Nr.mp z; omega
 have hbb:((b:Int):Rat)=((b.toNat:Nat):Rat):=by rw[<- Rat.intCast_natCast,Kc .(0)]
 have e:x=mkRat t b.toNat:=by rw[Rat.mkRat_eq_div,h,hbb,Rat.mul_div_cancel hb0]
 have g:b.toNat.gcd t.natAbs=Jg t b:=by rw[Jg,Mc,show b.natAbs=b.toNat by omega]
 have nz:¬b.toNat=0:=by omega
 constructor
 . rw[e,Rat.num_mkRat,if_neg nz,g]
 . rw[e,Rat.den_mkRat,if_neg nz,g,Int.natCast_ediv,Kc .(0)]
def den_pos (q:Rat):0<((q.den:Nat):Int):=by have:=q.den_pos; omega
def zZ {b:Int}(hb:0<b):(b:Rat)≠0:=λz=>by have:=Rat.intCast_eq_zero_iff.mp z; omega
def Bd (n:Nat)(i:Int):Prop:=i.natAbs<2^n
def Bd.mono (h:Bd m i)(hm:m<=n):Bd n i:=Ih h (Ir .(2) hm)
def Bd.log (h:Bd n i)(hn:0<n):i.natAbs.log2<n:=by
 rcases J2 i.natAbs with z | z
 . rw[z]; exact hn
 . exact(Lh .(0)).mpr h
def Bd.mul (h:Bd m i)(g:Bd n j):Bd (m+n) (i*j):=by
 unfold Bd at *
 rw[JE,JW];rcases J2 j.natAbs with z | z
 . rw[z,Nat.mul_zero]; exact Nat.mul_pos (Jl m) (Jl n)
 . exact Ih (Nat.mul_lt_mul_of_pos_right h z) (Ml _ (JO g))
def Bd.neg (h:Bd n i):Bd n (-i):=by unfold Bd at *; rwa [Ku]
def Bd.aI {m n:Nat}{i j:Int}(h:Bd m i)(g:Bd n j)(hm:m<=1000000)(hn:n<=1000000):aI i j:=
 .inr (.inr ⟨(h.mono (Nat.le_succ_of_le hm)).log .(0) |> λz=>by
   rcases J2 i.natAbs with q | q
   . rw[q]; decide
   . exact Ih ((Lh .(0)).mpr h) hm,by
   rcases J2 j.natAbs with q | q
   . rw[q]; decide
   . exact Ih ((Lh .(0)).mpr g) hn⟩)
def Bd.aK {n:Nat}{j:Int}(h:Bd n j)(h0:j≠0)(hn:n<=9000):aK j:=⟨h0,Ih ((Lh .(0)).mpr h) hn⟩
def Bd.of_dvd (h:Bd n j)(hd:i∣j)(h0:j≠0):Bd n i:=IB (Nat.le_of_dvd .(0) (Int.natAbs_dvd_natAbs.mpr hd)) h
def Bd.ediv (h:Bd n i)(j:Int):Bd n (i/j):=IB (Ng i j) h
def Bd.gcd (h:Bd n j)(h0:j≠0):Bd n (Jg i j:Int):=h.of_dvd (Int.gcd_dvd_right ..) h0
def ft (h0:j≠0):(Jg i j:Int)≠0:=λz=>h0 (by have:=Int.gcd_eq_zero_iff.mp (Int.ofNat_eq_zero.mp z); exact this.2)
def bg (t:Int):t.fdiv (Jg i j:Int)=t/(Jg i j:Int):=JH _ .(24)
structure Sq (n:Nat)(q:Rat):Prop where
 num:Bd n q.num
 den:Bd n (q.den:Nat)
def Sq.mono (h:Sq m q)(hm:m<=n):Sq n q:=⟨h.num.mono hm,h.den.mono hm⟩
def Sq.bW {t b:Int}{x:Rat}(hb:0<b)(h:(t:Rat)=x*(b:Rat))(h1:Bd n t)(h2:Bd n b):Sq n x:=by obtain⟨e1,e2⟩:=K33.bW hb h;exact⟨by rw[e1]; exact h1.ediv _,by rw[e2]; exact h2.ediv _⟩
noncomputable def whl (x:D):Bool:=nq .int x&&!nq .bool x
def iK (ds:List D)(r:Sl):Prop:=∃x,ds=[x]/\r=.d (.bl (whl x))
def bq (ds:List D)(r:Sl):Prop:=∃a b:Int,ds=[.int a,.int b]/\r=.d (.int (Jg a b:Int))
def jD (i:Int):A6 i=(i.natAbs:Int):=by unfold A6; omega
noncomputable def wM:D->Bool
 | .tup [.int a,.int b]=>decide (1<=b)&&decide ((Jg a b:Int)=1)
 | _=>false
def Bh (q:Rat):wM (frD q)=true:=by have h1:=den_pos q;have h2:Jg q.num (q.den:Nat)=1:=q.reduced;show (decide ((1:Int)<=(q.den:Nat))&&decide ((Jg q.num (q.den:Nat):Int)=1))=true;rw[h2,decide_eq_true (show (1:Int)<=(q.den:Nat) by omega)];rfl
def zX (h:xs.length≠2):wM (.tup xs)=false:=by
 unfold wM;split
 . rename_i e; cases e; exact absurd rfl h
 . rfl
def fj (ds:List D)(r:Sl):Prop:=∃x,ds=[x]/\r=.d (.bl (wM x))
def cM (ds:List D)(r:Sl):Prop:=∃(t b:Int) (q:Rat),ds=[.int t,.int b]/\b≠0/\Bd 900000 b/\(t:Rat)=q*(b:Rat)/\r=.d (frD q)
def cB (ds:List D)(r:Sl):Prop:=∃xs,ds=[.lst xs]/\r=.d (.bl (decide ((1:Int)<=(xs.length:Nat))&&decide (((xs.length:Nat):Int)<=7)))
section
variable {P:FB}{w:World}{K:fw}{mg:Str->Option Value}{base:Heap}{k:Nat}{f:Addr}{fd:Gc}{qual:Str}
def rN (F:Fun K "is_whole" qual (top 7) f fd)(hb:.(92)):.(91) ["thing"] (spD K iK):=by refine fnD F rm hb (by rintro _ _ ⟨_,rfl,_⟩; rfl) ?_;rintro _ _ ⟨x,rfl,rfl⟩ cdv A outer s H E b;exact aX (mO (gw .int b (aa 0)) λh=>(nM (B8 (gw .bool b (aa 0))))) rfl
def jf (F:Fun K "common_divisor" qual (top 9) f fd)(hb:.(92)):.(91) ["one","other"] (spD K bq):=by
 refine fnD F eA hb (by rintro _ _ ⟨_,_,rfl,_⟩; rfl) ?_;rintro _ _ ⟨x,y,rfl,rfl⟩ cdv A outer s H E b;have nd:=eA.nd;refine aM 2 nd (bo b .(111) rH) (aM 3 nd (bo b (ae (aa 1) ag) rH) ?_);rw[jD,jD];refine uE (λn t τ=>∃(g:Nat) (s4:Sl),Nat.gcd g n=Jg x y/\t=(!decide ((n:Int)=0))/\τ=[.d (.int x),.d (.int y),.d (.int g),.d (.int n),s4]) b ⟨_,_,_,_,rfl,rfl,rfl⟩ (λn t τ h=>?_) (λn τ h=>?_) λn τ h=>?_
 . obtain⟨g,s4,_,rfl,rfl⟩:=h;exact aZ (aa 3) af wQ
 . obtain⟨g,s4,hg,ht,rfl⟩:=h;have hl:n≠0:=λz=>by simp[z]at ht
   have e:(g:Int).fmod n=((g%n:Nat):Int):=by rw[JZ _ .(0)]; rfl
   refine aM 4 nd (aE (aa 2) (aa 3) (bG .(0))) ?_;rw[e];refine aM 2 nd (aa 3) (aM 3 nd (aa 4) (aS ⟨g%n,_,Nat.mod_lt g (Nat.pos_of_ne_zero hl),n,_,?_,rfl,rfl⟩));rw[<- hg,Mc n,<- Nat.gcd_rec,Mc]
 . obtain⟨g,s4,hg,ht,rfl⟩:=h;have hl:n=0:=by simpa using ht
   refine aX (aa 2) ?_;rw[<- hg,hl,Nat.gcd_zero_right]
def l9 (F:Fun K "is_fraction" qual (top 8) f fd)(hb:.(92))(c_is_whole:.(90) "is_whole" iK)(c_common_divisor:.(90) "common_divisor" bq):.(91) ["thing"] (spD K fj):=by
 refine fnD F k9 hb (by rintro _ _ ⟨_,rfl,_⟩; rfl) ?_;rintro _ _ ⟨x,rfl,rfl⟩ cdv A outer s H E b;by_cases ht:nq .tuple x=true
 . obtain⟨xs,rfl⟩:∃xs,x=.tup xs:=by cases x <;> first | exact⟨_,rfl⟩ | cases ht
   refine eD (PW.pt (iW (cL (cQ (gw .tuple b (aa 0)))) λh=>(jC (aZ (bo b .(111) fY) af wQ)))) (λh=>?_) λh=>?_
   . refine aX AL ?_;have h:(!decide ((xs.length:Int)=2))=true:=h;have:xs.length≠2:=λz=>by rw[z]at h; cases h
     rw[zX this]
   . have h:(!decide ((xs.length:Int)=2))=false:=h;have h2:xs.length=2:=by simp at h; omega
     obtain⟨u,v,rfl⟩:∃u v,xs=[u,v]:=by
       match xs,h2 with
       | [u,v],_=>exact⟨u,v,rfl⟩
     refine eD (PW.pt (iW (cL (cQ (x_call b c_is_whole (ae (aL (aa 0) af (aQ (aH (i:=0) rfl))) ag) ⟨_,rfl,rfl⟩))) λh=>(jC (cL (cQ (x_call b c_is_whole (ae (aL (aa 0) af (aQ (aH (i:=1) rfl))) ag) ⟨_,rfl,rfl⟩)))))) (λh=>?_) λh=>?_
     . refine aX AL ?_;have:wM (.tup [u,v])=false:=by cases u <;> cases v <;> first | rfl | cases h
       rw[this]
     . obtain⟨i,j,rfl,rfl⟩:∃i j,u=.int i/\v=.int j:=by cases u <;> cases v <;> first | exact⟨_,_,rfl,rfl⟩ | cases h
       exact aX (mO (jG (aL (aa 0) af (aQ (aH (i:=1) rfl))) af DW) λh=>(nM (jG (x_call b c_common_divisor (ae (aL (aa 0) af (aQ (aH (i:=0) rfl))) (ae (aL (aa 0) af (aQ (aH (i:=1) rfl))) ag)) ⟨_,_,rfl,rfl⟩) af fD))) rfl
 . have e:nq .tuple x=false:=by simpa using ht
   have ef:wM x=false:=by cases x <;> first | rfl | cases e
   refine eD (PW.pt (iW (q:=true) (cL (cQ (gw .tuple b (aa 0)))) λh=>(by rw[e]at h; cases h))) (λh=>?_) λh=>?_
   . refine aX AL ?_;rw[ef]
   . rw[MJ]at h; cases h
def iH (F:Fun K "in_lowest_terms" qual (top 10) f fd)(hb:.(92))(pyl:Pyl P base)(hk:33<=k)(c_common_divisor:.(90) "common_divisor" bq):.(91) ["top","bottom"] (spD K cM):=by
 refine fnD F dY hb (by rintro _ _ ⟨_,_,_,rfl,_⟩; rfl) ?_;rintro _ _ ⟨t,c,q,rfl,h0,h1,hq,rfl⟩ cdv A outer s H E b;have nd:=dY.nd;refine aM 2 nd (x_call b c_common_divisor (ae (aa 0) (ae (aa 1) ag)) ⟨_,_,rfl,rfl⟩) ?_;have g0:=ft (i:=t) h0;have gb:=h1.gcd (i:=t) h0;refine gq (M:=λτ=>τ=[.d (.int t),.d (.int c),.d (.int (if c<0 then -(Jg t c:Int) else (Jg t c:Int)))]) (aZ (aa 1) af qQ) (λh=>?_) (λh=>?_) λτ h=>?_
 . rw[if_pos (of_decide_eq_true h)];exact aM 2 nd (mM (aa 2)) (aS rfl)
 . rw[if_neg (of_decide_eq_false h)];exact aS rfl
 subst h;have dv:(if c<0 then -(Jg t c:Int) else (Jg t c:Int))≠0:=by split <;> omega
 refine aX (bO (ae (aE (aa 0) (aa 2) (cj pyl b hk dv)) (ae (aE (aa 1) (aa 2) (cj pyl b hk dv)) ag))) ?_;by_cases hc:c<0
 . have hq':((-t:Int):Rat)=q*((-c:Int):Rat):=by rw[JV,JV,hq,Rat.mul_neg]
   obtain⟨e1,e2⟩:=bW .(0) hq';rw[Int.neg_gcd,Int.gcd_neg]at e1 e2;rw[if_pos hc,frD,e1,e2,<- bg (-t),<- bg (-c),<- Int.neg_fdiv_neg (-t),<- Int.neg_fdiv_neg (-c),Int.neg_neg,Int.neg_neg]
 . obtain⟨e1,e2⟩:=bW .(0) hq;rw[if_neg hc,frD,e1,e2,bg,bg]
def jL (F:Fun K "is_short_list" qual (top 17) f fd)(hb:.(92))(y_MOST:∃t,mg "MOST" = some (.int 7 t)):.(91) ["thing"] (spD K cB):=by refine fnD F jS hb (by rintro _ _ ⟨_,rfl,_⟩; rfl) ?_;rintro _ _ ⟨xs,rfl,rfl⟩ cdv A outer s H E b;exact aX (mO (gw .list b (aa 0)) λh=>(nM (uV af (bo b .(111) kr) (D9 y_MOST) Ey Ey).1)) rfl
end
noncomputable def rwQ (r:List Rat):D:=.lst (r.map frD)
noncomputable def tbQ (M:List .(109)):D:=.lst (M.map rwQ)
structure Tq (R C:Nat)(M:List .(109)):Prop where
 r1:1<=R
 r7:R<=7
 c1:1<=C
 c7:C<=7
 len:M.length=R
 row:∀r∈M,r.length=C
def cU {α:Type}{f:α->D}{xs:List α}(d:α):∀i (h:i<(xs.map f).length),(xs.map f)[i]=f (xs.getD i d):=λi h=>by
 have:i<xs.length:=by simpa using h
 simp[this]
def dR {α:Type}{f:α->D}{xs:List α}(d:α)(h:i<xs.length):atI (xs.map f) (i:Int)=some (f (xs.getD i d)):=aH (by simp[h])
def ba {α:Type}{xs:List α}{d:α}(h:i<xs.length):xs.getD i d∈xs:=by simp[h]
def Tq.at_ (h:Tq R C M)(hi:i<R):.(103).length=C:=h.row _ (ba (by rw[h.len]; exact hi))
def zJ (n:Nat)(f:Nat->Bool)(h:∀i,i<n->f i=true):((ox n).map f).all id=true:=by rw[List.all_map,Jx];intro i hi;exact h i (Iq.mp hi)
structure Qs (d v:Nat)(q:Rat):Prop where
 den:Bd d (q.den:Nat)
 val:q.num.natAbs<=2^v*q.den
def og {xs:List D}(h:xs.length=n):gx X (.builtin "len") [.lst xs] (.d (.int n)):=h▸kr
def gm {α:Type}(f:α->D)(xs:List α)(d:α)(h:m=xs.length):(ox m).map (λi=>f (xs.getD i d))=xs.map f:=by
 subst h;refine Jw .(4) λi h1 h2=>?_;have:i<xs.length:=by simpa using h2
 simp[this]
def mR (ds:List D)(r:Sl):Prop:=∃q:List Rat,ds=[rwQ q]/\1<=q.length/\q.length<=7/\r=.d (.bl true)
def iN (ds:List D)(r:Sl):Prop:=∃(R C:Nat) (M:List .(109)),ds=[tbQ M]/\Tq R C M/\r=.d (.bl true)
def fU (ds:List D)(r:Sl):Prop:=∃(R C:Nat) (M:List .(109)),ds=[tbQ M]/\Tq R C M/\r=.d .non
section
variable {P:FB}{w:World}{K:fw}{mg:Str->Option Value}{base:Heap}{k:Nat}{f:Addr}{fd:Gc}{qual:Str}
def wK (F:Fun K "is_row" qual (top 18) f fd)(hb:.(92))(c_is_short_list:.(90) "is_short_list" cB)(c_is_fraction:.(90) "is_fraction" fj):.(91) ["thing"] (spD K mR):=by refine fnD F wa hb (by rintro _ _ ⟨_,rfl,_⟩; rfl) ?_;rintro _ _ ⟨q,rfl,h1,h7,rfl⟩ cdv A outer s H E b;refine aX (mO (x_call b c_is_short_list .(111) ⟨_,rfl,rfl⟩) λh=>(nM (bo b (ae (bf (dD (cmp 0 (f:=λ_=>.bl true) b (bC (aa 0)) (cU (f:=frD) (xs:=q) 0) .(8) λi hi s0 H0 fp=>(x_call .(107) c_is_fraction .(111) ⟨_,rfl,by rw[Bh]⟩)))) ag) (rL b.calm ((ox (q.map frD).length).map λ_=>true) .(20))))) ?_;rw[bp,decide_eq_true .(0),decide_eq_true .(0),zJ _ _ λ_ _=>rfl];rfl
def qv (F:Fun K "is_table" qual (top 19) f fd)(hb:.(92))(c_is_short_list:.(90) "is_short_list" cB)(c_is_row:.(90) "is_row" mR):.(91) ["thing"] (spD K iN):=by
 refine fnD F rB hb (by rintro _ _ ⟨_,_,_,rfl,_⟩; rfl) ?_;rintro _ _ ⟨R,C,M,rfl,t,rfl⟩ cdv A outer s H E b;have hl:(M.map rwQ).length=R:=by rw[bp,t.len]
 have r1:=t.r1;have r7:=t.r7;have c1:=t.c1;have c7:=t.c7;refine dQ (PW.pt (iW (cL (cQ (x_call b c_is_short_list .(111) ⟨_,rfl,rfl⟩))) λh=>(jC (cL (cQ (bo b (ae (bf (dD (cmp 0 (f:=λ_=>.bl true) b (bC (aa 0)) (cU (f:=rwQ) (xs:=M) []) (by rw[hl]; omega) λi hi s0 H0 fp=>(x_call .(107) c_is_row .(111) ⟨_,rfl,?_,?_,rfl⟩)))) ag) (rL b.calm ((ox (M.map rwQ).length).map λ_=>true) .(20)))))))) ?_ ?_
 . rw[t.at_ (by rw[hl]at hi; exact hi)]; exact c1
 . rw[t.at_ (by rw[hl]at hi; exact hi)]; exact c7
 . rw[hl,decide_eq_true .(0),decide_eq_true .(0),zJ _ _ λ_ _=>rfl]; rfl
 have e0:atI (M.map rwQ) 0=some (rwQ (M.getD 0 [])):=dR [] (i:=0) (by rw[t.len]; omega);refine aX (bo b (ae (bf (dD (cmp 0 (f:=λ_=>.bl (decide ((C:Int)=(C:Int)))) b (bC (aa 0)) (cU (f:=rwQ) (xs:=M) []) (by rw[hl]; omega) λi hi s0 H0 fp=>(jG (bo .(107) .(111) (og (n:=C) (by rw[bp]; exact t.at_ (by rw[hl]at hi; exact hi)))) (bo .(107) (ae (aL (aa 1) af (aY e0)) ag) (og (n:=C) (by rw[bp]; exact t.at_ .(0)))) fD)))) ag) (rL b.calm ((ox (M.map rwQ).length).map λ_=>decide ((C:Int)=(C:Int))) .(20))) ?_;rw[zJ _ _ λ_ _=>decide_eq_true rfl]
def m6 (F:Fun K "look_table" qual (top 20) f fd)(hb:.(92))(c_is_table:.(90) "is_table" iN):.(91) ["thing"] (spD K fU):=by refine fnD F mW hb (by rintro _ _ ⟨_,_,_,rfl,_⟩; rfl) ?_;rintro _ _ ⟨R,C,M,rfl,t,rfl⟩ cdv A outer s H E b;exact dQ (cL (cQ (x_call b c_is_table .(111) ⟨R,C,M,rfl,t,rfl⟩))) rfl (aS rfl)
end
noncomputable def sg (x y:Rat):Int:=(Jg (x.den:Nat) (y.den:Nat):Int)
noncomputable def stop (x y:Rat):Int:=x.num*(((y.den:Nat):Int)/sg x y)+y.num*(((x.den:Nat):Int)/sg x y)
noncomputable def sdiv (x y:Rat):Int:=(Jg (stop x y) (sg x y):Int)
def GB :(Rat.maybeNormalize t d g h1 h2 h3 h4).num=t/(g:Int)/\(Rat.maybeNormalize t d g h1 h2 h3 h4).den=d/g:=by
 unfold Rat.maybeNormalize;split
 . rename_i e;subst e;exact⟨(Lw _).symm,(Nat.div_one _).symm⟩
 . exact⟨rfl,rfl⟩
def FZ (x y:Rat):(x+y).num=stop x y/sdiv x y/\(((x+y).den:Nat):Int)=((x.den:Nat):Int)/sg x y*(((y.den:Nat):Int)/sdiv x y):=by
 have hg:sg x y=((x.den.gcd y.den:Nat):Int):=rfl;show (Rat.add x y).num=_/\(((Rat.add x y).den:Nat):Int)=_;unfold Rat.add;by_cases h:x.den.gcd y.den=1
 . simp only[dif_pos h];have e1:sg x y=1:=by rw[hg,h]; rfl
   have e2:sdiv x y=1:=by unfold sdiv; rw[e1,Int.gcd_one_right]; rfl
   unfold stop;rw[e2,e1,Lw,Lw,Lw];exact⟨rfl,Int.natCast_mul _ _⟩
 . simp only[dif_neg h];have d:sdiv x y=(((stop x y).natAbs.gcd (x.den.gcd y.den):Nat):Int):=rfl;have dd:(stop x y).natAbs.gcd (x.den.gcd y.den)∣y.den:=Nat.dvd_trans (Nat.gcd_dvd_right _ _) (Nat.gcd_dvd_right _ _);refine⟨GB.1,?_⟩;rw[GB.2,d];show ((x.den/x.den.gcd y.den*y.den/(stop x y).natAbs.gcd (x.den.gcd y.den):Nat):Int)=((x.den/x.den.gcd y.den:Nat):Int)*((y.den/(stop x y).natAbs.gcd (x.den.gcd y.den):Nat):Int);rw[Nat.mul_div_assoc _ dd,Int.natCast_mul]
def Es (x y:Rat):(x*y).num=x.num/(Jg x.num (y.den:Nat):Int)*(y.num/(Jg y.num (x.den:Nat):Int))/\(((x*y).den:Nat):Int)=((x.den:Nat):Int)/(Jg y.num (x.den:Nat):Int)*(((y.den:Nat):Int)/(Jg x.num (y.den:Nat):Int)):=by show (Rat.mul x y).num=_/\(((Rat.mul x y).den:Nat):Int)=_;unfold Rat.mul;exact⟨rfl,rfl⟩
def inv_mul (h0:q≠0):((((q.den:Nat):Int)):Rat)=q⁻¹*(q.num:Rat):=by rw[<- dC q,<- J1,Rat.inv_mul_cancel q h0,Jd]
def Sq.inv (h:Sq n q)(h0:q≠0):Sq n q⁻¹:=by
 have hn:q.num≠0:=λz=>h0 (L8.mp z);have e:=inv_mul h0;rcases Int.lt_or_lt_of_ne hn with z | z
 . exact Sq.bW (t:=-((q.den:Nat):Int)) (b:=-q.num) .(0) (by rw[JV,JV,e,Rat.mul_neg]) h.den.neg h.num.neg
 . exact Sq.bW z e h.den h.num
def y9 (p q:Rat):((p.num*((q.den:Nat):Int)+q.num*((p.den:Nat):Int):Int):Rat)=(p+q)*(((p.den:Nat):Int)*((q.den:Nat):Int):Int):=by rw[Kl,IA,IA,IA,<- dC p,<- dC q];grind
def Sq.neg (h:Sq n q):Sq n (-q):=⟨h.num.neg,h.den⟩
def CV (q:Rat):frD (-q)=.tup [.int (-q.num),.int (q.den:Nat)]:=by unfold frD;rw[show (-q).num=-q.num from rfl,show (-q).den=q.den from rfl]
def qi (p q:Rat):((p.num*q.num:Int):Rat)=p*q*(((p.den:Nat):Int)*((q.den:Nat):Int):Int):=by rw[IA,IA,<- dC p,<- dC q];grind
def qe {a b:Int}(h:0<a)(g:0<b):0<a*b:=M7 h g
def Sq.mul (h:Sq m p)(g:Sq n q):Sq (m+n) (p*q):=Sq.bW (qe (den_pos p) (den_pos q)) (qi p q) (h.num.mul g.num) (h.den.mul g.den)
def lJ (ds:List D)(r:Sl):Prop:=∃(m n:Nat) (p q:Rat),ds=[frD p,frD q]/\Sq m p/\Sq n q/\m+n<=900000/\r=.d (frD (p+q))
def j3 (ds:List D)(r:Sl):Prop:=∃(m n:Nat) (p q:Rat),ds=[frD p,frD q]/\Sq m p/\Sq n q/\m+n<=900000/\r=.d (frD (p-q))
def dF (ds:List D)(r:Sl):Prop:=∃(m n:Nat) (p q:Rat),ds=[frD p,frD q]/\Sq m p/\Sq n q/\m+n<=900000/\r=.d (frD (p*q))
def fg (ds:List D)(r:Sl):Prop:=∃(m n:Nat) (p q:Rat),ds=[frD p,frD q]/\q≠0/\Sq m p/\Sq n q/\m+n<=900000/\r=.d (frD (p/q))
section
variable {P:FB}{w:World}{K:fw}{mg:Str->Option Value}{base:Heap}{k:Nat}{f:Addr}{fd:Gc}{qual:Str}
def v8 (F:Fun K "sum_of" qual (top 11) f fd)(hb:.(92))(pyl:Pyl P base)(hk:33<=k)(c_common_divisor:.(90) "common_divisor" bq):.(91) ["one","other"] (spD K lJ):=by
 refine fnD F nW hb (by rintro _ _ ⟨_,_,_,_,rfl,_⟩; rfl) ?_;rintro _ _ ⟨m,n,p,q,rfl,h1,h2,hl,rfl⟩ cdv A outer s H E b;have nd:=nW.nd;have hq:=den_pos q;have hp:=den_pos p;have s0:sg p q≠0:=ft .(0);have sb:Bd n (sg p q):=h2.den.gcd .(0);have g0:sdiv p q≠0:=ft s0;have gb:Bd n (sdiv p q):=sb.gcd s0;have fd1:∀t:Int,t.fdiv (sg p q)=t/sg p q:=λt=>bg t;have fd2:∀t:Int,t.fdiv (sdiv p q)=t/sdiv p q:=λt=>bg t;refine aM 2 nd (x_call b c_common_divisor (ae (aL (aa 0) af (aQ (aH (i:=1) rfl))) (ae (aL (aa 1) af (aQ (aH (i:=1) rfl))) ag)) ⟨_,_,rfl,rfl⟩) ?_;show PSs _ _ (dS K [_,_,.d (.int (sg p q)),_,_] _);have e3:p.num*((q.den:Nat):Int).fdiv (sg p q)+q.num*((p.den:Nat):Int).fdiv (sg p q)=stop p q:=by rw[fd1,fd1]; rfl
 refine aM 3 nd (aE (aE (aL (aa 0) af (aQ (aH (i:=0) rfl))) (aE (aL (aa 1) af (aQ (aH (i:=1) rfl))) (aa 2) (cj pyl b hk s0)) (bz (by rw[fd1]; exact h1.num.aI (h2.den.ediv _) .(0) .(0)))) (aE (aL (aa 1) af (aQ (aH (i:=0) rfl))) (aE (aL (aa 0) af (aQ (aH (i:=1) rfl))) (aa 2) (cj pyl b hk s0)) (bz (by rw[fd1]; exact h2.num.aI (h1.den.ediv _) .(0) .(0)))) bA) ?_;rw[e3];refine aM 4 nd (x_call b c_common_divisor (ae (aa 3) (ae (aa 2) ag)) ⟨_,_,rfl,rfl⟩) ?_;show PSs _ _ (dS K [_,_,_,_,.d (.int (sdiv p q))] _);obtain⟨q1,q2⟩:=FZ p q;refine aX (bO (ae (aE (aa 3) (aa 4) (cj pyl b hk g0)) (ae (aE (aE (aL (aa 0) af (aQ (aH (i:=1) rfl))) (aa 2) (cj pyl b hk s0)) (aE (aL (aa 1) af (aQ (aH (i:=1) rfl))) (aa 4) (cj pyl b hk g0)) (bz (by rw[fd1,fd2]; exact(h1.den.ediv _).aI (h2.den.ediv _) .(0) .(0)))) ag))) ?_;rw[fd1,fd2,fd2,<- q1,<- q2];rfl
def sD (F:Fun K "rest_of" qual (top 12) f fd)(hb:.(92))(c_sum_of:.(90) "sum_of" lJ):.(91) ["one","other"] (spD K j3):=by refine fnD F tm hb (by rintro _ _ ⟨_,_,_,_,rfl,_⟩; rfl) ?_;rintro _ _ ⟨m,n,p,q,rfl,h1,h2,hl,rfl⟩ cdv A outer s H E b;exact aX (x_call b c_sum_of (ae (aa 0) (ae (bO (ae (mM (aL (aa 1) af (aQ (aH (i:=0) rfl)))) (ae (aL (aa 1) af (aQ (aH (i:=1) rfl))) ag))) ag)) ⟨m,n,p,-q,by rw[CV],h1,h2.neg,hl,by rw[Rat.sub_eq_add_neg]⟩) rfl
def ng (F:Fun K "product_of" qual (top 13) f fd)(hb:.(92))(pyl:Pyl P base)(hk:33<=k)(c_common_divisor:.(90) "common_divisor" bq):.(91) ["one","other"] (spD K dF):=by refine fnD F iB hb (by rintro _ _ ⟨_,_,_,_,rfl,_⟩; rfl) ?_;rintro _ _ ⟨m,n,p,q,rfl,h1,h2,hl,rfl⟩ cdv A outer s H E b;have nd:=iB.nd;have hq:=den_pos q;have hp:=den_pos p;have n1:(Jg p.num (q.den:Nat):Int)≠0:=ft .(0);have n2:(Jg q.num (p.den:Nat):Int)≠0:=ft .(0);obtain⟨q1,q2⟩:=Es p q;refine aM 2 nd (x_call b c_common_divisor (ae (aL (aa 0) af (aQ (aH (i:=0) rfl))) (ae (aL (aa 1) af (aQ (aH (i:=1) rfl))) ag)) ⟨_,_,rfl,rfl⟩) ?_;refine aM 3 nd (x_call b c_common_divisor (ae (aL (aa 1) af (aQ (aH (i:=0) rfl))) (ae (aL (aa 0) af (aQ (aH (i:=1) rfl))) ag)) ⟨_,_,rfl,rfl⟩) ?_;refine aX (bO (ae (aE (aE (aL (aa 0) af (aQ (aH (i:=0) rfl))) (aa 2) (cj pyl b hk n1)) (aE (aL (aa 1) af (aQ (aH (i:=0) rfl))) (aa 3) (cj pyl b hk n2)) (bz (by rw[bg,bg]; exact(h1.num.ediv _).aI (h2.num.ediv _) .(0) .(0)))) (ae (aE (aE (aL (aa 0) af (aQ (aH (i:=1) rfl))) (aa 3) (cj pyl b hk n2)) (aE (aL (aa 1) af (aQ (aH (i:=1) rfl))) (aa 2) (cj pyl b hk n1)) (bz (by rw[bg,bg]; exact(h1.den.ediv _).aI (h2.den.ediv _) .(0) .(0)))) ag))) ?_;rw[bg,bg,bg,bg,<- q1,<- q2];rfl
def mf (F:Fun K "quotient_of" qual (top 14) f fd)(hb:.(92))(c_product_of:.(90) "product_of" dF)(c_in_lowest_terms:.(90) "in_lowest_terms" cM):.(91) ["one","other"] (spD K fg):=by refine fnD F mq hb (by rintro _ _ ⟨_,_,_,_,rfl,_⟩; rfl) ?_;rintro _ _ ⟨m,n,p,q,rfl,h0,h1,h2,hl,rfl⟩ cdv A outer s H E b;have hn:q.num≠0:=λz=>h0 (L8.mp z);refine dQ (aZ (aL (aa 1) af (aQ (aH (i:=0) rfl))) af fD) (decide_eq_false hn) ?_;exact aX (x_call b c_product_of (ae (aa 0) (ae (x_call b c_in_lowest_terms (ae (aL (aa 1) af (aQ (aH (i:=1) rfl))) (ae (aL (aa 1) af (aQ (aH (i:=0) rfl))) ag)) ⟨_,_,q⁻¹,rfl,hn,h2.num.mono .(0),inv_mul h0,rfl⟩) ag)) ⟨m,n,p,q⁻¹,rfl,h1,h2.inv h0,hl,by rw[Rat.div_def]⟩) rfl
end
end K33
namespace Hy
open PySem PySem.Spec PyProof.Rows L2
open Ev (D Den aw aq a5 aR)
def Pj (σ:L2.St)(H:Hp)(i j k:Nat):Prop:=∃a vs v,(σ[i]?).join=some (.ref a)/\H a=some (.lst vs)/\vs[k]?=some v/\σ[j]?=some (some v)
def Pj.mono (h:Pj σ H i j k)(e:ao H H'):Pj σ H' i j k:=let ⟨a,vs,v,e1,e2,e3,e4⟩:=h; ⟨a,vs,v,e1,e _ _ e2,e3,e4⟩
def dPJ (K:fw)(τ:List Sl)(i j k:Nat)(pt:List Nat):TE:=λσ H Q=>∃A H₀ B,Sta K A H₀ τ B σ H/\Pj σ H i j k/\∀u v H',(σ[i]?).join=some u->ao H H'->cR H' (k::pt) u v->Q v H'
def dEJ (K:fw)(τ:List Sl)(i j k:Nat)(x:D):TE:=λσ H Q=>∃A H₀ B,Sta K A H₀ τ B σ H/\Pj σ H i j k/\∀v H',ao H H'->Den K (hd H' A) v x->Q v H'
section
variable {X:Cx}{τ:List Sl}{x z:D}{a b e:Expr}{pos q:Pos}{l:Nat}{N:Po}{i j k:Nat}{t c:Nd}{pt:List Nat}{xs:List Nd}{m:Nat}
def pW {n:Str}(hN:X.N[j]?=some n:=by rfl)(hv:Vis X.env.scope n:=by first | exact Ka rfl | exact Ji .(10) | exact Ji .(9))
   (hd:(n==("__debug__" : Str))=false:=by decide) (hcd:(n==("__classdict__" : Str))=false:=by decide):PE X (.Name n pos) (dPJ X.K τ i j k []):=
 peW (bw hN hv hd hcd) λ_ H _ ⟨_,_,_,_,⟨a,vs,v,e1,e2,e3,e4⟩,q⟩=>⟨v,e4,q _ v H e1 .(102) ⟨a,vs,v,rfl,.inl e2,e3,rfl⟩⟩
def BX {z:Int}(ha:PE X a (dPJ X.K τ i j k pt))(hb:PE X b (dE X.K false τ (.d (.int z))))(hi:τ[i]?=some (.n t))(hp:cP (k::pt) t=some (.l xs))(hj:ixN xs.length z=some m)(hs:du b:=by exact λ_ _=>rfl):PE X (.Subscript a b pos) (dPJ X.K τ i j k (pt++[m])):=
 peW (uJ kK ha hb hs) λσ H Q ⟨A,H₀,B,S,P,q⟩=>⟨A,H₀,B,S,P,λu v H1 eu e1 pv=>aV .(129) λw H2 e2 d2=>by
   cases d2;obtain⟨u',v',m',eu',pv',ok,_⟩:=(.(129).mono e2).at hi hp;rw[eu]at eu';cases eu';obtain rfl:=(pv.mono e2).det pv';cases ok with
   | @l ad vs _ _ hH r=>
     obtain⟨x,hx⟩:=vW r (yg hj);exact⟨ad,vs,z,x,rfl,rfl,SqL.of hH,by unfold atI; rw[r.length,hj]; exact hx,q u x H2 eu (e1.trans e2) (pv'.snoc (.inl hH) hx)⟩⟩
def Sta.below {K:fw}{A:Addr->Prop}{B:Nat->List Addr}{σ:L2.St}(S:Sta K A H₀ τ B σ H)(hi:τ[i]?=some (.n t))(hp:cP (k::pt) t=some (.l xs))(hr:(σ[i]?).join=some (.ref r))(hw:cR H (k::pt) (.ref r) (.ref w)):w≠r:=by
 obtain⟨nd,u,e,ok⟩:=S.sl i _ hi;rw[hr]at e;cases e;generalize B i=bi at nd ok
 have key:∀{vs:List V} {bs:List Addr} {ys:List Nd},aW K .(138) H vs bs ys->(ys[k]?).bind (cP pt)=some (.l xs)->(∃v,vs[k]?=some v/\cR H pt v (.ref w))->w∈bs:=λ{vs bs ys} q e ⟨v,h1,h2⟩=>by
   cases ei:ys[k]? with
   | none=>rw[ei]at e; cases e
   | some c=>
     rw[ei]at e;obtain⟨v',l,m,r',g1,g2,g3,_⟩:=q.part ei;rw[h1]at g1;cases g1;obtain⟨w',l',m',q',f1,f2,f3,_⟩:=g3.focus pt e;obtain rfl:=h2.det f1;cases f3 with
     | l hH r2=>rw[g2,f2];exact x3 _ (Ie _ (x3 _ (Ie _ .(5))))
 obtain⟨a,vs,v,e1,e2,e3,e4⟩:=hw;cases e1;cases ok with
 | d h=>cases hp
 | @l _ vs' bs ys hH r0=>
   rw[cP]at hp;have:vs=vs':=by rcases e2 with e2 | e2 <;> rw[hH]at e2 <;> cases e2; rfl
   subst this;exact λz=>(Jb.mp nd).1 (z▸key r0 hp ⟨v,e3,e4⟩)
 | @t _ vs' bs ys hH r0=>
   rw[cP]at hp;have:vs=vs':=by rcases e2 with e2 | e2 <;> rw[hH]at e2 <;> cases e2; rfl
   subst this;exact λz=>(Jb.mp nd).1 (z▸key r0 hp ⟨v,e3,e4⟩)
def Fz {ns ms:List Nd}(h:k<ns.length):(ms.take k++ns.drop k)[k]?=some ns[k]\/ms.length<k:=by
 by_cases hm:ms.length<k
 . exact .inr hm
 . refine .inl ?_;rw[IW .(13)];simp[J8 (Nat.le_of_not_lt hm),h]
def BO {ns ms:List Nd}(h:k<ns.length)(h':k<ms.length):(ms.take k++ns.drop k).set k ms[k]=ms.take (k+1)++ns.drop (k+1):=by
 have hm:(ms.take k).length=k:=by simp; omega
 rw[List.set_append_right _ _ .(0),hm,Lr,Lu h,List.set_cons_zero,List.take_add_one,ph h',IY];rfl
end
def dSL (K:fw)(τ:List Sl)(i j k:Nat)(τe:List Sl):TS:=λD σ H=>∃A H₀ B,Sta K A H₀ τ B σ H/\Pj σ H i j k/\∀B' σ' H',Sta K A H₀ τe B' σ' H'->Pj σ' H' i j k->σ'[i]?=σ[i]?->D.nx σ' H'
section
variable {X:Cx}{τ τ1 τ2:List Sl}{x y z:D}{a e:Expr}{pos q:Pos}{l:Nat}{s:Sl}{N:Po}{st:Stmt}{body rest:List Stmt}{i j k:Nat}{m:Nat}
def GI:PSs X [] (dSL X.K τ i j k τ):=gH jg λ_ σ H ⟨_,_,B,S,P,fin⟩=>fin B σ H S P rfl
def Dr (h1:PS X st (dSL X.K τ i j k τ1))(h2:PSs X rest (dSL X.K τ1 i j k τ2)):PSs X (st::rest) (dSL X.K τ i j k τ2):=gH (d8 h1 h2) λ_ _ _ ⟨A,H₀,B,S,P,fin⟩=>⟨A,H₀,B,S,P,λB' _ _ S' P' e=>⟨A,H₀,B',S',P',λB2 σ2 H2 S2 P2 e2=>fin B2 σ2 H2 S2 P2 (e2.trans e)⟩⟩
def HU (r:Nat){x:D}(h:PSs X rest (dSL X.K (τ.set r .un) i j k τ2))(hr:τ[r]?=some (.d x):=by rfl):PSs X rest (dSL X.K τ i j k τ2):=gH h λ_ _ _ ⟨A,H₀,_,S,P,fin⟩=>⟨A,H₀,_,S.less (bs:=[]) (s:=.un) (i:=r) (λ_ z=>nomatch z) (λ_ _ _=>rfl),P,fin⟩
def ej (h:PE X e (dE X.K false τ (.d x))):PE X e (dEJ X.K τ i j k x):=peW h λσ H Q ⟨A,H₀,B,S,_,q⟩=>aV S λv H' e d=>q v H' e d
def DH (i j:Nat){n v:Str}{ip tp:Pos}(ns ms:List Nd)(hnm:ns.length=ms.length)(Bq:Bk X l)(hN:X.N.Nodup)(hi:τ[i]?=some (.n (.l ns)))
   (hb:∀k (h:k<ns.length) (h':k<ms.length) (r:List Nd),r[k]?=some ns[k]->PSs X body (dSL X.K (τ.set i (.n (.l r))) i j k (τ.set i (.n (.l (r.set k ms[k]))))))
   (hr:PSs X rest (dS X.K (τ.set i (.n (.l ms))) N)) (hj:τ[j]?=some .un:=by rfl) (hij:i≠j:=by decide) (hNi:X.N[i]?=some v:=by rfl) (hNj:X.N[j]?=some n:=by rfl)
   (hvi:Vis X.env.scope v:=by first | exact Ka rfl | exact Ji .(10) | exact Ji .(9)) (hlj:Loc X.env.scope n:=by first | exact .inl rfl | exact .inr rfl)
   (hf:X.fn n=true\/X.env.scope.names.lookup n=some .local:=by first | exact .inl rfl | exact .inr rfl | assumption)
   (hd1:(v==("__debug__" : Str))=false:=by decide) (hd2:(v==("__classdict__" : Str))=false:=by decide)
   (hs:∀x,foldedSetIterable (.Name v ip) X.env x=pure x:=by intro _; rfl) :
   PSs X (.For (.Name n tp) (.Name v ip) body [] pos::rest) .(114):=by
 have hlen:i<τ.length:=(tf.mp hi).1
 let mx:Nat->List Nd:=λk=>ms.take k++ns.drop k
 have ml:∀k,k<=ns.length->(mx k).length=ns.length:=λk hk=>by simp[mx]; omega
 have tk:∀k,(τ.set i (.n (.l (mx k))))[i]?=some (.n (.l (mx k))):=λk=>IH hlen;have tj:∀k,(τ.set i (.n (.l (mx k))))[j]?=some .un:=λk=>by rw[Ik hij]; exact hj
 have bd:PSs X body λD σ H=>∃kk,kk<ns.length/\dSL X.K (τ.set i (.n (.l (mx kk)))) i j kk (τ.set i (.n (.l (mx (kk+1))))) D σ H:=by
   rintro pins s σ H D I ⟨kk,hk,h⟩;have hk':kk<ms.length:=by omega
   have:=hb kk hk hk' (mx kk) ((Fz (ms:=ms) hk).resolve_right .(0));rw[BO hk hk']at this;exact this pins s σ H D I h
 have e0:mx 0=ns:=by simp[mx]
 have eE:mx ns.length=ms:=by simp[mx,hnm]
 refine bB (M:=(·=τ.set i (.n (.l (mx ns.length))))) (psW (t9 Bq.po (vN Bq.calm (bw hNi hvi hd1 hd2)) (eF hN hNj hlj hf) bd hs) λD σ H ⟨A,H₀,B,S,Me⟩=>?_) λ_ e=>by rw[e,eE]; exact hr
 obtain⟨_,u,eu,ok⟩:=S.sl i _ hi;generalize B i=bi at ok;cases ok with
 | @l a vs bs0 _ hH r0=>
   refine⟨_,slot_of eu,a,rfl,⟨_,SqL.of hH⟩,λk m σ' H'=>m=ns.length-k/\k<=ns.length/\(σ'[i]?).join=some (.ref a)/\∃B',Sta X.K A H₀ (τ.set i (.n (.l (mx k)))) B' σ' H',⟨_,rfl,Im _,eu,B,by rw[e0,set_same hi]; exact S⟩,?_⟩;rintro k m σ' H' ⟨rfl,hk,ea,B',S'⟩;obtain⟨_,u',eu',ok'⟩:=S'.sl i _ (tk k);rw[ea]at eu';cases eu';generalize B' i=bi' at ok';cases ok' with
   | @l _ vs' bs1 _ hH' r1=>
     have hlv:vs'.length=ns.length:=(by rw[r1.length,ml k hk]);by_cases hlt:k<ns.length
     . refine .inr ⟨⟨vs',vs'[k],SqL.of hH',ph .(0)⟩,λσ2 H2=>(σ2[i]?).join=some (.ref a)/\∃B',Sta X.K A H₀ (τ.set i (.n (.l (mx (k+1))))) B' σ2 H2,λσ2 H2 ⟨z1,z2⟩=>⟨ns.length-(k+1),by omega,rfl,hlt,z1,z2⟩,λy H2 ⟨e1,e2⟩=>?_⟩;subst e1;have ey:=e2 vs' (SqL.of hH');have S2:=S'.set .(102) (i:=j) (v:=y) (s:=.un) (bs:=[]) (λ_ z=>nomatch z) rfl;rw[set_same (tj k)]at S2;have hjl:j<σ'.length:=by rw[S'.len,Iz]; exact(tf.mp hj).1
       have ei:((σ'.set j (some y))[i]?).join=some (.ref a):=(by rw[Ik (Je hij)]; exact ea);exact⟨k,hlt,A,H₀,_,S2,⟨a,vs',y,ei,hH',ey,IH hjl⟩,λB3 σ3 H3 S3 _ e3=>⟨by rw[e3]; exact ei,B3,S3⟩⟩
     . obtain rfl:k=ns.length:=by omega
       exact .inl ⟨⟨vs',SqL.of hH',by omega⟩,Me.nx _ _ _ _ rfl S'⟩
end
section
variable {K:fw}{G H:Hp}
inductive Nd3 (K:fw)(G H:Hp):List V->List (List Addr)->List Nd->Prop where
 | nil:Nd3 K G H [] [] []
 | cons {v:V} {vs:List V} {b:List Addr} {bs:List (List Addr)} {c:Nd} {cs:List Nd} (h:cg K G H v b c) (r:Nd3 K G H vs bs cs):Nd3 K G H (v::vs) (b::bs) (c::cs)
theorem aW.three:∀{vs:List V} {bs:List Addr} {xs:List Nd},aW K G H vs bs xs->∃bss:List (List Addr),bss.flatten=bs/\Nd3 K G H vs bss xs
 | _,_,_,.nil=>⟨[],rfl,.nil⟩
 | _,_,_,.cons (b1:=b1) h r=>let ⟨bss,e,q⟩:=aW.three r; ⟨b1::bss,by rw[Jz,e],.cons h q⟩
def Nd3.oks:∀{vs:List V} {bs:List (List Addr)} {xs:List Nd},Nd3 K G H vs bs xs->aW K G H vs bs.flatten xs
 | _,_,_,.nil=>.nil
 | _,_,_,.cons h r=>.cons h r.oks
theorem Nd3.len:∀{vs:List V} {bs:List (List Addr)} {xs:List Nd},Nd3 K G H vs bs xs->vs.length=xs.length/\bs.length=xs.length
 | _,_,_,.nil=>⟨rfl,rfl⟩
 | _,_,_,.cons _ r=>⟨congrArg (·+1) r.len.1,congrArg (·+1) r.len.2⟩
theorem Nd3.at:∀{vs:List V} {bs:List (List Addr)} {xs:List Nd} {a:Nat} (h1:a<vs.length) (h2:a<bs.length) (h3:a<xs.length),Nd3 K G H vs bs xs->cg K G H vs[a] bs[a] xs[a]
 | _,_,_,0,_,_,_,.cons h _=>h
 | _,_,_,a+1,h1,h2,h3,.cons _ r=>by simpa using Nd3.at (a:=a) (by simpa using h1) (by simpa using h2) (by simpa using h3) r
theorem Nd3.set (h:cg K G H v b c):∀{vs:List V} {bs:List (List Addr)} {xs:List Nd} (a:Nat),Nd3 K G H vs bs xs->Nd3 K G H (vs.set a v) (bs.set a b) (xs.set a c)
 | _,_,_,_,.nil=>.nil
 | _,_,_,0,.cons _ r=>.cons h r
 | _,_,_,a+1,.cons h1 r=>.cons h1 (Nd3.set h a r)
def aW.swap (h:aW K G H vs bs xs)(ea:vs[a]?=some va)(eb:vs[b]?=some vb)(fa:xs[a]?=some xa)(fb:xs[b]?=some xb):
   ∃bs',bs'.Perm bs/\aW K G H ((vs.set a vb).set b va) bs' ((xs.set a xb).set b xa):=by
 obtain⟨bss,rfl,q⟩:=h.three;obtain⟨l1,l2⟩:=q.len;obtain⟨a1,a2⟩:=tf.mp fa;obtain⟨b1,b2⟩:=tf.mp fb;obtain⟨c1,c2⟩:=tf.mp ea;obtain⟨d1,d2⟩:=tf.mp eb;have ka:=q.at c1 .(0) a1;have kb:=q.at d1 .(0) b1;rw[c2,a2]at ka;rw[d2,b2]at kb;exact⟨_,(List.set_set_perm (as:=bss) .(0) .(0)).flatten,((q.set kb a).set ka b).oks⟩
end
section
def uR :upd (upd H a o) a o'=upd H a o':=by funext b;unfold upd;split <;> rfl
end
section
variable {X:Cx}{τ:List Sl}{e2:Expr}{N:Po}{rest:List Stmt}{pos p tp:Pos}{x2:D}{t:Nd}
def DN (i:Nat){n:Str}{md}(h2:PE X e2 (dE X.K true τ (.d x2)))(h:N.rt (.n (.t [t,.d x2])))(hi:τ[i]?=some (.n t):=by rfl)(hN:X.N[i]?=some n:=by rfl)
   (hv:Vis X.env.scope n:=by first | exact Ka rfl | exact Ji .(10) | exact Ji .(9)) (hd1:(n==("__debug__" : Str))=false:=by decide) (hcd:(n==("__classdict__" : Str))=false:=by decide)
   (s1:Do [.Name n p,e2] X.env=(false,eval .(108) X.env)::Do [e2] X.env:=by rfl) (s2:Do [e2] X.env=(false,eval e2 X.env)::Do [] X.env:=by rfl) :
   PSs X (.Return (some (.Tuple [.Name n p,e2] md tp)) pos::rest) .(114):=
 bB (M:=λ_=>False) (psW (mS (lI (bh (bw (i:=i) hN hv hd1 hcd) (bh h2 cw s2) s1))) λD σ H ⟨A,H₀,B,S,Me⟩=>by
   obtain⟨_,u,eu,_⟩:=S.sl i _ hi;refine⟨_,slot_of eu,aV S λv2 H2 e2 d2=>⟨(show 2<=sizeLine by decide),λp hp=>?_⟩⟩;have S2:=S.mono e2;obtain⟨nd,u',eu',ok⟩:=S2.sl i _ hi;rw[eu]at eu';cases eu';have low:ao (hd H2 (own A B)) (hd H2 λb=>A b\/b∈B i):=aD .(102) λb z=>z.elim .inl λz=>.inr ⟨i,z⟩;have nds:aW X.K (hd H2 λb=>A b\/b∈B i) H2 [u,v2] (B i) [t,.d x2]:=by have:=aW.cons (ok.frame low λ_ _=>rfl) (.cons (b1:=[]) (b2:=[]) (.d (d2.mono low)) .nil);rw[Jc,Jc]at this;exact this
   obtain⟨z1,z2⟩:=yF (o:=.tup [u,v2]) hp nds nd;refine Me.rt (.ref p) _ (p::B i) _ h (S2.same.trans (aq hp _)) (λb hb'=>?_) ⟨z2,_,rfl,.t aN z1⟩;rcases HZ.mp hb' with w | w
   . subst w; exact⟨S2.same.free hp,_,aN⟩
   . obtain⟨o,w2⟩:=S2.bd i b w;exact⟨S2.fr i b w,o,aq hp _ _ _ w2⟩) λ_ e=>e.elim
end
end Hy
namespace L2
open PySem PySem.Spec PyProof.Rows
end L2
namespace Hy
open PySem PySem.Spec PyProof.Rows L2
open Ev (D Den aw aq a5 aR aU gB eR PTs dB fE)
end Hy
namespace Hy
open PySem PySem.Spec PyProof.Rows L2
open Ev (D Den aw aq)
end Hy
namespace Hy
open PySem PySem.Spec PyProof.Rows L2
open Ev (D Den aw dB fE)
end Hy
namespace Hy
open PySem PySem.Spec PyProof.Rows L2
open Ev (D Den aw aq)
end Hy
namespace Lc
open PySem PySem.Spec PyProof.Rows L2
open PySem.AutoSeq1 (wpAny_loadPart')
open PySem.MeetsSeq PySem.MeetsSeq2 PySem.MeetsSeq3 PySem.SeqRoads2 PySem.SeqAt
open Ev (D Den aw eqD cu toP)
def iU (op:CmpOp)(A:GT)(s:Da)(y x:Value)(b:Bool):Prop:=∀(prog:FB) (w:World) (E:Value->Da->Prop) (Q:Value->Da->Prop),Q (.bool b) s->wpAny .(110) A (richCompare op y x) Q E s
def Bt (l b:Addr)(items items2:Array Value)(n n2:Nat)(dd dd2:Option Addr)(sl sl2:Array (Option Value))(j:Nat)(h1:j<items.size)(h2:j<items2.size)(c:Bool)(k:Nat):
   ∀i:Nat,j-i=k->i<=j->Meets (Builtin.«list.__eq__.loop» ⟨[.ref l,.ref b,NT i,NT 0],[]⟩)
     (λA R s=>s.heap.get? l=some { cls:=.type "list",dict:=dd,data:=.seq items n,slots:=sl }/\s.heap.get? b=some { cls:=.type "list",dict:=dd2,data:=.seq items2 n2,slots:=sl2 } /\
       (∀m (_:m<j) (z1:m<items.size) (z2:m<items2.size),EqAt A.in1 s items[m] items2[m] true)/\EqAt A.in1 s items[j] items2[j] false/\iU .Lt A.in1 s items[j] items2[j] c /\
       R (.ok (.ret (.bool c))) s):=by
 induction k with
 | zero=>
   intro i hk hij prog w A R s h;obtain⟨hp,g,d,tk,os⟩:=s; obtain⟨hl,hb,he,hn,hc,h⟩:=h;obtain rfl:i=j:=by omega
   wp_walk using N5 hl,N5 hb
   have hi1:items[((i:Nat):Int).toNat]?=some items[i]:=by simp[h1]
   have hi2:items2[((i:Nat):Int).toNat]?=some items2[i]:=by simp[h2]
   rw[hi1,hi2];refine AC (hn prog w _ _ ?_)
   wp_walk using N5 hl,N5 hb
   rw[hi1,hi2];refine AC (hc prog w _ _ ?_)
   wp_walk
   exact h
 | succ k ih=>
   intro i hk hij prog w A R s h;obtain⟨hp,g,d,tk,os⟩:=s; obtain⟨hl,hb,he,hn,hc,h⟩:=h
   wp_walk using N5 hl,N5 hb
   have hlt:i<items.size:=by omega
   have hlt2:i<items2.size:=by omega
   have hi1:items[((i:Nat):Int).toNat]?=some items[i]:=by simp[hlt]
   have hi2:items2[((i:Nat):Int).toNat]?=some items2[i]:=by simp[hlt2]
   have hcc:((i:Int)+1)=((i+1:Nat):Int):=by push_cast; rfl
   rw[hi1,hi2];refine AC (he i .(0) hlt hlt2 prog w _ _ ?_)
   wp_walk
   rw[hcc]
   exact⟨NN plain_eq_loop _,NI entry_eq_loop (by
     rw[J4 plain_eq_loop _];exact ih (i+1) .(0) .(0) prog w A R _ ⟨hl,hb,he,hn,hc,h⟩)⟩
def Ay (l b:Addr)(items items2:Array Value)(n n2:Nat)(dd dd2:Option Addr)(sl sl2:Array (Option Value))(j:Nat)(h1:j<items.size)(h2:j<items2.size)(c:Bool):
   Meets (Builtin.«list.__lt__» ⟨[.ref l,.ref b],[]⟩)
     (λA R s=>s.heap.get? l=some { cls:=.type "list",dict:=dd,data:=.seq items n,slots:=sl }/\s.heap.get? b=some { cls:=.type "list",dict:=dd2,data:=.seq items2 n2,slots:=sl2 } /\
       (∀m (_:m<j) (z1:m<items.size) (z2:m<items2.size),EqAt A.in1 s items[m] items2[m] true)/\EqAt A.in1 s items[j] items2[j] false/\iU .Lt A.in1 s items[j] items2[j] c /\
       R (.ok (.ret (.bool c))) s):=by
 intro prog w A R s h;obtain⟨hp,g,d,tk,os⟩:=s; obtain⟨hl,hb,he,hn,hc,h⟩:=h;have f3:=AutoSeq1.sub_list_list
 wp_walk using N5 hl,N5 hb
 exact⟨NN plain_eq_loop _,NI entry_eq_loop (by
   rw[J4 plain_eq_loop _];exact Bt l b items items2 n n2 dd dd2 sl sl2 j h1 h2 c _ 0 rfl (Im _) prog w A R _ ⟨hl,hb,he,hn,hc,h⟩)⟩
def iU.lt (hl:s.heap.IsList l items)(hb:s.heap.IsList b items2)(hu:A.units<cLine)(h1:j<items.size)(h2:j<items2.size)
   (he:∀m (_:m<j) (z1:m<items.size) (z2:m<items2.size),EqAt A.in1 s items[m] items2[m] true) (hn:EqAt A.in1 s items[j] items2[j] false) (hc:iU .Lt A.in1 s items[j] items2[j] c):iU .Lt A s (.ref l) (.ref b) c:=λprog w E Q h=>by
 obtain⟨⟨cls,dd,data,sl⟩,ho,hc1,n,hd⟩:=id hl;obtain⟨⟨cls2,dd2,data2,sl2⟩,ho2,hc2,n2,hd2⟩:=id hb;simp only at hc1 hd hc2 hd2;subst hc1 hd hc2 hd2
 exact richCompare_meets_room (op:=.Lt) ⟨_,ho,rfl⟩ ⟨_,ho2,rfl⟩ F.slot_list_lt F.entry_list_lt (F.args_list_lt_2 _ _) (Ay l b items items2 n n2 dd dd2 sl sl2 j h1 h2 c)
   ⟨ho,ho2,he,hn,hc,show JI c≠Value.notImplemented/\Q (.bool c) s from⟨(λx=>nomatch x),h⟩⟩ hu
section
variable {X:Cx}{pins:List .(104)}{σ:L2.St}{H G:Hp}{s:Da}
open Ev (cln bR dep b6 cJ iw jl kM)
theorem jA:∀{xs:List D} {j:Nat} {x:D},bR xs=true->xs[j]?=some x->cln x=true/\dep x<=b6 xs
 | y::ys,0,x,h,e=>by cases e;rw[bR,IS]at h;rw[b6];exact⟨h.1,Nat.le_max_left _ _⟩
 | y::ys,j+1,x,h,e=>by rw[bR,IS]at h;obtain⟨h1,h2⟩:=jA (xs:=ys) h.2 e;rw[b6];exact⟨h1,Il h2 (Nat.le_max_right _ _)⟩
theorem fQ {K:fw}:∀{vs:List V} {xs:List D} {us:List Value},aw K G vs xs->Vals vs us->∀{j:Nat} {x:D},xs[j]?=some x->∃v u,us[j]?=some u/\Den K G v x/\RelV v u
 | _,_,_,.cons d r,.cons q qs,0,x,e=>by cases e; exact⟨_,_,rfl,d,q⟩
 | _,_,_,.cons d r,.cons q qs,j+1,x,e=>fQ r qs (j:=j) e
 | _,_,_,.nil,.nil,_,_,e=>by cases e
def mG (I:Inv X pins σ H s)(e:ao G H)(d:Den X.K G v x)(r:RelV v u)(d':Den X.K G v' y)(r':RelV v' u')(c1:cln x=true)(c2:cln y=true)(hu:A.units+dep x<cLine):EqAt A s u u' (eqD x y):=by obtain⟨as,z1⟩:=cJ I e d r c1;obtain⟨bs,z2⟩:=cJ I e d' r' c2;rw[<- iw];refine eqAt_reads _ _ A s u u' as bs z1 z2 (by rw[jl]; exact c1) (by rw[jl]; exact c2) ?_;rw[kM];exact IB (Mm (Nat.min_le_left _ _) _) hu
end
end Lc
namespace Hy
open PySem PySem.Spec PyProof.Rows L2
open Ev (D Den aw cu)
end Hy
namespace Hy
open PySem PySem.Spec PyProof.Rows L2
open Ev (D Den aw aq a5 aR Ite Dp oQ)
end Hy
namespace Hy
open PySem PySem.Spec PyProof.Rows L2
open Ev (D Den aw aR eqD cu bR cln dep b6)
section
variable {X:Cx}{k:Nat}{x:D}{xs:List D}
def Am (hu:X.A.units+70<cLine):OpR X (GE .NotIn) (λv y H Q=>∃G d xs a,y=.ref a/\ao G H/\Den X.K G v d/\Den X.K G (.ref a) (.lst xs)/\cu d/\(∀z∈xs,cu z)/\Q (.bl (!xs.any λz=>eqD z d)) H):=by
 classical
 intro pins s σ H v y u u' Q I rx ry ⟨G,d,xs,a,e0,sg,dx,dy,o1,o2,q⟩;subst e0;cases ry;cases dy with
 | @lst _ vs _ hl r=>
   obtain⟨its,rv,pl,hz⟩:=I.list (aR sg hl);have l1:=r.length;have l2:=rv.length;have i1:∀A:GT,A.in1.units=A.units+1:=λ_=>rfl;have ev:∀i (h:i<xs.length),∃w,its[i]?=some w/\SeqAt.EqAt X.A.in1 s w u (eqD xs[i] d):=λi h=>by obtain⟨v',w,e1,d1,r1⟩:=Lc.fQ r rv (ph h);have oz:=o2 _ (JR h);exact⟨w,e1,Lc.mG I sg d1 r1 dx rx oz.1 o1.1 (by rw[i1]; have:=oz.2; omega)⟩
   let f:Value->Bool:=λw=>decide (∃i,∃h:i<xs.length,its[i]?=some w/\eqD xs[i] d=true)
   have an:its.toArray.any f=xs.any λz=>eqD z d:=by
     rw[J7];constructor
     . intro h;obtain⟨w,hw,h⟩:=Ks.mp (by simpa using h);obtain⟨i,hi,_,e⟩:=of_decide_eq_true h;exact Ks.mpr ⟨_,JR hi,e⟩
     . intro h;obtain⟨z,hz,e⟩:=Ks.mp h;obtain⟨i,hi,rfl⟩:=Kx hz;obtain⟨w,ew,_⟩:=ev i hi;have:its.any f=true:=Ks.mpr ⟨w,Jp ew,decide_eq_true ⟨i,hi,ew,e⟩⟩;simpa using this
   refine SeqAt.notIn_listAt f pl.isList (λw hw=>?_) ⟨.bl _,H,I,rfl,?_⟩
   . have hw:w∈its:=by simpa using hw
     obtain⟨i,hi,e⟩:=Kx hw;have hi':i<xs.length:=(by omega);have ei:its[i]?=some w:=(by rw[ph hi,e]);by_cases c:∃i,∃h:i<xs.length,its[i]?=some w/\eqD xs[i] d=true
     . have:f w=true:=decide_eq_true c;rw[this];obtain⟨j,hj,ej,t⟩:=c;obtain⟨w',ew,q'⟩:=ev j hj;rw[ej]at ew;cases ew;rw[t]at q';exact q'
     . have:f w=false:=decide_eq_false c;rw[this];obtain⟨w',ew,q'⟩:=ev i hi';rw[ei]at ew;cases ew;cases t:eqD xs[i] d with
       | true=>exact absurd ⟨i,hi',ei,t⟩ c
       | false=>rw[t]at q'; exact q'
   . rw[an];exact q
def DP (B:Bk X k)(h1:cu x)(h2:∀z∈xs,cu z):cH X (GE .NotIn) x (.lst xs) (.bl (!xs.any λz=>eqD z x)):=⟨_,Am (by have:=B.room.un; omega),λM v w H Q _ d1 d2 q=>by
 cases d2 with
 | lst h r=>exact⟨_,x,xs,_,rfl,aT,d1,.lst h r,h1,h2,q _ H .(102) .bl⟩⟩
end
end Hy
namespace Hy
open PySem PySem.Spec PyProof.Rows L2
open Ev (D Den aw aq a5 aR)
noncomputable def par:D->Bool
 | .tup [x,y]=>flat x&&flat y
 | _=>false
end Hy
namespace Hy
open PySem PySem.Spec PyProof.Rows L2
open Ev (D Den aw aI aK aq a5 aR eqD cu bR cln dep b6)
end Hy
namespace K33
open PySem PySem.Spec PyProof.Rows L2 Hy
open Ev (D Den aw aI aK)
noncomputable def GG (t:List .(109)):D:=.lst (t.map λr=>.lst (r.map frD))
noncomputable def fP (t:List .(109)):Nd:=.l (t.map λr=>.l ((r.map frD).map .d))
def l6 (xs:List D):kI (xs.map .d)=xs:=by
 induction xs with
 | nil=>rfl
 | cons x xs ih=>rw[IJ,kI,ndD,ih]
theorem t6 {α:Type}(f:α->List Nd):∀t:List α,kI (t.map λr=>.l (f r))=t.map λr=>D.lst (kI (f r))
 | []=>rfl
 | r::t=>by rw[IJ,kI,ndD,t6 f t]; rfl
def DT (t:List .(109)):ndD (fP t)=GG t:=by unfold fP GG;rw[ndD,t6];congr 1;exact ID λr _=>by rw[l6]
def zO {α β:Type}(f:α->β)(xs:List α)(d:α)(h:m=xs.length):(ox m).map (λi=>f (xs.getD i d))=xs.map f:=by
 subst h;refine Jw .(4) λi h1 h2=>?_;have:i<xs.length:=by simpa using h2
 simp[this]
def cN (h:m<n):ixN n (m:Int)=some m:=by unfold ixN;rw[if_pos .(0),if_pos .(0)];simp
noncomputable def rE (M:List .(109))(i j:Nat)(q:Rat):List .(109):=M.set i (.(103).set j q)
def hV (hi:i<M.length):cP [i] (fP M)=some (.l ((.(103).map frD).map .d)):=by unfold fP;rw[cP,Iy,ph hi];simp[cP,hi]
def vc :cy [i] (fP M) (.l (((.(103).map frD).set j (frD q)).map .d))=fP (rE M i j q):=by unfold fP rE;simp only[MH];rfl
def qS (hi:i<M.length)(hj:j<.(103).length):cP [i,j] (fP M)=some (.d (frD (.(103).getD j 0))):=by
 unfold fP;rw[cP,Iy,ph hi];have e:.(103)=M[i]:=by simp[hi]
 rw[e]at hj ⊢;simp only[JK,Option.bind_some,cP,Iy,ph hj];simp[hj]
noncomputable def mkT (R C:Nat)(G:Nat->Nat->Rat):List .(109):=(ox R).map λi=>(ox C).map (G i)
def dH (R C:Nat)(G:Nat->Nat->Rat):(mkT R C G).length=R:=by simp[mkT]
def jE (hi:i<R):(mkT R C G).getD i []=(ox C).map (G i):=by simp[mkT,hi]
def DQ (hi:i<R)(hj:j<C):((mkT R C G).getD i []).getD j 0=G i j:=by rw[jE hi]; simp[hj]
def wF (h:∀i,i<R->∀j,j<C->G i j=H i j):mkT R C G=mkT R C H:=by unfold mkT;refine ID λi hi=>ID λj hj=>h i (Iq.mp hi) j (Iq.mp hj)
def qd (r1:1<=R)(r7:R<=7)(c1:1<=C)(c7:C<=7):Tq R C (mkT R C G):=⟨r1,r7,c1,c7,dH R C G,λr hr=>by
 unfold mkT at hr;obtain⟨i,_,rfl⟩:=HV.mp hr;simp⟩
def eY :((mkT n n g).map rwQ).length=n:=by rw[bp,dH]
def jn (hi:i<n):atI ((mkT n n g).map rwQ) (i:Int)=some (rwQ ((ox n).map (g i))):=by have:=dR (f:=rwQ) (xs:=mkT n n g) [] (i:=i) (by rw[dH]; exact hi);rw[jE hi]at this;exact this
def iL (hk:k<n):atI (((ox n).map f).map frD) (k:Int)=some (frD (f k)):=by
 have:=dR (f:=frD) (xs:=(ox n).map f) 0 (i:=k) (by rw[bp,IQ]; exact hk);have e:((ox n).map f).getD k 0=f k:=by simp[hk]
 rw[e]at this;exact this
def Ha {xs ys:List Rat}(i:Nat)(h:i<(gG (xs.map frD) (ys.map frD)).length):(gG (xs.map frD) (ys.map frD))[i]=.tup [frD (xs.getD i 0),frD (ys.getD i 0)]:=by rw[pG];rw[bQ,bp,bp]at h;simp[show i<xs.length by omega,show i<ys.length by omega]
def Sq.div (hx:Sq m x)(hy:Sq m y)(h:y≠0):Sq (m+m) (x/y):=by
 have n0:y.num≠0:=λz=>h (L8.mp z);have dx:=den_pos x;have dy:=den_pos y;have e:((x.num*(y.den:Nat):Int):Rat)=x/y*(((x.den:Nat)*y.num:Int):Rat):=by rw[IA,IA,<- dC x,<- dC y];generalize (((x.den:Nat):Int):Rat)=a;generalize (((y.den:Nat):Int):Rat)=b;have:x/y*y=x:=JP h;generalize x/y=w at this ⊢;grind
 have b1:Bd (m+m) (x.num*(y.den:Nat)):=hx.num.mul hy.den;have b2:Bd (m+m) ((x.den:Nat)*y.num):=hx.den.mul hy.num;rcases Int.lt_or_gt_of_ne n0 with neg | pos
 . refine Sq.bW (t:=-(x.num*(y.den:Nat))) (b:=-((x.den:Nat)*y.num)) ?_ ?_ ?_ ?_
   . have:=Int.mul_neg_of_pos_of_neg dx neg; omega
   . rw[JV,JV,e]; grind
   . unfold Bd at b1 ⊢; rw[Ku]; exact b1
   . unfold Bd at b2 ⊢; rw[Ku]; exact b2
 . exact Sq.bW (M7 dx pos) e b1 b2
abbrev Stp:=Str×Nat×Rat
noncomputable def stD (s:Stp):D:=.tup [.str s.1,.int (s.2.1:Nat),frD s.2.2]
def okS (T:Nat)(s:Stp):Prop:=0<=s.2.2.num/\((s.1 = "weigh" /\ s.2.1<T)\/((s.1 = "down" \/ s.1 = "up")/\s.2.1+1<T))
noncomputable def rgS (s:Stp):Nat:=if s.1 = "down" then s.2.1 else s.2.1+1
noncomputable def rgE (s:Stp):Nat:=if s.1 = "down" then s.2.1+1 else s.2.1
noncomputable def gy (V:Nat->Nat->Rat)(n:Nat)(r:Nat->Rat):Nat->Nat->Rat:=λk=>if k=n then r else V k
noncomputable def V0 (k i:Nat):Rat:=if i=k then 1 else 0
noncomputable def bkV (L:Nat->Nat->Rat)(st:Stp):Nat->Nat->Rat:=if st.1 = "weigh" then gy L st.2.1 λi=>st.2.2*L st.2.1 i else gy L (rgS st) λi=>L (rgS st) i+st.2.2*L (rgE st) i
noncomputable def bwd (ss:List Stp):Nat->Nat->Rat:=ss.reverse.foldl bkV V0
noncomputable def act (ss:List Stp)(L:Nat->Nat->Rat):Nat->Nat->Rat:=ss.foldr (λst L=>bkV L st) L
def eQ (xs ys:List Stp)(L:Nat->Nat->Rat):act (xs++ys) L=act xs (act ys L):=by unfold act; rw[List.foldr_append]
def Bo (ss:List Stp):bwd ss=act ss V0:=by unfold bwd act; rw[List.foldl_reverse]
def Eqn (n:Nat)(A B:Nat->Nat->Rat):Prop:=∀i,i<n->∀j,j<n->A i j=B i j
def Eqn.refl (A:Nat->Nat->Rat):Eqn n A A:=λ_ _ _ _=>rfl
def Eqn.symm (h:Eqn n A B):Eqn n B A:=λi hi j hj=>(h i hi j hj).symm
def Eqn.trans (h:Eqn n A B)(g:Eqn n B C):Eqn n A C:=λi hi j hj=>(h i hi j hj).trans (g i hi j hj)
def Eqn.tr (h:Eqn n A B):Eqn n (λi j=>A j i) λi j=>B j i:=λi hi j hj=>h j hj i hi
def Em {st:Stp}(h:okS n st):(st.1 = "weigh" -> st.2.1<n)/\(st.1 ≠ "weigh" -> rgS st<n/\rgE st<n):=by
 rcases h.2 with ⟨e,z⟩ | ⟨e,z⟩
 . exact⟨λ_=>z,λne=>absurd e ne⟩
 . refine⟨λ_=>by omega,λ_=>?_⟩;unfold rgS rgE;split <;> omega
def BN {st:Stp}{A B:Nat->Nat->Rat}(hs:okS n st)(h:Eqn n A B):Eqn n (bkV A st) (bkV B st):=λi hi j hj=>by
 obtain⟨h1,h2⟩:=Em hs;unfold bkV gy;by_cases e:st.1 = "weigh"
 . rw[if_pos e,if_pos e];show (if i=st.2.1 then _ else A i) j=(if i=st.2.1 then _ else B i) j;split
   . show st.2.2*A st.2.1 j=st.2.2*B st.2.1 j;rw[h _ (h1 e) j hj]
   . exact h i hi j hj
 . rw[if_neg e,if_neg e];show (if i=rgS st then _ else A i) j=(if i=rgS st then _ else B i) j;split
   . show A (rgS st) j+st.2.2*A (rgE st) j=B (rgS st) j+st.2.2*B (rgE st) j;rw[h _ (h2 e).1 j hj,h _ (h2 e).2 j hj]
   . exact h i hi j hj
def ij (h:Eqn n A B):∀ss:List Stp,(∀st∈ss,okS n st)->Eqn n (act ss A) (act ss B)
 | [],_=>h
 | st::ss,hs=>BN (hs st .(5)) (ij h ss λs m=>hs s (Et _ m))
def Ds (A:Nat->Nat->Rat)(s t:Stp):(λi j=>bkV (λp q=>bkV A s q p) t j i)=bkV (λi j=>bkV (λp q=>A q p) t j i) s:=by
 funext i j;unfold bkV gy;by_cases es:s.1 = "weigh" <;> by_cases et:t.1 = "weigh"
 . simp only[if_pos es,if_pos et];by_cases a:i=s.2.1 <;> by_cases b:j=t.2.1 <;> simp only[a,b,if_true,if_false] <;> grind
 . simp only[if_pos es,if_neg et];by_cases a:i=s.2.1 <;> by_cases b:j=rgS t <;> simp only[a,b,if_true,if_false] <;> grind
 . simp only[if_neg es,if_pos et];by_cases a:i=rgS s <;> by_cases b:j=t.2.1 <;> simp only[a,b,if_true,if_false] <;> grind
 . simp only[if_neg es,if_neg et];by_cases a:i=rgS s <;> by_cases b:j=rgS t <;> simp only[a,b,if_true,if_false] <;> grind
noncomputable def eo (ss:List Stp)(A:Nat->Nat->Rat):Nat->Nat->Rat:=λi j=>act ss (λp q=>A q p) j i
def nJ (t:Stp)(ss:List Stp)(A:Nat->Nat->Rat):eo (t::ss) A=λi j=>bkV (λp q=>eo ss A q p) t j i:=rfl
theorem ur (s:Stp)(A:Nat->Nat->Rat):∀ss:List Stp,eo ss (bkV A s)=bkV (eo ss A) s
 | []=>rfl
 | t::ss=>by rw[nJ,nJ,ur s A ss];exact Ds (eo ss A) s t
def jd (xs ys:List Stp)(A:Nat->Nat->Rat):eo ys (act xs A)=act xs (eo ys A):=by
 induction xs with
 | nil=>rfl
 | cons s xs ih=>show eo ys (bkV (act xs A) s)=bkV (act xs (eo ys A)) s;rw[ur,ih]
def rD (xs ys:List Stp)(A:Nat->Nat->Rat):eo (xs++ys) A=eo xs (eo ys A):=by unfold eo;rw[eQ]
def lE (h:Eqn n A B)(ss:List Stp)(hs:∀st∈ss,okS n st):Eqn n (eo ss A) (eo ss B):=λi hi j hj=>ij h.tr ss hs j hj i hi
noncomputable def trn (s:Stp):Stp:=if s.1 = "weigh" then s else (if s.1 = "down" then "up" else "down",s.2.1,s.2.2)
def Ep (s:Stp)(h:s.1 = "weigh" \/ s.1 = "down" \/ s.1 = "up"):(λi j=>bkV V0 s j i)=bkV V0 (trn s):=by
 funext i j;obtain⟨u,k,w⟩:=s;rcases h with h | h | h
 . have h:u = "weigh":=h;subst h;unfold trn bkV gy V0;simp only[if_true];by_cases a:i=k <;> by_cases b:j=k <;> simp only[a,b,if_true,if_false] <;> grind
 . have h:u = "down":=h;subst h;have n1:¬(("down" : Str) = "weigh"):=by decide
   have n2:¬(("up" : Str) = "weigh"):=by decide
   have n3:¬(("up" : Str) = "down"):=by decide
   unfold trn bkV gy V0 rgS rgE;simp only[if_neg n1,if_neg n2,if_neg n3,if_true];by_cases a:i=k+1 <;> by_cases b:j=k <;> simp only[a,b,if_true,if_false] <;> grind
 . have h:u = "up":=h;subst h;have n1:¬(("down" : Str) = "weigh"):=by decide
   have n2:¬(("up" : Str) = "weigh"):=by decide
   have n3:¬(("up" : Str) = "down"):=by decide
   unfold trn bkV gy V0 rgS rgE;simp only[if_neg n1,if_neg n2,if_neg n3,if_true];by_cases a:i=k <;> by_cases b:j=k+1 <;> simp only[a,b,if_true,if_false] <;> grind
def Gv:(λi j=>V0 j i)=V0:=by
 funext i j;unfold V0;by_cases h:i=j
 . rw[if_pos h,if_pos h.symm]
 . rw[if_neg h,if_neg (Je h)]
theorem uG:∀ss:List Stp,(∀s∈ss,s.1 = "weigh" \/ s.1 = "down" \/ s.1 = "up")->eo ss V0=act (ss.reverse.map trn) V0
 | [],_=>rfl
 | t::ss,h=>by
   have ih:=uG ss λs m=>h s (Et _ m);rw[List.reverse_cons,Ia,eQ];show eo (t::ss) V0=act (ss.reverse.map trn) (bkV V0 (trn t));rw[<- Ep t (h t .(5))];have e:(λi j=>bkV V0 t j i)=eo [t] V0:=by show _=λi j=>bkV (λp q=>V0 q p) t j i;rw[Gv]
   rw[e,<- jd,<- ih];exact rD [t] ss V0
section
variable {A:Nat->Nat->Rat}{k:Nat}
def yy (A:Nat->Nat->Rat)(c:Nat)(b:Nat->Rat):det k (aO A c b)=det k (aC (λr j=>A j r) c b):=by rw[<- cS];exact aG λi _ j _=>rfl
def Aj {b:Nat->Rat}:∃a:Nat->Rat,∀p,p<k->aA (λc=>a c*A p c) k=det k A*b p:=by
 refine⟨λi=>-bc (λr c=>if r<k then A c r else b c) k k i,λp hp=>?_⟩;have e:=ue (Y:=λr c=>if r<k then A c r else b c) (k:=k) (p:=k) (q:=p);rw[uD hp]at e;have e1:det k (λr c=>if r<k then A c r else b c)=det k A:=by rw[<- cS k A];exact aG λi hi j hj=>if_pos hi
 rw[e1]at e;have e2:aA (λc=>-bc (λr c=>if r<k then A c r else b c) k k c*A p c) k=-1*aA (λi=>bc (λr c=>if r<k then A c r else b c) k k i*(if i<k then A p i else b p)) k:=by rw[a7];refine au λc hc=>?_;rw[if_pos hc];grind
 rw[e2];have e3:(if k<k then A p k else b p)=b p:=if_neg (Lb k);rw[e3]at e;grind
def Hn (h0:det k A≠0)(hp:p<k):aA (λc=>A p c*det k (aO A c b)) k=det k A*b p:=by
 obtain⟨a,ha⟩:=Aj (A:=A) (k:=k) (b:=b)
 have key:∀c,c<k->det k (aO A c b)=a c:=λc hc=>by
   have e1:=(b9 k).sum (λr j=>A j r) hc a (λc' j=>A j c') k
   have e2:det k (aC (λr j=>A j r) c λj=>aA (λc'=>a c'*A j c') k)=det k A*det k (aC (λr j=>A j r) c b):=by
     have:=pX (n:=k) (λr j=>A j r) hc (det k A) 0 b b;rw[IU,IV]at this;rw[<- this];refine aG λi hi j hj=>?_;unfold aC;split
     . show aA (λc'=>a c'*A j c') k=_;rw[ha j hj];grind
     . rfl
   have e3:aA (λc'=>a c'*det k (aC (λr j=>A j r) c λj=>A j c')) k=aA (λc'=>(a c'*det k A)*dq c' c) k:=au λc' hc'=>by
     unfold dq;by_cases z:c'=c
     . subst z;rw[if_pos rfl,J3,show (λj=>A j c')=(λr j=>A j r) c' from rfl,bD,cS]
     . rw[if_neg z,IG,(b9 k).same (M:=aC (λr j=>A j r) c λj=>A j c') (p:=c) (q:=c') hc hc' (Je z) (by rw[bT,bU z]),IG]
   rw[e2,e3,bN _ c k hc]at e1;rw[yy];have:(det k (aC (λr j=>A j r) c b)-a c)*det k A=0:=by grind
   rcases Lf.mp this with z | z
   . grind
   . exact absurd z h0
 rw[<- ha p hp];refine au λc hc=>?_;rw[key c hc,J0]
end
theorem mQ :∀k,0<k->(∀j,j<k->j≠0->f j=0)->aA f k=f 0
 | 1,_,_=>by rw[aA,aA,Kk]
 | k+2,_,h=>by rw[aA,mQ (k+1) .(0) λj hj=>h j .(0),h (k+1) .(0) .(0),IV]
theorem p9 (hp:0<p):∀k,p<k->(∀j,j<k->j≠0->j≠p->f j=0)->aA f k=f 0+f p
 | 0,h,_=>absurd h .(6)
 | k+1,h,g=>by
   by_cases e:p=k
   . subst e;rw[aA,mQ p hp λj hj h0=>g j .(0) h0 .(0)]
   . rw[aA,p9 hp k .(0) λj hj=>g j .(0),g k .(0) .(0) .(0),IV]
def nY (M:Nat->Nat->Rat)(q:Nat)(v:Nat->Rat):(λi j=>aO M q v j i)=aC (λi j=>M j i) q v:=rfl
def zj (N:Nat->Nat->Rat)(hq:q<k)(v:Nat->Rat)(e:Nat->Nat->Rat)(m:Nat):det k (aO N q λr=>aA (λc=>v c*e c r) m)=aA (λc=>v c*det k (aO N q (e c))) m:=by rw[<- cS,nY,(b9 k).sum _ hq];refine au λc _=>?_;rw[<- cS k (aO N q (e c)),nY]
section
variable {k p:Nat}{M:Nat->Nat->Rat}
noncomputable def dPP (k p:Nat)(M:Nat->Nat->Rat)(u w:Nat->Rat):Rat:=det k (aO (aO M 0 u) p w)
def bM :aO M q v r q=v r:=if_pos rfl
def bj (h:c≠q):aO M q v r c=M r c:=if_neg h
def nQ (hu:∀r<k,u r=u' r)(hw:∀r<k,w r=w' r):dPP k p M u w=dPP k p M u' w':=aG λr hr c _=>by
 unfold aO;by_cases h:c=p
 . rw[if_pos h,if_pos h,hw r hr]
 . rw[if_neg h,if_neg h];by_cases h2:c=0
   . rw[if_pos h2,if_pos h2,hu r hr]
   . rw[if_neg h2,if_neg h2]
def qH (hp:0<p)(hk:p<k)(u:Nat->Rat):dPP k p M u u=0:=hG (p:=0) (q:=p) .(0) hk .(0) λr=>by rw[bM,bj .(0),bM]
def jB (hp:0<p)(hk:p<k)(u w:Nat->Rat):dPP k p M u w=-dPP k p M w u:=by unfold dPP;have h:=(b9 k).swap (M:=λi j=>M j i) (p:=0) (q:=p) .(0) hk .(0) u w;rw[<- cS k (aO (aO M 0 u) p w),<- cS k (aO (aO M 0 w) p u)];exact h
def vU (hp:0<p)(hk:p<k)(w c:Nat->Rat)(A:Nat->Nat->Rat)(hA:∀j,j≠0->j≠p->∀r,A r j=M r j):dPP k p M (λr=>aA (λj=>c j*A r j) k) w=c 0*dPP k p M (λr=>A r 0) w+c p*dPP k p M (λr=>A r p) w:=by
 have com:∀v,aO (aO M 0 v) p w=aO (aO M p w) 0 v:=λv=>by
   funext r j;unfold aO;by_cases h:j=p
   . rw[if_pos h,if_neg (show ¬j=0 by omega),if_pos h]
   . rw[if_neg h,if_neg h]
 unfold dPP;rw[com,zj _ .(0) c (λj r=>A r j) k,p9 hp k hk λj hj h0 hjp=>?_]
 . rw[com,com]
 . rw[hG (p:=0) (q:=j) .(0) hj .(0) λr=>by rw[bM,bj h0,bj hjp,hA j h0 hjp],IG]
def AQ (hp:0<p)(hk:p<k)(u c:Nat->Rat)(A:Nat->Nat->Rat)(hA:∀j,j≠0->j≠p->∀r,A r j=M r j):dPP k p M u (λr=>aA (λj=>c j*A r j) k)=c 0*dPP k p M u (λr=>A r 0)+c p*dPP k p M u (λr=>A r p):=by rw[jB hp hk,vU hp hk u c A hA,jB hp hk u,jB hp hk u];grind
def gp (hp:0<p)(hk:p<k)(h0:dPP k p M g x≠0):dPP k p M g y*dPP k p M e x-dPP k p M g x*dPP k p M e y=dPP k p M e g*dPP k p M x y:=by
 let A:Nat->Nat->Rat:=aO (aO M 0 g) p x
 have hA:∀j,j≠0->j≠p->∀r,A r j=M r j:=λj h1 h2 r=>by show aO (aO M 0 g) p x r j=M r j;rw[bj h2,bj h1]
 have A0:(λr=>A r 0)=g:=by funext r;show aO (aO M 0 g) p x r 0=g r;rw[bj .(0),bM]
 have Ap:(λr=>A r p)=x:=by funext r;exact bM
 have ex:∀v:Nat->Rat,∃c:Nat->Rat,∀r,r<k->v r=aA (λj=>c j*A r j) k:=λv=>by refine⟨λj=>det k (aO A j v)/det k A,λr hr=>?_⟩;have hD:det k A≠0:=h0;have e:=Hn (b:=v) hD hr;refine um hD ?_;rw[<- e,a7];refine au λj _=>?_;show A r j*det k (aO A j v)=det k A*(det k (aO A j v)/det k A*A r j);generalize det k A=D at hD ⊢;generalize det k (aO A j v)=z;generalize A r j=y;rw[<- J1,J0 D,JP hD,J0]
 obtain⟨a,ha⟩:=ex e;obtain⟨b,hb⟩:=ex y;have sw:=jB (M:=M) hp hk x g;have gg:=qH (M:=M) hp hk g;have xx:=qH (M:=M) hp hk x;have e1:∀w,dPP k p M e w=a 0*dPP k p M g w+a p*dPP k p M x w:=λw=>by rw[nQ (w':=w) ha λ_ _=>rfl,vU hp hk w a A hA,A0,Ap]
 have e2:∀u,dPP k p M u y=b 0*dPP k p M u g+b p*dPP k p M u x:=λu=>by rw[nQ (u':=u) (λ_ _=>rfl) hb,AQ hp hk u b A hA,A0,Ap]
 rw[e2 g,e1 x,e1 y,e2 g,e2 x,e1 g,gg,xx,sw];grind
end
noncomputable def bE (γ:Nat->Nat)(p q:Nat):Nat->Nat:=λc=>if c=p then q else γ c
section
variable {A:Nat->Nat->Rat}{m n z q:Nat}
def DS (hk:0<k)(h0:∀c,0<c->c<k->A z (γ c)=0):mi A (k+1) (λr=>if r=0 then z else ρ (r-1)) (λc=>if c=0 then q else γ (c-1))=A z q*mi A k ρ γ-A z (γ 0)*mi A k ρ (bE γ 0 q):=by
 rw[<- Gr];unfold mi;rw[det,p9 (p:=1) .(2) (k+1) .(0) λi hi h1 h2=>?_]
 . have e1:det k (minor (λr c=>A (if c=0 then z else ρ (c-1)) (if r=0 then q else γ (r-1))) 0)=det k λr c=>A (ρ r) (γ c):=by rw[<- cS k λr c=>A (ρ r) (γ c)];refine aG λr hr c hc=>?_;show A (if c+1=0 then z else ρ (c+1-1)) (if skp 0 r=0 then q else γ (skp 0 r-1))=A (ρ c) (γ r);have:skp 0 r=r+1:=if_neg .(0);rw[this,if_neg .(0),if_neg .(0)];rfl
   have e2:det k (minor (λr c=>A (if c=0 then z else ρ (c-1)) (if r=0 then q else γ (r-1))) 1)=det k λr c=>A (ρ r) (bE γ 0 q c):=by
     rw[<- cS k λr c=>A (ρ r) (bE γ 0 q c)];refine aG λr hr c hc=>?_;show A (if c+1=0 then z else ρ (c+1-1)) (if skp 1 r=0 then q else γ (skp 1 r-1))=A (ρ c) (bE γ 0 q r);rw[if_neg .(0)];unfold bE;by_cases r0:r=0
     . subst r0; rfl
     . have:skp 1 r=r+1:=if_neg .(0);rw[this,if_neg .(0),if_neg r0];rfl
   rw[e1,e2];show 1*A (if 0=0 then z else ρ (0-1)) (if 0=0 then q else γ (0-1))*_ + -1*A (if 0=0 then z else ρ (0-1)) (if 1=0 then q else γ (1-1))*_=_;rw[if_pos rfl,if_pos rfl,if_neg .(2)];generalize (det k λr c=>A (ρ r) (γ c))=x;generalize (det k λr c=>A (ρ r) (bE γ 0 q c))=y;show 1*A z q*x + -1*A z (γ 0)*y=_;grind
 . show sgn i*A (if 0=0 then z else ρ (0-1)) (if i=0 then q else γ (i-1))*_=0;rw[if_pos rfl,if_neg h1,h0 (i-1) .(0) .(0),IG,IU]
def Cf :rho 0 p 0=p:=by unfold rho; rw[if_neg .(0),if_pos rfl,KG]
def xE (h0:c≠0)(h1:c<=p):rho 0 p c=c-1:=by unfold rho; rw[if_neg .(0),if_neg h0,if_pos .(0)]
def yP (h:p<c):rho 0 p c=c:=by unfold rho; rw[if_neg .(0),if_neg .(0),if_neg .(0)]
def vH (h:Inc (k+1) ρ):Inc k λr=>ρ (skp b r):=λi hi=>by
 show ρ (skp b i)<ρ (skp b (i+1));refine h.mono ?_ ?_
 . unfold skp; split <;> split <;> omega
 . unfold skp; split <;> omega
theorem xI (H:Tnn m n A)(hz:z<m)(hq:q+1<n)(h0:∀j,q+1<j->j<n->A z j=0):∀(p k:Nat) (ρ γ:Nat->Nat),p<k->Inc k ρ->(∀i,i<k->ρ i<m)->(∀i,i<k->z<=ρ i)->Inc k γ->(∀i,i<k->γ i<n)->γ p=q+1->(∀c,c<p->γ c<q)->A z (q+1)*mi A k ρ (bE γ p q)<=A z q*mi A k ρ γ
 | 0,k,ρ,γ,hp,h1,h2,h3,h4,h5,h6,_=>by
   have e:=DS (A:=A) (z:=z) (q:=q) (ρ:=ρ) (γ:=γ) hp λc c0 hc=>h0 _ (by have:=h4.mono c0 hc; omega) (h5 c hc);rw[h6]at e
   have nn:0<=mi A (k+1) (λr=>if r=0 then z else ρ (r-1)) (λc=>if c=0 then q else γ (c-1)):=by
     by_cases ez:z=ρ 0
     . have:mi A (k+1) (λr=>if r=0 then z else ρ (r-1)) (λc=>if c=0 then q else γ (c-1))=0:=by refine(b9 (k+1)).same (p:=0) (q:=1) .(0) .(0) .(2) ?_;funext c;show A (if 0=0 then z else ρ (0-1)) _=A (if 1=0 then z else ρ (1-1)) _;rw[if_pos rfl,if_neg .(2),ez]
       rw[this];exact KW
     . have z0:z<ρ 0:=by have:=h3 0 hp; omega
       refine H (k+1) _ _ (λi hi=>?_) (λi hi=>?_) (λi hi=>?_) λi hi=>?_
       . show (if i=0 then z else ρ (i-1))<(if i+1=0 then z else ρ (i+1-1));by_cases i0:i=0
         . subst i0; exact z0
         . rw[if_neg i0,if_neg .(0)];exact h1.mono .(0) .(0)
       . show (if i=0 then z else ρ (i-1))<m;split
         . exact hz
         . exact h2 _ .(0)
       . show (if i=0 then q else γ (i-1))<(if i+1=0 then q else γ (i+1-1));by_cases i0:i=0
         . subst i0;show q<γ 0;omega
         . rw[if_neg i0,if_neg .(0)];exact h4.mono .(0) .(0)
       . show (if i=0 then q else γ (i-1))<n;split
         . omega
         . exact h5 _ .(0)
   rw[e]at nn;generalize A z q*mi A k ρ γ=x at nn ⊢;generalize A z (q+1)*mi A k ρ (bE γ 0 q)=y at nn ⊢;grind
 | p+1,0,_,_,hp,_,_,_,_,_,_,_=>absurd hp .(6)
 | p+1,k+1,ρ,γ,hp,h1,h2,h3,h4,h5,h6,h7=>by
   have az:0<=A z q:=by have:=H 1 (λ_=>z) (λ_=>q) (λi hi=>by omega) (λ_ _=>hz) (λi hi=>by omega) (λ_ _=>by omega);rw[show mi A 1 (λ_=>z) (λ_=>q)=A z q from hX _]at this;exact this
   have dy:0<=mi A (k+1) ρ γ:=H _ _ _ h1 h2 h4 h5
   have iu:Inc (k+1) (bE γ (p+1) q):=λi hi=>by
     have:=h4 i hi;unfold bE;by_cases c1:i=p+1
     . rw[if_pos c1,if_neg .(0)];subst c1;omega
     . by_cases c2:i+1=p+1
       . rw[if_neg c1,if_pos c2];exact h7 i .(0)
       . rw[if_neg c1,if_neg c2];exact this
   have bu:∀i,i<k+1->bE γ (p+1) q i<n:=λi hi=>by
     unfold bE;split
     . omega
     . exact h5 i hi
   have dx:0<=mi A (k+1) ρ (bE γ (p+1) q):=H _ _ _ h1 h2 iu bu;by_cases dz:mi A (k+1) ρ (bE γ (p+1) q)=0
   . rw[dz,IG];exact Lx az dy
   obtain⟨b,hb,db⟩:∃b,b<k+1/\mi A k (λr=>ρ (skp b r)) (λc=>bE γ (p+1) q (c+1))≠0:=by refine Ip λno=>dz ?_;unfold mi;rw[det];refine bx λi hi=>?_;have:mi A k (λr=>ρ (skp i r)) (λc=>bE γ (p+1) q (c+1))=0:=Ip λne=>no ⟨i,hi,ne⟩;have e:det k (minor (λr c=>A (ρ r) (bE γ (p+1) q c)) i)=mi A k (λr=>ρ (skp i r)) (λc=>bE γ (p+1) q (c+1)):=rfl;rw[e,this,IG]
   have sub:∀c,bE γ (p+1) q (c+1)=bE (λc=>γ (c+1)) p q c:=λc=>by
     unfold bE;by_cases e:c=p
     . rw[if_pos e,if_pos .(0)]
     . rw[if_neg e,if_neg .(0)]
   have pk:p<k:=by omega
   have r1:=vH (b:=b) h1;have r2:∀i,i<k->ρ (skp b i)<m:=λi hi=>h2 _ (iS hi);have r3:∀i,i<k->z<=ρ (skp b i):=λi hi=>h3 _ (iS hi);have ih:=xI H hz hq h0 p k (λr=>ρ (skp b r)) (λc=>γ (c+1)) pk r1 r2 r3 h4.up (λi hi=>h5 _ .(0)) h6 λc hc=>h7 _ .(0);have dxe:mi A k (λr=>ρ (skp b r)) (λc=>bE γ (p+1) q (c+1))=mi A k (λr=>ρ (skp b r)) (bE (λc=>γ (c+1)) p q):=z9 (λ_ _=>rfl) λc _=>sub c;rw[dxe]at db;have dxs:0<=mi A k (λr=>ρ (skp b r)) (bE (λc=>γ (c+1)) p q):=by rw[<- dxe];exact H _ _ _ r1 r2 iu.up λi hi=>bu _ .(0)
   have pb:∀w:Nat->Rat,dPP (k+1) (p+1) (λr c=>A (ρ r) (γ c)) (λr=>if r=b then 1 else 0) w=sgn b*det k (λr c=>if c=p then w (skp b r) else A (ρ (skp b r)) (γ (c+1))):=λw=>by
     unfold dPP;rw[det]
     have e:∀i,i<k+1->sgn i*aO (aO (λr c=>A (ρ r) (γ c)) 0 λr=>if r=b then (1:Rat) else 0) (p+1) w i 0*det k (minor (aO (aO (λr c=>A (ρ r) (γ c)) 0 λr=>if r=b then (1:Rat) else 0) (p+1) w) i)=(sgn i*det k (minor (aO (aO (λr c=>A (ρ r) (γ c)) 0 λr=>if r=b then (1:Rat) else 0) (p+1) w) i))*dq i b:=λi _=>by
       rw[bj .(0),bM];unfold dq;by_cases e:i=b
       . rw[if_pos e]; grind
       . rw[if_neg e]; grind
     rw[au e,bN _ _ _ hb];congr 1;refine aG λr hr c hc=>?_;show aO (aO (λr c=>A (ρ r) (γ c)) 0 λr=>if r=b then (1:Rat) else 0) (p+1) w (skp b r) (c+1)=_;by_cases e:c=p
     . rw[if_pos e,e,bM]
     . rw[if_neg e,bj .(0),bj .(0)]
   have Pg:∀v:Nat,dPP (k+1) (p+1) (λr c=>A (ρ r) (γ c)) (λr=>A (ρ r) (γ 0)) (λr=>A (ρ r) v)=mi A (k+1) ρ (bE γ (p+1) v):=λv=>aG λr hr c hc=>by
     unfold bE;by_cases e:c=p+1
     . rw[if_pos e,e,bM]
     . rw[if_neg e,bj e];by_cases e0:c=0
       . rw[e0,bM]
       . rw[bj e0]
   have Pe:∀v:Nat,dPP (k+1) (p+1) (λr c=>A (ρ r) (γ c)) (λr=>if r=b then 1 else 0) (λr=>A (ρ r) v)=sgn b*mi A k (λr=>ρ (skp b r)) (bE (λc=>γ (c+1)) p v):=λv=>by
     rw[pb];congr 1;refine aG λr hr c hc=>?_;unfold bE;by_cases e:c=p
     . rw[if_pos e,if_pos e]
     . rw[if_neg e,if_neg e]
   have uy:bE γ (p+1) (q+1)=γ:=by
     funext c;unfold bE;by_cases e:c=p+1
     . rw[if_pos e,e,h6]
     . rw[if_neg e]
   have uy':bE (λc=>γ (c+1)) p (q+1)=λc=>γ (c+1):=by
     funext c;unfold bE;by_cases e:c=p
     . rw[if_pos e,e,h6]
     . rw[if_neg e]
   have G:=gp (M:=λr c=>A (ρ r) (γ c)) (p:=p+1) (k:=k+1) (g:=λr=>A (ρ r) (γ 0)) (e:=λr=>if r=b then 1 else 0) (x:=λr=>A (ρ r) q) (y:=λr=>A (ρ r) (q+1)) .(0) hp (by rw[Pg]; exact dz);rw[Pg,Pg,Pe,Pe,Pe,uy,uy']at G
   have s1:mi A k (λr=>ρ (skp b r)) (bE (λc=>γ (c+1)) p (γ 0))=sgn p*mi A k (λr=>ρ (skp b r)) (λc=>γ (skp (p+1) c)):=by
     refine E5 ?_;unfold mi;rw[<- qP (k:=0) p (λr c=>A (ρ (skp b r)) (bE (λc=>γ (c+1)) p (γ 0) c)) .(0)];refine aG λr hr c hc=>?_;show A (ρ (skp b r)) (γ (skp (p+1) c))=A (ρ (skp b r)) (bE (λc=>γ (c+1)) p (γ 0) (rho 0 p c));congr 1;unfold bE;by_cases c0:c=0
     . subst c0;rw[show skp (p+1) 0=0 from if_pos .(0),Cf,if_pos rfl]
     . by_cases c1:c<=p
       . rw[show skp (p+1) c=c from if_pos .(0),xE c0 c1,if_neg .(0)];show γ c=γ (c-1+1);rw[show c-1+1=c by omega]
       . rw[show skp (p+1) c=c+1 from if_neg .(0),yP .(0),if_neg .(0)]
   have s2:dPP (k+1) (p+1) (λr c=>A (ρ r) (γ c)) (λr=>A (ρ r) q) (λr=>A (ρ r) (q+1))=sgn p*mi A (k+1) ρ (λc=>if c<p then γ (c+1) else if c=p then q else γ c):=by
     unfold mi;rw[<- qP (k:=0) p (λr c=>A (ρ r) (if c<p then γ (c+1) else if c=p then q else γ c)) .(0)];refine aG λr hr c hc=>?_;show aO (aO (λr c=>A (ρ r) (γ c)) 0 λr=>A (ρ r) q) (p+1) (λr=>A (ρ r) (q+1)) r c=A (ρ r) (if rho 0 p c<p then γ (rho 0 p c+1) else if rho 0 p c=p then q else γ (rho 0 p c));by_cases c0:c=0
     . subst c0;rw[bj .(0),bM,Cf,if_neg .(0),if_pos rfl]
     . by_cases c1:c<=p
       . rw[bj .(0),bj c0,xE c0 c1,if_pos .(0),show c-1+1=c by omega]
       . rw[yP .(0),if_neg .(0),if_neg .(0)];by_cases c2:c=p+1
         . rw[c2,bM,h6]
         . rw[bj c2,bj c0]
   have n1:0<=mi A k (λr=>ρ (skp b r)) (λc=>γ (skp (p+1) c)):=H _ _ _ r1 r2 (vH h4) λi hi=>h5 _ (iS hi)
   have n2:0<=mi A (k+1) ρ (λc=>if c<p then γ (c+1) else if c=p then q else γ c):=H _ _ _ h1 h2 (λi hi=>by
     show (if i<p then γ (i+1) else if i=p then q else γ i)<(if i+1<p then γ (i+1+1) else if i+1=p then q else γ (i+1));have q1:=h4 i hi;by_cases a1:i+1<p
     . rw[if_pos .(0),if_pos a1];exact h4 (i+1) .(0)
     . by_cases a2:i+1=p
       . rw[if_pos .(0),if_neg a1,if_pos a2];exact h7 _ .(0)
       . by_cases a3:i=p
         . rw[if_neg .(0),if_pos a3,if_neg .(0),if_neg .(0),a3,h6];omega
         . rw[if_neg .(0),if_neg a3,if_neg .(0),if_neg .(0)];exact q1) λi hi=>by
     split
     . exact h5 _ .(0)
     . split
       . omega
       . exact h5 _ hi
   rw[s1,s2]at G;have ss:=pA p;have sb:=pA b;have pr:=Lx n1 n2;generalize mi A k (λr=>ρ (skp b r)) (λc=>γ (skp (p+1) c))=w1 at G pr;generalize mi A (k+1) ρ (λc=>if c<p then γ (c+1) else if c=p then q else γ c)=w2 at G pr;generalize mi A (k+1) ρ γ=Dy at G dy ⊢;generalize mi A (k+1) ρ (bE γ (p+1) q)=Dx at G dx dz ⊢;generalize mi A k (λr=>ρ (skp b r)) (bE (λc=>γ (c+1)) p q)=ex at G ih db dxs;generalize mi A k (λr=>ρ (skp b r)) (λc=>γ (c+1))=ey at G ih;generalize A z q=ax at az ih ⊢;generalize A z (q+1)=ay at ih ⊢;generalize sgn b=σ at G sb;generalize sgn p=τ at G ss
   have key:Dy*ex-Dx*ey=w1*w2:=by
     have:σ*(Dy*(σ*ex)-Dx*(σ*ey))=σ*(σ*(τ*w1)*(τ*w2)):=by rw[G]
     grind
   have e1:Dx*ey<=Dy*ex:=by grind
   have e2:Dx*(ay*ex)<=Dx*(ax*ey):=MN ih dx;have e3:ax*(Dx*ey)<=ax*(Dy*ex):=MN e1 az;have e4:ex*(ay*Dx)<=ex*(ax*Dy):=by grind
   have ep:0<ex:=by
     rcases Mi.mp dxs with h | h
     . exact h
     . exact absurd h.symm db
   exact Ly e4 ep
end
section
variable {A:Nat->Nat->Rat}{m n q:Nat}
def Tnn.whC (H:Tnn m n A)(hm:0<m)(hq:q+1<n)(h0:∀j,q+1<j->j<n->A 0 j=0)(hp:A 0 q≠0):Tnn m n λi j=>if j=q+1 then A i (q+1)-A 0 (q+1)/A 0 q*A i q else A i j:=λk ρ γ h1 h2 h3 h4=>by
 have pos:0<=A 0 q:=by have:=H 1 (λ_=>0) (λ_=>q) (λi hi=>by omega) (λ_ _=>hm) (λi hi=>by omega) (λ_ _=>by omega);rw[show mi A 1 (λ_=>0) (λ_=>q)=A 0 q from hX _]at this;exact this
 have pos:0<A 0 q:=by
   rcases Mi.mp pos with h | h
   . exact h
   . exact absurd h.symm hp
 by_cases ex:∃c,c<k/\γ c=q+1
 . obtain⟨p,hc,ec⟩:=ex
   have e1:mi (λi j=>if j=q+1 then A i (q+1)-A 0 (q+1)/A 0 q*A i q else A i j) k ρ γ=det k (aO (λr c=>A (ρ r) (γ c)) p λr=>1*A (ρ r) (q+1)+(-(A 0 (q+1)/A 0 q))*A (ρ r) q):=aG λi hi j hj=>by
     show (if γ j=q+1 then A (ρ i) (q+1)-A 0 (q+1)/A 0 q*A (ρ i) q else A (ρ i) (γ j))=if j=p then _ else A (ρ i) (γ j);by_cases z:j=p
     . rw[if_pos z,if_pos (by rw[z]; exact ec)];grind
     . rw[if_neg z,if_neg (by rw[<- ec]; exact h3.ne hj hc z)]
   rw[e1,ji _ hc]
   have e2:det k (aO (λr c=>A (ρ r) (γ c)) p λr=>A (ρ r) (q+1))=mi A k ρ γ:=aG λi hi j hj=>by
     show (if j=p then A (ρ i) (q+1) else A (ρ i) (γ j))=A (ρ i) (γ j);split
     . rename_i z; rw[z,ec]
     . rfl
   have e3:det k (aO (λr c=>A (ρ r) (γ c)) p λr=>A (ρ r) q)=mi A k ρ (bE γ p q):=aG λi hi j hj=>by
     show (if j=p then A (ρ i) q else A (ρ i) (γ j))=A (ρ i) (if j=p then q else γ j);by_cases z:j=p
     . rw[if_pos z,if_pos z]
     . rw[if_neg z,if_neg z]
   rw[e2,e3];by_cases ex2:∃c,c<k/\γ c=q
   . obtain⟨c1,hc1,ec1⟩:=ex2;have ne:p≠c1:=λz=>by rw[z,ec1]at ec; omega
     have z0:mi A k ρ (bE γ p q)=0:=hG hc hc1 ne λr=>by show A (ρ r) (bE γ p q p)=A (ρ r) (bE γ p q c1);unfold bE;rw[if_pos rfl,if_neg (Je ne),ec1]
     rw[z0,IG,IV,Jd];exact H k ρ γ h1 h2 h3 h4
   . have lt:∀c,c<p->γ c<q:=λc hcp=>by have:=h3.mono hcp hc;have:γ c≠q:=λz=>ex2 ⟨c,by omega,z⟩;omega
     have w:=xI H hm hq h0 p k ρ γ hc h1 h2 (λ_ _=>Im _) h3 h4 ec lt;generalize mi A k ρ γ=x at w ⊢;generalize mi A k ρ (bE γ p q)=y at w ⊢;generalize A 0 (q+1)=b at w ⊢;generalize A 0 q=a at w pos ⊢
     have e:a*(1*x + -(b/a)*y)=a*x-b*y:=by
       have ha:a≠0:=λz=>by rw[z]at pos; exact absurd pos .(2)
       grind
     have w2:a*0<=a*(1*x + -(b/a)*y):=(by rw[e]; grind);exact Ly w2 pos
 . have e1:mi (λi j=>if j=q+1 then A i (q+1)-A 0 (q+1)/A 0 q*A i q else A i j) k ρ γ=mi A k ρ γ:=aG λi hi j hj=>if_neg λz=>ex ⟨j,hj,z⟩;rw[e1];exact H k ρ γ h1 h2 h3 h4
def Tnn.whR (H:Tnn m n A)(hn:0<n)(hq:q+1<m)(h0:∀i,q+1<i->i<m->A i 0=0)(hp:A q 0≠0):Tnn m n λi j=>if i=q+1 then A (q+1) j-A (q+1) 0/A q 0*A q j else A i j:=(H.tr.whC hn hq h0 hp).tr
def Tnn.nn (H:Tnn m n A)(hi:i<m)(hj:j<n):0<=A i j:=by have:=H 1 (λ_=>i) (λ_=>j) (λ_ _=>by omega) (λ_ _=>hi) (λ_ _=>by omega) (λ_ _=>hj);rw[show mi A 1 (λ_=>i) (λ_=>j)=A i j from hX _]at this;exact this
def Tnn.AZ (H:Tnn m n A)(hq:q+1<m)(h0:A q 0=0)(h1:A (q+1) 0≠0)(hj:j<n):A q j=0:=by
 by_cases j0:j=0
 . rw[j0]; exact h0
 have d:=H 2 (λr=>q+r) (λc=>if c=0 then 0 else j) (λi hi=>by show q+i<q+(i+1); omega) (λi hi=>by show q+i<m; omega) (λi hi=>by
   obtain rfl:i=0:=by omega
   show 0<(if 0+1=0 then 0 else j);rw[if_neg .(2)];omega) λi hi=>by
   show (if i=0 then 0 else j)<n;split <;> omega
 have e:mi A 2 (λr=>q+r) (λc=>if c=0 then 0 else j)=A q 0*A (q+1) j-A q j*A (q+1) 0:=by unfold mi;rw[Bj];rfl
 rw[e,h0]at d;have a:=H.nn (i:=q) (j:=j) .(0) hj;have b:=H.nn (i:=q+1) (j:=0) hq .(0);generalize A q j=x at d a ⊢;generalize A (q+1) 0=y at d b h1 ⊢;have:x*y=0:=by have:=Lx a b;grind
 rcases Lf.mp this with z | z
 . exact z
 . exact absurd z h1
noncomputable def swp (q i:Nat):Nat:=if i=q then q+1 else if i=q+1 then q else i
def Tnn.swap (H:Tnn m n A)(hq:q+1<m)(h0:∀j,j<n->A q j=0):Tnn m n λi j=>A (swp q i) j:=λk ρ γ h1 h2 h3 h4=>by
 by_cases ex:∃c,c<k/\ρ c=q+1
 . obtain⟨p,hp,ep⟩:=ex
   have:mi (λi j=>A (swp q i) j) k ρ γ=0:=by
     rw[<- (b9 k).xJ (λr c=>A (swp q (ρ r)) (γ c)) hp];refine aG λi hi j hj=>?_;unfold aC;split
     . rename_i z;rw[z,ep];show A (swp q (q+1)) (γ j)=0;rw[show swp q (q+1)=q by unfold swp; rw[if_neg .(0),if_pos rfl]];exact h0 _ (h4 j hj)
     . rfl
   rw[this];exact KW
 . refine H k (λr=>swp q (ρ r)) γ (λi hi=>?_) (λi hi=>?_) h3 h4
   . have:=h1 i hi;have n1:ρ i≠q+1:=λz=>ex ⟨i,by omega,z⟩;have n2:ρ (i+1)≠q+1:=λz=>ex ⟨i+1,hi,z⟩;show swp q (ρ i)<swp q (ρ (i+1));unfold swp;rw[if_neg n1,if_neg n2];split <;> split <;> omega
   . have:=h2 i hi;show swp q (ρ i)<m;unfold swp;split
     . omega
     . split <;> omega
end
noncomputable def tkF (g:Nat->Nat->Rat)(i k:Nat):Nat->Nat->Rat:=λa b=>if a=i+1 then g (i+1) b-g (i+1) k/g i k*g i b else g a b
noncomputable def lfF (g:Nat->Nat->Rat)(i:Nat):Nat->Nat->Rat:=λa b=>g (swp i a) b
noncomputable def c9 (k i:Nat)(g:Nat->Nat->Rat):Nat->Nat->Rat:=if g (i+1) k=0 then g else if g i k=0 then lfF g i else tkF g i k
noncomputable def fB (k i:Nat)(g:Nat->Nat->Rat):List Stp:=if g (i+1) k=0 then [] else if g i k=0 then [("weigh",i,0),("up",i,1)] else [("up",i,g (i+1) k/g i k)]
noncomputable def clG (k:Nat):Nat->(Nat->Nat->Rat)->Nat->Nat->Rat
 | 0,g=>g
 | d+1,g=>clG k d (c9 k (k+d) g)
noncomputable def clS (k:Nat):Nat->(Nat->Nat->Rat)->List Stp
 | 0,_=>[]
 | d+1,g=>fB k (k+d) g++clS k d (c9 k (k+d) g)
structure Bl (n k:Nat)(g:Nat->Nat->Rat):Prop where
 off:∀i,i<n->∀j,j<n->i≠j->(i<k\/j<k)->g i j=0
 tn:Tnn (n-k) (n-k) λi j=>g (k+i) (k+j)
def Bl.tr (h:Bl n k g):Bl n k λi j=>g j i:=⟨λi hi j hj ne o=>h.off j hj i hi (Je ne) o.symm,h.tn.tr⟩
def oX :swp q q=q+1:=if_pos rfl
def j4 :swp q (q+1)=q:=by unfold swp; rw[if_neg .(0),if_pos rfl]
def fT (h:a≠q)(h':a≠q+1):swp q a=a:=by unfold swp; rw[if_neg h,if_neg h']
def Eo (k q a:Nat):swp (k+q) (k+a)=k+swp q a:=by
 unfold swp;by_cases h:a=q
 . rw[if_pos h,if_pos .(0)]; omega
 . rw[if_neg h,if_neg .(0)];by_cases h2:a=q+1
   . rw[if_pos h2,if_pos .(0)]
   . rw[if_neg h2,if_neg .(0)]
def xD {q:Rat}(h:0<=q):0<=q.num:=Rat.num_nonneg.mpr h
def Eb {x y:Rat}(hx:0<=x)(hy:0<=y):0<=x/y:=by
 rcases Mi.mp hy with h | h
 . have ne:y≠0:=λz=>by rw[z]at h; exact absurd h .(2)
   have e:y*(x/y)=x:=by rw[J0]; exact JP ne
   refine Ly (c:=y) ?_ h;rw[e,IG];exact hx
 . rw[<- h,Rat.div_def,Rat.inv_zero,IG];exact KW
section
variable {n k:Nat}{g:Nat->Nat->Rat}
def Bl.nn (h:Bl n k g)(hi:k<=i)(hin:i<n)(hj:k<=j)(hjn:j<n):0<=g i j:=by have:=h.tn.nn (i:=i-k) (j:=j-k) .(0) .(0);rw[show k+(i-k)=i by omega,show k+(j-k)=j by omega]at this;exact this
def Bl.AZ (h:Bl n k g)(hk:k<=i)(hi:i+1<n)(h0:g i k=0)(h1:g (i+1) k≠0):∀b,b<n->g i b=0:=λb hb=>by
 by_cases e:b<k
 . exact h.off i .(0) b hb .(0) (.inr e)
 . have:=h.tn.AZ (q:=i-k) .(0) (by rw[show k+(i-k)=i by omega]; exact h0) (by rw[show k+(i-k+1)=i+1 by omega]; exact h1) (j:=b-k) .(0);rw[show k+(i-k)=i by omega,show k+(b-k)=b by omega]at this;exact this
structure One (n k d:Nat)(g g':Nat->Nat->Rat)(ss:List Stp):Prop where
 bl:Bl n k g'
 z:∀i,k+d<i->i<n->g' i k=0
 eq:Eqn n (act ss g') g
 ok:∀st∈ss,okS n st
 keep:g k k≠0->∀b,g' k b=g k b
def zz (h:Bl n k g)(hd:k+d+1<n)(hz:∀i,k+d+1<i->i<n->g i k=0):One n k d g (c9 k (k+d) g) (fB k (k+d) g):=by
 unfold c9 fB;by_cases e1:g (k+d+1) k=0
 . rw[if_pos e1,if_pos e1];exact⟨h,λi h1 h2=>(if e:i=k+d+1 then by rw[e]; exact e1 else hz i .(0) h2),Eqn.refl g,λ_ z=>.(146),λ_ _=>rfl⟩
 rw[if_neg e1,if_neg e1];by_cases e2:g (k+d) k=0
 . rw[if_pos e2,if_pos e2];have hg:=h.AZ (i:=k+d) .(0) hd e2 e1;refine⟨⟨λi hi j hj ne o=>?_,?_⟩,λi h1 h2=>?_,λi hi j hj=>?_,λst m=>?_,λnz b=>?_⟩
   . show g (swp (k+d) i) j=0;by_cases a:i=k+d
     . rw[a,oX];exact h.off _ hd j hj .(0) (.inr .(0))
     . by_cases b:i=k+d+1
       . rw[b,j4];exact hg j hj
       . rw[fT a b];exact h.off i hi j hj ne o
   . refine(h.tn.swap (q:=d) .(0) λj hj=>hg _ .(0)).congr λi hi j hj=>?_;show g (k+swp d i) (k+j)=g (swp (k+d) (k+i)) (k+j);rw[Eo]
   . show g (swp (k+d) i) k=0;by_cases b:i=k+d+1
     . rw[b,j4]; exact e2
     . rw[fT .(0) b]; exact hz i .(0) h2
   . show bkV (bkV (lfF g (k+d)) ("up",k+d,1)) ("weigh",k+d,0) i j=g i j;have n1:¬(("up" : Str) = "weigh"):=by decide
     have n2:¬(("up" : Str) = "down"):=(by decide);unfold bkV gy rgS rgE;simp only[if_neg n1,if_neg n2,if_true];by_cases a:i=k+d
     . subst a;simp only[if_true];rw[hg j hj,IU]
     . by_cases b:i=k+d+1
       . subst b;simp only[if_neg a,if_true];show g (swp (k+d) (k+d+1)) j+1*g (swp (k+d) (k+d)) j=_;rw[j4,oX,hg j hj,Kk,Jd]
       . simp only[if_neg a,if_neg b];show g (swp (k+d) i) j=_;rw[fT a b]
   . simp only[HZ,Jm,or_false]at m;rcases m with rfl | rfl
     . exact⟨(by decide:(0:Int)<=(0:Rat).num),.inl ⟨rfl,by show k+d<n; omega⟩⟩
     . exact⟨(by decide:(0:Int)<=(1:Rat).num),.inr ⟨.inr rfl,hd⟩⟩
   . show g (swp (k+d) k) b=g k b;have:d≠0:=λz=>nz (by rw[z]at e2; exact e2);rw[fT .(0) .(0)]
 . rw[if_neg e2,if_neg e2];refine⟨⟨λi hi j hj ne o=>?_,?_⟩,λi h1 h2=>?_,λi hi j hj=>?_,λst m=>?_,λnz b=>?_⟩
   . unfold tkF;by_cases b:i=k+d+1
     . rw[if_pos b,h.off (k+d+1) hd j hj .(0) (.inr .(0)),h.off (k+d) .(0) j hj .(0) (.inr .(0)),IG];grind
     . rw[if_neg b];exact h.off i hi j hj ne o
   . refine(h.tn.whR (q:=d) .(0) .(0) (λi h1 h2=>hz (k+i) .(0) .(0)) e2).congr λi hi j hj=>?_;show (if i=d+1 then g (k+(d+1)) (k+j)-g (k+(d+1)) (k+0)/g (k+d) (k+0)*g (k+d) (k+j) else g (k+i) (k+j))=(if k+i=k+d+1 then g (k+d+1) (k+j)-g (k+d+1) k/g (k+d) k*g (k+d) (k+j) else g (k+i) (k+j));by_cases b:i=d+1
     . rw[if_pos b,if_pos .(0)];rfl
     . rw[if_neg b,if_neg .(0)]
   . unfold tkF;by_cases b:i=k+d+1
     . rw[if_pos b];grind
     . rw[if_neg b];exact hz i .(0) h2
   . show bkV (tkF g (k+d) k) ("up",k+d,g (k+d+1) k/g (k+d) k) i j=g i j;have n1:¬(("up" : Str) = "weigh"):=by decide
     have n2:¬(("up" : Str) = "down"):=(by decide);unfold bkV gy rgS rgE tkF;simp only[if_neg n1,if_neg n2];by_cases b:i=k+d+1
     . subst b;simp only[if_true];rw[if_neg .(0)];grind
     . simp only[if_neg b]
   . simp only[HZ,Jm,or_false]at m;subst m;exact⟨xD (Eb (h.nn .(0) hd .(3) .(0)) (h.nn .(0) .(0) .(3) .(0))),.inr ⟨.inr rfl,hd⟩⟩
   . unfold tkF;rw[if_neg .(0)]
theorem iD:∀(d:Nat) (g:Nat->Nat->Rat),Bl n k g->k+d<n->(∀i,k+d<i->i<n->g i k=0)->One n k 0 g (clG k d g) (clS k d g)
 | 0,g,h,_,hz=>⟨h,hz,Eqn.refl g,λ_ z=>.(146),λ_ _=>rfl⟩
 | d+1,g,h,hd,hz=>by
   have o:=zz h hd hz;have r:=iD d (c9 k (k+d) g) o.bl .(0) o.z;refine⟨r.bl,r.z,?_,λst m=>?_,λnz b=>?_⟩
   . show Eqn n (act (fB k (k+d) g++clS k d (c9 k (k+d) g)) _) g;rw[eQ];exact(ij r.eq _ o.ok).trans o.eq
   . rcases vp.mp m with m | m
     . exact o.ok st m
     . exact r.ok st m
   . have e:=o.keep nz;exact(r.keep (by rw[e]; exact nz) b).trans (e b)
theorem hU:∀(d:Nat) (g:Nat->Nat->Rat),(∀i,k<i->i<=k+d->g i k=0)->clG k d g=g/\clS k d g=[]
 | 0,g,_=>⟨rfl,rfl⟩
 | d+1,g,h=>by have e:g (k+d+1) k=0:=h _ .(0) .(0);have r:=hU d g λi h1 h2=>h i h1 .(0);unfold clG clS c9 fB;rw[if_pos e,if_pos e,r.1,r.2];exact⟨rfl,rfl⟩
def qN (k i:Nat)(g:Nat->Nat->Rat):(fB k i g).length<=2:=by
 unfold fB;split
 . exact Im _
 . split
   . exact IE 2
   . exact LL 1
theorem jx:∀(d:Nat) (g:Nat->Nat->Rat),(clS k d g).length<=2*d
 | 0,_=>IE _
 | d+1,g=>by have a:=qN k (k+d) g;have b:=jx d (c9 k (k+d) g);unfold clS;rw[rp];omega
end
noncomputable def trF (g:Nat->Nat->Rat):Nat->Nat->Rat:=λi j=>g j i
noncomputable def st1 (n k:Nat)(g:Nat->Nat->Rat):Nat->Nat->Rat:=clG k (n-1-k) g
noncomputable def st2 (n k:Nat)(g:Nat->Nat->Rat):Nat->Nat->Rat:=trF (clG k (n-1-k) .(131))
noncomputable def st3 (n k:Nat)(g:Nat->Nat->Rat):Nat->Nat->Rat:=clG k (n-1-k) (st2 n k g)
noncomputable def stA (n k:Nat)(g:Nat->Nat->Rat):List Stp:=clS k (n-1-k) g++clS k (n-1-k) (st2 n k g)
noncomputable def stB (n k:Nat)(g:Nat->Nat->Rat):List Stp:=clS k (n-1-k) .(131)
theorem ie :∀(d:Nat) (g:Nat->Nat->Rat),(∃i,k<=i/\i<=k+d/\g i k≠0)->clG k d g k k≠0
 | 0,g,⟨i,h1,h2,h3⟩=>by
   obtain rfl:i=k:=by omega
   exact h3
 | d+1,g,⟨i,h1,h2,h3⟩=>by
   refine ie d (c9 k (k+d) g) ?_;unfold c9;by_cases e1:g (k+d+1) k=0
   . rw[if_pos e1];refine⟨i,h1,?_,h3⟩;have:i≠k+d+1:=λz=>h3 (by rw[z]; exact e1);omega
   . rw[if_neg e1];refine⟨k+d,by omega,IE _,?_⟩;by_cases e2:g (k+d) k=0
     . rw[if_pos e2];show g (swp (k+d) (k+d)) k≠0;rw[oX];exact e1
     . rw[if_neg e2];show (if k+d=k+d+1 then _ else g (k+d) k)≠0;rw[if_neg .(0)];exact e2
structure Stg (n k:Nat)(g:Nat->Nat->Rat):Prop where
 bl:Bl n (k+1) (st3 n k g)
 eq:Eqn n (act (stA n k g) (eo (stB n k g) (st3 n k g))) g
 ok:∀st∈stA n k g++stB n k g,okS n st
def CP (h:Bl n k g)(hk:k<n):Stg n k g:=by
 have c1:=iD (n-1-k) g h .(0) λi h1 h2=>by omega
 have c2:=iD (n-1-k) .(131) c1.bl.tr .(0) λi h1 h2=>by omega
 have b2:Bl n k (st2 n k g):=c2.bl.tr;have c3:=iD (n-1-k) (st2 n k g) b2 .(0) λi h1 h2=>by omega
 have row2:∀j,k<j->j<n->st2 n k g k j=0:=λj h1 h2=>c2.z j .(0) h2
 have row3:∀j,k<j->j<n->st3 n k g k j=0:=λj h1 h2=>by
   by_cases nz:st2 n k g k k=0
   . have none:∀i,k<i->i<=k+(n-1-k)->st2 n k g i k=0:=λi i1 i2=>by have hr:∀j,k<=j->j<n->st1 n k g k j=0:=λj j1 j2=>Ip λne=>ie (n-1-k) .(131) ⟨j,j1,by omega,ne⟩ nz;have e:=(hU (k:=k) (n-1-k) .(131) λi i1 i2=>hr i .(0) .(0)).1;show trF (clG k (n-1-k) .(131)) i k=0;rw[e];exact c1.z i .(0) .(0)
     have e:=(hU (k:=k) (n-1-k) (st2 n k g) none).1;show clG k (n-1-k) (st2 n k g) k j=0;rw[e];exact row2 j h1 h2
   . show clG k (n-1-k) (st2 n k g) k j=0;rw[c3.keep nz j];exact row2 j h1 h2
 refine⟨⟨λi hi j hj ne o=>?_,?_⟩,?_,λst m=>?_⟩
 . by_cases a:i<k\/j<k
   . exact c3.bl.off i hi j hj ne a
   . by_cases b:i=k
     . rw[b];exact row3 j .(0) hj
     . have:j=k:=by omega
       rw[this];exact c3.z i .(0) hi
 . have t:=c3.bl.tn;refine λl ρ γ h1 h2 h3 h4=>?_;have:=t l (λi=>1+ρ i) (λi=>1+γ i) (λi hi=>by have:=h1 i hi; show 1+ρ i<1+ρ (i+1); omega) (λi hi=>by have:=h2 i hi; show 1+ρ i<n-k; omega) (λi hi=>by have:=h3 i hi; show 1+γ i<1+γ (i+1); omega) λi hi=>by have:=h4 i hi; show 1+γ i<n-k; omega
   have e:mi (λi j=>st3 n k g (k+1+i) (k+1+j)) l ρ γ=mi (λi j=>clG k (n-1-k) (st2 n k g) (k+i) (k+j)) l (λi=>1+ρ i) λi=>1+γ i:=by unfold mi;refine aG λi _ j _=>?_;show st3 n k g (k+1+ρ i) (k+1+γ j)=st3 n k g (k+(1+ρ i)) (k+(1+γ j));rw[Kb,Kb]
   rw[e];exact this
 . unfold stA;rw[eQ,<- jd];have e3:Eqn n (act (clS k (n-1-k) (st2 n k g)) (st3 n k g)) (st2 n k g):=c3.eq;have o3:∀st∈clS k (n-1-k) (st2 n k g),okS n st:=c3.ok;have o2:∀st∈stB n k g,okS n st:=c2.ok;have e2:Eqn n (eo (stB n k g) (st2 n k g)) (st1 n k g):=λi hi j hj=>c2.eq j hj i hi;exact(ij ((lE e3 _ o2).trans e2) _ c1.ok).trans c1.eq
 . unfold stA at m;rcases vp.mp m with m | m
   . rcases vp.mp m with m | m
     . exact c1.ok st m
     . exact c3.ok st m
   . exact c2.ok st m
noncomputable def apF (n:Nat)(A:Nat->Nat->Rat):Nat->(Nat->Nat->Rat)×List Stp×List Stp
 | 0=>(A,[],[])
 | k+1=>let r:=apF n A k; (st3 n k r.1,r.2.1++stA n k r.1,r.2.2++stB n k r.1)
noncomputable def crS (n:Nat)(g:Nat->Nat->Rat):List Stp:=(ox n).map λk=>("weigh",k,g k k)
noncomputable def apS (n:Nat)(A:Nat->Nat->Rat):List Stp:=(apF n A n).2.1++(crS n (apF n A n).1++(apF n A n).2.2.reverse.map trn)
structure Apo (n k:Nat)(A:Nat->Nat->Rat):Prop where
 bl:Bl n k .(115).1
 eq:Eqn n (act .(115).2.1 (eo .(115).2.2 .(115).1)) A
 ok:∀st∈.(115).2.1++.(115).2.2,okS n st
 nn:∀i,i<k->i<n->0<=.(115).1 i i
def yt (h:Bl n k g)(hk:k<n)(hi:i<k):st3 n k g i i=g i i:=by
 have low:∀d g j,k+d<n->clG k d g i j=g i j:=λd=>by
   induction d with
   | zero=>intro g j _; rfl
   | succ d ih=>
     intro g j hd;show clG k d (c9 k (k+d) g) i j=_;rw[ih _ _ .(0)];unfold c9;split
     . rfl
     . split
       . show g (swp (k+d) i) j=_;rw[fT .(0) .(0)]
       . unfold tkF;rw[if_neg .(0)]
 show clG k (n-1-k) (st2 n k g) i i=_;rw[low _ _ _ .(0)];show clG k (n-1-k) .(131) i i=_;rw[low _ _ _ .(0)];show clG k (n-1-k) g i i=_;rw[low _ _ _ .(0)]
theorem uk (H:Tnn n n A):∀k,k<=n->Apo n k A
 | 0,_=>⟨⟨λi _ j _ _ o=>absurd o .(0),H.congr λi _ j _=>by rw[KG,KG]; rfl⟩,Eqn.refl A,λ_ z=>.(146),λi hi=>absurd hi .(6)⟩
 | k+1,hk=>by
   have r:=uk H k .(0);have s:=CP r.bl .(0);have ro:∀st∈.(115).2.1,okS n st:=λst m=>r.ok st (Ie _ m);have rb:∀st∈.(115).2.2,okS n st:=λst m=>r.ok st (x3 _ m);refine⟨s.bl,?_,λst m=>?_,λi hi hin=>?_⟩
   . show Eqn n (act (.(115).2.1++stA n k .(115).1) (eo (.(115).2.2++stB n k .(115).1) (st3 n k .(115).1))) A;rw[eQ,rD,<- jd (stA n k .(115).1)];exact(ij (lE s.eq _ rb) _ ro).trans r.eq
   . have m:st∈(.(115).2.1++stA n k .(115).1)++(.(115).2.2++stB n k .(115).1):=m;rcases vp.mp m with m | m
     . rcases vp.mp m with m | m
       . exact ro st m
       . exact s.ok st (Ie _ m)
     . rcases vp.mp m with m | m
       . exact rb st m
       . exact s.ok st (x3 _ m)
   . show 0<=st3 n k .(115).1 i i;by_cases e:i=k
     . rw[e];have b2:Bl n k (st2 n k .(115).1):=(iD (n-1-k) (trF (st1 n k .(115).1)) (iD (n-1-k) .(115).1 r.bl .(0) λi h1 h2=>by omega).bl.tr .(0) λi h1 h2=>by omega).bl.tr;exact(iD (n-1-k) _ b2 .(0) λi h1 h2=>by omega).bl.nn .(3) .(0) .(3) .(0)
     . rw[yt r.bl .(0) .(0)];exact r.nn i .(0) hin
theorem Ad (f:Nat->Rat)(L:Nat->Nat->Rat):∀m,act ((ox m).map λk=>(("weigh",k,f k):Stp)) L=λi j=>if i<m then f i*L i j else L i j
 | 0=>by funext i j; rw[if_neg .(6)]; rfl
 | m+1=>by
   rw[Jt,Ia,eQ,Ad f _ m];funext i j;show (if i<m then f i*bkV L ("weigh",m,f m) i j else bkV L ("weigh",m,f m) i j)=_;have e:bkV L (("weigh",m,f m):Stp) i j=if i=m then f m*L m j else L i j:=by unfold bkV gy;simp only[if_true];split <;> rfl
   rw[e];by_cases a:i<m
   . rw[if_pos a,if_neg .(0),if_pos .(0)]
   . rw[if_neg a];by_cases b:i=m
     . rw[if_pos b,if_pos .(0),b]
     . rw[if_neg b,if_neg .(0)]
def xr {st:Stp}(h:okS n st):st.1 = "weigh" \/ st.1 = "down" \/ st.1 = "up":=by
 rcases h.2 with ⟨e,_⟩ | ⟨e,_⟩
 . exact .inl e
 . exact .inr e
def AI {st:Stp}(h:okS n st):okS n (trn st):=by
 unfold trn;rcases h.2 with ⟨e,_⟩ | ⟨e,z⟩
 . rw[if_pos e]; exact h
 . rcases e with e | e
   . rw[if_neg (by rw[e]; decide),if_pos e];exact⟨h.1,.inr ⟨.inr rfl,z⟩⟩
   . rw[if_neg (by rw[e]; decide),if_neg (by rw[e]; decide)];exact⟨h.1,.inr ⟨.inl rfl,z⟩⟩
def yX (H:Tnn n n A):Eqn n (bwd (apS n A)) A/\∀st∈apS n A,okS n st:=by
 have r:=uk H n .(3);have ro:∀st∈(apF n A n).2.1,okS n st:=λst m=>r.ok st (Ie _ m);have rb:∀st∈(apF n A n).2.2,okS n st:=λst m=>r.ok st (x3 _ m);have rc:∀st∈crS n (apF n A n).1,okS n st:=λst m=>by unfold crS at m;obtain⟨k,hk,rfl⟩:=HV.mp m;have hk:=Iq.mp hk;exact⟨xD (r.nn k hk hk),.inl ⟨rfl,hk⟩⟩
 refine⟨?_,λst m=>?_⟩
 . rw[Bo];unfold apS;rw[eQ,eQ,<- uG _ λs m=>xr (rb s m),<- jd];refine(ij (lE ?_ _ rb) _ ro).trans r.eq;intro i hi j hj;unfold crS;rw[Ad (λk=>(apF n A n).1 k k)];show (if i<n then (apF n A n).1 i i*V0 i j else V0 i j)=_;rw[if_pos hi];unfold V0;by_cases e:i=j
   . rw[if_pos e.symm,e];exact J3 _
   . rw[if_neg (Je e),IG];exact(r.bl.off i hi j hj e (.inl hi)).symm
 . unfold apS at m;rcases vp.mp m with m | m
   . exact ro st m
   . rcases vp.mp m with m | m
     . exact rc st m
     . obtain⟨s,hs,rfl⟩:=HV.mp m;exact AI (rb s (LO.mp hs))
def BR (n k:Nat)(g:Nat->Nat->Rat):(stA n k g).length<=4*(n-1-k):=by unfold stA;rw[rp];have a:=jx (k:=k) (n-1-k) g;have b:=jx (k:=k) (n-1-k) (st2 n k g);omega
theorem tS (n:Nat)(A:Nat->Nat->Rat):∀k,k<=n->.(115).2.1.length<=4*(n*k)/\.(115).2.2.length<=2*(n*k)
 | 0,_=>⟨Im _,Im _⟩
 | k+1,h=>by
   have r:=tS n A k .(0);have a:=BR n k .(115).1;have b:=jx (k:=k) (n-1-k) (trF (st1 n k .(115).1));have e:n*(k+1)=n*k+n:=Nat.mul_succ ..;constructor
   . show (.(115).2.1++stA n k .(115).1).length<=_;rw[rp,e];omega
   . show (.(115).2.2++stB n k .(115).1).length<=_;unfold stB;rw[rp,e];omega
def BE (hn:n<=7)(A:Nat->Nat->Rat):(apS n A).length<=400:=by obtain⟨a,b⟩:=tS n A n .(3);have:n*n<=49:=Ju hn hn;unfold apS crS;rw[rp,rp,bp,bp,IQ,JJ];omega
def bI (n:Nat)(A:Nat->Nat->Rat)(l u:Nat)(v:Nat->Rat):Prop:=∃y:Nat->Rat,∀c,c<n->v c=aA (λx=>if l<=x then y x*A x c else 0) u
section
variable {n:Nat}{A:Nat->Nat->Rat}{l u:Nat}{v w:Nat->Rat}
def bI.congr (h:bI n A l u v)(e:∀c,c<n->w c=v c):bI n A l u w:=by obtain⟨y,hy⟩:=h;exact⟨y,λc hc=>(e c hc).trans (hy c hc)⟩
def bI.zero:bI n A l u λ_=>0:=⟨λ_=>0,λc _=>by
 symm;refine bx λx _=>?_;split
 . exact IU _
 . rfl⟩
def bI.lin (h:bI n A l u v)(g:bI n A l u w)(a b:Rat):bI n A l u λc=>a*v c+b*w c:=by
 obtain⟨y,hy⟩:=h;obtain⟨z,hz⟩:=g;refine⟨λx=>a*y x+b*z x,λc hc=>?_⟩;show a*v c+b*w c=_;rw[hy c hc,hz c hc,a7,a7,<- df];refine au λx _=>?_;by_cases e:l<=x
 . rw[if_pos e,if_pos e,if_pos e]; grind
 . rw[if_neg e,if_neg e,if_neg e]; grind
def bI.mem (h1:l<=x)(h2:x<u):bI n A l u (A x):=⟨λz=>if z=x then 1 else 0,λc _=>by
 have e:aA (λz=>if l<=z then (if z=x then (1:Rat) else 0)*A z c else 0) u=aA (λz=>A z c*dq z x) u:=au λz _=>by
   unfold dq;by_cases a:z=x
   . rw[if_pos a,if_pos .(0)]; grind
   . rw[if_neg a];split
     . grind
     . grind
 rw[e,bN _ _ _ h2]⟩
def bI.snoc (h:bI n A l (u+1) v):∃a w,bI n A l u w/\(∀c,c<n->v c=a*A u c+w c)/\(u<l->a=0):=by
 obtain⟨y,hy⟩:=h;refine⟨if l<=u then y u else 0,λc=>aA (λx=>if l<=x then y x*A x c else 0) u,⟨y,λc _=>rfl⟩,λc hc=>?_,λe=>if_neg .(0)⟩;rw[hy c hc,aA,Rat.add_comm];split
 . rfl
 . rw[IU]
def bI.trans (g:∀x,l'<=x->x<u'->bI n A l u (A x)):∀{v:Nat->Rat},bI n A l' u' v->bI n A l u v:=by
 induction u' with
 | zero=>intro v ⟨y,hy⟩;exact bI.zero.congr hy
 | succ u' ih=>
   intro v h;obtain⟨a,w,hw,e,z⟩:=h.snoc;have hw:=ih (λx h1 h2=>g x h1 .(0)) hw;by_cases q:l'<=u'
   . refine((g u' q .(0)).lin hw a 1).congr λc hc=>?_;rw[e c hc,Jd]
   . refine hw.congr λc hc=>?_;rw[e c hc,z .(0),IU,Kk]
def bI.mono (h:bI n A l u v)(h1:l'<=l)(h2:u<=u'):bI n A l' u' v:=h.trans λx a b=>bI.mem .(0) .(0)
end
noncomputable def vec (n:Nat)(A φ:Nat->Nat->Rat)(i c:Nat):Rat:=aA (λr=>φ i r*A r c) n
def Al (n:Nat)(A φ:Nat->Nat->Rat)(i:Nat):Prop:=∃c,c<n/\vec n A φ i c≠0
structure fx (n:Nat)(A φ:Nat->Nat->Rat)(o l b:Nat->Nat):Prop where
 on:∀i,i<n->o i<n
 sur:∀r,r<n->∃i,i<n/\o i=r
 one:∀i,i<n->φ i (o i)=1
 hi:∀i,i<n->∀r,o i<r->φ i r=0
 lo:∀i,i<n->∀r,r<l i->φ i r=0
 ord:∀i j,i<j->j<n->Al n A φ i->Al n A φ j->o i<o j/\l i<=l j
 van:∀i,i<n->∀c,c<b i->c<n->vec n A φ i c=0
 inj:∀i,i<n->Al n A φ i->∀v,bI n A (l i) (o i) v->(∀c,c<b i->c<n->v c=0)->∀c,c<n->v c=0
 ded:∀i,i<n->Al n A φ i->∀j,j<n->¬Al n A φ j->o i<o j->bI n A (l i) (o j) (A (o j))
noncomputable def upA {α:Type}(f:Nat->α)(i:Nat)(x:α):Nat->α:=λj=>if j=i then x else f j
def cv :upA f i x i=x:=if_pos rfl
def cf (h:j≠i):upA f i x j=f j:=if_neg h
section
variable {n:Nat}{A φ:Nat->Nat->Rat}{o l b:Nat->Nat}
def fx.start (n:Nat)(A:Nat->Nat->Rat):fx n A (λi r=>if i=r then 1 else 0) (λi=>i) (λi=>i) λ_=>0:=by
 have ve:∀i,i<n->∀c,vec n A (λi r=>if i=r then (1:Rat) else 0) i c=A i c:=λi hi c=>lF (λr=>A r c) i n hi;refine⟨λi h=>h,λr h=>⟨r,h,rfl⟩,λi _=>if_pos rfl,λi _ r h=>if_neg .(0),λi _ r h=>if_neg .(0),λi j h _ _ _=>⟨h,by omega⟩,λ_ _ _ h=>absurd h .(6),λi _ _ v ⟨y,hy⟩ _ c hc=>?_,λi hi _ j hj nd lt=>?_⟩
 . rw[hy c hc];exact bx λx hx=>if_neg .(0)
 . refine bI.zero.congr λc hc=>?_;refine Ip λne=>nd ⟨c,hc,?_⟩;rw[ve j hj];exact ne
def fx.le (h:fx n A φ o l b)(hi:i<n):l i<=o i:=by refine Ip λne=>?_;have a:=h.one i hi;rw[h.lo i hi _ .(0)]at a;exact absurd a .(2)
def fx.sup (h:fx n A φ o l b)(hi:i<n):bI n A (l i) (o i) λc=>vec n A φ i c-A (o i) c:=by
 refine⟨λx=>φ i x,λc hc=>?_⟩;have on:=h.on i hi
 have e1:∀m,m<=n->o i<m->aA (λr=>φ i r*A r c) m=aA (λr=>φ i r*A r c) (o i+1):=λm=>by
   induction m with
   | zero=>intro _ z; exact absurd z .(6)
   | succ m ih=>
     intro h1 h2;by_cases e:m=o i
     . rw[e]
     . rw[aA,ih .(0) .(0),h.hi i hi m .(0),IU,IV]
 show vec n A φ i c-A (o i) c=_;unfold vec;rw[e1 n .(3) on,aA,h.one i hi]
 have e2:aA (λr=>φ i r*A r c) (o i)=aA (λx=>if l i<=x then φ i x*A x c else 0) (o i):=au λx hx=>by
   by_cases e:l i<=x
   . rw[if_pos e]
   . rw[if_neg e,h.lo i hi x .(0),IU]
 rw[e2];grind
def fx.F7 (h:fx n A φ o l b)(hi:i<n):bI n A (l i) (o i+1) (vec n A φ i):=by have a:=(h.sup hi).mono .(3) (LL (o i));have c:=bI.mem (n:=n) (A:=A) (l:=l i) (u:=o i+1) (x:=o i) (h.le hi) (Kw _);refine(a.lin c 1 1).congr λc hc=>?_;show _=1*(vec n A φ i c-A (o i) c)+1*A (o i) c;grind
def o8 (i:Nat)(f:Nat->Rat)(c:Nat)(h:j≠i):vec n A (upA φ i f) j c=vec n A φ j c:=by unfold vec;rw[cf h]
def tO (i:Nat)(w:Rat)(c:Nat):vec n A (upA φ (i+1) λr=>φ (i+1) r-w*φ i r) (i+1) c=vec n A φ (i+1) c-w*vec n A φ i c:=by
 unfold vec;rw[cv,a7]
 have e:∀m,aA (λr=>(φ (i+1) r-w*φ i r)*A r c) m=aA (λr=>φ (i+1) r*A r c) m-aA (λk=>w*(φ i k*A k c)) m:=λm=>by
   induction m with
   | zero=>show (0:Rat)=0-0; grind
   | succ m ih=>rw[aA,aA,aA,ih]; grind
 exact e n
def fx.tk (h:fx n A φ o l b)(hi:i+1<n)(ai:Al n A φ i)(aj:Al n A φ (i+1))(hγ:γ<n)(z:∀c,c<γ->vec n A φ i c=0)(z':∀c,c<γ->vec n A φ (i+1) c=0)(p:vec n A φ i γ≠0)(bi:b i<=γ)(hw:vec n A φ (i+1) γ=w*vec n A φ i γ):
   fx n A (upA φ (i+1) λr=>φ (i+1) r-w*φ i r) o (upA l (i+1) (l i)) (upA b (i+1) (γ+1)):=by
 obtain⟨oi,li⟩:=h.ord i (i+1) .(0) hi ai aj;have al:∀j,j≠i+1->(Al n A (upA φ (i+1) λr=>φ (i+1) r-w*φ i r) j↔Al n A φ j):=λj ne=>by unfold Al;simp only[o8 (i+1) _ _ ne]
 have betw:∀x,o i<x->x<o (i+1)->bI n A (l i) x (A x):=λx h1 h2=>by
   have on:=h.on (i+1) hi;obtain⟨j,hj,rfl⟩:=h.sur x .(0);by_cases aj':Al n A φ j
   . exfalso;rcases MG j i with q | q | q
     . have:=(h.ord j i q .(0) aj' ai).1; omega
     . subst q; omega
     . by_cases q2:j=i+1
       . subst q2; omega
       . have:=(h.ord (i+1) j .(0) hj aj aj').1; omega
   . exact h.ded i .(0) ai j hj aj' h1
 have down:∀u,u<=o (i+1)->∀v,bI n A (l i) u v->bI n A (l i) (o i+1) v:=λu=>by
   induction u with
   | zero=>intro _ v hv; exact hv.mono .(3) (Im _)
   | succ u ih=>
     intro hu v hv;by_cases q:u<=o i
     . exact hv.mono .(3) .(0)
     . obtain⟨a,w,hw,e,_⟩:=hv.snoc;refine((ih .(0) _ (betw u .(0) .(0))).lin (ih .(0) _ hw) a 1).congr λc hc=>?_;rw[e c hc,Jd]
 refine⟨h.on,h.sur,λj hj=>?_,λj hj r hr=>?_,λj hj r hr=>?_,λj j' lt hj' a1 a2=>?_,λj hj c h1 h2=>?_,λj hj a v hv hz=>?_,λj hj a j' hj' nd lt=>?_⟩
 . by_cases e:j=i+1
   . subst e;rw[cv,h.one (i+1) hi,h.hi i .(0) _ oi];grind
   . rw[cf e]; exact h.one j hj
 . by_cases e:j=i+1
   . subst e;rw[cv,h.hi (i+1) hi r hr,h.hi i .(0) r .(0)];grind
   . rw[cf e]; exact h.hi j hj r hr
 . by_cases e:j=i+1
   . subst e;rw[cv]at hr ⊢;rw[h.lo (i+1) hi r .(0),h.lo i .(0) r hr];grind
   . rw[cf e]at hr ⊢; exact h.lo j hj r hr
 . by_cases e:j=i+1
   . subst e;rw[cv,cf (show j'≠i+1 by omega)];have:=h.ord (i+1) j' lt hj' aj ((al j' .(0)).mp a2);exact⟨this.1,by omega⟩
   . by_cases e':j'=i+1
     . subst e';rw[cv,cf e];have a1:=(al j e).mp a1;by_cases q:j=i
       . subst q; exact⟨oi,IE _⟩
       . have:=h.ord j i .(0) .(0) a1 ai;exact⟨by omega,this.2⟩
     . rw[cf e,cf e'];exact h.ord j j' lt hj' ((al j e).mp a1) ((al j' e').mp a2)
 . by_cases e:j=i+1
   . subst e;rw[cv]at h1;rw[tO];by_cases q:c=γ
     . rw[q,hw]; grind
     . rw[z c .(0),z' c .(0)]; grind
   . rw[cf e]at h1;rw[o8 _ _ _ e];exact h.van j hj c h1 h2
 . by_cases e:j=i+1
   . subst e;rw[cv]at hv;rw[cv]at hz;obtain⟨a,w1,hw1,e1,_⟩:=(down _ .(3) v hv).snoc;have hu:bI n A (l i) (o i) λc=>1*w1 c+(-a)*(vec n A φ i c-A (o i) c):=hw1.lin (h.sup .(0)) 1 (-a);have zu:=h.inj i .(0) ai _ hu λc h1 h2=>by have y1:=hz c .(0) h2;rw[e1 c h2]at y1;have y2:=z c .(0);show 1*w1 c+(-a)*(vec n A φ i c-A (o i) c)=0;rw[y2];grind
     have vv:∀c,c<n->v c=a*vec n A φ i c:=λc hc=>by have y:1*w1 c+(-a)*(vec n A φ i c-A (o i) c)=0:=zu c hc;rw[e1 c hc];grind
     have a0:a=0:=by
       have y:=hz γ .(0) hγ;rw[vv γ hγ]at y;rcases Lf.mp y with y | y
       . exact y
       . exact absurd y p
     intro c hc;rw[vv c hc,a0,IU]
   . rw[cf e]at hv hz;exact h.inj j hj ((al j e).mp a) v hv hz
 . by_cases e:j=i+1
   . subst e;rw[cv];have ne:j'≠i+1:=λq=>by subst q; omega
     exact(h.ded (i+1) hi aj j' hj' (λq=>nd ((al j' ne).mpr q)) lt).mono li .(3)
   . rw[cf e];have a':=(al j e).mp a;by_cases e':j'=i+1
     . subst e'
       have lj:l j<=l i:=by
         rcases MG j i with q | q | q
         . exact(h.ord j i q .(0) a' ai).2
         . rw[q]; exact IE _
         . have:=(h.ord (i+1) j .(0) hj aj a').1; omega
       have z0:∀c,c<n->vec n A φ (i+1) c-w*vec n A φ i c=0:=λc hc=>Ip λne=>nd ⟨c,hc,by rw[tO]; exact ne⟩;have s1:=(h.sup hi).mono (l':=l i) li .(3);have s2:=(h.F7 (i:=i) .(0)).mono (l':=l i) (u':=o (i+1)) .(3) oi;refine((s1.lin s2 (-1) w).mono lj .(3)).congr λc hc=>?_;have y:=z0 c hc;show A (o (i+1)) c=-1*(vec n A φ (i+1) c-A (o (i+1)) c)+w*vec n A φ i c;grind
     . exact h.ded j hj a' j' hj' (λq=>nd ((al j' e').mpr q)) lt
def cW (hi:i+1<n)(hj:j<n):swp i j<n:=by unfold swp; split <;> (try split) <;> omega
def Bz (i j:Nat):swp i (swp i j)=j:=by
 unfold swp;by_cases h:j=i
 . rw[if_pos h,if_neg .(0),if_pos rfl]; omega
 . rw[if_neg h];by_cases h2:j=i+1
   . rw[if_pos h2,if_pos rfl]; omega
   . rw[if_neg h2,if_neg h,if_neg h2]
def fx.lf (h:fx n A φ o l b)(hi:i+1<n)(d:¬Al n A φ i):fx n A (λj=>φ (swp i j)) (λj=>o (swp i j)) (λj=>l (swp i j)) λj=>b (swp i j):=by
 have al:∀j,Al n A (λj=>φ (swp i j)) j↔Al n A φ (swp i j):=λj=>Iff.rfl;refine⟨λj hj=>h.on _ (cW hi hj),λr hr=>?_,λj hj=>h.one _ (cW hi hj),λj hj=>h.hi _ (cW hi hj),λj hj=>h.lo _ (cW hi hj),λj j' lt hj' a1 a2=>?_,λj hj=>h.van _ (cW hi hj),λj hj=>h.inj _ (cW hi hj),λj hj a j' hj'=>h.ded _ (cW hi hj) a _ (cW hi hj')⟩
 . obtain⟨j,hj,e⟩:=h.sur r hr;exact⟨swp i j,cW hi hj,by rw[Bz]; exact e⟩
 . have n1:swp i j≠i:=λe=>d (by have:=(al j).mp a1; rw[e]at this; exact this);have n2:swp i j'≠i:=λe=>d (by have:=(al j').mp a2; rw[e]at this; exact this);have q1:j≠i+1:=λe=>n1 (by rw[e]; exact j4);have q2:j'≠i+1:=λe=>n2 (by rw[e]; exact j4);refine h.ord _ _ ?_ (cW hi hj') a1 a2;unfold swp;rw[if_neg q1,if_neg q2];split <;> split <;> omega
end
structure Bas (n:Nat)(A:Nat->Nat->Rat)(l u b s:Nat)(ρ γ:Nat->Nat):Prop where
 rows:∀i,i<s->l<=ρ i/\ρ i<u
 cols:∀i,i<s->γ i<b/\γ i<n
 det0:det s (λi j=>A (ρ i) (γ j))≠0
 span:∀x,l<=x->x<u->∃y:Nat->Rat,∀c,c<n->A x c=aA (λi=>y i*A (ρ i) c) s
 len:s<=u
noncomputable def brd (A:Nat->Nat->Rat)(ρ γ:Nat->Nat)(s x:Nat)(i j:Nat):Rat:=A (if i<s then ρ i else x) (if j<s then γ j else j-s)
noncomputable def brc (A:Nat->Nat->Rat)(ρ γ:Nat->Nat)(s x i:Nat):Rat:=bc (brd A ρ γ s x) s s i
section
variable {n:Nat}{A:Nat->Nat->Rat}{ρ γ:Nat->Nat}{s x:Nat}
def vZ:det s (brd A ρ γ s x)=det s λi j=>A (ρ i) (γ j):=aG λi hi j hj=>by unfold brd;rw[if_pos hi,if_pos hj]
noncomputable def rsd (A:Nat->Nat->Rat)(ρ γ:Nat->Nat)(s x c:Nat):Rat:=det s (λi j=>A (ρ i) (γ j))*A x c+aA (λi=>brc A ρ γ s x i*A (ρ i) c) s
def yc (c:Nat):rsd A ρ γ s x c=bm (brd A ρ γ s x) s s (s+c):=by
 rw[ue,vZ];unfold rsd;congr 1
 . unfold brd;rw[if_neg .(0),if_neg .(0),LN]
 . refine au λi hi=>?_;unfold brc;congr 1;unfold brd;rw[if_pos hi,if_neg .(0),LN]
def zC (hj:j<s):rsd A ρ γ s x (γ j)=0:=by
 have e:=ue (Y:=brd A ρ γ s x) (k:=s) (p:=s) (q:=j);rw[uD hj,vZ]at e;unfold rsd;have e1:brd A ρ γ s x s j=A x (γ j):=by unfold brd;rw[if_neg .(0),if_pos hj]
 rw[e1]at e;rw[e];congr 1;refine au λi hi=>?_;unfold brc;congr 1;unfold brd;rw[if_pos hi,if_pos hj]
theorem bI.sum {l u n:Nat}{A:Nat->Nat->Rat}(y:Nat->Rat)(ρ:Nat->Nat):∀s,(∀i,i<s->l<=ρ i/\ρ i<u)->bI n A l u λc=>aA (λi=>y i*A (ρ i) c) s
 | 0,_=>bI.zero
 | s+1,h=>by have a:=bI.sum (l:=l) (u:=u) (n:=n) (A:=A) y ρ s λi hi=>h i .(0);have b:=bI.mem (n:=n) (A:=A) (h s .(0)).1 (h s .(0)).2;refine(a.lin b 1 (y s)).congr λc _=>?_;show aA _ s+y s*A (ρ s) c=_;rw[Jd]
end
theorem xH :∀u,(∀v,bI n A l u v->(∀c,c<b->c<n->v c=0)->∀c,c<n->v c=0)->∃s ρ γ,Bas n A l u b s ρ γ
 | 0,_=>⟨0,id,id,λ_ h=>absurd h .(6),λ_ h=>absurd h .(6),(by decide:(1:Rat)≠0),λ_ _ h=>absurd h .(6),IE _⟩
 | u+1,h=>by
   by_cases lu:u<l
   . exact⟨0,id,id,λ_ h=>absurd h .(6),λ_ h=>absurd h .(6),(by decide:(1:Rat)≠0),λ_ h1 h2=>absurd h1 .(0),Im _⟩
   obtain⟨s,ρ,γ,B⟩:=xH u λv hv=>h v (hv.mono .(3) (LL u));by_cases z:∀c,c<b->c<n->rsd A ρ γ s u c=0
   ·
     have ri:bI n A l (u+1) (rsd A ρ γ s u):=(by have a:=bI.mem (n:=n) (A:=A) (l:=l) (u:=u+1) (x:=u) .(0) (Kw u);have c:=bI.sum (l:=l) (u:=u+1) (n:=n) (A:=A) (brc A ρ γ s u) ρ s λi hi=>⟨(B.rows i hi).1,by have:=(B.rows i hi).2; omega⟩;refine(a.lin c (det s λi j=>A (ρ i) (γ j)) 1).congr λc _=>?_;show rsd A ρ γ s u c=_*A u c+1*_;rw[Jd];rfl);have z0:=h _ ri z;refine⟨s,ρ,γ,λi hi=>⟨(B.rows i hi).1,by have:=(B.rows i hi).2; omega⟩,B.cols,B.det0,λx h1 h2=>?_,by have:=B.len; omega⟩;by_cases e:x=u
     . subst e;refine⟨λi=>-(brc A ρ γ s x i)/det s (λi j=>A (ρ i) (γ j)),λc hc=>?_⟩;have y:=z0 c hc;unfold rsd at y;have d0:=B.det0;refine um d0 ?_;rw[a7];have e2:aA (λi=>det s (λi j=>A (ρ i) (γ j))*(-(brc A ρ γ s x i)/det s (λi j=>A (ρ i) (γ j))*A (ρ i) c)) s=-1*aA (λi=>brc A ρ γ s x i*A (ρ i) c) s:=by rw[a7];refine au λi _=>?_;generalize (det s λi j=>A (ρ i) (γ j))=D at d0 ⊢;generalize brc A ρ γ s x i=t;generalize A (ρ i) c=a;have:-t/D*D=-t:=JP d0;generalize -t/D=q at this ⊢;grind
       rw[e2];grind
     . exact B.span x h1 .(0)
   ·
     obtain⟨c0,h1,h2,h3⟩:∃c0,c0<b/\c0<n/\rsd A ρ γ s u c0≠0:=Ip λno=>z λc h1 h2=>Ip λne=>no ⟨c,h1,h2,ne⟩;refine⟨s+1,upA ρ s u,upA γ s c0,λi hi=>?_,λi hi=>?_,?_,λx x1 x2=>?_,by have:=B.len; omega⟩
     . by_cases e:i=s
       . rw[e,cv]; omega
       . rw[cf e];have:=B.rows i .(0);omega
     . by_cases e:i=s
       . rw[e,cv]; exact⟨h1,h2⟩
       . rw[cf e]; exact B.cols i .(0)
     . rw[yc]at h3
       have e:det (s+1) (λi j=>A (upA ρ s u i) (upA γ s c0 j))=bm (brd A ρ γ s u) s s (s+c0):=by
         unfold bm;refine aG λi hi j hj=>?_;unfold brd
         have e1:(if (if i<s then i else s)<s then ρ (if i<s then i else s) else u)=upA ρ s u i:=by
           by_cases q:i<s
           . rw[if_pos q,if_pos q,cf .(0)]
           . have:i=s:=by omega
             rw[if_neg q,if_neg .(0),this,cv]
         have e2:(if (if j<s then j else s+c0)<s then γ (if j<s then j else s+c0) else (if j<s then j else s+c0)-s)=upA γ s c0 j:=by
           by_cases q:j<s
           . rw[if_pos q,if_pos q,cf .(0)]
           . have:j=s:=by omega
             rw[if_neg q,if_neg .(0),this,cv,LN]
         rw[e1,e2]
       rw[e];exact h3
     . by_cases e:x=u
       . subst e;refine⟨λi=>if i=s then 1 else 0,λc hc=>?_⟩;rw[aA,bx λi hi=>?_]
         . show A x c=0+(if s=s then (1:Rat) else 0)*A (upA ρ s x s) c;rw[if_pos rfl,cv,Kk,Jd]
         . show (if i=s then (1:Rat) else 0)*_=0;rw[if_neg .(0),IU]
       . obtain⟨y,hy⟩:=B.span x x1 .(0);refine⟨λi=>if i=s then 0 else y i,λc hc=>?_⟩;have e0:(λi=>if i=s then 0 else y i) s*A (upA ρ s u s) c=0:=by show (if s=s then (0:Rat) else y s)*_=0;rw[if_pos rfl,IU]
         rw[hy c hc,aA,e0,IV];refine au λi hi=>?_;show _=(if i=s then 0 else y i)*A (upA ρ s u i) c;rw[if_neg .(0),cf .(0)]
def AH {M:Nat->Nat->Rat}(h0:det s M≠0){y:Nat->Rat}(h:∀j,j<s->aA (λi=>y i*M i j) s=0):∀i,i<s->y i=0:=λi hi=>by
 have e1:=(b9 s).sum M hi y (λi' j=>M i' j) s
 have e2:det s (aC M i λj=>aA (λc=>y c*M c j) s)=0:=by
   rw[<- (b9 s).xJ M hi];refine aG λr hr c hc=>?_;unfold aC;split
   . exact h c hc
   . rfl
 have e3:aA (λc=>y c*det s (aC M i λj=>M c j)) s=aA (λc=>(y c*det s M)*dq c i) s:=au λc hc=>by
   unfold dq;by_cases e:c=i
   . rw[if_pos e,e,show (λj=>M i j)=M i from rfl,bD,J3]
   . rw[if_neg e,(b9 s).same (p:=i) (q:=c) hi hc (Je e) (by rw[bT,bU e]),IG,IG]
 rw[e2,e3,bN _ _ _ hi]at e1;rcases Lf.mp e1.symm with z | z
 . exact z
 . exact absurd z h0
def fx.rep (h:fx n A φ o l b)(hi:i<n)(a:Al n A φ i):∃s ρ γ,s<=o i/\(∀t,t<s->ρ t<n)/\(∀t,t<s->γ t<n)/\det s (λx y=>A (ρ x) (γ y))≠0/\∀c,c<n->det s (λx y=>A (ρ x) (γ y))*vec n A φ i c=rsd A ρ γ s (o i) c:=by
 obtain⟨s,ρ,γ,B⟩:=xH (n:=n) (A:=A) (l:=l i) (b:=b i) (o i) (h.inj i hi a);have on:=h.on i hi;refine⟨s,ρ,γ,B.len,λt ht=>by have:=(B.rows t ht).2; omega,λt ht=>(B.cols t ht).2,B.det0,?_⟩
 obtain⟨y,hy⟩:∃y:Nat->Rat,∀c,c<n->vec n A φ i c-A (o i) c=aA (λt=>y t*A (ρ t) c) s:=by
   have all:∀u,u<=o i->∀v,bI n A (l i) u v->∃y:Nat->Rat,∀c,c<n->v c=aA (λt=>y t*A (ρ t) c) s:=λu=>by
     induction u with
     | zero=>
       intro _ v ⟨z,hz⟩
       exact⟨λ_=>0,λc hc=>by
         rw[hz c hc];symm;exact bx λ_ _=>IU _⟩
     | succ u ih=>
       intro hu v hv;obtain⟨a,w,hw,e,z⟩:=hv.snoc;obtain⟨y,hy⟩:=ih .(0) w hw;by_cases q:u<l i
       . exact⟨y,λc hc=>by rw[e c hc,z q,IU,Kk]; exact hy c hc⟩
       . obtain⟨y',hy'⟩:=B.span u .(0) .(0);refine⟨λt=>a*y' t+y t,λc hc=>?_⟩;rw[e c hc,hy' c hc,hy c hc,a7,<- df];refine au λt _=>?_;grind
   exact all _ .(3) _ (h.sup hi)
 have k:=AH B.det0 (y:=λt=>det s (λx y=>A (ρ x) (γ y))*y t-brc A ρ γ s (o i) t) λj hj=>by
   have e1:vec n A φ i (γ j)=0:=h.van i hi _ (B.cols j hj).1 (B.cols j hj).2;have e2:=hy (γ j) (B.cols j hj).2;have e3:=zC (A:=A) (ρ:=ρ) (γ:=γ) (x:=o i) hj;unfold rsd at e3;have e4:aA (λt=>(det s (λx y=>A (ρ x) (γ y))*y t-brc A ρ γ s (o i) t)*A (ρ t) (γ j)) s=det s (λx y=>A (ρ x) (γ y))*aA (λt=>y t*A (ρ t) (γ j)) s + -1*aA (λt=>brc A ρ γ s (o i) t*A (ρ t) (γ j)) s:=by rw[a7,a7,<- df];refine au λt _=>?_;grind
   rw[e4,<- e2,e1];grind
 intro c hc;unfold rsd;have e:vec n A φ i c=A (o i) c+aA (λt=>y t*A (ρ t) c) s:=by rw[<- hy c hc]; grind
 rw[e,MY,a7];congr 1;refine au λt ht=>?_;have:=k t ht;generalize (det s λx y=>A (ρ x) (γ y))=D at this ⊢;grind
noncomputable def trN (N:Nat->Nat->Rat):Nat->Nat->Rat:=λi j=>N j i
noncomputable def dbl (n:Nat)(N φ κ:Nat->Nat->Rat)(i j:Nat):Rat:=aA (λc=>vec n N φ i c*κ j c) n
def CD (n:Nat)(N φ κ:Nat->Nat->Rat)(i j:Nat):dbl n (trN N) κ φ j i=dbl n N φ κ i j:=by
 unfold dbl vec trN;have e1:aA (λc=>aA (λr=>φ i r*N r c) n*κ j c) n=aA (λc=>aA (λr=>φ i r*N r c*κ j c) n) n:=au λc _=>gY _ _ _;have e2:aA (λc=>aA (λr=>κ j r*N c r) n*φ i c) n=aA (λc=>aA (λr=>φ i c*N c r*κ j r) n) n:=au λc _=>by rw[gY];exact au λr _=>by grind
 rw[e1,e2,fL]
structure fI (n:Nat)(N:Nat->Nat->Rat)(sc tc:Nat->Rat)(g φ:Nat->Nat->Rat)(o l b:Nat->Nat)(κ:Nat->Nat->Rat)(o' l' b':Nat->Nat):Prop where
 R:fx n N φ o l b
 C:fx n (trN N) κ o' l' b'
 lk:∀i,i<n->∀j,j<n->sc (o i)*tc (o' j)*g i j=dbl n N φ κ i j
 pos:∀r,0<sc r
 pos':∀r,0<tc r
theorem oT {f κ:Nat->Rat}(h1:κ c=1)(h2:∀x,c<x->κ x=0)(h3:∀x,x<c->f x=0):∀n,c<n->aA (λx=>f x*κ x) n=f c
 | 0,h=>absurd h .(6)
 | n+1,h=>by
   rw[aA];by_cases e:c=n
   . rw[<- e,bx λx hx=>by show f x*κ x=0; rw[h3 x hx,IU],h1,Kk,J3]
   . rw[oT h1 h2 h3 n .(0),h2 n .(0),IG,IV]
section
variable {n k:Nat}{N g φ κ:Nat->Nat->Rat}{sc tc:Nat->Rat}{o l b o' l' b':Nat->Nat}
def fI.tr (G:fI n N sc tc g φ o l b κ o' l' b'):(∀i,i<n->∀j,j<n->sc (o i)*tc (o' j)*g i j=dbl n (trN N) κ φ j i):=λi hi j hj=>by rw[CD]; exact G.lk i hi j hj
def sN {s x:Rat}(hs:0<s)(h:s*x=0):x=0:=by
 rcases Lf.mp h with z | z
 . rw[z]at hs; exact absurd hs .(2)
 . exact z
def fI.alR (G:fI n N sc tc g φ o l b κ o' l' b')(hi:i<n)(hj:j<n)(h:g i j≠0):Al n N φ i:=Ip λno=>h <| sN (Mh (G.pos (o i)) (G.pos' (o' j))) (by
 rw[G.lk i hi j hj]
 exact bx λc hc=>by
   have:vec n N φ i c=0:=Ip λne=>no ⟨c,hc,ne⟩;show vec n N φ i c*κ j c=0;rw[this,IU])
def fI.alC (G:fI n N sc tc g φ o l b κ o' l' b')(hi:i<n)(hj:j<n)(h:g i j≠0):Al n (trN N) κ j:=Ip λno=>h <| sN (Mh (G.pos (o i)) (G.pos' (o' j))) (by
 rw[G.tr i hi j hj]
 exact bx λc hc=>by
   have:vec n (trN N) κ j c=0:=Ip λne=>no ⟨c,hc,ne⟩;show vec n (trN N) κ j c*φ i c=0;rw[this,IU])
def fI.low (G:fI n N sc tc g φ o l b κ o' l' b')(hi:i<n)(ht:t<=n)(h:∀j,j<n->o' j<t->g i j=0):∀c,c<t->vec n N φ i c=0:=λc=>by
 induction c using Nat.strongRecOn with
 | ind c ih=>intro hc;obtain⟨j,hj,e⟩:=G.C.sur c .(0);have z:=G.lk i hi j hj;rw[h j hj .(0),IG]at z;unfold dbl at z;rw[oT (c:=c) (by rw[<- e]; exact G.C.one j hj) (λx hx=>G.C.hi j hj x .(0)) (λx hx=>ih x hx .(0)) n .(0)]at z;exact z.symm
def fI.dead (G:fI n N sc tc g φ o l b κ o' l' b')(hi:i<n)(h:∀j,j<n->g i j=0):¬Al n N φ i:=λ⟨c,hc,ne⟩=>ne (G.low hi (IE n) (λj hj _=>h j hj) c hc)
def fI.piv (G:fI n N sc tc g φ o l b κ o' l' b')(B:Bl n k g)(hk:k<n)(ak:Al n (trN N) κ k)(hki:k<=i)(hi:i<n):(∀c,c<o' k->vec n N φ i c=0)/\vec n N φ i (o' k)=sc (o i)*tc (o' k)*g i k:=by
 have low:∀c,c<o' k->vec n N φ i c=0:=G.low hi (JO (G.C.on k hk)) λj hj lt=>by
   by_cases q:j<k
   . exact B.off i hi j hj .(0) (.inr q)
   . have jk:k<j:=by
       have:j≠k:=λe=>by rw[e]at lt; omega
       omega
     refine Ip λne=>?_;have:=(G.C.ord k j jk hj ak (G.alC hi hj ne)).1;omega
 refine⟨low,?_⟩;rw[G.lk i hi k hk];unfold dbl;exact(oT (G.C.one k hk) (G.C.hi k hk) low n (G.C.on k hk)).symm
def Ec (i:Nat)(f:Nat->Rat)(j:Nat)(h:x≠i):dbl n N (upA φ i f) κ x j=dbl n N φ κ x j:=by unfold dbl;exact au λc _=>by rw[o8 _ _ _ h]
def EI (i:Nat)(w:Rat)(j:Nat):dbl n N (upA φ (i+1) λr=>φ (i+1) r-w*φ i r) κ (i+1) j=dbl n N φ κ (i+1) j-w*dbl n N φ κ i j:=by
 unfold dbl
 have e:∀m,aA (λc=>vec n N (upA φ (i+1) λr=>φ (i+1) r-w*φ i r) (i+1) c*κ j c) m=aA (λc=>vec n N φ (i+1) c*κ j c) m-w*aA (λc=>vec n N φ i c*κ j c) m:=λm=>by
   induction m with
   | zero=>show (0:Rat)=0-w*0; grind
   | succ m ih=>rw[aA,aA,aA,ih,tO]; grind
 exact e n
def PB (n k d:Nat)(N κ:Nat->Nat->Rat)(b o':Nat->Nat):Prop:=∀i,k<=i->i<n->(∀j,k<j->j<n->Al n (trN N) κ j->b i<=o' j)/\(i<=k+d->Al n (trN N) κ k->b i<=o' k)
def CB (n lo m:Nat)(N φ:Nat->Nat->Rat)(o b':Nat->Nat):Prop:=∀j,lo<=j->j<n->∀i,m<=i->i<n->Al n N φ i->b' j<=o i
def Gd (n k d lo m:Nat)(N:Nat->Nat->Rat)(sc tc:Nat->Rat)(g κ:Nat->Nat->Rat)(o' l' b':Nat->Nat):Prop:=∃φ o l b,fI n N sc tc g φ o l b κ o' l' b'/\PB n k d N κ b o'/\CB n lo m N φ o b'
def Gd.one {d lo m:Nat}(h:Gd n k (d+1) lo m N sc tc g κ o' l' b')(B:Bl n k g)(hd:k+d+1<n)(hm:m=k\/(m=k+1/\g k k≠0)):Gd n k d lo m N sc tc (c9 k (k+d) g) κ o' l' b':=by
 obtain⟨φ,o,l,b,G,P,Q⟩:=h;unfold c9;by_cases e1:g (k+d+1) k=0
 . rw[if_pos e1];exact⟨φ,o,l,b,G,λi h1 h2=>⟨(P i h1 h2).1,λh3=>(P i h1 h2).2 .(0)⟩,Q⟩
 rw[if_neg e1];have ak:=G.alC hd .(0) e1;have aj:=G.alR hd .(0) e1;by_cases e2:g (k+d) k=0
 . rw[if_pos e2];have dd:=G.dead .(0) (B.AZ (i:=k+d) .(0) hd e2 e1);refine⟨_,_,_,_,⟨G.R.lf hd dd,G.C,λi hi j hj=>G.lk _ (cW hd hi) j hj,G.pos,G.pos'⟩,λi h1 h2=>?_,λj h1 h2 i h3 h4 a=>?_⟩
   . have s1:k<=swp (k+d) i:=by unfold swp; split <;> (try split) <;> omega
     have s2:=cW hd h2;refine⟨(P _ s1 s2).1,λh3 ak'=>(P _ s1 s2).2 ?_ ak'⟩;unfold swp;split <;> (try split) <;> omega
   . refine Q j h1 h2 (swp (k+d) i) ?_ (cW hd h4) a;rcases hm with rfl | ⟨rfl,nz⟩
     . unfold swp; split <;> (try split) <;> omega
     . have:d≠0:=λz=>nz (by rw[z]at e2; exact e2);unfold swp; split <;> (try split) <;> omega
 . rw[if_neg e2];have ai:=G.alR (i:=k+d) .(0) .(0) e2;obtain⟨z1,p1⟩:=G.piv B .(0) ak (i:=k+d) .(0) .(0);obtain⟨z2,p2⟩:=G.piv B .(0) ak (i:=k+d+1) .(0) hd;have ps:=G.pos (o (k+d));have s0:sc (o (k+d))≠0:=λz=>by rw[z]at ps; exact absurd ps .(2)
   have hw:vec n N φ (k+d+1) (o' k)=(g (k+d+1) k/g (k+d) k*sc (o (k+d+1))/sc (o (k+d)))*vec n N φ (k+d) (o' k):=by rw[p1,p2];have e2:g (k+d) k≠0:=e2;generalize g (k+d+1) k=x;generalize g (k+d) k=y at e2 ⊢;generalize sc (o (k+d))=s at s0 ⊢;generalize sc (o (k+d+1))=t;generalize tc (o' k)=v;grind
   have r:=G.R.tk (i:=k+d) (γ:=o' k) hd ai aj (G.C.on k .(0)) z1 z2 (by rw[p1]; exact λz=>e2 (sN (Mh ps (G.pos' (o' k))) z)) ((P (k+d) .(0) .(0)).2 .(0) ak) hw;refine⟨_,_,_,_,⟨r,G.C,λi hi j hj=>?_,G.pos,G.pos'⟩,λi h1 h2=>?_,λj h1 h2 i h3 h4 a=>?_⟩
   . unfold tkF;by_cases q:i=k+d+1
     . subst q;rw[if_pos rfl,EI,<- G.lk _ hd j hj,<- G.lk _ (show k+d<n by omega) j hj];generalize g (k+d+1) k/g (k+d) k=w;generalize sc (o (k+d))=s at s0 ⊢;generalize sc (o (k+d+1))=t;generalize tc (o' j)=v;have:w*t/s*s=w*t:=JP s0;generalize w*t/s=q at this ⊢;grind
     . rw[if_neg q,Ec _ _ _ q];exact G.lk i hi j hj
   . by_cases q:i=k+d+1
     . subst q;rw[cv];exact⟨λj h3 h4 a=>(G.C.ord k j h3 h4 ak a).1,λh3=>absurd h3 .(0)⟩
     . rw[cf q];exact⟨(P i h1 h2).1,λh3=>(P i h1 h2).2 .(0)⟩
   . refine Q j h1 h2 i h3 h4 ?_;by_cases q:i=k+d+1
     . rw[q]; exact aj
     . obtain⟨c,hc,ne⟩:=a;exact⟨c,hc,by rw[o8 _ _ _ q]at ne; exact ne⟩
end
def Ok0 (n:Nat)(N:Nat->Nat->Rat)(sc tc:Nat->Rat)(g:Nat->Nat->Rat):Prop:=∃φ o l b κ o' l' b',fI n N sc tc g φ o l b κ o' l' b'
def Sz (n M:Nat)(g:Nat->Nat->Rat):Prop:=∀i,i<n->∀j,j<n->Sq M (g i j)
def SzP (n M k:Nat):Nat->(Nat->Nat->Rat)->Prop
 | 0,g=>Sz n M g
 | d+1,g=>Sz n M g/\SzP n M k d (c9 k (k+d) g)
def fI.swp (G:fI n N sc tc g φ o l b κ o' l' b'):fI n (trN N) tc sc (trF g) κ o' l' b' φ o l b:=
 ⟨G.C,G.R,λi hi j hj=>by
   show tc (o' i)*sc (o j)*g j i=dbl n (trN N) κ φ i j;rw[CD,<- G.lk j hj i hi];grind,G.pos',G.pos⟩
def Ok0.tr (h:Ok0 n N sc tc g):Ok0 n (trN N) tc sc (trF g):=by obtain⟨φ,o,l,b,κ,o',l',b',G⟩:=h;exact⟨κ,o',l',b',φ,o,l,b,G.swp⟩
def Sz.tr (h:Sz n M g):Sz n M (trF g):=λi hi j hj=>h j hj i hi
theorem sf (h:Sz n M g):∀d,(∀i,k<i->i<=k+d->g i k=0)->SzP n M k d g
 | 0,_=>h
 | d+1,z=>⟨h,by
   have e:c9 k (k+d) g=g:=by unfold c9; rw[if_pos (z (k+d+1) .(0) .(0))]
   rw[e];exact sf h d λi h1 h2=>z i h1 .(0)⟩
section
variable {n k:Nat}{N:Nat->Nat->Rat}{sc tc:Nat->Rat}
theorem Gd.all {κ:Nat->Nat->Rat}{o' l' b':Nat->Nat}{lo m:Nat}:∀(d:Nat) (g:Nat->Nat->Rat),Gd n k d lo m N sc tc g κ o' l' b'->Bl n k g->k+d<n->(∀i,k+d<i->i<n->g i k=0)->(m=k\/(m=k+1/\g k k≠0))->Gd n k 0 lo m N sc tc (clG k d g) κ o' l' b'/\∀M,(∀g,Ok0 n N sc tc g->Sz n M g)->SzP n M k d g
 | 0,g,h,_,_,_,_=>⟨h,λM hS=>by
   obtain⟨φ,o,l,b,G,_,_⟩:=h;exact hS g ⟨φ,o,l,b,κ,o',l',b',G⟩⟩
 | d+1,g,h,B,hd,hz,hm=>by have o:=zz B hd hz;have h1:=h.one B hd hm;have r:=Gd.all d _ h1 o.bl .(0) o.z (hm.imp id λ⟨e,nz⟩=>⟨e,by rw[o.keep nz]; exact nz⟩);refine⟨r.1,λM hS=>⟨?_,r.2 M hS⟩⟩;obtain⟨φ,o,l,b,G,_,_⟩:=h;exact hS g ⟨φ,o,l,b,κ,o',l',b',G⟩
def FS (n k:Nat)(N:Nat->Nat->Rat)(sc tc:Nat->Rat)(g:Nat->Nat->Rat):Prop:=∃φ o l b κ o' l' b',fI n N sc tc g φ o l b κ o' l' b'/\CB n k k (trN N) κ o' b/\CB n k k N φ o b'
def xA (B:Bl n k g)(hk:k<n)(nz:st2 n k g k k=0):∀i,k<i->i<=k+(n-1-k)->st2 n k g i k=0:=λi i1 i2=>by
 have c1:=iD (n-1-k) g B .(0) λi h1 h2=>by omega
 have hr:∀j,k<=j->j<n->st1 n k g k j=0:=λj j1 j2=>Ip λne=>ie (n-1-k) .(131) ⟨j,j1,by omega,ne⟩ nz;have e:=(hU (k:=k) (n-1-k) .(131) λi i1 i2=>hr i .(0) .(0)).1;show trF (clG k (n-1-k) .(131)) i k=0;rw[e];exact c1.z i .(0) .(0)
def FS.Ct (h:FS n k N sc tc g)(B:Bl n k g)(hk:k<n):FS n (k+1) N sc tc (st3 n k g)/\∀M,(∀g,Ok0 n N sc tc g->Sz n M g)->SzP n M k (n-1-k) g/\SzP n M k (n-1-k) .(131)/\SzP n M k (n-1-k) (st2 n k g):=by
 have c1:=iD (n-1-k) g B .(0) λi h1 h2=>by omega
 have c2:=iD (n-1-k) .(131) c1.bl.tr .(0) λi h1 h2=>by omega
 have b2:Bl n k (st2 n k g):=c2.bl.tr;obtain⟨φ,o,l,b,κ,o',l',b',G,RB,QB⟩:=h;have p1:Gd n k (n-1-k) k k N sc tc g κ o' l' b':=⟨φ,o,l,b,G,λi h1 h2=>⟨λj h3 h4 a=>RB i h1 h2 j .(0) h4 a,λ_ a=>RB i h1 h2 k .(3) hk a⟩,QB⟩;obtain⟨q1,s1⟩:=p1.all (n-1-k) g B .(0) (λi h1 h2=>by omega) (.inl rfl)
 obtain⟨m,hm,φ1,o1,l1,b1,G1,RB1,QB1⟩:∃m,(m=k\/(m=k+1/\st1 n k g k k≠0))/\∃φ1 o1 l1 b1,fI n N sc tc (st1 n k g) φ1 o1 l1 b1 κ o' l' b'/\CB n k m (trN N) κ o' b1/\CB n k k N φ1 o1 b':=by
   by_cases z:∀i,k<i->i<=k+(n-1-k)->g i k=0
   . have e:st1 n k g=g:=(hU (k:=k) (n-1-k) g z).1;rw[e];exact⟨k,.inl rfl,φ,o,l,b,G,RB,QB⟩
   . obtain⟨i,i1,i2,i3⟩:∃i,k<i/\i<=k+(n-1-k)/\g i k≠0:=Ip λno=>z λi h1 h2=>Ip λne=>no ⟨i,h1,h2,ne⟩;have nz:st1 n k g k k≠0:=ie (n-1-k) g ⟨i,by omega,i2,i3⟩;obtain⟨φ1,o1,l1,b1,G1,P1,Q1⟩:=q1;exact⟨k+1,.inr ⟨rfl,nz⟩,φ1,o1,l1,b1,G1,λi h1 h2 j h3 h4 a=>(P1 i h1 h2).1 j .(0) h4 a,Q1⟩
 have p2:Gd n k (n-1-k) k m (trN N) tc sc .(131) φ1 o1 l1 b1:=⟨κ,o',l',b',G1.swp,λj h1 h2=>⟨λi h3 h4 a=>QB1 j h1 h2 i .(0) h4 a,λ_ a=>QB1 j h1 h2 k .(3) hk a⟩,RB1⟩;obtain⟨⟨κ2,o2,l2,d2,G2,P2,Q2⟩,s2⟩:=p2.all (n-1-k) .(131) c1.bl.tr .(0) (λi h1 h2=>by omega) hm;have G2':fI n N sc tc (st2 n k g) φ1 o1 l1 b1 κ2 o2 l2 d2:=G2.swp;have Q2:CB n k m (trN N) κ2 o2 b1:=Q2;have P2:∀j,k<=j->j<n->(∀i,k<i->i<n->Al n N φ1 i->d2 j<=o1 i)/\(j<=k+0->Al n N φ1 k->d2 j<=o1 k):=P2;have sz12:∀M,(∀g,Ok0 n N sc tc g->Sz n M g)->SzP n M k (n-1-k) g/\SzP n M k (n-1-k) .(131):=λM hS=>⟨s1 M hS,s2 M λg hg=>(hS (trF g) hg.tr).tr⟩;by_cases z:∀i,k<i->i<=k+(n-1-k)->st2 n k g i k=0
 . have e:st3 n k g=st2 n k g:=(hU (k:=k) (n-1-k) (st2 n k g) z).1;rw[e];refine⟨⟨φ1,o1,l1,b1,κ2,o2,l2,d2,G2',λi h1 h2 j h3 h4 a=>Q2 i .(0) h2 j (by rcases hm with rfl | ⟨rfl,_⟩ <;> omega) h4 a,λj h1 h2 i h3 h4 a=>(P2 j .(0) h2).1 i .(0) h4 a⟩,λM hS=>⟨(sz12 M hS).1,(sz12 M hS).2,sf (hS _ ⟨φ1,o1,l1,b1,κ2,o2,l2,d2,G2'⟩) _ z⟩⟩
 . have nz:st2 n k g k k≠0:=λe=>z (xA B hk e)
   have mk:m=k:=by
     rcases hm with e | ⟨_,nz1⟩
     . exact e
     . exfalso;refine z λi h1 h2=>?_;have e:=c2.keep (show trF (st1 n k g) k k≠0 from nz1) i;show clG k (n-1-k) .(131) k i=0;rw[e];exact c1.z i .(0) .(0)
   subst mk;have p3:Gd n m (n-1-m) (m+1) (m+1) N sc tc (st2 n m g) κ2 o2 l2 d2:=⟨φ1,o1,l1,b1,G2',λi h1 h2=>⟨λj h3 h4 a=>Q2 i h1 h2 j .(0) h4 a,λ_ a=>Q2 i h1 h2 m .(3) hk a⟩,λj h1 h2 i h3 h4 a=>(P2 j .(0) h2).1 i .(0) h4 a⟩;obtain⟨⟨φ3,o3,l3,b3,G3,P3,Q3⟩,s3⟩:=p3.all (n-1-m) (st2 n m g) b2 .(0) (λi h1 h2=>by omega) (.inr ⟨rfl,nz⟩);exact⟨⟨φ3,o3,l3,b3,κ2,o2,l2,d2,G3,λi h1 h2 j h3 h4 a=>(P3 i .(0) h2).1 j .(0) h4 a,Q3⟩,λM hS=>⟨(sz12 M hS).1,(sz12 M hS).2,s3 M hS⟩⟩
end
def FS.start (h:∀i,i<n->∀j,j<n->sc i*tc j*A i j=N i j)(p:∀r,0<sc r)(p':∀r,0<tc r):FS n 0 N sc tc A:=by
 refine⟨_,_,_,_,_,_,_,_,⟨fx.start n N,fx.start n (trN N),λi hi j hj=>?_,p,p'⟩,λ_ _ _ _ _ _ _=>Im _,λ_ _ _ _ _ _ _=>Im _⟩;rw[h i hi j hj];unfold dbl;have e:∀c,vec n N (λi r=>if i=r then (1:Rat) else 0) i c=N i c:=λc=>lF (λr=>N r c) i n hi
 have e2:aA (λc=>vec n N (λi r=>if i=r then (1:Rat) else 0) i c*(if j=c then (1:Rat) else 0)) n=aA (λc=>N i c*dq c j) n:=au λc _=>by
   rw[e c];unfold dq;by_cases q:j=c
   . rw[if_pos q,if_pos q.symm]
   . rw[if_neg q,if_neg (Je q)]
 rw[e2,bN _ _ _ hj]
theorem zD (H:Tnn n n A)(F:FS n 0 N sc tc A):∀k,k<=n->FS n k N sc tc .(115).1
 | 0,_=>F
 | k+1,hk=>((zD H F k .(0)).Ct (uk H k .(0)).bl .(0)).1
def ZB.idQ (m i j:Nat):ZB m (idQ i j):=by
 unfold K33.idQ;split
 . exact⟨1,rfl,by show 1<=_; exact Nat.one_le_two_pow⟩
 . exact⟨0,rfl,Im _⟩
section
variable {n β:Nat}{N:Nat->Nat->Rat}{ρ γ:Nat->Nat}{s x:Nat}
def y7 (hN:∀i,i<n->∀j,j<n->ZB β (N i j))(hρ:∀t,t<s->ρ t<n)(hγ:∀t,t<s->γ t<n)(hx:x<n)(hj:j<s\/(s<=j/\j-s<n)):ZB β (brd N ρ γ s x i j):=by
 unfold brd;refine hN _ ?_ _ ?_
 . split
   . exact hρ _ (by assumption)
   . exact hx
 . split
   . exact hγ _ (by assumption)
   . rcases hj with h | h
     . contradiction
     . exact h.2
def Gj (hN:∀i,i<n->∀j,j<n->ZB β (N i j))(hρ:∀t,t<s->ρ t<n)(hγ:∀t,t<s->γ t<n)(hs:s+1<=n)(h7:n<=7):ZB (n*(β+3)) (det s λi j=>N (ρ i) (γ j)):=(AM .(0) λi hi j hj=>hN _ (hρ i hi) _ (hγ j hj)).mono (Iu _ .(0))
def CT (hN:∀i,i<n->∀j,j<n->ZB β (N i j))(hρ:∀t,t<s->ρ t<n)(hγ:∀t,t<s->γ t<n)(hx:x<n)(hs:s+1<=n)(h7:n<=7)(hc:c<n):ZB (n*(β+3)) (rsd N ρ γ s x c):=by
 rw[yc];refine(AM (n:=s+1) .(0) λi hi j hj=>?_).mono (Iu _ hs);refine y7 hN hρ hγ hx ?_;by_cases q:j<s
 . rw[if_pos q]; exact .inl q
 . rw[if_neg q]; exact .inr .(15)
def C0 (hN:∀i,i<n->∀j,j<n->ZB β (N i j))(hρ:∀t,t<s->ρ t<n)(hγ:∀t,t<s->γ t<n)(hx:x<n)(hs:s+1<=n)(h7:n<=7)(hi:i<s):ZB (n*(β+3)) (brc N ρ γ s x i):=by
 unfold brc bc;refine(AM (n:=s+1) (b:=β) .(0) λa ha c hc=>?_).mono (Iu _ hs);unfold aC;by_cases q:a=s
 . rw[if_pos q]; exact ZB.idQ _ _ _
 . rw[if_neg q];exact y7 hN hρ hγ hx (.inl .(0))
end
def ZB.Hf (h:ZB m x)(g:ZB m y):ZB (m+1) (x+y):=by obtain⟨a,rfl,h⟩:=h;obtain⟨d,rfl,g⟩:=g;refine⟨a+d,(Kl ..).symm,?_⟩;rw[K2];omega
def yd (h:∀c,c<n->P*vec n N φ i c=rsd N ρ γ s x c):P*dbl n N φ κ i j=det s (λi j=>N (ρ i) (γ j))*vec n (trN N) κ j x+aA (λt=>brc N ρ γ s x t*vec n (trN N) κ j (ρ t)) s:=by
 unfold dbl;rw[a7]
 have e1:aA (λc=>P*(vec n N φ i c*κ j c)) n=aA (λc=>det s (λi j=>N (ρ i) (γ j))*(κ j c*N x c)+aA (λt=>brc N ρ γ s x t*(κ j c*N (ρ t) c)) s) n:=au λc hc=>by
   rw[<- J1,h c hc];unfold rsd;rw[Rat.add_mul,gY];congr 1
   . grind
   . exact au λt _=>by grind
 rw[e1,df,<- a7,fL];congr 1;refine au λt _=>?_;rw[<- a7];rfl
def y0 (h7:n<=7)(hN:∀i,i<n->∀j,j<n->ZB β (N i j))(hs:∀r,r<n->∃z:Int,(z:Rat)=sc r/\z.natAbs<=2^σ)(h:Ok0 n N sc (λ_=>1) g):Sz n (2*(n*(β+3))+σ+5) g:=λi hi j hj=>by
 obtain⟨φ,o,l,b,κ,o',l',b',G⟩:=h
 have zero:Sq (2*(n*(β+3))+σ+5) 0:=by
   have p:2^1<=2^(2*(n*(β+3))+σ+5):=Ir .(2) .(0);refine⟨?_,?_⟩
   . show (0:Int).natAbs<_;exact Jl _
   . show (1:Int).natAbs<_;show 1<_;omega
 have l0:sc (o i)*1*g i j=dbl n N φ κ i j:=G.lk i hi j hj;by_cases z:g i j=0
 . rw[z]; exact zero
 have ai:=G.alR hi hj z;have aj:=G.alC hi hj z;have on:=G.R.on i hi;have on':=G.C.on j hj;obtain⟨s,ρ,γ,q1,q2,q3,q4,q5⟩:=G.R.rep hi ai;obtain⟨s',ρ',γ',r1,r2,r3,r4,r5⟩:=G.C.rep hj aj;have hN':∀i,i<n->∀j,j<n->ZB β (trN N i j):=λi hi j hj=>hN j hj i hi;have zP:=Gj hN q2 q3 .(0) h7;have zQ:=Gj hN' r2 r3 .(0) h7;have zr:∀r,r<n->ZB (n*(β+3)) (rsd (trN N) ρ' γ' s' (o' j) r):=λr hr=>CT hN' r2 r3 on' .(0) h7 hr
 have main:det s' (λx y=>trN N (ρ' x) (γ' y))*(det s (λx y=>N (ρ x) (γ y))*dbl n N φ κ i j)=det s (λx y=>N (ρ x) (γ y))*rsd (trN N) ρ' γ' s' (o' j) (o i)+aA (λt=>brc N ρ γ s (o i) t*rsd (trN N) ρ' γ' s' (o' j) (ρ t)) s:=by
   rw[yd q5,MY,a7];congr 1
   . rw[<- r5 _ on]; grind
   . refine au λt ht=>?_;rw[<- r5 _ (q2 t ht)]; grind
 have zW:ZB (n*(β+3)+n*(β+3)+3+1) (det s' (λx y=>trN N (ρ' x) (γ' y))*(det s (λx y=>N (ρ x) (γ y))*dbl n N φ κ i j)):=by rw[main];refine ZB.Hf ((zP.mul (zr _ on)).mono .(0)) ?_;obtain⟨w,e,hw⟩:=ZB.sum (n:=s) (b:=n*(β+3)+n*(β+3)) λt ht=>(C0 hN q2 q3 on .(0) h7 ht).mul (zr _ (q2 t ht));refine⟨w,e,Il hw ?_⟩;rw[show (2:Nat)^(n*(β+3)+n*(β+3)+3)=2^(n*(β+3)+n*(β+3))*2^3 from JW ..,Nat.mul_comm];exact Ml _ .(0)
 obtain⟨w,ew,hw⟩:=zW;obtain⟨p,ep,hp⟩:=zP;obtain⟨q,eq,hq⟩:=zQ;obtain⟨t,et,ht⟩:=hs (o i) on;rw[ep]at q4;rw[eq]at r4;have spos:=G.pos (o i);rw[<- et]at spos;have t0:0<t:=by have:((0:Int):Rat)<(t:Rat):=spos;exact Rat.intCast_lt_intCast.mp this
 have p0:p≠0:=λz=>q4 (by rw[z]; rfl);have q0:q≠0:=λz=>r4 (by rw[z]; rfl);rw[ep,eq,<- l0,<- et]at ew;have e:((w:Int):Rat)=g i j*((q*(p*t):Int):Rat):=by rw[<- ew,IA,IA];grind
 have hb:(q*(p*t)).natAbs<=2^(n*(β+3)+(n*(β+3)+σ)):=by rw[JE,JE,JW,JW (m:=n*(β+3))];exact Ju hq (Ju hp ht)
 have bdw:Bd (2*(n*(β+3))+σ+5) w:=IB hw (K7 .(2) .(0));have bdb:Bd (2*(n*(β+3))+σ+5) (q*(p*t)):=IB hb (K7 .(2) .(0));have nz:q*(p*t)≠0:=Int.mul_ne_zero q0 (Int.mul_ne_zero p0 .(0));by_cases sg:0<q*(p*t)
 . exact Sq.bW sg e bdw bdb
 . refine Sq.bW (t:=-w) (b:=-(q*(p*t))) .(0) ?_ ?_ ?_
   . rw[JV,JV,e]; grind
   . show (-w).natAbs<_;rw[Ku]; exact bdw
   . show (-(q*(p*t))).natAbs<_;rw[Ku]; exact bdb
end K33
namespace Hy
open PySem PySem.Spec PyProof.Rows L2
open Ev (D Den aw aq)
end Hy
namespace Hy
open PySem PySem.Spec PyProof.Rows L2
open Ev (D Den aw aq a5 aR)
def spG (K:fw)(Φ:List D->List D->List D->Sl->Prop):Sp:=λvs H Q _=>∃(M:Addr->Prop) (a:Addr) (ws us:List V) (xs ds xs':List D) (s:Sl),vs=.ref a::us/\M a/\(∀b,M b->∃o,H b=some o)/\H a=some (.lst ws)/\aw K (hd H M) ws xs/\aw K (hd H M) us ds/\Φ xs ds xs' s /\
 ∀v H' bs ws',But a H H'->H' a=some (.lst ws')->aw K (hd H' M) ws' xs'->Fr H H' bs->cI K (hd H' λb=>M b\/b∈bs) H' (some v) bs s->Q v H'
def dSA (K:fw)(τ:List Sl)(i:Nat)(τe τc:List Sl):TS:=λD σ H=>∃A H₀ B,Sta K A H₀ τ B σ H/\(∀B' σ' H',Sta K A H₀ τe B' σ' H'->σ'[i]?=σ[i]?->D.nx σ' H')/\∀B' σ' H',Sta K A H₀ τc B' σ' H'->σ'[i]?=σ[i]?->D.ct σ' H'
def dSR (K:fw)(τ:List Sl)(xs':List D)(s:Sl):TS:=λD σ H=>∃A H₀ B a,Sta K A H₀ τ B σ H/\(σ[0]?).join=some (.ref a)/\∀v H2 bs ws',ao H₀ H2->H2 a=some (.lst ws')->aw K (hd H2 λb=>(A b\/b=a)\/b∈bs) ws' xs'->a∉bs->Fr H₀ H2 bs->cI K (hd H2 λb=>(A b\/b=a)\/b∈bs) H2 (some v) bs s->D.rt v H2
section
variable {X:Cx}{τ τ1 τ2 τc:List Sl}{x y z:D}{a b c e o:Expr}{pos p q:Pos}{l:Nat}{s:Sl}{N:Po}{st:Stmt}{body els rest:List Stmt}{i m:Nat}{xs ys:List D}
def uT:PSs X [] (dSA X.K τ i τ τc):=gH jg λ_ σ H ⟨_,_,B,S,fn,_⟩=>fn B σ H S rfl
def mr (h1:PS X st (dSA X.K τ i τ1 τc))(h2:PSs X rest (dSA X.K τ1 i τ2 τc)):PSs X (st::rest) (dSA X.K τ i τ2 τc):=gH (d8 h1 h2) λ_ _ _ ⟨A,H₀,B,S,fn,fc⟩=>⟨A,H₀,B,S,λB' _ _ S' e=>⟨A,H₀,B',S',λB2 σ2 H2 S2 e2=>fn B2 σ2 H2 S2 (e2.trans e),λB2 σ2 H2 S2 e2=>fc B2 σ2 H2 S2 (e2.trans e)⟩,fc⟩
def CF (r:Nat){n:Str}(hN:X.N.Nodup)(he:PE X e (dE X.K true τ s))(hri:r≠i:=by decide)(hi:X.N[r]?=some n:=by rfl)(hx:Loc X.env.scope n:=by first | exact .inl rfl | exact .inr rfl)(hs:N1 e (some (.Name n p)) pos.line X.env=pure false:=by rfl)
   (hf:X.fn n=true\/X.env.scope.names.lookup n=some .local:=by first | exact .inl rfl | exact .inr rfl | assumption):PS X (.Assign [.Name n p] e pos) (dSA X.K τ i (τ.set r s) τc):=
 psW (yk hN hi hx he hs hf) λD σ H ⟨A,H₀,B,S,fn,_⟩=>⟨A,H₀,B,S,λw H' bs e hf h=>fn _ _ _ (S.set e hf h) (Ik hri)⟩
def FA (hc:PT X c (dT X.K τ false)):PS X (.If c body [] pos) (dSA X.K τ i τ τc):=psW (nN hc cE jg) λ_ σ _ ⟨A,H₀,B,S,fn,_⟩=>⟨A,H₀,B,S,λH' e=>rJ (fn B σ H' (S.mono e) rfl)⟩
def Gi (hc:PT X c (dT X.K τ true))(h:PSs X body (dSA X.K τ i τ1 τc)):PS X (.If c body els pos) (dSA X.K τ i τ1 τc):=psW (nN hc h cE) λ_ σ _ ⟨A,H₀,B,S,fn,fc⟩=>⟨A,H₀,B,S,λH' e=>pz ⟨A,H₀,B,S.mono e,fn,fc⟩⟩
def FY (hc:PT X c (dT X.K τ false))(h:PSs X els (dSA X.K τ i τ1 τc)):PS X (.If c body els pos) (dSA X.K τ i τ1 τc):=psW (nN hc cE h) λ_ σ _ ⟨A,H₀,B,S,fn,fc⟩=>⟨A,H₀,B,S,λH' e=>rJ ⟨A,H₀,B,S.mono e,fn,fc⟩⟩
def Fp (r:Nat){n:Str}{it:Expr}{g:Nat->D}{tp:Pos}(T:Nat->List Sl)(Bq:Bk X l)(hN:X.N.Nodup)(hi:PI X (.Name n tp) it (dI X.K (T 0) ys))(hx:∀a (h:a<ys.length),ys[a]=g a)
   (hb:∀a,a<ys.length->PSs X body (dSA X.K ((T a).set r (.d (g a))) i (T (a+1)) (T (a+1)))) (hri:r≠i:=by decide)
   (hs:∀x,foldedSetIterable it X.env x=pure x:=by intro _; rfl) (hi':X.N[r]?=some n:=by rfl) (hl:Loc X.env.scope n:=by first | exact .inl rfl | exact .inr rfl)
   (hf:X.fn n=true\/X.env.scope.names.lookup n=some .local:=by first | exact .inl rfl | exact .inr rfl | assumption):PS X (.For (.Name n tp) it body [] pos) (dSA X.K (T 0) i (T ys.length) τc):=by
 have hb':PSs X body λD σ H=>∃a,a<ys.length/\dSA X.K ((T a).set r (.d (g a))) i (T (a+1)) (T (a+1)) D σ H:=λpins s σ H D I ⟨a,h,q⟩=>hb a h pins s σ H D I q;refine psW (t9 Bq.po hi (eF (i:=r) hN hi' hl hf) hb' hs) λD σ H ⟨A,H₀,B,S,fin,_⟩=>⟨A,H₀,B,S,λJ H1 e1 yl=>?_⟩;obtain⟨s0,S1⟩:=.(129).base;have sub:∀{H'},ao (hd H1 λb=>∃i,b∈B i) H'->ao (hd H1 (own A B)) H':=λe=>(aD .(102) λ_ z=>.inr z).trans e;refine⟨λa m σ' H'=>m=ys.length-a/\a<=ys.length/\∃B',Sta X.K A (hd H1 λb=>∃i,b∈B i) (T a) B' σ' H'/\σ'[i]?=σ[i]?,⟨ys.length,rfl,Im _,B,S1,rfl⟩,?_⟩;rintro a m σ' H' ⟨rfl,ha,B',S',q'⟩;obtain⟨y1,y2⟩:=yl H' (sub S'.same);by_cases hlt:a<ys.length
 . obtain⟨gg,y⟩:=y2 a hlt;refine .inr ⟨gg,λσ2 H2=>∃B2,Sta X.K A (hd H1 λb=>∃i,b∈B i) (T (a+1)) B2 σ2 H2/\σ2[i]?=σ[i]?,λσ2 H2 q=>⟨ys.length-(a+1),by omega,rfl,hlt,q⟩,λx H2 hy=>?_⟩;obtain⟨e2,dx⟩:=y x H2 hy;have S2:=S'.mono e2
   have dd:=dx (own A B') S'.dm (by
     intro b o z;obtain⟨z1,z2⟩:=ar.mp z;have z3:hd H1 (λb=>∃i,b∈B i) b=some o:=ar.mpr ⟨λy=>z1 (.inr y),z2⟩;refine ar.mpr ⟨λy=>?_,S'.same _ _ z3⟩;rcases y with y | ⟨l,y⟩
     . exact z1 (.inl y)
     . rw[S'.fr l b y]at z3; cases z3)
   rw[hx a hlt]at dd;have S3:=S2.set (i:=r) .(102) (bs:=[]) (λ_ z=>nomatch z) (jw dd);have ei:(σ'.set r (some x))[i]?=σ'[i]?:=Ik hri;refine⟨a,hlt,A,_,_,S3,λB3 σ3 H3 S4 q4=>⟨B3,S4,?_⟩,λB3 σ3 H3 S4 q4=>⟨B3,S4,?_⟩⟩ <;> rw[q4,ei,q']
 . have e:a=ys.length:=by omega
   subst e;exact .inl ⟨y1 _ .(3),fin B' σ' H' (S'.back s0 S.ad) q'⟩
def jv (h1:PS X st (dSA X.K τ 0 τ1 []))(h2:PSs X rest (dSR X.K τ1 xs s)):PSs X (st::rest) (dSR X.K τ xs s):=
 gH (d8 h1 h2) λ_ σ _ ⟨A,H₀,B,a,S,ea,fin⟩=>⟨A,H₀,B,S,λB' _ _ S' e=>⟨A,H₀,B',a,S',by rw[e]; exact ea,fin⟩,λ_ σ' _ S' e=>by
   have:σ'=[]:=List.eq_nil_of_length_eq_zero S'.len;rw[this]at e;rw[<- e]at ea;cases ea⟩
def zT {K:fw}{A:Addr->Prop}{H₀ H H':Hp}{B:Nat->List Addr}{σ:L2.St}{a:Addr}{ws:List V}{bs:List Addr}(S:Sta K A H₀ τ B σ H)(hB:B 0=[a])(e:ao H H')(f:∀b∈bs,H b=none\/∃i,b∈B i)(d:aw K .(138) ws xs):aw K (hd H' λb=>(A b\/b=a)\/b∈bs) ws xs:=d.mono λb o z=>by
 obtain⟨z1,z2⟩:=ar.mp z;refine ar.mpr ⟨λy=>?_,e _ _ z2⟩;rcases y with (y | y) | y
 . exact z1 (.inl y)
 . exact z1 (.inr ⟨0,by rw[hB,y]; exact gV.mpr rfl⟩)
 . rcases f b y with y | y
   . rw[y]at z2; cases z2
   . exact z1 (.inr y)
def xm (he:PE X e (dE X.K true τ s))(h0:τ[0]?=some (.o xs):=by rfl):PSs X (.Return (some e) pos::rest) (dSR X.K τ xs s):=
 gH (d8 (mS he) cE) λD σ H ⟨A,H₀,B,a,S,ea,fin⟩=>⟨A,H₀,B,S,λv H' bs e hf q=>by
   obtain⟨a',ws,hB,e1,e2,d⟩:=S.sl 0 _ h0;rw[ea]at e1;cases e1;refine fin v H' bs ws (S.same.trans e) (e _ _ e2) (zT S hB e (λb hb=>.inl (hf b hb).1) d) (λz=>?_) (λb hb=>⟨S.same.free (hf b hb).1,(hf b hb).2⟩) (q.mono (aD .(102) λb z=>?_) .(102))
   . have:=(hf a z).1;rw[e2]at this;cases this
   . rcases z with (z | z) | z
     . exact .inl (.inl z)
     . exact .inl (.inr ⟨0,by rw[hB,z]; exact gV.mpr rfl⟩)
     . exact .inr z⟩
def A3 (i:Nat){n:Str}(hi:τ[i]?=some s:=by rfl)(hi0:i≠0:=by decide)(h0:τ[0]?=some (.o xs):=by rfl)(hu:s≠.un:=by exact nofun)(hN:X.N[i]?=some n:=by rfl)(hv:Vis X.env.scope n:=by first | exact Ka rfl | exact Ji .(10) | exact Ji .(9))
   (hd1:(n==("__debug__" : Str))=false:=by decide) (hcd:(n==("__classdict__" : Str))=false:=by decide):PSs X (.Return (some .(108)) pos::rest) (dSR X.K τ xs s):=
 gH (d8 (mS (bw hN hv hd1 hcd)) cE) λD σ H ⟨A,H₀,B,a,S,ea,fin⟩=>by
   obtain⟨a',ws,hB,e1,e2,d⟩:=S.sl 0 _ h0;rw[ea]at e1;cases e1;have q:=S.sl i s hi
   obtain⟨u,e⟩:∃u,(σ[i]?).join=some u:=by
     cases s with
     | un=>exact absurd rfl hu
     | d x=>obtain⟨_,u,e,_⟩:=q; exact⟨u,e⟩
     | o xs=>obtain⟨_,_,_,e,_⟩:=q; exact⟨_,e⟩
     | n t=>obtain⟨_,u,e,_⟩:=q; exact⟨u,e⟩
     | x E=>obtain⟨_,_,_,e,_⟩:=q; exact⟨_,e⟩
   rw[e]at q;refine⟨u,slot_of e,fin u H (B i) ws S.same e2 (zT S hB .(102) (λb hb=>.inr ⟨i,hb⟩) d) (λz=>hi0 (S.uq i 0 a z (by rw[hB]; exact gV.mpr rfl))) (λb hb=>⟨S.fr i b hb,S.bd i b hb⟩) (q.mono (aD .(102) λb z=>?_) .(102))⟩;rcases z with (z | z) | z
   . exact .inl z
   . exact .inr ⟨0,by rw[hB,z]; exact gV.mpr rfl⟩
   . exact .inr ⟨i,z⟩
end
section
variable {P:FB}{w:World}{K:fw}{mg:Str->Option Value}{base:Heap}
def fnG {st:Stmt}{fd:Gc}{N ps:List Str}{Φ:List D->List D->List D->Sl->Prop}(F:Fun K x qual st f fd)(S:aJ N ps (av st))(hb:.(92))(len:∀xs ds xs' r,Φ xs ds xs' r->ds.length+1=ps.length)
   (body:∀xs ds xs' r,Φ xs ds xs' r->∀cdv A outer s H E0,Bk (Xc P w K mg base N qual st f cdv A outer s H E0) k->PSs (Xc P w K mg base N qual st f cdv A outer s H E0) (cZ st) (dSR K (.o xs::(ds.map .d++Ii (N.length-(ds.length+1)) .un)) xs' r)) :
   .(91) ps (spG K Φ):=by
 refine F.ok S (λvs H Q E ⟨M,a,ws,us,xs,ds,xs',r,hvs,_,_,_,_,dd,h,_⟩=>by rw[hvs,Ja,dd.length]; exact len _ ds _ r h) λcdv A outer s H vs Q E hr ⟨M,a,ws,us,xs,ds,xs',r,hvs,ma,ha,hd1,dw,dd,h,q⟩=>?_;subst hvs
 have ow:∀b,own (λb=>M b/\b≠a) (λi=>if i=0 then [a] else []) b↔M b:=λb=>by
   refine⟨λz=>z.elim (·.1) λ⟨i,z⟩=>?_,λz=>?_⟩
   . by_cases e:i=0
     . simp only[if_pos e]at z; rw[gV.mp z]; exact ma
     . simp only[if_neg e]at z; cases z
   . by_cases e:b=a
     . exact .inr ⟨0,by simp[e]⟩
     . exact .inl ⟨z,e⟩
 have hB:∀i b,b∈(if i=0 then [a] else []:List Addr)->i=0/\b=a:=λi b z=>by
   by_cases e:i=0
   . rw[if_pos e]at z; exact⟨e,gV.mp z⟩
   . rw[if_neg e]at z; cases z
 have vw:ao (Hy.hd H M) (Hy.hd H (own (λb=>M b/\b≠a) λi=>if i=0 then [a] else [])):=aD .(102) λb z=>(ow b).mp z;refine⟨_,body xs ds xs' r h cdv A outer s H E ⟨hr,rfl,hb,Mr⟩,λb=>M b/\b≠a,Hy.hd H (·=a),λi=>if i=0 then [a] else [],a,⟨aT,?_,λi s hi=>?_,λi b z=>?_,λi j b z1 z2=>((hB i b z1).1).trans ((hB j b z2).1).symm,λb z=>?_,λi b z=>⟨.lst ws,by rw[(hB i b z).2]; exact hd1⟩⟩,?_,λv H2 bs ws' e h2 d2 na fr z=>?_⟩
 . unfold L2.start;simp[dd.length]
 . have hl:=dd.length;unfold L2.start
   match i,hi with
   | 0,hi=>cases hi;exact⟨a,ws,rfl,rfl,hd1,dw.mono vw⟩
   | i+1,hi=>
     rw[List.getElem?_cons_succ]at hi;show cI K _ H ((((us.map some)++_)[i]?).join) _ s;by_cases hlt:i<ds.length
     . rw[HX (by simpa using hlt),Iy,ph hlt]at hi;cases hi;obtain⟨v,e,dv⟩:=dd.get (ph hlt);refine⟨rfl,v,?_,dv.mono vw⟩;rw[HX (by simpa[hl]using hlt),Iy,e];rfl
     . rw[IW (by simpa using hlt),LJ]at hi;split at hi
       . cases hi; rfl
       . cases hi
 . rw[(hB i b z).2];unfold Hy.hd;rw[if_pos rfl]
 . obtain⟨o,y⟩:=ha b z.1;exact⟨o,ar.mpr ⟨z.2,y⟩⟩
 . unfold L2.start;rfl
 . have mm:∀b,((M b/\b≠a)\/b=a)\/b∈bs↔(M b\/b∈bs):=λb=>by
     constructor
     . rintro((⟨y,_⟩ | y) | y)
       . exact .inl y
       . rw[y]; exact .inl ma
       . exact .inr y
     . rintro(y | y)
       . by_cases e:b=a
         . exact .inl (.inr e)
         . exact .inl (.inl ⟨y,e⟩)
       . exact .inr y
   refine q v H2 bs ws' (λb o ne y=>e b o (ar.mpr ⟨ne,y⟩)) h2 (d2.mono (aD .(102) λb y=>(mm b).mpr (.inl y))) (λb hb=>⟨?_,(fr b hb).2⟩) (z.mono (aD .(102) λb y=>(mm b).mpr y) .(102));have y:=(fr b hb).1;unfold Hy.hd at y;rw[if_neg (show ¬b=a from λe=>na (e▸hb))]at y;exact y
end
section
variable {K:fw}{A:Addr->Prop}{H₀ H H':Hp}{τ:List Sl}{B:Nat->List Addr}{σ:L2.St}
def Sta.HF (S:Sta K A H₀ τ B σ H)(hi:τ[i]?=some (.o xs))(hB:B i=[a])(e:But a H H')(ho:H' a=some (.lst ws'))(d:aw K (hd H' (own A B)) ws' xs'):Sta K A H₀ (τ.set i (.o xs')) B σ H':=by
 have hid:Hid (own A B) H a:=S.hid hB;have sm:ao .(138) (hd H' (own A B)):=e.hd hid.1;have f0:H₀ a=none:=S.fr i a (by rw[hB]; exact gV.mpr rfl);have hs:ao H₀ H':=λb o z=>e b o (λq=>by rw[q,f0]at z; cases z) (S.same b o z);refine⟨hs,by rw[Iz,S.len],λj t hj=>?_,S.fr,S.uq,S.ad,λj b hb=>(hid.but e ⟨_,ho⟩).2 b (.inr ⟨j,hb⟩)⟩;by_cases ej:j=i
 . subst ej;have hl:=(tf.mp hi).1;rw[IH hl]at hj;cases hj;obtain⟨a',vs,e1,e2,_,_⟩:=S.sl j _ hi;rw[hB]at e1;cases e1;exact⟨a,ws',hB,e2,ho,d⟩
 . rw[Ik (λz=>ej z.symm)]at hj;have off:∀b∈B j,b≠a:=λb hb e=>ej (S.uq j i a (e▸hb) (by rw[hB]; exact gV.mpr rfl));have ne:∀b∈B j,H' b=H b:=λb hb=>by obtain⟨o,q⟩:=S.bd j b hb;rw[q];exact e b o (off b hb) q
   exact(S.sl j t hj).frame sm ne
end
def dEO (K:fw)(τ:List Sl)(j:Nat)(xs':List D)(s:Sl):TE:=λσ H Q=>∃A H₀ B,Sta K A H₀ τ B σ H/\∀v H' bs,Sta K A H₀ (τ.set j (.o xs')) B σ H'->cI K (hd H' λb=>own A B b\/b∈bs) H' (some v) bs s->Q v H'
section
variable {X:Cx}{τ τc:List Sl}{x z:D}{a b e o ix:Expr}{es:List Expr}{pos p q:Pos}{l k:Nat}{s:Sl}{N:Po}{rest:List Stmt}{i j m:Nat}{xs xs' ys zs ds:List D}
def jJ (j:Nat){n nk:Str}{Φ:List D->List D->List D->Sl->Prop}(Bb:Bk X k)(cl:t5 X.prog X.w X.K X.mg X.base k n (spG X.K Φ))(hΦ:Φ xs ds xs' s)(ha:PA X es (dA X.K true τ ds))(hi:τ[j]?=some (.o xs):=by rfl)(hN:X.N[j]?=some nk:=by rfl)
   (hv:Vis X.env.scope nk:=by first | exact Ka rfl | exact Ji .(10) | exact Ji .(9)) (hd1:(nk==("__debug__" : Str))=false:=by decide) (hcd:(nk==("__classdict__" : Str))=false:=by decide)
   (hg:Gl X n:=by rfl) (hdb:(n==("__debug__" : Str))=false:=by decide) (he:Do (.Name nk q::es) X.env=(false,eval (.Name nk q) X.env)::Do es X.env:=by rfl) (hpl:(KF pos (Do es X.env)).any (·.1)=false:=by rfl) :
   PE X (.Call .(108) (.Name nk q::es) [] pos) (dEO X.K τ j xs' s):=by
 obtain⟨f,fd,ps,F,hm,hk,hb⟩:=cl;refine peW (vI F Bb.room hg hm hk hb .nil Cv (bh (bw (i:=j) hN hv hd1 hcd) ha he) hdb he hpl) λσ H Q ⟨A,H₀,B,S,kk⟩=>?_;obtain⟨a,vs,hB,e1,e2,d⟩:=S.sl j _ hi;refine⟨_,slot_of e1,fO S λus H1 f1 d1=>?_⟩;have S1:=S.mono f1;obtain⟨a',vs1,hB1,g1,g2,dd⟩:=S1.sl j _ hi;rw[e1]at g1;cases g1;show spG X.K Φ (_++[]) _ _ _;rw[Jc];exact⟨own A B,a,vs1,us,xs,ds,xs',s,rfl,.inr ⟨j,by rw[hB]; exact gV.mpr rfl⟩,S1.dm,g2,dd,d1,hΦ,λv H' bs ws' bt h' d' _ z=>kk v H' bs (S1.HF hi hB bt h' d') z⟩
def tF (i j:Nat){n:Str}{ap cp:Pos}(he:PE X e (dEO X.K τ j xs' (.o ys)))(hl:zs.length+ys.length<1000000)(hr:PSs X rest (dS X.K ((τ.set j (.o xs')).set i (.o (zs++ys))) N))(hij:j≠i:=by decide)(hi:τ[i]?=some (.o zs):=by rfl)(hN:X.N[i]?=some n:=by rfl)
   (hv:Vis X.env.scope n:=by first | exact Ka rfl | exact Ji .(10) | exact Ji .(9)) (hd:(n==("__debug__" : Str))=false:=by decide) (hcd:(n==("__classdict__" : Str))=false:=by decide)
   (hfew:((KF cp (Do [e] X.env)).all (λx=>!x.1)&&(NO cp (N8 [] X.env)).all (λx=>x.1.isSome)&&decide (([e]:List Expr).length+([]:List N6).length+(if ([]:List N6).isEmpty then 0 else 1)<30))=true:=by rfl)
   (hline:(ap.endLine==cp.line)=true:=by rfl) (hst:Do [e] X.env=.(113)::Do [] X.env:=by rfl) (hpl:(KF cp (Do [] X.env)).any (·.1)=false:=by rfl)
   (hs:N1 .(148) none pos.line X.env=pure false:=by rfl) (hbase:N4 .(108) "extend" X.env (eval .(108) X.env)=eval .(108) X.env:=by rfl) :
   PSs X (.Expr .(148) pos::rest) .(114):=
 bB (M:=(·=(τ.set j (.o xs')).set i (.o (zs++ys)))) (psW .(137) λD σ H ⟨A,H₀,B,S,Me⟩=>by
   obtain⟨l,vs,hb,e1,e2,d⟩:=S.sl i _ hi;refine⟨_,slot_of e1,.inl ⟨rfl,_,SqL.of e2⟩,A,H₀,B,S,λv H1 bs S2 ⟨l2,ws,eb,ev,h2,d2⟩=>?_⟩;cases ev;have hi2:(τ.set j (.o xs'))[i]?=some (.o zs):=by rw[Ik hij]; exact hi
   obtain⟨l',vs',hb',e1',e2',d'⟩:=S2.sl i _ hi2;rw[e1]at e1';cases e1';have lim:1000000<=sizeLine:=by decide
   refine⟨l,l2,vs',ws,rfl,rfl,e2',h2,by rw[d'.length,d2.length]; omega,?_⟩;exact Me.nx _ _ _ _ rfl (S2.put hi2 hb' (d'.append (d2.mono (aD .(102) λ_ z=>.inl z))))) λ_ e=>e▸hr
def Fb (r:Nat){n:Str}{ap cp:Pos}(he:PE X e (dEO X.K τ i xs' (.o ys)))(hl:zs.length+ys.length<1000000)(hij:i≠r:=by decide)(hi:τ[r]?=some (.o zs):=by rfl)(hN:X.N[r]?=some n:=by rfl)
   (hv:Vis X.env.scope n:=by first | exact Ka rfl | exact Ji .(10) | exact Ji .(9)) (hd:(n==("__debug__" : Str))=false:=by decide) (hcd:(n==("__classdict__" : Str))=false:=by decide)
   (hfew:((KF cp (Do [e] X.env)).all (λx=>!x.1)&&(NO cp (N8 [] X.env)).all (λx=>x.1.isSome)&&decide (([e]:List Expr).length+([]:List N6).length+(if ([]:List N6).isEmpty then 0 else 1)<30))=true:=by rfl)
   (hline:(ap.endLine==cp.line)=true:=by rfl) (hst:Do [e] X.env=.(113)::Do [] X.env:=by rfl) (hpl:(KF cp (Do [] X.env)).any (·.1)=false:=by rfl)
   (hs:N1 .(148) none pos.line X.env=pure false:=by rfl) (hbase:N4 .(108) "extend" X.env (eval .(108) X.env)=eval .(108) X.env:=by rfl) :
   PS X (.Expr .(148) pos) (dSA X.K τ i ((τ.set i (.o xs')).set r (.o (zs++ys))) τc):=
 psW .(137) λD σ H ⟨A,H₀,B,S,fn,_⟩=>by
   obtain⟨l,vs,hb,e1,e2,d⟩:=S.sl r _ hi;refine⟨_,slot_of e1,.inl ⟨rfl,_,SqL.of e2⟩,A,H₀,B,S,λv H1 bs S2 ⟨l2,ws,eb,ev,h2,d2⟩=>?_⟩;cases ev;have hi2:(τ.set i (.o xs'))[r]?=some (.o zs):=by rw[Ik hij]; exact hi
   obtain⟨l',vs',hb',e1',e2',d'⟩:=S2.sl r _ hi2;rw[e1]at e1';cases e1';have lim:1000000<=sizeLine:=by decide
   refine⟨l,l2,vs',ws,rfl,rfl,e2',h2,by rw[d'.length,d2.length]; omega,?_⟩;exact fn _ _ _ (S2.put hi2 hb' (d'.append (d2.mono (aD .(102) λ_ z=>.inl z)))) rfl
def DM (r:Nat){n:Str}{ap cp:Pos}(he:PE X e (dEO X.K τ i xs' (.d x)))(hl:zs.length<1000000)(hij:i≠r:=by decide)(hi:τ[r]?=some (.o zs):=by rfl)(hN:X.N[r]?=some n:=by rfl)
   (hv:Vis X.env.scope n:=by first | exact Ka rfl | exact Ji .(10) | exact Ji .(9)) (hd:(n==("__debug__" : Str))=false:=by decide) (hcd:(n==("__classdict__" : Str))=false:=by decide)
   (hfew:((KF cp (Do [e] X.env)).all (λx=>!x.1)&&(NO cp (N8 [] X.env)).all (λx=>x.1.isSome)&&decide (([e]:List Expr).length+([]:List N6).length+(if ([]:List N6).isEmpty then 0 else 1)<30))=true:=by rfl)
   (hline:(ap.endLine==cp.line)=true:=by rfl) (hst:Do [e] X.env=.(113)::Do [] X.env:=by rfl) (hpl:(KF cp (Do [] X.env)).any (·.1)=false:=by rfl)
   (hs:N1 .(149) none pos.line X.env=pure false:=by rfl) (hbase:N4 .(108) "append" X.env (eval .(108) X.env)=eval .(108) X.env:=by rfl) :
   PS X (.Expr .(149) pos) (dSA X.K τ i ((τ.set i (.o xs')).set r (.o (zs++[x]))) τc):=
 psW (dJ (jz Jf KJ Lm fK (bw hN hv hd hcd) (bh he cw hst) hbase hfew hline hst hpl) hs) λD σ H ⟨A,H₀,B,S,fn,_⟩=>by
   obtain⟨l,vs,hb,e1,e2,d⟩:=S.sl r _ hi;refine⟨_,slot_of e1,.inl ⟨rfl,_,SqL.of e2⟩,A,H₀,B,S,λv H1 bs S2 ⟨_,u,eu,d2⟩=>?_⟩;cases eu;have hi2:(τ.set i (.o xs'))[r]?=some (.o zs):=by rw[Ik hij]; exact hi
   obtain⟨l',vs',hb',e1',e2',d'⟩:=S2.sl r _ hi2;rw[e1]at e1';cases e1';refine⟨l,vs',v,rfl,rfl,e2',by rw[d'.length]; exact JA hl .(2),?_⟩;exact fn _ _ _ (S2.put hi2 hb' (d'.append (.cons (d2.mono (aD .(102) λ_ z=>.inl z)) .nil))) rfl
def Gk {n:Str}{m:Int}{j:Nat}{ix:Expr}{sp:Pos}(hx:PE X ix (dE X.K false τ (.d (.int m))))(he:PE X e (dE X.K true τ (.d x)))(hj:ixN xs.length m=some j)(hi:τ[i]?=some (.o xs):=by rfl)(hN:X.N[i]?=some n:=by rfl)
   (hv:Vis X.env.scope n:=by first | exact Ka rfl | exact Ji .(10) | exact Ji .(9)) (hd:(n==("__debug__" : Str))=false:=by decide) (hcd:(n==("__classdict__" : Str))=false:=by decide)
   (hs:NL [.Subscript .(108) ix sp] e pos.line X.env=pure false:=by rfl) (hw:NM [.Subscript .(108) ix sp] e X.env=pure none:=by rfl) (h1:(KM [.Subscript .(108) ix sp] X.env).map (·.2)=[assign (.Subscript .(108) ix sp) X.env]:=by rfl)
   (ha:∀v,assign (.Subscript .(108) ix sp) X.env v=(do
     let ov <- N3 [v] (eval .(108) X.env)
     let iv <- N3 [v,ov] (eval ix X.env)
     O1 sp
     N3 [v,ov,iv] (O2 ov iv v)
     Of [v,ov,iv] []):=by intro _; rfl) :
   PS X (.Assign [.Subscript .(108) ix sp] e pos) (dSA X.K τ i (τ.set i (.o (xs.set j x))) τc):=
 psW (jM he (iM (bw hN hv hd hcd) hx set_list ha) hs hw h1) λD σ H ⟨A,H₀,B,S,fn,_⟩=>aV S λv H1 e1 d1=>by obtain⟨l,vs,hb,f1,f2,d⟩:=.(129).sl i _ hi;refine⟨_,slot_of f1,aV .(129) λw H2 e2 d2=>?_⟩;cases d2;refine⟨l,vs,m,j,rfl,rfl,e2 _ _ f2,by rw[d.length]; exact hj,?_⟩;exact fn _ _ _ ((.(129).mono e2).put hi hb (fZ j (d.mono (aD e2 λ_ z=>z)) (d1.mono (aD e2 λ_ z=>z)))) rfl
def FU {n:Str}{xs:List D}{ap cp ap2 cp2:Pos}{k j:Nat}(x:D)(ha:PE X a (dE X.K false τ (.d (.int (k:Nat)))))(hb:PE X b (dE X.K false τ (.d (.int (j:Nat)))))(hj:xs[j]?=some x)(hk:k<xs.length)(hl:xs.length<1000000)(hi:τ[i]?=some (.o xs):=by rfl)(hN:X.N[i]?=some n:=by rfl)
   (hv:Vis X.env.scope n:=by first | exact Ka rfl | exact Ji .(10) | exact Ji .(9)) (hd:(n==("__debug__" : Str))=false:=by decide) (hcd:(n==("__classdict__" : Str))=false:=by decide)
   (hfew:((KF cp (Do [a,.Call .(117) [b] [] cp2] X.env)).all (λx=>!x.1)&&(NO cp (N8 [] X.env)).all (λx=>x.1.isSome)&&decide (([a,.Call .(117) [b] [] cp2]:List Expr).length+([]:List N6).length+(if ([]:List N6).isEmpty then 0 else 1)<30))=true:=by rfl)
   (hline:(ap.endLine==cp.line)=true:=by rfl) (hst:Do [a,.Call .(117) [b] [] cp2] X.env=.(121)::Do [.Call .(117) [b] [] cp2] X.env:=by rfl)
   (hst2:Do [.Call .(117) [b] [] cp2] X.env=(false,eval (.Call .(117) [b] [] cp2) X.env)::Do [] X.env:=by rfl) (hpl:(KF cp (Do [.Call .(117) [b] [] cp2] X.env)).any (·.1)=false:=by rfl)
   (hs:N1 (.Call (.Attribute .(108) "insert" ap) [a,.Call .(117) [b] [] cp2] [] cp) none pos.line X.env=pure false:=by rfl) (hbase:N4 .(108) "insert" X.env (eval .(108) X.env)=eval .(108) X.env:=by rfl)
   (hfew2:((KF cp2 (Do [b] X.env)).all (λx=>!x.1)&&(NO cp2 (N8 [] X.env)).all (λx=>x.1.isSome)&&decide (([b]:List Expr).length+([]:List N6).length+(if ([]:List N6).isEmpty then 0 else 1)<30))=true:=by rfl) (hline2:(ap2.endLine==cp2.line)=true:=by rfl)
   (hst3:Do [b] X.env=(false,eval b X.env)::Do [] X.env:=by rfl) (hpl2:(KF cp2 (Do [] X.env)).any (·.1)=false:=by rfl) (hbase2:N4 (.Name n q) "pop" X.env (eval (.Name n q) X.env)=eval (.Name n q) X.env:=by rfl) :
   PS X (.Expr (.Call (.Attribute .(108) "insert" ap) [a,.Call .(117) [b] [] cp2] [] cp) pos) (dSA X.K τ i (τ.set i (.o ((xs.eraseIdx j).insertIdx k x))) τc):=
 psW (dJ (jz Jf Ln MU nE (bw hN hv hd hcd)
     (bh ha (bh (jz Jf PySem.F.slot_list_pop PySem.F.type_list_pop xZ (bw hN hv hd hcd) (bh hb cw hst3) hbase2 hfew2 hline2 hst3 hpl2) cw hst2) hst) hbase hfew hline hst hpl) hs) λDn σ H ⟨A,H₀,B,S,fn,_⟩=>by
   obtain⟨l,vs,hbb,e1,e2,d⟩:=S.sl i _ hi;have hjl:j<xs.length:=(tf.mp hj).1;refine⟨_,slot_of e1,.inl ⟨rfl,_,SqL.of e2⟩,aV S λw1 H1 f1 g1=>?_⟩;cases g1;have S1:=S.mono f1;refine⟨_,slot_of e1,.inl ⟨rfl,_,SqL.of (f1 _ _ e2)⟩,aV S1 λw2 H2 f2 g2=>?_⟩;cases g2;have S2:=S1.mono f2;obtain⟨l',vs',hb',e1',e2',d'⟩:=S2.sl i _ hi;rw[e1]at e1';cases e1';have hln:=d'.length;obtain⟨v,hv1,dv⟩:=d'.get hj;refine⟨l,vs',(j:Int),j,v,rfl,rfl,e2',by omega,by omega,PySem.StrLaws.seqIndex_nonneg .(0) .(0),hv1,?_⟩;have hel:(vs'.eraseIdx j).length=xs.length-1:=by rw[JY .(0),hln]
   refine⟨l,vs'.eraseIdx j,(k:Int),v,rfl,rfl,aN,by omega,by rw[HW]; omega,by rw[hel]; have:sizeLine>1000000:=.(2); omega,?_⟩;rw[HW];have eu:upd (upd H2 l (.lst (vs'.eraseIdx j))) l (.lst ((vs'.eraseIdx j).insertIdx k v))=upd H2 l (.lst ((vs'.eraseIdx j).insertIdx k v)):=by funext z;unfold upd;split <;> rfl
   rw[eu];exact fn _ _ _ (S2.put hi hb' (uN dv k (nH j d'))) rfl
end
end Hy
namespace K33
open PySem PySem.Spec PyProof.Rows L2 Hy
open Ev (D Den aw aI aK)
def iR (xs ds xs':List D)(r:Sl):Prop:=∃(n i kk M:Nat) (g:Nat->Nat->Rat),xs=(mkT n n g).map rwQ/\ds=[.int ((i+1:Nat):Int),.int (kk:Nat)]/\i+1<n/\kk<n/\n<=7/\g i kk≠0/\Sz n M g/\4*M<=900000/\xs'=(mkT n n (tkF g i kk)).map rwQ/\r=.d (stD ("up",i,g (i+1) kk/g i kk))
def GJ (hi:i+1<n):((mkT n n g).map rwQ).set (i+1) (rwQ ((ox n).map λb=>g (i+1) b-g (i+1) kk/g i kk*g i b))=(mkT n n (tkF g i kk)).map rwQ:=by
 refine Jw (by simp[mkT]) λx h1 h2=>?_;rw[List.getElem_set];by_cases e:i+1=x
 . subst e;have:tkF g i kk (i+1)=λb=>g (i+1) b-g (i+1) kk/g i kk*g i b:=by funext b;unfold tkF;rw[if_pos rfl]
   rw[if_pos rfl];simp[mkT,this]
 . have:tkF g i kk x=g x:=by funext b;unfold tkF;rw[if_neg (Je e)]
   rw[if_neg e];simp[mkT,this]
section
variable {P:FB}{w:World}{K:fw}{mg:Str->Option Value}{base:Heap}{k:Nat}{f:Addr}{fd:Gc}{qual:Str}
def rW (F:Fun K "take_off" qual (top 40) f fd)(hb:.(92))(c_quotient_of:.(90) "quotient_of" fg)(c_rest_of:.(90) "rest_of" j3)(c_product_of:.(90) "product_of" dF):.(91) ["grid","i","k"] (spG K iR):=by
 refine fnG F ku hb (by rintro _ _ _ _ ⟨_,_,_,_,_,_,rfl,_⟩; rfl) ?_;rintro _ _ _ _ ⟨n,i,kk,M,g,rfl,rfl,hi,hk,h7,nz,sz,hM,rfl,rfl⟩ cdv A outer s H E b;have nd:=ku.nd;have ei:((i+1:Nat):Int)-1=(i:Nat):=by omega
 have s1:=sz (i+1) hi kk hk;have s2:=sz i .(0) kk hk;have sw:=s1.div s2 nz;refine jv (CF 3 nd (x_call b c_quotient_of (ae (aL (fJ (xs:=(mkT n n g).map rwQ) 0 (aa 1) (jn hi)) (aa 2) (aY (iL hk))) (ae (aL (fJ (xs:=(mkT n n g).map rwQ) 0 (aE (aa 1) af cA) (by rw[ei]; exact jn (i:=i) .(0))) (aa 2) (aY (iL hk))) ag)) ⟨M,M,g (i+1) kk,g i kk,rfl,nz,s1,s2,by omega,rfl⟩)) ?_;refine jv (Gk (i:=0) (xs:=(mkT n n g).map rwQ) (m:=((i+1:Nat):Int)) (j:=i+1) (x:=rwQ ((ox n).map λb=>g (i+1) b-g (i+1) kk/g i kk*g i b)) (aa 1) (bf (dD (Ac 0 1 (f:=λb=>frD (g (i+1) b-g (i+1) kk/g i kk*g i b)) b (qZ b (fJ (xs:=(mkT n n g).map rwQ) 0 (aa 1) (jn hi)) (fJ (xs:=(mkT n n g).map rwQ) 0 (aE (aa 1) af cA) (by rw[ei]; exact jn (i:=i) .(0)))) Ha (by rw[bQ,bp,bp,bp,IQ]; omega) λj hj s0 H0 fp=>?_)) ?_) (by rw[eY]; exact cN hi)) ?_
 . rw[bQ,bp,bp,bp,bp,IQ]at hj;have hj:j<n:=by omega
   have e1:((ox n).map (g (i+1))).getD j 0=g (i+1) j:=by simp[hj]
   have e2:((ox n).map (g i)).getD j 0=g i j:=by simp[hj]
   rw[e1,e2];have s3:=sz (i+1) hi j hj;have s4:=sz i .(0) j hj;exact x_call .(107) c_rest_of (ae (aa 0) (ae (x_call .(107) c_product_of (ae (aa 2) (ae (aa 1) ag)) ⟨M+M,M,_,_,rfl,sw,s4,by omega,rfl⟩) ag)) ⟨M,M+M+M,_,_,rfl,s3,sw.mul s4,by omega,rfl⟩
 . refine congrArg (λl=>some (D.lst l)) ?_;rw[bQ,bp,bp,bp,bp,IQ,Nat.min_self,IC];rfl
 rw[show stD ("up",i,g (i+1) kk/g i kk)=D.tup [.str "up",.int (((i+1:Nat):Int)-1),frD (g (i+1) kk/g i kk)] by unfold stD; rw[ei]];refine xm (bO (ae bZ (ae (aE (aa 1) af cA) (ae (aa 3) ag)))) ?_;exact congrArg (λl=>some (Sl.o l)) (GJ hi)
end
def Mk1 (K:fw)(mg:Str->Option Value)(n:Str)(i j:Int):Prop:=∃a,mg n=some (.ref a)/\∀H,SqT K H a [.int i,.int j]
def q9 {X:Cx}{C:Bool}{τ:List Sl}{pos:Pos}{n:Str}{i j:Int}(h:Mk1 X.K X.mg n i j)(hg:Gl X n:=by rfl)(hd:(n==("__debug__" : Str))=false:=by decide):PE X (.Name n pos) (dE X.K C τ (.d (.tup [.int i,.int j]))):=by obtain⟨a,hm,hb⟩:=h;exact nB (ux (v:=.ref a) hg hm rfl hd) λH=>.tup (hb H) (.cons .int (.cons .int .nil))
def i5 (xs ds xs':List D)(r:Sl):Prop:=∃(n i:Nat) (g:Nat->Nat->Rat),xs=(mkT n n g).map rwQ/\ds=[.int ((i+1:Nat):Int)]/\i+1<n/\n<=7/\xs'=(mkT n n (lfF g i)).map rwQ/\r=.o [stD ("weigh",i,0),stD ("up",i,1)]
def FH (hi:i+1<n):(((mkT n n g).map rwQ).eraseIdx (i+1)).insertIdx i (rwQ ((ox n).map (g (i+1))))=(mkT n n (lfF g i)).map rwQ:=by
 have l1:(((mkT n n g).map rwQ).eraseIdx (i+1)).length=n-1:=by rw[JY (by rw[eY]; exact hi),eY]
 refine Jw ?_ λx h1 h2=>?_
 . rw[L5,l1,eY,if_pos .(0)]; omega
 . have hx:x<n:=by rw[eY]at h2; exact h2
   have gg:∀y (h:y<((mkT n n g).map rwQ).length),((mkT n n g).map rwQ)[y]=rwQ ((ox n).map (g y)):=λy h=>by simp[mkT]
   have r2:((mkT n n (lfF g i)).map rwQ)[x]=rwQ ((ox n).map (g (swp i x))):=by simp[mkT];rfl
   rw[r2,List.getElem_insertIdx];split
   . rename_i q;rw[List.getElem_eraseIdx,dif_pos .(0),gg,fT .(0) .(0)]
   . split
     . rename_i q;rw[q,oX]
     . rename_i q1 q2;rw[List.getElem_eraseIdx];by_cases e:x=i+1
       . rw[dif_pos .(0),gg,e,j4];rfl
       . rw[dif_neg .(0),gg,fT .(0) e,show x-1+1=x by omega]
section
variable {P:FB}{w:World}{K:fw}{mg:Str->Option Value}{base:Heap}{k:Nat}{f:Addr}{fd:Gc}{qual:Str}
def qp (F:Fun K "lift_row" qual (top 39) f fd)(hb:.(92))(y_NOUGHT:Mk1 K mg "NOUGHT" 0 1)(y_ONE:Mk1 K mg "ONE" 1 1):.(91) ["grid","i"] (spG K i5):=by
 refine fnG F ky hb (by rintro _ _ _ _ ⟨_,_,_,_,rfl,_⟩; rfl) ?_;rintro _ _ _ _ ⟨n,i,g,rfl,rfl,hi,h7,rfl,rfl⟩ cdv A outer s H E b;have nd:=ky.nd;have ei:((i+1:Nat):Int)-1=(i:Nat):=by omega
 have g0:((mkT n n g).map rwQ)[i+1]?=some (rwQ ((ox n).map (g (i+1)))):=by rw[ph (by rw[eY]; exact hi)];simp[mkT]
 refine jv (FU (i:=0) (xs:=(mkT n n g).map rwQ) (k:=i) (j:=i+1) (rwQ ((ox n).map (g (i+1)))) (by rw[<- ei]; exact aE (aa 1) af cA) (aa 1) g0 (by rw[eY]; omega) (by rw[eY]; omega)) ?_;rw[show stD ("weigh",i,0)=D.tup [.str "weigh",.int (((i+1:Nat):Int)-1),.tup [.int 0,.int 1]] by unfold stD; rw[ei]; rfl,show stD ("up",i,1)=D.tup [.str "up",.int (((i+1:Nat):Int)-1),.tup [.int 1,.int 1]] by unfold stD; rw[ei]; rfl];refine xm (ck (ae (bO (ae bZ (ae (aE (aa 1) af cA) (ae (q9 y_NOUGHT) ag)))) (ae (bO (ae bZ (ae (aE (aa 1) af cA) (ae (q9 y_ONE) ag)))) ag))) ?_;exact congrArg (λl=>some (Sl.o l)) (FH hi)
end
end K33
namespace Ev
open PySem PySem.Spec PyProof.Rows L2
open PySem.Builtin.Range (rangeSize)
noncomputable def Itg (m:Int)(n:Nat):L2.It:=⟨λi _=>i<n,λi H x H'=>H'=H/\x=.int (m-(i:Nat)),λi _=>n<=i⟩
def E9 {P:FB}{w:World}{K:fw}{tg:Expr}(it:Addr)(m:Int)(n:Nat):Turn P w K false tg (Itg m n) [it] it (λi h=>i<=n/\NR h it (m+(i:Nat)*(-1)) ((n:Int)-(i:Nat)) (-1)) where
 mem:=by simp
 obj:=λi h st b hb=>by
   have e:b=it:=by simpa using hb
   subst e
   exact⟨_,st.2,λv z=>by
     have z':Data.fields _=Data.cell v:=z;cases z'⟩
 keep:=λi h h' st k=>⟨st.1,k it .(4) _ st.2⟩
 item:=by intro X hP hw hK hc i pins s σ H E I hf st hg;subst hP hw hK;obtain⟨f0,f1,f2,f3,f4,f5⟩:=hf it .(4);have W:=MO (prog:=X.prog) (w:=X.w) (I.ok.hd hc.calm) it m (-1) n;refine W.item i s _ _ hg st.2 λv h' tk hv st' kk=>?_;obtain⟨t,rfl⟩:=hv;have I1:Inv X pins σ H { s with heap:=h',toks:=tk }:=I.turned (λb o hb e=>kk b o (by simpa using hb) e) f0 f1 f3 f4 f5;refine⟨_,rfl,kg (s:={ s with heap:=h',toks:=tk }) (n:="range_iterator") st' rfl rfl .(2) ⟨.int (m-(i:Nat)),H,I1,⟨t,?_⟩,⟨rfl,rfl⟩,⟨hg,st'⟩,λb hb=>(hf b hb).1⟩⟩;rw[Int.mul_neg,Int.mul_one,<- Int.sub_eq_add_neg]
 done:=by intro X hP hw hK hc i pins s σ H E I hf st hg;subst hP hw hK;obtain⟨f0,f1,f2,f3,f4,f5⟩:=hf it .(4);have hg:n<=i:=hg;obtain rfl:i=n:=Nat.le_antisymm st.1 hg;have W:=MO (prog:=X.prog) (w:=X.w) (I.ok.hd hc.calm) it m (-1) i;exact W.done s _ _ st.2 λh' tk kk=>⟨rfl,I.turned (λb o hb e=>kk b o (by simpa using hb) e) f0 f1 f3 f4 f5⟩
 self:=λ_ _ _ _ _ st h=>NS st.2 h
def uM {m j:Int}{n:Nat}(h:m-j=n):rangeSize m j (-1)=n:=by unfold rangeSize;rw[if_neg .(0),Int.neg_neg,Lw];split <;> omega
def yB {m j:Int}{n:Nat}(h:m-j=n)(h1:-(2^60)<=m/\m<2^60/\-(2^60)<=j/\j<2^60):Builtin.Range.small m j (-1)=true:=by unfold Builtin.Range.small;rw[uM h];simp only[Builtin.Range.rangeFitsLong,IS,Bool.or_eq_true,decide_eq_true_eq,beq_iff_eq];simp;omega
section
variable {X:Cx}{tg:Expr}
def FO (ta:TA):TI:=λσ H R=>ta σ H λvs H1=>∃(i j:Int) (n:Nat),vs=[.int i,.int j,.int (-1)]/\(-(2^30)<=i/\i<2^30/\-(2^30)<=j/\j<2^30)/\i-j=n/\R (Itg i n) H1
def oG {a b c:Expr}{ta:TA}{p pos:Pos}(hc:X.calm=true)(hg:Gl X "range")(hm:X.mg "range" = none)(ha:PA X [a,b,c] ta)(hs:Do [a,b,c] X.env=.(121)::Do [b,c] X.env:=by rfl)(hs2:Do [b,c] X.env=(false,eval b X.env)::Do [c] X.env:=by rfl)(hs3:Do [c] X.env=[(false,eval c X.env)]:=by rfl):
   PI X tg (.Call (.Name "range" p) [a,b,c] [] pos) (FO ta):=by
 intro pins s σ H R I h;refine Call_ (dM I hg hm boot_range (IP (thn .(133) λus s1 ⟨vs,H1,I1,r1,q1⟩=>?_) hs (by rw[hs2,hs3]; rfl)));obtain⟨i,j,n,e,⟨q1,q2,q3,q4⟩,en,q⟩:=q1;subst e;cases r1 with
 | cons r rr=>
   cases rr with
   | cons r' rr=>
     cases rr with
     | cons r'' rr=>
       cases rr;obtain⟨t,rfl⟩:=r;obtain⟨t',rfl⟩:=r';obtain⟨t'',rfl⟩:=r'';refine call_range_3 .(2) ?_ (Ka (PyProof.noPylong_small .(0)));refine wpAny_pyIter_range (Nv ..) (yB en .(19)) ?_;have I2:Inv X pins σ H1 { s1 with heap:=s1.heap.push { cls:=.type "range",data:=.fields #[.int i t,.int j t',.int (-1) t''] },toks:=s1.toks }:=I1.kept λb o e=>pq _ e
       refine⟨false,(s1.heap.push { cls:=.type "range",data:=.fields #[.int i t,.int j t',.int (-1) t''] }).objs.size,[(s1.heap.push { cls:=.type "range",data:=.fields #[.int i t,.int j t',.int (-1) t''] }).objs.size],_,_,H1,rfl,
         I2.kept (t':=s1.toks) λb o e=>pq _ e,.inl hc,E9 _ i n,⟨Im _,?_⟩,λb hb=>?_,q⟩
       . have e1:i+((0:Nat):Int)*(-1)=i:=by simp
         have e2:((n:Nat):Int)-((0:Nat):Int)=Mv i j (-1):=(by rw[uM en]; simp);rw[e1,e2];exact Ib _ rfl
       . have e:b=(s1.heap.push { cls:=.type "range",data:=.fields #[.int i t,.int j t',.int (-1) t''] }).objs.size:=by simpa using hb
         subst e;exact I2.kG .(3) (I2.hok.fresh .(3))
end
end Ev
namespace Hy
open PySem PySem.Spec PyProof.Rows L2
open Ev (D Den aw aq a5 aR Itg oG)
noncomputable def qF (m:Int)(n:Nat):List D:=(ox n).map λk=>D.int (m-(k:Nat))
def fF (m:Int)(n:Nat):(qF m n).length=n:=by simp[qF]
def vA (m:Int)(n i:Nat)(h:i<(qF m n).length):(qF m n)[i]=.int (m-(i:Nat)):=by simp[qF]
def Ax {K:fw}(m:Int)(n:Nat):Yl K (Itg m n) (qF m n) G:=by
 intro H sg;refine⟨λi hi=>by rw[fF]at hi; exact hi,λi hi=>?_⟩;have hi':i<n:=by rw[fF]at hi; exact hi
 refine⟨hi',λx H' ⟨e1,e2⟩=>?_⟩;subst e1 e2;refine⟨ao.refl _,λM _ sv=>?_⟩;rw[vA];exact .int
def Fd {X:Cx}{k:Nat}{τ:List Sl}{a b c tg:Expr}{p pos:Pos}{m j:Int}(n:Nat)(B:Bk X k)(h:PE X a (dE X.K false τ (.d (.int m))))(h':PE X b (dE X.K false τ (.d (.int j))))(h'':PE X c (dE X.K false τ (.d (.int (-1)))))(h1:-(2^30)<=m/\m<2^30/\-(2^30)<=j/\j<2^30)(hn:m-j=n)(hg:Gl X "range":=by rfl)
   (hs:Do [a,b,c] X.env=.(121)::Do [b,c] X.env:=by rfl) (hs2:Do [b,c] X.env=(false,eval b X.env)::Do [c] X.env:=by rfl) (hs3:Do [c] X.env=[(false,eval c X.env)]:=by rfl):PI X tg (.Call (.Name "range" p) [a,b,c] [] pos) (dI X.K τ (qF m n)):=
 piW (oG B.calm hg (B.blt _ .(2)) (ae h (ae h' (ae h'' ag hs3) hs2) hs) hs hs2 hs3) λσ H R ⟨A,H₀,B,S,k⟩=>fO S λvs H1 e1 d1=>by
   cases d1 with
   | cons d r=>
     cases r with
     | cons d' r=>
       cases r with
       | cons d'' r=>cases r;cases d;cases d';cases d'';exact⟨m,j,n,rfl,h1,hn,k _ H1 e1 (Ax m n)⟩
end Hy
namespace K33
open PySem PySem.Spec PyProof.Rows L2 Hy
open Ev (D Den aw aI aK)
noncomputable def gA (k N:Nat)(g:Nat->Nat->Rat):Nat->Nat->Nat->Rat
 | 0=>g
 | a+1=>c9 k (k+(N-(a+1))) (gA k N g a)
noncomputable def sA (k N:Nat)(g:Nat->Nat->Rat):Nat->List Stp
 | 0=>[]
 | a+1=>sA k N g a++fB k (k+(N-(a+1))) (gA k N g a)
theorem tE :∀a,a<=N->clG k N g=clG k (N-a) (gA k N g a)/\clS k N g=sA k N g a++clS k (N-a) (gA k N g a)/\(SzP n M k N g->SzP n M k (N-a) (gA k N g a))
 | 0,_=>⟨rfl,rfl,λh=>h⟩
 | a+1,h=>by
   obtain⟨e1,e2,e3⟩:=tE (n:=n) (M:=M) (k:=k) (N:=N) (g:=g) a .(0);have e:N-a=N-(a+1)+1:=by omega
   rw[e]at e1 e2 e3;refine⟨e1,?_,λh=>(e3 h).2⟩;rw[e2];show _=(sA k N g a++fB k (k+(N-(a+1))) (gA k N g a))++_;rw[IY];rfl
theorem ym :∀a,(sA k N g a).length<=2*a
 | 0=>IE _
 | a+1=>by have h1:=ym (k:=k) (N:=N) (g:=g) a;have h2:=qN k (k+(N-(a+1))) (gA k N g a);show (sA k N g a++_).length<=_;rw[rp];omega
def D4 :∀d,SzP n M k d g->Sz n M g
 | 0,h=>h
 | _+1,h=>h.1
def xF (q:Rat):Ev.cu (frD q):=⟨by simp[Ev.cln,Ev.bR,frD],by simp[Ev.dep,Ev.b6,frD]⟩
def E7 (q:Rat):Ev.eqD (frD q) (frD 0)=decide (q=0):=by
 by_cases h:q=0
 . subst h;decide
 . rw[decide_eq_false h];have:q.num≠0:=λz=>h (L8.mp z);unfold frD;rw[Ev.eqD,Ev.gk,Ev.eqD,show (0:Rat).num=0 from rfl,beq_eq_false_iff_ne.mpr this];rfl
def Bf {X:Cx}{k:Nat}{τ:List Sl}{e:Expr}{q:Rat}{p pos:Pos}{c:Bool}(b:Bk X k)(y:Mk1 X.K X.mg "NOUGHT" 0 1)(hc:decide (q=0)=c)(h:PE X e (dE X.K false τ (.d (frD q))))(hg:Gl X "NOUGHT":=by rfl):PT X (.Compare e [.Eq] [.Name "NOUGHT" p] pos) (dT X.K τ c):=by have z:PT X (.Compare e [.Eq] [.Name "NOUGHT" p] pos) (dT X.K τ _):=aZ h (q9 y hg) (zg (x:=frD q) (y:=frD 0) b (xF q) (xF 0));rw[E7,hc]at z;exact z
def E4 {X:Cx}{τ τ2:List Sl}{c:Expr}{rest:List Stmt}(hc:PT X c (dT X.K τ true)):PSs X (.If c [.Continue p1] [] pos::rest) (dSA X.K τ i τ2 τ):=gH (d8 (nN hc (BU rV) jg) cE) λ_ σ _ ⟨A,H₀,B,S,_,fc⟩=>⟨A,H₀,B,S,λH' e=>pz (fc B σ H' (S.mono e) rfl)⟩
def dZ (xs ds xs':List D)(r:Sl):Prop:=∃(n M kk:Nat) (g:Nat->Nat->Rat),xs=(mkT n n g).map rwQ/\ds=[.int (kk:Nat)]/\kk<n/\n<=7/\SzP n M kk (n-1-kk) g/\4*M<=900000/\xs'=(mkT n n (clG kk (n-1-kk) g)).map rwQ/\r=.o ((clS kk (n-1-kk) g).map stD)
section
variable {P:FB}{w:World}{K:fw}{mg:Str->Option Value}{base:Heap}{k:Nat}{f:Addr}{fd:Gc}{qual:Str}
def kE (F:Fun K "clear_column" qual (top 38) f fd)(hb:.(92))(y_NOUGHT:Mk1 K mg "NOUGHT" 0 1)(c_lift_row:t5 P w K mg base k "lift_row" (spG K i5))(c_take_off:t5 P w K mg base k "take_off" (spG K iR)):.(91) ["grid","k"] (spG K dZ):=by
 refine fnG F gr hb (by rintro _ _ _ _ ⟨_,_,_,_,_,rfl,_⟩; rfl) ?_;rintro _ _ _ _ ⟨n,M,kk,g,rfl,rfl,hk,h7,sz,hM,rfl,rfl⟩ cdv A outer s H E b;have nd:=gr.nd;generalize eN:n-1-kk=N at *
 obtain⟨eG,eS,_⟩:=tE (n:=n) (M:=M) (k:=kk) (N:=N) (g:=g) N .(3);rw[Lr]at eG eS;have eS:clS kk N g=sA kk N g N:=by rw[eS]; exact Jc _
 have eG:clG kk N g=gA kk N g N:=eG;refine jv (CF 2 nd (ck ag)) ?_
 refine jv (Fp (ys:=qF ((n:Nat)-1:Int) N) (g:=λa=>.int ((kk+(N-(a+1))+1:Nat):Int)) 3 (λa=>[.o ((mkT n n (gA kk N g a)).map rwQ),.d (.int (kk:Nat)),.o ((sA kk N g a).map stD),match a with | 0=>.un | a+1=>.d (.int ((kk+(N-(a+1))+1:Nat):Int))]) b nd
   (Fd N b (aE (yE (bo b (ae (j8 0) ag) (gc eY))) af cA) (aa 1) (mM af) .(19) .(0)) (λa h=>?_) λa ha=>?_) ?_
 . rw[fF]at h;rw[vA];congr 1;omega
 . rw[fF]at ha;obtain⟨_,_,e3⟩:=tE (n:=n) (M:=M) (k:=kk) (N:=N) (g:=g) a .(0);have sa:=D4 _ (e3 sz);have hl:=ym (k:=kk) (N:=N) (g:=g) a;have hl':((sA kk N g a).map stD).length<=2*a:=by rw[bp]; exact hl
   have e1:gA kk N g (a+1)=c9 kk (kk+(N-(a+1))) (gA kk N g a):=rfl;have e2:sA kk N g (a+1)=sA kk N g a++fB kk (kk+(N-(a+1))) (gA kk N g a):=rfl;show PSs _ _ (dSA _ [.o ((mkT n n (gA kk N g a)).map rwQ),.d (.int (kk:Nat)),.o ((sA kk N g a).map stD),.d (.int ((kk+(N-(a+1))+1:Nat):Int))] 0 [.o ((mkT n n (gA kk N g (a+1))).map rwQ),.d (.int (kk:Nat)),.o ((sA kk N g (a+1)).map stD),.d (.int ((kk+(N-(a+1))+1:Nat):Int))] [.o ((mkT n n (gA kk N g (a+1))).map rwQ),.d (.int (kk:Nat)),.o ((sA kk N g (a+1)).map stD),.d (.int ((kk+(N-(a+1))+1:Nat):Int))]);rw[e1,e2];generalize gA kk N g a=G at *
   generalize sA kk N g a=L at *
   have hi:kk+(N-(a+1))+1<n:=by omega
   generalize kk+(N-(a+1))=i at *
   have ei:((i+1:Nat):Int)-1=(i:Nat):=by omega
   by_cases h1:G (i+1) kk=0
   . have o1:c9 kk i G=G:=if_pos h1;have o2:fB kk i G=[]:=if_pos h1;rw[o1,o2,Jc];exact E4 (Bf b y_NOUGHT (decide_eq_true h1) (aL (fJ (xs:=(mkT n n G).map rwQ) 0 (aa 3) (jn hi)) (aa 1) (aY (iL hk))))
   refine mr (FA (Bf b y_NOUGHT (decide_eq_false h1) (aL (fJ (xs:=(mkT n n G).map rwQ) 0 (aa 3) (jn hi)) (aa 1) (aY (iL hk))))) ?_;by_cases h2:G i kk=0
   . have o1:c9 kk i G=lfF G i:=by unfold c9; rw[if_neg h1,if_pos h2]
     have o2:fB kk i G=[(("weigh" : Str),i,(0:Rat)),(("up" : Str),i,(1:Rat))]:=(by unfold fB; rw[if_neg h1,if_pos h2]);rw[o1,o2,Ia];refine mr (Gi (Bf b y_NOUGHT (decide_eq_true h2) (aL (fJ (xs:=(mkT n n G).map rwQ) 0 (aE (aa 3) af cA) (by rw[ei]; exact jn (i:=i) .(0))) (aa 1) (aY (iL hk)))) (mr (Fb 2 (jJ 0 b c_lift_row ⟨n,i,G,rfl,rfl,hi,h7,rfl,rfl⟩ (ae (aa 3) ag)) (by show (L.map stD).length+2<1000000; omega)) uT)) uT
   . have o1:c9 kk i G=tkF G i kk:=by unfold c9; rw[if_neg h1,if_neg h2]
     have o2:fB kk i G=[(("up" : Str),i,G (i+1) kk/G i kk)]:=(by unfold fB; rw[if_neg h1,if_neg h2]);rw[o1,o2,Ia];refine mr (FY (Bf b y_NOUGHT (decide_eq_false h2) (aL (fJ (xs:=(mkT n n G).map rwQ) 0 (aE (aa 3) af cA) (by rw[ei]; exact jn (i:=i) .(0))) (aa 1) (aY (iL hk)))) (mr (DM 2 (jJ 0 b c_take_off ⟨n,i,kk,M,G,rfl,rfl,hi,hk,h7,h2,sa,hM,rfl,rfl⟩ (ae (aa 3) (ae (aa 1) ag))) .(0)) uT)) uT
 . exact A3 2 (by rw[fF,eS]; rfl) .(2) (by rw[fF,eG]; rfl) nofun
end
def e8 (ds:List D)(r:Sl):Prop:=∃st:Stp,ds=[stD st]/\r=.d (stD (trn st))
noncomputable def qM (M:List .(109))(i j:Nat):Rat:=.(103).getD j 0
noncomputable def zp (t:List .(109))(j:Nat):List Rat:=t.map λr=>r.getD j 0
def gI (ds:List D)(r:Sl):Prop:=∃(R C:Nat) (t:List .(109)) (j:Nat),ds=[tbQ t,.int (j:Nat)]/\Tq R C t/\j<C/\r=.o ((zp t j).map frD)
noncomputable def vF (t:List .(109))(C:Nat):List .(109):=(ox C).map (zp t)
def fS (ds:List D)(r:Sl):Prop:=∃(R C:Nat) (t:List .(109)),ds=[tbQ t]/\Tq R C t/\r=.o ((vF t C).map rwQ)
section
variable {P:FB}{w:World}{K:fw}{mg:Str->Option Value}{base:Heap}{k:Nat}{f:Addr}{fd:Gc}{qual:Str}
def k8 (F:Fun K "turned_step" qual (top 33) f fd)(hb:.(92)):.(91) ["step"] (spD K e8):=by
 refine fnD F lS hb (by rintro _ _ ⟨_,rfl,_⟩; rfl) ?_;rintro _ _ ⟨⟨u,i,q⟩,rfl,rfl⟩ cdv A outer s H E b;refine eD (aZ (aL (aa 0) af (aQ (aH (i:=0) rfl))) bZ vJ) (λh=>?_) λh=>?_
 . refine aX (aa 0) ?_;unfold trn;rw[if_pos (of_decide_eq_true h)]
 . refine aX (s:=.d (stD (if u = "down" then "up" else "down",i,q))) (bf (x:=stD (if u = "down" then "up" else "down",i,q)) (s:=.d (stD (if u = "down" then "up" else "down",i,q))) (bO (ae (x9 (p:=decide (u=("down" : Str))) (aZ (aL (aa 0) af (aQ (aH (i:=0) rfl))) bZ vJ) (λh=>by rw[if_pos (of_decide_eq_true h)]; exact bZ) (λh=>by rw[if_neg (of_decide_eq_false h)]; exact bZ)) (ae (aL (aa 0) af (aQ (aH (i:=1) rfl))) (ae (aL (aa 0) af (aQ (aH (i:=2) rfl))) ag))))) ?_;unfold trn;rw[if_neg (of_decide_eq_false h)]
def oI (F:Fun K "column_of" qual (top 23) f fd)(hb:.(92)):.(91) ["table","j"] (spD K gI):=by
 refine fnD F o9 hb (by rintro _ _ ⟨_,_,_,_,rfl,_⟩; rfl) ?_;rintro _ _ ⟨R,C,t,j,rfl,h,hj,rfl⟩ cdv A outer s H E b;have r7:=h.r7;refine aX (dD (cmp 0 (g:=λi=>rwQ (t.getD i [])) (f:=λi=>frD ((t.getD i []).getD j 0)) b (bC (aa 0)) (cU (f:=rwQ) (xs:=t) []) (by rw[bp,h.len]; omega) λi hi s0 H0 fp=>(aL (aa 0) (aa 1) (aY (dR (f:=frD) (xs:=t.getD i []) 0 (i:=j) ?_))))) ?_
 . rw[h.at_ (by rw[bp,h.len]at hi; exact hi)]; exact hj
 . refine congrArg Sl.o ((gm (λr:List Rat=>frD (r.getD j 0)) t [] .(17)).trans ?_);unfold zp;rw[IC];rfl
def m9 (F:Fun K "columns_of" qual (top 22) f fd)(hb:.(92))(c_column_of:.(90) "column_of" gI):.(91) ["table"] (spD K fS):=by refine fnD F ni hb (by rintro _ _ ⟨_,_,_,rfl,_⟩; rfl) ?_;rintro _ _ ⟨R,C,t,rfl,h,rfl⟩ cdv A outer s H E b;have r1:=h.r1;have c7:=h.c7;have e0:atI (t.map rwQ) 0=some (rwQ (t.getD 0 [])):=dR [] (i:=0) (by rw[h.len]; omega);refine aX (dD (cmp 0 (f:=λj=>rwQ (zp t j)) b (eX (n:=(C:Nat)) b (bo b (ae (aL (aa 0) af (aY e0)) ag) (og (n:=C) (by rw[bp]; exact h.at_ .(0)))) .(0) .(0)) eV (by rw[aP]; omega) λj hj s0 H0 fp=>bf (x_call .(107) c_column_of (ae (aa 1) .(111)) ⟨R,C,t,j,rfl,h,by rw[aP]at hj; omega,rfl⟩))) ?_;unfold vF;rw[aP,HW,IC];rfl
end
def vg :vF (mkT n n G) n=mkT n n (trF G):=by unfold vF mkT zp;refine ID λj hj=>?_;have hj:=Iq.mp hj;rw[IC];refine ID λi _=>?_;show ((ox n).map (G i)).getD j 0=trF G j i;simp[hj];rfl
def SzA (n M:Nat)(A:Nat->Nat->Rat):Prop:=∀k,k<n->SzP n M k (n-1-k) .(115).1/\SzP n M k (n-1-k) (trF (st1 n k .(115).1))/\SzP n M k (n-1-k) (st2 n k .(115).1)
def iJ (ds:List D)(r:Sl):Prop:=∃(n M:Nat) (A:Nat->Nat->Rat),ds=[tbQ (mkT n n A)]/\1<=n/\n<=7/\SzA n M A/\4*M<=900000/\r=.o ((apS n A).map stD)
def B7 (h7:n<=7)(hk:k<=n):(.(115).2.1.map stD).length<=196/\(.(115).2.2.map stD).length<=98:=by have h:=tS n A k hk;have:n*k<=7*7:=Ju h7 .(0);rw[bp,bp];omega
def zN (h7:n<=7):((clS k (n-1-k) g).map stD).length<=14:=by have:=jx (k:=k) (n-1-k) g;rw[bp];omega
def Fx {xs:List Stp}(i:Nat)(h:i<(xs.map stD).reverse.length):(xs.map stD).reverse[i]=stD (xs.reverse.getD i ("weigh",0,0)):=by
 have h':i<xs.length:=by simpa using h
 simp[h']
section
variable {P:FB}{w:World}{K:fw}{mg:Str->Option Value}{base:Heap}{k:Nat}{f:Addr}{fd:Gc}{qual:Str}
def rR (F:Fun K "steps_of" qual (top 37) f fd)(hb:.(92))(c_clear_column:t5 P w K mg base k "clear_column" (spG K dZ))(c_columns_of:.(90) "columns_of" fS)(c_turned_step:.(90) "turned_step" e8):.(91) ["table"] (spD K iJ):=by
 refine fnD F ko hb (by rintro _ _ ⟨_,_,_,rfl,_⟩; rfl) ?_;rintro _ _ ⟨n,M,A0,rfl,h1,h7,sz,hM,rfl⟩ cdv A outer s H E b;have nd:=ko.nd;refine aM 1 nd (pB b .(111) oW) ?_;refine aM 2 nd (bo b .(111) (gc eY)) ?_;refine aM 3 nd (ck ag) ?_;refine aM 4 nd (ck ag) ?_;refine cn 5 (λa τ=>∃s5,τ=[.d (tbQ (mkT n n A0)),.o ((mkT n n (apF n A0 a).1).map rwQ),.d (.int (n:Nat)),.o ((apF n A0 a).2.1.map stD),.o ((apF n A0 a).2.2.map stD),s5,.un]) b nd (eX b (aa 2) .(0) .(0)) eV ⟨.un,rfl⟩ (λkk hk τ h=>?_) λτ h=>?_
 . obtain⟨s5,rfl⟩:=h;have hk:kk<n:=by rw[aP]at hk; omega
   obtain⟨z1,z2,z3⟩:=sz kk hk;obtain⟨l1,l2⟩:=B7 (A:=A0) h7 (JO hk);have e:apF n A0 (kk+1)=(st3 n kk (apF n A0 kk).1,(apF n A0 kk).2.1++stA n kk (apF n A0 kk).1,(apF n A0 kk).2.2++stB n kk (apF n A0 kk).1):=rfl;generalize apF n A0 kk=r at *
   obtain⟨g,ah,be⟩:=r;have l1:(ah.map stD).length<=196:=l1;have l2:(be.map stD).length<=98:=l2;have z1:SzP n M kk (n-1-kk) g:=z1;have z2:SzP n M kk (n-1-kk) (trF (st1 n kk g)):=z2;have z3:SzP n M kk (n-1-kk) (st2 n kk g):=z3;have m1:=zN (k:=kk) (g:=g) h7;have m2:=zN (k:=kk) (g:=trF (st1 n kk g)) h7;have m3:=zN (k:=kk) (g:=st2 n kk g) h7;refine tF (zs:=ah.map stD) (ys:=(clS kk (n-1-kk) g).map stD) 3 1 (jJ 1 b c_clear_column ⟨n,M,kk,g,rfl,rfl,hk,h7,z1,hM,rfl,rfl⟩ (ae (aa 5) ag)) .(0) ?_;refine jX 1 (aM (s:=.o ((mkT n n (trF (st1 n kk g))).map rwQ)) 1 nd (x_call b c_columns_of (ae (aa 1) ag) ⟨n,n,mkT n n (st1 n kk g),rfl,qd h1 h7 h1 h7,by rw[vg]⟩) ?_);refine tF (zs:=be.map stD) (ys:=(clS kk (n-1-kk) (trF (st1 n kk g))).map stD) 4 1 (jJ 1 b c_clear_column ⟨n,M,kk,trF (st1 n kk g),rfl,rfl,hk,h7,z2,hM,rfl,rfl⟩ (ae (aa 5) ag)) .(0) ?_;refine jX 1 (aM (s:=.o ((mkT n n (st2 n kk g)).map rwQ)) 1 nd (x_call b c_columns_of (ae (aa 1) ag) ⟨n,n,mkT n n (clG kk (n-1-kk) (trF (st1 n kk g))),rfl,qd h1 h7 h1 h7,by rw[vg]; rfl⟩) ?_);refine tF (zs:=ah.map stD++(clS kk (n-1-kk) g).map stD) (ys:=(clS kk (n-1-kk) (st2 n kk g)).map stD) 3 1 (jJ 1 b c_clear_column ⟨n,M,kk,st2 n kk g,rfl,rfl,hk,h7,z3,hM,rfl,rfl⟩ (ae (aa 5) ag)) (by rw[rp]; omega) ?_;refine aS ⟨.d (.int (kk:Nat)),?_⟩;rw[e];unfold stA stB;simp only[Ia,IY];rfl
 . rw[aP]at h;obtain⟨s5,rfl⟩:=h;obtain⟨l1,l2⟩:=B7 (A:=A0) h7 (IE n);rw[show ((n:Nat):Int).toNat=n from HW n];have ec:((crS n (apF n A0 n).1).map stD)=(ox (i8 0 ((n:Nat):Int).toNat).length).map λi=>stD ("weigh",i,(apF n A0 n).1 i i):=by unfold crS;rw[IC,aP,HW];rfl
   refine jX 1 (pe 6 (s:=.o ((ox (i8 0 ((n:Nat):Int).toNat).length).map λi=>stD ("weigh",i,(apF n A0 n).1 i i))) nd (cmp 0 (f:=λi=>stD ("weigh",i,(apF n A0 n).1 i i)) b (eX (n:=(n:Nat)) b (aa 2) .(0) .(0)) eV (by rw[aP]; omega) λi hi s0 H0 fp=>?_) (.inl rfl) (jX 3 (jX 4 (jX 6 ?_))))
   . rw[aP]at hi;have hi:i<n:=by omega
     exact bO (ae bZ (ae (aa 0) (ae (aL (aL (aa 1) (aa 0) (aY (jn hi))) (aa 0) (aY (iL hi))) ag)))
   rw[<- ec];have eb:((ox ((apF n A0 n).2.2.map stD).reverse.length).map λi=>stD (trn ((apF n A0 n).2.2.reverse.getD i ("weigh",0,0))))=((apF n A0 n).2.2.reverse.map trn).map stD:=by rw[JJ,bp,<- JJ,gm (λst:Stp=>stD (trn st)) _ _ rfl,IC];rfl
   refine aX (qL (bf (qL (aa 3) (aa 6) ?_)) (bf (dD (cmp 0 (g:=λi=>stD ((apF n A0 n).2.2.reverse.getD i ("weigh",0,0))) (f:=λi=>stD (trn ((apF n A0 n).2.2.reverse.getD i ("weigh",0,0)))) b (B0 b (aa 4)) Fx (by rw[JJ]; omega) λi hi s0 H0 fp=>x_call .(107) c_turned_step .(111) ⟨_,rfl,rfl⟩))) ?_) ?_
   any_goals first | (simp only[crS,rp,bp,IQ,JJ]at l1 l2 ⊢; omega)
   rw[eb];unfold apS;rw[Ia,Ia,IY]
end
noncomputable def cx (m n:Nat)(A:Nat->Nat->Rat):Nat->Nat->Rat:=λi j=>if i<m/\j<n then A i j else 0
def j6 (ds:List D)(r:Sl):Prop:=∃(m n s:Nat) (A:Nat->Nat->Rat),ds=[tbQ (mkT m n A),.int (s:Nat)]/\m<=s/\n<=s/\s<=7/\r=.o ((mkT s s (cx m n A)).map rwQ)
def A2 (hi:i<m)(hn:n<=s):((ox s).map (cx m n A i)).map frD=(((ox n).map (A i)).map frD)++(Ii (s-n) [D.tup [.int 0,.int 1]]).flatten:=by
 rw[Mx];refine Jw .(13) λj h1 h2=>?_;have hj:j<s:=by simpa using h1
 rw[List.getElem_append];by_cases z:j<n
 . rw[dif_pos (by simpa using z)];simp[cx,hi,z]
 . rw[dif_neg (by simpa using z)];simp[cx,z];rfl
def AR (hi:m<=i):((ox s).map (cx m n A i)).map frD=(Ii s [D.tup [.int 0,.int 1]]).flatten:=by rw[Mx];refine Jw .(4) λj h1 h2=>?_;simp[cx,MF.mpr hi];rfl
def Af (hm:m<=s):((ox m).map λi=>rwQ ((ox s).map (cx m n A i)))++((ox (s-m)).map λi=>rwQ ((ox s).map (cx m n A (m+i))))=(mkT s s (cx m n A)).map rwQ:=by
 refine Jw (by simp[mkT]; omega) λi h1 h2=>?_;have hi:i<s:=by simpa[mkT]using h2
 rw[List.getElem_append];by_cases z:i<m
 . rw[dif_pos (by simpa using z)];simp[mkT]
 . rw[dif_neg (by simpa using z)];simp[mkT];rw[show m+(i-m)=i by omega]
section
variable {P:FB}{w:World}{K:fw}{mg:Str->Option Value}{base:Heap}{k:Nat}{f:Addr}{fd:Gc}{qual:Str}
def sR (F:Fun K "squared" qual (top 36) f fd)(hb:.(92))(y_NOUGHT:Mk1 K mg "NOUGHT" 0 1):.(91) ["table","size"] (spD K j6):=by
 refine fnD F lU hb (by rintro _ _ ⟨_,_,_,_,rfl,_⟩; rfl) ?_;rintro _ _ ⟨m,n,s,A,rfl,hm,hn,h7,rfl⟩ cdv A' outer s' H E b;have nd:=lU.nd;have lm:((mkT m n A).map rwQ).length=m:=by rw[bp,dH]
 refine pe 2 nd (cmp 0 (g:=λi=>rwQ ((mkT m n A).getD i [])) (f:=λi=>rwQ ((ox s).map (cx m n A i))) b (bC (aa 0)) (cU (f:=rwQ) (xs:=mkT m n A) []) (by rw[lm]; omega) λi hi s0 H0 fp=>?_) (.inl rfl) ?_
 . have hi:i<m:=by rw[lm]at hi; exact hi
   rw[jE hi];show PE _ _ (dE _ true _ (.d (.lst (((ox s).map (cx m n A i)).map frD))));rw[A2 hi hn];refine bf (qL (aa 0) (bf (vO (bf (ck (ae (q9 y_NOUGHT) ag))) (aE (aa 1) (bo .(107) .(111) (gc (n:=n) .(4))) cA) .(0) .(0) .(13))) .(13)) ?_;rw[show ((s:Int)-(n:Int)).toNat=s-n by omega];rfl
 rw[lm];refine jX 2 ?_;refine aX (qL (aa 2) (bf (dD (cmp 0 (f:=λi=>rwQ ((ox s).map (cx m n A (m+i)))) b (eX b (aE (aa 1) (bo b .(111) (gc lm)) cA) .(0) .(0)) eV (by rw[aP]; omega) λi hi s0 H0 fp=>?_))) (by rw[aP]; simp; omega)) ?_
 . show PE _ _ (dE _ true _ (.d (.lst (((ox s).map (cx m n A (m+i))).map frD))));rw[AR .(0)];refine bf (vO (bf (ck (ae (q9 y_NOUGHT) ag))) (aa 1) .(0) .(0) .(13)) ?_;rfl
 . rw[aP,show ((s:Int)-(m:Int)).toNat=s-m by omega];exact congrArg Sl.o (Af hm)
end
def rj (b:Int):sgZ b=1\/sgZ b=-1:=by unfold sgZ;rw[JZ _ .(2)];omega
theorem mE (n:Nat)(row:List Int)(k v:Int)(kv:List (Int×Int)):∀c,(cF n row k v kv c).2.length<=kv.length+c
 | 0=>IE _
 | c+1=>by
   have:=mE n row k v kv c;rw[cF,mh];split
   . dsimp only; omega
   . have:=BB (cF n row k v kv c).2 (lV k (n-1-c)) ((bS (cF n row k v kv c).2 (lV k (n-1-c))).getD 0+sgZ (cF n row k v kv c).1*row.getD (n-1-c) 0*v);dsimp only;omega
theorem jW (n:Nat)(row:List Int)(kv:List (Int×Int)):∀t,(bK n row kv t).length<=t*n
 | 0=>by rw[bK,L4]; omega
 | t+1=>by have h1:=jW n row kv t;have h2:=mE n row .(136).1 ((bS kv .(136).1).getD 0) (bK n row kv t) n;rw[bK,Jr];omega
noncomputable def dtR (r:List Int):D:=.lst (r.map .int)
noncomputable def dtM (Ms:List .(123))(i j:Nat):Rat:=(((Ms.getD i []).getD j 0:Int):Rat)
def atR {row:List Int}(h:j<row.length):atI (row.map D.int) (j:Int)=some (.int (row.getD j 0)):=jR (i:=(j:Int)) .(0) .(0)
noncomputable def scS (s:Int)(q:Rat):Int:=s/(Jg s (q.den:Nat):Int)*(q.den:Nat)
noncomputable def scL (r:List Rat):Int:=r.foldl scS 1
def Dc (hs:0<s)(q:Rat):0<scS s q/\s∣scS s q/\((q.den:Nat):Int)∣scS s q:=by
 have hq:=den_pos q;have g0:0<(Jg s (q.den:Nat):Int):=by have:=ft (i:=s) (j:=(q.den:Nat)) .(0);have:=KQ (Jg s (q.den:Nat));omega
 have d1:(Jg s (q.den:Nat):Int)∣s:=MS ..;have d2:(Jg s (q.den:Nat):Int)∣((q.den:Nat):Int):=Int.gcd_dvd_right ..;have p1:0<s/(Jg s (q.den:Nat):Int):=Int.ediv_pos_of_pos_of_dvd hs .(0) d1;refine⟨M7 p1 hq,?_,Int.dvd_mul_left ..⟩;obtain⟨k,hk⟩:=d2;refine⟨k,?_⟩;unfold scS;conv=>lhs; rhs; rw[hk]
 rw[<- Nz,Int.ediv_mul_cancel d1]
def qo (r:List Rat)(q:Rat):scL (r++[q])=scS (scL r) q:=by unfold scL; rw[Km]; rfl
theorem tR:∀(r:List Rat) (s:Int),0<s->0<r.foldl scS s/\s∣r.foldl scS s/\∀q∈r,((q.den:Nat):Int)∣r.foldl scS s
 | [],s,h=>⟨h,Int.dvd_refl _,λ_ z=>nomatch z⟩
 | q::r,s,h=>by obtain⟨a1,a2,a3⟩:=Dc h q;obtain⟨b1,b2,b3⟩:=tR r _ a1;exact⟨b1,Int.dvd_trans a2 b2,λx hx=>(HZ.mp hx).elim (λe=>by rw[e]; exact Int.dvd_trans a3 b2) (b3 x)⟩
def k6 (r:List Rat):0<scL r/\∀q∈r,((q.den:Nat):Int)∣scL r:=⟨(tR r 1 .(2)).1,(tR r 1 .(2)).2.2⟩
theorem yn :∀(r:List Rat) (s:Int) (n:Nat),Bd n s->(∀q∈r,Bd d (q.den:Nat))->Bd (n+r.length*d) (r.foldl scS s)
 | [],s,n,h,_=>by simpa using h
 | q::r,s,n,h,hd=>by
   have h1:Bd (n+d) (scS s q):=(h.ediv _).mul (hd q .(5));have:=yn r _ _ h1 λx hx=>hd x (Et _ hx);rw[Ja,Jr]
   rwa [show n+d+r.length*d=n+(r.length*d+d) by omega]at this
def kf (h:∀q∈r,Bd d (q.den:Nat)):Bd (1+r.length*d) (scL r):=yn r 1 1 (by unfold Bd; decide) h
def i6 (ds:List D)(r:Sl):Prop:=∃(q:List Rat) (d:Nat),ds=[rwQ q]/\q.length<=1000/\(∀x∈q,Bd d (x.den:Nat))/\1+q.length*d<=8999/\d<=8999/\r=.d (.int (scL q))
noncomputable def whR (r:List Rat)(s:Int):List Int:=r.map λq=>q.num*(s/(q.den:Nat))
def Hz (h:((q.den:Nat):Int)∣s):((q.num*(s/(q.den:Nat)):Int):Rat)=q*(s:Rat):=by obtain⟨k,rfl⟩:=h;have:=den_pos q;rw[Nq _ .(0),IA,IA,<- J1,dC]
def Fs (hq:Qs d v q)(h:((q.den:Nat):Int)∣s)(hs:Bd n s):Bd (v+n) (q.num*(s/(q.den:Nat))):=by obtain⟨k,rfl⟩:=h;have hd:=den_pos q;rw[Nq _ .(0)];unfold Bd at hs ⊢;rw[JE,JW];rw[JE,Lv]at hs;have h1:q.num.natAbs*k.natAbs<=2^v*q.den*k.natAbs:=Iu _ hq.val;rw[Mw]at h1;exact IB h1 (Lo hs (Jl v))
def gL (ds:List D)(r:Sl):Prop:=∃(q:List Rat) (s:Int) (n:Nat),ds=[rwQ q,.int s]/\q.length<=1000/\(∀x∈q,Sq n x)/\n<=8999/\Bd 8999 s/\r=.o ((whR q s).map .int)
noncomputable def whM (M:List .(109))(ss:List Int):List .(123):=(ox M.length).map λi=>whR .(103) (ss.getD i 0)
def EH {α β:Type}{f:α->D}{g:β->D}{xs:List α}{ys:List β}(d:α)(e:β)(i:Nat)(h:i<(gG (xs.map f) (ys.map g)).length):(gG (xs.map f) (ys.map g))[i]=.tup [f (xs.getD i d),g (ys.getD i e)]:=by
 rw[bQ,bp,bp]at h;have h1:i<xs.length:=by omega
 have h2:i<ys.length:=by omega
 simp[gG,h1,h2]
def fW (ds:List D)(r:Sl):Prop:=∃(M:List .(109)) (ss:List Int) (n:Nat),ds=[tbQ M,.lst (ss.map .int)]/\M.length=ss.length/\M.length<=1000/\(∀r∈M,r.length<=1000/\∀x∈r,Sq n x)/\n<=8999/\(∀s∈ss,Bd 8999 s)/\r=.o ((whM M ss).map dtR)
noncomputable def tpD (c:List Int):D:=.tup (c.map .int)
noncomputable def pO (cs:List .(123)):D:=.lst (cs.map tpD)
noncomputable def gS (c:List Int):Int:=c.getD (c.length-1) 0
noncomputable def lea (t:Nat)(c:List Int):Int:=if 0<t then gS c+1 else 0
noncomputable def onC (n t:Nat)(c:List Int):List .(123):=(ox ((n:Int)-lea t c).toNat).map λk=>c++[lea t c+(k:Nat)]
noncomputable def chs (n:Nat):Nat->List .(123)
 | 0=>[[]]
 | t+1=>(chs n t).flatMap (onC n t)
structure Chs (n t:Nat)(c:List Int):Prop where
 len:c.length=t
 at_:∀i,i<t->0<=c.getD i 0/\c.getD i 0<n
def yp {c:List Int}:(c++[x]).getD i 0=if i<c.length then c.getD i 0 else if i=c.length then x else 0:=by
 by_cases h:i<c.length
 . rw[if_pos h]; simp[LF,HX h]
 . rw[if_neg h];by_cases e:i=c.length
   . subst e; simp
   . rw[if_neg e];simp[LF];rw[JM .(13)];rfl
def t4 (h:Chs n t c):0<=lea t c/\lea t c<=n:=by
 unfold lea;by_cases ht:0<t
 . have:=h.at_ (t-1) .(0);rw[if_pos ht,gS,h.len];omega
 . rw[if_neg ht]; omega
theorem cq (n:Nat):∀t,∀c∈chs n t,Chs n t c
 | 0,c,h=>by rw[chs,gV]at h;subst h;exact⟨rfl,λi hi=>absurd hi .(0)⟩
 | t+1,c,h=>by
   rw[chs,Jv]at h;obtain⟨d,hd,hc⟩:=h;have ih:=cq n t d hd;have hl:=t4 ih;unfold onC at hc;obtain⟨k,hk,rfl⟩:=HV.mp hc;rw[Iq]at hk;refine⟨by rw[rp,ih.len]; rfl,λi hi=>?_⟩;rw[yp,ih.len];by_cases e:i<t
   . rw[if_pos e]; exact ih.at_ i e
   . rw[if_neg e,if_pos .(0)]; omega
def pK (h:Chs n t c):(onC n t c).length<=n:=by have:=t4 h;simp[onC];omega
theorem gP {α β:Type}(f:α->List β)(m:Nat):∀xs:List α,(∀x∈xs,(f x).length<=m)->(xs.flatMap f).length<=xs.length*m
 | [],_=>by simp
 | x::xs,h=>by rw[List.flatMap_cons,rp,Ja,Jr];have:=h x .(5);have:=gP f m xs λy hy=>h y (Et _ hy);omega
theorem uI (hn:n<=7):∀t,(chs n t).length<=7^t
 | 0=>by simp[chs]
 | t+1=>by rw[chs];have:=gP (onC n t) 7 (chs n t) λc hc=>Il (pK (cq n t c hc)) hn;have:=uI hn t;rw[K2];omega
def fR (ds:List D)(r:Sl):Prop:=∃n t:Nat,ds=[.int n,.int t]/\n<=7/\t<=7/\r=.d (pO (chs n t))
def AY {cs:List .(123)}(i:Nat)(h:i<(cs.map tpD).length):(cs.map tpD)[i]=tpD (cs.getD i []):=by
 have:i<cs.length:=by simpa using h
 simp[this]
def bV {α:Type}{xs:List α}{d:α}(h:i<xs.length):xs.getD i d∈xs:=by simp[h]
def uO (h:c≠[]):atI (c.map D.int) (-1)=some (.int (gS c)):=by
 have hl:0<c.length:=List.length_pos_iff.mpr h;unfold atI ixN gS;rw[if_neg .(2),if_pos .(8),bp];simp only[Option.bind_some];have e:(-1+(c.length:Int)).toNat=c.length-1:=by omega
 rw[e];simp[(by omega:c.length-1<c.length)]
section
variable {P:FB}{w:World}{K:fw}{mg:Str->Option Value}{base:Heap}{k:Nat}{f:Addr}{fd:Gc}{qual:Str}
def qI (F:Fun K "scale_of" qual (top 25) f fd)(hb:.(92))(c_common_divisor:.(90) "common_divisor" bq):.(91) ["row"] (spD K i6):=by
 refine fnD F kB hb (by rintro _ _ ⟨_,_,rfl,_⟩; rfl) ?_;rintro _ _ ⟨q,d,rfl,hl,hd,hb1,hd1,rfl⟩ cdv A outer s H E b;have nd:=kB.nd;refine aM 1 nd af ?_;refine cn 2 (g:=λi=>frD (q.getD i 0)) (λi τ=>i<=q.length/\∃s2,τ=[.d (rwQ q),.d (.int (scL (q.take i))),s2]) b nd (bC (aa 0)) (cU (f:=frD) (xs:=q) 0) ⟨Im _,.un,rfl⟩ (λi hi τ h=>?_) λτ h=>?_
 . obtain⟨_,s2,rfl⟩:=h;have hi:i<q.length:=by simpa using hi
   have mm:=ba (d:=(0:Rat)) hi;have hs:=(k6 (q.take i)).1
   have bs:Bd (1+q.length*d) (scL (q.take i)):=(kf λx hx=>hd x (Ko hx)).mono (by
     have:(q.take i).length*d<=q.length*d:=Iu _ .(21);omega)
   have et:q.take (i+1)=q.take i++[q.getD i 0]:=by rw[Na,ph hi]; simp[hi]
   rw[et,qo];generalize scL (q.take i)=sc at hs bs ⊢;generalize q.getD i 0=x at mm ⊢;have hx:=den_pos x;have dv:aK (Jg sc (x.den:Nat):Int):=((hd x mm).gcd .(0)).aK (ft .(0)) .(0);refine aM 1 nd (aE (aE (aa 1) (x_call b c_common_divisor (ae (aa 1) (ae (aL (aa 2) af (aQ (aH (i:=1) rfl))) ag)) ⟨_,_,rfl,rfl⟩) (dh dv)) (aL (aa 2) af (aQ (aH (i:=1) rfl))) (bz ?_)) (aS ⟨hi,.d (frD x),?_⟩)
   . rw[bg]; exact(bs.ediv _).aI (hd x mm) .(0) .(0)
   . rw[bg]; rfl
 . obtain⟨_,s2,rfl⟩:=h;rw[bp,List.take_length];exact aX (aa 1) rfl
def pH (F:Fun K "whole_row" qual (top 26) f fd)(hb:.(92)):.(91) ["row","scale"] (spD K gL):=by
 refine fnD F pD hb (by rintro _ _ ⟨_,_,_,rfl,_⟩; rfl) ?_;rintro _ _ ⟨q,s0,n,rfl,hl,hq,hn,hs,rfl⟩ cdv A outer s H E b;refine aX (dD (cmp 0 (f:=λi=>.int ((q.getD i 0).num*(s0.fdiv ((q.getD i 0).den:Nat)))) b (bC (aa 0)) (cU (f:=frD) (xs:=q) 0) .(8) λi hi s1 H0 fp=>?_)) ?_
 . have sq:=hq _ (ba (d:=(0:Rat)) (by simpa using hi));generalize q.getD i 0=x at sq ⊢;have hx:=den_pos x;have e:s0.fdiv (x.den:Nat)=s0/(x.den:Nat):=JH _ .(0);exact aE (aL (aa 0) af (aQ (aH (i:=0) rfl))) (aE (aa 1) (aL (aa 0) af (aQ (aH (i:=1) rfl))) (dh (sq.den.aK .(0) .(0)))) (bz (by rw[e]; exact sq.num.aI (hs.ediv _) .(0) .(0)))
 . refine congrArg Sl.o ((gm (λx:Rat=>D.int (x.num*(s0.fdiv (x.den:Nat)))) q 0 .(17)).trans ?_);unfold whR;rw[IC];refine ID λx _=>?_;simp only[Kz];rw[JH _ (by have:=den_pos x; omega)]
def mZ (F:Fun K "whole_rows" qual (top 27) f fd)(hb:.(92))(c_whole_row:.(90) "whole_row" gL):.(91) ["table","scales"] (spD K fW):=by
 refine fnD F mY hb (by rintro _ _ ⟨_,_,_,rfl,_⟩; rfl) ?_;rintro _ _ ⟨M,ss,n,rfl,hl,h1,hM,hn,hs,rfl⟩ cdv A outer s H E b;have zl:(gG (M.map rwQ) (ss.map D.int)).length=M.length:=by rw[bQ,bp,bp]; omega
 refine aX (dD (Ac 0 1 (g:=λi=>rwQ .(103)) (g':=λi=>.int (ss.getD i 0)) (f:=λi=>dtR (whR .(103) (ss.getD i 0))) b (qZ b (aa 0) (aa 1)) (EH [] 0) (by rw[zl]; omega) λi hi s0 H0 fp=>?_)) ?_
 . rw[zl]at hi;obtain⟨g1,g2⟩:=hM _ (ba (d:=[]) hi);exact bf (x_call .(107) c_whole_row (ae (aa 0) (ae (aa 1) ag)) ⟨_,_,n,rfl,g1,g2,hn,hs _ (ba .(0)),rfl⟩)
 . unfold whM;rw[zl,IC];rfl
def nA (F:Fun K "choices_of" qual (top 21) f fd)(hb:.(92)):.(91) ["many","size"] (spD K fR):=by
 refine fnD F iA hb (by rintro _ _ ⟨_,_,rfl,_⟩; rfl) ?_;rintro _ _ ⟨n,t,rfl,hn,ht,rfl⟩ cdv A outer s H E b;have nd:=iA.nd;refine aM 2 nd (bf (ck (ae (bO ag) ag))) ?_;refine cn 3 (λi τ=>∃s3 s4 s5 s6,τ=[.d (.int n),.d (.int t),.d (pO (chs n i)),s3,s4,s5,s6]) b nd (eX b (aa 1) .(0) .(0)) eV ⟨.un,.un,.un,.un,rfl⟩ (λi hi τ h=>?_) λτ h=>?_
 . obtain⟨s3,s4,s5,s6,rfl⟩:=h;have hi:i<t:=by rw[aP]at hi; omega
   have l1:=uI hn i;have l2:7^i<=7^6:=Ir .(2) .(0);refine aM 4 nd (ck ag) ?_;refine cn 5 (g:=λl=>tpD .(125)) (λl τ=>∃s5 s6,τ=[.d (.int n),.d (.int t),.d (pO (chs n i)),.d (.int (i:Nat)),.o ((((chs n i).take l).flatMap (onC n i)).map tpD),s5,s6]) b nd (bC (aa 2)) AY ⟨s5,s6,rfl⟩ (λl hl τ h=>?_) λτ h=>?_
   . obtain⟨s5,s6,rfl⟩:=h;have hl:l<(chs n i).length:=by simpa using hl
     have ok:=cq n i _ (bV (d:=[]) hl);have hle:=t4 ok;have len1:=gP (onC n i) 7 ((chs n i).take l) λc hc=>Il (pK (cq n i c (Ko hc))) hn;rw[IX]at len1;have len2:=pK ok;refine aM 6 nd (x9 (s:=.d (.int (lea i .(125)))) (aZ (aa 3) af xy) (λh=>?_) λh=>?_) ?_
     . have h:=of_decide_eq_true h;have h0:0<i:=by omega
       rw[show lea i .(125)=gS .(125)+1 from if_pos h0];exact aE (aL (aa 5) (mM af) (aQ (uO λz=>by have:=ok.len; rw[z]at this; simp at this; omega))) af bA
     . have h:=of_decide_eq_false h;rw[show lea i .(125)=0 from if_neg .(0)];exact af
     refine GK 4 (dD (cmp 0 (f:=λk=>tpD (.(125)++[lea i .(125)+(k:Nat)])) b (yQ b (aa 6) (aa 0) .(19)) (λk hk=>kW _ _ k hk) (by rw[aP]; omega) λk hk s0 H0 fp=>?_)) ?_ (aS ⟨.d (tpD .(125)),.d (.int (lea i .(125))),?_⟩)
     . have e:tpD (.(125)++[lea i .(125)+(k:Nat)])=.tup ((.(125).map D.int)++[.int (lea i .(125)+(k:Nat))]):=by unfold tpD; rw[Ia]; rfl
       rw[e];exact aE (aa 1) (bO .(111)) (sE (by rw[bp,ok.len]; show _+1<_; omega))
     . rw[bp,bp,IQ,aP]; omega
     . rw[take_snoc [] hl,Ky,Ia,aP];show [_,_,_,_,Sl.o (_++(ox ((n:Int)-lea i .(125)).toNat).map _),_,_]=_;simp[onC]
   . obtain⟨s5,s6,rfl⟩:=h;refine jX 4 (aM 2 nd (aa 4) (aS ⟨.d (.int (i:Nat)),.d (pO (chs n (i+1))),s5,s6,?_⟩));rw[bp,Io .(3)];rfl
 . obtain⟨s3,s4,s5,s6,rfl⟩:=h;refine aX (aa 2) ?_;rw[aP,HW]
end
noncomputable abbrev kT:Ev.KD .(123):=Ev.E1 Ev.FQ
noncomputable abbrev kTT:Ev.KD .(128):=Ev.Dv kT kT
def hdT:kT.dep<=7:=by show 1<=7; decide
def mX:kTT.dep<=7:=by show 2<=7; decide
def cK (c:List Int)(H:Hp)(v:V)(h:Den F H v (kT.toD c)):∃b,v=.ref b:=by
 generalize e:kT.toD c=x at h;cases h with
 | tup=>exact⟨_,rfl⟩
 | _=>cases e
def vm (c:List Int×List Int)(H:Hp)(v:V)(h:Den F H v (kTT.toD c)):∃b,v=.ref b:=by
 generalize e:kTT.toD c=x at h;cases h with
 | tup=>exact⟨_,rfl⟩
 | _=>cases e
section
variable {κ:Type}[DecidableEq κ]
def jZ (p:κ×D)(m:List (κ×D))(k:κ):getM (p::m) k=if p.1=k then some p.2 else getM m k:=by
 unfold getM;rw[JU];by_cases e:p.1=k
 . simp[e]
 . simp[e]
theorem oe (k k':κ)(x:D):∀m:List (κ×D),getM (m.map λy=>if y.1=k then (y.1,x) else y) k'=if k=k'/\(getM m k).isSome then some x else getM m k'
 | []=>by simp[getM]
 | p::m=>by
   rw[IJ,jZ,oe k k' x m,jZ,jZ];by_cases e:p.1=k
   . rw[if_pos e,if_pos e];by_cases e':k=k'
     . simp[e,e']
     . simp[e,e']
   . rw[if_neg e,if_neg e];by_cases e':p.1=k'
     . simp[e',show ¬k=k' from λz=>e (e'.trans z.symm)]
     . simp[e']
def r9 (m:List (κ×D))(k k':κ)(x:D):getM (er m k x) k'=if k=k' then some x else getM m k':=by
 unfold er;by_cases h:(getM m k).isSome
 . rw[if_pos h,oe];simp[h]
 . rw[if_neg h];have h:getM m k=none:=by simpa using h
   unfold getM at *
   rw[MA];by_cases e:k=k'
   . subst e;have h:m.find? (λx=>decide (x.1=k))=none:=by simpa using h
     rw[h];simp
   . simp[e]
noncomputable def mkM (v:κ->D)(ks:List κ):List (κ×D):=ks.foldl (λm k=>er m k (v k)) []
def gX (v:κ->D)(ks:List κ)(k:κ):mkM v (ks++[k])=er (mkM v ks) k (v k):=by unfold mkM; rw[Km]; rfl
theorem oq (v:κ->D)(k:κ):∀(ks:List κ) (m:List (κ×D)),getM (ks.foldl (λm k=>er m k (v k)) m) k=if k∈ks then some (v k) else getM m k
 | [],m=>by simp
 | k0::ks,m=>by
   rw[L6,oq v k ks,r9];by_cases h:k∈ks
   . simp[h]
   . by_cases e:k0=k
     . simp[e]
     . simp[h,e,show ¬k=k0 from λz=>e z.symm]
def eK {v:κ->D}(h:k∈ks):getM (mkM v ks) k=some (v k):=by unfold mkM; rw[oq,if_pos h]
def yZ (m:List (κ×D))(k:κ)(x:D):(er m k x).length<=m.length+1:=by unfold er;split <;> simp
theorem nK (v:κ->D):∀(ks:List κ) (m:List (κ×D)),(ks.foldl (λm k=>er m k (v k)) m).length<=m.length+ks.length
 | [],m=>by simp
 | k::ks,m=>by rw[L6];have:=nK v ks (er m k (v k));have:=yZ m k (v k);rw[Ja];omega
def g9 (v:κ->D)(ks:List κ):(mkM v ks).length<=ks.length:=by unfold mkM; simpa using nK v ks []
def ya {m:List (κ×D)}{k:κ}{x:D}{p:κ×D}(h:p∈er m k x):p=(k,x)\/p∈m:=by
 unfold er at h;split at h
 . obtain⟨q,hq,e⟩:=HV.mp h;by_cases z:q.1=k
   . rw[if_pos z]at e; exact .inl (by rw[<- e,z])
   . rw[if_neg z]at e; exact .inr (e▸hq)
 . rcases vp.mp h with h | h
   . exact .inr h
   . exact .inl (gV.mp h)
theorem nG (v:κ->D):∀(ks:List κ) (m:List (κ×D)),p∈ks.foldl (λm k=>er m k (v k)) m->(p.1∈ks/\p.2=v p.1)\/p∈m
 | [],m,h=>.inr h
 | k::ks,m,h=>by
   rw[L6]at h;rcases nG v ks _ h with ⟨h1,h2⟩ | h
   . exact .inl ⟨Et _ h1,h2⟩
   . rcases ya h with e | h
     . exact .inl (by rw[e]; exact⟨IF ..,rfl⟩)
     . exact .inr h
def ir {p:κ×D}(h:p∈mkM v ks):p.1∈ks/\p.2=v p.1:=(nG v ks [] h).elim id λz=>nomatch z
def lO {m:List (κ×D)}{k:κ}{x:D}(h:getM m k=some x):(k,x)∈m:=by
 unfold getM at h;obtain⟨p,h1,h2⟩:=KP.mp h;have e:p.1=k:=by have:=List.find?_some h1; simpa using this
 rw[<- h2,<- e];exact Kq h1
end
noncomputable def ers (c:List Int)(k:Nat):List Int:=c.take k++c.drop (k+1)
noncomputable def alP (f:List Int->Int)(row c:List Int)(k:Nat):Int:=row.getD (c.getD k 0).toNat 0*f (ers c k)
noncomputable def alS (f:List Int->Int)(row c:List Int):Nat->Int
 | 0=>0
 | k+1=>if Int.fmod ((c.length:Int)-(k:Nat)) 2=0 then alS f row c k-alP f row c k else alS f row c k+alP f row c k
noncomputable def alR (f:List Int->Int)(row c:List Int):Int:=alS f row c c.length
def Gf (c:List Int)(k:Nat):kT.toD (ers c k)=.tup (Hy.cutD (c.map D.int) none (some (k:Int))++Hy.cutD (c.map D.int) (some ((k:Int)+1)) none):=by
 rw[show ((k:Int)+1)=((k+1:Nat):Int) from rfl,sU]
 have e:Hy.cutD (c.map D.int) (some ((k+1:Nat):Int)) none=(c.map D.int).drop (k+1):=by
   unfold Hy.cutD;rw[HT.ig,HT.lH];rcases Ma (k+1) (c.map D.int).length with h | h
   . rw[J8 h,Io (by rw[K3]; exact IE _)]
   . rw[K5 h,Ny .(3),Ny h,List.take_nil]
 rw[e];show D.tup ((ers c k).map D.int)=_;unfold ers;rw[Ia,KL,Nk]
def cX (P:FB)(w:World)(ds:List D)(r:Sl):Prop:=∃(m:List (List Int×D)) (f:List Int->Int) (row c:List Int) (n p:Nat),ds=[bxD kT hdT P w m,dtR row,tpD c]/\c.length<=7/\(∀k,k<c.length->0<=c.getD k 0/\c.getD k 0<row.length)/\(∀k,k<c.length->getM m (ers c k)=some (.int (f (ers c k)))/\Bd p (f (ers c k)))/\(∀x∈row,Bd n x)/\n<=10000/\p<=10000/\r=.d (.int (alR f row c))
section
variable {P:FB}{w:World}{K:fw}{mg:Str->Option Value}{base:Heap}{k:Nat}{f:Addr}{fd:Gc}{qual:Str}
def jm (F:Fun K "along_last_row" qual (top 31) f fd)(hb:.(92)):.(91) ["known","row","columns"] (spD K (cX P w)):=by
 refine fnD F eW hb (by rintro _ _ ⟨_,_,_,_,_,_,rfl,_⟩; rfl) ?_;rintro _ _ ⟨m,g,row,c,n,p,rfl,h7,hc,hg,hr,hn,hp,rfl⟩ cdv A outer s H E b;have nd:=eW.nd;have hu:(Xc P w K mg base ["known","row","columns","total","k","part"] qual (top 31) f cdv A outer s H E).A.units+16<cLine:=IB .(7) b.room.units;have lc:(c.map D.int).length=c.length:=bp ..;refine aM 3 nd af ?_;refine cn 4 (λi τ=>i<=c.length/\∃s4 s5,τ=[.d (bxD kT hdT P w m),.d (dtR row),.d (tpD c),.d (.int (alS g row c i)),s4,s5]) b nd (eX b (bo b (ae (aa 2) ag) fY) .(0) .(0)) eV ⟨Im _,.un,.un,rfl⟩ (λi hi τ h=>?_) λτ h=>?_
 . obtain⟨_,s4,s5,rfl⟩:=h;have hi:i<c.length:=by rw[aP,lc]at hi; omega
   obtain⟨c1,c2⟩:=hc i hi;obtain⟨g1,g2⟩:=hg i hi;have ht:(c.getD i 0).toNat<row.length:=by omega
   refine aM 5 nd (aE (aL (aa 1) (aL (aa 2) (aa 4) (aQ (atR hi))) (aY (jR c1 ht))) (sI (a:=kT) (hd:=hdT) (m:=m) (key:=ers c i) hu (aa 0) (by
     rw[Gf]
     exact aE (qw (aa 2) iF (fo (aa 4)) (by rw[HT.ig,lc]; omega)) (qw (aa 2) (fo (aE (aa 4) af bA)) iF (by rw[show ((i:Int)+1)=((i+1:Nat):Int) from rfl,HT.ig,lc]; omega)) (sE (by
       have l1:∀l u,(Hy.cutD (c.map D.int) l u).length<=7:=λl u=>by unfold Hy.cutD; rw[IX,K3,lc]; omega
       have:=l1 none (some (i:Int));have:=l1 (some ((i:Int)+1)) none;omega))) g1 (cK _) xk) (bz ((hr _ (bV ht)).aI g2 .(0) .(0)))) ?_
   refine aM 3 nd (x9 (s:=.d (.int (alS g row c (i+1)))) (aZ (aE (aE (bo b (ae (aa 2) ag) fY) (aa 4) cA) af (bG .(2))) af fD) (λh=>?_) λh=>?_) (aS ⟨hi,_,_,rfl⟩)
   . have h:=of_decide_eq_true h;rw[lc]at h;rw[alS,if_pos h];exact aE (aa 3) (aa 5) cA
   . have h:=of_decide_eq_false h;rw[lc]at h;rw[alS,if_neg h];exact aE (aa 3) (aa 5) bA
 . obtain⟨_,s4,s5,rfl⟩:=h;refine aX (aa 3) ?_;rw[aP,lc,HW];rfl
end
noncomputable def orM (f:List Int->Int)(row:List Int)(cs:List .(123)):List (List Int×D):=mkM (λc=>D.int (alR f row c)) cs
def dW (P:FB)(w:World)(ds:List D)(r:Sl):Prop:=∃(m:List (List Int×D)) (f:List Int->Int) (row:List Int) (cs:List .(123)) (n p:Nat),ds=[bxD kT hdT P w m,dtR row,pO cs]/\cs.length<=100000/\(∀c∈cs,c.length<=7/\(∀k,k<c.length->0<=c.getD k 0/\c.getD k 0<row.length)/\(∀k,k<c.length->getM m (ers c k)=some (.int (f (ers c k)))/\Bd p (f (ers c k))))/\(∀x∈row,Bd n x)/\n<=10000/\p<=10000/\r=.d (bxD kT hdT P w (orM f row cs))
section
variable {P:FB}{w:World}{K:fw}{mg:Str->Option Value}{base:Heap}{k:Nat}{f:Addr}{fd:Gc}{qual:Str}
def kH (F:Fun K "one_row_more" qual (top 30) f fd)(hb:.(92))(c_along_last_row:.(90) "along_last_row" (cX P w)):.(91) ["known","row","column_choices"] (spD K (dW P w)):=by
 refine fnD F gu hb (by rintro _ _ ⟨_,_,_,_,_,_,rfl,_⟩; rfl) ?_;rintro _ _ ⟨m,g,row,cs,n,p,rfl,h1,hc,hr,hn,hp,rfl⟩ cdv A outer s H E b;have nd:=gu.nd;have hu:(Xc P w K mg base ["known","row","column_choices","found","columns"] qual (top 30) f cdv A outer s H E).A.units+16<cLine:=IB .(7) b.room.units;refine aM 3 nd (tW (a:=kT) (hd:=hdT)) ?_;refine cn 4 (g:=λi=>tpD (cs.getD i [])) (λi τ=>∃s4,τ=[.d (bxD kT hdT P w m),.d (dtR row),.d (pO cs),.x (exK kT hdT P w (orM g row (cs.take i))),s4]) b nd (bC (aa 2)) AY ⟨.un,rfl⟩ (λi hi τ h=>?_) λτ h=>?_
 . obtain⟨s4,rfl⟩:=h;have hi:i<cs.length:=by simpa using hi
   obtain⟨c1,c2,c3⟩:=hc _ (bV (d:=[]) hi);have ln:=g9 (λc=>D.int (alR g row c)) (cs.take i);rw[IX]at ln;refine pQ 3 (a:=kT) (hd:=hdT) (key:=cs.getD i []) (x:=.int (alR g row (cs.getD i []))) hu rfl (aa 4) (x_call b c_along_last_row (ae (aa 0) (ae (aa 1) (ae (aa 4) ag))) ⟨m,g,row,_,n,p,rfl,c1,c2,c3,hr,hn,hp,rfl⟩) (Il ln (by unfold sizeLine; omega)) (cK _) (aS ⟨.d (tpD (cs.getD i [])),?_⟩);rw[take_snoc [] hi];unfold orM;rw[gX];rfl
 . obtain⟨s4,rfl⟩:=h;refine BV 3 (a:=kT) (hd:=hdT) (aX (aa 3) ?_);rw[bp,Io .(3)];rfl
end
def DY:∀n,n<8->∀t,t<7->((chs n (t+1)).all λc=>(chs n t).contains (c.take t)&&(ox (t+1)).all λk=>(chs n t).contains (ers c k))=true:=by decide +kernel
def pR:∀n,n<8->∀t,t<8->(chs n t).length<=35:=by decide +kernel
def pI (hn:n<=7)(ht:t<7)(h:c∈chs n (t+1)):c.take t∈chs n t/\∀k,k<t+1->ers c k∈chs n t:=by have:=Jx.mp (DY n .(0) t ht) c h;rw[IS]at this;obtain⟨h1,h2⟩:=this;refine⟨by simpa using h1,λk hk=>?_⟩;have:=Jx.mp h2 k (Iq.mpr hk);simpa using this
noncomputable def dtm (R:List .(123)):Nat->List Int->List Int->Int
 | 0,_,_=>1
 | t+1,ls,c=>alR (dtm R t (ls.take t)) (R.getD (gS ls).toNat []) c
structure Rw (m n b:Nat)(R:List .(123)):Prop where
 len:R.length=m
 row:∀r∈R,r.length=n/\∀x∈r,Bd b x
 m1:1<=m/\m<=7
 n1:1<=n/\n<=7
 b1:b<=1400
theorem zf :∀k,(∀i,i<k->(alP f row c i).natAbs<=N)->(alS f row c k).natAbs<=k*N
 | 0,_=>by simp[alS]
 | k+1,h=>by have ih:=zf k λi hi=>h i .(0);have h1:=h k .(0);rw[alS,Jr];split <;> omega
def Ef (h7:c.length<=7)(hr:∀x∈row,Bd n x)(hf:∀k,k<c.length->Bd p (f (ers c k))):Bd (n+p+3) (alR f row c):=by
 have h:=zf (f:=f) (row:=row) (c:=c) (N:=2^(n+p)) c.length λi hi=>by
   have h1:Bd n (row.getD (c.getD i 0).toNat 0):=by
     by_cases h:(c.getD i 0).toNat<row.length
     . exact hr _ (bV h)
     . rw[getD_none .(0)];exact Jl n
   exact JO (h1.mul (hf i hi))
 unfold Bd alR;have e:2^(n+p+3)=8*2^(n+p):=by rw[JW]; omega
 have p0:=Jl (n+p);have:c.length*2^(n+p)<=7*2^(n+p):=Iu _ h7;omega
theorem yf (h:Rw m n b R):∀t,t<=7->∀ls c,c∈chs n t->Bd (1+t*(b+3)) (dtm R t ls c)
 | 0,_,_,_,_=>by unfold Bd dtm; rw[Nat.zero_mul]; decide
 | t+1,ht,ls,c,hc=>by
   have l:=(cq n _ c hc).len
   have:=Ef (f:=dtm R t (ls.take t)) (row:=R.getD (gS ls).toNat []) (c:=c) (n:=b) (p:=1+t*(b+3)) .(0) (λx hx=>by
     by_cases hl:(gS ls).toNat<R.length
     . exact(h.row _ (bV hl)).2 x hx
     . rw[getD_none .(0)]at hx;cases hx) λk hk=>yf h t .(0) _ _ ((pI h.n1.2 .(0) hc).2 k .(0))
   rw[dtm];refine this.mono ?_;rw[Jr];omega
noncomputable def mT (P:FB)(w:World)(R:List .(123))(n t:Nat)(ls:List Int):D:=bxD kT hdT P w (mkM (λc=>D.int (dtm R t ls c)) (chs n t))
noncomputable def knM (P:FB)(w:World)(R:List .(123))(m n t:Nat):List (List Int×D):=mkM (mT P w R n t) (chs m t)
noncomputable def ky1 (n t:Nat)(ls:List Int):List .(128):=(chs n t).map λc=>(ls,c)
noncomputable def kys (m n i:Nat):List .(128):=(ox i).flatMap λt=>(chs m (t+1)).flatMap (ky1 n (t+1))
noncomputable def vD (R:List .(123))(p:List Int×List Int):Int:=dtm R p.1.length p.1 p.2
noncomputable def fdM (R:List .(123))(ks:List .(128)):List (.(128)×D):=mkM (λp=>D.int (vD R p)) ks
def zE (hn:n<=7)(ht:t<=7):∀ls:List .(123),ls.length<=35->(ls.flatMap (ky1 n t)).length<=1225:=λls hl=>by
 have:=gP (ky1 n t) 35 ls λx _=>by unfold ky1; rw[bp]; exact pR n .(0) t .(0)
 omega
def kys_len (hm:m<=7)(hn:n<=7)(hi:i<=7):(kys m n i).length<=8575:=by have:=gP (λt=>(chs m (t+1)).flatMap (ky1 n (t+1))) 1225 (ox i) λt ht=>zE hn (by have:=Iq.mp ht; omega) _ (pR m .(0) _ (by have:=Iq.mp ht; omega));rw[IQ]at this;unfold kys;omega
def cD (P:FB)(w:World)(ds:List D)(r:Sl):Prop:=∃(R:List .(123)) (m n b:Nat),ds=[.lst (R.map dtR)]/\Rw m n b R/\r=.d (.box (bxW kTT mX P w (fdM R (kys m n (min m n)))))
def qc {R:List .(123)}{i:Int}(h0:0<=i)(h:i.toNat<R.length):atI (R.map dtR) i=some (dtR (R.getD i.toNat [])):=by
 obtain⟨n,rfl⟩:=Jo h0
 exact aH (by
   have h:n<R.length:=h;simp[h])
def DB (c:List Int)(t:Nat)(h:c.length=t+1):D.tup (Hy.cutD (c.map D.int) none (some (-1)))=kT.toD (c.take t):=by
 unfold Hy.cutD;have e:HT.sIx (c.map D.int).length (c.map D.int).length (some (-1))=t:=by unfold HT.sIx;simp only[];rw[if_pos .(2),bp,h];omega
 rw[e,HT.lH,Nb,Nat.sub_zero,<- KL];rfl
def kn0 (P:FB)(w:World)(R:List .(123))(m n:Nat):knM P w R m n 0=[([],bxD kT hdT P w [([],.int 1)])]:=rfl
section
variable {P:FB}{w:World}{K:fw}{mg:Str->Option Value}{base:Heap}{k:Nat}{f:Addr}{fd:Gc}{qual:Str}
def iy (F:Fun K "all_determinants" qual (top 29) f fd)(hb:.(92))(c_choices_of:.(90) "choices_of" fR)(c_one_row_more:.(90) "one_row_more" (dW P w)):.(91) ["rows"] (spD K (cD P w)):=by
 refine fnD F dn hb (by rintro _ _ ⟨_,_,_,_,rfl,_⟩; rfl) ?_;rintro _ _ ⟨R,m,n,b0,rfl,ok,rfl⟩ cdv A outer s H E b;have nd:=dn.nd;have hu:(Xc P w K mg base ["rows","found","known","size","fresh","column_choices","some","columns"] qual (top 29) f cdv A outer s H E).A.units+16<cLine:=IB .(7) b.room.units;obtain⟨⟨m1,m7⟩,n1,n7⟩:=And.intro ok.m1 ok.n1;have lR:(R.map dtR).length=m:=by rw[bp,ok.len]
 have r0:(R.getD 0 []).length=n:=(ok.row _ (bV (by rw[ok.len]; omega))).1;have lr0:((R.getD 0 []).map D.int).length=n:=by rw[bp,r0]
 have a0:atI (R.map dtR) 0=some (dtR (R.getD 0 [])):=qc (i:=0) .(2) (by rw[ok.len]; show 0<m; omega);have hmin:(if ((((R.getD 0 []).map D.int).length:Nat):Int)<((R.map dtR).length:Nat) then ((((R.getD 0 []).map D.int).length:Nat):Int) else ((R.map dtR).length:Nat))=((min m n:Nat):Int):=by rw[lR,lr0];split <;> omega
 refine aM 1 nd (tW (a:=kTT) (hd:=mX)) ?_;generalize e:Expr.Dict [some (Expr.Tuple [] 0 _)] _ _=ex;refine aM 2 nd (s:=.d (bxD kT hdT P w [([],bxD kT hdT P w [([],.int 1)])])) ?_ ?_ (hs:=by subst e; rfl)
 . subst e;generalize e:Expr.Dict [some (Expr.Tuple [] 0 _)] [Expr.Constant _ _ _] _=ex;refine Co (a:=kT) (hd:=hdT) (tD (a:=kT) (hd:=hdT) (key:=[]) (x:=bxD kT hdT P w [([],.int 1)]) hu ?_ ?_ (cK []))
   . show PE _ _ (dE _ _ _ (.d (.tup [])));exact bO ag
   . subst e;refine Co (a:=kT) (hd:=hdT) (m:=[([],.int 1)]) (tD (a:=kT) (hd:=hdT) (key:=[]) (x:=.int 1) hu ?_ af (cK []));show PE _ _ (dE _ _ _ (.d (.tup [])));exact bO ag
 refine cn 3 (g:=λi=>.int (1+(i:Nat))) (λi τ=>i<=min m n/\∃s3 s4 s5 s6 s7,τ=[.d (.lst (R.map dtR)),.x (exK kTT mX P w (fdM R (kys m n i))),.d (bxD kT hdT P w (knM P w R m n i)),s3,s4,s5,s6,s7]) b nd (yQ b af (aE (bo b (ae (bo b .(111) kr) (ae (bo b (ae (aL (aa 0) af (aY a0)) ag) kr) ag)) (FJ b.calm)) af bA) (by rw[hmin]; omega)) (λk hk=>kW _ _ k hk) ⟨Im _,.un,.un,.un,.un,.un,by rw[kn0]; rfl⟩ (λi hi τ h=>?_) λτ h=>?_
 . obtain⟨_,s3,s4,s5,s6,s7,rfl⟩:=h;have hi:i<min m n:=by rw[aP,hmin]at hi; omega
   have e1:(1+(i:Nat):Int)=((i+1:Nat):Int):=by omega
   rw[e1];refine aM 4 nd (tW (a:=kT) (hd:=hdT)) ?_;refine aM 5 nd (x_call b c_choices_of (ae (bo b (ae (aL (aa 0) af (aY a0)) ag) kr) (ae (aa 3) ag)) ⟨n,i+1,by rw[lr0],n7,by omega,rfl⟩) ?_;refine cn 6 (g:=λl=>tpD ((chs m (i+1)).getD l [])) (λl τ=>∃s6 s7,τ=[.d (.lst (R.map dtR)),.x (exK kTT mX P w (fdM R (kys m n i++((chs m (i+1)).take l).flatMap (ky1 n (i+1))))),.d (bxD kT hdT P w (knM P w R m n i)),.d (.int ((i+1:Nat):Int)),.x (exK kT hdT P w (mkM (mT P w R n (i+1)) ((chs m (i+1)).take l))),.d (pO (chs n (i+1))),s6,s7]) b nd (bC (x_call b c_choices_of (ae (bo b .(111) kr) (ae (aa 3) ag)) ⟨m,i+1,by rw[lR],m7,by omega,rfl⟩)) AY ⟨s6,s7,by simp[mkM]; rfl⟩ (λl hl τ h=>?_) λτ h=>?_
   . obtain⟨s6,s7,rfl⟩:=h;have hl:l<(chs m (i+1)).length:=by simpa using hl
     have hs:=bV (d:=[]) hl;generalize hls:(chs m (i+1)).getD l []=ls at hs;have okl:=cq m _ ls hs;have l35:=pR m .(0) (i+1) .(0);have n35:=pR n .(0) (i+1) .(0);have lf:=g9 (mT P w R n (i+1)) ((chs m (i+1)).take l);rw[IX]at lf;have ne:ls≠[]:=λz=>by have:=okl.len; rw[z]at this; cases this
     have last:0<=gS ls/\gS ls<m:=(by have:=okl.at_ i .(0);unfold gS;rw[okl.len];exact this);have hlr:(gS ls).toNat<R.length:=(by rw[ok.len]; omega);have hrow:=ok.row _ (bV (d:=[]) hlr);have pre:=(pI m7 .(0) hs).1;have key:kT.toD (ls.take i)=D.tup (Hy.cutD (ls.map D.int) none (some (-1))):=(DB ls i okl.len).symm
     refine pQ 4 (a:=kT) (hd:=hdT) (key:=ls) (x:=mT P w R n (i+1) ls) hu rfl (aa 6) (x_call b c_one_row_more (ae (sI (a:=kT) (hd:=hdT) (m:=knM P w R m n i) (key:=ls.take i) (x:=mT P w R n i (ls.take i)) hu (aa 2) (by
       rw[key];refine qw (aa 6) iF (fo (mM af)) ?_;rintro⟨_,z⟩;have e:HT.sIx (ls.map D.int).length (ls.map D.int).length (some (-1))=i:=(by unfold HT.sIx;simp only[];rw[if_pos .(2),bp,okl.len];omega);rw[e,bp,okl.len]at z;omega) (eK pre) (cK _) λ_ _=>rfl) (ae (aL (aa 0) (aL (aa 6) (mM af) (aQ (uO ne))) (aY (qc last.1 hlr))) (ae (aa 5) ag))) ⟨_,dtm R i (ls.take i),_,_,b0,1+i*(b0+3),rfl,by omega,λc hc=>?_,hrow.2,by have:=ok.b1; omega,?_,rfl⟩) (Il lf (by unfold sizeLine; omega)) (cK _) ?_
     . have okc:=cq n _ c hc;refine⟨by rw[okc.len]; omega,λk hk=>?_,λk hk=>?_⟩
       . rw[hrow.1];exact okc.at_ k (by rw[okc.len]at hk; exact hk)
       . have hk:k<i+1:=by rw[okc.len]at hk; exact hk
         have:=(pI n7 .(0) hc).2 k hk;exact⟨eK this,yf ok i .(0) _ _ this⟩
     . have:=ok.b1;have:i*(b0+3)<=6*(b0+3):=Iu _ .(0);omega
     have kl:=kys_len (i:=i) m7 n7 .(0);have kk:=zE (t:=i+1) n7 .(0) ((chs m (i+1)).take l) .(21);refine cn 7 (g:=λj=>tpD ((chs n (i+1)).getD j [])) (λj τ=>∃s7,τ=[.d (.lst (R.map dtR)),.x (exK kTT mX P w (fdM R (kys m n i++((chs m (i+1)).take l).flatMap (ky1 n (i+1))++((chs n (i+1)).take j).map λc=>(ls,c)))),.d (bxD kT hdT P w (knM P w R m n i)),.d (.int ((i+1:Nat):Int)),.x (exK kT hdT P w (er (mkM (mT P w R n (i+1)) ((chs m (i+1)).take l)) ls (mT P w R n (i+1) ls))),.d (pO (chs n (i+1))),.d (tpD ls),s7]) b nd (bC (aa 5)) AY ⟨s7,by simp; rfl⟩ (λj hj τ h=>?_) λτ h=>?_
     . obtain⟨s7,rfl⟩:=h;have hj:j<(chs n (i+1)).length:=by simpa using hj
       have hc:=bV (d:=[]) hj;generalize hcs:(chs n (i+1)).getD j []=c at hc;have gF:getM (er (mkM (mT P w R n (i+1)) ((chs m (i+1)).take l)) ls (mT P w R n (i+1) ls)) ls=some (mT P w R n (i+1) ls):=(by rw[r9,if_pos rfl]);refine pQ 1 (a:=kTT) (hd:=mX) (key:=(ls,c)) (x:=.int (vD R (ls,c))) hu rfl (bO (ae (aa 6) (ae (aa 7) ag))) (sI (a:=kT) (hd:=hdT) (key:=c) hu (sk 4 (a:=kT) (hd:=hdT) (key:=ls) hu rfl (aa 6) gF (cK _) dt) (aa 7) ?_ (cK _) dt) ?_ (vm _) (aS ⟨.d (tpD c),?_⟩)
       . rw[eK hc];show _=some (D.int (dtm R ls.length ls c));rw[okl.len]
       . refine Il (g9 _ _) ?_;rw[rp,rp,bp,IX];unfold sizeLine;omega
       . rw[take_snoc [] hj,hcs,Ia,<- IY];unfold fdM;rw[List.map_singleton,gX];rfl
     . obtain⟨s7,rfl⟩:=h;refine aS ⟨.d (tpD ls),s7,?_⟩;rw[take_snoc [] hl,hls,gX,Ky,bp,Io .(3),IY];simp[ky1]
   . obtain⟨s6,s7,rfl⟩:=h;refine BV 4 (a:=kT) (hd:=hdT) (aM 2 nd (aa 4) (aS ⟨hi,.d (.int ((i+1:Nat):Int)),.d (bxD kT hdT P w (knM P w R m n (i+1))),.d (pO (chs n (i+1))),s6,s7,?_⟩));rw[bp,Io .(3)];have e:kys m n (i+1)=kys m n i++(chs m (i+1)).flatMap (ky1 n (i+1)):=by unfold kys; rw[Jt,Ky]; simp
     rw[e];rfl
 . obtain⟨_,s3,s4,s5,s6,s7,rfl⟩:=h;refine Cg 1 (a:=kTT) (hd:=mX) (aX (aa 1) ?_);rw[aP,hmin];show Sl.d (.box (bxW kTT mX P w (fdM R (kys m n ((((min m n:Nat):Int)+1)-1).toNat))))=_;rw[Int.add_sub_cancel,HW]
end
def Qs.sq (h:Qs d v q):Sq (v+d) q:=by refine⟨?_,h.den.mono .(0)⟩;have h1:=h.den;unfold Bd at h1 ⊢;rw[Lv]at h1;rw[JW];exact IB h.val (Lo h1 (Jl v))
noncomputable def rwN (r:List Int):Nd:=.l ((r.map D.int).map .d)
noncomputable def rP (R:List .(123)):Nd:=.l (R.map rwN)
def rw_ok (t:Tq m n M)(hq:∀r∈M,∀x∈r,Qs d v x)(hb:v+(1+n*d)<=1400):Rw m n (v+(1+n*d)) .(142):=by
 refine⟨by unfold whM; simp[t.len],λr hr=>?_,⟨t.r1,t.r7⟩,⟨t.c1,t.c7⟩,hb⟩;unfold whM at hr;obtain⟨i,hi,rfl⟩:=HV.mp hr;rw[Iq]at hi;have mi:M.getD i []∈M:=ba hi;refine⟨by unfold whR; rw[bp]; exact t.row _ mi,λx hx=>?_⟩;unfold whR at hx;obtain⟨q,hq',rfl⟩:=HV.mp hx;have e:(M.map scL).getD i 0=scL .(103):=by simp[hi]
 rw[e];have:=kf (d:=d) (r:=M.getD i []) λx hx=>(hq _ mi x hx).den;rw[t.row _ mi]at this;exact Fs (hq _ mi q hq') ((k6 _).2 q hq') this
noncomputable def fuO (R:List .(123))(m n:Nat)(t:Int):Option .(128):=(((fdM R (kys m n (min m n))).map (·.1)).find? λp=>decide (vD R p<t))
noncomputable def fuD:Option .(128)->D
 | none=>.non
 | some p=>.tup [.lst (p.1.map .int),.lst (p.2.map .int)]
def vn :fuO R m n t=none↔∀p∈kys m n (min m n),t<=vD R p:=by
 unfold fuO;rw[List.find?_eq_none];constructor
 . intro h p hp;have:=h p (HV.mpr ⟨_,lO (eK (v:=λp=>D.int (vD R p)) hp),rfl⟩);have:=of_decide_eq_false (by simpa using this:decide (vD R p<t)=false);omega
 . intro h p hp;obtain⟨q,hq,rfl⟩:=HV.mp hp;have:=h _ (ir hq).1;simp;omega
def Ab :cH X (GE .Is) (fuD o) .non (.bl o.isNone):=⟨_,Dd,λ_ v w H Q _ d1 d2 k=>by
 cases d2;cases o with
 | none=>cases d1; exact⟨rfl,by rw[decide_eq_true rfl]; exact k _ H .(102) .bl⟩
 | some i=>cases d1; exact⟨rfl,by rw[decide_eq_false (by intro z; cases z)]; exact k _ H .(102) .bl⟩⟩
noncomputable def fuS:Option .(128)->Sl
 | none=>.d .non
 | some p=>.n (.t [rwN p.1,rwN p.2])
def eZ (ds:List D)(r:Sl):Prop:=∃(m n d v:Nat) (M:List .(109)) (t:Int),ds=[tbQ M,.int t]/\Tq m n M/\(∀r∈M,∀x∈r,Qs d v x)/\v+(1+n*d)<=1400/\r=fuS (fuO .(142) m n t)
section
variable {P:FB}{w:World}{K:fw}{mg:Str->Option Value}{base:Heap}{k:Nat}{f:Addr}{fd:Gc}{qual:Str}
def lK (F:Fun K "first_under" qual (top 28) f fd)(hb:.(92))(c_all_determinants:.(90) "all_determinants" (cD P w))(c_whole_rows:.(90) "whole_rows" fW)(c_scale_of:.(90) "scale_of" i6):.(91) ["table","bound"] (spD K eZ):=by
 refine fnD F gO hb (by rintro _ _ ⟨_,_,_,_,_,_,rfl,_⟩; rfl) ?_;rintro _ _ ⟨m,n,d,v,M,t,rfl,tq,hq,hz,rfl⟩ cdv A outer s H E b;have nd:=gO.nd;have hu:(Xc P w K mg base ["table","bound","found","choices"] qual (top 28) f cdv A outer s H E).A.units+16<cLine:=IB .(7) b.room.units;have r7:=tq.r7;have c7:=tq.c7;have nd1:d<=n*d:=Nat.le_mul_of_pos_left d tq.c1;have ok:=rw_ok tq hq hz;generalize hRR:whM M (M.map scL)=R at ok;have es:(D.lst ((M.map scL).map .int))=.lst ((ox (M.map rwQ).length).map λi=>D.int (scL .(103))):=by exact congrArg D.lst (((gm (λr:List Rat=>D.int (scL r)) M [] .(17)).trans .(20)).symm)
 refine aM 2 nd (x_call b c_all_determinants (ae (bf (x_call b c_whole_rows (ae (aa 0) (ae (bf (dD (cmp 0 (g:=λi=>rwQ .(103)) (f:=λi=>.int (scL .(103))) b (bC (aa 0)) (cU (f:=rwQ) (xs:=M) []) (by rw[bp,tq.len]; omega) λi hi s0 H0 fp=>(x_call .(107) c_scale_of .(111) ⟨_,d,rfl,?_,?_,?_,?_,rfl⟩)))) ag)) ⟨M,M.map scL,v+d,by rw[es],by rw[bp],by rw[tq.len]; omega,λr hr=>⟨by rw[tq.row r hr]; omega,λx hx=>(hq r hr x hx).sq⟩,by omega,?_,rfl⟩)) ag) ⟨R,m,n,_,by rw[hRR],ok,rfl⟩) ?_
 . rw[tq.row _ (ba (by simpa using hi))]; omega
 . exact λx hx=>(hq _ (ba (by simpa using hi)) x hx).den
 . rw[tq.row _ (ba (by simpa using hi))]; omega
 . omega
 . intro s hs;obtain⟨r,hr,rfl⟩:=HV.mp hs;have:=kf (d:=d) (r:=r) λx hx=>(hq _ hr x hx).den;rw[tq.row r hr]at this;exact this.mono .(0)
 have hall:∀p∈(fdM R (kys m n (min m n))).map (·.1),getM (fdM R (kys m n (min m n))) p=some (.int (vD R p)):=λp hp=>by obtain⟨q,hq,rfl⟩:=HV.mp hp;exact eK (ir hq).1
 unfold fuO;generalize hks:(fdM R (kys m n (min m n))).map (·.1)=ks at hall;have em:(fdM R (kys m n (min m n))).map (λp=>kTT.toD p.1)=ks.map kTT.toD:=by rw[<- hks,IC]; rfl
 refine cn 3 (g:=λi=>kTT.toD (ks.getD i ([],[]))) (λi τ=>(ks.take i).find? (λp=>decide (vD R p<t))=none/\∃s3,τ=[.d (tbQ M),.d (.int t),.d (.box (bxW kTT mX P w (fdM R (kys m n (min m n))))),s3]) b nd (em▸uu (aa 2)) (cU (f:=kTT.toD) (xs:=ks) ([],[])) ⟨rfl,.un,rfl⟩ (λi hi τ h=>?_) λτ h=>?_
 . obtain⟨h0,s3,rfl⟩:=h;have hi:i<ks.length:=by simpa using hi
   have mi:ks.getD i ([],[])∈ks:=ba hi;have g:=hall _ mi;have es:ks.take (i+1)=ks.take i++[ks.getD i ([],[])]:=take_snoc _ hi;generalize hp:ks.getD i ([],[])=p at g es;refine eD (aZ (sZ (a:=kTT) (hd:=mX) (key:=p) hu (aa 2) (aa 3) g (vm _) dt) (aa 1) qQ) (λh=>?_) λh=>?_
   . have e:ks.find? (λp=>decide (vD R p<t))=some p:=by
       have e1:ks=ks.take i++p::ks.drop (i+1):=(by have:=L1 (i+1) ks;rw[es,IY]at this;exact this.symm);rw[e1,MA,h0,JU,h];rfl
     rw[e];exact aX (ub (gE (pB b (ae (aL (aa 3) af (aQ rfl)) ag) pJ) rfl (gE (pB b (ae (aL (aa 3) af (aQ rfl)) ag) pJ) rfl ye))) rfl
   . refine aS ⟨?_,_,rfl⟩;rw[es,MA,h0,JU,h];rfl
 . obtain⟨h0,s3,rfl⟩:=h;rw[bp,Io .(3)]at h0;rw[h0];exact aX mI rfl
end
end K33
namespace Ev
open PySem PySem.Spec PyProof.Rows L2 PySem.W
section
variable {prog:FB}{w:World}{d:Addr}{o:Obj}{es:Array Oh}{ep:Nat}
def EV (h0:(d==N9)=false)(hx:o.ExactDict)(hdat:o.data=.dict es ep):KdlSrc prog w "dict" d d es.size (λi v=>∃h:i<es.size,v=es[i].key) (λh=>h.get? d=some o) where
 type:=λs h=>⟨o,h,hx.1⟩
 there:=λh e=>⟨HY e,HY e⟩
 keep:=λh h' e k=>k d (.inl rfl) o e
 notList:=by decide
 notTuple:=by decide
 hint:=λA E s Q e q=>kdl_hint_dict ⟨o,e,hx.1⟩ q
 iter:=λA s hh e=>by
   have ne:d≠s.heap.objs.size:=IL (HY e);refine⟨_,λi h=>h.get? d=some o/\h.IsKeyIter s.heap.objs.size d i es.size ep,λE Q q=>uC h0 e hx hdat q,?_,pq _ e,⟨_,Ib _ rfl,rfl,rfl⟩⟩
   exact {
     sub:=λb hb=>by rw[gV.mp hb]; exact IF ..
     frame:=λi h h' st k=>⟨k d .(4) o st.1,st.2.at λo e=>k _ .(5) o e⟩
     item:=λi s' Q E hi st hQ=>vV st.2 st.1 hdat hi λh' st' sb=>hQ _ h' s'.toks ⟨hi,rfl⟩ ⟨(sb.2 d ne).trans st.1,st'⟩ λb o' hb e'=>(sb.2 b λz=>hb (by rw[z]; exact gV.mpr rfl)).trans e'
     done:=λs' Q E st hQ=>xR hh st.2 st.1 hdat .(3) λh' eb=>hQ h' s'.toks λb o' hb e'=>eb b o' (λz=>hb (by rw[z]; exact gV.mpr rfl)) e'
     self:=λi s' Q E st h=>Oc st.2 h }
end
section
variable {K:Type}[DecidableEq K]{a:KD K}{hd:a.dep<=7}{X:Cx}
def oE:∀xs:NEs K,Vals (xs.map λx=>V.ref x.2.1) (xs.map λx=>IT x.2.1)
 | []=>.nil
 | _::xs=>.cons rfl (oE xs)
def lC (hc:X.calm=true):fH X (.type "list") (λvs H Q=>∃d xs,vs=[.ref d]/\H d=some (dNk a hd X.prog X.w d xs)/\xs.length<=sizeLine/\∀l,H l=none->Q (.ref l) (upd H l (.lst (xs.map λx=>.ref x.2.1)))):=by
 intro pins s σ H vs us Q I r h;obtain⟨d,xs,rfl,ha,hz,q⟩:=h;obtain⟨u,rfl,rx⟩:=vals1 r;cases rx;obtain⟨⟨h0,o,es,ep,h1,h2,h3,h4,h5⟩,_⟩:=(show bL X.prog X.w H s.heap d (dNk a hd X.prog X.w d xs) from I.hok d _ ha);have hl:es.size=xs.length:=by rw[<- Jy,h4,bp]
 refine kdl_call (EV h0 h2 h3) (I.ok.hd hc) h1 .(0) λh' tk acc' c' kp e it=>?_
 have ea:acc'.toList=xs.map λx=>IT x.2.1:=by
   refine Jw (by rw[Jy,it.1,bp,hl]) λi z1 z2=>?_;rw[Jy]at z1;obtain⟨g,e⟩:=it.2 i acc'[i] (Kp z1);rw[Array.getElem_toList,e];have hi:i<xs.length:=by omega
   have e:es.toList[i]?=some (Om (kd a hd X.prog X.w) xs[i]):=by rw[h4,Iy,ph hi]; rfl
   rw[LU,Kp g]at e;rw[IM e,JG];rfl
 have e':h'.get? s.heap.objs.size=some { cls:=.type "list",dict:=none,data:=.seq (xs.map λx=>IT x.2.1).toArray c',slots:=#[] }:=by rw[<- ea,Array.toArray_toList]; exact e
 exact⟨.ref s.heap.objs.size,_,I.laid (t':=tk) kp .(3) (show bL X.prog X.w _ h' _ (.lst (xs.map λx=>.ref x.2.1)) from⟨by rw[bp]; exact hz,_,c',oE xs,e'⟩),rfl,q _ (I.hok.fresh .(3))⟩
end
end Ev
namespace Hy
open PySem PySem.Spec PyProof.Rows L2
open Ev (D Den aw KD NEs dNk iC Bx aq lC)
section
variable {K:Type}[DecidableEq K]{a:KD K}{hd:a.dep<=7}{X:Cx}{τ:List Sl}{pos p q:Pos}{k:Nat}{m:List (K×D)}
theorem EnK.refs :∀{xs:NEs K} {m:List (K×D)},EnK a F G xs m->aw F G (xs.map λx=>V.ref x.2.1) (m.map λp=>a.toD p.1)
 | _,_,.nil=>.nil
 | _,_,.cons h _ _ r=>.cons h r.refs
def Br (i:Nat){n:Str}(B:Bk X k)(hi:τ[i]?=some (.x (exK a hd X.prog X.w m)))(hl:m.length<=sizeLine)(hN:X.N[i]?=some n:=by rfl)
   (hv:Vis X.env.scope n:=by first | exact Ka rfl | exact Ji .(10) | exact Ji .(9)) (hd1:(n==("__debug__" : Str))=false:=by decide) (hcd:(n==("__classdict__" : Str))=false:=by decide)
   (hg:Gl X "list":=by rfl) (he:Do [.Name n q] X.env=(false,eval (.Name n q) X.env)::Do [] X.env:=by rfl) (hpl:(KF pos (Do [] X.env)).any (·.1)=false:=by rfl):PE X (.Call (.Name "list" p) [.Name n q] [] pos) (dE X.K true τ (.o (m.map λp=>a.toD p.1))):=
 peW (nL (lC (a:=a) (hd:=hd) B.calm) hg (B.blt _ .(2)) .(23) (bh (bw (i:=i) hN hv hd1 hcd) cw he) .(2) .(2) he hpl) λσ H Q ⟨A,H₀,B,S,kk⟩=>by obtain⟨d,xs,e1,e2,e3,e4⟩:=S.dct hi;refine⟨_,slot_of e1,d,xs,rfl,e3,by rw[e4.length]; exact hl,λp hp=>?_⟩;obtain⟨z1,z2,z3⟩:=jP (K:=X.K) (M:=own A B) hp e4.refs;exact kk _ _ [p] z1 z2 z3
end
end Hy
namespace Ev
open PySem PySem.Spec PyProof.Rows L2
structure M0 (X:Cx)(o:Expr)(m:Str)(apos:Pos)(cpos:Pos):Prop where
 base:N4 o m X.env (eval o X.env)=eval o X.env
 few:((KF cpos (Do [] X.env)).all (λx=>!x.1)&&(NO cpos (N8 [] X.env)).all (λx=>x.1.isSome)
   && decide (([]:List Expr).length+([]:List N6).length+(if ([]:List N6).isEmpty then 0 else 1)<30))=true
 line:(apos.endLine==cpos.line)=true
 trees:KF cpos (Do [] X.env)=[]
end Ev
namespace Hy
open PySem PySem.Spec PyProof.Rows L2
open Ev (D Den aw Bx aq cO M0)
section
variable {X:Cx}{C:Bool}{τ:List Sl}{e:Expr}{m:List (Int×Int)}
def Gq (h:PE X e (dE X.K C τ (.x (exZ m)))):PE X e (dE X.K C τ (.d (.box (bxZ m)))):=by
 intro pins s σ H Q I q;obtain⟨A,H₀,B,S,kk⟩:=dj q;have vd:=S.vd (C:=C);refine thn (h pins s σ H (λv H'=>∃d,v=.ref d/\ao H H'/\H d=none/\H' d=some (.dK (cO m))) I ⟨A,H₀,B,S,λv H' bs e hf ⟨d,o,h1,h2,h3,h4⟩=>?_⟩) λu s1 ⟨x,H1,I1,rx,d,ex,e,hn,h3⟩=>?_
 . cases h2;cases (show o=_ from h4);subst h1;exact⟨d,rfl,e,(hf d (gV.mpr rfl)).1,h3⟩
 . subst ex;obtain⟨z,hd0,vs,rel,dd⟩:=vo I1.hok h3;obtain⟨o,es,ep,e0,r⟩:=id dd;have I2:Inv X pins σ (upd H1 d (.frz o (.dK (cO m)))) s1:=gh (t':=s1.toks) (h':=s1.heap) I1 (by rw[h3]; exact J6) (.refl _ _) ⟨o,e0⟩ ⟨e0,qb z hd0 rel dd⟩;have un:¬vw C A B d:=λz=>by obtain⟨_,q⟩:=vd d z;rw[hn]at q;cases q
   refine⟨.ref d,_,I2,rx,kk _ _ (λb o' hb=>?_) (.box ⟨o,ar.mpr ⟨un,aN⟩⟩)⟩;rw[aF (λz=>by rw[z,hn]at hb; cases hb)];exact e b o' hb
end
end Hy
namespace K33
open PySem PySem.Spec PyProof.Rows L2 Hy
open Ev (D Den aw aI aK)
noncomputable def bY (n:Nat)(rs:List .(123)):List (Int×Int):=rs.foldl (λkv r=>bK n r kv kv.length) [(0,1)]
def gd (n:Nat)(rs:List .(123))(r:List Int):bY n (rs++[r])=bK n r (bY n rs) (bY n rs).length:=by unfold bY; rw[Km]; rfl
theorem qU (n:Nat)(rs:List .(123)):∀i,i<=rs.length->RI n i (dtM rs) (bY n (rs.take i))
 | 0,_=>RI.zero n _
 | i+1,h=>by have e:rs.take (i+1)=rs.take i++[rs.getD i []]:=take_snoc _ .(0);rw[e,gd];exact(qU n rs i .(0)).step λj _=>rfl
def fN (n:Nat)(rs:List .(123)):RI n rs.length (dtM rs) (bY n rs):=by
 have:=qU n rs rs.length .(3)
 rwa [Io .(3)]at this
theorem jQ (n:Nat)(rs:List .(123)):∀i,i<=rs.length->(bY n (rs.take i)).length<=n^i
 | 0,_=>IE 1
 | i+1,h=>by have e:rs.take (i+1)=rs.take i++[rs.getD i []]:=take_snoc _ .(0);rw[e,gd,K2];exact Il (jW _ _ _ _) (Iu _ (jQ n rs i .(0)))
def yK (h:q∈gz kv k v):q.2=v\/q∈kv:=by
 unfold gz at h;split at h
 . obtain⟨p,hp,e⟩:=HV.mp h;by_cases z:p.1=k
   . rw[if_pos z]at e; exact .inl (by rw[<- e])
   . rw[if_neg z]at e; exact .inr (e▸hp)
 . rcases vp.mp h with h | h
   . exact .inr h
   . exact .inl (by rw[gV.mp h])
def BF (h:∀q∈kv,q.2.natAbs<=N):((bS kv k).getD 0).natAbs<=N:=by
 cases e:bS kv k with
 | none=>simp
 | some v=>unfold bS at e;obtain⟨p,h1,h2⟩:=KP.mp e;rw[<- h2];exact h p (Kq h1)
theorem uS (hW:∀j,(row.getD j 0*v).natAbs<=W)(h:∀q∈kv,q.2.natAbs<=N):∀c,∀q∈(cF n row k v kv c).2,q.2.natAbs<=N+c*W
 | 0,q,hq=>by have:=h q hq; omega
 | c+1,q,hq=>by
   have ih:=uS (n:=n) (k:=k) hW h c;rw[cF,mh]at hq;rw[Jr];split at hq
   . have:=ih q hq; omega
   . rcases yK hq with e | hq
     . have h1:=BF (k:=lV k (n-1-c)) ih;have h2:(sgZ (cF n row k v kv c).1*row.getD (n-1-c) 0*v).natAbs<=W:=by rw[Nz,JE];have:=hW (n-1-c);rcases rj (cF n row k v kv c).1 with z | z <;> rw[z] <;> simpa using this
       rw[e];omega
     . have:=ih q hq; omega
theorem rX (hW:∀j q,q∈kv->(row.getD j 0*q.2).natAbs<=W):∀t,∀q∈bK n row kv t,q.2.natAbs<=t*n*W
 | 0,q,hq=>nomatch hq
 | t+1,q,hq=>by
   rw[bK]at hq;have ih:=rX (n:=n) hW t
   have:=uS (N:=t*n*W) (W:=W) (λj=>by
     cases e:bS kv (kv.getD t (0,0)).1 with
     | none=>simp
     | some v=>
       unfold bS at e;obtain⟨p,h1,h2⟩:=KP.mp e;rw[LI,<- h2];exact hW j p (Kq h1)) ih n q hq
   rw[Jr,Nat.add_mul];exact this
theorem rS {rs:List .(123)}(hn:n<=7)(hl:rs.length<=7)(hr:∀r∈rs,∀x∈r,Bd b x):∀i,i<=rs.length->∀q∈bY n (rs.take i),Bd (1+i*(b+24)) q.2
 | 0,_,q,hq=>by cases gV.mp hq;unfold Bd;rw[Nat.zero_mul];decide
 | i+1,h,q,hq=>by
   have e:rs.take (i+1)=rs.take i++[rs.getD i []]:=take_snoc _ .(0);rw[e,gd]at hq;have ih:=rS hn hl hr i .(0);have hl1:=jQ n rs i .(0);have hl2:n^i<=7^7:=Il (Nat.pow_le_pow_left hn i) (Ir .(2) .(0))
   have:=rX (n:=n) (row:=rs.getD i []) (W:=2^(b+(1+i*(b+24)))) (λj q hq=>by
     have h1:Bd b ((rs.getD i []).getD j 0):=by
       by_cases hj:j<(rs.getD i []).length
       . exact hr _ (bV .(0)) _ (bV hj)
       . rw[getD_none .(0)]; exact Jl b
     exact JO (h1.mul (ih q hq))) _ q hq
   unfold Bd;have e2:1+(i+1)*(b+24)=(b+(1+i*(b+24)))+24:=by rw[Jr]; omega
   rw[e2,JW];have p0:=Jl (b+(1+i*(b+24)));have h7:(7:Nat)^7=823543:=by decide
   have:(bY n (rs.take i)).length*n<=823543*7:=Ju .(0) hn;have l2:(bY n (rs.take i)).length*n*2^(b+(1+i*(b+24)))<=823543*7*2^(b+(1+i*(b+24))):=Iu _ this;have l3:823543*7*2^(b+(1+i*(b+24)))<2^(b+(1+i*(b+24)))*2^24:=by rw[Nat.mul_comm];exact Lo .(2) p0
   omega
noncomputable def lnR (R:List .(123))(ls:List Int):List .(123):=ls.map λi=>R.getD i.toNat []
noncomputable def vMn (R:List .(123))(n:Nat)(ls:List Int):D:=.box (bxZ (bY n (lnR R ls)))
noncomputable def nxK (n i:Nat)(ks:List .(123)):List .(123):=(ks.filter λls=>decide (ls.length<n)).map λls=>ls++[(i:Int)]
noncomputable def lks (R:List .(123))(n:Nat):Nat->List .(123)
 | 0=>[[]]
 | i+1=>lks R n i++nxK n i (.(120).map (·.1))
def u7 (n i:Nat)(ks:List .(123)):(nxK n i ks).length<=ks.length:=by unfold nxK;rw[bp];exact List.length_filter_le ..
theorem vh (R:List .(123))(n:Nat):∀i,(lks R n i).length<=2^i
 | 0=>IE 1
 | i+1=>by have h1:=vh R n i;have h2:=u7 n i (.(120).map (·.1));have h3:=g9 (vMn R n) (lks R n i);rw[bp]at h2;rw[lks,rp,K2];omega
structure Ls (n i:Nat)(ls:List Int):Prop where
 len:ls.length<=n
 at_:∀x∈ls,0<=x/\x<i
def DA (h:∀ls∈ks,Ls n i ls):∀ls∈nxK n i ks,Ls n (i+1) ls:=λls hs=>by
 unfold nxK at hs;obtain⟨l,hl,rfl⟩:=HV.mp hs;rw[JL]at hl;have h1:=h l hl.1;have h2:=of_decide_eq_true hl.2;refine⟨by rw[rp,IZ]; omega,λx hx=>?_⟩;rcases vp.mp hx with hx | hx
 . have:=h1.at_ x hx; omega
 . rw[gV.mp hx]; omega
theorem lks_ok (R:List .(123))(n:Nat):∀i,∀ls∈lks R n i,Ls n i ls
 | 0,ls,h=>by rw[gV.mp h];exact⟨Im _,λ_ z=>nomatch z⟩
 | i+1,ls,h=>by
   have ih:=lks_ok R n i;rcases vp.mp h with h | h
   . have:=ih ls h;exact⟨this.len,λx hx=>by have:=this.at_ x hx; omega⟩
   . refine DA (λl hl=>?_) ls h;obtain⟨q,hq,rfl⟩:=HV.mp hl;exact ih _ (ir hq).1
def i7 (P:FB)(w:World)(ds:List D)(r:Sl):Prop:=∃(R:List .(123)) (m n b:Nat),ds=[.lst (R.map dtR)]/\Rw m n b R/\r=.d (.box (bxW kT hdT P w .(112)))
def mn0 (R:List .(123))(n:Nat):mkM (vMn R n) (lks R n 0)=[([],D.box (bxZ [(0,1)]))]:=rfl
def yH (R:List .(123))(n i:Nat)(ls:List Int):vMn R n (ls++[(i:Int)])=.box (bxZ (bK n (R.getD i []) (bY n (lnR R ls)) (bY n (lnR R ls)).length)):=by
 unfold vMn;have e:lnR R (ls++[(i:Int)])=lnR R ls++[R.getD i []]:=by unfold lnR; rw[Ia]; rfl
 rw[e,gd]
def xw (n i:Nat)(ks:List .(123))(ls:List Int):nxK n i (ks++[ls])=nxK n i ks++if ls.length<n then [ls++[(i:Int)]] else []:=by
 unfold nxK;rw[JD,Ia];congr 1;by_cases h:ls.length<n
 . rw[if_pos h,K4,if_pos (by simpa using h)]; rfl
 . rw[if_neg h,K4,if_neg (by simpa using h)]; rfl
section
variable {P:FB}{w:World}{K:fw}{mg:Str->Option Value}{base:Heap}{k:Nat}{f:Addr}{fd:Gc}{qual:Str}
def rF (F:Fun K "_law_minors" qual (top 50) f fd)(hb:.(92)):.(91) ["_law_rows_here"] (spD K (i7 P w)):=by
 refine fnD F kj hb (by rintro _ _ ⟨_,_,_,_,rfl,_⟩; rfl) ?_;rintro _ _ ⟨R,m,n,b0,rfl,ok,rfl⟩ cdv A outer s H E b;have nd:=kj.nd;have hu:.(126).A.units+16<cLine:=IB .(7) b.room.units;have hu1:.(126).A.units+1<cLine:=IB (Mm (by decide:1<=64) _) b.room.units;obtain⟨⟨m1,m7⟩,n1,n7⟩:=And.intro ok.m1 ok.n1;have lR:(R.map dtR).length=m:=by rw[bp,ok.len]
 have r0:(R.getD 0 []).length=n:=(ok.row _ (bV (by rw[ok.len]; omega))).1;have lr0:((R.getD 0 []).map D.int).length=n:=by rw[bp,r0]
 have a0:atI (R.map dtR) 0=some (dtR (R.getD 0 [])):=qc (i:=0) .(2) (by rw[ok.len]; show 0<m; omega);refine aM 1 nd (bo b (ae (aL (aa 0) af (aY a0)) ag) (gc lr0)) ?_;generalize e:Expr.Dict [some (Expr.Tuple [] 0 _)] _ _=ex;refine aM 2 nd (s:=.x (exK kT hdT P w [([],D.box (bxZ [(0,1)]))])) ?_ ?_ (hs:=by subst e; rfl)
 . subst e;generalize e:Expr.Dict [some (Expr.Constant _ _ _)] _ _=ex;refine tD (a:=kT) (hd:=hdT) (key:=[]) (x:=D.box (bxZ [(0,1)])) hu ?_ ?_ (cK [])
   . show PE _ _ (dE _ _ _ (.d (.tup [])));exact bO ag
   . subst e;exact Gq Ew
 refine cn 3 (λi τ=>i<=m/\∃s3 s4 s5 s6 s7 s8 s9 s10,τ=[.d (.lst (R.map dtR)),.d (.int n),.x (exK kT hdT P w .(120)),s3,s4,s5,s6,s7,s8,s9,s10]) b nd (eX b (bo b .(111) (gc lR)) .(0) .(0)) eV ⟨Im _,.un,.un,.un,.un,.un,.un,.un,.un,by rw[mn0]; rfl⟩ (λi hi τ h=>?_) λτ h=>?_
 . obtain⟨_,s3,s4,s5,s6,s7,s8,s9,s10,rfl⟩:=h;have hi:i<m:=by rw[aP]at hi; omega
   have hiR:i<R.length:=by rw[ok.len]; exact hi
   have hrow:=ok.row _ (bV (d:=[]) hiR);have aRi:atI (R.map dtR) (i:Int)=some (dtR (R.getD i [])):=qc (i:=(i:Int)) .(0) .(0);have kl:=g9 (vMn R n) (lks R n i);have ll:=vh R n i;have p2:2^i<=2^7:=Ir .(2) .(0);have hks:∀ls∈.(120).map (·.1),ls∈lks R n i:=λls h=>by obtain⟨q,hq,rfl⟩:=HV.mp h;exact(ir hq).1
   have lkl:(.(120).map (·.1)).length<=128:=by rw[bp]; omega
   have eL:lks R n (i+1)=lks R n i++nxK n i (.(120).map (·.1)):=rfl;have em:.(120).map (λp=>kT.toD p.1)=(.(120).map (·.1)).map kT.toD:=by rw[IC]; rfl
   refine cn 4 (g:=λl=>kT.toD ((.(120).map (·.1)).getD l [])) (λl τ=>∃s4 s5 s6 s7 s8 s9 s10,τ=[.d (.lst (R.map dtR)),.d (.int n),.x (exK kT hdT P w (mkM (vMn R n) (lks R n i++nxK n i ((.(120).map (·.1)).take l)))),.d (.int (i:Nat)),s4,s5,s6,s7,s8,s9,s10]) b nd (em▸bC (bf (Br 2 (a:=kT) (hd:=hdT) b rfl (Il kl (Il ll (Il p2 .(2))))))) (cU (f:=kT.toD) []) ⟨s4,s5,s6,s7,s8,s9,s10,by rw[List.take_zero]; show _=[_,_,Sl.x (exK kT hdT P w (mkM (vMn R n) (lks R n i++[]))),_,_,_,_,_,_,_,_]; rw[Jc]; rfl⟩ (λl hl τ h=>?_) λτ h=>?_
   . obtain⟨s4,s5,s6,s7,s8,s9,s10,rfl⟩:=h;generalize .(120).map (·.1)=ks at hl hks lkl;have hl:l<ks.length:=by simpa using hl
     have hs:=hks _ (bV (d:=[]) hl);have es:ks.take (l+1)=ks.take l++[ks.getD l []]:=take_snoc _ hl;rw[es,xw];generalize ks.getD l []=ls at hs;have okl:=lks_ok R n i ls hs;have nl:=u7 n i (ks.take l);rw[IX]at nl;generalize nxK n i (ks.take l)=nx at nl;have gK:getM (mkM (vMn R n) (lks R n i++nx)) ls=some (.box (bxZ (bY n (lnR R ls)))):=eK (v:=vMn R n) (Ie _ hs);have ml:=g9 (vMn R n) (lks R n i++nx);rw[rp]at ml;have lnl:(lnR R ls).length=ls.length:=(by unfold lnR; rw[bp]);have RIk:=fN n (lnR R ls);have kvl:=jQ n (lnR R ls) _ .(3)
     have kvb:=rS (n:=n) (b:=b0) (rs:=lnR R ls) n7 (by have:=okl.len; omega) (λr hr x hx=>by
       unfold lnR at hr;obtain⟨y,hy,rfl⟩:=HV.mp hr;have:=okl.at_ y hy;exact(ok.row _ (bV (by rw[ok.len]; omega))).2 x hx) _ .(3)
     rw[Io .(3)]at kvl kvb;have kv7:n^(lnR R ls).length<=7^7:=Il (Nat.pow_le_pow_left n7 _) (Ir .(2) (by have:=okl.len; omega));have h77:(7:Nat)^7=823543:=(by decide);have vS:=yH R n i ls;generalize bY n (lnR R ls)=kv at gK RIk kvl kvb vS;generalize hRow:R.getD i []=row at hrow aRi vS;refine aM 5 nd EY ?_;refine cn 6 (g:=λt=>.int .(136).1) (λt τ=>∃s6 s7 s8 s9 s10,τ=[.d (.lst (R.map dtR)),.d (.int n),.x .(130),.d (.int (i:Nat)),.d (kT.toD ls),.x (exZ (bK n row kv t)),s6,s7,s8,s9,s10]) b nd (vQ (sk 2 (a:=kT) (hd:=hdT) (key:=ls) hu rfl (aa 4) gK (cK _) dt)) A8 ⟨s6,s7,s8,s9,s10,rfl⟩ (λt ht τ z=>?_) λτ z=>?_
     . obtain⟨s6,s7,s8,s9,s10,rfl⟩:=z;have ht:t<kv.length:=by simpa using ht
       have hq:kv.getD t (0,0)∈kv:=bV ht;have hg:bS kv .(136).1=some .(136).2:=oR RIk.nd hq;have hv:=kvb _ hq;have hml:=jW n row kv t;have hml2:t*n<=823543*7:=Ju .(0) n7;have eM:bK n row kv (t+1)=(cF n row .(136).1 .(136).2 (bK n row kv t) n).2:=(by rw[bK,hg]; rfl);rw[eM];generalize bK n row kv t=lk at hml;generalize .(136).1=mk at hg;generalize .(136).2=v at hg hv;refine aM 7 nd af ?_;refine cn 8 (g:=λc=>.int ((n-1-c:Nat):Int)) (λc τ=>∃s8 s9 s10,τ=[.d (.lst (R.map dtR)),.d (.int n),.x .(130),.d (.int (i:Nat)),.d (kT.toD ls),.x (exZ (cF n row mk v lk c).2),.d (.int mk),.d (.int (cF n row mk v lk c).1),s8,s9,s10]) b nd (HQ (n:=n) b (aa 1) .(0)) HE ⟨s8,s9,s10,rfl⟩ (λc hc τ z=>?_) λτ z=>?_
       . obtain⟨s8,s9,s10,rfl⟩:=z;have hc:c<n:=by rw[jI]at hc; exact hc
         have hcl:=mE n row mk v lk c;have hj:n-1-c<row.length:=(by rw[hrow.1]; omega);have eC:cF n row mk v lk (c+1)=mh row mk v (n-1-c) (cF n row mk v lk c):=rfl;rw[eC];generalize cF n row mk v lk c=st at hcl;generalize n-1-c=j at hj;have j7:j<7:=(by have:=hrow.1; omega);refine gq (M:=λτ=>∃s8 s9 s10,τ=[.d (.lst (R.map dtR)),.d (.int n),.x .(130),.d (.int (i:Nat)),.d (kT.toD ls),.x (exZ (mh row mk v j st).2),.d (.int mk),.d (.int (mh row mk v j st).1),s8,s9,s10]) (aZ (aE (aE (aa 6) (aa 8) (CC .(0))) af Cq) af fD) (λz=>?_) (λz=>?_) λτ z=>by obtain⟨s8,s9,s10,rfl⟩:=z;exact aS ⟨s8,s9,s10,rfl⟩
         . have z:sh mk j=true:=by unfold sh;rw[HW]at z;exact z
           have e:mh row mk v j st=(st.1+1,st.2):=(by unfold mh; rw[if_pos z]);rw[e];exact aM 7 nd (aE (aa 7) af bA) (aS ⟨_,_,_,rfl⟩)
         . have z:sh mk j=false:=by unfold sh;rw[HW]at z;exact z
           have e:mh row mk v j st=(st.1,gz st.2 (lV mk j) ((bS st.2 (lV mk j)).getD 0+sgZ st.1*row.getD j 0*v)):=(by unfold mh; rw[if_neg (by rw[z]; decide)]);have hx:Bd b0 (row.getD j 0):=hrow.2 _ (bV hj)
           have s2:aI (row.getD j 0) v:=hx.aI hv (by have:=ok.b1; omega) (by
             have:=ok.b1;have:(lnR R ls).length*(b0+24)<=7*(b0+24):=Iu _ (by have:=okl.len; omega);omega)
           rw[e];refine aM 9 nd (aE (aa 6) (aE af (aa 8) (Gz ⟨by omega,by omega,by decide⟩)) Hg) ?_;rw[HW];show PSs _ _ (dS K [.d (.lst (R.map dtR)),.d (.int n),.x .(130),.d (.int (i:Nat)),.d (kT.toD ls),.x (exZ st.2),.d (.int mk),.d (.int st.1),.d (.int (j:Nat)),.d (.int (lV mk j)),_] _);refine aM 10 nd (aE (aL (aL (aa 0) (aa 3) (aY aRi)) (aa 8) (aY (atR hj))) (xU hu1 (sk 2 (a:=kT) (hd:=hdT) (key:=ls) hu rfl (aa 4) gK (cK _) dt) (aa 6) hg dt) (bz s2)) ?_;refine gq (M:=λτ=>τ=[.d (.lst (R.map dtR)),.d (.int n),.x .(130),.d (.int (i:Nat)),.d (kT.toD ls),.x (exZ st.2),.d (.int mk),.d (.int st.1),.d (.int (j:Nat)),.d (.int (lV mk j)),.d (.int (sgZ st.1*row.getD j 0*v))]) (aZ (aE (aa 7) af (bG .(2))) af fD) (λz=>?_) (λz=>?_) λτ z=>?_
           . have z:=of_decide_eq_true z;have e2:sgZ st.1=-1:=by unfold sgZ; rw[z]; rfl
             rw[e2,Nz,Int.neg_mul,Int.one_mul];exact aM 10 nd (mM (aa 10)) (aS rfl)
           . have z:=of_decide_eq_false z
             have e2:sgZ st.1=1:=by
               rcases rj st.1 with h | h
               . exact h
               . unfold sgZ at h; omega
             rw[e2,Int.one_mul];exact aS rfl
           . rw[z];refine ED 5 hu1 rfl (aa 9) (aE (BL 5 hu1 rfl (aa 9) af) (aa 10) bA) ?_ (aS ⟨_,_,_,rfl⟩);have:sizeLine>10000000:=by decide
             omega
       . obtain⟨s8,s9,s10,rfl⟩:=z;rw[jI];exact aS ⟨_,_,_,_,_,rfl⟩
     . obtain⟨s6,s7,s8,s9,s10,rfl⟩:=z;rw[bp];refine GU 5 ?_;refine gq (M:=λτ=>∃s4 s5 s6 s7 s8 s9 s10,τ=[.d (.lst (R.map dtR)),.d (.int n),.x (exK kT hdT P w (mkM (vMn R n) (lks R n i++(nx++if ls.length<n then [ls++[(i:Int)]] else [])))),.d (.int (i:Nat)),s4,s5,s6,s7,s8,s9,s10]) (aZ (bo b (ae (aa 4) ag) fY) (aa 1) qQ) (λz=>?_) (λz=>?_) λτ z=>aS z
       . have z:=of_decide_eq_true z;rw[bp]at z;rw[if_pos .(0),<- IY,gX,vS];refine pQ 2 (a:=kT) (hd:=hdT) (key:=ls++[(i:Int)]) hu rfl ?_ (aa 5) (Il ml ?_) (cK _) (aS ⟨_,_,_,_,_,_,_,rfl⟩)
         . have e:kT.toD (ls++[(i:Int)])=.tup (ls.map D.int++[.int (i:Nat)]):=by show D.tup ((ls++[(i:Int)]).map D.int)=_; rw[Ia]; rfl
           rw[e];exact aE (aa 4) (bO (ae (aa 3) ag)) (sE (by rw[bp]; have:=okl.len; show _+1<_; omega))
         . have:sizeLine>10000000:=by decide
           omega
       . have z:=of_decide_eq_false z;rw[bp]at z;rw[if_neg .(0),Jc];exact aS ⟨_,_,_,_,_,_,_,rfl⟩
   . obtain⟨s4,s5,s6,s7,s8,s9,s10,rfl⟩:=h;refine aS ⟨hi,.d (.int (i:Nat)),s4,s5,s6,s7,s8,s9,s10,?_⟩;rw[eL,bp,Io .(3)]
 . obtain⟨_,s3,s4,s5,s6,s7,s8,s9,s10,rfl⟩:=h;refine Cg 2 (a:=kT) (hd:=hdT) (aX (aa 2) ?_);rw[aP,HW];rfl
end
theorem vR {f:List Int->Int}{row c:List Int}{g:Nat->Rat}(hl:c.length=m+1)(hg:∀k,k<m+1->((alP f row c k:Int):Rat)=g k):∀k,k<=m+1->((alS f row c k:Int):Rat)=aA (λk=>sgn (m-k)*g k) k
 | 0,_=>rfl
 | k+1,h=>by
   have ih:=vR hl hg k .(0);rw[alS,aA,<- ih,<- hg k .(0),hl];unfold sgn;rw[JZ _ .(2)];by_cases z:(m-k)%2=0
   . rw[if_pos z,if_neg .(0),Kl,Jd]
   . rw[if_neg z,if_pos .(0),Rat.intCast_sub,Rat.sub_eq_add_neg,Rat.neg_mul,Jd]
def tG (h:∀r,r<L.length->∀j,M r j=M' r j):eP M L=eP M' L:=by unfold eP;exact aG λr hr q _=>h r hr _
def xv (R:List .(123))(ls:List Int)(t r j:Nat)(h:r<t):dtM (lnR R (ls.take t)) r j=dtM (lnR R ls) r j:=by
 have e:(lnR R (ls.take t)).getD r []=(lnR R ls).getD r []:=by unfold lnR;rw[KL,Ig,Ig,Nf h]
 unfold dtM;rw[e]
def uW (c:List Int)(k:Nat):(ers c k).map Kt=(c.map Kt).eraseIdx k:=by unfold ers;rw[List.eraseIdx_eq_take_drop_succ,Ia,KL,Nk]
theorem kP (R:List .(123)):∀(t:Nat) (ls c:List Int),ls.length=t->c.length=t->((dtm R t ls c:Int):Rat)=eP (dtM (lnR R ls)) (c.map Kt)
 | 0,ls,c,_,hc=>by cases KN.mp hc;rfl
 | t+1,ls,c,hl,hc=>by
   have hL:(c.map Kt).length=t+1:=by rw[bp,hc]
   rw[lT hL,dtm];unfold alR;rw[hc]
   have:=vR (f:=dtm R t (ls.take t)) (row:=R.getD (gS ls).toNat []) (c:=c) (g:=λk=>dtM (lnR R ls) t ((c.map Kt).getD k 0)*eP (dtM (lnR R ls)) ((c.map Kt).eraseIdx k)) hc (λk hk=>by
     unfold alP;have e1:(c.map Kt).getD k 0=(c.getD k 0).toNat:=(by simp[show k<c.length by omega]);have e2:(lnR R ls).getD t []=R.getD (gS ls).toNat []:=(by unfold lnR gS;rw[hl];simp[show t<ls.length by omega]);have l2:(ers c k).length=t:=(by have:=congrArg List.length (uW c k);rw[bp,JY .(0),hL]at this;exact this);rw[IA,kP R t (ls.take t) (ers c k) (by rw[IX,hl]; omega) l2,uW];rw[e1];have e3:dtM (lnR R ls) t (c.getD k 0).toNat=(((R.getD (gS ls).toNat []).getD (c.getD k 0).toNat 0:Int):Rat):=(by unfold dtM; rw[e2]);rw[e3];refine congrArg _ (tG λr hr j=>xv R ls t r j ?_);rw[JY .(0),hL]at hr;omega) (t+1) .(3)
   rw[this];refine au λk hk=>?_;rw[J1]
noncomputable def lkP (n:Nat):Nat->List .(123)
 | 0=>[[]]
 | i+1=>lkP n i++nxK n i (lkP n i)
def ja {κ:Type}[DecidableEq κ]{v:κ->D}{ks:List κ}{k:κ}:k∈(mkM v ks).map (·.1)↔k∈ks:=by
 constructor
 . intro h;obtain⟨q,hq,rfl⟩:=HV.mp h;exact(ir hq).1
 . intro h;exact HV.mpr ⟨_,lO (eK (v:=v) h),rfl⟩
def uH :ls∈nxK n i ks↔∃l,l∈ks/\l.length<n/\l++[(i:Int)]=ls:=by
 unfold nxK;rw[HV];constructor
 . rintro⟨l,h,e⟩;rw[JL]at h;exact⟨l,h.1,of_decide_eq_true h.2,e⟩
 . rintro⟨l,h,z,e⟩;exact⟨l,JL.mpr ⟨h,decide_eq_true z⟩,e⟩
theorem oV (R:List .(123))(n:Nat):∀i (ls:List Int),ls∈lks R n i↔ls∈lkP n i
 | 0,_=>Iff.rfl
 | i+1,ls=>by have ih:=oV R n i;rw[lks,lkP,vp,vp,uH,uH,ih];refine or_congr Iff.rfl (exists_congr λl=>?_);rw[ja,ih]
def EW:∀n,n<8->∀m,m<8->(((lkP n m).all λls=>(chs m ls.length).contains ls&&decide (ls.length<=min m n))&&(ox (min m n+1)).all λt=>(chs m t).all λls=>(lkP n m).contains ls)=true:=by decide +kernel
def Eu:∀n,n<8->(((ox (2^n)).all λS=>(chs n (cols n S).length).contains ((cols n S).map My))&&(ox 8).all λt=>(chs n t).all λc=>(ox (2^n)).any λS=>decide (cols n S=c.map Kt))=true:=by decide +kernel
def kX :(ls,c)∈kys m n k↔∃s,s<k/\ls∈chs m (s+1)/\c∈chs n (s+1):=by
 unfold kys ky1;constructor
 . intro h;obtain⟨s,hs,h⟩:=Jv.mp h;obtain⟨l,hl,h⟩:=Jv.mp h;obtain⟨d,hd,e⟩:=HV.mp h;cases e;exact⟨s,Iq.mp hs,hl,hd⟩
 . rintro⟨s,hs,h1,h2⟩;exact Jv.mpr ⟨s,Iq.mpr hs,Jv.mpr ⟨ls,h1,HV.mpr ⟨c,h2,rfl⟩⟩⟩
def yh {x y:Int}(h:(x:Rat)=(y:Rat)):x=y:=by exact_mod_cast h
def GX (hl:ls.length=t)(hc:c.length=t):((vD R (ls,c):Int):Rat)=mi (dtM R) t (λr=>(ls.getD r 0).toNat) (λj=>(c.getD j 0).toNat):=by
 unfold vD;show ((dtm R ls.length ls c:Int):Rat)=_;rw[kP R ls.length ls c rfl .(0)];unfold eP mi;rw[bp,hc];refine aG λi hi j hj=>?_;unfold dtM lnR;have e1:(ls.map λi=>R.getD i.toNat []).getD i []=R.getD (ls.getD i 0).toNat []:=by simp[show i<ls.length by omega]
 have e2:(c.map Kt).getD j 0=(c.getD j 0).toNat:=by simp[show j<c.length by omega]
 rw[e1,e2]
def C4 (hi:i<M.length)(hj:j<.(103).length):((whM M ss).getD i []).getD j 0=(.(103).getD j 0).num*(ss.getD i 0/((.(103).getD j 0).den:Nat)):=by
 have e:(whM M ss).getD i []=whR .(103) (ss.getD i 0):=by unfold whM; simp[hi]
 rw[e];unfold whR;rw[Ig,Iy,ph hj,Ig (l:=M.getD i []),ph hj];rfl
structure Rs (T m:Nat)(p:List Int):Prop where
 len:p.length=m
 up:∀a,a+1<m->p.getD a 0<p.getD (a+1) 0
 bd:∀a,a<m->0<=p.getD a 0/\p.getD a 0<T
def Bs {c:List Int}(h:i<c.length):(c++[x]).getD i 0=c.getD i 0:=by simp[LF,HX h]
theorem vx (T:Nat):∀(m:Nat) (p:List Int),Rs T m p->p∈chs T m
 | 0,p,h=>by rw[chs,gV];exact KN.mp h.len
 | m+1,p,h=>by
   have hp:p=p.dropLast++[p.getD m 0]:=by
     have hne:p≠[]:=λz=>by rw[z]at h; exact absurd h.len .(4)
     have:p.getLast hne=p.getD m 0:=by rw[List.getLast_eq_getElem,Ig];simp[h.len]
     rw[<- this,MR]
   have hl:p.dropLast.length=m:=by rw[List.length_dropLast,h.len]; rfl
   have hg:∀a,a<m->p.dropLast.getD a 0=p.getD a 0:=λa ha=>by
     conv=>rhs; rw[hp]
     rw[Bs .(0)]
   have hd:Rs T m p.dropLast:=⟨hl,λa ha=>by rw[hg a .(0),hg (a+1) ha]; exact h.up a .(0),λa ha=>by rw[hg a ha]; exact h.bd a .(0)⟩;rw[chs,Jv];refine⟨_,vx T m _ hd,?_⟩;unfold onC;have hb:=h.bd m .(0)
   have hle:lea m p.dropLast<=p.getD m 0:=by
     unfold lea;by_cases z:0<m
     . rw[if_pos z,gS,hl,hg (m-1) .(0)];have:=h.up (m-1) .(0);rw[show m-1+1=m by omega]at this;omega
     . rw[if_neg z]; exact hb.1
   refine HV.mpr ⟨(p.getD m 0-lea m p.dropLast).toNat,Iq.mpr .(0),?_⟩;rw[Kc .(0)];conv=>rhs; rw[hp]
   congr 2;omega
def vz (h:∀i,0<s i):∀k,0<kh s k
 | 0=>by show (0:Rat)<1; decide
 | k+1=>by rw[kh];exact Mh (vz h k) (h k)
def Fn {M:List .(109)}(h:k<M.length):(M.map scL).getD k 0=scL (M.getD k []):=by simp[h]
def Hr (t:Tq m n M)(l1:ls.length=s)(l2:cc.length=s)(b1:∀i,i<s->(ls.getD i 0).toNat<m)(b2:∀i,i<s->(cc.getD i 0).toNat<n):
   ((vD .(142) (ls,cc):Int):Rat)=kh (λr=>((scL (M.getD (ls.getD r 0).toNat []):Int):Rat)) s*mi (qM M) s (λr=>(ls.getD r 0).toNat) λj=>(cc.getD j 0).toNat:=by
 rw[GX (R:=whM M (M.map scL)) l1 l2];unfold mi;rw[<- oD (n:=s) _ (λr c=>qM M (ls.getD r 0).toNat (cc.getD c 0).toNat) s .(3)];refine aG λi hi j hj=>?_;rw[if_pos hi];have hi':(ls.getD i 0).toNat<M.length:=by rw[t.len]; exact b1 i hi
 have hj':(cc.getD j 0).toNat<(M.getD (ls.getD i 0).toNat []).length:=by rw[t.at_ (b1 i hi)]; exact b2 j hj
 have sc:(M.map scL).getD (ls.getD i 0).toNat 0=scL (M.getD (ls.getD i 0).toNat []):=Fn hi';unfold dtM;rw[C4 hi' hj',sc,Hz ((k6 _).2 _ (ba hj')),J0];rfl
def GW {M:List .(109)}{f:Nat->Nat}:∀i,(0:Rat)<((scL (M.getD (f i) []):Int):Rat):=λi=>MZ.mpr (k6 _).1
def inc_le (h:Inc k ρ):∀i,i<k->i<=ρ i
 | 0,_=>Im _
 | i+1,hi=>by have:=inc_le h i .(0);have:=h i hi;omega
def vy (h:Inc k ρ)(b:∀i,i<k->ρ i<m):((ox k).map λi=>((ρ i:Nat):Int))∈chs m k:=by
 have at_:∀i,i<k->((ox k).map λi=>((ρ i:Nat):Int)).getD i 0=(ρ i:Nat):=λi hi=>by simp[hi]
 refine vx m k _ ⟨by simp,λa ha=>?_,λa ha=>?_⟩
 . rw[at_ a .(0),at_ (a+1) ha];have:=h a ha;omega
 . rw[at_ a ha];have:=b a ha;omega
def xj (t:Tq m n M)(h:fuO .(142) m n 0=none):Tnn m n (qM M):=by
 intro k ρ γ h1 b1 h2 b2;cases k with
 | zero=>show (0:Rat)<=1; decide
 | succ s=>
   have hm:=inc_le h1 s .(0);have hn:=inc_le h2 s .(0);have hm':=b1 s .(0);have hn':=b2 s .(0);have key:=vn.mp h (_,_) (kX.mpr ⟨s,by omega,vy h1 b1,vy h2 b2⟩);have a1:∀i,i<s+1->(((ox (s+1)).map λi=>((ρ i:Nat):Int)).getD i 0).toNat=ρ i:=λi hi=>by simp[hi]
   have a2:∀i,i<s+1->(((ox (s+1)).map λi=>((γ i:Nat):Int)).getD i 0).toNat=γ i:=λi hi=>by simp[hi]
   have e:=Hr (s:=s+1) (ls:=(ox (s+1)).map λi=>((ρ i:Nat):Int)) (cc:=(ox (s+1)).map λi=>((γ i:Nat):Int)) t .(4) .(4) (λi hi=>by rw[a1 i hi]; exact b1 i hi) (λi hi=>by rw[a2 i hi]; exact b2 i hi);have key:=Rat.intCast_nonneg.mpr key;rw[e]at key;have em:mi (qM M) (s+1) (λr=>(((ox (s+1)).map λi=>((ρ i:Nat):Int)).getD r 0).toNat) (λj=>(((ox (s+1)).map λi=>((γ i:Nat):Int)).getD j 0).toNat)=mi (qM M) (s+1) ρ γ:=aG λi hi j hj=>(congrArg (λx=>qM M x _) (a1 i hi)).trans (congrArg (qM M (ρ i)) (a2 j hj));rw[em]at key;refine Rat.not_lt.mp λneg=>?_;have p:=vz (GW (M:=M) (f:=λr=>(((ox (s+1)).map λi=>((ρ i:Nat):Int)).getD r 0).toNat)) (s+1);have:=Mh p (show (0:Rat) < - mi (qM M) (s+1) ρ γ by grind);grind
def yN (hp:p<k)(h:∀c,c<k->M p c=0):det k M=0:=by
 rw[<- (b9 k).xJ M hp];refine aG λi hi j hj=>?_;unfold aC;split
 . rename_i z; rw[z]; exact h j hj
 . rfl
def CZ (h:Inc k ρ)(hij:i<j):j<k->ρ i<ρ j:=by
 induction j with
 | zero=>omega
 | succ j ih=>
   intro hj;have:=h j hj;rcases JN i j with z | z
   . have:=ih z .(0); omega
   . obtain rfl:i=j:=by omega
     exact this
def qC (H:Tnn m n A):Tnn s n λi j=>if i<m then A i j else 0:=λk ρ γ h1 h2 h3 h4=>by
 cases k with
 | zero=>show (0:Rat)<=1; decide
 | succ k=>
   by_cases z:ρ k<m
   . have lt:∀i,i<k+1->ρ i<m:=λi hi=>by
       rcases JN i k with y | y
       . have:=CZ h1 y .(0); omega
       . obtain rfl:i=k:=by omega
         exact z
     have e:mi (λi j=>if i<m then A i j else 0) (k+1) ρ γ=mi A (k+1) ρ γ:=aG λi hi j hj=>if_pos (lt i hi);rw[e];exact H (k+1) ρ γ h1 lt h3 h4
   . have e:mi (λi j=>if i<m then A i j else 0) (k+1) ρ γ=0:=yN (p:=k) .(0) λc _=>if_neg z;rw[e];exact KW
def uQ (H:Tnn m n A):Tnn s s (cx m n A):=(qC (m:=n) (s:=s) (qC (m:=m) (s:=s) H).tr).tr.congr λi _ j _=>by unfold cx;by_cases h1:i<m <;> by_cases h2:j<n <;> simp[h1,h2]
def Cm (β σ m n:Nat)(A:Nat->Nat->Rat):Prop:=∃P:Int,0<P/\P.natAbs<=2^σ/\∀i,i<m->∀j,j<n->ZB β ((P:Rat)*A i j)
noncomputable def mB (s β σ:Nat):Nat:=2*(s*(β+3))+σ+5
def AN (b:Nat):ZB b 0:=⟨0,rfl,Im _⟩
def Cm.pad (h:Cm β σ m n A):Cm β σ s s (cx m n A):=by
 obtain⟨P,p0,p1,p2⟩:=h;refine⟨P,p0,p1,λi _ j _=>?_⟩;unfold cx;split
 . rename_i z; exact p2 i z.1 j z.2
 . rw[IG]; exact AN β
def yi (h7:s<=7)(H:Tnn s s A)(h:Cm β σ s s A):SzA s (mB s β σ) A:=by obtain⟨P,p0,p1,p2⟩:=h;have F:FS s 0 (λi j=>(P:Rat)*1*A i j) (λ_=>(P:Rat)) (λ_=>1) A:=FS.start (λ_ _ _ _=>rfl) (λ_=>MZ.mpr p0) (λ_=>by decide);intro k hk;exact((zD H F k .(0)).Ct (uk H k .(0)).bl hk).2 _ λg hg=>y0 h7 (λi hi j hj=>by rw[J3]; exact p2 i hi j hj) (λ_ _=>⟨P,rfl,p1⟩) hg
def GO (o:Option .(128)):fzD (fuS o)=some (fuD o):=by
 cases o with
 | none=>rfl
 | some p=>show some (ndD (.t [rwN p.1,rwN p.2]))=_;unfold rwN fuD;simp only[ndD,kI,l6]
def pP :cH X (GE .IsNot) (fuD o) .non (.bl o.isSome):=⟨_,Bc,λ_ v w H Q _ d1 d2 k=>by
 cases d2;cases o with
 | none=>cases d1; exact⟨rfl,by rw[decide_eq_true rfl]; exact k _ H .(102) .bl⟩
 | some i=>cases d1; exact⟨rfl,by rw[decide_eq_false (by intro z; cases z)]; exact k _ H .(102) .bl⟩⟩
noncomputable def lcN (T R C:Nat)(ss:List Stp):Nd:=.t [.d (.int T),.d (.int R),.d (.int C),.l ((ss.map stD).map .d)]
noncomputable def sz2 (m n:Nat):Nat:=if n>m then n else m
noncomputable def tkS (m n:Nat)(A:Nat->Nat->Rat):Option .(128)->Sl
 | none=>.n (.t [.d (.str "ladder"),lcN (sz2 m n) m n (apS (sz2 m n) (cx m n A))])
 | some p=>.d (.tup [.str "below",.lst (p.1.map .int),.lst (p.2.map .int)])
def cY (ds:List D)(r:Sl):Prop:=∃(m n d v β σ:Nat) (A:Nat->Nat->Rat),ds=[tbQ (mkT m n A)]/\1<=m/\m<=7/\1<=n/\n<=7/\(∀r∈mkT m n A,∀x∈r,Qs d v x)/\v+(1+n*d)<=1400/\Cm β σ m n A/\4*mB 7 β σ<=900000/\r=tkS m n A (fuO (whM (mkT m n A) ((mkT m n A).map scL)) m n 0)
section
variable {P:FB}{w:World}{K:fw}{mg:Str->Option Value}{base:Heap}{k:Nat}{f:Addr}{fd:Gc}{qual:Str}
def mn (F:Fun K "taken_apart" qual (top 35) f fd)(hb:.(92))(c_look_table:.(90) "look_table" fU)(c_first_under:.(90) "first_under" eZ)(c_steps_of:.(90) "steps_of" iJ)(c_squared:.(90) "squared" j6):.(91) ["table"] (spD K cY):=by
 refine fnD F gN hb (by rintro _ _ ⟨_,_,_,_,_,_,_,rfl,_⟩; rfl) ?_;rintro _ _ ⟨m,n,d,v,β,σ,A,rfl,m1,m7,n1,n7,hq,hz,cm,hB,rfl⟩ cdv A' outer s H E b;have nd:=gN.nd;have t:Tq m n (mkT m n A):=qd m1 m7 n1 n7;refine Dj (x_call b c_look_table .(111) ⟨_,_,_,rfl,t,rfl⟩) ?_;refine aM 1 nd (x_call b c_first_under (ae (aa 0) (ae af ag)) ⟨m,n,d,v,mkT m n A,0,rfl,t,hq,hz,rfl⟩) ?_;refine jX 1 (x:=fuD (fuO (whM (mkT m n A) ((mkT m n A).map scL)) m n 0)) ?_ rfl (GO _);generalize ho:fuO (whM (mkT m n A) ((mkT m n A).map scL)) m n 0=o;refine eD (aZ (aa 1) mI pP) (λh=>?_) λh=>?_
 . obtain⟨p,rfl⟩:=Lq.mp h;exact aX (bO (ae bZ (ae (aL (aa 1) af (aQ (aH (i:=0) rfl))) (ae (aL (aa 1) af (aQ (aH (i:=1) rfl))) ag)))) rfl
 obtain rfl:o=none:=by cases o with | none=>rfl | some p=>cases h
 have H0:Tnn m n A:=(xj t ho).congr λi hi j hj=>DQ hi hj;have sm:m<=sz2 m n/\n<=sz2 m n/\sz2 m n<=7/\1<=sz2 m n:=by unfold sz2; split <;> omega
 have es:(if (n:Int)>(m:Int) then (n:Int) else (m:Int))=((sz2 m n:Nat):Int):=by unfold sz2; split <;> split <;> omega
 have lm:((mkT m n A).map rwQ).length=m:=by rw[bp,dH]
 have ln:(((ox n).map (A 0)).map frD).length=n:=by simp
 have r0:atI ((mkT m n A).map rwQ) 0=some (rwQ ((ox n).map (A 0))):=by have:=dR (f:=rwQ) (xs:=mkT m n A) [] (i:=0) (by rw[dH]; exact m1);rw[jE m1]at this;exact this
 have hM:mB (sz2 m n) β σ<=mB 7 β σ:=by unfold mB;have:=Iu (β+3) sm.2.2.1;omega
 refine aM 2 nd (bo b (ae (bo b .(111) (gc lm)) (ae (bo b (ae (aL (aa 0) af (aY r0)) ag) (gc ln)) ag)) (xl b.calm)) ?_;rw[es];generalize hs:sz2 m n=s2 at *
 refine aX (ub (gE bZ rfl (gE (ub (gE (aa 2) rfl (gE (bo b .(111) (gc lm)) rfl (gE (bo b (ae (aL (aa 0) af (aY r0)) ag) (gc ln)) rfl (gE (s:=.o ((apS s2 (cx m n A)).map stD)) (x_call b c_steps_of (ae (bf (x_call b c_squared (ae (aa 0) (ae (aa 2) ag)) ⟨m,n,s2,A,rfl,sm.1,sm.2.1,sm.2.2.1,rfl⟩)) ag) ⟨s2,mB s2 β σ,cx m n A,rfl,sm.2.2.2,sm.2.2.1,yi sm.2.2.1 (uQ H0) cm.pad,by omega,rfl⟩) rfl ye))))) rfl ye))) ?_;show _=Sl.n _;rw[hs];rfl
end
def c8 (ds:List D)(r:Sl):Prop:=∃a b:Int,ds=[.int a,.int b]/\r=.d (.int (Jg a b:Int))
def fG (ds:List D)(r:Sl):Prop:=∃(t b:Int) (q:Rat),ds=[.int t,.int b]/\0<b/\(t:Rat)=q*(b:Rat)/\r=.d (frD q)
def l7 (ds:List D)(r:Sl):Prop:=∃(ns:List Int) (k:Nat),ds=[.lst (ns.map .int),.int k]/\r=.d (.int (ns.getD k 0))
def kS (ds:List D)(r:Sl):Prop:=∃n:Nat,ds=[.int n]/\n<=1000/\r=.d (.int (10^n))
noncomputable def whw (x:D):Bool:=nq .int x&&!nq .bool x
def iq (ds:List D)(r:Sl):Prop:=∃x,ds=[x]/\r=.d (.bl (whw x))
def j9 (ds:List D)(r:Sl):Prop:=∃(m n:Nat) (p q:Rat),ds=[frD p,frD q]/\Sq m p/\Sq n q/\(m<=1000000/\n<=1000000)/\r=.d (frD (p*q))
def jo (ds:List D)(r:Sl):Prop:=∃(m n:Nat) (p q:Rat),ds=[frD p,frD q]/\Sq m p/\Sq n q/\(m<=1000000/\n<=1000000)/\r=.d (frD (p+q))
def Qs.of {t b:Int}(hb:0<b)(h:(t:Rat)=q*(b:Rat))(hd:Bd d b)(hv:t.natAbs<=2^v):Qs d v q:=by
 obtain⟨e1,e2⟩:=bW hb h;refine⟨by rw[e2]; exact hd.ediv _,?_⟩;have g:=MS (a:=t) (b:=b);have h1:q.num.natAbs<=t.natAbs:=by rw[e1]; exact Ng ..
 exact Il h1 (Il hv (Nw _ q.den_pos))
noncomputable def nmT (kd:Nat)(p:Int):Int:=if kd=1 then p.fmod 5-2 else if kd=3 then (p.fdiv 2).fmod (10^40)*(1-2*p.fmod 2) else if kd=2 then p.fmod 10 else p.fmod 19-9
noncomputable def nmB (kd:Nat)(p:Int):Int:=if kd=1 then 1 else if kd=3 then 1+(p.fdiv (2*10^40)).fmod (10^40-1) else if kd=2 then 1+(p.fdiv 10).fmod 6 else 1+(p.fdiv 19).fmod 6
noncomputable def nmQ (kd:Nat)(p:Int):Rat:=if kd=1 then ((p.fmod 5-2:Int):Rat) else ((nmT kd p:Int):Rat)/((nmB kd p:Int):Rat)
noncomputable def kD (kd:Nat):Nat:=if kd=3 then 133 else 3
noncomputable def kV (kd:Nat):Nat:=if kd=3 then 133 else 4
def fmn {a b:Int}(h:0<b):0<=a.fmod b/\a.fmod b<b:=⟨JX a h,Kh a h⟩
def pd (p:Int):0<nmB kd p/\Bd (kD kd) (nmB kd p):=by
 unfold nmB kD;by_cases h1:kd=1
 . rw[if_pos h1,if_neg .(0)]; exact⟨by decide,by unfold Bd; decide⟩
 . rw[if_neg h1];by_cases h3:kd=3
   . rw[if_pos h3,if_pos h3];have:=fmn (a:=p.fdiv (2*10^40)) (b:=10^40-1) .(2);refine⟨by omega,?_⟩;unfold Bd;have:(10:Int)^40<2^133:=by decide
     have e:((2^133:Nat):Int)=2^133:=(by decide);omega
   . rw[if_neg h3,if_neg h3];by_cases h2:kd=2
     . rw[if_pos h2];have:=fmn (a:=p.fdiv 10) (b:=6) .(2);exact⟨by omega,by unfold Bd; omega⟩
     . rw[if_neg h2];have:=fmn (a:=p.fdiv 19) (b:=6) .(2);exact⟨by omega,by unfold Bd; omega⟩
def Dk (p:Int):(nmT kd p).natAbs<=2^kV kd:=by
 unfold nmT kV;by_cases h1:kd=1
 . rw[if_pos h1,if_neg .(0)];have:=fmn (a:=p) (b:=5) .(2);omega
 . rw[if_neg h1];by_cases h3:kd=3
   . rw[if_pos h3,if_pos h3];have h4:=fmn (a:=p.fdiv 2) (b:=10^40) .(2);have h5:=fmn (a:=p) (b:=2) .(2);have:(10:Int)^40<2^133:=by decide
     have e:((2^133:Nat):Int)=2^133:=(by decide);rw[JE,show (1-2*p.fmod 2).natAbs=1 by omega,Nat.mul_one];omega
   . rw[if_neg h3,if_neg h3];by_cases h2:kd=2
     . rw[if_pos h2];have:=fmn (a:=p) (b:=10) .(2);omega
     . rw[if_neg h2];have:=fmn (a:=p) (b:=19) .(2);omega
def sj (p:Int):((nmT kd p:Int):Rat)=nmQ kd p*((nmB kd p:Int):Rat):=by
 unfold nmQ;by_cases h1:kd=1
 . rw[if_pos h1];unfold nmT nmB;rw[if_pos h1,if_pos h1];exact(J3 _).symm
 . rw[if_neg h1];exact(JP (zZ (pd p).1)).symm
def BW (p:Int):Qs (kD kd) (kV kd) (nmQ kd p):=Qs.of (pd p).1 (sj p) (pd p).2 (Dk p)
def iG (ds:List D)(r:Sl):Prop:=∃(kd:Nat) (p:Int),ds=[.int (kd:Nat),.int p]/\kd<4/\r=.d (frD (nmQ kd p))
def HS:aK ((2:Int)*10^40):=(show Bd 140 ((2:Int)*10^40) by unfold Bd; decide).aK .(2) .(2)
section
variable {P:FB}{w:World}{K:fw}{mg:Str->Option Value}{base:Heap}{k:Nat}{f:Addr}{fd:Gc}{qual:Str}
def pL (F:Fun K "_law_divisor" qual (top 45) f fd)(hb:.(92)):.(91) ["_law_one","_law_other"] (spD K c8):=by
 refine fnD F jr hb (by rintro _ _ ⟨_,_,rfl,_⟩; rfl) ?_;rintro _ _ ⟨x,y,rfl,rfl⟩ cdv A outer s H E b;have nd:=jr.nd;refine aM 0 nd (bo b .(111) rH) (aM 1 nd (bo b (ae (aa 1) ag) rH) ?_);rw[jD,jD];refine uE (λn t τ=>∃(g:Nat) (s2:Sl),Nat.gcd g n=Jg x y/\t=(decide ((0:Int)<n))/\τ=[.d (.int g),.d (.int n),s2]) b ⟨_,_,_,_,rfl,rfl,rfl⟩ (λn t τ h=>?_) (λn τ h=>?_) λn τ h=>?_
 . obtain⟨g,s2,_,rfl,rfl⟩:=h;exact aZ (aa 1) af xy
 . obtain⟨g,s2,hg,ht,rfl⟩:=h;have hl:n≠0:=λz=>by simp[z]at ht
   have e:(g:Int).fmod n=((g%n:Nat):Int):=by rw[JZ _ .(0)]; rfl
   refine aM 2 nd (aE (aa 0) (aa 1) (bG .(0))) ?_;rw[e];refine aM 0 nd (aa 1) (aM 1 nd (aa 2) (aS ⟨g%n,_,Nat.mod_lt g (Nat.pos_of_ne_zero hl),n,_,?_,rfl,rfl⟩));rw[<- hg,Mc n,<- Nat.gcd_rec,Mc]
 . obtain⟨g,s2,hg,ht,rfl⟩:=h;have hl:n=0:=by have:=of_decide_eq_false ht.symm; omega
   refine aX (aa 0) ?_;rw[<- hg,hl,Nat.gcd_zero_right]
def wk (F:Fun K "_law_made" qual (top 46) f fd)(hb:.(92))(pyl:Pyl P base)(hk:33<=k)(c_l_divisor:.(90) "_law_divisor" c8):.(91) ["_law_top","_law_bottom"] (spD K fG):=by refine fnD F nF hb (by rintro _ _ ⟨_,_,_,rfl,_⟩; rfl) ?_;rintro _ _ ⟨t,c,q,rfl,h0,hq,rfl⟩ cdv A outer s H E b;have nd:=nF.nd;have dv:(Jg t c:Int)≠0:=ft .(0);obtain⟨e1,e2⟩:=bW h0 hq;refine aM 2 nd (x_call b c_l_divisor (ae (aa 0) (ae (aa 1) ag)) ⟨_,_,rfl,rfl⟩) (aX (bO (ae (aE (aa 0) (aa 2) (cj pyl b hk dv)) (ae (aE (aa 1) (aa 2) (cj pyl b hk dv)) ag))) ?_);rw[bg,bg,<- e1,<- e2];rfl
def xg (F:Fun K "_law_cell" qual (top 43) f fd)(hb:.(92)):.(91) ["_law_script","_law_k"] (spD K l7):=by
 refine fnD F xh hb (by rintro _ _ ⟨_,_,rfl,_⟩; rfl) ?_;rintro _ _ ⟨ns,n,rfl,rfl⟩ cdv A outer s H E b;refine eD (aZ (aa 1) (bo b .(111) kr) qQ) (λh=>?_) λh=>?_
 . have h:=of_decide_eq_true h;rw[bp]at h;exact aX (aL (aa 0) (aa 1) (aY (jR .(0) .(0)))) rfl
 . have h:=of_decide_eq_false h;rw[bp]at h;refine aX af ?_;show Sl.d (.int 0)=_;rw[getD_none .(0)]
def zM (F:Fun K "_law_ten" qual (top 42) f fd)(hb:.(92)):.(91) ["_law_many"] (spD K kS):=by
 refine fnD F qA hb (by rintro _ _ ⟨_,rfl,_⟩; rfl) ?_;rintro _ _ ⟨n,rfl,hn,rfl⟩ cdv A outer s H E b;have nd:=qA.nd;refine aM 1 nd af ?_;refine cn 2 (λi τ=>∃s2,τ=[.d (.int n),.d (.int (10^i)),s2]) b nd (eX b (aa 0) .(0) .(0)) eV ⟨_,rfl⟩ (λi hi τ h=>?_) λτ h=>?_
 . obtain⟨s2,rfl⟩:=h;refine aM 1 nd (aE af (aa 1) (bz (mkL .(2)))) (aS ⟨.d (.int (i:Nat)),?_⟩);rw[Int.pow_succ,Int.mul_comm];rfl
 . obtain⟨s2,rfl⟩:=h;refine aX (aa 1) ?_;rw[aP,HW]
def tL (F:Fun K "_law_whole" qual (top 48) f fd)(hb:.(92)):.(91) ["_law_thing"] (spD K iq):=by refine fnD F tK hb (by rintro _ _ ⟨_,rfl,_⟩; rfl) ?_;rintro _ _ ⟨x,rfl,rfl⟩ cdv A outer s H E b;exact aX (mO (gw .int b (aa 0)) λh=>(nM (B8 (gw .bool b (aa 0))))) rfl
def sS (F:Fun K "_law_times" qual (top 54) f fd)(hb:.(92))(c_l_made:.(90) "_law_made" fG):.(91) ["_law_one","_law_other"] (spD K j9):=by refine fnD F tV hb (by rintro _ _ ⟨_,_,_,_,rfl,_⟩; rfl) ?_;rintro _ _ ⟨m,n,p,q,rfl,h1,h2,⟨hm,hn⟩,rfl⟩ cdv A outer s H E b;exact aX (x_call b c_l_made (ae (aE (aL (aa 0) af (aQ (aH (i:=0) rfl))) (aL (aa 1) af (aQ (aH (i:=0) rfl))) (bz (h1.num.aI h2.num hm hn))) (ae (aE (aL (aa 0) af (aQ (aH (i:=1) rfl))) (aL (aa 1) af (aQ (aH (i:=1) rfl))) (bz (h1.den.aI h2.den hm hn))) ag)) ⟨_,_,_,rfl,qe (den_pos p) (den_pos q),qi p q,rfl⟩) rfl
def xf (F:Fun K "_law_plus" qual (top 53) f fd)(hb:.(92))(c_l_made:.(90) "_law_made" fG):.(91) ["_law_one","_law_other"] (spD K jo):=by refine fnD F wR hb (by rintro _ _ ⟨_,_,_,_,rfl,_⟩; rfl) ?_;rintro _ _ ⟨m,n,p,q,rfl,h1,h2,⟨hm,hn⟩,rfl⟩ cdv A outer s H E b;exact aX (x_call b c_l_made (ae (aE (aE (aL (aa 0) af (aQ (aH (i:=0) rfl))) (aL (aa 1) af (aQ (aH (i:=1) rfl))) (bz (h1.num.aI h2.den hm hn))) (aE (aL (aa 1) af (aQ (aH (i:=0) rfl))) (aL (aa 0) af (aQ (aH (i:=1) rfl))) (bz (h2.num.aI h1.den hn hm))) bA) (ae (aE (aL (aa 0) af (aQ (aH (i:=1) rfl))) (aL (aa 1) af (aQ (aH (i:=1) rfl))) (bz (h1.den.aI h2.den hm hn))) ag)) ⟨_,_,_,rfl,qe (den_pos p) (den_pos q),y9 p q,rfl⟩) rfl
def qX (F:Fun K "_law_number" qual (top 47) f fd)(hb:.(92))(c_l_made:.(90) "_law_made" fG):.(91) ["_law_kind","_law_part"] (spD K iG):=by
 refine fnD F km hb (by rintro _ _ ⟨_,_,rfl,_⟩; rfl) ?_;rintro _ _ ⟨kd,p,rfl,h4,rfl⟩ cdv A outer s H E b;have nd:=km.nd;obtain⟨b0,b1⟩:=pd (kd:=kd) p;have b2:Bd 8999 (nmB kd p):=b1.mono (by unfold kD; split <;> decide);have hm:=sj (kd:=kd) p;refine eD (aZ (aa 0) af fD) (λh=>?_) λh=>?_
 . have h1:kd=1:=by have:=of_decide_eq_true h; omega
   refine aX (bO (ae (aE (aE (aa 1) af (bG .(2))) af cA) (ae af ag))) ?_;unfold nmQ;rw[if_pos h1];rfl
 have n1:¬kd=1:=by have:=of_decide_eq_false h; omega
 refine eD (aZ (aa 0) af fD) (λh=>?_) λh=>?_
 . have h3:kd=3:=by have:=of_decide_eq_true h; omega
   have eT:nmT kd p=(p.fdiv 2).fmod (10^40)*(1-2*p.fmod 2):=by unfold nmT; rw[if_neg n1,if_pos h3]
   have eB:nmB kd p=1+(p.fdiv (2*10^40)).fmod (10^40-1):=by unfold nmB; rw[if_neg n1,if_pos h3]
   rw[eT]at hm;rw[eB]at hm b0 b2;refine aM 2 nd (aE (aE (aE (aa 1) af (dh (mkD .(2) .(2)))) (aE af af (nO .(12))) (bG .(2))) (aE af (aE af (aE (aa 1) af (bG .(2))) (bz (mkL .(2)))) cA) (bz (mkR ?_))) ?_
   . have:=fmn (a:=p) (b:=2) .(2); omega
   exact aX (x_call b c_l_made (ae (aa 2) (ae (aE af (aE (aE (aa 1) (aE af (aE af af (nO .(12))) (bz (mkL .(2)))) (dh HS)) (aE (aE af af (nO .(12))) af cA) (bG .(2))) bA) ag)) ⟨_,_,nmQ kd p,rfl,b0,hm,rfl⟩) rfl
 have n3:¬kd=3:=by have:=of_decide_eq_false h; omega
 refine eD (aZ (aa 0) af fD) (λh=>?_) λh=>?_
 . have h2:kd=2:=by have:=of_decide_eq_true h; omega
   have eT:nmT kd p=p.fmod 10:=by unfold nmT; rw[if_neg n1,if_neg n3,if_pos h2]
   have eB:nmB kd p=1+(p.fdiv 10).fmod 6:=by unfold nmB; rw[if_neg n1,if_neg n3,if_pos h2]
   rw[eT]at hm;rw[eB]at hm b0 b2;exact aX (x_call b c_l_made (ae (aE (aa 1) af (bG .(2))) (ae (aE af (aE (aE (aa 1) af (dh (mkD .(2) .(2)))) af (bG .(2))) bA) ag)) ⟨_,_,nmQ kd p,rfl,b0,hm,rfl⟩) rfl
 . have n2:¬kd=2:=by have:=of_decide_eq_false h; omega
   have eT:nmT kd p=p.fmod 19-9:=by unfold nmT; rw[if_neg n1,if_neg n3,if_neg n2]
   have eB:nmB kd p=1+(p.fdiv 19).fmod 6:=by unfold nmB; rw[if_neg n1,if_neg n3,if_neg n2]
   rw[eT]at hm;rw[eB]at hm b0 b2;exact aX (x_call b c_l_made (ae (aE (aE (aa 1) af (bG .(2))) af cA) (ae (aE af (aE (aE (aa 1) af (dh (mkD .(2) .(2)))) af (bG .(2))) bA) ag)) ⟨_,_,nmQ kd p,rfl,b0,hm,rfl⟩) rfl
end
noncomputable def mU (T R C:Nat)(ss:List Stp):D:=.tup [.int T,.int R,.int C,.lst (ss.map stD)]
structure okL (T R C:Nat)(ss:List Stp):Prop where
 t1:1<=T
 t7:T<=7
 r1:1<=R
 rT:R<=T
 c1:1<=C
 cT:C<=T
 len:ss.length<=400
 st:∀i,i<ss.length->okS T (ss.getD i ("weigh",0,0))
def G8 {ss:List Stp}(i:Nat)(h:i<(ss.map stD).length):(ss.map stD)[i]=stD (ss.getD i ("weigh",0,0)):=by
 have:i<ss.length:=by simpa using h
 simp[this]
def fM {α:Type}(f:Nat->α)(h:i<n)(d:α):((ox n).map f).getD i d=f i:=by simp[h]
noncomputable def wgT (p:Int)(g:Nat):Int:=if 0<g then p.fmod (10^g) else p.fmod 7
noncomputable def wgB (p:Int)(g:Nat):Int:=if 0<g then 1+(p.fdiv (10^g)).fmod (10^g-1) else 1+(p.fdiv 7).fmod 4
noncomputable def wgt (p:Int)(g:Nat):Rat:=(wgT p g:Rat)/(wgB p g:Rat)
def i9 (ds:List D)(r:Sl):Prop:=∃(p:Int) (g:Nat),ds=[.int p,.int g]/\g<=40/\r=.d (frD (wgt p g))
def fm {a b:Int}(h:0<b):0<=a.fmod b/\a.fmod b<b:=⟨JX a h,Kh a h⟩
def yj (h:g<=40):(10:Int)^g<2^140:=by
 have h1:(10:Nat)^g<=10^40:=Ir .(2) h;have h2:(10:Nat)^40<2^140:=by decide
 have:((10^g:Nat):Int)<((2^140:Nat):Int):=Int.ofNat_lt.mpr (IB h1 h2);simpa using this
def uF (h:0<g):(10:Int)<=10^g:=by have h1:(10:Nat)^1<=10^g:=Ir .(2) h;have:((10^1:Nat):Int)<=((10^g:Nat):Int):=Int.ofNat_le.mpr h1;simpa using this
def qu (h0:0<=x)(h:x<2^140):Bd 140 x:=by
 unfold Bd;have:(x.natAbs:Int)<((2^140:Nat):Int):=by rw[Int.natAbs_of_nonneg h0]; simpa using h
 exact Int.ofNat_lt.mp this
def vL (p:Int)(h:g<=40):0<=wgT p g/\Bd 140 (wgT p g)/\0<wgB p g/\Bd 140 (wgB p g):=by
 unfold wgT wgB;by_cases h0:0<g
 . have h1:=yj h;have h2:=uF h0;have f1:=fm (a:=p) (b:=10^g) ((by omega +splitMinMax));have f2:=fm (a:=p.fdiv (10^g)) (b:=10^g-1) ((by omega +splitMinMax));rw[if_pos h0,if_pos h0];exact⟨f1.1,qu f1.1 ((by omega +splitMinMax)),by omega +splitMinMax,qu ((by omega +splitMinMax)) ((by omega +splitMinMax))⟩
 . have f1:=fm (a:=p) (b:=7) .(2);have f2:=fm (a:=p.fdiv 7) (b:=4) .(2);rw[if_neg h0,if_neg h0];exact⟨f1.1,qu f1.1 .(0),by omega,qu .(0) .(0)⟩
def kL (p:Int)(h:g<=40):(wgT p g:Rat)=wgt p g*(wgB p g:Rat):=(JP (zZ (vL p h).2.2.1)).symm
def xu (p:Int)(h:g<=40):0<=(wgt p g).num/\Sq 140 (wgt p g):=by obtain⟨h1,h2,h3,h4⟩:=vL p h;refine⟨?_,Sq.bW h3 (kL p h) h2 h4⟩;rw[(bW h3 (kL p h)).1];exact Int.ediv_nonneg h1 .(24)
noncomputable def wrd (i:Int):Str:=if i=0 then "down" else if i=1 then "up" else "weigh"
def EX (h0:0<=i)(h:i<3):atI [D.str "down",D.str "up",D.str "weigh"] i=some (.str (wrd i)):=by obtain⟨n,rfl⟩:=Jo h0;rcases(by omega:n=0\/n=1\/n=2) with rfl | rfl | rfl <;> rfl
theorem kN {α:Type}(a b c:α):∀n,(Ii n [a,b,c]).flatten.length=3*n
 | 0=>rfl
 | n+1=>by rw[Jk,Jz,rp,kN a b c n]; simp; omega
def uY {a b c:Int}{x:Int}(h:x∈(Ii n [a,b,c]).flatten):x=a\/x=b\/x=c:=by obtain⟨l,h1,h2⟩:=List.mem_flatten.mp h;rw[(List.mem_replicate.mp h1).2]at h2;simpa using h2
theorem xp {a b c:Int}:∀(n k:Nat),k<n->(Ii n [a,b,c]).flatten.getD (3*k) 0=a/\(Ii n [a,b,c]).flatten.getD (3*k+1) 0=b/\(Ii n [a,b,c]).flatten.getD (3*k+2) 0=c
 | n+1,0,_=>by rw[Jk,Jz]; exact⟨rfl,rfl,rfl⟩
 | n+1,k+1,h=>by have:=xp (a:=a) (b:=b) (c:=c) n k .(0);rw[Jk,Jz];exact this
def AE (a b c:Int)(n:Nat):(Ii n [D.int a,D.int b,D.int c]).flatten=((Ii n [a,b,c]).flatten).map .int:=by rw[List.map_flatten,Mo]; rfl
noncomputable def adB (g:Nat):Int:=10^(2*(if (g:Int)>1 then (g:Int) else 1).toNat)*28
noncomputable def adP (c:Int)(n g:Nat):List Int:=nums c (Ii n [3,7,adB g]).flatten
noncomputable def adW (ps:List Int)(T k:Nat):Str:=if wrd (ps.getD (3*k) 0) ≠ "weigh" /\ T=1 then "weigh" else wrd (ps.getD (3*k) 0)
noncomputable def adA (ps:List Int)(T k:Nat):Int:=if adW ps T k = "weigh" then (ps.getD (3*k+1) 0).fmod T else (ps.getD (3*k+1) 0).fmod ((T:Int)-1)
noncomputable def adS (ps:List Int)(T g k:Nat):Stp:=(adW ps T k,(adA ps T k).toNat,wgt (ps.getD (3*k+2) 0) g)
def Ca (h:g<=40):0<adB g/\aK (adB g):=by
 unfold adB;have hk:(2*(if (g:Int)>1 then (g:Int) else 1).toNat)<=80:=by split <;> omega
 generalize (2*(if (g:Int)>1 then (g:Int) else 1).toNat)=k at hk;have h1:(10:Nat)^k<=10^80:=Ir .(2) hk;have h2:0<(10:Nat)^k:=Nat.pow_pos .(2);have e:(10:Int)^k*28=((10^k*28:Nat):Int):=by simp
 rw[e];have h3:Bd 300 ((10^k*28:Nat):Int):=by unfold Bd;rw[Lv];exact IB (Iu 28 h1) .(2)
 exact⟨by omega,h3.aK .(0) .(2)⟩
def Gu (h:g<=40)(hk:k<n):0<=.(144).getD (3*k) 0/\.(144).getD (3*k) 0<3:=by
 have hp:∀b∈(Ii n [3,7,adB g]).flatten,0<b:=λb hb=>by have:=Ca h;rcases uY hb with rfl | rfl | rfl <;> omega
 have:=oJ (c:=c) hp (i:=3*k) (by rw[kN]; omega);rw[(xp n k hk).1]at this;exact this
def zY (hT:1<=T):0<=adA ps T k/\(adW ps T k = "weigh" -> adA ps T k<T)/\(adW ps T k ≠ "weigh" -> 2<=T/\adA ps T k+1<T):=by
 unfold adA;split
 . rename_i h;have:=fm (a:=ps.getD (3*k+1) 0) (b:=T) .(0);exact⟨this.1,λ_=>this.2,λz=>absurd h z⟩
 . rename_i h
   have hT1:T≠1:=λz=>h (by
     unfold adW;split
     . rfl
     . rename_i y;exact Decidable.byContradiction λx=>y ⟨x,z⟩)
   have:=fm (a:=ps.getD (3*k+1) 0) (b:=(T:Int)-1) .(0);exact⟨this.1,λz=>absurd z h,λ_=>by omega⟩
def Fe (i:Int):wrd i = "weigh" \/ wrd i = "down" \/ wrd i = "up":=by
 unfold wrd;split
 . exact .inr (.inl rfl)
 . split
   . exact .inr (.inr rfl)
   . exact .inl rfl
def Ed (hT:1<=T)(hg:g<=40):okS T (adS ps T g k)/\Sq 140 (adS ps T g k).2.2:=by
 obtain⟨h1,h2,h3⟩:=zY (ps:=ps) (k:=k) hT;have hw:=xu (ps.getD (3*k+2) 0) hg;refine⟨⟨hw.1,?_⟩,hw.2⟩;by_cases e:adW ps T k = "weigh"
 . exact .inl ⟨e,by have:=h2 e; show (adA ps T k).toNat<T; omega⟩
 . refine .inr ⟨?_,by have:=h3 e; show (adA ps T k).toNat+1<T; omega⟩;show adW ps T k = "down" \/ adW ps T k = "up";unfold adW at e ⊢;split at e
   . exact absurd rfl e
   . rename_i y;rw[if_neg y];exact(Fe _).resolve_left e
def iI (ds:List D)(r:Sl):Prop:=∃(c:Int) (T R C n g:Nat),ds=[.int c,.int T,.int R,.int C,.int n,.int g]/\1<=T/\n<=30/\g<=40/\r=.d (mU T R C ((ox n).map (adS .(144) T g)))
section
variable {P:FB}{w:World}{K:fw}{mg:Str->Option Value}{base:Heap}{k:Nat}{f:Addr}{fd:Gc}{qual:Str}
def r6 (F:Fun K "_law_weight" qual (top 51) f fd)(hb:.(92))(c_l_made:.(90) "_law_made" fG)(c_l_ten:.(90) "_law_ten" kS):.(91) ["_law_part","_law_figures"] (spD K i9):=by
 refine fnD F ki hb (by rintro _ _ ⟨_,_,rfl,_⟩; rfl) ?_;rintro _ _ ⟨p,g,rfl,hg,rfl⟩ cdv A outer s H E b;have nd:=ki.nd;obtain⟨h1,h2,h3,h4⟩:=vL p hg;have hm:=kL p hg;refine eD (aZ (aa 1) af xy) (λh=>?_) λh=>?_
 . have h0:0<g:=by have:=of_decide_eq_true h; omega
   have t2:=uF h0;have eT:wgT p g=p.fmod (10^g):=if_pos h0;have eB:wgB p g=1+(p.fdiv (10^g)).fmod (10^g-1):=if_pos h0;have dv:aK ((10:Int)^g):=(qu .(0) (yj hg)).aK .(0) .(2);refine aM 2 nd (x_call b c_l_ten (ae (aa 1) ag) ⟨g,rfl,by omega,rfl⟩) ?_;exact aX (x_call b c_l_made (ae (aE (aa 0) (aa 2) (bG .(0))) (ae (aE af (aE (aE (aa 0) (aa 2) (dh dv)) (aE (aa 2) af cA) (bG .(0))) bA) ag)) ⟨wgT p g,wgB p g,wgt p g,by rw[eT,eB],h3,hm,rfl⟩) rfl
 . have h0:g=0:=by have:=of_decide_eq_false h; omega
   subst h0;exact aX (x_call b c_l_made (ae (aE (aa 0) af (bG .(2))) (ae (aE af (aE (aE (aa 0) af (dh (mkD .(2) .(2)))) af (bG .(2))) bA) ag)) ⟨wgT p 0,wgB p 0,wgt p 0,rfl,h3,hm,rfl⟩) rfl
def qY (F:Fun K "_law_ladder" qual (top 52) f fd)(hb:.(92))(c_l_numbers:.(90) "_law_numbers" cG)(c_l_weight:.(90) "_law_weight" i9)(c_l_ten:.(90) "_law_ten" kS):.(91) ["_law_cell_here","_law_tracks","_law_rows_here","_law_columns","_law_many","_law_figures"] (spD K iI):=by
 refine fnD F kx hb (by rintro _ _ ⟨_,_,_,_,_,_,rfl,_⟩; rfl) ?_;rintro _ _ ⟨c,T,R,C,n,g,rfl,hT,hn,hg,rfl⟩ cdv A outer s H E b;have nd:=kx.nd;have hmx:0<=(if (g:Int)>1 then (g:Int) else 1)/\(if (g:Int)>1 then (g:Int) else 1)<=40:=by split <;> omega
 have hB:=Ca hg;have hlen:.(144).length=3*n:=by unfold adP; rw[gQ,kN]
 refine aM 6 nd (x_call b c_l_numbers (ae (aa 0) (ae (bf (vO (bf (ck (ae af (ae af (ae (aE (x_call b c_l_ten (ae (aE af (bo b (ae af (ae (aa 5) ag)) (xl b.calm)) (bz (mkL .(2)))) ag) ⟨2*(if (g:Int)>1 then (g:Int) else 1).toNat,?_,by omega,rfl⟩) af (bz (mkR .(2)))) ag))))) (aa 4) .(0) .(0) ?_)) ag)) ⟨c,(Ii n [3,7,adB g]).flatten,?_,?_,?_,rfl⟩) ?_
 . congr 2; omega
 . simp; omega
 . rw[HW,<- AE]; rfl
 . rw[kN]; omega
 . intro x hx;rcases uY hx with rfl | rfl | rfl
   . exact oO .(2) .(2)
   . exact oO .(2) .(2)
   . exact hB
 refine jX 6 ?_;refine aM 7 nd (ck ag) ?_;refine cn 8 (λi τ=>∃s8 s9 s10,τ=[.d (.int c),.d (.int T),.d (.int R),.d (.int C),.d (.int n),.d (.int g),.d (.lst (.(144).map .int)),.o (((ox i).map (adS .(144) T g)).map stD),s8,s9,s10]) b nd (eX b (aa 4) .(0) .(0)) eV ⟨_,_,_,rfl⟩ (λi hi τ h=>?_) λτ h=>?_
 . obtain⟨s8,s9,s10,rfl⟩:=h;have hi:i<n:=by rw[aP]at hi; omega
   have lt3:=Gu (c:=c) hg hi;have e0:(3*(i:Int)).toNat=3*i:=by omega
   have e1:(3*(i:Int)+1).toNat=3*i+1:=by omega
   have e2:(3*(i:Int)+2).toNat=3*i+2:=by omega
   have k0:atI (.(144).map D.int) (3*(i:Int))=some (.int (.(144).getD (3*i) 0)):=by rw[<- e0]; exact jR .(0) .(0)
   have k1:atI (.(144).map D.int) (3*(i:Int)+1)=some (.int (.(144).getD (3*i+1) 0)):=by rw[<- e1]; exact jR .(0) .(0)
   have k2:atI (.(144).map D.int) (3*(i:Int)+2)=some (.int (.(144).getD (3*i+2) 0)):=by rw[<- e2]; exact jR .(0) .(0)
   obtain⟨a1,a2,a3⟩:=zY (ps:=adP c n g) (k:=i) hT;refine aM 9 nd (aL (bf (ck (ae bZ (ae bZ (ae bZ ag))))) (aL (aa 6) (aE af (aa 8) (bz (mkL .(2)))) (aY k0)) (aY (EX lt3.1 lt3.2))) ?_;refine aM 10 nd (aE (aL (aa 6) (aE (aE af (aa 8) (bz (mkL .(2)))) af bA) (aY k1)) (aa 1) (bG .(0))) ?_;refine gq (M:=λτ=>τ=[.d (.int c),.d (.int T),.d (.int R),.d (.int C),.d (.int n),.d (.int g),.d (.lst (.(144).map .int)),.o (((ox i).map (adS .(144) T g)).map stD),.d (.int i),.d (.str (adW .(144) T i)),.d (.int ((.(144).getD (3*i+1) 0).fmod T))]) (PW.pt (oy (aZ (aa 9) bZ u5) λh=>(oN (aZ (aa 1) af fD)))) (λh=>?_) (λh=>?_) ?_
   . refine aM 9 nd bZ (aS ?_);have:wrd (.(144).getD (3*i) 0) ≠ "weigh" /\ T=1:=by simp only[IS,Bool.not_eq_true',decide_eq_true_eq,decide_eq_false_iff_not]at h;exact⟨h.1,by omega⟩
     unfold adW;rw[if_pos this];rfl
   . refine aS ?_;have:¬(wrd (.(144).getD (3*i) 0) ≠ "weigh" /\ T=1):=λ⟨z1,z2⟩=>by rw[decide_eq_false z1,decide_eq_true (show (T:Int)=1 by omega)]at h;cases h
     unfold adW;rw[if_neg this];rfl
   . rintro _ rfl;refine gq (M:=λτ=>τ=[.d (.int c),.d (.int T),.d (.int R),.d (.int C),.d (.int n),.d (.int g),.d (.lst (.(144).map .int)),.o (((ox i).map (adS .(144) T g)).map stD),.d (.int i),.d (.str (adW .(144) T i)),.d (.int (adA .(144) T i))]) (aZ (aa 9) bZ u5) (λh=>?_) (λh=>?_) ?_
     . have h:adW .(144) T i ≠ "weigh":=by simpa using h
       have:=a3 h;refine aM 10 nd (aE (aL (aa 6) (aE (aE af (aa 8) (bz (mkL .(2)))) af bA) (aY k1)) (aE (aa 1) af cA) (bG .(0))) (aS ?_);unfold adA;rw[if_neg h];rfl
     . have h:adW .(144) T i = "weigh":=by simpa using h
       refine aS ?_;unfold adA;rw[if_pos h]
     . rintro _ rfl;refine lW 7 (bO (ae (aa 9) (ae (aa 10) (ae (x_call b c_l_weight (ae (aL (aa 6) (aE (aE af (aa 8) (bz (mkL .(2)))) af bA) (aY k2)) (ae (aa 5) ag)) ⟨_,g,rfl,hg,rfl⟩) ag)))) ?_ (aS ⟨.d (.int i),.d (.str (adW .(144) T i)),.d (.int (adA .(144) T i)),?_⟩)
       . rw[bp,bp,IQ]; omega
       . rw[Jt,Ia,Ia];have:((adA .(144) T i).toNat:Int)=adA .(144) T i:=Kc a1;show _=[_,_,_,_,_,_,_,Sl.o (_++[D.tup [.str _,.int ((adA .(144) T i).toNat:Int),frD _]]),_,_,_];rw[this];rfl
 . obtain⟨s8,s9,s10,rfl⟩:=h;rw[aP,HW];exact aX (bO (ae (aa 1) (ae (aa 2) (ae (aa 3) (ae (j8 7) ag))))) rfl
end
def FG {st:Stp}(h:okS T st)(h0:st.1 ≠ "weigh"):rgS st<T/\rgE st<T/\rgS st≠rgE st:=by
 obtain⟨_,h | h⟩:=h
 . exact absurd h.1 h0
 . have:=h.2;unfold rgS rgE;split <;> omega
def G0 {a b:Int}(h:0<a*b)(ha:0<a):0<b:=by
 rcases Int.lt_or_le 0 b with z | z
 . exact z
 . have:=Int.mul_le_mul_of_nonneg_left z (Int.le_of_lt ha);rw[Int.mul_zero]at this;omega
def Zq (P:Int)(n:Nat)(v:Rat):Prop:=∃z:Int,0<=z/\z<=2^n/\(z:Rat)=v*(P:Rat)
structure Wq (e:Nat)(q:Rat):Prop where
 n0:0<=q.num
 sq:Sq e q
def p2 (m n:Nat):(2:Int)^(m+n)=2^m*2^n:=Int.pow_add ..
def p0 (n:Nat):(0:Int)<=2^n:=by have e:((2^n:Nat):Int)=(2:Int)^n:=Mf ..;rw[<- e];exact KQ _
def bd2 (h:Bd n i):i<=2^n:=by have h:i.natAbs<2^n:=h;have e:((2^n:Nat):Int)=(2:Int)^n:=Mf ..;omega
def Zq.mul (h:Zq P n v)(g:Wq e q):Zq (P*((q.den:Nat):Int)) (n+e) (q*v):=by
 obtain⟨z,h0,h1,h2⟩:=h;refine⟨z*q.num,Int.mul_nonneg h0 g.n0,?_,?_⟩
 . rw[p2]; exact Nh h1 (bd2 g.sq.num) g.n0 (p0 n)
 . have:=dC q;rw[IA,IA]; grind
def Zq.up (h:Zq P n v)(g:Wq e q):Zq (P*((q.den:Nat):Int)) (n+e) v:=by
 obtain⟨z,h0,h1,h2⟩:=h;have:=den_pos q;refine⟨z*((q.den:Nat):Int),Int.mul_nonneg h0 .(0),?_,?_⟩
 . rw[p2]; exact Nh h1 (bd2 g.sq.den) .(0) (p0 n)
 . rw[IA,IA]; grind
def Zq.add (h:Zq P n v)(g:Zq P n w):Zq P (n+1) (v+w):=by obtain⟨z,h0,h1,h2⟩:=h;obtain⟨y,g0,g1,g2⟩:=g;refine⟨z+y,by omega,by rw[p2]; omega,?_⟩;rw[Kl]; grind
def Zq.mono (h:Zq P m v)(g:m<=n):Zq P n v:=by
 obtain⟨z,h0,h1,h2⟩:=h;refine⟨z,h0,Int.le_trans h1 ?_,h2⟩
 exact_mod_cast Ir (n:=2) .(2) g
def zV (h0:0<=i)(h:i<=2^n):Bd (n+1) i:=by unfold Bd;have e:((2^n:Nat):Int)=(2:Int)^n:=Mf ..;have:=K2 (n:=2) (m:=n);have:=Jl n;omega
def Zq.sq (h:Zq P n v)(hP:0<P)(g:P<=2^m)(hm:m<=n):Sq (n+1) v:=by obtain⟨z,h0,h1,h2⟩:=h;exact Sq.bW hP h2 (zV h0 h1) ((zV .(0) g).mono .(0))
noncomputable def dg (C T:Nat)(L:Nat->Nat->Rat):List D:=(ox T).map λk=>.lst (((ox C).map (L k)).map frD)
def pE (h:n<T):(dg C T L).set n (.lst (((ox C).map r).map frD))=dg C T (gy L n r):=by
 refine Jw (by simp[dg]) λk h1 h2=>?_;have hk:k<T:=by simpa[dg]using h2
 rw[List.getElem_set];unfold dg gy;by_cases e:n=k
 . subst e; simp
 . rw[if_neg e]; simp[Je e]
def lD (h:n<T):atI (dg C T L) (n:Int)=some (.lst (((ox C).map (L n)).map frD)):=aH (by simp[dg,h])
def A5 (h:R<=T):cutD (dg C T L) none (some (R:Int))=dg C R L:=by rw[sU];unfold dg;rw[<- KL,List.take_range,J8 h]
def yb {t u:List Rat}(i:Nat)(h:i<(gG (t.map frD) (u.map frD)).length):(gG (t.map frD) (u.map frD))[i]=.tup [frD (t.getD i 0),frD (u.getD i 0)]:=by rw[pG];rw[bQ,bp,bp]at h;simp[show i<t.length by omega,show i<u.length by omega]
structure BkJ (T C S t:Nat)(P:Int)(L:Nat->Nat->Rat):Prop where
 pos:0<P
 le:P<=2^S
 zq:∀k,k<T->∀j,j<C->Zq P (S+t) (L k j)
def BkJ.start :BkJ T C 0 0 1 V0:=⟨by decide,by simp,λk hk j hj=>by
 unfold V0;split
 . exact⟨1,by decide,by simp,(Jd _).symm⟩
 . exact⟨0,by decide,by simp,(IU _).symm⟩⟩
def BkJ.put (h:BkJ T C S t P L)(g:Wq e q)(hz:∀j,j<C->Zq (P*((q.den:Nat):Int)) (S+e+(t+1)) (r j)):BkJ T C (S+e) (t+1) (P*((q.den:Nat):Int)) (gy L n r):=by
 refine⟨M7 h.pos (den_pos q),?_,λk hk j hj=>?_⟩
 . rw[p2];exact Nh h.le (bd2 g.sq.den) (by have:=den_pos q; omega) (p0 _)
 . unfold gy;split
   . exact hz j hj
   . exact((h.zq k hk j hj).up g).mono .(0)
def BkJ.sq (h:BkJ T C S t P L)(hk:k<T)(hj:j<C):Sq (S+t+1) (L k j):=(h.zq k hk j hj).sq h.pos h.le .(0)
def BkJ.step {st:Stp}(h:BkJ T C S t P L)(g:Wq e st.2.2)(ok:okS T st):BkJ T C (S+e) (t+1) (P*((st.2.2.den:Nat):Int)) (bkV L st):=by
 unfold bkV;by_cases e0:st.1 = "weigh"
 . rw[if_pos e0]
   have hn:st.2.1<T:=by
     rcases ok.2 with z | z
     . exact z.2
     . have:=z.2; omega
   exact h.put g λj hj=>((h.zq _ hn j hj).mul g).mono .(0)
 . rw[if_neg e0];obtain⟨h1,h2,h3⟩:=FG ok e0;exact h.put g λj hj=>(((h.zq _ h1 j hj).up g).add ((h.zq _ h2 j hj).mul ⟨g.n0,g.sq⟩ |>.mono .(0))).mono .(0)
noncomputable def bJ (E:Stp->Nat)(ss:List Stp):Nat:=(ss.map E).sum
def wb (E:Stp->Nat)(ss:List Stp)(i:Nat):bJ E (ss.take i)<=bJ E ss:=by
 conv=>rhs; rw[<- L1 i ss]
 unfold bJ;rw[Ia,List.sum_append];omega
def lG (E:Stp->Nat)(ss:List Stp):bJ E ss.reverse=bJ E ss:=by unfold bJ;rw[List.map_reverse,List.sum_reverse]
def de (E:Stp->Nat)(xs ys:List Stp):bJ E (xs++ys)=bJ E xs+bJ E ys:=by unfold bJ;rw[Ia,List.sum_append]
def Hv {r:List Rat}(i:Nat)(h:i<(r.map frD).length):(r.map frD)[i]=frD (r.getD i 0):=by
 have:i<r.length:=by simpa using h
 simp[this]
def g8 :(gG (((ox C).map r).map frD) (((ox C).map u).map frD)).length=C:=by rw[bQ]; simp
def t8 (hm:m=C)(r:Nat->Rat):((ox m).map λj=>frD (r j))=((ox C).map r).map frD:=by subst hm;rw[IC];rfl
def FK {ss:List Stp}(i:Nat)(h:i<(ss.map stD).reverse.length):(ss.map stD).reverse[i]=stD .(119):=by
 have:i<ss.length:=by simpa using h
 simp[this]
def bX (ds:List D)(r:Sl):Prop:=∃(E:Stp->Nat) (T R C:Nat) (ss:List Stp),ds=[mU T R C ss]/\okL T R C ss/\(∀st∈ss,Wq (E st) st.2.2)/\bJ E ss+ss.length<=990000/\r=.o (dg C R (bwd ss))
section
variable {P:FB}{w:World}{K:fw}{mg:Str->Option Value}{base:Heap}{k:Nat}{f:Addr}{fd:Gc}{qual:Str}
def iV (F:Fun K "_law_ladders_table" qual (top 55) f fd)(hb:.(92))(c_l_times:.(90) "_law_times" j9)(c_l_plus:.(90) "_law_plus" jo):.(91) ["_law_ladder_here"] (spD K bX):=by
 refine fnD F dX hb (by rintro _ _ ⟨_,_,_,_,_,rfl,_⟩; rfl) ?_;rintro _ _ ⟨EE,T,R,C,ss,rfl,h00,hw,hn,rfl⟩ cdv A outer s H E b;have nd:=dX.nd;have hT:=h00.t7;have hRT:=h00.rT;have hCT:=h00.cT;refine D0 (aa 0) (B6 b.calm (gi 1 nd (gi 2 nd (gi 3 nd (gi 4 nd x8))))) ?_;refine pe 5 nd (cmp 0 (f:=λk=>.lst ((ox (i8 0 (C:Int).toNat).length).map λj=>frD (V0 k j))) b (eX b (aa 1) .(0) .(0)) eV (by rw[aP]; omega) λk hk s0 H0 fp=>bf (dD (cmp 0 (f:=λj=>frD (V0 k j)) .(107) (eX .(107) (aa 1) .(0) .(0)) eV (by rw[aP]; omega) λj hj s1 H1 fq=>?_))) (.inl rfl) ?_
 . have ev:frD (V0 k j)=.tup [.int (if decide ((j:Int)=(k:Int)) then 1 else 0),.int 1]:=by
     unfold V0;by_cases z:j=k
     . rw[if_pos z,decide_eq_true .(0)]; rfl
     . rw[if_neg z,decide_eq_false .(0)]; rfl
   rw[ev];exact bO (ae (pB (.(107).comp s1 H1 _ fq) (ae (jG (aa 0) (aa 1) fD) ag) BZ) (ae af ag))
 have el:((ox (i8 0 (T:Int).toNat).length).map λk=>D.lst ((ox (i8 0 (C:Int).toNat).length).map λj=>frD (V0 k j)))=dg C T V0:=by rw[aP,aP,HW,HW];unfold dg;exact ID λk _=>by rw[IC]; rfl
 rw[el];have rl:(ss.map stD).reverse.length=ss.length:=by simp
 refine De (λi τ=>∃P s6 s7 s8,BkJ T C (bJ EE (ss.reverse.take i)) i P ((ss.reverse.take i).foldl bkV V0)/\τ=[.d (mU T R C ss),.d (.int T),.d (.int R),.d (.int C),.d (.lst (ss.map stD)),.o (dg C T ((ss.reverse.take i).foldl bkV V0)),s6,s7,s8])
   (λi τ=>((τ.set 6 (.d (.str .(119).1))).set 7 (.d (.int (.(119).2.1:Nat)))).set 8 (.d (frD .(119).2.2))) b (B0 b (aa 4)) (λi hi τ _=>by rw[FK i hi]; exact B6 b.calm (gi 6 nd (gi 7 nd (gi 8 nd x8)))) ⟨1,.un,.un,.un,BkJ.start,rfl⟩ (λi hi τ h=>?_) λτ h=>?_
 . obtain⟨P,s6,s7,s8,I,rfl⟩:=h;have hi:i<ss.length:=by rw[rl]at hi; exact hi
   have ei:ss.reverse.getD i ("weigh",0,0)=ss.getD (ss.length-1-i) ("weigh",0,0):=by simp[LF,List.getElem?_reverse hi]
   have g:Wq (EE .(119)) .(119).2.2:=by rw[ei]; exact hw _ (by simp[show ss.length-1-i<ss.length by omega])
   have ok:okS T .(119):=by rw[ei]; exact h00.st _ .(0)
   have nx:∀V,(ss.reverse.take (i+1)).foldl bkV V=bkV ((ss.reverse.take i).foldl bkV V) .(119):=λV=>by rw[take_snoc (("weigh",0,0):Stp) (show i<ss.reverse.length by simpa using hi),Km]; rfl
   have ns:bJ EE (ss.reverse.take (i+1))=bJ EE (ss.reverse.take i)+EE .(119):=by rw[take_snoc (("weigh",0,0):Stp) (show i<ss.reverse.length by simpa using hi),de];simp[bJ]
   have lim:bJ EE (ss.reverse.take (i+1))<=bJ EE ss:=by
     have:=wb EE ss.reverse (i+1)
     rwa [lG]at this
   rw[ns]at lim;rw[nx,ns];have I2:=I.step g ok;have sqL:∀k,k<T->∀j,j<C->Sq (bJ EE (ss.reverse.take i)+i+1) ((ss.reverse.take i).foldl bkV V0 k j):=λk hk j hj=>I.sq hk hj;generalize bJ EE (ss.reverse.take i)=S at *
   generalize (ss.reverse.take i).foldl bkV V0=V at *
   generalize ss.reverse.getD i ("weigh",0,0)=st at *
   generalize EE st=e at *
   obtain⟨u,n,q⟩:=st;have sq:Sq e q:=g.sq;have ll:(dg C T V).length=T:=by simp[dg]
   have sqm:∀k,k<T->∀j,j<C->Sq (e+(S+i+1)) (q*V k j):=λk hk j hj=>sq.mul (sqL k hk j hj);refine gq (M:=λτ=>∃P s6 s7 s8,BkJ T C (S+e) (i+1) P (bkV V (u,n,q))/\τ=[.d (mU T R C ss),.d (.int T),.d (.int R),.d (.int C),.d (.lst (ss.map stD)),.o (dg C T (bkV V (u,n,q))),s6,s7,s8]) (aZ (aa 6) bZ vJ) (λh=>?_) (λh=>?_) λτ h=>aS h
   . obtain rfl:=of_decide_eq_true h
     have hnT:n<T:=by
       rcases ok.2 with z | z
       . exact z.2
       . have:=z.2; simp only at this; omega
     refine xW 5 (xs:=dg C T V) (j:=n) (aa 7) (bf (dD (cmp 0 (f:=λj=>frD (q*V n j)) b (bC (fJ 5 (aa 7) (lD hnT))) Hv .(13) λj hj s0 H0 fp=>?_))) (by rw[ll]; exact cN hnT) (aS ⟨_,.d (.str "weigh"),.d (.int n),.d (frD q),I2,?_⟩)
     . have hj:j<C:=by simpa using hj
       rw[fM _ hj];exact x_call .(107) c_l_times (ae (aa 1) .(111)) ⟨e,S+i+1,q,V n j,rfl,sq,sqL n hnT j hj,.(15),rfl⟩
     . rw[t8 (C:=C) .(4) λj=>q*V n j];show [_,_,_,_,_,Sl.o ((dg C T V).set n _),_,_,_]=_;rw[pE hnT];rfl
   . have h0:u ≠ "weigh":=of_decide_eq_false h
     have hnT:n+1<T:=by
       rcases ok.2 with z | z
       . exact absurd z.1 h0
       . exact z.2
     have hnT':n<T:=(by omega);refine gq (M:=λτ=>∃P s6 s7 s8,BkJ T C (S+e) (i+1) P (bkV V (u,n,q))/\τ=[.d (mU T R C ss),.d (.int T),.d (.int R),.d (.int C),.d (.lst (ss.map stD)),.o (dg C T (bkV V (u,n,q))),s6,s7,s8]) (aZ (aa 6) bZ vJ) (λh=>?_) (λh=>?_) λτ h=>aS h
     . obtain rfl:=of_decide_eq_true h;have eb:bkV V ("down",n,q)=gy V n λj=>V n j+q*V (n+1) j:=by unfold bkV;rw[if_neg h0];rfl
       refine xW 5 (xs:=dg C T V) (j:=n) (aa 7) (bf (dD (Ac 0 1 (f:=λj=>frD (V n j+q*V (n+1) j)) b (qZ b (fJ 5 (aa 7) (lD hnT')) (fJ 5 (aE (aa 7) af bA) (lD hnT))) yb (by rw[g8]; omega) λj hj s0 H0 fp=>?_))) (by rw[ll]; exact cN hnT') (aS ⟨_,.d (.str "down"),.d (.int n),.d (frD q),I2,?_⟩)
       . have hj:j<C:=by rw[g8]at hj; exact hj
         rw[fM _ hj,fM _ hj];exact x_call .(107) c_l_plus (ae (aa 0) (ae (x_call .(107) c_l_times (ae (aa 2) (ae (aa 1) ag)) ⟨e,S+i+1,q,V (n+1) j,rfl,sq,sqL _ hnT j hj,.(15),rfl⟩) ag)) ⟨S+i+1,e+(S+i+1),V n j,q*V (n+1) j,rfl,sqL _ hnT' j hj,sqm _ hnT j hj,.(15),rfl⟩
       . rw[t8 g8 λj=>V n j+q*V (n+1) j,eb];show [_,_,_,_,_,Sl.o ((dg C T V).set n _),_,_,_]=_;rw[pE hnT']
     . have h1:u ≠ "down":=of_decide_eq_false h;have eb:bkV V (u,n,q)=gy V (n+1) λj=>V (n+1) j+q*V n j:=by unfold bkV rgS rgE;rw[if_neg h0,if_neg h1,if_neg h1]
       refine xW 5 (xs:=dg C T V) (j:=n+1) (aE (aa 7) af bA) (bf (dD (Ac 0 1 (f:=λj=>frD (V (n+1) j+q*V n j)) b (qZ b (fJ 5 (aa 7) (lD hnT')) (fJ 5 (aE (aa 7) af bA) (lD hnT))) yb (by rw[g8]; omega) λj hj s0 H0 fp=>?_))) (by rw[ll]; exact cN hnT) (aS ⟨_,.d (.str u),.d (.int n),.d (frD q),I2,?_⟩)
       . have hj:j<C:=by rw[g8]at hj; exact hj
         rw[fM _ hj,fM _ hj];exact x_call .(107) c_l_plus (ae (aa 1) (ae (x_call .(107) c_l_times (ae (aa 2) .(111)) ⟨e,S+i+1,q,V n j,rfl,sq,sqL _ hnT' j hj,.(15),rfl⟩) ag)) ⟨S+i+1,e+(S+i+1),V (n+1) j,q*V n j,rfl,sqL _ hnT j hj,sqm _ hnT' j hj,.(15),rfl⟩
       . rw[t8 g8 λj=>V (n+1) j+q*V n j,eb];show [_,_,_,_,_,Sl.o ((dg C T V).set (n+1) _),_,_,_]=_;rw[pE hnT]
 . obtain⟨P,s6,s7,s8,I,rfl⟩:=h;rw[rl,Io .(4)];refine jX 5 (aX (CW (aa 5) iF (fo (aa 2))) ?_);rw[A5 hRT];rfl
end
noncomputable def eB (M:Nat)(st:Stp):Nat:=if st.2.2=0\/st.2.2=1 then 1 else 2*M
def Cc (h:1<=M)(st:Stp):eB M st<=2*M:=by unfold eB;split <;> omega
def Fv (h:1<=m):Sq m 0:=⟨Jl m,by
 show (1:Int).natAbs<2^m;have:=Ir (n:=2) .(2) h;show 1<2^m;omega⟩
def GH (h:1<=m):Sq m 1:=by have:=Ir (n:=2) .(2) h;exact⟨by show 1<2^m; omega,by show 1<2^m; omega⟩
def Fy {st:Stp}(h0:0<=st.2.2.num)(h:Sq (2*M) st.2.2):Wq (eB M st) st.2.2:=by
 refine⟨h0,?_⟩;unfold eB;split
 . rename_i z;rcases z with z | z
   . rw[z]; exact Fv (IE 1)
   . rw[z]; exact GH (IE 1)
 . exact h
def DD (h1:1<=M)(hk:k<n)(hi:i+1<n)(sz:Sz n M g):(∀st∈fB k i g,Sq (2*M) st.2.2)/\bJ (eB M) (fB k i g)<=2*M+2:=by
 unfold fB;split
 . exact⟨λ_ z=>.(146),Im _⟩
 . split
   . refine⟨λst hs=>?_,?_⟩
     . rcases HZ.mp hs with rfl | hs
       . exact Fv .(0)
       . rw[gV]at hs;subst hs;exact GH .(0)
     . have e1:eB M ("weigh",i,0)=1:=if_pos (.inl rfl);have e2:eB M ("up",i,1)=1:=if_pos (.inr rfl);show eB M ("weigh",i,0)+(eB M ("up",i,1)+0)<=_;omega
   . rename_i z1 z2;refine⟨λst hs=>?_,?_⟩
     . rw[gV]at hs;subst hs;have:=(sz (i+1) hi k hk).div (sz i .(0) k hk) z2
       rwa [<- Nat.two_mul]at this
     . have:=Cc h1 ("up",i,g (i+1) k/g i k);show eB M ("up",i,g (i+1) k/g i k)+0<=_;omega
theorem vk (h1:1<=M):∀(d:Nat) (g:Nat->Nat->Rat),k+d<n->SzP n M k d g->(∀st∈clS k d g,Sq (2*M) st.2.2)/\bJ (eB M) (clS k d g)<=d*(2*M+2)
 | 0,_,_,_=>⟨λ_ z=>.(146),Im _⟩
 | d+1,g,hd,sz=>by
   obtain⟨a1,a2⟩:=DD (i:=k+d) h1 (by omega:k<n) .(0) sz.1;obtain⟨b1,b2⟩:=vk h1 d _ .(0) sz.2;refine⟨λst hs=>?_,?_⟩
   . rcases vp.mp (show st∈fB k (k+d) g++clS k d (c9 k (k+d) g) from hs) with h | h
     . exact a1 st h
     . exact b1 st h
   . show bJ (eB M) (fB k (k+d) g++clS k d (c9 k (k+d) g))<=_;rw[de,Jr];omega
theorem Ci (h1:1<=M)(sz:SzA n M A):∀k,k<=n->(∀st∈.(115).2.1,Sq (2*M) st.2.2)/\(∀st∈.(115).2.2,Sq (2*M) st.2.2)/\bJ (eB M) .(115).2.1<=k*(2*(n*(2*M+2)))/\bJ (eB M) .(115).2.2<=k*(n*(2*M+2))
 | 0,_=>⟨λ_ z=>.(146),λ_ z=>.(146),Im _,Im _⟩
 | k+1,hk=>by
   obtain⟨a1,a2,a3,a4⟩:=Ci h1 sz k .(0);obtain⟨z1,z2,z3⟩:=sz k .(0);have le:(n-1-k)*(2*M+2)<=n*(2*M+2):=Iu _ .(0);obtain⟨c1,d1⟩:=vk h1 (n-1-k) _ .(0) z1;obtain⟨c2,d2⟩:=vk h1 (n-1-k) _ .(0) z2;obtain⟨c3,d3⟩:=vk h1 (n-1-k) _ .(0) z3;have e:apF n A (k+1)=(st3 n k .(115).1,.(115).2.1++stA n k .(115).1,.(115).2.2++stB n k .(115).1):=rfl;rw[e];refine⟨λst hs=>?_,λst hs=>?_,?_,?_⟩
   . rcases vp.mp hs with h | h
     . exact a1 st h
     . rcases vp.mp (show st∈clS k (n-1-k) (apF n A k).1++clS k (n-1-k) (st2 n k (apF n A k).1) from h) with h | h
       . exact c1 st h
       . exact c3 st h
   . rcases vp.mp hs with h | h
     . exact a2 st h
     . exact c2 st h
   . show bJ (eB M) (.(115).2.1++(clS k (n-1-k) .(115).1++clS k (n-1-k) (st2 n k .(115).1)))<=_;rw[de,de,Jr];omega
   . show bJ (eB M) (.(115).2.2++clS k (n-1-k) (trF (st1 n k .(115).1)))<=_;rw[de,Jr];omega
theorem Cw {n M:Nat}(h1:1<=M){g:Nat->Nat->Rat}:∀k,bJ (eB M) ((ox k).map λi=>("weigh",i,g i i))<=k*(2*M)
 | 0=>Im _
 | k+1=>by rw[Jt,Ia,de,Jr];have:=Cw (n:=n) h1 (g:=g) k;have:=Cc h1 ("weigh",k,g k k);show _+(eB M ("weigh",k,g k k)+0)<=_;omega
def Cp (s:Stp):(trn s).2.2=s.2.2:=by unfold trn;split <;> rfl
def zy (ss:List Stp):bJ (eB M) (ss.reverse.map trn)=bJ (eB M) ss:=by rw[<- lG (eB M) ss];unfold bJ;rw[IC];congr 1;refine ID λs _=>?_;show eB M (trn s)=eB M s;unfold eB;rw[Cp]
def F5 (h1:1<=M)(sz:SzA n M A)(last:Sz n M (apF n A n).1):(∀st∈apS n A,Sq (2*M) st.2.2)/\bJ (eB M) (apS n A)<=(3*(n*n)+n)*(2*M+2):=by
 obtain⟨a1,a2,a3,a4⟩:=Ci h1 sz n (IE n);have c:=Cw (n:=n) h1 (g:=(apF n A n).1) n;refine⟨λst hs=>?_,?_⟩
 . unfold apS at hs;rcases vp.mp hs with h | h
   . exact a1 st h
   . rcases vp.mp h with h | h
     . unfold crS at h;obtain⟨k,hk,rfl⟩:=HV.mp h;have hk:=Iq.mp hk;exact(last k hk k hk).mono .(0)
     . obtain⟨s,ms,rfl⟩:=HV.mp h;rw[Cp];exact a2 s (LO.mp ms)
 . unfold apS;rw[de,de,zy];have c':bJ (eB M) (crS n (apF n A n).1)<=n*(2*M):=c;have e1:n*(2*(n*(2*M+2)))=2*(n*n*(2*M+2)):=by rw[Nat.mul_left_comm,Mw n n]
   have e2:n*(n*(2*M+2))=n*n*(2*M+2):=(Mw n n _).symm;have e3:(3*(n*n)+n)*(2*M+2)=3*(n*n*(2*M+2))+n*(2*M+2):=by rw[Nat.add_mul,Mw 3]
   have e4:n*(2*M)<=n*(2*M+2):=Ml _ .(0);rw[e3];rw[e1]at a3;rw[e2]at a4;omega
def gM (ds:List D)(r:Sl):Prop:=∃(T:Nat) (s:Stp),ds=[stD s,.int T]/\okS T s/\r=.d (.bl true)
section
variable {P:FB}{w:World}{K:fw}{mg:Str->Option Value}{base:Heap}{k:Nat}{f:Addr}{fd:Gc}{qual:Str}
def pT (F:Fun K "_law_is_step" qual (top 57) f fd)(hb:.(92))(c_l_whole:.(90) "_law_whole" iq)(c_l_divisor:.(90) "_law_divisor" c8):.(91) ["_law_step","_law_tracks"] (spD K gM):=by
 refine fnD F ju hb (by rintro _ _ ⟨_,_,rfl,_⟩; rfl) ?_;rintro _ _ ⟨T,⟨u,n,q⟩,rfl,⟨h0,h1⟩,rfl⟩ cdv A outer s H E b;have nd:=ju.nd;have h0:0<=q.num:=h0;have dp:=den_pos q;have g1:Jg q.num (q.den:Nat)=1:=by have:=q.reduced; rwa [Jg,Lv]
 have hu:(u = "weigh" /\ n<T)\/(u = "down" /\ n+1<T)\/(u = "up" /\ n+1<T):=by
   rcases h1 with h | ⟨h | h,h2⟩
   . exact .inl h
   . exact .inr (.inl ⟨h,h2⟩)
   . exact .inr (.inr ⟨h,h2⟩)
 have eu:Ev.cu (.str u)/\(!([D.str "down",.str "up",.str "weigh"].any λz=>Ev.eqD z (.str u)))=false:=by rcases hu with ⟨rfl,_⟩ | ⟨rfl,_⟩ | ⟨rfl,_⟩ <;> exact⟨by decide +kernel,by simp[Ev.eqD]⟩
 have el:(decide ((0:Int)<=(n:Nat))&&decide (((n:Nat):Int)<(T:Int)-(if (!decide (u=("weigh" : Str)))=true then 1 else 0)))=true:=by
   rw[decide_eq_true .(0),Bool.true_and];refine decide_eq_true ?_;rcases hu with ⟨rfl,h⟩ | ⟨rfl,h⟩ | ⟨rfl,h⟩
   . rw[decide_eq_true rfl]; show (n:Int)<(T:Int)-0; omega
   . rw[decide_eq_false .(2)]; show (n:Int)<(T:Int)-1; omega
   . rw[decide_eq_false .(2)]; show (n:Int)<(T:Int)-1; omega
 refine dQ (PW.pt (iW (cL (cQ (gw .tuple b (aa 0)))) λh=>(iW (aZ (bo b .(111) fY) af wQ) λh=>(jC (aZ (aL (aa 0) af (aQ (aH (i:=0) rfl))) (bf (ck (ae bZ (ae bZ (ae bZ ag))))) (DP b eu.1 (by intro z hz; simp only[HZ,Jm,or_false]at hz; rcases hz with rfl | rfl | rfl <;> decide +kernel))))))) (by rw[eu.2]; rfl) ?_;refine dQ (PW.pt (iW (cL (cQ (x_call b c_l_whole (ae (aL (aa 0) af (aQ (aH (i:=1) rfl))) ag) ⟨_,rfl,rfl⟩))) λh=>(jC (cL ((uV af (aL (aa 0) af (aQ (aH (i:=1) rfl))) (aE (aa 1) (pB b (ae (jG (aL (aa 0) af (aQ (aH (i:=0) rfl))) bZ u5) ag) BZ) cA) Ey qQ).2 rfl))))) (by rw[el]; rfl) ?_;refine aM 2 nd (aL (aa 0) af (aQ (aH (i:=2) rfl))) ?_;refine dQ (PW.pt (iW (cL (cQ (gw .tuple b (aa 2)))) λh=>(iW (aZ (bo b (ae (aa 2) ag) fY) af wQ) λh=>(iW (cL (cQ (x_call b c_l_whole (ae (aL (aa 2) af (aQ (aH (i:=0) rfl))) ag) ⟨_,rfl,rfl⟩))) λh=>(jC (cL (cQ (x_call b c_l_whole (ae (aL (aa 2) af (aQ (aH (i:=1) rfl))) ag) ⟨_,rfl,rfl⟩)))))))) rfl ?_;refine aX (mO (jG (aL (aa 2) af (aQ (aH (i:=0) rfl))) af DW) λh=>(mO (jG (aL (aa 2) af (aQ (aH (i:=1) rfl))) af xy) λh=>(nM (jG (x_call b c_l_divisor (ae (aL (aa 2) af (aQ (aH (i:=0) rfl))) (ae (aL (aa 2) af (aQ (aH (i:=1) rfl))) ag)) ⟨_,_,rfl,rfl⟩) af fD)))) ?_;rw[g1,decide_eq_true h0,decide_eq_true (show (0:Int)<(q.den:Nat) from dp)];rfl
end
mutual
theorem jy:∀x:D,Ev.eqD x x=true
 | .non=>by rw[Ev.eqD]
 | .bl a=>by simp[Ev.eqD]
 | .int a=>by simp[Ev.eqD]
 | .str a=>by simp[Ev.eqD]
 | .tup xs=>by rw[Ev.eqD]; exact jT xs
 | .lst xs=>by rw[Ev.eqD]; exact jT xs
 | .box x=>by rw[Ev.eqD]
theorem jT:∀xs:List D,Ev.gk xs xs=true
 | []=>by rw[Ev.gk]
 | x::xs=>by rw[Ev.gk,jy x,jT xs]; rfl
end
theorem vq:∀r:List Rat,Ev.bR (r.map frD)=true/\Ev.b6 (r.map frD)<=1
 | []=>by simp[Ev.bR,Ev.b6]
 | x::r=>by
   obtain⟨h1,h2⟩:=vq r;rw[IJ,Ev.bR,Ev.b6,h1,frD];refine⟨by simp[Ev.cln,Ev.bR],?_⟩;have:Ev.dep (.tup [.int x.num,.int (x.den:Nat)])=1:=by simp[Ev.dep,Ev.b6]
   rw[this];omega
theorem vC:∀m:List .(109),Ev.bR (m.map rwQ)=true/\Ev.b6 (m.map rwQ)<=2
 | []=>by simp[Ev.bR,Ev.b6]
 | r::m=>by obtain⟨h1,h2⟩:=vC m;obtain⟨h3,h4⟩:=vq r;rw[IJ,Ev.bR,Ev.b6,h1,show rwQ r=.lst (r.map frD) from rfl,Ev.cln,Ev.dep,h3];exact⟨rfl,by omega⟩
def zx (m:List .(109)):Ev.cu (tbQ m):=by obtain⟨h1,h2⟩:=vC m;unfold tbQ Ev.cu;rw[Ev.cln,Ev.dep,h1];exact⟨rfl,by omega⟩
noncomputable def yD (T R C:Nat)(ss:List Stp):D:=.tup [.str "ladder",mU T R C ss]
def ic (ds:List D)(r:Sl):Prop:=∃(E:Stp->Nat) (T R C:Nat) (ss:List Stp) (A:Nat->Nat->Rat),ds=[yD T R C ss,tbQ (mkT R C A)]/\okL T R C ss/\T=sz2 R C/\(∀st∈ss,Wq (E st) st.2.2)/\bJ E ss+ss.length<=990000/\(∀i,i<R->∀j,j<C->bwd ss i j=A i j)/\r=.d (.bl true)
def vG (R C:Nat)(L:Nat->Nat->Rat):D.lst (dg C R L)=tbQ (mkT R C L):=by unfold dg tbQ mkT;rw[IC];rfl
def Cy (a b c:Int):Ev.cu (.tup [.int a,.int b,.int c]):=⟨by simp[Ev.cln,Ev.bR],by simp[Ev.dep,Ev.b6]⟩
section
variable {P:FB}{w:World}{K:fw}{mg:Str->Option Value}{base:Heap}{k:Nat}{f:Addr}{fd:Gc}{qual:Str}
def sP (F:Fun K "_law_makes" qual (top 58) f fd)(hb:.(92))(c_l_ladders_table:.(90) "_law_ladders_table" bX)(c_l_is_step:.(90) "_law_is_step" gM)(c_l_whole:.(90) "_law_whole" iq):.(91) ["_law_found","_law_table"] (spD K ic):=by
 refine fnD F mw hb (by rintro _ _ ⟨_,_,_,_,_,_,rfl,_⟩; rfl) ?_;rintro _ _ ⟨EE,T,R,C,ss,A,rfl,ok,hT,hw,hn,he,rfl⟩ cdv A' outer s H E b;have nd:=mw.nd;have r1:=ok.r1;have c1:=ok.c1;have hl:=ok.len;have lm:((mkT R C A).map rwQ).length=R:=by rw[bp,dH]
 have ln:(((ox C).map (A 0)).map frD).length=C:=by simp
 have r0:atI ((mkT R C A).map rwQ) 0=some (rwQ ((ox C).map (A 0))):=by have:=dR (f:=rwQ) (xs:=mkT R C A) [] (i:=0) (by rw[dH]; exact r1);rw[jE r1]at this;exact this
 have es:(if (C:Int)>(R:Int) then (C:Int) else (R:Int))=(T:Nat):=by rw[hT]; unfold sz2; split <;> split <;> omega
 have ix1:∀X:Cx,Ar X (yD T R C ss) (.int 1) (mU T R C ss):=λX=>aQ (aH (i:=1) rfl);refine dQ (PW.pt (iW (cL (cQ (gw .tuple b (aa 0)))) λh=>(iW (aZ (bo b .(111) fY) af wQ) λh=>(iW (aZ (aL (aa 0) af (aQ (aH (i:=0) rfl))) bZ u5) λh=>(jC (cL (cQ (gw .tuple b (aL (aa 0) af (ix1 _)))))))))) rfl ?_;have e3:cutD [D.int T,.int R,.int C,.lst (ss.map stD)] none (some 3)=[.int T,.int R,.int C]:=rfl;have sl3:∀{X:Cx} {τ:List Sl} {e:Expr} {l2:Expr} {C':Bool} {p2 pos:Pos},PE X e (dE X.K C' τ (.d (mU T R C ss)))->PO X (some l2) (dO X.K τ (some 3))->PE X (.Subscript e (.Slice none (some l2) none p2) pos) (dE X.K C' τ (.d (.tup [.int T,.int R,.int C]))):=λ{X τ e l2 C' p2 pos} h u=>by have:=qw (pos:=pos) (p2:=p2) h iF u (λz=>by have:=z.2; simp[HT.sIx]at this);rw[e3]at this;exact this
 refine dQ (PW.pt (iW (aZ (bo b (ae (aL (aa 0) af (ix1 _)) ag) fY) af wQ) λh=>(jC (cL (cQ (bo b (ae (bf (dD (cmp 0 (g:=λi=>.int ((([(T:Int),(R:Int),(C:Int)]).getD i 0))) (f:=λi=>.bl true) b (F6 (sl3 (aL (aa 0) af (ix1 _)) (fo af))) (λi h=>by match i,h with | 0,_=>rfl | 1,_=>rfl | 2,_=>rfl) .(4) λi hi s0 H0 fp=>(x_call .(107) c_l_whole .(111) ⟨_,rfl,rfl⟩)))) ag) (rL b.calm [true,true,true] rfl))))))) rfl ?_;refine dQ (aZ (sl3 (aL (aa 0) af (ix1 _)) (fo af)) (bO (ae (bo b (ae (bo b (ae (aa 1) ag) (gc lm)) (ae (bo b (ae (aL (aa 1) af (aY r0)) ag) (gc ln)) ag)) (xl b.calm)) (ae (bo b (ae (aa 1) ag) (gc lm)) (ae (bo b (ae (aL (aa 1) af (aY r0)) ag) (gc ln)) ag)))) (Cu b (Cy _ _ _) (Cy _ _ _))) (by rw[es,jy]; rfl) ?_;refine aM 2 nd (aL (aL (aa 0) af (ix1 _)) af (aQ (aH (i:=3) rfl))) ?_;refine dQ (PW.pt (iW (cL (cQ (gw .list b (aa 2)))) λh=>(jC (aZ (bo b (ae (aa 2) ag) (gc (n:=ss.length) (by rw[bp]))) af xy)))) (by rw[decide_eq_false .(0)]; rfl) ?_;refine dQ (cL (cQ (bo b (ae (bf (dD (cmp 0 (g:=λi=>stD (ss.getD i ("weigh",0,0))) (f:=λi=>.bl true) b (bC (aa 2)) G8 .(8) λi hi s0 H0 fp=>(x_call .(107) c_l_is_step (ae (aa 0) (ae (aL (aL (aa 1) af (ix1 _)) af (aQ (aH (i:=0) rfl))) ag)) ⟨T,_,rfl,ok.st i (by simpa using hi),rfl⟩)))) ag) (rL b.calm (Ii ss.length true) (by rw[Mo,bp]; exact(List.map_const' ..).trans (by rw[IQ])))))) .(4) ?_;refine aX (jG (bf (x_call b c_l_ladders_table (ae (aL (aa 0) af (ix1 _)) ag) ⟨EE,T,R,C,ss,rfl,ok,hw,hn,rfl⟩) (by exact congrArg some (vG R C (bwd ss)))) (aa 1) (zg b (zx _) (zx _))) ?_;rw[wF he,jy]
end
def C2 {L:Nat->Nat->Rat}{st:Stp}(H:Tnn T C L)(h:okS T st):Tnn T C (bkV L st):=by
 have w0:(0:Rat)<=st.2.2:=Rat.num_nonneg.mp h.1;unfold bkV;by_cases e:st.1 = "weigh"
 . rw[if_pos e];refine(H.tr.col (h:=st.2.1) (t:=0) (a:=st.2.2) (b:=0) w0 KW (.inl rfl)).tr.congr λi _ j _=>?_;unfold gy;by_cases z:i=st.2.1
   . rw[if_pos z,if_pos z]; grind
   . rw[if_neg z,if_neg z]
 . rw[if_neg e];obtain⟨h1,h2,_⟩:=FG h e;have nb:rgE st=rgS st+1\/rgS st=rgE st+1:=by unfold rgS rgE;split <;> omega
   refine(H.tr.col (h:=rgS st) (t:=rgE st) (a:=1) (b:=st.2.2) .(2) w0 (.inr ⟨h2,nb⟩)).tr.congr λi _ j _=>?_;unfold gy;by_cases z:i=rgS st
   . rw[if_pos z,if_pos z]; grind
   . rw[if_neg z,if_neg z]
def uZ :∀(xs:List Stp) (L:Nat->Nat->Rat),Tnn T C L->(∀st∈xs,okS T st)->Tnn T C (xs.foldl bkV L)
 | [],_,H,_=>H
 | st::xs,L,H,h=>uZ xs _ (C2 H (h st .(5))) λs m=>h s (Et _ m)
def BQ (h:∀st∈ss,okS T st):Tnn T C (bwd ss):=
 uZ _ _ ((E2 T C).congr λi _ j _=>by
   unfold V0;by_cases z:i=j
   . rw[if_pos z,if_pos z.symm]
   . rw[if_neg z,if_neg (Je z)]) λst m=>h st (LO.mp m)
theorem yA :∀(xs:List Stp) (S t:Nat) (P:Int) (L:Nat->Nat->Rat),BkJ T C S t P L->(∀st∈xs,okS T st/\Wq (E st) st.2.2)->∃P',BkJ T C (S+bJ E xs) (t+xs.length) P' (xs.foldl bkV L)
 | [],_,_,P,_,I,_=>⟨P,I⟩
 | st::xs,S,t,P,L,I,h=>by
   obtain⟨a,b⟩:=h st .(5);obtain⟨P',J⟩:=yA xs _ _ _ _ (I.step b a) λs m=>h s (Et _ m);refine⟨P',?_⟩;have e1:S+bJ E (st::xs)=S+E st+bJ E xs:=by show S+(E st+bJ E xs)=_;omega
   have e2:t+(st::xs).length=t+1+xs.length:=by rw[Ja]; omega
   rw[e1,e2];exact J
def CG (h:∀st∈ss,okS T st/\Wq (E st) st.2.2):∃P,BkJ T C (bJ E ss) ss.length P (bwd ss):=by obtain⟨P,J⟩:=yA (E:=E) ss.reverse 0 0 1 V0 (BkJ.start (T:=T) (C:=C)) λs m=>h s (LO.mp m);rw[lG,JJ,KG,KG]at J;exact⟨P,J⟩
def pM {z:Int}(h0:0<=z)(h:z<=2^n):z.natAbs<=2^n:=by have e:((2^n:Nat):Int)=(2:Int)^n:=Mf ..;omega
def BkJ.cm (I:BkJ T C S t P L)(hR:R<=T):Cm (S+t) S R C L:=
 ⟨P,I.pos,pM (by have:=I.pos; omega) I.le,λi hi j hj=>by
   obtain⟨z,z0,z1,z2⟩:=I.zq i .(0) j hj;exact⟨z,by rw[z2,J0],pM z0 z1⟩⟩
def BkJ.qs (I:BkJ T C S t P L)(hi:i<T)(hj:j<C):Qs (S+1) (S+t) (L i j):=by
 obtain⟨z,z0,z1,z2⟩:=I.zq i hi j hj;obtain⟨e1,e2⟩:=bW I.pos z2;refine⟨?_,?_⟩
 . rw[e2]; exact(zV (by have:=I.pos; omega) I.le).ediv _
 . have g1:(1:Int)<=(Jg z P:Int):=by have:=ft (i:=z) (j:=P) (by have:=I.pos; omega); omega
   have n0:0<=(L i j).num:=by rw[e1]; exact Int.ediv_nonneg z0 .(0)
   have h1:(L i j).num<=z:=by rw[e1]; exact Int.ediv_le_self _ z0
   have h2:=pM z0 z1;have d1:1<=(L i j).den:=(L i j).den_pos;have:(L i j).num.natAbs<=2^(S+t):=by omega
   exact Il this (Nw _ d1)
def Cm.mono (h:Cm β σ m n A)(h1:β<=β')(h2:σ<=σ'):Cm β' σ' m n A:=by obtain⟨P,p0,p1,p2⟩:=h;exact⟨P,p0,Il p1 (Ir .(2) h2),λi hi j hj=>(p2 i hi j hj).mono h1⟩
def FL (h:s<=s'):mB s β σ<=mB s' β σ:=by unfold mB;have:=Iu (β+3) h;omega
noncomputable def wu (s β σ:Nat):Nat:=(3*(s*s)+s)*(2*mB s β σ+2)+400
def Az (h:s<=s'):wu s β σ<=wu s' β σ:=by have h1:=FL (β:=β) (σ:=σ) h;have h2:s*s<=s'*s':=Ju h h;have h3:(3*(s*s)+s)*(2*mB s β σ+2)<=(3*(s'*s')+s')*(2*mB s' β σ+2):=Ju .(0) .(0);unfold wu;omega
def BP (r1:1<=R)(c1:1<=C)(s7:sz2 R C<=7)(H:Tnn R C A)(cm:Cm β σ R C A)(lim:wu (sz2 R C) β σ<=990000):
   okL (sz2 R C) R C (apS (sz2 R C) (cx R C A))/\(∀st∈apS (sz2 R C) (cx R C A),Wq (eB (mB (sz2 R C) β σ) st) st.2.2)/\bJ (eB (mB (sz2 R C) β σ)) (apS (sz2 R C) (cx R C A))+(apS (sz2 R C) (cx R C A)).length<=990000/\∀i,i<R->∀j,j<C->bwd (apS (sz2 R C) (cx R C A)) i j=A i j:=by
 have sm:R<=sz2 R C/\C<=sz2 R C/\1<=sz2 R C:=by unfold sz2; split <;> omega
 unfold wu at lim;generalize sz2 R C=s at *
 have Hs:Tnn s s (cx R C A):=uQ H;have cs:Cm β σ s s (cx R C A):=cm.pad;have sz:=yi s7 Hs cs;obtain⟨mk,ok⟩:=yX Hs;have len:=BE s7 (cx R C A);have M1:1<=mB s β σ:=by unfold mB; omega
 have last:Sz s (mB s β σ) (apF s (cx R C A) s).1:=by obtain⟨P,p0,p1,p2⟩:=cs;have F:FS s 0 (λi j=>(P:Rat)*1*cx R C A i j) (λ_=>(P:Rat)) (λ_=>1) (cx R C A):=FS.start (λ_ _ _ _=>rfl) (λ_=>MZ.mpr p0) (λ_=>by decide);obtain⟨φ,o,l,b,κ,o',l',b',G,_,_⟩:=zD Hs F s (IE s);exact y0 s7 (λi hi j hj=>by rw[J3]; exact p2 i hi j hj) (λ_ _=>⟨P,rfl,p1⟩) ⟨φ,o,l,b,κ,o',l',b',G⟩
 obtain⟨z1,z2⟩:=F5 M1 sz last;refine⟨⟨sm.2.2,s7,r1,sm.1,c1,sm.2.1,len,λi hi=>ok _ (ba hi)⟩,λst hs=>Fy (ok st hs).1 (z1 st hs),by omega,λi hi j hj=>?_⟩;rw[mk i .(0) j .(0)];exact if_pos ⟨hi,hj⟩
noncomputable def prZ (ns:List Int):Int:=ns.foldl (·*·) 1
def zA (ns:List Int)(n:Int):prZ (ns++[n])=prZ ns*n:=by unfold prZ; rw[Km]; rfl
theorem zU :∀(r:List Int) (s:Int) (n:Nat),Bd n s->(∀q∈r,Bd d q)->Bd (n+r.length*d) (r.foldl (·*·) s)
 | [],s,n,h,_=>by simpa using h
 | q::r,s,n,h,hd=>by
   have:=zU r _ _ (h.mul (hd q .(5))) λx hx=>hd x (Et _ hx);rw[Ja,Jr]
   rwa [show n+d+r.length*d=n+(r.length*d+d) by omega]at this
def C3 (h:∀q∈r,Bd d q):Bd (1+r.length*d) (prZ r):=zU r 1 1 (by unfold Bd; decide) h
def GF (hs:0<s)(q:Rat):(s*(q.den:Nat))/(Jg s (q.den:Nat):Int)=scS s q:=by unfold scS;have d1:(Jg s (q.den:Nat):Int)∣s:=MS ..;rw[Int.mul_comm s,Int.mul_ediv_assoc _ d1,Int.mul_comm]
def DI (R:List .(123)):ndD (rP R)=.lst (R.map dtR):=by unfold rP rwN;rw[ndD,t6];congr 1;exact ID λr _=>by rw[l6]; rfl
def lx (ds:List D)(r:Sl):Prop:=∃(R C d v:Nat) (M:List .(109)),ds=[tbQ M]/\Tq R C M/\(∀r∈M,∀x∈r,Qs d v x)/\1+C*d<=8999/\v+d<=8999/\r=.n (.t [rP .(142),.d (.int (prZ (M.map scL)))])
def zL {M:List .(109)}(h:i<M.length):((ox (i+1)).map λi=>whR .(103) (scL .(103)))=((ox i).map λi=>whR .(103) (scL .(103)))++[whR .(103) (scL .(103))]:=by rw[Jt,Ia];rfl
def BM (M:List .(109)):(ox M.length).map (λi=>whR .(103) (scL .(103)))=whM M (M.map scL):=by unfold whM;refine ID λi hi=>?_;have:i<M.length:=Iq.mp hi;simp[this]
section
variable {P:FB}{w:World}{K:fw}{mg:Str->Option Value}{base:Heap}{k:Nat}{f:Addr}{fd:Gc}{qual:Str}
def wZ (F:Fun K "_law_rows" qual (top 49) f fd)(hb:.(92))(c_l_divisor:.(90) "_law_divisor" c8):.(91) ["_law_table"] (spD K lx):=by
 refine fnD F oo hb (by rintro _ _ ⟨_,_,_,_,_,rfl,_⟩; rfl) ?_;rintro _ _ ⟨R,C,d,v,M,rfl,t,hq,z1,z2,rfl⟩ cdv A outer s H E b;have nd:=oo.nd;have r7:=t.r7;have c7:=t.c7;refine aM 1 nd (ck ag) ?_;refine Ge 1 (c:=.l []) ?_;refine aM 2 nd af ?_;refine cn 3 (g:=λi=>rwQ .(103)) (λi τ=>i<=M.length/\∃s3 s4 s5,τ=[.d (tbQ M),.n (rP ((ox i).map λi=>whR .(103) (scL .(103)))),.d (.int (prZ ((M.map scL).take i))),s3,s4,s5]) b nd (bC (aa 0)) (cU (f:=rwQ) (xs:=M) []) ⟨Im _,.un,.un,.un,rfl⟩ (λi hi τ h=>?_) λτ h=>?_
 . obtain⟨_,s3,s4,s5,rfl⟩:=h;have hi:i<M.length:=by simpa using hi
   have mi:=ba (xs:=M) (d:=[]) hi;have hiR:i<R:=by rw[<- t.len]; exact hi
   have hC:=t.at_ hiR;have qr:=hq _ mi;rw[zL hi];have et:(M.map scL).take (i+1)=(M.map scL).take i++[scL .(103)]:=by rw[Na,Iy,ph hi];simp[hi]
   rw[et,zA]
   have bpr:Bd (1+R*8999) (prZ ((M.map scL).take i)):=(C3 (d:=8999) λx hx=>by
     obtain⟨r,hr,rfl⟩:=HV.mp (Ko hx);have:=kf (d:=d) (r:=r) λx hx=>(hq r hr x hx).den;rw[t.row r hr]at this
     exact this.mono z1).mono (by
       have:((M.map scL).take i).length<=R:=by rw[IX,bp,t.len]; omega
       have:=Iu 8999 this;omega)
   generalize prZ ((M.map scL).take i)=pr at bpr ⊢;generalize hg:((ox i).map λi=>whR .(103) (scL .(103)))=Gs;have lGs:Gs.length=i:=by rw[<- hg]; simp
   generalize M.getD i []=row at mi hC qr ⊢;refine aM 4 nd af ?_;refine cn 5 (g:=λj=>frD (row.getD j 0)) (λj τ=>j<=row.length/\∃s5,τ=[.d (tbQ M),.n (rP Gs),.d (.int pr),.d (rwQ row),.d (.int (scL (row.take j))),s5]) b nd (bC (aa 3)) (cU (f:=frD) (xs:=row) 0) ⟨Im _,s5,rfl⟩ (λj hj τ h=>?_) λτ h=>?_
   . obtain⟨_,s5,rfl⟩:=h;have hj:j<row.length:=by simpa using hj
     have mm:=ba (d:=(0:Rat)) hj;have hs:=(k6 (row.take j)).1
     have bs:Bd (1+C*d) (scL (row.take j)):=(kf λx hx=>(qr x (Ko hx)).den).mono (by
       have:(row.take j).length*d<=C*d:=Iu _ .(21);omega)
     have et:row.take (j+1)=row.take j++[row.getD j 0]:=(by rw[Na,ph hj]; simp[hj]);rw[et,qo];generalize scL (row.take j)=sc at hs bs ⊢;generalize row.getD j 0=x at mm ⊢;have hx:=den_pos x;have sd:=(qr x mm).den;have dv:aK (Jg sc (x.den:Nat):Int):=(sd.gcd .(0)).aK (ft .(0)) .(0);refine aM 4 nd (aE (aE (aa 4) (aL (aa 5) af (aQ (aH (i:=1) rfl))) (bz (bs.aI sd .(0) .(0)))) (x_call b c_l_divisor (ae (aa 4) (ae (aL (aa 5) af (aQ (aH (i:=1) rfl))) ag)) ⟨_,_,rfl,rfl⟩) (dh dv)) (aS ⟨hj,.d (frD x),?_⟩);rw[bg,GF hs];rfl
   . obtain⟨_,s5,rfl⟩:=h;rw[bp,List.take_length];have br:=kf (d:=d) (r:=row) λx hx=>(qr x hx).den;rw[hC]at br;refine EA (c:=rwN (whR row (scL row))) (cV 1) (dD (cmp 0 (g:=λj=>frD (row.getD j 0)) (f:=λj=>.int ((row.getD j 0).num*((scL row).fdiv ((row.getD j 0).den:Nat)))) b (bC (aa 3)) (cU (f:=frD) (xs:=row) 0) .(8) λj hj s0 H0 fp=>?_)) rfl rfl ?hx ?_ ?_
     . have sq:=(qr _ (ba (d:=(0:Rat)) (show j<row.length by simpa using hj))).sq;generalize row.getD j 0=x at sq ⊢;have hx:=den_pos x;have e:(scL row).fdiv (x.den:Nat)=scL row/(x.den:Nat):=JH _ .(0);exact aE (aL (aa 0) af (aQ (aH (i:=0) rfl))) (aE (aa 1) (aL (aa 0) af (aQ (aH (i:=1) rfl))) (dh (sq.den.aK .(0) .(0)))) (bz (by rw[e]; exact sq.num.aI (br.ediv _) .(0) .(0)))
     case hx=>refine congrArg (λl=>some (Nd.l (l.map .d))) ((gm (λx:Rat=>D.int (x.num*((scL row).fdiv (x.den:Nat)))) row 0 .(17)).trans ?_);unfold whR;rw[IC];refine ID λx _=>?_;simp only[Kz];rw[JH _ (by have:=den_pos x; omega)]
     . rw[bp,lGs]; omega
     . refine aM 2 nd (aE (aa 2) (aa 4) (bz (bpr.aI br .(0) .(0)))) (aS ⟨hi,.d (rwQ row),.d (.int (scL row)),s5,?_⟩);unfold rP;rw[Ia];rfl
 . obtain⟨_,s3,s4,s5,rfl⟩:=h;rw[bp,BM,Io (by rw[bp]; exact IE _)];exact DN 1 (aa 2) rfl
end
def Qs.mono (h:Qs d v q)(hd:d<=d')(hv:v<=v'):Qs d' v' q:=⟨h.den.mono hd,Il h.val (Iu _ (Ir .(2) hv))⟩
def AD (q:Rat):frD (-q)=.tup [.int (0-q.num),.int (q.den:Nat)]:=by unfold frD;rw[show (-q).num=-q.num from rfl,show (-q).den=q.den from rfl,Int.zero_sub]
def Qs.neg (h:Qs d v q):Qs d v (-q):=by refine⟨h.den,?_⟩;rw[show (-q).num=-q.num from rfl,show (-q).den=q.den from rfl,Ku];exact h.val
structure Oq (R C d v:Nat)(M:List .(109)):Prop where
 t:Tq R C M
 q:∀r∈M,∀x∈r,Qs d v x
noncomputable def tw (M:List .(109))(a b:Nat):List .(109):=(M.set a (M.getD b [])).set b (M.getD a [])
noncomputable def lY (a b:Nat)(r:List Rat):List Rat:=(r.set a (r.getD b 0)).set b (r.getD a 0)
section
variable {R C d v:Nat}{M:List .(109)}
def Oq.put {q:Rat}(h:Oq R C d v M)(hi:i<R)(hq:Qs d v q):Oq R C d v (rE M i j q):=by
 have hm:∀r∈rE M i j q,r∈M\/r=.(103).set j q:=λr hr=>II hr;refine⟨⟨h.t.r1,h.t.r7,h.t.c1,h.t.c7,by unfold rE; rw[Iz]; exact h.t.len,λr hr=>?_⟩,λr hr x hx=>?_⟩
 . rcases hm r hr with z | z
   . exact h.t.row r z
   . rw[z,Iz]; exact h.t.at_ hi
 . rcases hm r hr with z | z
   . exact h.q r z x hx
   . rw[z]at hx;rcases II hx with y | y
     . exact h.q _ (ba (d:=[]) (by rw[h.t.len]; exact hi)) x y
     . rw[y]; exact hq
def Oq.swap (h:Oq R C d v M)(ha:a<R)(hb:b<R):Oq R C d v (tw M a b):=by
 have mem:∀r∈tw M a b,r∈M:=λr hr=>by
   rcases II hr with z | z
   . rcases II z with y | y
     . exact y
     . rw[y]; exact ba (d:=[]) (by rw[h.t.len]; exact hb)
   . rw[z]; exact ba (d:=[]) (by rw[h.t.len]; exact ha)
 exact⟨⟨h.t.r1,h.t.r7,h.t.c1,h.t.c7,by unfold tw; rw[Iz,Iz]; exact h.t.len,λr hr=>h.t.row r (mem r hr)⟩,λr hr=>h.q r (mem r hr)⟩
def Oq.csw (h:Oq R C d v M)(ha:a<C)(hb:b<C):Oq R C d v (M.map (lY a b)):=by
 refine⟨⟨h.t.r1,h.t.r7,h.t.c1,h.t.c7,by rw[bp]; exact h.t.len,λr hr=>?_⟩,λr hr x hx=>?_⟩
 . obtain⟨g,hg,rfl⟩:=HV.mp hr;unfold lY;rw[Iz,Iz];exact h.t.row g hg
 . obtain⟨g,hg,rfl⟩:=HV.mp hr;have gl:=h.t.row g hg;unfold lY at hx;rcases II hx with z | z
   . rcases II z with y | y
     . exact h.q g hg x y
     . rw[y]; exact h.q g hg _ (ba (d:=(0:Rat)) .(0))
   . rw[z]; exact h.q g hg _ (ba (d:=(0:Rat)) .(0))
def Oq.cell (h:Oq R C d v M)(hi:i<R)(hj:j<C):Qs d v (.(103).getD j 0):=h.q _ (ba (d:=[]) (by rw[h.t.len]; exact hi)) _ (ba (d:=(0:Rat)) (by rw[h.t.at_ hi]; exact hj))
end
def qg {M:List .(109)}(hi:i<M.length):(M.map λr=>Nd.l ((r.map frD).map .d))[i]?=some (.l ((.(103).map frD).map .d)):=by rw[Iy,ph hi];simp[hi]
def yz :Nd.l (((M.map λr=>Nd.l ((r.map frD).map .d)).set a (.l (((M.getD b []).map frD).map .d))).set b (.l (((M.getD a []).map frD).map .d)))=fP (tw M a b):=by unfold fP tw;rw[MH,MH]
def Dh (p:Int):Wq 3 (wgt p 0):=by obtain⟨h1,h2,h3,h4⟩:=vL p (g:=0) .(2);have f1:=fm (a:=p) (b:=7) .(2);have f2:=fm (a:=p.fdiv 7) (b:=4) .(2);have e1:wgT p 0=p.fmod 7:=rfl;have e2:wgB p 0=1+(p.fdiv 7).fmod 4:=rfl;exact⟨(xu p .(2)).1,Sq.bW h3 (kL p .(2)) (by unfold Bd; omega) (by unfold Bd; omega)⟩
theorem iX :∀ss:List Stp,bJ (λ_=>e) ss=e*ss.length
 | []=>rfl
 | s::ss=>by have:=iX (e:=e) ss;show e+bJ (λ_=>e) ss=_;rw[this,Ja,Nat.mul_succ];omega
structure Ld (S t T R C:Nat)(ss:List Stp):Prop where
 ok:okL T R C ss
 w:∃E:Stp->Nat,(∀st∈ss,Wq (E st) st.2.2)/\bJ E ss<=S/\bJ E ss+ss.length<=t
def okL.mem (h:okL T R C ss):∀s∈ss,okS T s:=λs hs=>by obtain⟨i,hi,rfl⟩:=Kx hs;have:=h.st i hi;simpa[hi]using this
def Ld.tab (h:Ld S t T R C ss):Tq R C (mkT R C (bwd ss))/\(∀r∈mkT R C (bwd ss),∀x∈r,Qs (S+1) t x)/\Cm t S R C (bwd ss)/\Tnn R C (bwd ss):=by obtain⟨ok,E,hw,hs,ht⟩:=h;have r1:=ok.r1;have c1:=ok.c1;have rT:=ok.rT;have cT:=ok.cT;have t7:=ok.t7;obtain⟨P,I⟩:=CG (T:=T) (C:=C) λst m=>⟨ok.mem st m,hw st m⟩;refine⟨qd r1 .(0) c1 .(0),λr hr x hx=>?_,(I.cm rT).mono ht hs,(BQ ok.mem).le rT (IE C)⟩;unfold mkT at hr;obtain⟨i,hi,rfl⟩:=HV.mp hr;obtain⟨j,hj,rfl⟩:=HV.mp hx;exact(I.qs (by have:=Iq.mp hi; omega) (Iq.mp hj)).mono .(0) ht
def Ga (T R C:Nat)(ss:List Stp):ndD (.t [.d (.str "ladder"),lcN T R C ss])=yD T R C ss:=by unfold lcN yD mU;simp only[ndD,kI,l6]
def HR (c:Int)(t1:1<=T)(t3:T<=3)(r1:1<=R)(rT:R<=T)(c1:1<=C)(cT:C<=T)(hn:n<=7):Ld 21 28 T R C ((ox n).map (adS (adP c n 0) T 0)):=by
 refine⟨⟨t1,by omega,r1,rT,c1,cT,by simp; omega,λi hi=>?_⟩,λ_=>3,λst hs=>?_,by rw[iX]; simp; omega,by rw[iX]; simp; omega⟩
 . have hi:i<n:=by simpa using hi
   rw[fM _ hi];exact(Ed t1 .(2)).1
 . obtain⟨k,_,rfl⟩:=HV.mp hs;exact Dh _
end K33
namespace Hy
open PySem PySem.Spec PyProof.Rows L2
open Ev (D Den aw aq a5 aR)
section
variable {X:Cx}{τ:List Sl}{ia ia2 ib ib2:Expr}{N:Po}{rest:List Stmt}{xs:List Nd}{xa xb:Nd}{l0:Nat}
def AW (i:Nat){tn:Str}{za zb:Int}{a b:Nat}{p1 p2 p3 p4 p5 p6 p7 p8 pv pt s1:Pos}{mv mt}(Bq:Bk X l0)(hi:τ[i]?=some (.n (.l xs)))
   (h1:PE X ib (dE X.K false τ (.d (.int zb)))) (h2:PE X ia (dE X.K false τ (.d (.int za)))) (h3:PE X ia2 (dE X.K false τ (.d (.int za)))) (h4:PE X ib2 (dE X.K false (τ.set i .un) (.d (.int zb))))
   (ea:ixN xs.length za=some a) (eb:ixN xs.length zb=some b) (fa:xs[a]?=some xa) (fb:xs[b]?=some xb)
   (hr:PSs X rest (dS X.K (τ.set i (.n (.l ((xs.set a xb).set b xa)))) N))
   (hNi:X.N[i]?=some tn:=by rfl) (hvi:Vis X.env.scope tn:=by first | exact Ka rfl | exact Ji .(10) | exact Ji .(9))
   (hd1:(tn==("__debug__" : Str))=false:=by decide) (hd2:(tn==("__classdict__" : Str))=false:=by decide)
   (pa:du ia:=by exact λ_ _=>rfl) (pb:du ib:=by exact λ_ _=>rfl)
   (r1:Do [.Subscript (.Name tn p1) ib p2,.Subscript (.Name tn p3) ia p4] X.env=(false,eval (.Subscript (.Name tn p1) ib p2) X.env)::Do [.Subscript (.Name tn p3) ia p4] X.env:=by rfl)
   (r2:Do [.Subscript (.Name tn p3) ia p4] X.env=(false,eval (.Subscript (.Name tn p3) ia p4) X.env)::Do [] X.env:=by rfl)
   (w2:NL [.Tuple [.Subscript (.Name tn p5) ia2 p6,.Subscript (.Name tn p7) ib2 p8] mt pt] .(140) s1.line X.env=pure false:=by rfl)
   (w3:NM [.Tuple [.Subscript (.Name tn p5) ia2 p6,.Subscript (.Name tn p7) ib2 p8] mt pt] .(140) X.env=pure none:=by rfl)
   (w4:(KM [.Tuple [.Subscript (.Name tn p5) ia2 p6,.Subscript (.Name tn p7) ib2 p8] mt pt] X.env).map (·.2)=[assign (.Tuple [.Subscript (.Name tn p5) ia2 p6,.Subscript (.Name tn p7) ib2 p8] mt pt) X.env]:=by rfl)
   (w5:∀v,assign (.Subscript (.Name tn p5) ia2 p6) X.env v=(do
     let ov <- N3 [v] (eval (.Name tn p5) X.env)
     let iv <- N3 [v,ov] (eval ia2 X.env)
     O1 p6
     N3 [v,ov,iv] (O2 ov iv v)
     Of [v,ov,iv] []):=by intro _; rfl)
   (w9:∀v,assign (.Subscript (.Name tn p7) ib2 p8) X.env v=(do
     let ov <- N3 [v] (eval (.Name tn p7) X.env)
     let iv <- N3 [v,ov] (eval ib2 X.env)
     O1 p8
     N3 [v,ov,iv] (O2 ov iv v)
     Of [v,ov,iv] []):=by intro _; rfl)
   (hl:(KM [.Subscript (.Name tn p5) ia2 p6,.Subscript (.Name tn p7) ib2 p8] X.env).length=2:=by rfl) (hst:(KM [.Subscript (.Name tn p5) ia2 p6,.Subscript (.Name tn p7) ib2 p8] X.env).findIdx? (·.1)=none:=by rfl) :
   PSs X (.Assign [.Tuple [.Subscript (.Name tn p5) ia2 p6,.Subscript (.Name tn p7) ib2 p8] mt pt] .(140) s1::rest) .(114):=by
 refine bB (M:=(·=τ.set i (.n (.l ((xs.set a xb).set b xa))))) (psW (jM (lI (bh (gW (cV i hi hNi hvi hd1 hd2) h1 hi rfl eb pb) (bh (gW (cV i hi hNi hvi hd1 hd2) h2 hi rfl ea pa) cw r2) r1)) (pN (n:=2) Bq.calm (eg (iM (cV i hi hNi hvi hd1 hd2) h3 set_list w5) (eg (iM (bw hNi hvi hd1 hd2) h4 set_list w9) kR)) hl hst) w2 w3 w4) λD σ H ⟨A,H₀,B,S,Me⟩=>?_) λ_ e=>e▸hr;refine⟨A,H₀,B,S,λu vb H1 eu e1 pv=>⟨A,H₀,B,S.mono e1,λu2 va H2 eu2 e2 pv2=>?_⟩⟩;rw[eu]at eu2;cases eu2;have S2:=.(129).mono e2;refine⟨(show 2<=sizeLine by decide),λpp hp=>?_⟩;have e3:=aq hp (.tup [vb,va]);have S3:=S2.mono e3;refine⟨pp,[vb,va],rfl,SqT.of aN,rfl,vb,[va],rfl,A,H₀,B,S3,λu3 w H4 eu3 e4 pv3=>aV (S3.mono e4) λy H5 e5 d5=>?_⟩;rw[eu]at eu3;cases eu3;cases d5;cases pv3;have S5:=(S3.mono e4).mono e5;obtain⟨u',l,vs,bs0,eu',pv',hH,r0,nd0,hal,hown,put⟩:=S5.putN (p:=[]) hi rfl;rw[eu]at eu';cases eu';cases pv';have lv:=r0.length
 have vb1:vs[b]?=some vb:=by
   obtain⟨a',vs',w,z1,z2,z3,z4⟩:=(((pv.mono e2).mono e3).mono e4).mono e5;cases z1;cases z4;rcases z2 with z2 | z2 <;> rw[hH]at z2 <;> cases z2
   exact z3
 have va1:vs[a]?=some va:=by
   obtain⟨a',vs',w,z1,z2,z3,z4⟩:=((pv2.mono e3).mono e4).mono e5;cases z1;cases z4;rcases z2 with z2 | z2 <;> rw[hH]at z2 <;> cases z2
   exact z3
 refine⟨l,vs,za,a,rfl,rfl,hH,by rw[lv]; exact ea,?_⟩
 have hlB:l∈B i:=by
   obtain⟨_,u9,e9,ok⟩:=S5.sl i _ hi;rw[eu]at e9;cases e9;generalize B i=bi at ok;cases ok with
   | l _ _=>exact IF ..
 have f0:H₀ l=none:=S5.fr i l hlB;have sub:∀c,own A (upB B i []) c->own A B c:=λc z=>z.elim .inl λ⟨k,z⟩=>(bb z).elim (λz=>nomatch z.2) λz=>.inr ⟨k,z.2⟩;have sm:∀vs',ao (hd H5 (own A B)) (hd (upd H5 l (.lst vs')) (own A (upB B i []))):=λvs' c o z=>by obtain⟨z1,z2⟩:=ar.mp z;exact ar.mpr ⟨λy=>z1 (sub c y),by rw[aF (λy:c=l=>z1 (by rw[y]; exact hal))]; exact z2⟩
 have Sm:Sta X.K A H₀ (τ.set i .un) (upB B i []) σ (upd H5 l (.lst (vs.set a vb))):=by
   refine⟨λc o z=>?_,S5.len.trans Iz.symm,λk s hk=>?_,λk c hc=>?_,λk k' c z1 z2=>?_,S5.ad,λk c hc=>?_⟩
   . rw[aF (λy:c=l=>by rw[y,f0]at z; cases z)]; exact S5.same _ _ z
   . by_cases ek:k=i
     . subst ek;rw[IH (tf.mp hi).1]at hk;cases hk;unfold upB;rw[if_pos rfl];exact rfl
     . rw[Ik (λz=>ek z.symm)]at hk;have:=(S5.sl k s hk).frame (G':=hd (upd H5 l (.lst (vs.set a vb))) (own A (upB B i []))) (H':=upd H5 l (.lst (vs.set a vb))) (sm _) (λc hc=>aF (λy=>ek (S5.uq k i l (y▸hc) hlB)));unfold upB;rw[if_neg ek];exact this
   . exact(bb hc).elim (λz=>nomatch z.2) λz=>S5.fr k c z.2
   . rcases bb z1 with ⟨_,z⟩ | ⟨_,z⟩
     . cases z
     . rcases bb z2 with ⟨_,z'⟩ | ⟨_,z'⟩
       . cases z'
       . exact S5.uq k k' c z z'
   . rcases bb hc with ⟨_,z⟩ | ⟨n1,z⟩
     . cases z
     . obtain⟨o,q⟩:=S5.bd k c z;exact⟨o,by rw[aF (λy:c=l=>n1 (S5.uq k i l (y▸z) hlB))]; exact q⟩
 refine⟨va,[],rfl,_,slot_of eu,aV Sm λy2 H6 e6 d6=>?_⟩;cases d6;have hH6:H6 l=some (.lst (vs.set a vb)):=e6 _ _ aN;refine⟨l,vs.set a vb,zb,b,rfl,rfl,hH6,by rw[Iz,lv]; exact eb,?_⟩;obtain⟨bs',pm,r1⟩:=r0.swap va1 vb1 fa fb;have ee:∀o,upd H6 l o=upd (upd H6 l (.lst vs)) l o:=λo=>uR.symm
 have sH:ao H5 (upd H6 l (.lst vs)):=λc o z=>by
   by_cases q:c=l
   . rw[q]at z ⊢; rw[hH]at z; cases z; exact aN
   . rw[aF q]; exact e6 _ _ (by rw[aF q]; exact z)
 rw[ee];have fr:∀c o,c≠l->H5 c=some o->upd (upd H6 l (.lst vs)) l (.lst ((vs.set a vb).set b va)) c=some o:=λc o q z=>by rw[aF q]; exact sH _ _ z
 obtain⟨B9,S9⟩:=put (H1:=upd H6 l (.lst vs)) (vs':=(vs.set a vb).set b va) (bs1:=bs') (xs':=(xs.set a xb).set b xa) sH (pm.nodup_iff.mpr nd0) (λc hc=>.inl (pm.mem_iff.mp hc)) (r1.frame (λc o z=>by
     obtain⟨z1,z2⟩:=ar.mp z
     refine ar.mpr ⟨λy=>z1 (y.elim id λy=>(hown c (pm.mem_iff.mp y)).1),fr c o (λy=>z1 (by rw[y]; exact hal)) z2⟩) λc hc=>by
       obtain⟨o,q⟩:=r0.some_of c (pm.mem_iff.mp hc);rw[fr c o (hown c (pm.mem_iff.mp hc)).2 q,q])
 exact⟨rfl,Me.nx _ B9 _ _ rfl S9⟩
end
section
variable {X:Cx}{τ:List Sl}{ia ia2 ib ib2 o:Expr}{i j k l0:Nat}{t:Nd}{ds:List D}
def CU {rn:Str}{za zb:Int}{a b:Nat}{xa xb:D}{p1 p2 p3 p4 p5 p6 p7 p8 pv pt s1:Pos}{mv mt}(Bq:Bk X l0)(hi:τ[i]?=some (.n t))(hp:cP [k] t=some (.l (ds.map .d)))
   (h1:PE X ib (dE X.K false τ (.d (.int zb)))) (h2:PE X ia (dE X.K false τ (.d (.int za)))) (h3:PE X ia2 (dE X.K false τ (.d (.int za)))) (h4:PE X ib2 (dE X.K false (τ.set i (.n (cy [k] t (.l ((ds.set a xb).map .d))))) (.d (.int zb))))
   (ea:ixN ds.length za=some a) (eb:ixN ds.length zb=some b) (fa:ds[a]?=some xa) (fb:ds[b]?=some xb)
   (hNj:X.N[j]?=some rn:=by rfl) (hvj:Vis X.env.scope rn:=by first | exact Ka rfl | exact Ji .(10) | exact Ji .(9))
   (hd1:(rn==("__debug__" : Str))=false:=by decide) (hd2:(rn==("__classdict__" : Str))=false:=by decide)
   (pa:du ia:=by exact λ_ _=>rfl) (pb:du ib:=by exact λ_ _=>rfl)
   (r1:Do [.Subscript (.Name rn p1) ib p2,.Subscript (.Name rn p3) ia p4] X.env=(false,eval (.Subscript (.Name rn p1) ib p2) X.env)::Do [.Subscript (.Name rn p3) ia p4] X.env:=by rfl)
   (r2:Do [.Subscript (.Name rn p3) ia p4] X.env=(false,eval (.Subscript (.Name rn p3) ia p4) X.env)::Do [] X.env:=by rfl)
   (w2:NL [.Tuple [.Subscript (.Name rn p5) ia2 p6,.Subscript (.Name rn p7) ib2 p8] mt pt] .(141) s1.line X.env=pure false:=by rfl)
   (w3:NM [.Tuple [.Subscript (.Name rn p5) ia2 p6,.Subscript (.Name rn p7) ib2 p8] mt pt] .(141) X.env=pure none:=by rfl)
   (w4:(KM [.Tuple [.Subscript (.Name rn p5) ia2 p6,.Subscript (.Name rn p7) ib2 p8] mt pt] X.env).map (·.2)=[assign (.Tuple [.Subscript (.Name rn p5) ia2 p6,.Subscript (.Name rn p7) ib2 p8] mt pt) X.env]:=by rfl)
   (w5:∀v,assign (.Subscript (.Name rn p5) ia2 p6) X.env v=(do
     let ov <- N3 [v] (eval (.Name rn p5) X.env)
     let iv <- N3 [v,ov] (eval ia2 X.env)
     O1 p6
     N3 [v,ov,iv] (O2 ov iv v)
     Of [v,ov,iv] []):=by intro _; rfl)
   (w9:∀v,assign (.Subscript (.Name rn p7) ib2 p8) X.env v=(do
     let ov <- N3 [v] (eval (.Name rn p7) X.env)
     let iv <- N3 [v,ov] (eval ib2 X.env)
     O1 p8
     N3 [v,ov,iv] (O2 ov iv v)
     Of [v,ov,iv] []):=by intro _; rfl)
   (hl:(KM [.Subscript (.Name rn p5) ia2 p6,.Subscript (.Name rn p7) ib2 p8] X.env).length=2:=by rfl) (hst:(KM [.Subscript (.Name rn p5) ia2 p6,.Subscript (.Name rn p7) ib2 p8] X.env).findIdx? (·.1)=none:=by rfl) :
   PS X (.Assign [.Tuple [.Subscript (.Name rn p5) ia2 p6,.Subscript (.Name rn p7) ib2 p8] mt pt] .(141) s1) (dSL X.K τ i j k (τ.set i (.n (cy [k] t (.l (((ds.set a xb).set b xa).map .d)))))):=by
 have lm:(ds.map Nd.d).length=ds.length:=bp ..;refine psW (jM (lI (bh (BX (pt:=[]) (m:=b) (pW hNj hvj hd1 hd2) h1 hi hp (by rw[lm]; exact eb) pb) (bh (BX (pt:=[]) (m:=a) (pW hNj hvj hd1 hd2) h2 hi hp (by rw[lm]; exact ea) pa) cw r2) r1)) (pN (n:=2) Bq.calm (eg (iM (pW (τ:=τ) (i:=i) (k:=k) hNj hvj hd1 hd2) h3 set_list w5) (eg (iM (pW (τ:=τ.set i (.n (cy [k] t (.l ((ds.set a xb).map .d))))) (i:=i) (k:=k) hNj hvj hd1 hd2) h4 set_list w9) kR)) hl hst) w2 w3 w4) λDn σ H ⟨A,H₀,B,S,P,fin⟩=>?_;refine⟨A,H₀,B,S,P,λu vb H1 eu e1 pvb=>⟨A,H₀,B,S.mono e1,P.mono e1,λu2 va H2 eu2 e2 pva=>?_⟩⟩;rw[eu]at eu2;cases eu2;have S2:=.(129).mono e2;refine⟨(show 2<=sizeLine by decide),λpp hpp=>?_⟩;have e3:=aq hpp (.tup [vb,va]);have S3:=S2.mono e3;have P3:=((P.mono e1).mono e2).mono e3;refine⟨pp,[vb,va],rfl,SqT.of aN,rfl,vb,[va],rfl,A,H₀,B,S3,P3,λu3 w H4 eu3 e4 pv3=>aV (S3.mono e4) λy H5 e5 d5=>?_⟩;rw[eu]at eu3;cases eu3;cases d5;have S5:=(S3.mono e4).mono e5;have P5:=(P3.mono e4).mono e5;obtain⟨u',l,vs,bs0,eu',pv',hH,r0,nd0,hal,hown,put⟩:=S5.putN hi hp;rw[eu]at eu';cases eu';obtain rfl:=(pv3.mono e5).det pv';obtain⟨dl,rfl⟩:=iY r0
 have rd:∀{v:V} {m:Nat} {x:D},cR H5 [k,m] u v->ds[m]?=some x->vs[m]?=some v/\Den X.K (hd H5 (own A B)) v x:=λ{v m x} z e=>by
   obtain⟨a1,vs1,w1,q1,q2,q3,a2,vs2,w2,q4,q5,q6,q7⟩:=z;obtain⟨a1',vs1',w1',z1,z2,z3,z4⟩:=pv';rw[q1]at z1;cases z1;have:vs1=vs1':=by rcases q2 with q2 | q2 <;> rcases z2 with z2 | z2 <;> rw[q2]at z2 <;> cases z2 <;> rfl
   subst this;rw[q3]at z3;cases z3;cases z4;cases q4;have:vs2=vs:=by rcases q5 with q5 | q5 <;> rw[hH]at q5 <;> cases q5; rfl
   subst this;cases q7;obtain⟨v',e',d'⟩:=dl.get e;rw[q6]at e';cases e';exact⟨q6,d'⟩
 obtain⟨_,db⟩:=rd ((((pvb.mono e2).mono e3).mono e4).mono e5) fb;obtain⟨_,da⟩:=rd (((pva.mono e3).mono e4).mono e5) fa;refine⟨l,vs,za,a,rfl,rfl,hH,by rw[dl.length]; exact ea,?_⟩;have sm:∀vs',ao (hd H5 (own A B)) (hd (upd H5 l (.lst vs')) λb=>own A B b\/b∈([]:List Addr)):=λvs' b o z=>by obtain⟨z1,z2⟩:=ar.mp z;exact ar.mpr ⟨(λy=>y.elim z1 λy=>(nomatch y)),by rw[aF (λy:b=l=>z1 (by rw[y]; exact hal))]; exact z2⟩
 obtain⟨B',S'⟩:=put (H1:=H5) (vs':=vs.set a vb) (bs1:=[]) (xs':=(ds.set a xb).map .d) .(102) Kd (λ_ z=>nomatch z) (k5 ((fZ a dl db).mono (sm _)));have P':Pj σ (upd H5 l (.lst (vs.set a vb))) i j k:=by obtain⟨r,rs,v',f1,f2,f3,f4⟩:=P5;rw[f1]at eu;cases eu;have ne:=S5.below hi hp f1 pv';exact⟨r,rs,v',f1,by rw[aF (Je ne)]; exact f2,f3,f4⟩
 refine⟨va,[],rfl,A,H₀,B',S',P',λu6 w6 H6 eu6 e6 pv6=>aV (S'.mono e6) λy2 H7 e7 d7=>?_⟩;rw[eu]at eu6;cases eu6;cases d7
 have hw:w6=.ref l:=by
   obtain⟨r,rs,v',f1,f2,f3,f4⟩:=P5;rw[f1]at eu;cases eu;have ne:=S5.below hi hp f1 pv';obtain⟨a1,vs1,w1,q1,q2,q3,q4⟩:=pv6;cases q1;cases q4;obtain⟨a2,vs2,w2,z1,z2,z3,z4⟩:=pv';cases z1;cases z4;have g1:H6 r=some (.lst rs):=e6 _ _ (by rw[aF (Je ne)]; exact f2);have:vs1=rs:=by rcases q2 with q2 | q2 <;> rw[g1]at q2 <;> cases q2; rfl
   subst this;have:vs2=vs1:=by rcases z2 with z2 | z2 <;> rw[f2]at z2 <;> cases z2; rfl
   subst this;rw[z3]at q3;cases q3;rfl
 subst hw;have e67:=e6.trans e7;have hH7:H7 l=some (.lst (vs.set a vb)):=e67 _ _ aN;refine⟨l,vs.set a vb,zb,b,rfl,rfl,hH7,by rw[Iz,dl.length]; exact eb,?_⟩;have ee:∀o,upd H7 l o=upd (upd H7 l (.lst vs)) l o:=λo=>uR.symm
 have sH:ao H5 (upd H7 l (.lst vs)):=λc o z=>by
   by_cases q:c=l
   . rw[q]at z ⊢; rw[hH]at z; cases z; exact aN
   . rw[aF q]; exact e67 _ _ (by rw[aF q]; exact z)
 rw[ee];have sm9:ao (hd H5 (own A B)) (hd (upd (upd H7 l (.lst vs)) l (.lst ((vs.set a vb).set b va))) λb=>own A B b\/b∈([]:List Addr)):=λc o z=>by obtain⟨z1,z2⟩:=ar.mp z;exact ar.mpr ⟨(λy=>y.elim z1 λy=>(nomatch y)),by rw[aF (λy:c=l=>z1 (by rw[y]; exact hal))]; exact sH _ _ z2⟩
 obtain⟨B9,S9⟩:=put (H1:=upd H7 l (.lst vs)) (vs':=(vs.set a vb).set b va) (bs1:=[]) (xs':=((ds.set a xb).set b xa).map .d) sH Kd (λ_ z=>nomatch z) (k5 ((fZ b (fZ a dl db) da).mono sm9));have P9:Pj σ (upd (upd H7 l (.lst vs)) l (.lst ((vs.set a vb).set b va))) i j k:=by obtain⟨r,rs,v',f1,f2,f3,f4⟩:=P5;rw[f1]at eu;cases eu;have ne:=S5.below hi hp f1 pv';exact⟨r,rs,v',f1,by rw[aF (Je ne)]; exact sH _ _ f2,f3,f4⟩
 exact⟨rfl,fin B9 σ _ S9 P9 rfl⟩
end
end Hy
namespace K33
open PySem PySem.Spec PyProof.Rows L2 Hy
open Ev (D Den aw aI aK)
noncomputable def btP (c:Int):List Int:=nums c [6,7,7,7,114]
noncomputable def btI (p:Int)(n:Nat):Nat:=(p.fmod (n:Int)).toNat
def di (h:1<=n):btI p n<n:=by have:=fmn (a:=p) (b:=(n:Int)) .(0);unfold btI;omega
def mj (h:1<=n):p.fmod (n:Int)=((btI p n:Nat):Int):=by have:=fmn (a:=p) (b:=(n:Int)) .(0);unfold btI;omega
noncomputable def bt1 (p0:Int)(M:List .(109))(i j:Nat)(q:Rat):List .(109):=if p0=1 then rE M i j q else M
noncomputable def bt2 (p0:Int)(M:List .(109))(i j:Nat):List .(109):=if p0=2 then rE M i j (-(.(103).getD j 0)) else M
noncomputable def bt3 (p0:Int)(M:List .(109))(a b:Nat):List .(109):=if p0=3 then tw M a b else M
noncomputable def bt4 (p0:Int)(M:List .(109))(a b:Nat):List .(109):=if p0=4 then M.map (lY a b) else M
noncomputable def btX (p:List Int)(R C:Nat)(M:List .(109)):List .(109):=bt4 (p.getD 0 0) (bt3 (p.getD 0 0) (bt2 (p.getD 0 0) (bt1 (p.getD 0 0) M (btI (p.getD 1 0) R) (btI (p.getD 2 0) C) (nmQ 0 (p.getD 4 0))) (btI (p.getD 1 0) R) (btI (p.getD 2 0) C)) (btI (p.getD 1 0) R) (btI (p.getD 3 0) R)) (btI (p.getD 2 0) C) (btI (p.getD 3 0) C)
section
variable {R C d v i j a b:Nat}{p0:Int}{M:List .(109)}
def xq (h:Oq R C d v M)(hi:i<R)(hq:Qs d v q):Oq R C d v (bt1 p0 M i j q):=by
 unfold bt1;split
 . exact h.put hi hq
 . exact h
def yC (h:Oq R C d v M)(hi:i<R)(hj:j<C):Oq R C d v (bt2 p0 M i j):=by
 unfold bt2;split
 . exact h.put hi (h.cell hi hj).neg
 . exact h
def zS (h:Oq R C d v M)(ha:a<R)(hb:b<R):Oq R C d v (bt3 p0 M a b):=by
 unfold bt3;split
 . exact h.swap ha hb
 . exact h
def Eg (h:Oq R C d v M)(ha:a<C)(hb:b<C):Oq R C d v (bt4 p0 M a b):=by
 unfold bt4;split
 . exact h.csw ha hb
 . exact h
def Ei (h:Oq R C d v M)(hd:3<=d)(hv:4<=v):Oq R C d v (btX p R C M):=Eg (zS (yC (xq h (di h.t.r1) ((BW (kd:=0) _).mono hd hv)) (di h.t.r1) (di h.t.c1)) (di h.t.r1) (di h.t.r1)) (di h.t.c1) (di h.t.c1)
end
noncomputable def btS (M0:List .(109))(c:Int)(p:List Int)(M:List .(109))(i j:Nat)(s6:Sl):List Sl:=[.d (tbQ M0),.d (.int c),.d (.lst (p.map D.int)),.n (fP M),.d (.int (i:Nat)),.d (.int (j:Nat)),s6,.un]
def mK (ds:List D)(r:Sl):Prop:=∃(c:Int) (R C d v:Nat) (M:List .(109)),ds=[tbQ M,.int c]/\Oq R C d v M/\3<=d/\4<=v/\r=.n (fP (btX (btP c) R C M))
def tY (M:List .(109)):fzD (.n (fP M))=some (tbQ M):=congrArg some (DT M)
section
variable {P:FB}{w:World}{K:fw}{mg:Str->Option Value}{base:Heap}{k:Nat}{f:Addr}{fd:Gc}{qual:Str}
def wU (F:Fun K "_law_bent" qual (top 59) f fd)(hb:.(92))(c_l_numbers:.(90) "_law_numbers" cG)(c_l_number:.(90) "_law_number" iG):.(91) ["_law_table","_law_cell_here"] (spD K mK):=by
 refine fnD F ou hb (by rintro _ _ ⟨_,_,_,_,_,_,rfl,_⟩; rfl) ?_;rintro _ _ ⟨c,R,C,d,v,M0,rfl,ok,hd3,hv4,rfl⟩ cdv A outer s H E b;have nd:=ou.nd;refine aM 2 nd (bf (x_call b c_l_numbers (ae (aa 1) (ae (bf (ck (ae af (ae af (ae af (ae af (ae af ag))))))) ag)) ⟨c,[6,7,7,7,114],rfl,by decide,λx hx=>?_,rfl⟩)) ?_
 . have:0<x/\x<115:=by simp only[HZ,Jm,or_false]at hx;omega
   exact oO this.1 .(0)
 have ln:(btP c).length=5:=gQ c _;have r1:=ok.t.r1;have r7:=ok.t.r7;have c1:=ok.t.c1;have c7:=ok.t.c7;show PSs _ _ (dS K [_,_,.d (.lst ((btP c).map D.int)),_,_,_,_,_] _);refine Ae 3 nd (ns:=(ox (M0.map rwQ).length).map λi=>.l (((M0.getD i []).map frD).map .d)) (HC 0 (g:=λi=>rwQ (M0.getD i [])) (f:=λi=>.l (((M0.getD i []).map frD).map .d)) b (bC (aa 0)) (cU (f:=rwQ) (xs:=M0) []) (by rw[bp,ok.t.len]; omega) (λi hi s0 H0 fp=>pB .(107) .(111) oW) λi hi=>rfl) ?_;rw[show (ox (M0.map rwQ).length).map (λi=>Nd.l (((M0.getD i []).map frD).map .d))=M0.map (λr=>Nd.l ((r.map frD).map .d)) from zO (λr:List Rat=>Nd.l ((r.map frD).map .d)) M0 [] .(17)];unfold btX;generalize btP c=p at ln ⊢;have pa:∀i:Nat,i<5->atI (p.map D.int) (i:Int)=some (.int (p.getD i 0)):=λi hi=>atR .(0);have row0:∀{M:List .(109)},Oq R C d v M->0<M.length:=λo=>by rw[o.t.len]; exact r1
 have eI:=mj (p:=p.getD 1 0) r1;have eJ:=mj (p:=p.getD 2 0) c1;have eO:=mj (p:=p.getD 3 0) r1;have eU:=mj (p:=p.getD 3 0) c1;have hi:=di (p:=p.getD 1 0) r1;have hj:=di (p:=p.getD 2 0) c1;have ho:=di (p:=p.getD 3 0) r1;have hu:=di (p:=p.getD 3 0) c1;have lnM:∀{X:Cx} {M:List .(109)},Oq R C d v M->gx X (.builtin "len") [tbQ M] (.d (.int (R:Nat))):=λ{X M} o=>og (by rw[bp]; exact o.t.len);have lnR:∀{X:Cx} {M:List .(109)},Oq R C d v M->gx X (.builtin "len") [ndD (.l (((M.getD 0 []).map frD).map .d))] (.d (.int (C:Nat))):=λ{X M} o=>by show gx X _ [.lst (kI _)] _;rw[l6];exact og (by rw[bp]; exact o.t.at_ r1)
 refine aM 4 nd (yE (aE (aL (aa 2) af (aY (pa 1 .(2)))) (bo b (ae (j8 3 rfl (tY M0)) ag) (lnM ok)) (bG .(0)))) ?_;rw[eI];refine aM 5 nd (yE (aE (aL (aa 2) af (aY (pa 2 .(2)))) (bo b (ae (zi (pt:=[]++[0]) (t:=fP M0) (gW (cV 3) af rfl rfl (by rw[bp]; exact cN (m:=0) (row0 ok))) rfl (hV (row0 ok))) ag) (lnR ok)) (bG .(0)))) ?_;rw[eJ];generalize hI:btI (p.getD 1 0) R=i at hi ⊢;generalize hJ:btI (p.getD 2 0) C=j at hj ⊢;refine gq (M:=λτ=>τ=btS M0 c p (bt1 (p.getD 0 0) M0 i j (nmQ 0 (p.getD 4 0))) i j .un) (aZ (aL (aa 2) af (aY (pa 0 .(2)))) af fD) (λh=>?_) (λh=>?_) λτ h=>?_
 . have h:=of_decide_eq_true h;have hm:i<M0.length:=by rw[ok.t.len]; exact hi
   have hm2:j<(M0.getD i []).length:=by rw[ok.t.at_ hi]; exact hj
   refine xT (pt:=[]++[i]) (t:=fP M0) (ds:=(M0.getD i []).map frD) (j:=j) (x:=frD (nmQ 0 (p.getD 4 0))) (gW (cV 3) (aa 4) rfl rfl (by rw[bp]; exact cN hm)) (aa 5) (x_call b c_l_number (ae af (ae (aL (aa 2) af (aY (pa 4 .(2)))) ag)) ⟨0,_,rfl,by decide,rfl⟩) rfl (hV hm) (by rw[bp]; exact cN hm2) (aS ?_);show (btS M0 c p _ _ _ _).set 3 (Sl.n (cy [i] (fP M0) _))=_;rw[vc];unfold bt1;rw[if_pos h];rfl
 . unfold bt1;rw[if_neg (of_decide_eq_false h)];exact aS rfl
 subst h;have o1:=xq (p0:=p.getD 0 0) (j:=j) ok hi ((BW (kd:=0) (p.getD 4 0)).mono hd3 hv4);generalize bt1 (p.getD 0 0) M0 i j (nmQ 0 (p.getD 4 0))=M at o1 ⊢;refine gq (M:=λτ=>τ=btS M0 c p (bt2 (p.getD 0 0) M i j) i j .un) (aZ (aL (aa 2) af (aY (pa 0 .(2)))) af fD) (λh=>?_) (λh=>?_) λτ h=>?_
 . have h:=of_decide_eq_true h;have hm:i<M.length:=by rw[o1.t.len]; exact hi
   have hm2:j<.(103).length:=by rw[o1.t.at_ hi]; exact hj
   refine xT (pt:=[]++[i]) (t:=fP M) (ds:=.(103).map frD) (j:=j) (x:=frD (-(.(103).getD j 0))) (gW (cV 3) (aa 4) rfl rfl (by rw[bp]; exact cN hm)) (aa 5) (by rw[AD]; exact bO (ae (aE af (aL (C5 (gW (gW (cV 3) (aa 4) rfl rfl (by rw[bp]; exact cN hm)) (aa 5) rfl (hV hm) (by rw[bp,bp]; exact cN hm2)) rfl (qS hm hm2)) af (aQ (aH (i:=0) rfl))) cA) (ae (aL (C5 (gW (gW (cV 3) (aa 4) rfl rfl (by rw[bp]; exact cN hm)) (aa 5) rfl (hV hm) (by rw[bp,bp]; exact cN hm2)) rfl (qS hm hm2)) af (aQ (aH (i:=1) rfl))) ag))) rfl (hV hm) (by rw[bp]; exact cN hm2) (aS ?_);show (btS M0 c p _ _ _ _).set 3 (Sl.n (cy [i] (fP M) _))=_;rw[vc];unfold bt2;rw[if_pos h];rfl
 . unfold bt2;rw[if_neg (of_decide_eq_false h)];exact aS rfl
 subst h;have o2:=yC (p0:=p.getD 0 0) o1 hi hj;generalize bt2 (p.getD 0 0) M i j=M2 at o2 ⊢;refine gq (M:=λτ=>∃s6,τ=btS M0 c p (bt3 (p.getD 0 0) M2 i (btI (p.getD 3 0) R)) i j s6) (aZ (aL (aa 2) af (aY (pa 0 .(2)))) af fD) (λh=>?_) (λh=>?_) λτ h=>?_
 . have h:=of_decide_eq_true h;have hm:i<M2.length:=by rw[o2.t.len]; exact hi
   have hm2:btI (p.getD 3 0) R<M2.length:=by rw[o2.t.len]; exact ho
   refine aM 6 nd (yE (aE (aL (aa 2) af (aY (pa 3 .(2)))) (bo b (ae (j8 3 rfl (tY M2)) ag) (lnM o2)) (bG .(0)))) ?_;rw[eO];refine AW 3 (xs:=M2.map λr=>.l ((r.map frD).map .d)) (za:=(i:Int)) (zb:=((btI (p.getD 3 0) R:Nat):Int)) (a:=i) (b:=btI (p.getD 3 0) R) b rfl (aa 6) (aa 4) (aa 4) (aa 6) (by rw[bp]; exact cN hm) (by rw[bp]; exact cN hm2) (qg hm) (qg hm2) (aS ⟨.d (.int (btI (p.getD 3 0) R:Nat)),?_⟩);show (btS M0 c p _ _ _ _).set 3 (Sl.n (Nd.l _))=_;rw[yz];unfold bt3;rw[if_pos h];rfl
 . unfold bt3;rw[if_neg (of_decide_eq_false h)];exact aS ⟨_,rfl⟩
 obtain⟨s6,rfl⟩:=h;have o3:=zS (p0:=p.getD 0 0) o2 hi ho;generalize bt3 (p.getD 0 0) M2 i (btI (p.getD 3 0) R)=M3 at o3 ⊢;refine gq (M:=λτ=>∃s6,τ=btS M0 c p (bt4 (p.getD 0 0) M3 j (btI (p.getD 3 0) C)) i j s6) (aZ (aL (aa 2) af (aY (pa 0 .(2)))) af fD) (λh=>?_) (λh=>?_) λτ h=>?_
 . have h:=of_decide_eq_true h;refine aM 6 nd (yE (aE (aL (aa 2) af (aY (pa 3 .(2)))) (bo b (ae (zi (pt:=[]++[0]) (t:=fP M3) (gW (cV 3) af rfl rfl (by rw[bp]; exact cN (m:=0) (row0 o3))) rfl (hV (row0 o3))) ag) (lnR o3)) (bG .(0)))) ?_;rw[eU];generalize btI (p.getD 3 0) C=o at hu ⊢;refine DH 3 7 (M3.map λr=>.l ((r.map frD).map .d)) ((M3.map (lY j o)).map λr=>.l ((r.map frD).map .d)) .(4) b nd rfl (λkk hk hk' r hr=>?_) (aS ⟨.d (.int (o:Nat)),?_⟩)
   . have hk:kk<M3.length:=by simpa using hk
     have hr':r[kk]?=some (.l ((M3[kk].map frD).map .d)):=(by rw[hr]; simp);have hm:=JR hk;have e:((M3.map (lY j o)).map λr=>Nd.l ((r.map frD).map .d))[kk]=.l (((lY j o M3[kk]).map frD).map .d):=(by simp only[JG]);rw[e];have gl:=o3.t.row _ hm;generalize M3[kk]=g at hr' gl ⊢;have p0:cP [kk] (.l r)=some (.l ((g.map frD).map .d)):=by show (r[kk]?).bind (cP [])=_;rw[hr'];rfl
     have at_:∀m,m<C->(g.map frD)[m]?=some (frD (g.getD m 0)):=λm hm=>by
       have:m<g.length:=by omega
       simp[this]
     refine Dr (CU (t:=.l r) (ds:=g.map frD) (za:=(j:Int)) (zb:=(o:Int)) (a:=j) (b:=o) b rfl p0 (aa 6) (aa 5) (aa 5) (aa 6) (by rw[bp]; exact cN .(0)) (by rw[bp]; exact cN .(0)) (at_ j hj) (at_ o hu)) ?_;have e2:cy [kk] (.l r) (.l ((((g.map frD).set j (frD (g.getD o 0))).set o (frD (g.getD j 0))).map .d))=.l (r.set kk (.l (((lY j o g).map frD).map .d))):=(by unfold lY;simp only[MH];rfl);show PSs _ _ (dSL K (List.set _ 3 (.n (cy [kk] (.l r) (.l ((((g.map frD).set j (frD (g.getD o 0))).set o (frD (g.getD j 0))).map .d))))) 3 7 kk _);rw[e2];exact GI
   . unfold bt4;rw[if_pos h];rfl
 . unfold bt4;rw[if_neg (of_decide_eq_false h)];exact aS ⟨_,rfl⟩
 obtain⟨s6,rfl⟩:=h;exact tM 3 rfl
end
def AlQ (p:Rat->Prop)(M:List .(109)):Prop:=∀r∈M,∀x∈r,p x
section
variable {p:Rat->Prop}{M:List .(109)}{i j a b:Nat}{q:Rat}
def AlQ.row (h:AlQ p M):∀x∈M.getD i [],p x:=λx hx=>by
 rcases JN i M.length with z | z
 . exact h _ (ba z) x hx
 . rw[Ig,JM z]at hx;cases hx
def AlQ.get (h:AlQ p M)(h0:p 0):p (.(103).getD j 0):=by
 rcases JN j (M.getD i []).length with z | z
 . exact h.row _ (ba z)
 . rw[Ig (l:=M.getD i []),JM z];exact h0
def AlQ.put (h:AlQ p M)(hq:p q):AlQ p (rE M i j q):=λr hr x hx=>by
 rcases II hr with z | z
 . exact h r z x hx
 . rw[z]at hx;rcases II hx with y | y
   . exact h.row x y
   . rw[y]; exact hq
def AlQ.swap (h:AlQ p M):AlQ p (tw M a b):=λr hr x hx=>by
 rcases II hr with z | z
 . rcases II z with y | y
   . exact h r y x hx
   . rw[y]at hx; exact h.row x hx
 . rw[z]at hx; exact h.row x hx
def AlQ.csw (h:AlQ p M)(h0:p 0):AlQ p (M.map (lY a b)):=λr hr x hx=>by
 obtain⟨g,hg,rfl⟩:=HV.mp hr
 have at_:∀c,p (g.getD c 0):=λc=>by
   rcases JN c g.length with z | z
   . exact h g hg _ (ba z)
   . rw[Ig,JM z];exact h0
 unfold lY at hx;rcases II hx with z | z
 . rcases II z with y | y
   . exact h g hg x y
   . rw[y]; exact at_ b
 . rw[z]; exact at_ a
def ES (h:AlQ p M)(h0:p 0)(hn:∀x,p x->p (-x))(hq:∀k,p (nmQ 0 k)):AlQ p (btX l R C M):=by
 have b1:AlQ p (bt1 (l.getD 0 0) M (btI (l.getD 1 0) R) (btI (l.getD 2 0) C) (nmQ 0 (l.getD 4 0))):=by
   unfold bt1;split
   . exact h.put (hq _)
   . exact h
 unfold btX;generalize bt1 (l.getD 0 0) M (btI (l.getD 1 0) R) (btI (l.getD 2 0) C) (nmQ 0 (l.getD 4 0))=M1 at b1 ⊢
 have b2:AlQ p (bt2 (l.getD 0 0) M1 (btI (l.getD 1 0) R) (btI (l.getD 2 0) C)):=by
   unfold bt2;split
   . exact b1.put (hn _ (b1.get h0))
   . exact b1
 generalize bt2 (l.getD 0 0) M1 (btI (l.getD 1 0) R) (btI (l.getD 2 0) C)=M2 at b2 ⊢
 have b3:AlQ p (bt3 (l.getD 0 0) M2 (btI (l.getD 1 0) R) (btI (l.getD 3 0) R)):=by
   unfold bt3;split
   . exact b2.swap
   . exact b2
 generalize bt3 (l.getD 0 0) M2 (btI (l.getD 1 0) R) (btI (l.getD 3 0) R)=M3 at b3 ⊢;unfold bt4;split
 . exact b3.csw h0
 . exact b3
end
def Cz (β σ:Nat)(M:List .(109)):Prop:=∃P:Int,0<P/\P.natAbs<=2^σ/\AlQ (λx=>ZB β ((P:Rat)*x)) M
def E3 (h:ZB b x):ZB b (-x):=by obtain⟨z,e,hz⟩:=h;exact⟨-z,by rw[e,JV],by rw[Ku]; exact hz⟩
def b60 (h0:1<=b)(h6:b<=6):∃c:Int,(60:Int)=b*c/\c.natAbs<=60:=by
 rcases(by omega:b=1\/b=2\/b=3\/b=4\/b=5\/b=6) with rfl | rfl | rfl | rfl | rfl | rfl
 . exact⟨60,rfl,by decide⟩
 . exact⟨30,rfl,by decide⟩
 . exact⟨20,rfl,by decide⟩
 . exact⟨15,rfl,by decide⟩
 . exact⟨12,rfl,by decide⟩
 . exact⟨10,rfl,by decide⟩
def Hw (k:Int)(hP:P.natAbs<=2^σ):ZB (σ+10) (((60*P:Int):Rat)*nmQ 0 k):=by
 have f1:=fmn (a:=k) (b:=19) .(2);have f2:=fmn (a:=k.fdiv 19) (b:=6) .(2);have eT:nmT 0 k=k.fmod 19-9:=rfl;have eB:nmB 0 k=1+(k.fdiv 19).fmod 6:=rfl;obtain⟨c,hc,cb⟩:=b60 (b:=nmB 0 k) .(0) .(0);have e:=sj (kd:=0) k;refine⟨P*(c*nmT 0 k),?_,?_⟩
 . rw[hc,IA,IA,IA,IA,e];grind
 . rw[JE,JE,JW];refine Ju hP ?_;have h9:(nmT 0 k).natAbs<=9:=by omega
   exact Il (Ju cb h9) .(2)
def Cz.Hm (h:Cz β σ M)(hb:σ+4<=β):Cz (β+6) (σ+6) (btX l R C M):=by
 obtain⟨P,p0,p1,p2⟩:=h;refine⟨60*P,by omega,?_,ES (λr hr x hx=>?_) (by rw[IG]; exact AN _) (λx hx=>by rw[Rat.mul_neg]; exact E3 hx) λk=>(Hw k p1).mono .(0)⟩
 . rw[JE,Nat.add_comm,JW];exact Ju .(2) p1
 . obtain⟨z,e,hz⟩:=p2 r hr x hx;refine⟨60*z,?_,?_⟩
   . rw[IA,IA,J1,e]
   . rw[JE,Nat.add_comm,JW];exact Ju .(2) hz
def Cz.mono (h:Cz β σ M)(h1:β<=β')(h2:σ<=σ'):Cz β' σ' M:=by obtain⟨P,p0,p1,p2⟩:=h;exact⟨P,p0,Il p1 (Ir .(2) h2),λr hr x hx=>(p2 r hr x hx).mono h1⟩
def Cm.cz (h:Cm β σ R C A):Cz β σ (mkT R C A):=by obtain⟨P,p0,p1,p2⟩:=h;refine⟨P,p0,p1,λr hr x hx=>?_⟩;unfold mkT at hr;obtain⟨i,hi,rfl⟩:=HV.mp hr;obtain⟨j,hj,rfl⟩:=HV.mp hx;exact p2 i (Iq.mp hi) j (Iq.mp hj)
def Cz.cm (h:Cz β σ M):Cm β σ R C (qM M):=by obtain⟨P,p0,p1,p2⟩:=h;exact⟨P,p0,p1,λi _ j _=>AlQ.get (p:=λx=>ZB β ((P:Rat)*x)) p2 (by rw[IG]; exact AN _)⟩
def Ez (t:Tq R C M):mkT R C (qM M)=M:=by refine Jw (by rw[dH,t.len]) λi h1 h2=>?_;have hr:=t.row _ (JR h2);simp only[mkT,JG,Lp];refine Jw (by rw[bp,IQ,hr]) λj h3 h4=>?_;simp only[JG,Lp];unfold qM;rw[Ig (l:=M),ph h2];simp[h4]
theorem pj:∀r:List Int,Ev.bR (r.map D.int)=true/\Ev.b6 (r.map D.int)=0
 | []=>by simp[Ev.bR,Ev.b6]
 | x::r=>by obtain⟨h1,h2⟩:=pj r;rw[IJ,Ev.bR,Ev.b6,h1,h2];simp[Ev.cln,Ev.dep]
def qD (a c:List Int):Ev.cu (.tup [.str "below",.lst (a.map .int),.lst (c.map .int)]):=by
 obtain⟨h1,h2⟩:=pj a;obtain⟨h3,h4⟩:=pj c;refine⟨?_,?_⟩
 . simp only[Ev.cln,Ev.bR,h1,h3];decide +kernel
 . simp only[Ev.dep,Ev.b6,h2,h4];decide
def xY (ok:Oq R C d v M)(hz:v+(1+C*d)<=1400)(cz:Cz β σ M)(lim:wu (sz2 R C) β σ<=990000)(lim2:4*mB 7 β σ<=900000):
   cY [tbQ M] (tkS R C (qM M) (fuO .(142) R C 0))/\(fuO .(142) R C 0=none->ic [yD (sz2 R C) R C (apS (sz2 R C) (cx R C (qM M))),tbQ M] (.d (.bl true))):=by
 have r1:=ok.t.r1;have r7:=ok.t.r7;have c1:=ok.t.c1;have c7:=ok.t.c7;have e:=Ez ok.t;refine⟨⟨R,C,d,v,β,σ,qM M,by rw[e],r1,r7,c1,c7,by rw[e]; exact ok.q,hz,cz.cm,lim2,by rw[e]⟩,λhf=>?_⟩;obtain⟨k1,k2,k3,k4⟩:=BP r1 c1 (by unfold sz2; split <;> omega) (xj ok.t hf) cz.cm lim;exact⟨_,_,R,C,_,qM M,by rw[e],k1,rfl,k2,k3,k4,rfl⟩
def Cz.qs (h:Cz β σ M):∀r∈M,∀x∈r,Qs (σ+1) β x:=by obtain⟨P,p0,p1,p2⟩:=h;intro r hr x hx;obtain⟨z,e,hz⟩:=p2 r hr x hx;refine Qs.of (t:=z) p0 (by rw[<- e]; exact J0 ..) ?_ hz;unfold Bd;rw[K2];have:=Jl σ;omega
theorem uP {α:Type}{a b:α}:∀(l:List α) (i:Nat),a∈l.insertIdx i b->a=b\/a∈l
 | [],0,h=>.inl (by simpa using h)
 | [],i+1,h=>.inr (by simpa using h)
 | x::xs,0,h=>by rw[List.insertIdx_zero]at h;exact HZ.mp h
 | x::xs,i+1,h=>by
   rw[KC]at h;rcases HZ.mp h with z | z
   . exact .inr (by rw[z]; exact IF ..)
   . exact(uP xs i z).imp id λy=>Et _ y
structure Wd (C β σ:Nat)(M:List .(109)):Prop where
 row:∀r∈M,r.length=C
 cz:Cz β σ M
def Eh (h:ZB b x)(g:ZB b y):ZB (b+1) (x+y):=by obtain⟨z,e,hz⟩:=h;obtain⟨w,f,hw⟩:=g;refine⟨z+w,by rw[e,f,Kl],?_⟩;have:=Int.natAbs_add_le z w;have p:2^(b+1)=2^b*2:=K2 ..;omega
noncomputable def wD (a b:List Rat):List Rat:=(ox a.length).map λj=>a.getD j 0+b.getD j 0
def In (C:Nat)(M:List .(109))(r:List Rat):Prop:=r∈M\/(∃a∈M,∃b∈M,r=wD a b)\/r=Ii C 0
def Wd.Ce (h:Wd C β σ M)(g:∀r∈L,In C M r):Wd C (β+1) σ L:=by
 obtain⟨hr,P,p0,p1,p2⟩:=h;refine⟨λr z=>?_,P,p0,p1,λr z x hx=>?_⟩
 . rcases g r z with q | ⟨a,ha,b,hb,rfl⟩ | rfl
   . exact hr r q
   . unfold wD;rw[bp,IQ];exact hr a ha
   . exact List.length_replicate ..
 . rcases g r z with q | ⟨a,ha,b,hb,rfl⟩ | rfl
   . exact(p2 r q x hx).mono .(0)
   . obtain⟨j,hj,rfl⟩:=HV.mp hx;have la:=hr a ha;have lb:=hr b hb;have hj:=Iq.mp hj;rw[MY];exact Eh (p2 a ha _ (ba hj)) (p2 b hb _ (ba .(0)))
   . rw[List.eq_of_mem_replicate hx,IG];exact AN _
noncomputable def wdA (M:List .(109))(k:Nat)(L:List .(109)):List .(109):=L++[M.getD k []]
noncomputable def wdB (ps:List Int)(M:List .(109))(k:Nat)(L:List .(109)):List .(109):=if ps.getD k 0=1 then L++[M.getD k []] else L
noncomputable def wdC (ps:List Int)(M:List .(109))(k:Nat)(L:List .(109)):List .(109):=if ps.getD k 0=2/\k+1<M.length then L++[wD (M.getD k []) (M.getD (k+1) [])] else L
noncomputable def wd1 (ps:List Int)(M:List .(109)):Nat->List .(109)
 | 0=>[]
 | k+1=>wdC ps M k (wdB ps M k (wdA M k (wd1 ps M k)))
noncomputable def wdI (qs:List Int)(C t:Nat)(L:List .(109)):List .(109):=if L.length<7 then L.insertIdx (btI (qs.getD (1+t) 0) (L.length+1)) (Ii C 0) else L
noncomputable def wd2 (qs:List Int)(C:Nat)(L:List .(109)):Nat->List .(109)
 | 0=>L
 | t+1=>wdI qs C t (wd2 qs C L t)
noncomputable def wdP (c:Int):List Int:=nums c [4,4,4,4,4,4,4,4]
noncomputable def wdQ (c:Int):List Int:=nums (c+5) [4,8,8,8]
noncomputable def wid (c:Int)(C:Nat)(M:List .(109)):List .(109):=(wd2 (wdQ c) C (wd1 (wdP c) M M.length) ((wdQ c).getD 0 0).toNat).take 7
theorem su :∀k,k<=M.length->(∀r∈wd1 ps M k,In C M r)/\(wd1 ps M k).length<=3*k/\k<=(wd1 ps M k).length
 | 0,_=>⟨λr h=>absurd h Jm,Im _,Im _⟩
 | k+1,h=>by
   obtain⟨h1,h2,h3⟩:=su (C:=C) (ps:=ps) (M:=M) k .(0);have mk:In C M (M.getD k []):=.inl (ba .(0))
   have A:(∀r∈wdA M k (wd1 ps M k),In C M r)/\(wdA M k (wd1 ps M k)).length<=3*k+1/\k+1<=(wdA M k (wd1 ps M k)).length:=by
     unfold wdA;refine⟨λr hr=>?_,by rw[rp,IZ]; omega,by rw[rp,IZ]; omega⟩;rcases vp.mp hr with z | z
     . exact h1 r z
     . rw[gV.mp z]; exact mk
   rw[wd1];generalize wdA M k (wd1 ps M k)=L at A ⊢
   have B:(∀r∈wdB ps M k L,In C M r)/\(wdB ps M k L).length<=3*k+2/\k+1<=(wdB ps M k L).length:=by
     unfold wdB;split
     . refine⟨λr hr=>?_,by rw[rp,IZ]; omega,by rw[rp,IZ]; omega⟩;rcases vp.mp hr with z | z
       . exact A.1 r z
       . rw[gV.mp z]; exact mk
     . exact⟨A.1,by omega,A.2.2⟩
   generalize wdB ps M k L=L2 at B ⊢;unfold wdC;split
   . rename_i hq;refine⟨λr hr=>?_,by rw[rp,IZ]; omega,by rw[rp,IZ]; omega⟩;rcases vp.mp hr with z | z
     . exact B.1 r z
     . rw[gV.mp z]; exact .inr (.inl ⟨_,ba .(0),_,ba hq.2,rfl⟩)
   . exact⟨B.1,by omega,B.2.2⟩
theorem tZ (g:∀r∈L,In C M r)(h1:1<=L.length)(h2:L.length<=21):∀t,(∀r∈wd2 qs C L t,In C M r)/\1<=(wd2 qs C L t).length/\(wd2 qs C L t).length<=21
 | 0=>⟨g,h1,h2⟩
 | t+1=>by
   obtain⟨a,b,c⟩:=tZ g h1 h2 (qs:=qs) t;rw[wd2];generalize wd2 qs C L t=N at a b c ⊢;unfold wdI;split
   . refine⟨λr hr=>?_,?_,?_⟩
     . rcases uP _ _ hr with z | z
       . exact .inr (.inr z)
       . exact a r z
     . rw[L5]; split <;> omega
     . rw[L5]; split <;> omega
   . exact⟨a,b,c⟩
def xQ (h:Wd C β σ M)(l:M.length=R)(r1:1<=R)(r7:R<=7):Wd C (β+1) σ (wid c C M)/\1<=(wid c C M).length/\(wid c C M).length<=7:=by
 obtain⟨a,b,d⟩:=su (C:=C) (ps:=wdP c) (M:=M) M.length .(3);obtain⟨e,f,g⟩:=tZ (qs:=wdQ c) a .(0) .(0) ((wdQ c).getD 0 0).toNat;unfold wid;generalize wd2 (wdQ c) C (wd1 (wdP c) M M.length) ((wdQ c).getD 0 0).toNat=L at e f g ⊢;refine⟨h.Ce λr hr=>e r (Ko hr),?_,?_⟩
 . rw[IX]; omega
 . rw[IX]; omega
noncomputable def trQ (M:List .(109))(C:Nat):List .(109):=(ox C).map λj=>M.map λr=>r.getD j 0
def Wd.trQ {C β σ:Nat}{M:List .(109)}(h:Wd C β σ M):Wd M.length β σ (trQ M C):=by
 obtain⟨hr,P,p0,p1,p2⟩:=h;refine⟨λr z=>?_,P,p0,p1,λr z x hx=>?_⟩
 . obtain⟨j,_,rfl⟩:=HV.mp z;rw[bp]
 . obtain⟨j,hj,rfl⟩:=HV.mp z;obtain⟨r,hq,rfl⟩:=HV.mp hx;exact p2 r hq _ (ba (by rw[hr r hq]; exact Iq.mp hj))
def vB :(trQ M C).length=C:=by unfold trQ; rw[bp,IQ]
def iO (ds:List D)(r:Sl):Prop:=∃(C:Nat) (M:List .(109)),ds=[tbQ M]/\1<=M.length/\M.length<=7/\C<=7/\(∀r∈M,r.length=C)/\r=.o ((trQ M C).map rwQ)
section
variable {P:FB}{w:World}{K:fw}{mg:Str->Option Value}{base:Heap}{k:Nat}{f:Addr}{fd:Gc}{qual:Str}
def qk (F:Fun K "_law_turned" qual (top 61) f fd)(hb:.(92)):.(91) ["_law_rows_here"] (spD K iO):=by
 refine fnD F kC hb (by rintro _ _ ⟨_,_,rfl,_⟩; rfl) ?_;rintro _ _ ⟨C,M,rfl,r1,r7,c7,hr,rfl⟩ cdv A outer s H E b;have nd:=kC.nd;have a0:atI (M.map rwQ) 0=some (rwQ (M.getD 0 [])):=dR (i:=0) [] .(0);have l0:(M.getD 0 []).length=C:=hr _ (ba .(0));have ll:(M.map rwQ).length=M.length:=bp ..;refine aX (dD (cmp 0 (f:=λj=>rwQ (M.map λr=>r.getD j 0)) b (eX b (bo b (ae (aL (aa 0) af (aY a0)) ag) (gc (n:=C) (by rw[bp,l0]))) .(0) .(0)) eV (by rw[aP]; omega) λj hj s0 H0 fp=>bf (dD (cmp 0 (g:=λi=>rwQ .(103)) (f:=λi=>frD (.(103).getD j 0)) .(107) (bC (aa 1)) (cU (f:=rwQ) (xs:=M) []) (by rw[ll]; omega) λi hi s1 H1 fp1=>?_)) ?_)) ?_
 . have hj:j<C:=by rw[aP]at hj; omega
   have hi:i<M.length:=by rw[ll]at hi; exact hi
   exact aL (aa 0) (aa 1) (aY (dR (f:=frD) 0 (by rw[hr _ (ba hi)]; exact hj)))
 . show some (D.lst _)=some (D.lst _);rw[ll,gm (λr:List Rat=>frD (r.getD j 0)) M [] rfl];show some (D.lst _)=some (D.lst (Nl frD (Nl _ M)));rw[IC];rfl
 . rw[aP,HW];show Sl.o _=Sl.o (Nl rwQ (Nl _ _));rw[IC];rfl
end
def EF {α:Type}{f:α->D}{xs:List α}(d:α)(i:Nat)(h:i<(mF (xs.map f)).length):(mF (xs.map f))[i]=.tup [.int (i:Nat),f (xs.getD i d)]:=by
 have:i<xs.length:=by rw[dN]at h; simpa using h
 rw[oM];simp[this]
def gR (ds:List D)(r:Sl):Prop:=∃(c:Int) (C β σ:Nat) (M:List .(109)),ds=[tbQ M,.int c]/\Wd C β σ M/\1<=M.length/\M.length<=7/\1<=C/\C<=7/\β+σ<=1000/\r=.o ((wid c C M).map rwQ)
theorem FW {α:Type}(f:α->D)(x:α):∀(m:Nat) (L:List α),((L.map f).map Nd.d).insertIdx m (.d (f x))=((L.insertIdx m x).map f).map Nd.d
 | 0,L=>rfl
 | m+1,[]=>rfl
 | m+1,y::L=>congrArg (_::·) (FW f x m L)
section
variable {P:FB}{w:World}{K:fw}{mg:Str->Option Value}{base:Heap}{k:Nat}{f:Addr}{fd:Gc}{qual:Str}
def pg (F:Fun K "_law_widened" qual (top 60) f fd)(hb:.(92))(c_l_numbers:.(90) "_law_numbers" cG)(c_l_plus:.(90) "_law_plus" jo):.(91) ["_law_rows_here","_law_cell_here"] (spD K gR):=by
 refine fnD F je hb (by rintro _ _ ⟨_,_,_,_,_,rfl,_⟩; rfl) ?_;rintro _ _ ⟨c,C,β,σ,M,rfl,wd,r1,r7,c1,c7,hs,rfl⟩ cdv A outer s H E b;have nd:=je.nd;have dv:∀x:Int,x=4\/x=8->0<x/\aK x:=λx hx=>oO .(0) .(0);refine aM 2 nd (bf (x_call b c_l_numbers (ae (aa 1) (ae (bf (vO (bf (ck (ae af ag))) af .(2) .(2) .(2))) ag)) ⟨c,[4,4,4,4,4,4,4,4],rfl,by decide,λx hx=>dv x (.inl (by simpa using hx)),rfl⟩)) ?_;refine aM 3 nd (ck ag) ?_;have lp:(wdP c).length=8:=gQ _ _;show PSs _ _ (dS K [_,_,.d (.lst ((wdP c).map D.int)),_,_,_,_] _);have ew:wid c C M=(wd2 (wdQ c) C (wd1 (wdP c) M M.length) ((wdQ c).getD 0 0).toNat).take 7:=rfl;rw[ew];have w1:=λk hk=>su (C:=C) (ps:=wdP c) (M:=M) k hk;generalize wdP c=ps at lp w1 ⊢;have pa:∀i:Nat,i<M.length->atI (ps.map D.int) (i:Int)=some (.int (ps.getD i 0)):=λi hi=>atR .(0);have lM:(M.map rwQ).length=M.length:=bp ..;refine sG 4 5 (g:=λi=>.int (i:Nat)) (g':=λi=>rwQ .(103)) (λi τ=>∃s4 s5,τ=[.d (tbQ M),.d (.int c),.d (.lst (ps.map D.int)),.o ((wd1 ps M i).map rwQ),s4,s5,.un]) b nd (zF (xs:=M.map rwQ) b (aa 0)) (EF (f:=rwQ) (xs:=M) []) ⟨_,_,rfl⟩ (λi hi τ h=>?_) λτ h=>?_
 . obtain⟨s4,s5,rfl⟩:=h;have hi:i<M.length:=by rw[dN,lM]at hi; exact hi
   have l1:=(w1 i .(0)).2.1;refine lW 3 (xs:=(wd1 ps M i).map rwQ) (aa 5) .(8) ?_;show PSs _ _ (dS K [_,_,_,.o ((wd1 ps M i).map rwQ++[rwQ .(103)]),_,_,_] _);rw[show (wd1 ps M i).map rwQ++[rwQ .(103)]=(wdA M i (wd1 ps M i)).map rwQ by unfold wdA; rw[Ia]; rfl,wd1];have lA:(wdA M i (wd1 ps M i)).length<=3*i+1:=by unfold wdA; rw[rp,IZ]; omega
   generalize wdA M i (wd1 ps M i)=LA at lA ⊢;refine gq (M:=λτ=>τ=[.d (tbQ M),.d (.int c),.d (.lst (ps.map D.int)),.o ((wdB ps M i LA).map rwQ),.d (.int (i:Nat)),.d (rwQ .(103)),.un]) (aZ (aL (aa 2) (aa 4) (aY (pa i hi))) af fD) (λh=>?_) (λh=>?_) λτ h=>?_
   . have h:=of_decide_eq_true h;refine lW 3 (xs:=LA.map rwQ) (bf (pB b (ae (aa 5) ag) oW)) .(8) (aS ?_);unfold wdB;rw[if_pos h,Ia];rfl
   . have h:=of_decide_eq_false h;refine aS ?_;unfold wdB;rw[if_neg h]
   subst h
   have lB:(wdB ps M i LA).length<=3*i+2:=by
     unfold wdB;split
     . rw[rp,IZ]; omega
     . omega
   generalize wdB ps M i LA=LB at lB ⊢;have fin:∀L:List .(109),wdC ps M i LB=L->∃s4 s5,[.d (tbQ M),.d (.int c),.d (.lst (ps.map D.int)),.o (L.map rwQ),.d (.int (i:Nat)),.d (rwQ .(103)),.un]=[Sl.d (tbQ M),.d (.int c),.d (.lst (ps.map D.int)),.o ((wdC ps M i LB).map rwQ),s4,s5,.un]:=λL e=>⟨_,_,by rw[e]⟩;refine gq (M:=λτ=>∃s4 s5,τ=[Sl.d (tbQ M),.d (.int c),.d (.lst (ps.map D.int)),.o ((wdC ps M i LB).map rwQ),s4,s5,.un]) (t:=decide (ps.getD i 0=2)&&decide (((i:Nat):Int)+1<(M.length:Nat))) (PW.pt (oy (aZ (aL (aa 2) (aa 4) (aY (pa i hi))) af fD) λh=>(oN (aZ (aE (aa 4) af bA) (bo b .(111) (gc (n:=M.length) lM)) qQ)))) (λh=>?_) (λh=>?_) λτ h=>?_
   . rw[IS]at h;have h1:=of_decide_eq_true h.1;have h2:i+1<M.length:=by have:=of_decide_eq_true h.2; omega
     have la:=wd.row _ (ba (d:=[]) hi);have lb:=wd.row _ (ba (d:=[]) h2);have a2:atI (M.map rwQ) (((i:Nat):Int)+1)=some (rwQ (M.getD (i+1) [])):=dR (i:=i+1) [] h2;have sq:∀r∈M,∀x∈r,Sq (β+(σ+1)) x:=λr hr x hx=>(wd.cz.qs r hr x hx).sq;have lz:(gG (.(103).map frD) ((M.getD (i+1) []).map frD)).length=C:=(by rw[bQ,bp,bp]; omega);refine lW 3 (xs:=LB.map rwQ) (bf (dD (Ac 0 1 (f:=λj=>frD (.(103).getD j 0+(M.getD (i+1) []).getD j 0)) b (qZ b (aa 5) (aL (aa 0) (aE (aa 4) af bA) (aY a2))) yb (by rw[lz]; omega) λj hj s0 H0 fp=>?_))) .(8) (aS ?_)
     . have hj:j<C:=by rw[lz]at hj; exact hj
       exact bf (x_call .(107) c_l_plus (ae (aa 0) (ae (aa 1) ag)) ⟨_,_,_,_,rfl,sq _ (ba hi) _ (ba .(0)),sq _ (ba h2) _ (ba .(0)),by omega,rfl⟩)
     . have e:wdC ps M i LB=LB++[wD .(103) (M.getD (i+1) [])]:=by unfold wdC; rw[if_pos ⟨h1,h2⟩]
       rw[e,Ia,lz];refine⟨.d (.int (i:Nat)),.d (rwQ .(103)),?_⟩;show [_,_,_,Sl.o (LB.map rwQ++[.lst ((ox C).map _)]),_,_,_]=[_,_,_,Sl.o (LB.map rwQ++[.lst ((wD .(103) (M.getD (i+1) [])).map frD)]),_,_,_];unfold wD;rw[IC,la];rfl
   . refine aS (fin LB ?_);unfold wdC;rw[if_neg λz=>?_];rw[z.1,decide_eq_true (show ((i:Nat):Int)+1<(M.length:Nat) by omega)]at h;cases h
   . exact aS h
 obtain⟨s4,s5,rfl⟩:=h;rw[dN,lM];obtain⟨g1,g2,g3⟩:=w1 M.length .(3);generalize wd1 ps M M.length=L at g1 g2 g3 ⊢;refine aM 6 nd (bf (x_call b c_l_numbers (ae (aE (aa 1) af bA) (ae (bf (ck (ae af (ae af (ae af (ae af ag)))))) ag)) ⟨c+5,[4,8,8,8],rfl,by decide,λx hx=>dv x (by simp only[HZ,Jm,or_false]at hx; omega),rfl⟩)) ?_;show PSs _ _ (dS K [_,_,_,_,_,_,.d (.lst ((wdQ c).map D.int))] _);have lq:(wdQ c).length=4:=gQ _ _;have q0:0<=(wdQ c).getD 0 0/\(wdQ c).getD 0 0<4:=oJ (c:=c+5) (bs:=[4,8,8,8]) .(2) (i:=0) .(2);generalize wdQ c=qs at lq q0 ⊢;have qa:∀i:Nat,i<4->atI (qs.map D.int) (i:Int)=some (.int (qs.getD i 0)):=λi hi=>atR .(0);obtain⟨n,hn⟩:=Jo q0.1;rw[hn]at q0;have w2:=λt=>tZ (qs:=qs) g1 .(0) .(0) t;have a0:atI (qs.map D.int) 0=some (.int (n:Nat)):=by have:=qa 0 .(2); rw[hn]at this; exact this
 refine Ge 3 (c:=.l ((L.map rwQ).map .d)) ?_;refine cn 4 (λt τ=>∃s4,τ=[.d (tbQ M),.d (.int c),.d (.lst (ps.map D.int)),.n (.l (((wd2 qs C L t).map rwQ).map .d)),s4,s5,.d (.lst (qs.map D.int))]) b nd (eX b (aL (aa 6) af (aY a0)) .(0) .(0)) eV ⟨_,rfl⟩ (λt ht τ h=>?_) λτ h=>?_
 . obtain⟨s4,rfl⟩:=h;have ht:t<n:=by rw[aP]at ht; omega
   obtain⟨i1,i2,i3⟩:=w2 t;rw[wd2];generalize wd2 qs C L t=N at i1 i2 i3 ⊢;have fzN:fzD (.n (.l ((N.map rwQ).map .d)))=some (tbQ N):=congrArg (λz=>some (D.lst z)) (l6 _);have a1:atI (qs.map D.int) (1+((t:Nat):Int))=some (.int (qs.getD (1+t) 0)):=by have:=qa (1+t) .(0); rw[show ((1+t:Nat):Int)=1+((t:Nat):Int) by omega]at this; exact this
   have lN:(N.map rwQ).length=N.length:=bp ..;refine gq (M:=λτ=>τ=[.d (tbQ M),.d (.int c),.d (.lst (ps.map D.int)),.n (.l (((wdI qs C t N).map rwQ).map .d)),.d (.int (t:Nat)),s5,.d (.lst (qs.map D.int))]) (aZ (bo b (ae (j8 3 (s:=.n (.l ((N.map rwQ).map .d))) (hx:=fzN)) ag) (gc (n:=N.length) lN)) af qQ) (λh=>?_) (λh=>?_) λτ h=>aS ⟨_,h⟩
   . have h:N.length<7:=by have:=of_decide_eq_true h; omega
     have bl:=di (p:=qs.getD (1+t) 0) (n:=N.length+1) .(0);have e:wdI qs C t N=N.insertIdx (btI (qs.getD (1+t) 0) (N.length+1)) (Ii C 0):=(by unfold wdI; rw[if_pos h]);have be:=mj (p:=qs.getD (1+t) 0) (n:=N.length+1) .(0);generalize btI (qs.getD (1+t) 0) (N.length+1)=m at bl e be
     have nd0:cP ([]++[0]) (.l ((N.map rwQ).map .d))=some (.d (.lst ((N.getD 0 []).map frD))):=by
       cases N with
       | nil=>exact absurd i2 .(4)
       | cons r N=>rfl
     have l0:((N.getD 0 []).map frD).length=C:=(by rw[bp]; exact(wd.Ce i1).row _ (ba .(0)));refine C7 (i:=3) (m:=m) (x:=rwQ (Ii C 0)) (cV 3) ?_ ?_ rfl rfl ?_ ?_ (aS ?_)
     . rw[<- be];exact aE (aL (aa 6) (aE af (aa 4) bA) (aY a1)) (aE (bo b (ae (j8 3 (s:=.n (.l ((N.map rwQ).map .d))) (hx:=fzN)) ag) (gc (n:=N.length) lN)) af bA) (bG .(0))
     . refine bf (dD (cmp 0 (xs:=(N.getD 0 []).map frD) (g:=λj=>frD ((N.getD 0 []).getD j 0)) (f:=λ_=>frD 0) b ?_ (cU (f:=frD) (xs:=N.getD 0 []) 0) (by rw[l0]; omega) λj hj s0 H0 fp=>bO (ae af (ae af ag)))) ?_
       . exact bC (C5 (gW (cV 3) af rfl rfl (cN (m:=0) (by rw[bp,bp]; omega))) rfl nd0)
       rw[l0];show some (D.lst _)=some (D.lst _);rw[Mo,List.map_const',IQ]
     . rw[bp,lN]; omega
     . rw[bp,lN]; omega
     . rw[e,<- FW];rfl
   . have h:¬N.length<7:=by have:=of_decide_eq_false h; omega
     refine aS ?_;unfold wdI;rw[if_neg h];rfl
 obtain⟨s4,rfl⟩:=h;rw[aP,hn];simp only[HW];show PSs _ _ (dS K [_,_,_,.n (.l (((wd2 qs C L n).map rwQ).map .d)),_,_,_] _);generalize wd2 qs C L n=N;refine jX 3 (x:=tbQ N) ?_ rfl (congrArg (λz=>some (D.lst z)) (l6 _));refine aX (CW (aa 3) iF (fo af)) ?_;show Sl.o _=Sl.o _;rw[KL];exact congrArg Sl.o (Hy.sU (xs:=N.map rwQ) 7)
end
end K33
namespace Lc
open PySem PySem.Spec PyProof.Rows L2
open PySem.AutoSeq1 (wpAny_loadPart')
open PySem.MeetsSeq PySem.MeetsSeq2 PySem.MeetsSeq3 PySem.SeqRoads2 PySem.SeqAt
open Ev (D Den aw eqD cu toP cln bR dep b6)
def CQ (l b:Addr)(items items2:Array Value)(n n2:Nat)(dd dd2:Option Addr)(sl sl2:Array (Option Value))(j:Nat)(h1:j<items.size)(h2:j<items2.size)(c:Bool):
   Meets (Builtin.«tuple.__lt__» ⟨[.ref l,.ref b],[]⟩)
     (λA R s=>s.heap.get? l=some { cls:=.type "tuple",dict:=dd,data:=.seq items n,slots:=sl }/\s.heap.get? b=some { cls:=.type "tuple",dict:=dd2,data:=.seq items2 n2,slots:=sl2 } /\
       (∀m (_:m<j) (z1:m<items.size) (z2:m<items2.size),EqAt A.in1 s items[m] items2[m] true)/\EqAt A.in1 s items[j] items2[j] false/\iU .Lt A.in1 s items[j] items2[j] c/\R (.ok (.ret (.bool c))) s):=
 .of_wp λprog w A R s h=>by
   obtain⟨hp,g,d,tk,os⟩:=s; obtain⟨hl,hb,he,hn,hc,h⟩:=h;have f2:=AutoSeq1.sub_tuple_tuple;have hZ:(items.toList.zip items2.toList).length=min items.size items2.size:=by simp
   wp_walk using N5 hl,N5 hb,NU _ (λrest b s'=>b.1=none/\s'=⟨hp,g,d,tk,os⟩/\∃i,i<=j/\rest=(items.toList.zip items2.toList).drop i) _
   case turn=>
     rintro⟨y,x⟩ rest b s' ⟨hb',rfl,i,hij,hz⟩;have hlt:i<(items.toList.zip items2.toList).length:=(by rw[hZ]; omega);have h3:i<items.size:=(by omega);have h4:i<items2.size:=(by omega);rw[Lu hlt]at hz;injection hz with hyx hrest;have hy:y=items[i]:=by have:=congrArg Prod.fst hyx; simpa using this
     have hx:x=items2[i]:=(by have:=congrArg Prod.snd hyx; simpa using this);subst hy hx;by_cases hij':i<j
     . refine AC (he i hij' h3 h4 prog w _ _ ?_)
       wp_walk
       exact⟨rfl,rfl,i+1,hij',hrest⟩
     . obtain rfl:i=j:=by omega
       refine AC (hn prog w _ _ ?_);simp only[Bool.not_false,if_true];refine AC (Oi ?_);refine AC (hc prog w _ _ ?_)
       wp_walk
       exact⟨_,rfl,h⟩
   case fin=>
     rintro⟨b1,b2⟩ s' ⟨hb',rfl,i,hij,hz⟩;exfalso;have hlt:i<(items.toList.zip items2.toList).length:=(by rw[hZ]; omega);rw[Lu hlt]at hz;cases hz
   case h=>exact⟨rfl,rfl,0,Im _,rfl⟩
def iU.ltT (hl:s.heap.IsTuple l items)(hb:s.heap.IsTuple b items2)(hu:A.units<cLine)(h1:j<items.size)(h2:j<items2.size)
   (he:∀m (_:m<j) (z1:m<items.size) (z2:m<items2.size),EqAt A.in1 s items[m] items2[m] true) (hn:EqAt A.in1 s items[j] items2[j] false) (hc:iU .Lt A.in1 s items[j] items2[j] c):iU .Lt A s (.ref l) (.ref b) c:=λprog w E Q h=>by
 obtain⟨⟨cls,dd,data,sl⟩,ho,hc1,n,hd⟩:=id hl;obtain⟨⟨cls2,dd2,data2,sl2⟩,ho2,hc2,n2,hd2⟩:=id hb;simp only at hc1 hd hc2 hd2;subst hc1 hd hc2 hd2
 exact richCompare_meets_room (op:=.Lt) ⟨_,ho,rfl⟩ ⟨_,ho2,rfl⟩ F.slot_tuple_lt F.entry_tuple_lt (F.args_tuple_lt_2 _ _) (CQ l b items items2 n n2 dd dd2 sl sl2 j h1 h2 c)
   ⟨ho,ho2,he,hn,hc,show JI c≠Value.notImplemented/\Q (.bool c) s from⟨(λx=>nomatch x),h⟩⟩ hu
inductive Cm2:D->D->Bool->Prop where
 | int {i j:Int}:Cm2 (.int i) (.int j) (decide (i<j))
 | lst {xs ys:List D} {j:Nat} {x y:D} {c:Bool} (hx:xs[j]?=some x) (hy:ys[j]?=some y) (he:∀(m:Nat) x y,m<j->xs[m]?=some x->ys[m]?=some y->eqD x y=true) (hn:eqD x y=false) (h:Cm2 x y c):Cm2 (.lst xs) (.lst ys) c
 | tup {xs ys:List D} {j:Nat} {x y:D} {c:Bool} (hx:xs[j]?=some x) (hy:ys[j]?=some y) (he:∀(m:Nat) x y,m<j->xs[m]?=some x->ys[m]?=some y->eqD x y=true) (hn:eqD x y=false) (h:Cm2 x y c):Cm2 (.tup xs) (.tup ys) c
section
variable {X:Cx}{pins:List .(104)}{σ:L2.St}{H G:Hp}{s:Da}
def Ho (I:Inv X pins σ H s)(e:ao G H)(h:Cm2 x y c):∀{A:GT} {v v':V} {u u':Value},Den X.K G v x->RelV v u->Den X.K G v' y->RelV v' u'->cln x=true->cln y=true->A.units+dep x<cLine->A.units+dep y<cLine->iU .Lt A s u u' c:=by
 have i1:∀A:GT,A.in1.units=A.units+1:=λ_=>rfl
 have step:∀{A:GT} {xs ys:List D} {vs vs':List V} {its its2:List Value} {j:Nat} {x y:D},aw X.K G vs xs->Vals vs its->aw X.K G vs' ys->Vals vs' its2->bR xs=true->bR ys=true->A.units+1+b6 xs<cLine->A.units+1+b6 ys<cLine->xs[j]?=some x->ys[j]?=some y ->
     (∀(m:Nat) x y,m<j->xs[m]?=some x->ys[m]?=some y->eqD x y=true)->eqD x y=false->∃(s1:j<its.toArray.size) (s2:j<its2.toArray.size),(∀m,m<j->∀(z1:m<its.toArray.size) (z2:m<its2.toArray.size),EqAt A.in1 s its.toArray[m] its2.toArray[m] true)/\EqAt A.in1 s its.toArray[j] its2.toArray[j] false /\
       ∃a a',Den X.K G a x/\RelV a its.toArray[j]/\Den X.K G a' y/\RelV a' its2.toArray[j]/\cln x=true/\cln y=true/\A.in1.units+dep x<cLine/\A.in1.units+dep y<cLine:=λ{A xs ys vs vs' its its2 j x y} q rv q' rv2 c1 c2 u1 u2 hx hy he hn=>by
   obtain⟨a,b,e1,da,ra⟩:=fQ q rv hx;obtain⟨a',b',e1',da',ra'⟩:=fQ q' rv2 hy;obtain⟨c3,k3⟩:=jA c1 hx;obtain⟨c4,k4⟩:=jA c2 hy;have s1:=(tf.mp e1).1;have s2:=(tf.mp e1').1;have g1:its.toArray[j]'(by simpa using s1)=b:=by simpa using (tf.mp e1).2
   have g2:its2.toArray[j]'(by simpa using s2)=b':=by simpa using (tf.mp e1').2
   have q1:=q.length;have q2:=q'.length;have v1:=rv.length;have v2:=rv2.length;refine⟨by simpa using s1,by simpa using s2,λm hm z1 z2=>?_,?_,a,a',da,by rw[g1]; exact ra,da',by rw[g2]; exact ra',c3,c4,by rw[i1]; omega,by rw[i1]; omega⟩
   . rw[Ic]at z1 z2;have f1:xs[m]?=some (xs[m]'(by omega)):=ph _;have f2:ys[m]?=some (ys[m]'(by omega)):=ph _;obtain⟨a,b,e2,da,ra⟩:=fQ q rv f1;obtain⟨a',b',e2',da',ra'⟩:=fQ q' rv2 f2;obtain⟨c3,k3⟩:=jA c1 f1;obtain⟨c4,k4⟩:=jA c2 f2;have g1:its.toArray[m]=b:=by simpa using (tf.mp e2).2
     have g2:its2.toArray[m]=b':=(by simpa using (tf.mp e2').2);rw[g1,g2];have k1:=mG (A:=A.in1) I e da ra da' ra' c3 c4 (by rw[i1]; omega);rw[he m _ _ hm f1 f2]at k1;exact k1
   . have n1:=mG (A:=A.in1) I e da ra da' ra' c3 c4 (by rw[i1]; omega);rw[hn]at n1;rw[g1,g2];exact n1
 induction h with
 | int=>intro A v v' u u' d r d' r' _ _ _ _;cases d; cases d';obtain⟨t,rfl⟩:=r;obtain⟨t',rfl⟩:=r';exact λprog w E Q q=>(PyProof.Rows.lt_int q:wpAny .(110) A (GE .Lt _ _) Q E s)
 | @lst xs ys j x y c hx hy he hn _ ih=>
   intro A v v' u u' d r d' r' c1 c2 u1 u2;rw[cln]at c1 c2;rw[dep]at u1 u2;cases d with
   | lst z q=>
   cases d' with
   | lst z' q'=>
   cases r; cases r';obtain⟨its,rv,pl,_⟩:=I.list (Ev.aR e z);obtain⟨its2,rv2,pl2,_⟩:=I.list (Ev.aR e z');obtain⟨s1,s2,eqs,n1,a,a',da,ra,da',ra',c3,c4,k3,k4⟩:=step (A:=A) q rv q' rv2 c1 c2 .(0) .(0) hx hy he hn;exact iU.lt pl.isList pl2.isList .(0) s1 s2 eqs n1 (ih da ra da' ra' c3 c4 k3 k4)
 | @tup xs ys j x y c hx hy he hn _ ih=>
   intro A v v' u u' d r d' r' c1 c2 u1 u2;rw[cln]at c1 c2;rw[dep]at u1 u2;cases d with
   | tup z q=>
   cases d' with
   | tup z' q'=>
   cases r; cases r';obtain⟨its,rv,pl,_⟩:=I.tuple (Ev.a5 e z);obtain⟨its2,rv2,pl2,_⟩:=I.tuple (Ev.a5 e z');obtain⟨s1,s2,eqs,n1,a,a',da,ra,da',ra',c3,c4,k3,k4⟩:=step (A:=A) q rv q' rv2 c1 c2 .(0) .(0) hx hy he hn;exact iU.ltT pl pl2 .(0) s1 s2 eqs n1 (ih da ra da' ra' c3 c4 k3 k4)
end
end Lc
namespace Lc
open PySem PySem.Spec PyProof.Rows L2
open Ev (D Den aw eqD cu toP cln bR dep b6)
section
variable {prog:FB}{w:World}{A:GT}{R:Result->Da->Prop}{E:Value->Da->Prop}
theorem pw (bt:Nat->Nat->Bool):∀j,argBest bt j<=j
 | 0=>IE _
 | j+1=>by
   rw[argBest];split
   . exact IE _
   . exact Nat.le_succ_of_le (pw bt j)
def Kept (s0 s:Da):Prop:=∃h t,s={ s0 with heap:=h,toks:=t }/\∀b o,s0.heap.get? b=some o->h.get? b=some o
def yw (hh:A.in1.handled=none)(hne:l≠I)(hSl:S≠l)(hSI:S≠I)(hI:s0.heap.get? I=none)(hS0:s0.heap.get? S=none)
   (hcmp:∀i j vi vj s,j<i->items[i]?=some vi->items[j]?=some vj->Kept s0 s->iU .Lt A.in1 s vi vj (bt i j))
   (hR:∀v s,items[argBest bt (items.size-1)]?=some v->Kept s0 s->R (.ok (.ret v)) s) :
   ∀(k j:Nat) (s:Da) (vb:Value) (c:Nat),items.size-(j+1)=k->j+1<=items.size->s.heap.IsListIter I l (j+1)/\s.heap.IsList l items->items[argBest bt j]?=some vb->Kept s0 s ->
     s.heap.get? S=some { cls:=.type "list",dict:=none,data:=.seq #[vb,vb] c,slots:=#[] }->O3 .(110) A (.builtin "min.loop" ⟨[.ref I,.none,.ref S],[]⟩) R s:=by
 have W:=Walks.list (prog:=prog) (w:=w) (A:=A.in1) hh I l hne items;have hname:(toString "min" ++ toString ".loop" : String) = "min.loop":=by decide
 have old:∀{b:Addr} {o:Obj},s0.heap.get? b=some o->b≠I/\b≠S:=λ{b o} e=>⟨(λz=>by rw[z,hI]at e; cases e),(λz=>by rw[z,hS0]at e; cases e)⟩
 have nS:∀b∈[I,l],S≠b:=λb hb=>by
   rcases HZ.mp hb with rfl | q
   . exact hSI
   . rw[gV.mp q]; exact hSl
 intro k;induction k with
 | zero=>
   intro j s vb c hk hj hst hb hK hS;have hin:j+1=items.size:=by omega
   obtain⟨h,t,rfl,kp⟩:=hK;refine NI M4 ?_;rw[J4 Kg _];show wpAny _ A.in1 (seqItems? (.ref S) >>= _) _ _ _;refine AC (NY hS rfl ?_);show wpAny _ A.in1 (tryCatch (O4 (.ref I)) _ >>= _) _ _ _;refine AC (Ob (W.done _ _ _ (hin▸hst) λh' tk hm=>?_));have hS':=hm S _ (by simpa using hSI) hS;show wpAny _ A.in1 (updateSeq S (λ_=>#[]) >>= _) _ _ _;refine AC ?_;refine wpAny_updateSeq hS' rfl (AC (wpAny_letGo (Fk ?_)));exact hR vb _ (by rw[<- hin]; exact hb) ⟨_,_,rfl,λb o e=>(Js _ _ (Je (old e).2)).trans (hm b o (by simpa using (old e).1) (kp b o e))⟩
 | succ k ih=>
   intro j s vb c hk hj hst hb hK hS;have hlt:j+1<items.size:=by omega
   obtain⟨h,t,rfl,kp⟩:=hK;refine NI M4 ?_;rw[J4 Kg _];show wpAny _ A.in1 (seqItems? (.ref S) >>= _) _ _ _;refine AC (NY hS rfl ?_);show wpAny _ A.in1 (tryCatch (O4 (.ref I)) _ >>= _) _ _ _;refine AC (Ob (W.item (j+1) _ _ _ hlt hst λv h' tk hv hst' hm=>?_));have hS':=hm S _ (by simpa using hSI) hS;have kp':∀b o,s0.heap.get? b=some o->h'.get? b=some o:=λb o e=>hm b o (by simpa using (old e).1) (kp b o e);show wpAny _ A.in1 (tryCatch (N3 [v,v] (richCompare .Lt v vb >>= _)) _ >>= _) _ _ _;refine AC (Ob (NJ (AC (hcmp (j+1) (argBest bt j) v vb _ (Nat.lt_succ_of_le (pw bt j)) hv hb ⟨h',tk,rfl,kp'⟩ prog w _ _ ?_))));refine AC (NJ (N0 ?_));refine AC (wpAny_letGo (Fk ?_));cases hbt:bt (j+1) (argBest bt j) with
   | true=>
     simp only[if_true];refine AC ?_;refine wpAny_updateSeq hS' rfl (AC (wpAny_letGo ?_));rw[hname];refine Fk ⟨NN Kg _,ih (j+1) _ v _ .(0) hlt (W.frame _ _ _ hst' λb hbf o e=>?_) (by simp only[argBest,hbt,if_true]; exact hv) ⟨_,_,rfl,λb o e=>?_⟩ (Ki _ hS' rfl)⟩
     . exact(Js _ _ (nS b hbf)).trans e
     . exact(Js _ _ (Je (old e).2)).trans (kp' b o e)
   | false=>simp only[JF,if_false];refine AC (wpAny_letGo ?_);rw[hname];exact Fk ⟨NN Kg _,ih (j+1) _ vb c .(0) hlt hst' (by simp only[argBest,hbt,JF,if_false]; exact hb) ⟨_,_,rfl,kp'⟩ hS'⟩
def wB (hh:A.in1.handled=none)(hne:l≠I)(hSl:S≠l)(hSI:S≠I)(hI:s0.heap.get? I=none)(hS0:s0.heap.get? S=none)(hn:0<items.size)
   (hcmp:∀i j vi vj s,j<i->items[i]?=some vi->items[j]?=some vj->Kept s0 s->iU .Lt A.in1 s vi vj (bt i j))
   (hR:∀v s,items[argBest bt (items.size-1)]?=some v->Kept s0 s->R (.ok (.ret v)) s) (hst:s.heap.IsListIter I l 0/\s.heap.IsList l items) (hK:Kept s0 s)
   (hS:s.heap.get? S=some { cls:=.type "list",dict:=none,data:=.seq #[] c,slots:=#[] }):O3 .(110) A (.builtin "min.loop" ⟨[.ref I,.none,.ref S],[]⟩) R s:=by
 have W:=Walks.list (prog:=prog) (w:=w) (A:=A.in1) hh I l hne items;have hname:(toString "min" ++ toString ".loop" : String) = "min.loop":=by decide
 have old:∀{b:Addr} {o:Obj},s0.heap.get? b=some o->b≠I/\b≠S:=λ{b o} e=>⟨(λz=>by rw[z,hI]at e; cases e),(λz=>by rw[z,hS0]at e; cases e)⟩
 have nS:∀b∈[I,l],S≠b:=λb hb=>by
   rcases HZ.mp hb with rfl | q
   . exact hSI
   . rw[gV.mp q]; exact hSl
 obtain⟨h,t,rfl,kp⟩:=hK;refine NI M4 ?_;rw[J4 Kg _];show wpAny _ A.in1 (seqItems? (.ref S) >>= _) _ _ _;refine AC (NY hS rfl ?_);show wpAny _ A.in1 (tryCatch (O4 (.ref I)) _ >>= _) _ _ _;refine AC (Ob (W.item 0 _ _ _ hn hst λv h' tk hv hst' hm=>?_));have hS':=hm S _ (by simpa using hSI) hS;have kp':∀b o,s0.heap.get? b=some o->h'.get? b=some o:=λb o e=>hm b o (by simpa using (old e).1) (kp b o e);show wpAny _ A.in1 (updateSeq S (λ_=>#[v,v]) >>= _) _ _ _;refine AC ?_;refine wpAny_updateSeq hS' rfl ?_;rw[hname];refine Fk ⟨NN Kg _,yw hh hne hSl hSI hI hS0 hcmp hR _ 0 _ v _ rfl .(0) (W.frame _ _ _ hst' λb hbf o e=>?_) hv ⟨_,_,rfl,λb o e=>?_⟩ (Ki _ hS' rfl)⟩
 . exact(Js _ _ (nS b hbf)).trans e
 . exact(Js _ _ (Je (old e).2)).trans (kp' b o e)
def x6 (hh:A.handled=none)(hl:s.heap.IsList l items)(hn:0<items.size)
   (hcmp:∀i j vi vj s',j<i->items[i]?=some vi->items[j]?=some vj->Kept s s'->iU .Lt A.in1 s' vi vj (bt i j))
   (hQ:∀v s',items[argBest bt (items.size-1)]?=some v->Kept s s'->Q v s'):wpAny .(110) A (call (.builtin "min") [.ref l]) Q E s:=by
 have hname:(toString "min" ++ toString ".loop" : String) = "min.loop":=by decide
 have hlt:l<s.heap.objs.size:=by obtain⟨_,e,_⟩:=hl; exact HY e
 refine call_function_tree F.kind_min F.plain_min F.entry_min (F.args_min1 _) ?_;show wpAny _ A.in1 (LY "min" ["key","default"] 0 ⟨[],[]⟩ >>= _) _ _ s;refine AC (NP (show LY "min" ["key","default"] 0 ⟨[],[]⟩=pure [none,none] from rfl) ?_);refine AC (Fk ?_);refine AC (wpAny_pyIter_list hl ?_);refine AC (GM ?_);rw[hname]
 have n1:s.heap.get? s.heap.objs.size=none:=by
   cases e:s.heap.get? s.heap.objs.size with
   | none=>rfl
   | some o=>exact absurd (HY e) .(11)
 have n2:s.heap.get? (s.heap.objs.size+1)=none:=by
   cases e:s.heap.get? (s.heap.objs.size+1) with
   | none=>rfl
   | some o=>exact absurd (HY e) (MF.mpr .(16))
 refine Fk ⟨NN Kg _,wB (s0:=s) (items:=items) (l:=l) (bt:=bt) hh (IL hlt) ?_ ?_ n1 ?_ hn hcmp (λv s' e k=>?_) ⟨?_,?_⟩ ⟨_,_,rfl,λb o e=>?_⟩ (Ib _ rfl)⟩
 . rw[JC]; exact Je (IL (KZ hlt))
 . rw[JC]; exact LP _
 . rw[JC]; exact n2
 . exact hQ v s' e k
 . exact⟨_,pq _ (Ib _ rfl),rfl,rfl⟩
 . exact(hl.push _).push _
 . exact pq _ (pq _ e)
end
end Lc
namespace Hy
open PySem PySem.Spec PyProof.Rows L2
open Ev (D Den aw aR eqD cu)
section
variable {X:Cx}{k:Nat}{xs:List D}
def wX (hc:X.calm=true)(hu:X.A.units+70<cLine):fH X (.builtin "min") (λvs H Q=>∃p G xs bt,vs=[.ref p]/\ao G H/\Den X.K G (.ref p) (.lst xs)/\0<xs.length/\(∀z∈xs,cu z)/\(∀i j (hi:i<xs.length) (hj:j<xs.length),j<i->Lc.Cm2 xs[i] xs[j] (bt i j))/\∀v,Den X.K G v (xs.getD (argBest bt (xs.length-1)) .non)->Q v H):=by
 intro pins s σ H vs us Q I r ⟨p,G,xs,bt,e0,sg,dx,h0,ok,cm,q⟩;subst e0;obtain⟨u,rfl,ru⟩:=vals1 r;cases (show u=IT _ from ru);cases dx with
 | @lst _ ws _ hl rl=>
   obtain⟨its,rv,pl,hz⟩:=I.list (aR sg hl);have l1:=rl.length;have l2:=rv.length;have sz:its.toArray.size=xs.length:=by rw[Ic]; omega
   have i1:∀A:GT,A.in1.units=A.units+1:=λ_=>rfl
   have at_:∀i v,its.toArray[i]?=some v->∃(h:i<xs.length) (a:V),Den X.K G a xs[i]/\RelV a v:=λi v e=>by
     have hi:i<xs.length:=(by rw[<- sz]; exact(Array.getElem?_eq_some_iff.mp e).1);obtain⟨a,b,e1,da,ra⟩:=Lc.fQ rl rv (ph hi);rw[List.getElem?_toArray,e1]at e;cases e;exact⟨hi,a,da,ra⟩
   refine Lc.x6 (bt:=bt) (I.ok.hd hc) pl.isList (by rw[sz]; exact h0) (λi j vi vj s' hij ei ej hk=>?_) λv s' e hk=>?_
   . obtain⟨hi,a,da,ra⟩:=at_ i vi ei;obtain⟨hj,a',da',ra'⟩:=at_ j vj ej;obtain⟨h',t',rfl,kp⟩:=hk;have I':=I.kept (h':=h') (t':=t') kp;have o1:=ok _ (JR hi);have o2:=ok _ (JR hj);exact Lc.Ho I' sg (cm i j hi hj hij) da ra da' ra' o1.1 o2.1 (by rw[i1]; have:=o1.2; omega) (by rw[i1]; have:=o2.2; omega)
   . obtain⟨h',t',rfl,kp⟩:=hk;rw[sz]at e;obtain⟨hi,a,da,ra⟩:=at_ _ v e;exact⟨a,H,I.kept kp,ra,q a (by simpa[hi]using da)⟩
def C9 (B:Bk X k)(bt:Nat->Nat->Bool)(h0:0<xs.length)(ok:∀z∈xs,cu z)(cm:∀i j (hi:i<xs.length) (hj:j<xs.length),j<i->Lc.Cm2 xs[i] xs[j] (bt i j)):gx X (.builtin "min") [.lst xs] (.d (xs.getD (argBest bt (xs.length-1)) .non)):=
 ⟨_,wX B.calm (by have:=B.room.un; omega),λM vs H Q _ d q=>by
   cases d with
   | cons d r=>
     cases r;cases d with
     | lst h r=>exact⟨_,_,xs,bt,rfl,aT,.lst h r,h0,ok,cm,λv dv=>q v H [] .(102) fu (jw dv)⟩⟩
end
end Hy
namespace K33
open PySem PySem.Spec PyProof.Rows L2 Hy
open Ev (D Den aw aI aK)
noncomputable def ltI:List Int->List Int->Bool
 | [],[]=>false
 | [],_::_=>true
 | _::_,[]=>false
 | x::xs,y::ys=>if x<y then true else if y<x then false else ltI xs ys
theorem kY:∀xs,ltI xs xs=false
 | []=>rfl
 | x::xs=>by rw[ltI,if_neg .(0),if_neg .(0),kY xs]
theorem ot:∀{xs ys zs:List Int},ltI xs ys=true->ltI ys zs=true->ltI xs zs=true
 | [],[],_,h,_=>nomatch h
 | [],_::_,[],_,h=>nomatch h
 | [],_::_,_::_,_,_=>rfl
 | _::_,[],_,h,_=>nomatch h
 | _::_,_::_,[],_,h=>nomatch h
 | x::xs,y::ys,z::zs,h1,h2=>by
   rw[ltI]at h1 h2 ⊢;by_cases a:x<y
   . by_cases b:y<z
     . rw[if_pos .(0)]
     . rw[if_neg b]at h2;by_cases c:z<y
       . rw[if_pos c]at h2; cases h2
       . rw[if_pos .(0)]
   . rw[if_neg a]at h1;by_cases b:y<x
     . rw[if_pos b]at h1; cases h1
     . rw[if_neg b]at h1;by_cases c:y<z
       . rw[if_pos .(0)]
       . rw[if_neg c]at h2;by_cases d:z<y
         . rw[if_pos d]at h2; cases h2
         . rw[if_neg d]at h2;rw[if_neg .(0),if_neg .(0)];exact ot h1 h2
theorem gj:∀{k:Nat} {xs ys:List Int} {x y:Int},xs[k]?=some x->ys[k]?=some y->x≠y->(∀m,m<k->xs[m]?=ys[m]?)->ltI xs ys=decide (x<y)
 | 0,x::xs,y::ys,_,_,h1,h2,h,_=>by
   cases h1;cases h2;rw[ltI];by_cases a:x<y
   . rw[if_pos a,decide_eq_true a]
   . rw[if_neg a,if_pos .(0),decide_eq_false a]
 | k+1,x::xs,y::ys,_,_,h1,h2,h,he=>by have e:=he 0 .(0);simp only[List.getElem?_cons_zero,La]at e;subst e;rw[ltI,if_neg .(0),if_neg .(0)];exact gj (k:=k) h1 h2 h λm hm=>by simpa using he (m+1) .(0)
 | 0,[],_,_,_,h1,_,_,_=>nomatch h1
 | _,_::_,[],_,_,_,h2,_,_=>by simp at h2
 | _+1,[],_,_,_,h1,_,_,_=>nomatch h1
theorem kZ:∀{xs ys:List Int},xs.length=ys.length->xs≠ys->∃(k:Nat) (x y:Int),xs[k]?=some x/\ys[k]?=some y/\x≠y/\∀m:Nat,m<k->xs[m]?=ys[m]?
 | [],[],_,h=>absurd rfl h
 | [],_::_,h,_=>by simp at h
 | _::_,[],h,_=>by simp at h
 | x::xs,y::ys,hl,h=>by
   by_cases e:x=y
   . subst e;obtain⟨k,a,b,h1,h2,h3,h4⟩:=kZ (xs:=xs) (ys:=ys) (by simpa using hl) λz=>h (by rw[z]);refine⟨k+1,a,b,by simpa using h1,by simpa using h2,h3,λm hm=>?_⟩;cases m with
     | zero=>rfl
     | succ m=>simpa using h4 m .(0)
   . exact⟨0,x,y,rfl,rfl,e,λm hm=>absurd hm .(6)⟩
def jb (zs:List Int):ltI (zs++xs) (zs++ys)=ltI xs ys:=by
 induction zs with
 | nil=>rfl
 | cons z zs ih=>rw[Jn,Jn,ltI,if_neg .(0),if_neg .(0),ih]
theorem rM {α:Type}{lt:α->α->Bool}(irr:∀x,lt x x=false)(tr:∀{x y z},lt x y=true->lt y z=true->lt x z=true){L:Nat->α}:∀(j i:Nat),i<=j->lt (L i) (L (argBest (λa b=>lt (L a) (L b)) j))=false
 | 0,i,hi=>by rw[show i=0 by omega]; exact irr _
 | j+1,i,hi=>by
   have ih:=rM irr tr (L:=L) j;rw[argBest];by_cases c:lt (L (j+1)) (L (argBest (λa b=>lt (L a) (L b)) j))=true
   . rw[if_pos c];by_cases e:i=j+1
     . rw[e]; exact irr _
     . cases d:lt (L i) (L (j+1)) with
       | false=>rfl
       | true=>have:=ih i .(0);rw[tr d c]at this;cases this
   . rw[if_neg c];by_cases e:i=j+1
     . rw[e]; simpa using c
     . exact ih i .(0)
noncomputable def kcd (p:List Int×List Int):List Int:=(p.1.length:Int)::(p.1++p.2)
noncomputable def ltP (p q:List Int×List Int):Bool:=ltI (kcd p) (kcd q)
noncomputable def clz (n:Nat)(S:Nat):List Int:=(cols n S).map My
noncomputable def ngL (R:List .(123))(n:Nat)(ls:List Int)(kv:List (Int×Int)):List .(128):=(kv.filter λq=>decide (q.2<0)).map λq=>(ls,clz n q.1.toNat)
noncomputable def ngs (R:List .(123))(n:Nat)(ks:List .(123)):List .(128):=ks.flatMap λls=>ngL R n ls (bY n (lnR R ls))
def kQ (ok:Rw m n b R):p∈ngs R n (.(112).map (·.1))↔(p∈kys m n (min m n)/\vD R p<0):=by
 have m7:=ok.m1.2;have n7:=ok.n1.2;have f1:=Bool.and_eq_true_iff.mp (EW n .(0) m .(0));have f2:=Bool.and_eq_true_iff.mp (Eu n .(0));constructor
 . intro h;obtain⟨ls,hls,h⟩:=Jv.mp h;have hls:=ja.mp hls;unfold ngL at h;obtain⟨q,hq,rfl⟩:=HV.mp h;obtain⟨hq,hn⟩:=JL.mp hq;have hn:=of_decide_eq_true hn;have hP:=Jx.mp f1.1 ls ((oV R n m ls).mp hls);rw[IS]at hP;have hc:ls∈chs m ls.length:=by simpa using hP.1
   have hl:=of_decide_eq_true hP.2;have RIk:=fN n (lnR R ls);have lnl:(lnR R ls).length=ls.length:=by unfold lnR; rw[bp]
   rw[lnl]at RIk;obtain⟨S,e1,e2,e3⟩:=RIk.key q.1 (HV.mpr ⟨q,hq,rfl⟩);have hg:=oR RIk.nd hq;have hv:=(RIk.all S e2 e3).2;unfold gv at hv;rw[<- e1,hg,LI]at hv;have hcc:(cols n S).map My∈chs n ls.length:=by have:=Jx.mp f2.1 S (Iq.mpr e2);rw[e3]at this;simpa using this
   have et:((cols n S).map My).map Kt=cols n S:=by rw[IC];exact(ID λx _=>rfl).trans (List.map_id _)
   have hd:=kP R ls.length ls ((cols n S).map My) rfl (by rw[bp,e3]);rw[et,<- hv]at hd;have e:=yh hd;have eS:q.1.toNat=S:=by rw[e1]; exact HW S
   unfold clz;rw[eS];refine⟨?_,by show dtm R ls.length ls _<0; rw[e]; exact hn⟩;cases hl0:ls.length with
   | zero=>rw[hl0]at e;rw[dtm]at e;omega
   | succ s=>exact kX.mpr ⟨s,by omega,by rw[<- hl0]; exact hc,by rw[<- hl0]; exact hcc⟩
 . rintro⟨hp,hneg⟩;obtain⟨ls,c⟩:=p;obtain⟨s,hs,h1,h2⟩:=kX.mp hp;have l1:=(cq m _ ls h1).len;have l2:=(cq n _ c h2).len
   have hls:ls∈lks R n m:=(oV R n m ls).mpr (by
     have:=Jx.mp (Jx.mp f1.2 (s+1) (Iq.mpr .(0))) ls h1;simpa using this)
   obtain⟨S,hS,eS⟩:=Ks.mp (Jx.mp (Jx.mp f2.2 (s+1) (Iq.mpr .(0))) c h2);have eS:=of_decide_eq_true eS;have RIk:=fN n (lnR R ls);have lnl:(lnR R ls).length=ls.length:=by unfold lnR; rw[bp]
   rw[lnl,l1]at RIk;obtain⟨a1,a2⟩:=RIk.all S (Iq.mp hS) (by rw[eS,bp,l2]);have hd:=kP R (s+1) ls c l1 l2;rw[<- eS,<- a2]at hd;unfold gv at hd;have e:=yh hd;have hneg:dtm R ls.length ls c<0:=hneg;rw[l1,e]at hneg;cases hg:bS (bY n (lnR R ls)) (S:Int) with
   | none=>exact absurd hg a1
   | some v=>
     rw[hg,LI]at hneg;unfold bS at hg;obtain⟨q,h3,h4⟩:=KP.mp hg;have hq:=Kq h3;have hk:q.1=(S:Int):=(by simpa using List.find?_some h3);refine Jv.mpr ⟨ls,ja.mpr hls,?_⟩;unfold ngL;refine HV.mpr ⟨q,JL.mpr ⟨hq,decide_eq_true (by rw[h4]; exact hneg)⟩,?_⟩;rw[hk,HW];unfold clz;rw[eS,IC];congr 1;refine(ID λx hx=>?_).trans (List.map_id _);obtain⟨i,hi,ei⟩:=Kx hx;have h0:=((cq n _ c h2).at_ i .(0)).1;rw[show c.getD i 0=x by rw[<- ei]; simp[hi]]at h0;exact Kc h0
def vE:∀n,n<8->∀t,t<8->(chs n t).Pairwise λa b=>ltI a b=true:=by decide +kernel
theorem kO {α β:Type}{r:β->β->Prop}{f:α->List β}:∀{xs:List α},(∀x∈xs,(f x).Pairwise r)->(xs.Pairwise λa b=>∀y∈f a,∀z∈f b,r y z)->(xs.flatMap f).Pairwise r
 | [],_,_=>M6
 | x::xs,h,p=>by rw[List.flatMap_cons];obtain⟨p1,p2⟩:=List.pairwise_cons.mp p;refine List.pairwise_append.mpr ⟨h x .(5),kO (λy hy=>h y (Et _ hy)) p2,λy hy z hz=>?_⟩;obtain⟨a,ha,hz⟩:=Jv.mp hz;exact p1 a ha y hy z hz
def Bm (hm:m<=7)(hn:n<=7)(hk:k<=7):(kys m n k).Pairwise λp q=>ltP p q=true:=by
 unfold kys;refine kO (λt ht=>?_) ?_
 . have ht:t<k:=Iq.mp ht;refine kO (λls hls=>?_) ((vE m .(0) (t+1) .(0)).imp_of_mem λ{a b} ha hb h y hy z hz=>?_)
   . unfold ky1;refine Mz.mpr ((vE n .(0) (t+1) .(0)).imp λ{a b} h=>?_);show ltI ([(ls.length:Int)]++(ls++a)) ([(ls.length:Int)]++(ls++b))=true;rw[jb,jb];exact h
   . unfold ky1 at hy hz;obtain⟨c,_,rfl⟩:=HV.mp hy;obtain⟨c',_,rfl⟩:=HV.mp hz;have la:=(cq m _ a ha).len;have lb:=(cq m _ b hb).len;have hab:a≠b:=λz=>by rw[z,kY]at h; cases h
     obtain⟨i,x,y,h1,h2,h3,h4⟩:=kZ (by rw[la,lb]) hab;have hl:=gj h1 h2 h3 h4;rw[h]at hl;have il:i<a.length:=(tf.mp h1).1;unfold ltP kcd;show ltI ((a.length:Int)::(a++c)) ((b.length:Int)::(b++c'))=true;rw[la,lb];show ltI ([((t+1:Nat):Int)]++(a++c)) ([((t+1:Nat):Int)]++(b++c'))=true;rw[jb]
     rw[gj (k:=i) (x:=x) (y:=y) (by rw[HX il]; exact h1) (by rw[HX .(0)]; exact h2) h3 λj hj=>by
       rw[HX .(0),HX .(0)];exact h4 j hj]
     exact hl.symm
 . refine(List.pairwise_lt_range).imp_of_mem λ{s t} hs ht hst y hy z hz=>?_;obtain⟨a,ha,hy⟩:=Jv.mp hy;obtain⟨b,hb,hz⟩:=Jv.mp hz;unfold ky1 at hy hz;obtain⟨c,_,rfl⟩:=HV.mp hy;obtain⟨c',_,rfl⟩:=HV.mp hz;have la:=(cq m _ a ha).len;have lb:=(cq m _ b hb).len;unfold ltP kcd;show ltI ((a.length:Int)::(a++c)) ((b.length:Int)::(b++c'))=true;rw[la,lb,ltI,if_pos .(0)]
def wV [DecidableEq κ](ks:List κ)(h:ks.Nodup):(mkM v ks).map (·.1)=ks:=by
 generalize hn:ks.length=l;induction l generalizing ks with
 | zero=>rw[KN.mp hn]; rfl
 | succ l ih=>
   have ne:ks≠[]:=λz=>by rw[z]at hn; cases hn
   have e:=MR ne;have lk:ks.dropLast.length=l:=by rw[List.length_dropLast]; omega
   have nd:(ks.dropLast++[ks.getLast ne]).Nodup:=by rw[e]; exact h
   obtain⟨n1,_,n3⟩:=Jj.mp nd;have ih':=ih ks.dropLast n1 lk;rw[<- e,gX]
   have no:getM (mkM v ks.dropLast) (ks.getLast ne)=none:=by
     cases g:getM (mkM v ks.dropLast) (ks.getLast ne) with
     | none=>rfl
     | some x=>have:=ja.mp (HV.mpr ⟨_,lO g,rfl⟩);exact absurd rfl (n3 _ this _ (gV.mpr rfl))
   unfold er;rw[no,if_neg .(4),Ia,ih'];rfl
def yG (ok:Rw m n b R)(hp:p∈ngs R n (.(112).map (·.1)))(hm:∀q∈ngs R n (.(112).map (·.1)),ltP q p=false):fuO R m n 0=some p:=by
 have m7:=ok.m1.2;have n7:=ok.n1.2;have srt:=Bm (m:=m) (n:=n) (k:=min m n) m7 n7 .(0);have nd:(kys m n (min m n)).Nodup:=srt.imp λ{a b} h z=>by rw[z]at h; unfold ltP at h; rw[kY]at h; cases h
 obtain⟨p1,p2⟩:=(kQ ok).mp hp;unfold fuO fdM;rw[wV _ nd];cases hf:(kys m n (min m n)).find? (λp=>decide (vD R p<0)) with
 | none=>have:=List.find?_eq_none.mp hf p p1;simp[p2]at this
 | some q=>
   obtain⟨h1,as,bs,h2,h3⟩:=List.find?_eq_some_iff_append.mp hf;have h1:=of_decide_eq_true h1;have hq:q∈ngs R n (.(112).map (·.1)):=(kQ ok).mpr ⟨by rw[h2]; simp,h1⟩;rw[h2]at p1 srt;rcases vp.mp p1 with z | z
   . have:=h3 p z;simp[p2]at this
   . rcases HZ.mp z with z | z
     . rw[z]
     . have:=(List.pairwise_cons.mp (List.pairwise_append.mp srt).2.1).1 p z;rw[hm q hq]at this;cases this
def Er (ok:Rw m n b R)(h:ngs R n (.(112).map (·.1))=[]):fuO R m n 0=none:=by
 rw[vn];intro p hp;rcases Int.lt_or_le (vD R p) 0 with z | z
 . have:=(kQ ok).mpr ⟨hp,z⟩;rw[h]at this;cases this
 . exact z
def An [DecidableEq κ]{m:List (κ×D)}(h:(m.map (·.1)).Nodup):((er m k x).map (·.1)).Nodup:=by
 unfold er;split
 . rw[IC];have e:((λp:κ×D=>p.1)∘λy=>if y.1=k then (y.1,x) else y)=λp=>p.1:=by funext y;simp only[Kz];split <;> rfl
   rw[e];exact h
 . rename_i g;rw[Ia];refine Jj.mpr ⟨h,by simp,λa ha b hb=>?_⟩;intro e;subst e;simp only[IJ,L3,gV]at hb;subst hb;obtain⟨p,hp,e⟩:=HV.mp ha;apply g;unfold getM;rw[Option.isSome_map,List.find?_isSome];exact⟨p,hp,by simpa using e⟩
def CY [DecidableEq κ](ks:List κ):((mkM v ks).map (·.1)).Nodup:=by
 unfold mkM
 have:∀(ks:List κ) (m:List (κ×D)),(m.map (·.1)).Nodup->((ks.foldl (λm k=>er m k (v k)) m).map (·.1)).Nodup:=by
   intro ks;induction ks with
   | nil=>exact λm h=>h
   | cons k ks ih=>exact λm h=>ih _ (An h)
 exact this ks [] Kd
def y4 (h1:S<2^n)(h2:S'<2^n)(h:cols n S=cols n S'):S=S':=by
 refine K8 λi=>?_;by_cases hi:i<n
 . have e:∀S,S.testBit i=true↔i∈cols n S:=λS=>by unfold cols; simp[hi]
   rw[J7,e,e,h]
 . rw[LS (Ih h1 (Ir .(2) .(0))),LS (Ih h2 (Ir .(2) .(0)))]
def yu (h:ks.Nodup):(ngs R n ks).Nodup:=by
 unfold ngs;refine kO (r:=(·≠·)) (λls _=>?_) (h.imp λ{a b} hab y hy z hz e=>?_)
 . unfold ngL;have RIk:=fN n (lnR R ls);refine Mz.mpr ((Mz.mp RIk.nd).filter _ |>.imp_of_mem λ{a b} ha hb hab e=>?_);obtain⟨S,e1,e2,_⟩:=RIk.key a.1 (HV.mpr ⟨a,(JL.mp ha).1,rfl⟩);obtain⟨S',e1',e2',_⟩:=RIk.key b.1 (HV.mpr ⟨b,(JL.mp hb).1,rfl⟩);injection e with _ e;unfold clz at e;rw[e1,e1',HW,HW]at e;have et:∀l:List Nat,(l.map My).map Kt=l:=λl=>by rw[IC];exact(ID λx _=>rfl).trans (List.map_id _)
   have e:=congrArg (Nl Kt) e;rw[et,et]at e;rw[e1,e1',y4 e2 e2' e]at hab;exact hab rfl
 . unfold ngL at hy hz;obtain⟨_,_,rfl⟩:=HV.mp hy;obtain⟨_,_,rfl⟩:=HV.mp hz;injection e with e _;exact hab e
noncomputable def trD (p:List Int×List Int):D:=.tup [.int (p.1.length:Nat),.lst (p.1.map .int),.lst (p.2.map .int)]
theorem jt:∀{xs ys:List Int},Ev.gk (xs.map D.int) (ys.map D.int)=decide (xs=ys)
 | [],[]=>by simp[Ev.gk]
 | [],_::_=>by simp[Ev.gk]
 | _::_,[]=>by simp[Ev.gk]
 | x::xs,y::ys=>by
   rw[IJ,IJ,Ev.gk,jt,Ev.eqD];by_cases h:x=y
   . simp[h]
   . simp[h]
def vT (hl:xs.length=ys.length)(h:xs≠ys):Lc.Cm2 (.lst (xs.map .int)) (.lst (ys.map .int)) (ltI xs ys):=by
 obtain⟨k,x,y,h1,h2,h3,h4⟩:=kZ hl h;rw[gj h1 h2 h3 h4];refine .lst (j:=k) (x:=.int x) (y:=.int y) (by rw[Iy,h1]; rfl) (by rw[Iy,h2]; rfl) (λm a b hm ha hb=>?_) (by simp[Ev.eqD,h3]) .int;rw[Iy]at ha hb;rw[h4 m hm]at ha;cases e:ys[m]? with
 | none=>rw[e]at ha; cases ha
 | some z=>rw[e]at ha hb;cases ha;cases hb;simp[Ev.eqD]
def EM (hp:p.1.length=p.2.length)(hq:q.1.length=q.2.length)(h:p≠q):Lc.Cm2 (trD p) (trD q) (ltP p q):=by
 obtain⟨a,c⟩:=p;obtain⟨a',c'⟩:=q;simp only at hp hq;unfold trD ltP kcd;simp only;by_cases hl:a.length=a'.length
 . have e0:∀(x y:D),[D.int (a.length:Nat),.lst (a.map .int),.lst (c.map .int)][0]?=some x->[D.int (a'.length:Nat),.lst (a'.map .int),.lst (c'.map .int)][0]?=some y->Ev.eqD x y=true:=λx y h1 h2=>by cases h1;cases h2;simp[Ev.eqD,hl]
   rw[hl];show Lc.Cm2 _ _ (ltI ([(a'.length:Int)]++(a++c)) ([(a'.length:Int)]++(a'++c')));rw[jb];by_cases ha:a=a'
   . subst ha;have hc:c≠c':=λz=>h (by rw[z]);rw[jb];refine .tup (j:=2) rfl rfl (λm x y hm h1 h2=>?_) ?_ (vT .(0) hc)
     . rcases(by omega:m=0\/m=1) with rfl | rfl
       . cases h1; cases h2; simp[Ev.eqD]
       . cases h1; cases h2; rw[Ev.eqD,jt]; simp
     . rw[Ev.eqD,jt]; simp[hc]
   . have hlt:ltI (a++c) (a'++c')=ltI a a':=by obtain⟨k,x,y,h1,h2,h3,h4⟩:=kZ hl ha;have k1:k<a.length:=(tf.mp h1).1;rw[gj h1 h2 h3 h4];exact gj (k:=k) (by rw[HX k1]; exact h1) (by rw[HX .(0)]; exact h2) h3 λm hm=>by rw[HX .(0),HX .(0)];exact h4 m hm
     rw[hlt];refine .tup (j:=1) rfl rfl (λm x y hm h1 h2=>?_) ?_ (vT hl ha)
     . obtain rfl:m=0:=by omega
       cases h1; cases h2; simp[Ev.eqD]
     . rw[Ev.eqD,jt]; simp[ha]
 . have:ltI ((a.length:Int)::(a++c)) ((a'.length:Int)::(a'++c'))=decide ((a.length:Int)<(a'.length:Int)):=gj (k:=0) rfl rfl .(0) λm hm=>absurd hm .(6);rw[this];exact .tup (j:=0) rfl rfl (λm x y hm=>absurd hm .(6)) (by simp[Ev.eqD]; omega) .int
theorem sX:∀r:List Int,Ev.bR (r.map D.int)=true/\Ev.b6 (r.map D.int)=0
 | []=>by simp[Ev.bR,Ev.b6]
 | x::r=>by obtain⟨h1,h2⟩:=sX r;rw[IJ,Ev.bR,Ev.b6,Ev.cln,Ev.dep,h1,h2];exact⟨rfl,rfl⟩
def sT (p:List Int×List Int):Ev.cln (trD p)=true/\Ev.dep (trD p)<=2:=by obtain⟨h1,h2⟩:=sX p.1;obtain⟨h3,h4⟩:=sX p.2;unfold trD;simp[Ev.cln,Ev.bR,Ev.dep,Ev.b6,h1,h2,h3,h4]
def FR (p:List Int×List Int):Ev.cu (trD p):=⟨(sT p).1,by have:=(sT p).2; omega⟩
theorem vP:∀L:List .(128),Ev.bR (L.map trD)=true/\Ev.b6 (L.map trD)<=2
 | []=>by simp[Ev.bR,Ev.b6]
 | p::L=>by obtain⟨h1,h2⟩:=vP L;have h3:=sT p;rw[IJ,Ev.bR,Ev.b6,h1,h3.1];exact⟨rfl,by have:=h3.2; omega⟩
def Du (L:List .(128)):Ev.cu (.lst (L.map trD)):=by obtain⟨h1,h2⟩:=vP L;unfold Ev.cu;rw[Ev.cln,Ev.dep,h1];exact⟨rfl,by omega⟩
def F4 (h:PT X c (dT X.K τ v))(e:v=w):PT X c (dT X.K τ w):=e▸h
def qG (R:List .(123))(n:Nat)(ks:List .(123))(ls:List Int):ngs R n (ks++[ls])=ngs R n ks++ngL R n ls (bY n (lnR R ls)):=by unfold ngs; rw[Ky]; simp
def yY (R:List .(123))(n:Nat)(ls:List Int)(kv:List (Int×Int))(q:Int×Int):ngL R n ls (kv++[q])=ngL R n ls kv++(if q.2<0 then [(ls,clz n q.1.toNat)] else []):=by
 unfold ngL;rw[JD,Ia];by_cases h:q.2<0
 . simp[h]
 . simp[h]
def HG {xs:List D}(h:xs.length=n):gx X (.builtin "len") [.tup xs] (.d (.int n)):=h▸fY
theorem Cb {α:Type}[DecidableEq α]:∀{l l':List α},l.Nodup->(∀x∈l,x∈l')->l.length<=l'.length
 | [],_,_,_=>Im _
 | x::l,l',h,hs=>by obtain⟨h1,h2⟩:=Jb.mp h;have hx:=hs x .(5);have:=Cb (l:=l) (l':=l'.erase x) h2 λy hy=>(List.mem_erase_of_ne (λz:y=x=>h1 (z▸hy))).mpr (hs y (Et _ hy));rw[List.length_erase_of_mem hx]at this;have:=List.length_pos_of_mem hx;rw[Ja];omega
def zd (h:ks.take (i+1)=ks.take i++[ls]):(ngs R n (ks.take i)++ngL R n ls ((bY n (lnR R ls)).take t)).length<=(ngs R n ks).length:=by
 have e:(ngs R n ks).length=(ngs R n (ks.take (i+1))).length+(ngs R n (ks.drop (i+1))).length:=by rw[<- rp];unfold ngs;rw[<- Ky,L1]
 have l1:(ngL R n ls ((bY n (lnR R ls)).take t)).length<=(ngL R n ls (bY n (lnR R ls))).length:=by unfold ngL;rw[bp,bp];exact((List.take_sublist t _).filter _).length_le
 rw[e,h,qG,rp,rp];omega
def dk (ds:List D)(r:Sl):Prop:=∃(m n d v:Nat) (M:List .(109)),ds=[tbQ M]/\Tq m n M/\(∀r∈M,∀x∈r,Qs d v x)/\v+(1+n*d)<=1400/\r=.d (fuD (fuO .(142) m n 0))
section
variable {P:FB}{w:World}{K:fw}{mg:Str->Option Value}{base:Heap}{k:Nat}{f:Addr}{fd:Gc}{qual:Str}
def j5 (F:Fun K "_law_first_below" qual (top 56) f fd)(hb:.(92))(c_l_minors:.(90) "_law_minors" (i7 P w))(c_l_rows:.(90) "_law_rows" lx):.(91) ["_law_table"] (spD K dk):=by
 refine fnD F fA hb (by rintro _ _ ⟨_,_,_,_,_,rfl,_⟩; rfl) ?_;rintro _ _ ⟨m,n,d,v,M,rfl,tq,hq,hz,rfl⟩ cdv A outer s H E b;have nd:=fA.nd;have hu:.(147).A.units+16<cLine:=IB .(7) b.room.units;have hu1:.(147).A.units+1<cLine:=by omega
 have ok:=rw_ok tq hq hz;have c7:=tq.c7;have nd1:d<=n*d:=Nat.le_mul_of_pos_left d tq.c1;have hw:=tq.at_ (i:=0) tq.r1;have m0:0<M.length:=by rw[tq.len]; exact tq.r1
 have ex:fzD (.n (.t [rP .(142),.d (.int (prZ (M.map scL)))]))=some (.tup [.lst (.(142).map dtR),.int (prZ (M.map scL))]):=by show some (D.tup [ndD (rP _),_])=_;rw[DI];rfl
 refine aM 1 nd (x_call b c_l_minors (ae (aL (bf (x_call b c_l_rows .(111) ⟨m,n,d,v,M,rfl,tq,hq,by omega,by omega,rfl⟩) ex) af (aQ (aH (i:=0) rfl))) ag) ⟨_,m,n,_,rfl,ok,rfl⟩) ?_;generalize whM M (M.map scL)=R at ok ⊢;refine aM 2 nd (ck ag) ?_;have hall:∀ls∈.(112).map (·.1),getM .(112) ls=some (.box (bxZ (bY n (lnR R ls)))):=λls h=>by obtain⟨q,hq,rfl⟩:=HV.mp h;exact eK (v:=vMn R n) (ir hq).1
 have knd:=CY (v:=vMn R n) (lks R n m);have niff:=λp=>kQ ok (p:=p);have ff:=λp=>yG ok (p:=p);have fn_:=Er ok;generalize hks:.(112).map (·.1)=ks at hall knd niff ff fn_;have em:.(112).map (λp=>kT.toD p.1)=ks.map kT.toD:=by rw[<- hks,IC]; rfl
 have fewL:(ngs R n ks).length<1000000:=by have hn:=yu (R:=R) (n:=n) knd;have:=kys_len (m:=m) (n:=n) (i:=min m n) tq.r7 c7 .(0);have:(ngs R n ks).length<=(kys m n (min m n)).length:=Cb hn λp hp=>((niff p).mp hp).1;omega
 refine cn 3 (g:=λi=>kT.toD (ks.getD i [])) (λi τ=>∃s3 s4 s5,τ=[.d (tbQ M),.d (.box (bxW kT hdT P w .(112))),.o ((ngs R n (ks.take i)).map trD),s3,s4,s5]) b nd (em▸uu (aa 1)) (cU (f:=kT.toD) (xs:=ks) []) ⟨.un,.un,.un,rfl⟩ (λi hi τ h=>?_) λτ h=>?_
 . obtain⟨s3,s4,s5,rfl⟩:=h;have hi:i<ks.length:=by simpa using hi
   have gK:=hall _ (bV (d:=[]) hi);have es:ks.take (i+1)=ks.take i++[ks.getD i []]:=take_snoc _ hi;have few:∀t,(ngs R n (ks.take i)++ngL R n (ks.getD i []) ((bY n (lnR R (ks.getD i []))).take t)).length<1000000:=λt=>IB (zd es) fewL;rw[es,qG];generalize ks.getD i []=ls at gK few;have RIk:=fN n (lnR R ls);generalize ngs R n (ks.take i)=L0 at few;generalize hkv:bY n (lnR R ls)=kv at gK RIk few;have hkk:∀t,t<kv.length->bS kv .(136).1=some .(136).2/\∃S:Nat,.(136).1=(S:Int):=λt ht=>by have hm:kv.getD t (0,0)∈kv:=ba ht;obtain⟨S,e1,_,_⟩:=RIk.key _ (HV.mpr ⟨_,hm,rfl⟩);exact⟨oR RIk.nd hm,S,e1⟩
   refine cn 4 (g:=λt=>.int .(136).1) (λt τ=>∃s4 s5,τ=[.d (tbQ M),.d (.box (bxW kT hdT P w .(112))),.o ((L0++ngL R n ls (kv.take t)).map trD),.d (kT.toD ls),s4,s5]) b nd (vQ (sZ (a:=kT) (hd:=hdT) (key:=ls) hu (aa 1) (aa 3) gK (cK _) dt)) (λt ht=>?_) ⟨s4,s5,?_⟩ (λt ht τ z=>?_) λτ z=>?_
   . have:t<kv.length:=by simpa using ht
     simp[this]
   . unfold ngL;simp
   . obtain⟨s4,s5,rfl⟩:=z;have ht:t<kv.length:=by simpa using ht
     have est:kv.take (t+1)=kv.take t++[kv.getD t (0,0)]:=take_snoc _ ht;have fewt:=few t;obtain⟨hg,S,eS⟩:=hkk t ht;rw[est,yY];generalize kv.getD t (0,0)=q at hg eS;obtain⟨q1,q2⟩:=q;simp only at eS hg;subst eS;refine gq (M:=λτ=>∃s4 s5,τ=[.d (tbQ M),.d (.box (bxW kT hdT P w .(112))),.o ((L0++(ngL R n ls (kv.take t)++if q2<0 then [(ls,clz n (S:Int).toNat)] else [])).map trD),.d (kT.toD ls),s4,s5]) (aZ (xU hu1 (sZ (a:=kT) (hd:=hdT) (key:=ls) hu (aa 1) (aa 3) gK (cK _) dt) (aa 4) hg dt) af qQ) (λh=>?_) (λh=>?_) λτ h=>aS h
     . have h:=of_decide_eq_true h;refine pe 5 nd (s:=.d (.lst ((clz n S).map .int))) (F9 0 (g:=λj=>.int (j:Nat)) (f:=λj=>.int (j:Nat)) (t:=λj=>S.testBit j) b (eX (n:=(n:Nat)) b (bo b (ae (aL (aa 0) af (aY (dR (f:=rwQ) (i:=0) [] m0))) ag) (og (by rw[bp]; exact hw))) ((by omega +splitMinMax)) ((by omega +splitMinMax))) eV (by rw[aP]; omega +splitMinMax) (λj hj s0 H0 fp=>?_) λj hj _ s0 H0 fp=>aa 0) (.inr ?_) ?_
       . refine F4 (aZ (aE (aE (aa 1) (aa 0) (CC .(0))) af Cq) af fD) ?_;rw[HW];exact Cd S j
       . rw[aP,HW];unfold clz cols;rw[IC];rfl
       refine lW 2 (x:=trD (ls,clz n S)) (bO (ae (bo b (ae (aa 3) ag) (HG (xs:=ls.map D.int) .(17))) (ae (bf (pB b (ae (aa 3) ag) pJ)) (ae (aa 5) ag)))) ?_ (aS ⟨.d (.int (S:Int)),.d (.lst ((clz n S).map .int)),?_⟩)
       . rw[bp]; exact fewt
       . have e:(L0++(ngL R n ls (kv.take t)++[(ls,clz n (S:Int).toNat)])).map trD=(L0++ngL R n ls (kv.take t)).map trD++[trD (ls,clz n S)]:=by rw[HW,<- IY,Ia (l₂:=[(ls,clz n S)])];rfl
         rw[if_pos h,e];rfl
     . have h:=of_decide_eq_false h;rw[if_neg h,Jc];exact aS ⟨_,_,rfl⟩
   . obtain⟨s4,s5,rfl⟩:=z;refine aS ⟨.d (kT.toD ls),s4,s5,?_⟩;rw[bp,Io .(3)]
 . obtain⟨s3,s4,s5,rfl⟩:=h;rw[bp,Io .(3)];have lnd:=yu (R:=R) (n:=n) knd;have lln:∀p∈ngs R n ks,p.1.length=p.2.length:=λp hp=>by obtain⟨a,c⟩:=p;obtain⟨s,_,h1,h2⟩:=kX.mp ((niff _).mp hp).1;show a.length=c.length;rw[(cq m _ a h1).len,(cq n _ c h2).len]
   generalize ngs R n ks=L at lnd lln ff fn_;refine jX 2 (x:=.lst (L.map trD)) ?_;refine eD (aZ (aa 2) (bf (ck ag)) (zg b (Du L) ⟨rfl,by decide⟩)) (λh=>?_) λh=>?_
   . cases L with
     | nil=>rw[fn_ rfl];exact aX mI rfl
     | cons p L=>simp[Ev.eqD,Ev.gk]at h
   . have h0:0<L.length:=by
       cases L with
       | nil=>simp[Ev.eqD,Ev.gk]at h
       | cons p L=>simp
     have at_:∀i (hi:i<L.length),L.getD i ([],[])=L[i]:=λi hi=>by simp[hi]
     have hmin:=C9 (X:=Xc P w K mg base ["_law_table","_law_made_here","_law_some","_law_lines","_law_mask","_law_columns"] qual (top 56) f cdv A outer s H E) (xs:=L.map trD) b (λi j=>ltP (L.getD i ([],[])) (L.getD j ([],[]))) (by rw[bp]; exact h0) (λz hz=>by
       obtain⟨p,_,rfl⟩:=HV.mp hz
       exact FR p) λi j hi hj hij=>by
         have hi:i<L.length:=(by simpa using hi);have hj:j<L.length:=(by simpa using hj);rw[JG,JG,at_ i hi,at_ j hj];exact EM (lln _ (JR hi)) (lln _ (JR hj)) λz=>by have:=(List.pairwise_iff_getElem.mp lnd) j i hj hi hij;exact this z.symm
     have hb:=rM (lt:=ltP) (λx=>kY _) (λh1 h2=>ot h1 h2) (L:=λi=>L.getD i ([],[])) (L.length-1);have hle:=Lc.pw (λi j=>ltP (L.getD i ([],[])) (L.getD j ([],[]))) (L.length-1);rw[bp]at hmin;generalize argBest (λi j=>ltP (L.getD i ([],[])) (L.getD j ([],[]))) (L.length-1)=kk at hb hle hmin;have hk:kk<L.length:=(by omega);have em:(L.map trD).getD kk .non=trD (L.getD kk ([],[])):=(by simp[hk]);rw[em]at hmin;have hfu:fuO R m n 0=some (L.getD kk ([],[])):=ff _ (ba hk) λq hq=>by obtain⟨i,hi,rfl⟩:=Kx hq;have:=hb i .(0);rw[at_ i hi]at this;exact this
     rw[hfu];generalize L.getD kk ([],[])=p at hmin;exact aX (qw (xs:=[.int (p.1.length:Nat),.lst (p.1.map .int),.lst (p.2.map .int)]) (bo b (ae (aa 2) ag) hmin) (fo af) iF (show ¬(HT.sIx 3 0 (some 1)=0/\HT.sIx 3 3 none=3) by decide)) rfl
end
noncomputable def lwP (c:Int):List Int:=nums c [3,3,3,8,10^(12:Int).toNat,10^(12:Int).toNat,4]
def vX (ds:List D)(r:Sl):Prop:=∃ns:List Int,ns.length<=63/\ds=[.lst (ns.map .int)]/\r=.d (.bl true)
section
variable {P:FB}{w:World}{K:fw}{mg:Str->Option Value}{base:Heap}{k:Nat}{f:Addr}{fd:Gc}{qual:Str}
def EN (F:Fun K "law" qual (top 62) f fd)(hb:.(92))(c_l_numbers:.(90) "_law_numbers" cG)(c_l_ladder:.(90) "_law_ladder" iI)(c_l_widened:.(90) "_law_widened" gR)(c_l_turned:.(90) "_law_turned" iO)(c_l_first_below:.(90) "_law_first_below" dk)(c_taken_apart:.(90) "taken_apart" cY)(c_l_ladders_table:.(90) "_law_ladders_table" bX)(c_l_bent:.(90) "_law_bent" mK)(c_l_cell:.(90) "_law_cell" l7)(c_l_makes:.(90) "_law_makes" ic):.(91) ["_law_script"] (spD K vX):=by
 refine fnD F xS hb (by rintro _ _ ⟨_,_,rfl,_⟩; rfl) ?_;rintro _ _ ⟨ns,hn,rfl,rfl⟩ cdv A' outer s H E b;have nd:=xS.nd;have ex:∃ms:List Int,ms.length<=64/\[D.int (ns.getD 1 0)]++Hy.cutD (ns.map D.int) (some 2) (some 5)=ms.map D.int:=by refine⟨ns.getD 1 0::((ns.take 5).drop 2),by simp; omega,?_⟩;rw[show (2:Int)=((2:Nat):Int) from rfl,show (5:Int)=((5:Nat):Int) from rfl,Hy.Bn,<- KL,<- Nk];rfl
 obtain⟨ms,hms,ems⟩:=ex;have lms:[D.int (ns.getD 1 0)].length+(Hy.cutD (ns.map D.int) (some 2) (some 5)).length<1000000:=by have:=congrArg List.length ems;rw[rp,bp]at this;omega
 refine sG 1 2 (g:=λi=>.int (i:Nat)) (g':=λi=>.int (ms.getD i 0)) (λi τ=>∃s1 s2 s3 s4 s5 s6 s7 s8,τ=[.d (.lst (ns.map .int)),s1,s2,s3,s4,s5,s6,s7,s8]) b nd (zF (xs:=ms.map D.int) b (by rw[<- ems]; exact bf (qL (bf (ck (ae (x_call b c_l_cell (ae (aa 0) (ae af ag)) ⟨ns,1,rfl,rfl⟩) ag))) (bf (CW (aa 0) (fo af) (fo af))) lms))) CA ⟨_,_,_,_,_,_,_,_,rfl⟩ (λi hi τ h=>?_) λτ h=>?_
 . obtain⟨s1,s2,s3,s4,s5,s6,s7,s8,rfl⟩:=h;refine aM 3 nd (bf (x_call b c_l_numbers (ae (aE (x_call b c_l_cell (ae (aa 0) (ae af ag)) ⟨ns,0,rfl,rfl⟩) (aE af (aa 1) (bz (mkL .(2)))) bA) (ae (bf (ck (ae af (ae af (ae af (ae af (ae (aE af af (nO .(12))) (ae (aE af af (nO .(12))) (ae af ag))))))))) ag)) ⟨_,[3,3,3,8,10^(12:Int).toNat,10^(12:Int).toNat,4],rfl,by decide,λx hx=>?_,rfl⟩)) ?_
   . simp only[HZ,Jm,or_false]at hx;have d12:0<(10:Int)^(12:Int).toNat/\aK ((10:Int)^(12:Int).toNat):=⟨by decide,(show Bd 120 ((10:Int)^(12:Int).toNat) by unfold Bd; decide +kernel).aK .(2) .(2)⟩;rcases hx with rfl | rfl | rfl | rfl | rfl | rfl | rfl
     . exact oO .(2) .(2)
     . exact oO .(2) .(2)
     . exact oO .(2) .(2)
     . exact oO .(2) .(2)
     . exact d12
     . exact d12
     . exact oO .(2) .(2)
   generalize ns.getD 0 0+17*((i:Nat):Int)=c0;have ln:(lwP c0).length=7:=gQ _ _;have lt:∀i,i<7->0<=(lwP c0).getD i 0/\(lwP c0).getD i 0<[3,3,3,8,(10:Int)^(12:Int).toNat,10^(12:Int).toNat,4].getD i 0:=λi hi=>oJ (c:=c0) (bs:=[3,3,3,8,10^(12:Int).toNat,10^(12:Int).toNat,4]) .(2) (i:=i) hi;show PSs _ _ (dS K [_,_,_,.d (.lst ((lwP c0).map D.int)),_,_,_,_,_] _);generalize lwP c0=ps at ln lt ⊢;have pa:∀i:Nat,i<7->atI (ps.map D.int) (i:Int)=some (.int (ps.getD i 0)):=λi hi=>atR .(0);have l0:0<=ps.getD 0 0/\ps.getD 0 0<3:=lt 0 .(2);have l3:0<=ps.getD 3 0/\ps.getD 3 0<8:=lt 3 .(2);refine aM 4 nd (aE af (aL (aa 3) af (aY (pa 0 .(2)))) bA) ?_;obtain⟨T,hT⟩:=Jo (show 0<=1+ps.getD 0 0 by omega);rw[hT];have m1:=JX (ps.getD 1 0) (b:=(T:Int)) .(0);have m2:=Kh (ps.getD 1 0) (b:=(T:Int)) .(0);have m3:=JX (ps.getD 2 0) (b:=(T:Int)) .(0);have m4:=Kh (ps.getD 2 0) (b:=(T:Int)) .(0);obtain⟨R,hR⟩:=Jo (show 0<=1+(ps.getD 1 0).fmod (T:Int) by omega);obtain⟨C,hC⟩:=Jo (show 0<=1+(ps.getD 2 0).fmod (T:Int) by omega);obtain⟨n,hN⟩:=Jo l3.1;have ld:=HR (ms.getD i 0) (T:=T) (R:=R) (C:=C) (n:=n) .(0) .(0) .(0) .(0) .(0) .(0) .(0);refine aM 5 nd (x_call b c_l_ladder (ae (aa 2) (ae (aa 4) (ae (aE af (aE (aL (aa 3) af (aY (pa 1 .(2)))) (aa 4) (bG .(0))) bA) (ae (aE af (aE (aL (aa 3) af (aY (pa 2 .(2)))) (aa 4) (bG .(0))) bA) (ae (aL (aa 3) af (aY (pa 3 .(2)))) (ae af ag)))))) ⟨ms.getD i 0,T,R,C,n,0,by rw[hR,hC,hN]; rfl,by omega,by omega,by decide,rfl⟩) ?_;generalize (ox n).map (adS (adP (ms.getD i 0) n 0) T 0)=ss at ld ⊢;obtain⟨tq,hq,cm,_⟩:=ld.tab;obtain⟨ok,E',hw,hs,ht⟩:=ld;have cz:=cm.cz;have w0:Wd C 28 21 (mkT R C (bwd ss)):=⟨tq.row,cz⟩;have r1:=tq.r1;have r7:=tq.r7;have c1:=tq.c1;have c7:=tq.c7;obtain⟨w1,n1,n7⟩:=xQ (c:=ps.getD 4 0) w0 tq.len r1 r7;refine aM 6 nd (bf (x:=tbQ (wid (ps.getD 4 0) C (mkT R C (bwd ss)))) (x_call b c_l_widened (ae (bf (x:=tbQ (mkT R C (bwd ss))) (x_call b c_l_ladders_table (ae (aa 5) ag) ⟨E',T,R,C,ss,rfl,ok,hw,by omega,rfl⟩) (congrArg some (vG R C _))) (ae (aL (aa 3) af (aY (pa 4 .(2)))) ag)) ⟨ps.getD 4 0,C,28,21,_,rfl,w0,by rw[tq.len]; exact r1,by rw[tq.len]; exact r7,c1,c7,by decide,rfl⟩) rfl) ?_;generalize wid (ps.getD 4 0) C (mkT R C (bwd ss))=M1 at w1 n1 n7 ⊢;have w2:=w1.trQ;have l2:(trQ M1 C).length=C:=vB;obtain⟨w3,k1,k7⟩:=xQ (c:=ps.getD 5 0) w2 l2 c1 c7;refine aM 6 nd (bf (x:=tbQ (trQ (wid (ps.getD 5 0) M1.length (trQ M1 C)) M1.length)) (x_call b c_l_turned (ae (bf (x:=tbQ (wid (ps.getD 5 0) M1.length (trQ M1 C))) (x_call b c_l_widened (ae (bf (x:=tbQ (trQ M1 C)) (x_call b c_l_turned (ae (aa 6) ag) ⟨C,M1,rfl,n1,n7,c7,w1.row,rfl⟩) rfl) (ae (aL (aa 3) af (aY (pa 5 .(2)))) ag)) ⟨ps.getD 5 0,M1.length,29,21,_,rfl,w2,by rw[l2]; exact c1,by rw[l2]; exact c7,n1,n7,by decide,rfl⟩) rfl) ag) ⟨M1.length,_,rfl,k1,k7,n7,w3.row,rfl⟩) rfl) ?_;have w4:=w3.trQ;have l4:(trQ (wid (ps.getD 5 0) M1.length (trQ M1 C)) M1.length).length=M1.length:=vB;generalize wid (ps.getD 5 0) M1.length (trQ M1 C)=M2 at w3 k1 k7 w4 l4 ⊢;generalize trQ M2 M1.length=M0 at w4 l4 ⊢;generalize hRr:M1.length=R1 at *
   generalize hCc:M2.length=C1 at *
   have o0:Oq R1 C1 22 30 M0:=⟨⟨n1,n7,k1,k7,l4,w4.row⟩,w4.cz.qs⟩;refine gq (M:=λτ=>∃M,Oq R1 C1 22 30 M/\Cz 36 27 M/\τ=[.d (.lst (ns.map .int)),.d (.int (i:Nat)),.d (.int (ms.getD i 0)),.d (.lst (ps.map D.int)),.d (.int (T:Nat)),.d (mU T R C ss),.d (tbQ M),s7,s8]) (aZ (aL (aa 3) af (aY (pa 6 .(2)))) af fD) (λh=>?_) (λh=>aS ⟨M0,o0,w4.cz.mono .(2) .(2),rfl⟩) λτ h=>?_
   . exact aM 6 nd (bf (x_call b c_l_bent (ae (aa 6) (ae (aE (aa 2) af bA) ag)) ⟨_,R1,C1,22,30,M0,rfl,o0,by decide,by decide,rfl⟩) (tY _)) (aS ⟨_,Ei o0 .(2) .(2),w4.cz.Hm .(2),rfl⟩)
   obtain⟨M,om,cm',rfl⟩:=h;have nd7:C1*22<=7*22:=Iu _ k7;have s7:sz2 R1 C1<=7:=by unfold sz2; split <;> omega
   obtain⟨FT,FM⟩:=xY om .(0) cm' (Il (Az s7) .(2)) .(2);refine aM 7 nd (x_call b c_l_first_below (ae (aa 6) ag) ⟨R1,C1,22,30,M,rfl,om.t,om.q,by omega,rfl⟩) ?_;have lR:(M.map rwQ).length=R1:=by rw[bp,om.t.len]
   have em:((ox (M.map rwQ).length).map λi=>rwQ .(103))=M.map rwQ:=gm (rwQ) M [] .(17);refine aM 8 nd (s:=tkS R1 C1 (qM M) (fuO .(142) R1 C1 0)) (x_call b c_taken_apart (ae (bf (dD (cmp 0 (g:=λi=>rwQ .(103)) (f:=λi=>rwQ .(103)) b (bC (aa 6)) (cU (f:=rwQ) (xs:=M) []) (by rw[lR]; omega) λi hi s0 H0 fp=>bf (pB .(107) .(111) oW))) (congrArg (λl=>some (D.lst l)) em)) ag) FT) ?_;generalize hf:fuO .(142) R1 C1 0=o at FM ⊢;cases o with
   | none=>have FM:=FM rfl;have ef:=Ga (sz2 R1 C1) R1 C1 (apS (sz2 R1 C1) (cx R1 C1 (qM M)));refine dQ (PW.pt (oy (aZ (aa 7) mI (Ab (o:=none))) λh=>(oN (cL (cQ (x_call b c_l_makes (ae (by rw[<- ef]; exact zi (cV 8) rfl rfl) (ae (aa 6) ag)) FM)))))) rfl ?_;refine dQ (PW.pt (oy (q:=false) (aZ (aa 7) mI (pP (o:=none))) λh=>(by cases h))) rfl ?_;exact aS ⟨_,_,_,_,_,_,_,_,rfl⟩
   | some p=>refine dQ (PW.pt (oy (q:=true) (aZ (aa 7) mI (Ab (o:=some p))) λh=>(by cases h))) rfl ?_;refine dQ (PW.pt (oy (aZ (aa 7) mI (pP (o:=some p))) λh=>(oN (aZ (aa 8) (bO (ae bZ (ae (aL (aa 7) af (aQ (aH (i:=0) rfl))) (ae (aL (aa 7) af (aQ (aH (i:=1) rfl))) ag)))) (Cu b (qD _ _) (qD _ _)))))) (by rw[jy]; rfl) ?_;exact aS ⟨_,_,_,_,_,_,_,_,rfl⟩
 . obtain⟨s1,s2,s3,s4,s5,s6,s7,s8,rfl⟩:=h;exact aX AL rfl
end
end K33
namespace Hy
open PySem PySem.Spec PyProof.Rows L2
open Ev (D Den aw)
def Dfn (K:fw)(x:Str)(st:Stmt)(f:Addr):Prop:=Le K IR x=some (some (.ref f))/\(∃oc od kV dc pm an cd ct sl,K.lookup f=some ⟨oc,od,.func (Kf x x (gn st) (cZ st) (av st) .none kV dc pm an cd ct),sl⟩/\Lg K cd x=true)/\J9 K (.ref f)=true
def BdA (x:Str)(st:Stmt)(ps:List Str):Prop:=∀(kV dc pm:Value) (an:Option Addr) (cd ct:Value) (us:List Value),us.length=ps.length->bindArgs (Kf x x (gn st) (cZ st) (av st) .none kV dc pm an cd ct) ⟨us,[]⟩=pure (ps.zip us)
def nsL (K:fw):List Str->Prop
 | []=>True
 | x::r=>Le K IR x=some none/\nsL K r
section
variable {P:FB}{w:World}{K:fw}{h:Heap}{mg:Str->Option Value}{base:Heap}{x:Str}{st:Stmt}{f:Addr}{ps:List Str}{k:Nat}{Φ:List D->Sl->Prop}
def Dfn.of {oc:Value}{od an:Option Addr}{kV dc pm cd ct:Value}{sl:Array (Option Value)}(a:Le K IR x=some (some (.ref f)))(l:K.lookup f=some ⟨oc,od,.func (Kf x x (gn st) (cZ st) (av st) .none kV dc pm an cd ct),sl⟩)(c:Lg K cd x=true)(k:J9 K (.ref f)=true):Dfn K x st f:=⟨a,⟨_,_,_,_,_,_,_,_,_,l,c⟩,k⟩
theorem nsL.none (X:K.In h)(G:h.Ns IR mg):∀{l:List Str},nsL K l->∀x∈l,mg x=none
 | _::_,z,x,m=>by
   rcases HZ.mp m with rfl | m
   . exact PySem.W.mg_none_of X G z.1
   . exact nsL.none X G z.2 x m
def Dfn.fn (d:Dfn K x st f)(X:K.In h)(G:h.Ns IR mg)(b:BdA x st ps):∃fd,Fun K x x st f fd/\mg x=some (.ref f)/\J9 K (.ref f)=true/\Binds K fd ps []:=by obtain⟨a,⟨oc,od,kV,dc,pm,an,cd,ct,sl,l,c'⟩,q⟩:=d;have F:=zH l c' q;exact⟨_,F,Lz X G a,q,F.binds (b kV dc pm an cd ct)⟩
def Dfn.cal (d:Dfn K x st f)(X:K.In h)(G:h.Ns IR mg)(b:BdA x st ps)(o:∀fd,Fun K x x st f fd->a8 P w K mg base CX0 k f fd ps (spD K Φ)):.(90) x Φ:=by obtain⟨fd,F,h1,h2,h3⟩:=d.fn X G b;exact⟨f,fd,ps,o fd F,h1,h2,h3⟩
end
def bd1 {Q:List Value->Prop}(h:∀a,Q [a]):∀us:List Value,us.length=1->Q us:=λus e=>match us,e with | [a],_=>h a
def bd2 {Q:List Value->Prop}(h:∀a b,Q [a,b]):∀us:List Value,us.length=2->Q us:=λus e=>match us,e with | [a,b],_=>h a b
def bd3 {Q:List Value->Prop}(h:∀a b c,Q [a,b,c]):∀us:List Value,us.length=3->Q us:=λus e=>match us,e with | [a,b,c],_=>h a b c
def bd6 {Q:List Value->Prop}(h:∀a b c d e f,Q [a,b,c,d,e,f]):∀us:List Value,us.length=6->Q us:=λus e=>match us,e with | [a,b,c,d,f,g],_=>h a b c d f g
end Hy
namespace L2
open PySem PySem.Spec PyProof.Rows
def v5 {K:fw}{s₁:Da}{vs:List Value}{ns:List Int}
   (KX:K.In s₁.heap) (hns:s₁.heap.Ns IR mg) (hb:s₁.heap.Ns builtinsNs mb) (hbb:∀x:Str,x ≠ "__name__" -> mb x=N7 x) (hlim:s₁.heap.NoLimit) (hg:s₁.gens=#[])
   (ha:s₁.heap.get? a=some { cls:=.type "list",data:=.seq vs.toArray }) (hi:IntsAre vs ns) (hl:ns.length<=sizeLine) (hr:gC k callerA)
   (hsr:s₁.heap.NoSeer) (F:∀base:Heap,K.In base->base.Ns IR mg->base.NoSeer->a8 P w K mg base CX k fa fd [x] sp) (hbind:∀(s:Da) (u:Value),BindsTo s fd ⟨[u],[]⟩ [(x,u)])
   (hsp:∀H:Hp,CK H->SqL K H a (ns.map V.int)->sp [.ref a] H (λv _=>v=.bl true) λ_ _ _=>False)
   (hCX:∀H e s',CX [] H s₁ (λ_ _ _=>False) e s'->False) :
   O3 (model P w) callerA (.call (.ref fa) ⟨[.ref a],[]⟩) (λr s'=>r=.ok (.ret (.bool true))/\OldK s₁.heap s'.heap/\s'.os=s₁.os/\O7 s'.gens) s₁:=by
 have rv:=nC hi;have lenV:=hi.length
 have core:∀H:Hp,CK H->SqL K H a (ns.map V.int)->HOk P w H s₁.heap->(∀b,H b≠none->b=a)->(H a≠none->K.lookup a=none) ->
     O3 (model P w) callerA (.call (.ref fa) ⟨[.ref a],[]⟩) (λr s'=>r=.ok (.ret (.bool true))/\OldK s₁.heap s'.heap/\s'.os=s₁.os/\O7 s'.gens) s₁:=by
   intro H hO hS hok hA hK;have base_of:∀{b:Addr} {o:Obj},s₁.heap.get? b=some o->H b=none->(mV s₁.heap H).get? b=some o:=λe n=>yM e n
   have noA:∀{b:Addr} {o:Obj} {es:Array Oh} {ep:Nat},s₁.heap.get? b=some o->o.data=.dict es ep->H b=none:=λ{b o es ep} e d=>by
     cases q:H b with
     | none=>rfl
     | some u=>have e':b=a:=hA b (by rw[q]; simp);subst e';rw[ha]at e; cases e;have d':Data.seq vs.toArray _=Data.dict es ep:=d;cases d'
   have nsK:∀{b:Addr} {m:Str->Option Value},s₁.heap.Ns b m->(mV s₁.heap H).Ns b m:=λ{b m} ⟨o,es,ep,e,d,r⟩=>⟨o,es,ep,base_of e (noA e d),d,r⟩
   have hKb:K.In (mV s₁.heap H):=λb o e=>base_of (KX b o e) (by
     cases q:H b with
     | none=>rfl
     | some u=>
       have e':b=a:=hA b (by rw[q]; simp);subst e';rw[hK (by rw[q]; simp)]at e; cases e)
   have hSr:(mV s₁.heap H).NoSeer:={
     statics:=let ⟨mc,a,c⟩:=hsr.statics; ⟨mc,nsK a,c⟩
     mods:=let ⟨mc,a,c⟩:=hsr.mods; ⟨mc,nsK a,c⟩
     imp:=let ⟨mc,a,c⟩:=hsr.imp; ⟨mc,nsK a,c⟩
     main:=let ⟨mg,bm,ob,g0,g1,g2,g3,g4⟩:=hsr.main; ⟨mg,bm,ob,nsK g0,g1,base_of g2 (by
       cases q:H bm with
       | none=>rfl
       | some u=>
         have e':bm=a:=hA bm (by rw[q]; simp);subst e';rw[ha]at g2; cases g2;exact absurd (show LV "list" = LV "module" from g3) .(4)),g3,g4⟩ }
   have hM:Mod K mg (mV s₁.heap H):=⟨hKb,nsK hns,⟨mb,nsK hb,hbb⟩,let ⟨mc,h1,h2⟩:=hlim; ⟨mc,nsK h1,h2⟩⟩;have e0:AJ P w K mg (mV s₁.heap H) callerA [] s₁ H:=⟨rfl,hM,λb o e=>BD e,Nat.le_of_eq (wL _ _),trivial,λb hb=>absurd (show b∈([]:List Addr) from hb) .(4),hok,.of_eq hg⟩;refine codeAny_mono ((F _ hKb (nsK hns) hSr).run callerA [] s₁ H ⟨[.ref a],[]⟩ [.ref a] [.ref a] _ _ hr e0 (hbind s₁ (.ref a)) (.cons rfl .nil) (hsp H hO hS)) λr s' h=>?_;cases r with
   | error e=>exact(hCX H e s' h).elim
   | ok fl=>
     cases fl with
     | next=>exact KA h
     | brk=>exact KA h
     | cont=>exact KA h
     | ret u=>
       obtain⟨v,H',os,bare,un,hok',r',q⟩:=h;have q':v=.bl true:=q;subst q';obtain rfl:u=JI true:=r';refine⟨rfl,OldK.of_keep λb o e=>?_,os,bare⟩;cases q:H b with
       | none=>exact un.keep b o e q (by intro z; exact absurd (show b∈([]:List Addr) from z) .(4)) .(4)
       | some u=>
         rcases hO b with z | ⟨ob,xs,z⟩
         . rw[q]at z; cases z
         . have z2:=un.frzs b ob _ z;obtain⟨e1,_⟩:=hok b _ z;obtain⟨e2,_⟩:=hok' b _ z2;rw[e]at e1; cases e1;exact e2
 cases hk:K.lookup a with
 | some o=>have e:=KX a o hk;rw[ha]at e;cases e;refine core (λ_=>none) (λ_=>.inl rfl) (.inr ⟨_,vs.toArray,_,hk,rfl,rfl,rfl,by rw[Ic,lenV]; exact hl,by simpa using rv⟩) (λb u z=>by have z':(none:Option HO)=some u:=z; cases z') (λb z=>absurd rfl z) λz=>absurd rfl z
 | none=>
   refine core (λb=>if b=a then some (.frz { cls:=.type "list",data:=.seq vs.toArray } (.lst (ns.map V.int))) else none) (λb=>?_) (.inl (.inr ⟨{ cls:=.type "list",data:=.seq vs.toArray },if_pos rfl⟩)) (λb u z=>?_) (λb z=>?_) λ_=>hk
   . by_cases hb:b=a
     . exact .inr ⟨_,_,if_pos hb⟩
     . exact .inl (if_neg hb)
   . by_cases hb:b=a
     . have z':=(if_pos hb).symm.trans z;cases z';subst hb;exact⟨ha,by rw[bp]; exact hl,vs,_,rv,ha⟩
     . have z':=(if_neg hb).symm.trans z;cases z'
   . by_cases hb:b=a
     . exact hb
     . exact absurd (if_neg hb) z
def yU {l:MD}{XP:(Str->Option Value)->Heap->Prop}{YP:World->Heap->Prop}{d:DefRec}{K:Params->fw}{CX:World->CXT}{sp:World->Sp}
   (hn:l.most=some n) (hn2:n<=sizeLine) (hdf:d.params.defaults=[]) (hr:gC k callerA)
   (hY:∀(w:World) (h:Heap),YP w h->(K w.params).In h)
   (F:∀(w:World) (mg:Str->Option Value) (fa:Addr) (h:Heap),(K w.params).In h->h.Ns IR mg->mg d.name=some (.ref fa) ->
     ∃fd:Gc,(∀(s:Da) (u:Value),BindsTo s fd ⟨[u],[]⟩ [(x,u)]) /\
       ∀base:Heap,(K w.params).In base->base.Ns IR mg->base.NoSeer->a8 l.prog w (K w.params) mg base (CX w) k fa fd [x] (sp w))
   (hI:importsNone q=true) (hsp:∀(w:World) (H:Hp) (a:Addr) (ns:List Int),ns.length<=n->CK H->SqL (K w.params) H a (ns.map V.int)->sp w [.ref a] H (λv _=>v=.bl true) λ_ _ _=>False)
   (hCX:∀(w:World) (H:Hp) (s:Da) (e:Value) (s':Da),CX w [] H s (λ_ _ _=>False) e s'->False) :
   PySem.W.WalkO q loose XP YP l.row.toRowW d [] (λf vs=>PySem.call f vs):=by
 refine Att.qj hn hdf λw s₀ s₁ mg mb fa o pm cd doc a vs ns G Y ho hd hcd hmg hobj hints hlen hg=>?_;have KX:=hY w _ Y;obtain⟨fd,hb,hF⟩:=F w mg fa _ KX G.T.g hmg;exact v5 KX G.T.g G.T.b G.T.builtins G.T.nolimit hg hobj hints (Il hlen hn2) hr (G.T.seer hI) hF hb (λH hO hS=>hsp w H a ns hlen hO hS) λH e s'=>hCX w H s₁ e s'
end L2
namespace K33
open PySem PySem.Spec PyProof.Rows L2 Hy
def all_mk {l:MD}{K:fw}{h:Heap}(X:K.In h)(G:h.Ns IR mg)(hfa:mg "law" = some (.ref fa))
   (h0:Dfn K "_law_numbers" (top 44) f0) (h1:Dfn K "_law_divisor" (top 45) f1) (h2:Dfn K "_law_made" (top 46) f2) (h3:Dfn K "_law_ten" (top 42) f3) (h4:Dfn K "_law_weight" (top 51) f4) (h5:Dfn K "_law_ladder" (top 52) f5) (h6:Dfn K "_law_plus" (top 53) f6) (h7:Dfn K "_law_widened" (top 60) f7) (h8:Dfn K "_law_turned" (top 61) f8) (h9:Dfn K "_law_minors" (top 50) f9) (h10:Dfn K "_law_rows" (top 49) f10) (h11:Dfn K "_law_first_below" (top 56) f11) (h12:Dfn K "is_short_list" (top 17) f12) (h13:Dfn K "is_whole" (top 7) f13) (h14:Dfn K "common_divisor" (top 9) f14) (h15:Dfn K "is_fraction" (top 8) f15) (h16:Dfn K "is_row" (top 18) f16) (h17:Dfn K "is_table" (top 19) f17) (h18:Dfn K "look_table" (top 20) f18) (h19:Dfn K "choices_of" (top 21) f19) (h20:Dfn K "along_last_row" (top 31) f20) (h21:Dfn K "one_row_more" (top 30) f21) (h22:Dfn K "all_determinants" (top 29) f22) (h23:Dfn K "whole_row" (top 26) f23) (h24:Dfn K "whole_rows" (top 27) f24) (h25:Dfn K "scale_of" (top 25) f25) (h26:Dfn K "first_under" (top 28) f26) (h27:Dfn K "column_of" (top 23) f27) (h28:Dfn K "columns_of" (top 22) f28) (h29:Dfn K "lift_row" (top 39) f29) (h30:Dfn K "product_of" (top 13) f30) (h31:Dfn K "in_lowest_terms" (top 10) f31) (h32:Dfn K "quotient_of" (top 14) f32) (h33:Dfn K "sum_of" (top 11) f33) (h34:Dfn K "rest_of" (top 12) f34) (h35:Dfn K "take_off" (top 40) f35) (h36:Dfn K "clear_column" (top 38) f36) (h37:Dfn K "turned_step" (top 33) f37) (h38:Dfn K "steps_of" (top 37) f38) (h39:Dfn K "squared" (top 36) f39) (h40:Dfn K "taken_apart" (top 35) f40) (h41:Dfn K "_law_times" (top 54) f41) (h42:Dfn K "_law_ladders_table" (top 55) f42) (h43:Dfn K "_law_number" (top 47) f43) (h44:Dfn K "_law_bent" (top 59) f44) (h45:Dfn K "_law_cell" (top 43) f45) (h46:Dfn K "_law_whole" (top 48) f46) (h47:Dfn K "_law_is_step" (top 57) f47) (h48:Dfn K "_law_makes" (top 58) f48) (h49:Dfn K "law" (top 62) f49) (hz:nsL K aB) (z0:Le K IR "MOST" = some (some (.int 7 t0))) (zb:Le K IR "NOUGHT" = some (some (.ref ab))) (zl:K.lookup ab=some ⟨.type "tuple",db,.seq #[.int 0 tb1,.int 1 tb2] nb,sb⟩) (zc:Le K IR "ONE" = some (some (.ref ac))) (zm:K.lookup ac=some ⟨.type "tuple",dc,.seq #[.int 1 tc1,.int 1 tc2] nc,sc⟩) (htr:l.prog.given.tree=none) :
   ∃fd:Gc,(∀(s:Da) (v:Value),BindsTo s fd ⟨[v],[]⟩ [("_law_script",v)])/\∀base:Heap,K.In base->base.Ns IR mg->base.NoSeer->a8 l.prog w K mg base CX0 48 fa fd ["_law_script"] (spD K vX):=by
 have hb:=hz.none X G;have y_MOST:∃t,mg "MOST" = some (.int 7 t):=⟨_,Lz X G z0⟩;have y_NOUGHT:Mk1 K mg "NOUGHT" 0 1:=⟨ab,Lz X G zb,λH=>.inr ⟨_,_,_,zl,rfl,rfl,(by show 2<=sizeLine; decide),.cons ⟨_,rfl⟩ (.cons ⟨_,rfl⟩ .nil)⟩⟩;have y_ONE:Mk1 K mg "ONE" 1 1:=⟨ac,Lz X G zc,λH=>.inr ⟨_,_,_,zm,rfl,rfl,(by show 2<=sizeLine; decide),.cons ⟨_,rfl⟩ (.cons ⟨_,rfl⟩ .nil)⟩⟩;obtain⟨a,⟨oc,od,kV,dc,pm,an,cd,ct,sl,l0,c⟩,r⟩:=h49;cases hfa.symm.trans (Lz X G a);refine⟨Kf "law" "law" (gn (top 62)) (cZ (top 62)) (av (top 62)) .none kV dc pm an cd ct,λs v=>.of_eq rfl,λbase _ _ sr=>?_⟩;have pyl:Pyl l.prog base:=⟨sr,htr⟩;have c_l_numbers:Cal l.prog w K mg base 41 "_law_numbers" cG:=h0.cal (ps:=["_law_cell_here","_law_bases"]) X G (λ_ _ _ _ _ _=>Hy.bd2 λ_ _=>rfl) λ_ F=>oP (k:=40) F hb;have c_l_divisor:Cal l.prog w K mg base 41 "_law_divisor" c8:=h1.cal (ps:=["_law_one","_law_other"]) X G (λ_ _ _ _ _ _=>Hy.bd2 λ_ _=>rfl) λ_ F=>pL (k:=40) F hb;have c_l_made:Cal l.prog w K mg base 42 "_law_made" fG:=h2.cal (ps:=["_law_top","_law_bottom"]) X G (λ_ _ _ _ _ _=>Hy.bd2 λ_ _=>rfl) λ_ F=>wk (k:=41) F hb pyl .(2) c_l_divisor;have c_l_ten:Cal l.prog w K mg base 41 "_law_ten" kS:=h3.cal (ps:=["_law_many"]) X G (λ_ _ _ _ _ _=>Hy.bd1 λ_=>rfl) λ_ F=>zM (k:=40) F hb;have c_l_weight:Cal l.prog w K mg base 43 "_law_weight" i9:=h4.cal (ps:=["_law_part","_law_figures"]) X G (λ_ _ _ _ _ _=>Hy.bd2 λ_ _=>rfl) λ_ F=>r6 (k:=42) F hb c_l_made (c_l_ten.mono .(2));have c_l_ladder:Cal l.prog w K mg base 44 "_law_ladder" iI:=h5.cal (ps:=["_law_cell_here","_law_tracks","_law_rows_here","_law_columns","_law_many","_law_figures"]) X G (λ_ _ _ _ _ _=>Hy.bd6 λ_ _ _ _ _ _=>rfl) λ_ F=>qY (k:=43) F hb (c_l_numbers.mono .(2)) c_l_weight (c_l_ten.mono .(2));have c_l_plus:Cal l.prog w K mg base 43 "_law_plus" jo:=h6.cal (ps:=["_law_one","_law_other"]) X G (λ_ _ _ _ _ _=>Hy.bd2 λ_ _=>rfl) λ_ F=>xf (k:=42) F hb c_l_made;have c_l_widened:Cal l.prog w K mg base 44 "_law_widened" gR:=h7.cal (ps:=["_law_rows_here","_law_cell_here"]) X G (λ_ _ _ _ _ _=>Hy.bd2 λ_ _=>rfl) λ_ F=>pg (k:=43) F hb (c_l_numbers.mono .(2)) c_l_plus;have c_l_turned:Cal l.prog w K mg base 41 "_law_turned" iO:=h8.cal (ps:=["_law_rows_here"]) X G (λ_ _ _ _ _ _=>Hy.bd1 λ_=>rfl) λ_ F=>qk (k:=40) F hb;have c_l_minors:Cal l.prog w K mg base 41 "_law_minors" (i7 l.prog w):=h9.cal (ps:=["_law_rows_here"]) X G (λ_ _ _ _ _ _=>Hy.bd1 λ_=>rfl) λ_ F=>rF (k:=40) F hb;have c_l_rows:Cal l.prog w K mg base 42 "_law_rows" lx:=h10.cal (ps:=["_law_table"]) X G (λ_ _ _ _ _ _=>Hy.bd1 λ_=>rfl) λ_ F=>wZ (k:=41) F hb c_l_divisor;have c_l_first_below:Cal l.prog w K mg base 43 "_law_first_below" dk:=h11.cal (ps:=["_law_table"]) X G (λ_ _ _ _ _ _=>Hy.bd1 λ_=>rfl) λ_ F=>j5 (k:=42) F hb (c_l_minors.mono .(2)) c_l_rows;have c_is_short_list:Cal l.prog w K mg base 41 "is_short_list" cB:=h12.cal (ps:=["thing"]) X G (λ_ _ _ _ _ _=>Hy.bd1 λ_=>rfl) λ_ F=>jL (k:=40) F hb y_MOST;have c_is_whole:Cal l.prog w K mg base 41 "is_whole" iK:=h13.cal (ps:=["thing"]) X G (λ_ _ _ _ _ _=>Hy.bd1 λ_=>rfl) λ_ F=>rN (k:=40) F hb;have c_common_divisor:Cal l.prog w K mg base 41 "common_divisor" bq:=h14.cal (ps:=["one","other"]) X G (λ_ _ _ _ _ _=>Hy.bd2 λ_ _=>rfl) λ_ F=>jf (k:=40) F hb;have c_is_fraction:Cal l.prog w K mg base 42 "is_fraction" fj:=h15.cal (ps:=["thing"]) X G (λ_ _ _ _ _ _=>Hy.bd1 λ_=>rfl) λ_ F=>l9 (k:=41) F hb c_is_whole c_common_divisor;have c_is_row:Cal l.prog w K mg base 43 "is_row" mR:=h16.cal (ps:=["thing"]) X G (λ_ _ _ _ _ _=>Hy.bd1 λ_=>rfl) λ_ F=>wK (k:=42) F hb (c_is_short_list.mono .(2)) c_is_fraction;have c_is_table:Cal l.prog w K mg base 44 "is_table" iN:=h17.cal (ps:=["thing"]) X G (λ_ _ _ _ _ _=>Hy.bd1 λ_=>rfl) λ_ F=>qv (k:=43) F hb (c_is_short_list.mono .(2)) c_is_row;have c_look_table:Cal l.prog w K mg base 45 "look_table" fU:=h18.cal (ps:=["thing"]) X G (λ_ _ _ _ _ _=>Hy.bd1 λ_=>rfl) λ_ F=>m6 (k:=44) F hb c_is_table;have c_choices_of:Cal l.prog w K mg base 41 "choices_of" fR:=h19.cal (ps:=["many","size"]) X G (λ_ _ _ _ _ _=>Hy.bd2 λ_ _=>rfl) λ_ F=>nA (k:=40) F hb;have c_along_last_row:Cal l.prog w K mg base 41 "along_last_row" (cX l.prog w):=h20.cal (ps:=["known","row","columns"]) X G (λ_ _ _ _ _ _=>Hy.bd3 λ_ _ _=>rfl) λ_ F=>jm (k:=40) F hb;have c_one_row_more:Cal l.prog w K mg base 42 "one_row_more" (dW l.prog w):=h21.cal (ps:=["known","row","column_choices"]) X G (λ_ _ _ _ _ _=>Hy.bd3 λ_ _ _=>rfl) λ_ F=>kH (k:=41) F hb c_along_last_row;have c_all_determinants:Cal l.prog w K mg base 43 "all_determinants" (cD l.prog w):=h22.cal (ps:=["rows"]) X G (λ_ _ _ _ _ _=>Hy.bd1 λ_=>rfl) λ_ F=>iy (k:=42) F hb (c_choices_of.mono .(2)) c_one_row_more;have c_whole_row:Cal l.prog w K mg base 41 "whole_row" gL:=h23.cal (ps:=["row","scale"]) X G (λ_ _ _ _ _ _=>Hy.bd2 λ_ _=>rfl) λ_ F=>pH (k:=40) F hb;have c_whole_rows:Cal l.prog w K mg base 42 "whole_rows" fW:=h24.cal (ps:=["table","scales"]) X G (λ_ _ _ _ _ _=>Hy.bd2 λ_ _=>rfl) λ_ F=>mZ (k:=41) F hb c_whole_row;have c_scale_of:Cal l.prog w K mg base 42 "scale_of" i6:=h25.cal (ps:=["row"]) X G (λ_ _ _ _ _ _=>Hy.bd1 λ_=>rfl) λ_ F=>qI (k:=41) F hb c_common_divisor;have c_first_under:Cal l.prog w K mg base 44 "first_under" eZ:=h26.cal (ps:=["table","bound"]) X G (λ_ _ _ _ _ _=>Hy.bd2 λ_ _=>rfl) λ_ F=>lK (k:=43) F hb c_all_determinants (c_whole_rows.mono .(2)) (c_scale_of.mono .(2));have c_column_of:Cal l.prog w K mg base 41 "column_of" gI:=h27.cal (ps:=["table","j"]) X G (λ_ _ _ _ _ _=>Hy.bd2 λ_ _=>rfl) λ_ F=>oI (k:=40) F hb;have c_columns_of:Cal l.prog w K mg base 42 "columns_of" fS:=h28.cal (ps:=["table"]) X G (λ_ _ _ _ _ _=>Hy.bd1 λ_=>rfl) λ_ F=>m9 (k:=41) F hb c_column_of;have c_product_of:Cal l.prog w K mg base 42 "product_of" dF:=h30.cal (ps:=["one","other"]) X G (λ_ _ _ _ _ _=>Hy.bd2 λ_ _=>rfl) λ_ F=>ng (k:=41) F hb pyl .(2) c_common_divisor;have c_in_lowest_terms:Cal l.prog w K mg base 42 "in_lowest_terms" cM:=h31.cal (ps:=["top","bottom"]) X G (λ_ _ _ _ _ _=>Hy.bd2 λ_ _=>rfl) λ_ F=>iH (k:=41) F hb pyl .(2) c_common_divisor;have c_quotient_of:Cal l.prog w K mg base 43 "quotient_of" fg:=h32.cal (ps:=["one","other"]) X G (λ_ _ _ _ _ _=>Hy.bd2 λ_ _=>rfl) λ_ F=>mf (k:=42) F hb c_product_of c_in_lowest_terms;have c_sum_of:Cal l.prog w K mg base 42 "sum_of" lJ:=h33.cal (ps:=["one","other"]) X G (λ_ _ _ _ _ _=>Hy.bd2 λ_ _=>rfl) λ_ F=>v8 (k:=41) F hb pyl .(2) c_common_divisor;have c_rest_of:Cal l.prog w K mg base 43 "rest_of" j3:=h34.cal (ps:=["one","other"]) X G (λ_ _ _ _ _ _=>Hy.bd2 λ_ _=>rfl) λ_ F=>sD (k:=42) F hb c_sum_of;obtain⟨fdl,Fl,ml,kl,bl⟩:=h29.fn (ps:=["grid","i"]) X G (λ_ _ _ _ _ _=>Hy.bd2 λ_ _=>rfl);have c_lift_row:t5 l.prog w K mg base 44 "lift_row" (spG K i5):=⟨_,_,_,qp (k:=43) Fl hb y_NOUGHT y_ONE,ml,kl,bl⟩;obtain⟨fdt,Ft,mt,kt,bt⟩:=h35.fn (ps:=["grid","i","k"]) X G (λ_ _ _ _ _ _=>Hy.bd3 λ_ _ _=>rfl);have c_take_off:t5 l.prog w K mg base 44 "take_off" (spG K iR):=⟨_,_,_,rW (k:=43) Ft hb c_quotient_of c_rest_of (c_product_of.mono .(2)),mt,kt,bt⟩;obtain⟨fdc,Fc,mc,kc,bc⟩:=h36.fn (ps:=["grid","k"]) X G (λ_ _ _ _ _ _=>Hy.bd2 λ_ _=>rfl);have c_clear_column:t5 l.prog w K mg base 45 "clear_column" (spG K dZ):=⟨_,_,_,kE (k:=44) Fc hb y_NOUGHT c_lift_row c_take_off,mc,kc,bc⟩;have c_turned_step:Cal l.prog w K mg base 41 "turned_step" e8:=h37.cal (ps:=["step"]) X G (λ_ _ _ _ _ _=>Hy.bd1 λ_=>rfl) λ_ F=>k8 (k:=40) F hb;have c_steps_of:Cal l.prog w K mg base 46 "steps_of" iJ:=h38.cal (ps:=["table"]) X G (λ_ _ _ _ _ _=>Hy.bd1 λ_=>rfl) λ_ F=>rR (k:=45) F hb c_clear_column (c_columns_of.mono .(2)) (c_turned_step.mono .(2));have c_squared:Cal l.prog w K mg base 41 "squared" j6:=h39.cal (ps:=["table","size"]) X G (λ_ _ _ _ _ _=>Hy.bd2 λ_ _=>rfl) λ_ F=>sR (k:=40) F hb y_NOUGHT;have c_taken_apart:Cal l.prog w K mg base 47 "taken_apart" cY:=h40.cal (ps:=["table"]) X G (λ_ _ _ _ _ _=>Hy.bd1 λ_=>rfl) λ_ F=>mn (k:=46) F hb (c_look_table.mono .(2)) (c_first_under.mono .(2)) c_steps_of (c_squared.mono .(2));have c_l_times:Cal l.prog w K mg base 43 "_law_times" j9:=h41.cal (ps:=["_law_one","_law_other"]) X G (λ_ _ _ _ _ _=>Hy.bd2 λ_ _=>rfl) λ_ F=>sS (k:=42) F hb c_l_made;have c_l_ladders_table:Cal l.prog w K mg base 44 "_law_ladders_table" bX:=h42.cal (ps:=["_law_ladder_here"]) X G (λ_ _ _ _ _ _=>Hy.bd1 λ_=>rfl) λ_ F=>iV (k:=43) F hb c_l_times c_l_plus;have c_l_number:Cal l.prog w K mg base 43 "_law_number" iG:=h43.cal (ps:=["_law_kind","_law_part"]) X G (λ_ _ _ _ _ _=>Hy.bd2 λ_ _=>rfl) λ_ F=>qX (k:=42) F hb c_l_made;have c_l_bent:Cal l.prog w K mg base 44 "_law_bent" mK:=h44.cal (ps:=["_law_table","_law_cell_here"]) X G (λ_ _ _ _ _ _=>Hy.bd2 λ_ _=>rfl) λ_ F=>wU (k:=43) F hb (c_l_numbers.mono .(2)) c_l_number;have c_l_cell:Cal l.prog w K mg base 41 "_law_cell" l7:=h45.cal (ps:=["_law_script","_law_k"]) X G (λ_ _ _ _ _ _=>Hy.bd2 λ_ _=>rfl) λ_ F=>xg (k:=40) F hb;have c_l_whole:Cal l.prog w K mg base 41 "_law_whole" iq:=h46.cal (ps:=["_law_thing"]) X G (λ_ _ _ _ _ _=>Hy.bd1 λ_=>rfl) λ_ F=>tL (k:=40) F hb;have c_l_is_step:Cal l.prog w K mg base 42 "_law_is_step" gM:=h47.cal (ps:=["_law_step","_law_tracks"]) X G (λ_ _ _ _ _ _=>Hy.bd2 λ_ _=>rfl) λ_ F=>pT (k:=41) F hb c_l_whole c_l_divisor;have c_l_makes:Cal l.prog w K mg base 45 "_law_makes" ic:=h48.cal (ps:=["_law_found","_law_table"]) X G (λ_ _ _ _ _ _=>Hy.bd2 λ_ _=>rfl) λ_ F=>sP (k:=44) F hb c_l_ladders_table (c_l_is_step.mono .(2)) (c_l_whole.mono .(2));exact EN (k:=47) (zH l0 c r) hb (c_l_numbers.mono .(2)) (c_l_ladder.mono .(2)) (c_l_widened.mono .(2)) (c_l_turned.mono .(2)) (c_l_first_below.mono .(2)) c_taken_apart (c_l_ladders_table.mono .(2)) (c_l_bent.mono .(2)) (c_l_cell.mono .(2)) (c_l_makes.mono .(2))
def walk {l:MD}{XP:(Str->Option Value)->Heap->Prop}{YP:World->Heap->Prop}{d:DefRec}{K:Params->fw}(hn:l.most=some 63)(hdf:d.params.defaults=[])(hI:importsNone q=true)
   (hY:∀(w:World) (h:Heap),YP w h->(K w.params).In h)
   (F:∀(w:World) (mg:Str->Option Value) (fa:Addr) (h:Heap),(K w.params).In h->h.Ns IR mg->mg d.name=some (.ref fa) ->
     ∃fd:Gc,(∀(s:Da) (u:Value),BindsTo s fd ⟨[u],[]⟩ [("_law_script",u)])/\∀base:Heap,(K w.params).In base->base.Ns IR mg->base.NoSeer->a8 l.prog w (K w.params) mg base CX0 48 fa fd ["_law_script"] (spD (K w.params) vX)) :
   PySem.W.WalkO q loose XP YP l.row.toRowW d [] (λf vs=>PySem.call f vs):=
 L2.yU (n:=63) (k:=48) (x:="_law_script") (CX:=λ_=>CX0) (sp:=λw=>spD (K w.params) vX) hn .(2) hdf ⟨rfl,by decide,by decide⟩ hY F hI
   (λw H a ns hl _ hS=>BI (λns h=>⟨ns,h,rfl,rfl⟩) H a ns hl hS) λ_ _ _ _ _ z=>z
end K33
open PySem PySem.W PyProof.Rows
namespace PySem.W.Fast
def tw15042128086287719045:=0
def tw13814176488380104495:=0
def tw18109420938242932523:=0
def tw3742928091037974692:=0
def tw14985174226296572620:=0
def tw17443478122305341757:=0
def tw14297653497523573300:=0
def tw4665567276239792324:=0
def tw7816693778940516932:=0
def tw4616829159397296286:=0
def tw7565638578031246882:=0
def tw898882889284457634:=0
def tw13303544259877215972:=0
def tw17131728984679757237:=0
def tw4634608196036946809:=0
def tw15579672282662782258:=0
def tw3897438440063766692:=0
def tw13079040918578414396:=0
def tw3523593208942773876:=0
def tw13875494766509724638:=0
def tw14717649076539238566:=0
def tw13456030848707499404:=0
def tw11923257347621191045:=0
def tw8708575358530375856:=0
def tw10395181415910813192:=0
def tw14972388498818371031:=0
def tw2547354503905048313:=0
def tw18149728520880320977:=0
def tw13373516519096995573:=0
def tw11964941240903885645:=0
def tw1667077522778778284:=0
def tw9788572191253033009:=0
def tw4268981853466747077:=0
def tw3443833087290520814:=0
def tw13279342319939275630:=0
def tw5232799594937869637:=0
def tw1531261942551807657:=0
def tw412755042387842522:=0
def tw16472910398464837348:=0
def tw3117009051152786290:=0
def tw10449783931885259739:=0
def tw15062788726260747869:=0
def tw14504436408078512157:=0
def tw10262396857216102473:=0
def tw10346176989635615243:=0
def tw8881701103454420005:=0
def tw592748798299967903:=0
def tw66181123426833906:=0
def tw6649702777655993685:=0
def tw2322916342850260668:=0
def tw11573502238897884039:=0
def tw15478379520305778975:=0
def tw16296978925657896931:=0
def tw8232227651741164320:=0
def tw15169834086901062712:=0
def tw14960794150352388159:=0
def tw11407732146739169058:=0
def tw1983686404574022500:=0
def tw17168494362394521792:=0
def tw8474304141220228371:=0
def tw17522338923555941985:=0
def tw12218221079696816390:=0
def tw9959173824292245825:=0
def tw9888805154368755013:=0
def tw6747870268083349782:=0
def tw7590166676484045310:=0
def tw13886939263228929801:=0
def tw12491589283037387627:=0
def tw10236405461143842470:=0
def tw1406659540118189027:=0
def tw281255280896047826:=0
def tw14077467997926363686:=0
def tw11121315113724352141:=0
def tw5187020066954222885:=0
def tw3256215990228448580:=0
def tw3876007383376984521:=0
def tw8095896127552390704:=0
def tw8546058707016342266:=0
def tw4942010120462047003:=0
def tw3994135344777475103:=0
def tw13913970480083922110:=0
def tw13751394152722921234:=0
def tw710309019599098574:=0
def tw317117948786910241:=0
def tw12584897844003929830:=0
def tw8645885999786664798:=0
def tw13988908795977372245:=0
def tw18293753220176278449:=0
def tw2828256473380801306:=0
def tw8993642323946542131:=0
def tw1453050007884061994:=0
def tw14879782231474459166:=0
def tw1380900405981367807:=0
def tw7418466634309673890:=0
def tw17661001795120739516:=0
def tw3696233691615575008:=0
def tw12351516148423207365:=0
def tw2511068439169889081:=0
def tw8005339401419341855:=0
def tw7264343941811749825:=0
def tw15156034655573672091:=0
def tw32848584945773774:=0
def tw17650341891963203108:=0
def tw12021452772869272018:=0
def tw14915733427013358815:=0
def tw4529876647570822938:=0
def tw9768555666280893421:=0
def tw6597273966189958547:=0
def tw11137307938663772450:=0
def tw16573227533898053697:=0
def tw15758373817512870721:=0
def tw1631645456960504607:=0
def tw4372158025404923351:=0
def tw9407311510740022689:=0
def tw14632805065567708161:=0
def tw14492913180967045360:=0
def tw6535321020007933523:=0
def tw12132982589194777211:=0
def tw9632691066662578790:=0
def tw14111282179436259866:=0
end PySem.W.Fast
set_option maxRecDepth 100000 in
theorem PySem.Challenge.cw_signsmooth_k33_rows_that_hang_holds : PySem.Challenge.rw_signsmooth_k33_rows_that_hang.Holds := by
 w_on; o_law; k_head; (case hw=>w_witness2)
 k_fill
 refine K33.walk (l:=PySem.Challenge.rw_signsmooth_k33_rows_that_hang) rfl rfl .(23) (λw h Y=>PySem.W.kIn_of Y) ?F
 case F=>
   intro w mg fa h KX G hmg;refine' K33.all_mk KX G hmg (.of ?_ ?_ ?_ ?_) (.of ?_ ?_ ?_ ?_) (.of ?_ ?_ ?_ ?_) (.of ?_ ?_ ?_ ?_) (.of ?_ ?_ ?_ ?_) (.of ?_ ?_ ?_ ?_) (.of ?_ ?_ ?_ ?_) (.of ?_ ?_ ?_ ?_) (.of ?_ ?_ ?_ ?_) (.of ?_ ?_ ?_ ?_) (.of ?_ ?_ ?_ ?_) (.of ?_ ?_ ?_ ?_) (.of ?_ ?_ ?_ ?_) (.of ?_ ?_ ?_ ?_) (.of ?_ ?_ ?_ ?_) (.of ?_ ?_ ?_ ?_) (.of ?_ ?_ ?_ ?_) (.of ?_ ?_ ?_ ?_) (.of ?_ ?_ ?_ ?_) (.of ?_ ?_ ?_ ?_) (.of ?_ ?_ ?_ ?_) (.of ?_ ?_ ?_ ?_) (.of ?_ ?_ ?_ ?_) (.of ?_ ?_ ?_ ?_) (.of ?_ ?_ ?_ ?_) (.of ?_ ?_ ?_ ?_) (.of ?_ ?_ ?_ ?_) (.of ?_ ?_ ?_ ?_) (.of ?_ ?_ ?_ ?_) (.of ?_ ?_ ?_ ?_) (.of ?_ ?_ ?_ ?_) (.of ?_ ?_ ?_ ?_) (.of ?_ ?_ ?_ ?_) (.of ?_ ?_ ?_ ?_) (.of ?_ ?_ ?_ ?_) (.of ?_ ?_ ?_ ?_) (.of ?_ ?_ ?_ ?_) (.of ?_ ?_ ?_ ?_) (.of ?_ ?_ ?_ ?_) (.of ?_ ?_ ?_ ?_) (.of ?_ ?_ ?_ ?_) (.of ?_ ?_ ?_ ?_) (.of ?_ ?_ ?_ ?_) (.of ?_ ?_ ?_ ?_) (.of ?_ ?_ ?_ ?_) (.of ?_ ?_ ?_ ?_) (.of ?_ ?_ ?_ ?_) (.of ?_ ?_ ?_ ?_) (.of ?_ ?_ ?_ ?_) (.of ?_ ?_ ?_ ?_) ⟨?_,?_,?_,?_,?_,?_,?_,?_,?_,?_,?_,?_,?_,?_,?_,?_,?_,?_,trivial⟩ ?_ ?_ ?_ ?_ ?_ rfl
   all_goals try k_is
#print axioms PySem.Challenge.cw_signsmooth_k33_rows_that_hang_holds