import PyProof.Rows.All
import Wide.All
import OpenK.AllK
import Wide.FinOn
import Lean
import PyProof.EqAt
import PyProof.EqKinds
import PyProof.TupleCall
import PyProof.DictKeyH
import PyProof.DictFindH
import KE.KDictList
import PyProof.DictWalks
import PyProof.IsRules
import PyProof.AutoIntG2
import PyProof.StrBlock
import PyProof.StrCalls2
import PyProof.StrCalls3
import PyProof.StrCalls
import PyProof.StrWalks
import PyProof.FString
import KE.KIntText
import PyProof.FitsReplace
import PyProof.StrLawsTight
import PyProof.StrLawsOcc
import PyProof.StrBlockI
import PyProof.SliceStr2
import PyProof.StrLawsChain
import PyProof.StrLaws
import PyProof.Rows.StrJoinMade
import PyProof.StrLawsIdx
import PyProof.StrLawsJoin
import PySem.Challenge.RW_signsmooth_k39_whole_gaining
set_option genSizeOf false
set_option bootstrap.genMatcherCode false
set_option Elab.async false
set_option linter.all false
set_option maxRecDepth 100000
set_option exponentiation.threshold 4000
open List renaming length_map→E9,range→Fd,getElem?_eq_getElem→Fe,mem_singleton→Ff,mem_cons_of_mem→Fh,mem_cons_self→Fi,mem_map→Fj,mem_append_right→Fl,getD_eq_getElem?_getD→Fm,getElem?_eq_some_iff→Fn,size_toArray→Fo,mem_append→Fs,getElem?_set_ne→Ft,mem_cons→Fv,length_append→Fw,map_map→Fx,take_of_length_le→FC,mem_append_left→FD,map_append→FE,length_set→FF,getElem?_append_left→FG,replicate→FH,length_take→FI,map_cons→FJ,getElem?_map→FL,mem_range→FN,getElem?_set_self→FP,mem_or_eq_of_mem_set→FY,getElem?_append_right→F0,all_eq_true→F1,range_succ→F3,map_congr_left→F6,nodup_cons→F8,lookup_cons→F9,length_cons→Ga,mem_of_mem_take→Ge,filter_append→Gg,append_nil→Gh,cons_append→Gi,nodup_append→Gk,length_eraseIdx_of_lt→Gm,mem_of_getElem?→Gn,getElem_map→Gu,filter_cons→Gv,length_replicate→Gy,length_range→Gz,foldl_append→GA,append_assoc→GB,replicate_succ→GL,flatten_cons→GY,find?_cons→G0,range_succ_eq_map→G4,mem_flatMap→G7,ext_getElem→G8,getElem?_eq_none→G9,nodup_nil→Hc,getElem_of_mem→Hg,length_drop→Hi,mem_filter→Hn,map_set→Ho,length_filter_le→Hq,mem_of_find?_eq_some→HA,take_length→HC,not_mem_nil→HD,map_take→HL,length_eq_zero_iff→HM,getElem_range→HN,getElem?_replicate→HP,any_cons→HQ,filter_congr→Ib,take_append_drop→Ig,filter_eq_self→Ip,mem_replicate→ID,map_nil→IE,take_add_one→IM,insertIdx_succ_cons→IP,getD→IQ,filter_cons_of_pos→IX,all_cons→IY,find?_cons_of_pos→Jh,find?_cons_of_neg→Ji,length_singleton→Jp,length_nil→Jq,foldl_cons→Jr,filter_nil→Js,drop_zero→JE,flatMap_append→JF,filterMap_cons→JG,length_insertIdx_of_le_length→JJ,set→JN,map_replicate→JO,find?_append→JT,all_map→JY,getElem_mem→J7,dropLast_concat_getLast→Kc,of_mem_zip→Ki,nil_append→Kj,length→Kk,take_succ→Ky,getElem?_take_of_lt→KG,map_drop→KL,filter_cons_of_neg→KN,eraseIdx_cons_succ→KO,getElem?_eraseIdx→KU,drop_of_length_le→KW
open PySem.W renaming Frag→Fb,fnOf→GV,keepIn→G6,kia_one→Hj,codeIn→Ht,nsIn→Io,mg_of→JB,methodObj→JH,OpenLaw→JV,cellsFrom_some→Kv
open Nat renaming le_refl→Fc,lt_of_lt_of_le→Fy,le_trans→Fz,mul_le_mul_right→FO,lt_of_le_of_lt→FQ,zero_le→FR,ne_of_lt→FT,pow_le_pow_right→FW,lt_irrefl→F4,not_lt_zero→Gb,mul_le_mul→Gr,two_pow_pos→GH,eq_zero_or_pos→GI,succ_mul→GK,lt_trans→GP,lt_or_ge→GQ,le_of_lt→GR,add_le_add_left→G1,le_mul_of_pos_left→G5,testBit_two_pow_of_ne→He,le_succ→Hh,add_assoc→Hu,pow_add→HH,testBit_two_pow_self→HJ,min_eq_left→HW,testBit_or→Ie,mul_comm→Ij,add_zero→Ik,log2_lt→Iw,mul_lt_mul_of_pos_left→IC,pow_succ→IF,lt_succ_of_lt→IV,mul_assoc→Jc,exists_eq_add_of_le→Jd,lt_succ_self→Jg,zero_add→Jw,sub_self→Jx,le_of_ble_eq_true→Jy,gcd_comm→Jz,mod_lt→JA,pow_lt_pow_right→JC,eq_of_testBit_eq→JD,sub_zero→J5,min_self→J6,succ_ne_self→J9,succ_le_succ→Ka,min_eq_right→Kb,mul_one→Ks,succ→KS
open PySem.Heap renaming get?_push_of_some→Fg,lt_size→Fu,get?_push_size→FA,size_push→Hb,SameBut→IA,get?_update_other→Jf,get?_update_self→Jl
open Bool renaming false_ne_true→Fp,and_eq_true→F2,false_eq_true→Ha,eq_iff_iff→HR,or_false→IZ,not_true→JP,or_true→J0
open Int renaming toNat_natCast→Fq,fmod_eq_emod_of_nonneg→FU,fdiv_eq_ediv_of_nonneg→F7,natAbs_mul→Gj,gcd→GD,fmod_nonneg_of_pos→Hk,natCast_nonneg→Hl,toNat→Hs,toNat_of_nonneg→HI,natAbs_natCast→HX,fmod_lt_of_pos→IG,mul_ediv_cancel_left→IW,eq_ofNat_of_zero_le→Je,gcd_dvd_left→Jj,mul_pos→JK,ediv_mul_cancel→JL,gcd_dvd_right→JZ,ofNat→Ku,natAbs_ediv_le_natAbs→KH,mul_assoc→KY
open PySem.Builtin.Tuple renaming tupleHashOf→FK,tupleExact→Hm,tupleItemsOf→Ic
open PySem.Value renaming ref→FV,none→GW,bool→GX,int→II,builtin→IS,type→Kw,str→KR
open Option.some renaming inj→FX,injEq→HG
open Rat renaming intCast_mul→FZ,add_zero→Gq,one_mul→Gx,mul_zero→GJ,mul_assoc→GN,mul_comm→Hr,den_intCast→HU,intCast_lt_intCast→HZ,num_intCast→Iq,mul_one→Ir,intCast_add→Iu,mul_nonneg→IH,num_eq_zero→Jt,le_of_lt→Ju,sub_eq_add_neg→JQ,zero_mul→J1,pow_succ→J2,mul_pos→Km,mul_eq_zero→Kn,intCast_sub→Ko,not_le→KI,natCast_eq_zero_iff→KP,intCast_eq_zero_iff→KQ
open Or renaming inr→F5,inl→GO
open PyProof.Rows renaming callWith_type1→Gf,slot_tuple_getitem→Jo
open PySem.PyData renaming eqv→Gp,canLay0→Hv,depth→Ia,eqvAll→IL,canLayAll0→JM,depthAll→J4
open Array renaming length_toList→Gw,getElem?_eq_getElem→Hz,forIn_toList→Iz,getElem?_toList→Jk,toList→KZ
open PySem.NameKind renaming free→GC,cell→GS
open Option renaming map_some→GF,bind_some→Hw,map_eq_some_iff→HV,getD_some→IU,isSome_iff_exists→Kr
open Ne renaming symm→GG
open PySem.F renaming plainAttrs_list→GU,slot_dict_keyiterator_next→GZ,args_tuple_add_2→IB,entry_tuple_add→IJ,slot_tuple_add→IT,slot_tuple_hash→Ja,slot_list_append→Jb,args_dict_keyiterator_next_1→Jm,entry_dict_keyiterator_next→Jv,slot_int_bit_length→JX,type_list_append→Ke,slot_list_insert→Kf,slot_dict_values→Kg,plainAttrs_dict→Kp,slot_dict_iter→Kx,slot_dict_get→KC,slot_range_iterator_next→KJ
open PySem.Builtin.Int renaming intBits→Hd
open True renaming intro→Hf
open PySem renaming mem_of_lookup→HB,Env→Im
open ForInStep renaming yield→HE
open False renaming elim→HF
open Sum renaming inl→HS,inr→Kl
open PySem.Calls renaming callWith_builtin→HY,spliced_cons→Iy,spliced_nil→JS,Name_function_global→Kh
open Function renaming comp→Ih
open PySem.Builtin.Slice renaming slicePlaces→Ii,sliceAdjust→JI
open PySem.Builtin.List renaming listTooLong→Il
open PySem.Builtin renaming bitNot→Jn,bitAnd→J8,bitOr→Kq
open PySem.Obj renaming mapFields→JR,mapSeq→JW
open Sum.inl renaming inj→JU
open PySem.Str renaming ofString→J3
open PySem.Heap.SameBut renaming update→Kd
open List.Pairwise renaming nil→Kt
open PySem.SeqAt.EqAt renaming str_int→Kz,int_str→KA
namespace Hx
open PySem PySem.Spec PyProof.Rows
theorem l9:entryFor table "proto.unchain" = some Builtin.«proto.unchain»:=entryFor_of_tree (by kernel_rfl)
section
variable {prog:Program} {w:World} {A:Around} {E:Value->Shared->Prop} {s:Shared}
theorem pT {α:Type} {a h:Addr} {oa oh:Obj} {us vs:Array Value} {Q:α->Shared->Prop} (hh:A.handled=some (.ref h)) (hne:h ≠ a) (ha:s.heap.get? a=some oa) (hda:oa.data=.fields us) (hsz:2 < us.size)
   (ho:s.heap.get? h=some oh) (hd:oh.data=.fields vs) (h2:vs[2]?=some .none)
   (q:E (.ref a) { s with heap:=s.heap.update a (JR (·.setIfInBounds 2 (.ref h))) }):wpAny (model prog w) A (raiseNew (.ref a):Sem α) Q E s:=by
 unfold raiseNew; refine wpAny_bind (wpAny_handled ?_); rw [hh]
 dsimp only
 rw [if_pos (show (FV h != FV a)=true by simp [hne])]
 refine wpAny_bind (wpAny_holding (wpAny_runValue (codeAny_builtin l9 ?_)))
 unfold Builtin.«proto.unchain»
 dsimp only
 refine wpAny_bind (wpAny_field ho hd h2 ?_)
 rw [if_pos (show (GW == GW)=true by decide)]
 refine wpAny_pure ?_
 show wpAny _ A (do let _ <- updateField a 2 (.ref h); throw (FV a)) _ _ _
 unfold updateField
 refine wpAny_bind (wpAny_bind (wpAny_load ha ?_))
 rw [hda]
 dsimp only
 rw [if_pos hsz]
 exact wpAny_update ha (wpAny_throw q)
theorem qZ {r h:Addr} {v left step:Int} {oh:Obj} {vs:Array Value} {Q:Option Value->Shared->Prop} (hh:A.handled=some (.ref h)) (ho:s.heap.get? h=some oh) (hd:oh.data=.fields vs) (h2:vs[2]?=some .none)
   (hr:IsRangeIter s.heap r v left step) (hl:left<=0) (k:∀ h',Heap.ExtBut r s.heap h'->Q none { s with heap:=h' }):wpAny (model prog w) A (pyNext (.ref r)) Q E s:=by
 have ty:s.TypeIs (.ref r) "range_iterator":=⟨_,hr,rfl⟩
 have hlt:=Fu ho
 have fl:∀ {α:Type} {B:Around} {F:Value->Shared->Prop} {R:α->Shared->Prop} (i:Nat) (y:Int) {f:Value->Sem α},(#[rawInt v,rawInt left,rawInt step]:Array Value)[i]?=some (rawInt y)->wpAny (model prog w) B (f (rawInt y)) R F s->wpAny (model prog w) B (field (.ref r) i >>= f) R F s:=by
   intro α B F R i y f e q
   exact wpAny_bind (wpAny_field hr rfl e q)
 unfold pyNext
 refine wpAny_bind (wpAny_attempt (wpAny_callSpecial?_slot (name:=J3 "__next__") ty KJ (wpAny_call_entry KJ ty F.entry_range_iterator_next (fl 0 v rfl (fl 1 left rfl (fl 2 step rfl ?_))) (F.args_range_iterator_next_1 _))))
 show wpAny (model prog w) A.in1 (if left<=0 then _ else _) _ _ s
 rw [if_pos hl]
 refine wpAny_bind (wpAny_rule (wpAny_bind ?_))
 show wpAny _ _ (do let e <- newExc (.type "StopIteration") []; _) _ _ _
 refine wpAny_bind ?_
 simp only [newExc,newTuple]
 refine wpAny_bind (wpAny_newObj_type (wpAny_bind (m:=firstArgMember _ _) (wpAny_of_eq (a:=.none) (by first | rfl | (simp only [firstArgMember]; rfl)) (wpAny_newObj_type ?_ (by size_fits)))) (by size_fits))
 have hg:((s.heap.push { cls:=.type "tuple",data:=.seq ([]:List Value).toArray }).push { cls:=.type "StopIteration",data:=.fields (#[FV s.heap.objs.size,.none,.none,.none,.bool false,.none]++ownMembersOf (.type "StopIteration") []) }).get? (s.heap.push { cls:=.type "tuple",data:=.seq ([]:List Value).toArray }).objs.size
     = some { cls:=.type "StopIteration",data:=.fields (#[FV s.heap.objs.size,.none,.none,.none,.bool false,.none]++ownMembersOf (.type "StopIteration") []) }:=FA _ rfl
 refine pT (h:=h) (A:=A.in1) hh ?_ hg rfl (by rw [Array.size_append]; exact Fy (by decide:2 < 6) (Nat.le_add_right _ _)) (Fg _ (Fg _ ho)) hd h2 ?_
 · intro z
   rw [Hb] at z
   exact absurd hlt (by rw [z]; exact Nat.not_lt.mpr (Hh _))
 have hu:=Jl (JR (·.setIfInBounds 2 (.ref h))) hg rfl
 refine wpAny_bind (wpAny_isInstance (T:="StopIteration") (b:=true) ⟨_,hu,rfl⟩ isSubtype_stop ?_)
 refine wpAny_pure (k _ λb o hb e=>?_)
 have bl:=Fu e
 rw [Jf _ _ (by intro z; rw [Hb] at z; exact absurd bl (by rw [<- z]; exact Nat.not_lt.mpr (Hh _)))]
 exact Fg _ (Fg _ e)
end
end Hx
set_option linter.all false
set_option maxRecDepth 100000
namespace L2
open PySem PySem.Spec PyProof.Rows
noncomputable abbrev Key:=Sum Int Str
noncomputable def mS:Key->Value->Bool
 | .inl k,v=>Value.isInt k v
 | .inr x,v=>Value.isStrOf x v
noncomputable def EF (w:World):Key->Int
 | .inl k=>hashInt k
 | .inr x=>hashStr w x
theorem bg:∀ {k:Key} {v:Value},mS k v=true->(∃ i t,k=HS i/\v=II i t)\/(∃ x t,k=Kl x/\v=KR x t)
 | .inl i,v,h=>by
   obtain ⟨t,e⟩:=Value.isInt_shape (k:=i) (v:=v) h
   exact .inl ⟨i,t,rfl,e⟩
 | .inr x,v,h=>by
   obtain ⟨t,e⟩:=Value.isStrOf_shape (x:=x) (v:=v) h
   exact .inr ⟨x,t,rfl,e⟩
theorem uI (i:Int) (t:Tok):mS (.inl i) (.int i t)=true:=by simp [mS,Value.isInt]
theorem uY (x:Str) (t:Tok):mS (.inr x) (.str x t)=true:=by simp [mS,Value.isStrOf]
theorem Bj (a b:Int):decide ((HS a:Key)=HS b)=(a == b):=by
 by_cases e:a=b
 · subst e; simp
 · have h:¬ (HS a:Key)=HS b:=λq=>e (JU q)
   rw [decide_eq_false h]
   exact (beq_eq_false_iff_ne.mpr e).symm
theorem CD (a b:Str):decide ((Kl a:Key)=Kl b)=decide (a=b):=by
 by_cases e:a=b
 · subst e; simp
 · have h:¬ (Kl a:Key)=Kl b:=λq=>e (Sum.inr.inj q)
   rw [decide_eq_false h,decide_eq_false e]
theorem CP (a:Int) (b:Str):decide ((HS a:Key)=Kl b)=false:=decide_eq_false (λq=>nomatch q)
theorem CB (a:Str) (b:Int):decide ((Kl a:Key)=HS b)=false:=decide_eq_false (λq=>nomatch q)
noncomputable def bf (prog:Program) (w:World):PySem.KeyKind prog w Key where
 is:=mS
 hash:=EF w
 inj:=λv a b ha hb=>by
   rcases bg ha with ⟨i,t,rfl,rfl⟩ | ⟨x,t,rfl,rfl⟩
   · rcases bg hb with ⟨j,u,rfl,e⟩ | ⟨y,u,rfl,e⟩
     · injection e with e1 _; rw [e1]
     · exact nomatch e
   · rcases bg hb with ⟨j,u,rfl,e⟩ | ⟨y,u,rfl,e⟩
     · exact nomatch e
     · injection e with e1 _; rw [e1]
 byValue:=λk v h=>by
   rcases bg h with ⟨i,t,rfl,rfl⟩ | ⟨x,t,rfl,rfl⟩ <;> rfl
 pyHash:=λhv h=>by
   rcases bg hv with ⟨i,t,rfl,rfl⟩ | ⟨x,t,rfl,rfl⟩
   · exact wpAny_pyHash_int h
   · exact wpAny_pyHash_str h
 eqBool:=λhu hv h=>by
   rcases bg hu with ⟨i,t,rfl,rfl⟩ | ⟨x,t,rfl,rfl⟩
   · rcases bg hv with ⟨j,u,rfl,rfl⟩ | ⟨y,u,rfl,rfl⟩
     · rw [Bj] at h; exact wpAny_eqBool_int h
     · rw [CP] at h; exact KA i t y u _ _ _ _ h
   · rcases bg hv with ⟨j,u,rfl,rfl⟩ | ⟨y,u,rfl,rfl⟩
     · rw [CB] at h; exact Kz x t j u _ _ _ _ h
     · rw [CD] at h; exact wpAny_eqBool_str h
 «strs»:=λk x t v h=>by
   rcases bg h with ⟨i,u,rfl,e⟩ | ⟨y,u,rfl,e⟩
   · exact nomatch e
   · injection e with e1 _
     subst e1
     cases v <;> rfl
theorem pF (prog:Program) (w:World) (i:Int) (t:Tok):(bf prog w).is (.inl i) (.int i t)=true:=uI i t
theorem qk (prog:Program) (w:World) (x:Str) (t:Tok):(bf prog w).is (.inr x) (.str x t)=true:=uY x t
inductive V where
 | non | bl (b:Bool) | int (i:Int) | str (x:Str) | byt (b:Array UInt8) | flt (b:UInt64) | ref (a:Addr) | ty (n:String)
 deriving DecidableEq
noncomputable def RelV:V->Value->Prop
 | .non,u=>u=GW
 | .bl b,u=>u=GX b
 | .int i,u=>∃ t,u=II i t
 | .str x,u=>∃ t,u=KR x t
 | .byt b,u=>∃ t,u=Value.bytes b t
 | .flt b,u=>∃ t,u=Value.float b t
 | .ref a,u=>u=FV a
 | .ty n,u=>u=Kw n
noncomputable abbrev Vals:List V->List Value->Prop:=Paired RelV
theorem Vals.length {xs:List V} {us:List Value} (r:Vals xs us):xs.length=us.length:=Paired.length r
theorem Vals.get:∀ {xs:List V} {us:List Value} {i:Nat} {x:V},Vals xs us->xs[i]?=some x->∃ u,us[i]?=some u/\RelV x u
 | _,_,_,_,.nil,e=>by simp at e
 | _,_,0,_,.cons r _,e=>by simp at e; subst e; exact ⟨_,rfl,r⟩
 | _,_,i + 1,x,.cons _ t,e=>by
   obtain ⟨u,h1,h2⟩:=Vals.get (i:=i) (x:=x) t (by simpa using e)
   exact ⟨u,by simpa using h1,h2⟩
theorem Vals.set {x:V} {u:Value} (r:RelV x u):∀ {xs:List V} {us:List Value} (i:Nat),Vals xs us->Vals (xs.set i x) (us.set i u)
 | _,_,_,.nil=>.nil
 | _,_,0,.cons _ t=>.cons r t
 | _,_,i + 1,.cons q t=>.cons q (Vals.set r i t)
theorem Vals.append:∀ {xs ys:List V} {us ws:List Value},Vals xs us->Vals ys ws->Vals (xs++ys) (us++ws)
 | _,_,_,_,.nil,s=>s
 | _,_,_,_,.cons r t,s=>.cons r (Vals.append t s)
theorem Vals.take:∀ {xs:List V} {us:List Value} (n:Nat),Vals xs us->Vals (xs.take n) (us.take n)
 | _,_,0,_=>.nil
 | _,_,_ + 1,.nil=>.nil
 | _,_,n + 1,.cons r t=>.cons r (Vals.take n t)
theorem Vals.drop:∀ {xs:List V} {us:List Value} (n:Nat),Vals xs us->Vals (xs.drop n) (us.drop n)
 | _,_,0,r=>r
 | _,_,_ + 1,.nil=>.nil
 | _,_,n + 1,.cons _ t=>Vals.drop n t
noncomputable def pH:Option V->Option Value->Prop
 | some v,some u=>RelV v u
 | none,none=>True
 | _,_=>False
noncomputable def KV {κ:Type}:List (κ × V)->List (κ × Value)->Prop:=Paired λ(p:κ × V) (q:κ × Value)=>p.1=q.1/\RelV p.2 q.2
noncomputable def kV:Key->V
 | .inl i=>.int i
 | .inr x=>.str x
inductive HO where
 | lst (xs:List V)
 | tup (xs:List V)
 | dK (kvs:List (Key × V)) | dT (kvs:List (List Key × V))
 | set (S:Int->Bool) (n:Nat)
 | ins (C dx:Addr) (fs:List (Str × V))
 | own (x:Addr)
 | xd (fs:List (Str × V))
 | met (f x:Addr)
 | rng (lo hi:Int)
 | frz (o:Obj) (u:HO)
 | tbl (ps:Array Value)
 | ext (φ:Heap->Prop)
noncomputable abbrev Hp:=Addr->Option HO
noncomputable def upd (H:Hp) (a:Addr) (o:HO):Hp:=λb=>if b=a then some o else H b
theorem aC {H:Hp} {a:Addr} {o:HO}:upd H a o a=some o:=by unfold upd; rw [if_pos rfl]
theorem av {H:Hp} {a b:Addr} {o:HO} (h:b ≠ a):upd H a o b=H b:=by unfold upd; rw [if_neg h]
theorem aR {H:Hp} {a b:Addr} {o:HO} (h:H a=some o) (h':H b=none):a ≠ b:=by
 intro e; subst e; rw [h] at h'; cases h'
section
variable (P:Program) (w:World)
noncomputable def bo (H:Hp) (h:Heap) (a:Addr):HO->Prop
 | .lst xs=>xs.length<=sizeLine/\∃ (its:List Value) (n:Nat),Vals xs its/\h.get? a=some { cls:=.type "list",data:=.seq its.toArray n }
 | .tup xs=>xs.length<=sizeLine/\∃ its:List Value,Vals xs its/\IsTup h a its.toArray
 | .dK kvs=>kvs.length<=sizeLine/\(a == sysModules)=false/\∃ vs,KV kvs vs/\h.DictOf (bf P w) a vs
 | .dT kvs=>kvs.length<=sizeLine/\(a == sysModules)=false/\∃ xs:List (List Key × Addr × Value),
     Paired (λ(p:List Key × V) (q:List Key × Addr × Value)=>p.1=q.1/\H q.2.1=some (.tup (p.1.map kV))/\RelV p.2 q.2.2) kvs xs /\
     ∃ o es ep,h.get? a=some o/\o.ExactDict/\o.data=.dict es ep/\es.toList=xs.map (entryOfKey (tupleKind (bf P w)))/\(xs.map (·.1)).Nodup
 | .set S n=>h.SetOf (intKind P w) a S n
 | .ins C dx fs=>H dx=some (.own a)/\fs.length<=1000/\dx ≠ a/\h.get? a=some (PySem.W.instObj C dx) /\
     ∃ mA,h.Ns1 dx mA/\(∀ f,pH (fs.lookup f) (mA f))/\PySem.Within mA (fs.map (·.1))
 | .own _=>∃ o,h.get? a=some o
 | .xd fs=>∃ mA,h.Ns1 a mA/\∀ f,pH (fs.lookup f) (mA f)
 | .rng lo hi=>∃ t u v,h.get? a=some { cls:=.type "range",data:=.fields #[.int lo t,.int hi u,.int 1 v] }
 | .frz o u=>h.get? a=some o/\bo H h a u
 | .tbl ps=>h.get? a=some { cls:=.none,data:=.fields ps }
 | .met f x=>h.get? a=some (JH (.ref f) (.ref x))
 | .ext φ=>φ h/\(∃ o,h.get? a=some o)/\∀ h1 h2:Heap,φ h1->(∀ o,h1.get? a=some o->h2.get? a=some o)->φ h2
noncomputable def HOk (H:Hp) (h:Heap):Prop:=∀ a o,H a=some o->bo P w H h a o
end
section
variable {P:Program} {w:World} {H H':Hp} {h h':Heap} {a:Addr} {o:HO}
theorem bo.lt (x:bo P w H h a o):a < h.objs.size:=by
 cases o with
 | lst xs=>obtain ⟨_,_,_,_,e⟩:=x; exact Fu e
 | tup xs=>obtain ⟨_,_,_,p⟩:=x; exact p.lt
 | dK kvs=>obtain ⟨_,_,_,_,o,_,_,e,_⟩:=x; exact Fu e
 | dT kvs=>obtain ⟨_,_,_,_,o,_,_,e,_⟩:=x; exact Fu e
 | set S n=>obtain ⟨o,_,_,_,e,_⟩:=x; exact Fu e
 | ins C dx fs=>obtain ⟨_,_,_,e,_⟩:=x; exact Fu e
 | own y=>obtain ⟨_,e⟩:=x; exact Fu e
 | xd fs=>obtain ⟨_,⟨_,_,_,e,_⟩,_⟩:=x; exact Fu e
 | rng lo hi=>obtain ⟨_,_,_,e⟩:=x; exact Fu e
 | frz ob u=>obtain ⟨e,_⟩:=x; exact Fu e
 | tbl ps=>exact Fu (show h.get? a=some _ from x)
 | met f y=>exact Fu (show h.get? a=some _ from x)
 | ext φ=>obtain ⟨_,⟨_,e⟩,_⟩:=x; exact Fu e
theorem Paired.Dw {α β:Type} {F G:α->β->Prop}:∀ {l₁:List α} {l₂:List β},Paired F l₁ l₂->(∀ a b,F a b->G a b)->Paired G l₁ l₂
 | _,_,.nil,_=>.nil
 | _,_,.cons r t,f=>.cons (f _ _ r) (Paired.Dw t f)
theorem bo.kX (x:bo P w H h a o) (k:∀ b u,(b=a\/H b=some (.own a))->h.get? b=some u->h'.get? b=some u)
   (ho:∀ b,H b=some (.own a)->H' b=some (.own a)) (ht:∀ b xs,H b=some (.tup xs)->H' b=some (.tup xs)):bo P w H' h' a o:=by
 induction o with
 | lst xs=>obtain ⟨z,its,n,r,e⟩:=x; exact ⟨z,its,n,r,k _ _ (.inl rfl) e⟩
 | tup xs=>obtain ⟨z,its,r,ob,e,c⟩:=x; exact ⟨z,its,r,ob,k _ _ (.inl rfl) e,c⟩
 | dK kvs=>obtain ⟨z,y,vs,r,ob,es,ep,e,c⟩:=x; exact ⟨z,y,vs,r,ob,es,ep,k _ _ (.inl rfl) e,c⟩
 | dT kvs=>
   obtain ⟨z,y,xs,r,ob,es,ep,e,c⟩:=x
   exact ⟨z,y,xs,Paired.Dw r λp q z=>⟨z.1,ht _ _ z.2.1,z.2.2⟩,ob,es,ep,k _ _ (.inl rfl) e,c⟩
 | set S n=>obtain ⟨ob,es,ep,t,e,c⟩:=x; exact ⟨ob,es,ep,t,k _ _ (.inl rfl) e,c⟩
 | ins C dx fs=>
   obtain ⟨d,z,ne,e,mA,⟨od,es,ep,e2,c⟩,r⟩:=x
   exact ⟨ho _ d,z,ne,k _ _ (.inl rfl) e,mA,⟨od,es,ep,k _ _ (.inr d) e2,c⟩,r⟩
 | own y=>obtain ⟨ob,e⟩:=x; exact ⟨ob,k _ _ (.inl rfl) e⟩
 | xd fs=>obtain ⟨mA,⟨od,es,ep,e,c⟩,r⟩:=x; exact ⟨mA,⟨od,es,ep,k _ _ (.inl rfl) e,c⟩,r⟩
 | rng lo hi=>obtain ⟨t,u,v,e⟩:=x; exact ⟨t,u,v,k _ _ (.inl rfl) e⟩
 | frz ob u ih=>obtain ⟨e,q⟩:=x; exact ⟨k _ _ (.inl rfl) e,ih q⟩
 | tbl ps=>
   have e:h.get? a=some { cls:=.none,data:=.fields ps }:=x
   show h'.get? a=some { cls:=.none,data:=.fields ps }
   exact k a _ (.inl rfl) e
 | met f y=>
   have e:h.get? a=some (JH (.ref f) (.ref y)):=x
   show h'.get? a=some (JH (.ref f) (.ref y))
   exact k a _ (.inl rfl) e
 | ext φ=>obtain ⟨p,⟨o,e⟩,st⟩:=x; exact ⟨st _ _ p λo q=>k _ _ (.inl rfl) q,⟨o,k _ _ (.inl rfl) e⟩,st⟩
theorem HOk.lt (x:HOk P w H h) (e:H a=some o):a < h.objs.size:=(x a o e).lt
theorem HOk.fresh (x:HOk P w H h) (e:h.objs.size<=a):H a=none:=by
 cases q:H a with
 | none=>rfl
 | some u=>exact absurd (Fy (x.lt q) e) (F4 _)
theorem HOk.kept (x:HOk P w H h) (k:∀ b u,h.get? b=some u->h'.get? b=some u):HOk P w H h':=λa o e=>
 (x a o e).kX (λb u _ q=>k b u q) (λ_ q=>q) λ_ _ q=>q
theorem HOk.laid (x:HOk P w H h) (k:∀ b u,h.get? b=some u->h'.get? b=some u) (hp:h.objs.size<=a) (new:bo P w (upd H a o) h' a o):HOk P w (upd H a o) h':=λb u e=>by
 have hn:=x.fresh hp
 by_cases hb:b=a
 · subst hb; rw [aC] at e; cases e; exact new
 · rw [av hb] at e
   exact (x b u e).kX (λc v _ q=>k c v q) (λc q=>by rw [av (aR q hn)]; exact q) λc xs q=>by rw [av (aR q hn)]; exact q
end
noncomputable def Rd (H:Hp) (a:Addr) (u:HO):Prop:=H a=some u\/∃ o,H a=some (.frz o u)
theorem Rd.ok {P:Program} {w:World} {H:Hp} {h:Heap} {a:Addr} {u:HO} (r:Rd H a u) (x:HOk P w H h):bo P w H h a u:=by
 rcases r with r | ⟨o,r⟩
 · exact x a u r
 · obtain ⟨_,q⟩:=x a _ r
   exact q
noncomputable def Mut:Option HO->Prop
 | some (.lst _)=>True
 | some (.dK _)=>True
 | some (.dT _)=>True
 | some (.set _ _)=>True
 | some (.ins _ _ _)=>True
 | some (.ext _)=>True
 | _=>False
section
variable {P:Program} {w:World} {H:Hp} {h h':Heap} {x e:Addr} {o':HO}
theorem HOk.write (ok:HOk P w H h) (mu:Mut (H x)) (he:e=x\/H e=some (.own x)) (k:∀ b u,b ≠ e->h.get? b=some u->h'.get? b=some u) (heo:∃ u,h'.get? e=some u)
   (new:bo P w (upd H x o') h' x o'):HOk P w (upd H x o') h':=λb u q=>by
 have nown:∀ c y,H c=some (.own y)->c ≠ x:=λc y r z=>by subst z; rw [r] at mu; exact mu
 have ntup:∀ c xs,H c=some (.tup xs)->c ≠ x:=λc xs r z=>by subst z; rw [r] at mu; exact mu
 by_cases hb:b=x
 · subst hb; rw [aC] at q; cases q; exact new
 · rw [av hb] at q
   by_cases hbe:b=e
   · have q':H b=some (.own x):=by
       rcases he with z | z
       · exact absurd (hbe.trans z) hb
       · rw [hbe]; exact z
     rw [q] at q'; cases q'
     obtain ⟨v,hv⟩:=heo
     exact ⟨v,by rw [hbe]; exact hv⟩
   · refine (ok b u q).kX (λc v hc r=>k c v ?_ r) (λc r=>by rw [av (nown c b r)]; exact r) λc xs r=>by rw [av (ntup c xs r)]; exact r
     rcases hc with rfl | hc
     · exact hbe
     · rintro rfl
       rcases he with z | z
       · exact nown c b hc z
       · rw [hc] at z; cases z; exact hb rfl
end
structure Un (fs ex:List Addr) (H H':Hp) (h h':Heap):Prop where
 keep:∀ b o,h.get? b=some o->H b=none->b ∉ fs->b ∉ ex->h'.get? b=some o
 slot:∀ b o,h.get? b=some o->H b=none->b ∈ fs->b ∉ ex->∃ sl,h'.get? b=some { o with slots:=sl }
 free:∀ b o,h.get? b=some o->H b=none->b ∉ ex->H' b=none
 there:∀ b o,h.get? b=some o->b ∉ ex->∃ o',h'.get? b=some o'
 tups:∀ b xs,H b=some (.tup xs)->H' b=some (.tup xs)
 frzs:∀ b o u,H b=some (.frz o u)->H' b=some (.frz o u)
 tbls:∀ b ps,H b=some (.tbl ps)->∃ more,H' b=some (.tbl (ps++more))
section
variable {fs fs' ex ex':List Addr} {H H1 H2:Hp} {h h1 h2 h':Heap} {a x e:Addr} {o:HO}
theorem Un.any (u:Un fs ex H H1 h h1) {b:Addr} {ob:Obj} (q:h.get? b=some ob) (n:H b=none) (hx:b ∉ ex):∃ sl,h1.get? b=some { ob with slots:=sl }:=by
 by_cases hb:b ∈ fs
 · exact u.slot b ob q n hb hx
 · exact ⟨ob.slots,u.keep b ob q n hb hx⟩
theorem Un.kept (k:∀ b u,h.get? b=some u->h'.get? b=some u):Un fs ex H H h h':=
 ⟨λb ob q _ _ _=>k b ob q,λb ob q _ _ _=>⟨ob.slots,k b ob q⟩,λ_ _ _ n _=>n,λb ob q _=>⟨ob,k b ob q⟩,λ_ _ q=>q,λ_ _ _ q=>q,λ_ ps q=>⟨#[],by rw [q]; simp⟩⟩
theorem Un.refl:Un fs ex H H h h:=Un.kept λ_ _ q=>q
theorem Un.laid (k:∀ b u,h.get? b=some u->h'.get? b=some u) (hp:h.objs.size<=a) (hn:H a=none):Un fs ex H (upd H a o) h h' where
 keep:=λb u q _ _ _=>k b u q
 slot:=λb u q _ _ _=>⟨u.slots,k b u q⟩
 free:=λb u q n _=>by rw [av (FT (Fy (Fu q) hp))]; exact n
 there:=λb u q _=>⟨u,k b u q⟩
 tups:=λb xs q=>by rw [av (aR q hn)]; exact q
 frzs:=λb u xs q=>by rw [av (aR q hn)]; exact q
 tbls:=λb ps q=>⟨#[],by rw [av (aR q hn),q]; simp⟩
theorem Un.write (mu:Mut (H x)) (he:e=x\/H e=some (.own x)) (k:∀ b u,b ≠ e->h.get? b=some u->h'.get? b=some u) (heo:∃ u,h'.get? e=some u):Un fs ex H (upd H x o) h h':=by
 have hx:∀ b,H b=none->b ≠ x:=λb n z=>by subst z; rw [n] at mu; exact mu
 have hb:∀ b,H b=none->b ≠ e:=λb n z=>by
   subst z
   rcases he with r | r
   · exact hx b n r
   · rw [n] at r; cases r
 have hm:∀ b u,H b=some u->¬ Mut (some u)->b ≠ x:=λb u q nm z=>by subst z; rw [q] at mu; exact nm mu
 refine ⟨λb u q n _ _=>k b u (hb b n) q,λb u q n _ _=>⟨u.slots,k b u (hb b n) q⟩,λb u q n _=>by rw [av (hx b n)]; exact n,λb u q _=>?_,
   λb xs q=>by rw [av (hm b _ q λz=>z)]; exact q,λb u xs q=>by rw [av (hm b _ q λz=>z)]; exact q,λb ps q=>⟨#[],by rw [av (hm b _ q λz=>z),q]; simp⟩⟩
 by_cases hbe:b=e
 · subst hbe; exact heo
 · exact ⟨u,k b u hbe q⟩
end
noncomputable def trk (h:Heap) (H:Hp):List Addr:=(Fd h.objs.size).filter λa=>(H a).isSome
noncomputable def nC (h:Heap) (H:Hp):Heap:=PySem.W.hideAll h (trk h H)
theorem uL (h:Heap) (H:Hp):(nC h H).objs.size=h.objs.size:=PySem.W.hideAll_size _ _
theorem xD {h:Heap} {H:Hp} {b:Addr} {o:Obj} (e:h.get? b=some o) (n:H b=none):(nC h H).get? b=some o:=
 PySem.W.hideAll_get _ e λhm=>by
   have q:(H b).isSome=true:=(Hn.mp hm).2
   rw [n] at q; simp at q
theorem yU {h:Heap} {H:Hp} {b:Addr} {o:Obj} (e:(nC h H).get? b=some o):h.get? b=some o/\H b=none:=by
 have e':h.get? b=some o:=PySem.W.of_hideAll (trk h H) e
 refine ⟨e',?_⟩
 cases q:H b with
 | none=>rfl
 | some x=>
   have hm:b ∈ trk h H:=Hn.mpr ⟨FN.mpr (Fu e'),by simp [q]⟩
   have z:(nC h H).get? b=none:=PySem.W.hideAll_none (trk h H) hm
   rw [z] at e; cases e
noncomputable def yW (g h:Heap) (L:Addr):List (Addr × Obj):=(Fd h.objs.size).filterMap λa=>if a=L\/(g.get? a).isSome=true then none else (h.get? a).map λo=>(a,o)
noncomputable def rest (g h:Heap) (L d:Addr):List (Addr × Obj):=(yW g h L).filter λp=>decide (p.1 ≠ d)
structure Mod (K:Fb) (mg:Str->Option Value) (base:Heap):Prop where
 kin:K.In base
 glob:base.Ns mainGlobals mg
 blt:∃ mb,base.Ns builtinsNs mb/\∀ x:Str,x ≠ "__name__" -> mb x=bootBuiltins x
 nolimit:base.NoLimit
structure Cx where
 prog:Program
 w:World
 K:Fb
 mg:Str->Option Value
 base:Heap
 A:Around
 N:List Str
 s₀:Shared
 H₀:Hp
 env:Env
 outer:List Env
 stack:List Env
 ex:List Addr
 fn:Str->Bool
 calm:Bool
 pn:List (Addr × Obj)
 xe:Value->Shared->Prop
noncomputable def frs (l:List Env):List Addr:=l.filterMap (·.frame)
noncomputable abbrev Cx.fs (X:Cx):List Addr:=frs X.outer
noncomputable def Vis (sc:Scope) (x:Str):Prop:=sc.names.lookup x=some .local\/sc.names.lookup x=some .cell\/sc.names.lookup x=some .free
noncomputable def Loc (sc:Scope) (x:Str):Prop:=sc.names.lookup x=some .local\/sc.names.lookup x=some .cell
noncomputable def Look (env:Env) (h:Heap) (m:Str->Option Value) (x:Str) (u:Value):Prop:=
 (env.kindOf x=some .local/\m x=some u)\/((env.kindOf x=some .cell\/env.kindOf x=some .free)/\∃ c,env.cells.lookup x=some c/\h.IsCell c (some u))
structure Cx.Ok (X:Cx):Prop where
 mod:Mod X.K X.mg X.base
 kind:X.env.scope.kind=.function
 glob:X.env.globals=mainGlobals
 blt:X.env.builtins=builtinsNs
 above:X.s₀.heap.objs.size<=X.env.locals
 inj:∀ x y c,X.env.cells.lookup x=some c->X.env.cells.lookup y=some c->x=y
 has:∀ x,(X.env.kindOf x=some .cell\/X.env.kindOf x=some .free)->∃ c,X.env.cells.lookup x=some c
 cab:∀ x c,X.fn x=true->X.env.cells.lookup x=some c->X.s₀.heap.objs.size<=c
 hd:X.calm=true->X.A.handled=none
 frames:X.A.frames=some X.stack
 stk:X.stack=X.outer\/(X.stack=X.env :: X.outer/\X.env.frame=some X.env.locals)
 exf:∀ b ∈ X.ex,b ≠ X.env.locals/\∀ x c,X.env.cells.lookup x=some c->c ≠ b
 bs:∀ b o,X.base.get? b=some o->X.s₀.heap.get? b=some o/\X.H₀ b=none
 bsz:X.base.objs.size<=X.s₀.heap.objs.size
 noex:∀ b o,X.base.get? b=some o->b ∉ X.ex
 exfs:∀ b ∈ X.ex,b ∉ X.fs
 k6:X.s₀.heap.FunFrames X.base X.outer
 frf:∀ b ∈ X.fs,X.H₀ b=none
structure Inv (X:Cx) (pins:List (Addr × Obj)) (σ:List (Option V)) (H:Hp) (s:Shared):Prop where
 ok:X.Ok
 os:s.os=X.s₀.os
 bare:AllBare s.gens
 base:Un X.fs X.ex X.H₀ H X.s₀.heap s.heap
 loc:∃ m,s.heap.Ns X.env.locals m/\∀ (i:Nat) (x:Str) (v:V),X.N[i]?=some x->σ[i]?=some (some v)->Vis X.env.scope x->∃ u,RelV v u/\Look X.env s.heap m x u
 cell:∀ x c,X.env.cells.lookup x=some c->∃ v,s.heap.IsCell c v
 free:H X.env.locals=none
 freeC:∀ x c,X.env.cells.lookup x=some c->H c=none
 pin:∀ p ∈ X.pn++pins,s.heap.get? p.1=some p.2/\H p.1=none/\p.1 ≠ X.env.locals/\p.1 ∉ X.fs/\∀ v,p.2.data ≠ .cell v
 hok:HOk X.prog X.w H s.heap
 len:σ.length=X.N.length
section
variable {X:Cx} {pins:List (Addr × Obj)} {σ:List (Option V)} {H H':Hp} {s:Shared} {h':Heap}
theorem Cx.Ok.EI (ok:X.Ok) {b:Addr} {o:Obj} (e:X.base.get? b=some o):b ∉ X.fs:=λhb=>by
 have:=(ok.k6.mem hb).1
 rw [e] at this; cases this
theorem Inv.bs (I:Inv X pins σ H s):∀ b o,X.base.get? b=some o->s.heap.get? b=some o/\H b=none:=λb o e=>
 ⟨I.base.keep b o (I.ok.bs b o e).1 (I.ok.bs b o e).2 (I.ok.EI e) (I.ok.noex b o e),I.base.free b o (I.ok.bs b o e).1 (I.ok.bs b o e).2 (I.ok.noex b o e)⟩
theorem Inv.bk (I:Inv X pins σ H s):∀ b o,X.base.get? b=some o->s.heap.get? b=some o:=λb o e=>(I.bs b o e).1
theorem Inv.mod (I:Inv X pins σ H s):Mod X.K X.mg X.base:=I.ok.mod
theorem Inv.kIn (I:Inv X pins σ H s):X.K.In s.heap:=I.ok.mod.kin.keeps I.bk
theorem Inv.lt (I:Inv X pins σ H s):X.env.locals < s.heap.objs.size:=let ⟨_,hn,_⟩:=I.loc; hn.lt
theorem Inv.sz (I:Inv X pins σ H s):X.s₀.heap.objs.size<=s.heap.objs.size:=Fz I.ok.above (GR I.lt)
theorem Inv.EO (I:Inv X pins σ H s) {a:Addr} (h:s.heap.objs.size<=a):a ∉ X.fs:=λhb=>by
 obtain ⟨_,o,ho,_⟩:=I.ok.k6.mem hb
 exact absurd (Fy (Fu ho) (Fz I.sz h)) (F4 _)
theorem Inv.cne (I:Inv X pins σ H s):∀ x c,X.env.cells.lookup x=some c->c ≠ X.env.locals:=λx c e z=>by
 obtain ⟨v,o,ho,hd⟩:=I.cell x c e
 obtain ⟨m,⟨o',es,ep,ho',hd',_⟩,_⟩:=I.loc
 rw [z,ho'] at ho; cases ho; rw [hd'] at hd; cases hd
theorem Inv.k6 (I:Inv X pins σ H s):s.heap.FunFrames X.base X.outer:=by
 have all:∀ (l:List Env),(∀ b ∈ frs l,b ∈ X.fs)->X.s₀.heap.FunFrames X.base l->s.heap.FunFrames X.base l:=by
   intro l
   induction l with
   | nil=>intro _ _; trivial
   | cons env r ih=>
     intro hs hl
     obtain ⟨hk,⟨L,o,hf,hn,ho,hd⟩,hr⟩:=hl
     have hL:L ∈ X.fs:=hs L (by unfold frs; rw [JG,hf]; exact Fi)
     obtain ⟨sl,e⟩:=I.base.slot L o ho (I.ok.frf L hL) hL λz=>I.ok.exfs L z hL
     exact ⟨hk,⟨L,_,hf,hn,e,hd⟩,ih (λb hb=>hs b (by unfold frs; rw [JG,hf]; exact Fh _ hb)) hr⟩
 exact all X.outer (λ_ hb=>hb) I.ok.k6
theorem Inv.stack (I:Inv X pins σ H s):s.heap.FunFrames X.base X.stack:=by
 rcases I.ok.stk with e | ⟨e,hf⟩
 · rw [e]; exact I.k6
 · rw [e]
   obtain ⟨m,hn,_⟩:=I.loc
   refine .cons (by rw [I.ok.kind]; decide) hf hn ?_ I.k6
   exact Heap.get?_none_of_le (Fz I.ok.bsz I.ok.above)
theorem Inv.qY (I:Inv X pins σ H s):∀ b ∈ frs X.stack,b ∈ X.env.locals :: X.fs:=λb hb=>by
 rcases I.ok.stk with e | ⟨e,hf⟩
 · rw [e] at hb; exact Fh _ hb
 · rw [e] at hb
   unfold frs at hb
   rw [JG,hf] at hb
   exact hb
theorem Inv.tK (I:Inv X pins σ H s):∀ b ∈ frs X.stack,H b=none:=λb hb=>by
 rcases Fv.mp (I.qY b hb) with e | hb
 · rw [e]; exact I.free
 · obtain ⟨_,o,ho,_⟩:=I.ok.k6.mem hb
   exact I.base.free b o ho (I.ok.frf b hb) λz=>I.ok.exfs b z hb
theorem Inv.step {g':Array GenState} {t':Nat} {d':Drawn} {ch:List Addr} (I:Inv X pins σ H s)
   (hch:∀ b ∈ ch,(b ∈ X.ex\/X.s₀.heap.objs.size<=b)/\b ≠ X.env.locals/\(∀ x c,X.env.cells.lookup x=some c->c ≠ b)/\∀ p ∈ X.pn++pins,p.1 ≠ b)
   (keep:∀ b o,b ≠ X.env.locals->b ∉ X.fs->b ∉ ch->s.heap.get? b=some o->H b=none->h'.get? b=some o)
   (slot:∀ b o,b ≠ X.env.locals->b ∈ X.fs->b ∉ ch->s.heap.get? b=some o->H b=none->∃ sl,h'.get? b=some { o with slots:=sl }) (free:∀ b o,b ∉ ch->s.heap.get? b=some o->H b=none->H' b=none)
   (there:∀ b o,b ∉ ch->s.heap.get? b=some o->∃ o',h'.get? b=some o')
   (tups:∀ b xs,H b=some (.tup xs)->H' b=some (.tup xs)) (frzs:∀ b o u,H b=some (.frz o u)->H' b=some (.frz o u)) (tbls:∀ b ps,H b=some (.tbl ps)->∃ more,H' b=some (.tbl (ps++more)))
   (ns:∀ m,s.heap.Ns X.env.locals m->h'.Ns X.env.locals m) (hok:HOk X.prog X.w H' h') (hg:AllBare g') :
   Inv X pins σ H' { s with heap:=h',gens:=g',drawn:=d',toks:=t' }:=by
 have neL:∀ b o,X.s₀.heap.get? b=some o->b ≠ X.env.locals:=λb o e=>FT (Fy (Fu e) I.ok.above)
 have neC:∀ b o,X.s₀.heap.get? b=some o->b ∉ X.ex->b ∉ ch:=λb o e hx hb=>by
   rcases (hch b hb).1 with z | z
   · exact hx z
   · exact absurd (Fy (Fu e) z) (F4 _)
 have cellK:∀ x c,X.env.cells.lookup x=some c->∀ v,s.heap.IsCell c v->h'.IsCell c v:=λx c e v ⟨o,ho,hd⟩=>by
   have nch:c ∉ ch:=λz=>(hch c z).2.2.1 x c e rfl
   by_cases hc:c ∈ X.fs
   · obtain ⟨sl,q⟩:=slot c o (I.cne x c e) hc nch ho (I.freeC x c e)
     exact ⟨_,q,hd⟩
   · exact ⟨o,keep c o (I.cne x c e) hc nch ho (I.freeC x c e),hd⟩
 refine ⟨I.ok,I.os,hg,⟨λb o e n hb hx=>?_,λb o e n hb hx=>?_,λb o e n hx=>?_,λb o e hx=>?_,λb xs e=>tups b xs (I.base.tups b xs e),λb o xs e=>frzs b o xs (I.base.frzs b o xs e),λb ps e=>?_⟩,?_,λx c e=>?_,?_,λx c e=>?_,λp hp=>?_,hok,I.len⟩
 · exact keep b o (neL b o e) hb (neC b o e hx) (I.base.keep b o e n hb hx) (I.base.free b o e n hx)
 · obtain ⟨sl,e1⟩:=I.base.slot b o e n hb hx
   obtain ⟨sl',e2⟩:=slot b _ (neL b o e) hb (neC b o e hx) e1 (I.base.free b o e n hx)
   exact ⟨sl',e2⟩
 · obtain ⟨o',e1⟩:=I.base.there b o e hx
   exact free b o' (neC b o e hx) e1 (I.base.free b o e n hx)
 · obtain ⟨o',e1⟩:=I.base.there b o e hx
   exact there b o' (neC b o e hx) e1
 · obtain ⟨m1,e1⟩:=I.base.tbls b ps e
   obtain ⟨m2,e2⟩:=tbls b _ e1
   exact ⟨m1++m2,by rw [e2,Array.append_assoc]⟩
 · obtain ⟨m,hn,hl⟩:=I.loc
   refine ⟨m,ns m hn,λi x v e1 e2 e3=>?_⟩
   obtain ⟨u,r,l⟩:=hl i x v e1 e2 e3
   refine ⟨u,r,?_⟩
   rcases l with l | ⟨k,c,e,z⟩
   · exact .inl l
   · exact .inr ⟨k,c,e,cellK x c e _ z⟩
 · obtain ⟨v,z⟩:=I.cell x c e
   exact ⟨v,cellK x c e v z⟩
 · obtain ⟨m,⟨o,_,_,ho,_⟩,_⟩:=I.loc
   exact free _ o (λz=>(hch _ z).2.1 rfl) ho I.free
 · obtain ⟨v,o,ho,hd⟩:=I.cell x c e
   exact free c o (λz=>(hch c z).2.2.1 x c e rfl) ho (I.freeC x c e)
 · obtain ⟨e,n,ne,nf,d⟩:=I.pin p hp
   have nch:p.1 ∉ ch:=λz=>(hch p.1 z).2.2.2 p hp rfl
   exact ⟨keep p.1 p.2 ne nf nch e n,free p.1 p.2 nch e n,ne,nf,d⟩
theorem Inv.un {t':Nat} (I:Inv X pins σ H s) (u:Un X.fs [] H H' s.heap h') (hok:HOk X.prog X.w H' h'):Inv X pins σ H' { s with heap:=h',toks:=t' }:=by
 obtain ⟨m,⟨o,es,ep,ho,r⟩,_⟩:=id I.loc
 obtain ⟨sl,hL⟩:=u.any ho I.free (by simp)
 exact I.step (g':=s.gens) (d':=s.drawn) (ch:=[]) (λ_ z=>nomatch z) (λb o _ hb _ e n=>u.keep b o e n hb (by simp)) (λb o _ hb _ e n=>u.slot b o e n hb (by simp)) (λb o _ e n=>u.free b o e n (by simp)) (λb o _ e=>u.there b o e (by simp)) u.tups u.frzs u.tbls (λm' hm=>by
   obtain ⟨o',es',ep',ho',r'⟩:=hm
   rw [ho] at ho'; cases ho'
   exact ⟨_,es',ep',hL,r'⟩) hok I.bare
theorem Inv.call {g':Array GenState} {t':Nat} {d':Drawn} {ch:List Addr} (I:Inv X pins σ H s) (u:Un (frs X.stack) ch H H' s.heap h') (hok:HOk X.prog X.w H' h') (hg:AllBare g')
   (hch:∀ b ∈ ch,(b ∈ X.ex\/X.s₀.heap.objs.size<=b)/\b ≠ X.env.locals/\(∀ x c,X.env.cells.lookup x=some c->c ≠ b)/\∀ p ∈ X.pn++pins,p.1 ≠ b) :
   Inv X pins σ H' { s with heap:=h',gens:=g',drawn:=d',toks:=t' }:=by
 obtain ⟨m,⟨o,es,ep,ho,r⟩,_⟩:=id I.loc
 obtain ⟨sl,hL⟩:=u.any ho I.free λz=>(hch _ z).2.1 rfl
 exact I.step (ch:=ch) hch (λb o hL hb hc e n=>u.keep b o e n (λz=>(Fv.mp (I.qY b z)).elim hL hb) hc) (λb o _ _ hc e n=>u.any e n hc) (λb o hc e n=>u.free b o e n hc) (λb o hc e=>u.there b o e hc) u.tups u.frzs u.tbls (λm' hm=>by
   obtain ⟨o',es',ep',ho',r'⟩:=hm
   rw [ho] at ho'; cases ho'
   exact ⟨_,es',ep',hL,r'⟩) hok hg
theorem Inv.turned {t':Nat} {it:Addr} (I:Inv X pins σ H s) (k:∀ b o,b ≠ it->s.heap.get? b=some o->h'.get? b=some o) (hn:H it=none) (hL:it ≠ X.env.locals)
   (h1:it ∈ X.ex\/X.s₀.heap.objs.size<=it) (h2:∀ x c,X.env.cells.lookup x=some c->c ≠ it) (h3:∀ p ∈ X.pn++pins,p.1 ≠ it):Inv X pins σ H { s with heap:=h',toks:=t' }:=by
 have nit:∀ b u,H b=some u->b ≠ it:=λb u e z=>by rw [z,hn] at e; cases e
 refine I.step (g':=s.gens) (d':=s.drawn) (ch:=[it]) (λb hb=>?_) (λb o _ _ hc e _=>k b o (λz=>hc (by simp [z])) e) (λb o _ _ hc e _=>⟨o.slots,k b o (λz=>hc (by simp [z])) e⟩) (λ_ _ _ _ n=>n)
   (λb o hc e=>⟨o,k b o (λz=>hc (by simp [z])) e⟩) (λ_ _ e=>e) (λ_ _ _ e=>e) (λb ps e=>⟨#[],by rw [e]; simp⟩) (λm hm=>?_) (λb u e=>?_) I.bare
 · have e:b=it:=by simpa using hb
   subst e
   exact ⟨h1,hL,h2,h3⟩
 · obtain ⟨o,es,ep,ho,r⟩:=hm
   exact ⟨o,es,ep,k _ o (GG hL) ho,r⟩
 · refine (I.hok b u e).kX (λc v hc q=>k c v ?_ q) (λ_ q=>q) λ_ _ q=>q
   rcases hc with z | z
   · rw [z]; exact nit b u e
   · exact nit c _ z
theorem Inv.tok (I:Inv X pins σ H s) (t:Nat):Inv X pins σ H { s with toks:=t }:=I.un (h':=s.heap) (t':=t) Un.refl I.hok
theorem Inv.kept {t':Nat} (I:Inv X pins σ H s) (k:∀ b u,s.heap.get? b=some u->h'.get? b=some u):Inv X pins σ H { s with heap:=h',toks:=t' }:=I.un (Un.kept k) (I.hok.kept k)
theorem Inv.laid {a:Addr} {o:HO} {t':Nat} (I:Inv X pins σ H s) (k:∀ b u,s.heap.get? b=some u->h'.get? b=some u) (hp:s.heap.objs.size<=a) (new:bo X.prog X.w (upd H a o) h' a o) :
   Inv X pins σ (upd H a o) { s with heap:=h',toks:=t' }:=I.un (Un.laid k hp (I.hok.fresh hp)) (I.hok.laid k hp new)
theorem Inv.write {x e:Addr} {o:HO} {t':Nat} (I:Inv X pins σ H s) (mu:Mut (H x)) (he:e=x\/H e=some (.own x)) (k:∀ b u,b ≠ e->s.heap.get? b=some u->h'.get? b=some u) (heo:∃ u,h'.get? e=some u)
   (new:bo X.prog X.w (upd H x o) h' x o):Inv X pins σ (upd H x o) { s with heap:=h',toks:=t' }:=I.un (Un.write mu he k heo) (I.hok.write mu he k heo new)
theorem Inv.tV {pins':List (Addr × Obj)} (I:Inv X pins σ H s) (h:∀ p ∈ pins',s.heap.get? p.1=some p.2/\H p.1=none/\p.1 ≠ X.env.locals/\p.1 ∉ X.fs/\∀ v,p.2.data ≠ .cell v):Inv X pins' σ H s:=
 ⟨I.ok,I.os,I.bare,I.base,I.loc,I.cell,I.free,I.freeC,λp hp=>(Fs.mp hp).elim (λz=>I.pin p (FD _ z)) (h p),I.hok,I.len⟩
theorem pR {N:List Str} (hN:N.Nodup) {i j:Nat} {x:Str} (a:N[i]?=some x) (b:N[j]?=some x):i=j:=by
 obtain ⟨h1,e1⟩:=Fn.mp a
 obtain ⟨h2,e2⟩:=Fn.mp b
 exact (List.getElem_inj hN).mp (e1.trans e2.symm)
theorem uP {M:Model} {A:Around} {E:Value->Shared->Prop} {i:Nat} {x:Str} {v:V} {u:Value} {Q:Unit->Shared->Prop} (I:Inv X pins σ H s) (hN:X.N.Nodup) (hi:X.N[i]?=some x) (hx:Loc X.env.scope x) (r:RelV v u)
   (h:∀ s',Inv X pins (σ.set i (some v)) H s'->(∃ a,IA a s.heap s'.heap/\(a=X.env.locals\/X.env.cells.lookup x=some a))->Q () s') (hf:X.fn x=true\/X.env.scope.names.lookup x=some .local:=by first | exact .inl rfl | exact .inr rfl | assumption):wpAny M A (storeName X.env x u) Q E s:=by
 obtain ⟨m,hn,hl⟩:=id I.loc
 have hcls:(X.env.scope.kind == .class || (X.env.scope.kind == .module && X.env.locals != X.env.globals))=false:=by rw [I.ok.kind]; rfl
 have hiσ:i < σ.length:=by rw [I.len]; exact (Fn.mp hi).1
 have cne:=I.cne
 have tracked:∀ {a:Addr} {h':Heap},(∃ o,s.heap.get? a=some o/\H a=none)->IA a s.heap h'->HOk X.prog X.w H h':=λ{a h'} ha hs b ob e=>by
   obtain ⟨_,_,hfree⟩:=ha
   refine (I.hok b ob e).kX (λc w' hc q=>(hs.2 c ?_).trans q) (λ_ q=>q) λ_ _ q=>q
   rintro rfl
   rcases hc with rfl | hc
   · rw [hfree] at e; cases e
   · rw [hfree] at hc; cases hc
 rcases hx with hk | hk
 · refine wpAny_storeName_local hk hn (λh' hn' hs=>?_) hcls
   obtain ⟨oL,_,_,hoL,_⟩:=id hn
   refine h _ ⟨I.ok,I.os,I.bare,⟨λb o e n hb hx=>?_,λb o e n hb hx=>?_,I.base.free,λb o e hx=>?_,I.base.tups,I.base.frzs,I.base.tbls⟩,⟨_,hn',λj y v' e1 e2 e3=>?_⟩,λy c e=>?_,I.free,I.freeC,λp hp=>?_,tracked ⟨oL,hoL,I.free⟩ hs,by simpa using I.len⟩ ⟨_,hs,.inl rfl⟩
   · exact (hs.2 b (FT (Fy (Fu e) I.ok.above))).trans (I.base.keep b o e n hb hx)
   · obtain ⟨sl,e1⟩:=I.base.slot b o e n hb hx
     exact ⟨sl,(hs.2 b (FT (Fy (Fu e) I.ok.above))).trans e1⟩
   · obtain ⟨o',e1⟩:=I.base.there b o e hx
     exact ⟨o',(hs.2 b (FT (Fy (Fu e) I.ok.above))).trans e1⟩
   · by_cases hj:j=i
     · subst hj
       rw [hi] at e1; cases e1
       rw [FP hiσ] at e2
       cases e2
       exact ⟨u,r,.inl ⟨hk,by simp⟩⟩
     · rw [Ft (GG hj)] at e2
       obtain ⟨u',r',q⟩:=hl j y v' e1 e2 e3
       refine ⟨u',r',?_⟩
       rcases q with ⟨k,e⟩ | ⟨k,c,e,z⟩
       · refine .inl ⟨k,?_⟩
         have:y ≠ x:=λe=>hj (pR hN e1 (e ▸ hi))
         simp [this,e]
       · exact .inr ⟨k,c,e,z.sameBut hs (cne y c e)⟩
   · obtain ⟨w',z⟩:=I.cell y c e
     exact ⟨w',z.sameBut hs (cne y c e)⟩
   · obtain ⟨e,n,ne,nf,d⟩:=I.pin p hp
     exact ⟨(hs.2 p.1 ne).trans e,n,ne,nf,d⟩
 · have hfn:X.fn x=true:=by
     rcases hf with z | z
     · exact z
     · rw [z] at hk; cases hk
   obtain ⟨c,hc⟩:=I.ok.has x (.inl hk)
   obtain ⟨w',z⟩:=I.cell x c hc
   refine wpAny_storeName_cell I.ok.kind hk hc z (λh' hc' hs=>?_)
   obtain ⟨oc,hoc,hocd⟩:=id z
   refine h { s with heap:=h' } ⟨I.ok,I.os,I.bare,⟨λb o e n hb hx=>?_,λb o e n hb hx=>?_,I.base.free,λb o e hx=>?_,I.base.tups,I.base.frzs,I.base.tbls⟩,⟨m,hn.sameBut hs (GG (cne x c hc)),λj y v' e1 e2 e3=>?_⟩,λy c' e=>?_,I.free,I.freeC,λp hp=>?_,tracked ⟨oc,hoc,I.freeC x c hc⟩ hs,by simpa using I.len⟩ ⟨c,hs,.inr hc⟩
   · exact (hs.2 b (FT (Fy (Fu e) (I.ok.cab x c hfn hc)))).trans (I.base.keep b o e n hb hx)
   · obtain ⟨sl,e1⟩:=I.base.slot b o e n hb hx
     exact ⟨sl,(hs.2 b (FT (Fy (Fu e) (I.ok.cab x c hfn hc)))).trans e1⟩
   · obtain ⟨o',e1⟩:=I.base.there b o e hx
     exact ⟨o',(hs.2 b (FT (Fy (Fu e) (I.ok.cab x c hfn hc)))).trans e1⟩
   · by_cases hj:j=i
     · subst hj
       rw [hi] at e1; cases e1
       rw [FP hiσ] at e2
       cases e2
       exact ⟨u,r,.inr ⟨.inl hk,c,hc,hc'⟩⟩
     · rw [Ft (GG hj)] at e2
       obtain ⟨u',r',q⟩:=hl j y v' e1 e2 e3
       refine ⟨u',r',?_⟩
       rcases q with q | ⟨k,c',e,z'⟩
       · exact .inl q
       · refine .inr ⟨k,c',e,z'.sameBut hs ?_⟩
         rintro rfl
         exact hj (pR hN e1 (I.ok.inj _ _ _ e hc ▸ hi))
   · by_cases hcc:c'=c
     · subst hcc; exact ⟨_,hc'⟩
     · obtain ⟨w2,z2⟩:=I.cell y c' e
       exact ⟨w2,z2.sameBut hs hcc⟩
   · obtain ⟨e,n,ne,nf,d⟩:=I.pin p hp
     refine ⟨(hs.2 p.1 ?_).trans e,n,ne,nf,d⟩
     intro q
     rw [q,hoc] at e
     have q':oc=p.2:=FX e
     exact d w' (by rw [<- q']; exact hocd)
theorem qi {M:Model} {A:Around} {E:Value->Shared->Prop} {i:Nat} {x:Str} {v:V} {u:Value} {Q:Unit->Shared->Prop} (I:Inv X pins σ H s) (hN:X.N.Nodup) (hi:X.N[i]?=some x) (hx:Loc X.env.scope x) (r:RelV v u)
   (h:∀ s',Inv X pins (σ.set i (some v)) H s'->Q () s') (hf:X.fn x=true\/X.env.scope.names.lookup x=some .local:=by first | exact .inl rfl | exact .inr rfl | assumption):wpAny M A (storeName X.env x u) Q E s:=
 uP I hN hi hx r (λs' I' _=>h s' I') hf
theorem Inv.AG {s':Shared} {ch:List Addr} (I:Inv X pins σ H s) (ho:s'.os=s.os) (u:Un (frs X.stack) ch H H' s.heap s'.heap) (hok:HOk X.prog X.w H' s'.heap) (hg:AllBare s'.gens)
   (hch:∀ b ∈ ch,(b ∈ X.ex\/X.s₀.heap.objs.size<=b)/\b ≠ X.env.locals/\(∀ x c,X.env.cells.lookup x=some c->c ≠ b)/\∀ p ∈ X.pn++pins,p.1 ≠ b):Inv X pins σ H' s':=by
 obtain ⟨h',g',d',t',o'⟩:=s'
 have e:o'=s.os:=ho
 subst e
 exact I.call (g':=g') (t':=t') (d':=d') u hok hg hch
end
noncomputable abbrev XK:=Value->Option Addr->Hp->Prop
noncomputable abbrev St:=List (Option V)
noncomputable abbrev VK:=V->Hp->Prop
noncomputable abbrev TE:=St->Hp->VK->Prop
noncomputable abbrev TT:=St->Hp->(Bool->Hp->Prop)->Prop
noncomputable abbrev TA:=St->Hp->(List V->Hp->Prop)->Prop
structure Ends where
 nx:St->Hp->Prop
 rt:VK
 bk:St->Hp->Prop:=λ_ _=>False
 ct:St->Hp->Prop:=λ_ _=>False
noncomputable abbrev TS:=Ends->St->Hp->Prop
noncomputable def EP (X:Cx) (pins:List (Addr × Obj)) (σ:St) (Q:VK) (u:Value) (s':Shared):Prop:=∃ v H',Inv X pins σ H' s'/\RelV v u/\Q v H'
noncomputable def TP (X:Cx) (pins:List (Addr × Obj)) (σ:St) (Q:Bool->Hp->Prop) (b:Bool) (s':Shared):Prop:=∃ H',Inv X pins σ H' s'/\Q b H'
noncomputable def AP (X:Cx) (pins:List (Addr × Obj)) (σ:St) (Q:List V->Hp->Prop) (us:List Value) (s':Shared):Prop:=∃ vs H',Inv X pins σ H' s'/\Vals vs us/\Q vs H'
noncomputable def SP (X:Cx) (pins:List (Addr × Obj)) (D:Ends) (f:Flow) (s':Shared):Prop:=
 match f with
 | .next=>∃ σ' H',Inv X pins σ' H' s'/\D.nx σ' H'
 | .brk=>∃ σ' H',Inv X pins σ' H' s'/\D.bk σ' H'
 | .cont=>∃ σ' H',Inv X pins σ' H' s'/\D.ct σ' H'
 | .ret u=>∃ v σ' H',Inv X pins σ' H' s'/\RelV v u/\D.rt v H'
noncomputable def PE (X:Cx) (e:Expr) (t:TE):Prop:=
 ∀ (pins:List (Addr × Obj)) (s:Shared) (σ:St) (H:Hp) (Q:VK),Inv X pins σ H s->t σ H Q->wpAny (model X.prog X.w) X.A (eval e X.env) (EP X pins σ Q) X.xe s
noncomputable def PT (X:Cx) (e:Expr) (t:TT):Prop:=
 ∀ (pins:List (Addr × Obj)) (s:Shared) (σ:St) (H:Hp) (Q:Bool->Hp->Prop),Inv X pins σ H s->t σ H Q->wpAny (model X.prog X.w) X.A (isTrue e X.env (eval e X.env)) (TP X pins σ Q) X.xe s
noncomputable def PW (X:Cx) (e:Expr) (t:TT):Prop:=
 ∀ (whole:Sem Value) (pins:List (Addr × Obj)) (s:Shared) (σ:St) (H:Hp) (Q:Bool->Hp->Prop),Inv X pins σ H s->t σ H Q->wpAny (model X.prog X.w) X.A (isTrue e X.env whole) (TP X pins σ Q) X.xe s
theorem PW.pt {X:Cx} {e:Expr} {t:TT} (h:PW X e t):PT X e t:=h _
noncomputable def PA (X:Cx) (es:List Expr) (t:TA):Prop:=
 ∀ (pos:Pos) (pins:List (Addr × Obj)) (s:Shared) (σ:St) (H:Hp) (Q:List V->Hp->Prop),Inv X pins σ H s->t σ H Q->wpAny (model X.prog X.w) X.A (spliced (backTo pos (starEach es X.env))) (AP X pins σ Q) X.xe s
noncomputable def PS (X:Cx) (st:Stmt) (t:TS):Prop:=
 ∀ (pins:List (Addr × Obj)) (s:Shared) (σ:St) (H:Hp) (D:Ends),Inv X pins σ H s->t D σ H->wpAny (model X.prog X.w) X.A (exec st X.env) (SP X pins D) X.xe s
noncomputable def PSs (X:Cx) (st:List Stmt) (t:TS):Prop:=
 ∀ (pins:List (Addr × Obj)) (s:Shared) (σ:St) (H:Hp) (D:Ends),Inv X pins σ H s->t D σ H->wpAny (model X.prog X.w) X.A (execs st X.env) (SP X pins D) X.xe s
theorem thn {α:Type} {t:Sem α} {Q Q':α->Shared->Prop} {M:Model} {A:Around} {E:Value->Shared->Prop} {s:Shared} (h:wpAny M A t Q E s) (hQ:∀ a s,Q a s->Q' a s):wpAny M A t Q' E s:=wpAny_mono h hQ λ_ _ x=>x
section
variable {X:Cx}
theorem bin {a b:Expr} {ta tb:TE} (ha:PE X a ta) (hb:PE X b tb) {pins:List (Addr × Obj)} {s:Shared} {σ:St} {H:Hp} {R:V->V->Hp->Prop} (I:Inv X pins σ H s) (h:ta σ H λx H1=>tb σ H1 λy H2=>R x y H2)
   {α:Type} {Q:α->Shared->Prop} {f:Value->Value->Sem α}
   (hf:∀ v u s2 x y H2,Inv X pins σ H2 s2->RelV x v->RelV y u->R x y H2->wpAny (model X.prog X.w) X.A (f v u) Q X.xe s2) :
   wpAny (model X.prog X.w) X.A (eval a X.env) (λv s₁=>wpAny (model X.prog X.w) X.A (eval b X.env) (λu s₂=>wpAny (model X.prog X.w) X.A (f v u) Q X.xe s₂) X.xe s₁) X.xe s:=by
 refine thn (ha pins s σ H _ I h) λv s1 ⟨x,H1,I1,r1,q1⟩=>?_
 refine thn (hb pins s1 σ H1 _ I1 q1) λu s2 ⟨y,H2,I2,r2,q2⟩=>?_
 exact hf v u s2 x y H2 I2 r1 r2 q2
noncomputable def Eb (i:Nat):TE:=λσ H Q=>∃ v,σ[i]?=some (some v)/\Q v H
noncomputable def tC (v:V):TE:=λ_ H Q=>Q v H
theorem bx {i:Nat} {x:Str} {pos:Pos} (hN:X.N[i]?=some x) (hv:Vis X.env.scope x) (hd:(x == ("__debug__" : Str))=false:=by decide) (hcd:(x == ("__classdict__" : Str))=false:=by decide):PE X (.Name x pos) (Eb i):=by
 intro pins s σ H Q I h
 obtain ⟨v,e,h⟩:=h
 obtain ⟨m,hn,hl⟩:=I.loc
 obtain ⟨u,r,l⟩:=hl i x v hN e hv
 have fin:EP X pins σ Q u s:=⟨v,H,I,r,h⟩
 rcases l with ⟨hk,hm⟩ | ⟨hk,c,hc,hcell⟩
 · exact wpAny_Name (wpAny_loadName_local I.ok.kind hk hn hm fin) hd
 · rcases hk with hk | hk
   · exact wpAny_Name (wpAny_loadName_cell I.ok.kind hk hc hcell fin) hd
   · exact wpAny_Name (wpAny_loadName_free I.ok.kind hk hc hcell fin hcd) hd
theorem su {i j pos}:PE X (.Constant (.int i) j pos) (tC (.int i)):=λ_ _ _ H _ I h=>wpAny_Constant_int ⟨.int i,H,I.tok _,⟨_,rfl⟩,h⟩
theorem DF {b j pos}:PE X (.Constant (.bool b) j pos) (tC (.bl b)):=λ_ _ _ H _ I h=>Constant_bool ⟨.bl b,H,I,rfl,h⟩
theorem BC {j pos}:PE X (.Constant .none j pos) (tC .non):=λ_ _ _ H _ I h=>Constant_none ⟨.non,H,I,rfl,h⟩
noncomputable def Gl (X:Cx) (x:Str):Prop:=X.env.kindOf x=some .globalImplicit
theorem tF {E:Value->Shared->Prop} {pins:List (Addr × Obj)} {s:Shared} {σ:St} {H:Hp} {x:Str} {u:Value} {pos:Pos} {Q:Value->Shared->Prop} (I:Inv X pins σ H s) (hg:Gl X x) (hm:X.mg x=some u) (h:Q u s)
   (hd:(x == ("__debug__" : Str))=false:=by decide):wpAny (model X.prog X.w) X.A (eval (.Name x pos) X.env) Q E s:=
 Kh I.ok.kind hg (Calls.loadGlobal_global (by rw [I.ok.glob]; exact I.mod.glob.keeps I.bk) hm h) hd
theorem eX {E:Value->Shared->Prop} {pins:List (Addr × Obj)} {s:Shared} {σ:St} {H:Hp} {x:Str} {u:Value} {pos:Pos} {Q:Value->Shared->Prop} (I:Inv X pins σ H s) (hg:Gl X x) (hm:X.mg x=none) (hv:bootBuiltins x=some u) (h:Q u s)
   (hn:x ≠ "__name__":=by decide) (hd:(x == ("__debug__" : Str))=false:=by decide):wpAny (model X.prog X.w) X.A (eval (.Name x pos) X.env) Q E s:=by
 obtain ⟨mb,h1,h2⟩:=I.mod.blt
 exact Kh I.ok.kind hg (Calls.loadGlobal_builtin (by rw [I.ok.glob]; exact I.mod.glob.keeps I.bk) hm (by rw [I.ok.blt]; exact h1.keeps I.bk) ((h2 x hn).trans hv) h) hd
theorem yK {x:Str} {v:V} {u:Value} {pos:Pos} (hg:Gl X x) (hm:X.mg x=some u) (r:RelV v u) (hd:(x == ("__debug__" : Str))=false:=by decide):PE X (.Name x pos) (tC v):=
 λ_ _ _ H _ I h=>tF I hg hm ⟨v,H,I,r,h⟩ hd
theorem zV {x:Str} {v:V} {u:Value} {pos:Pos} (hg:Gl X x) (hm:X.mg x=none) (hv:bootBuiltins x=some u) (r:RelV v u) (hn:x ≠ "__name__":=by decide) (hd:(x == ("__debug__" : Str))=false:=by decide):PE X (.Name x pos) (tC v):=
 λ_ _ _ H _ I h=>eX I hg hm hv ⟨v,H,I,r,h⟩ hn hd
variable {a b:Expr} {ta tb:TE} {pos:Pos}
noncomputable def PC (X:Cx) (op:CmpOp) (a b:Expr) (t:TE):Prop:=
 ∀ (pins:List (Addr × Obj)) (s:Shared) (σ:St) (H:Hp) (Q:VK),Inv X pins σ H s->t σ H Q ->
   wpAny (model X.prog X.w) X.A (eval a X.env) (λv s₁=>wpAny (model X.prog X.w) X.A (eval b X.env) (λu s₂=>wpAny (model X.prog X.w) X.A (compareOp op v u) (EP X pins σ Q) X.xe s₂) X.xe s₁) X.xe s
theorem xZ (b:Expr) {op:CmpOp} (h:op ≠ .In) (h2:op ≠ .NotIn):behindInMarks op b=false:=by
 have e1:(op == CmpOp.In)=false:=by cases op <;> first | rfl | exact absurd rfl h
 have e2:(op == CmpOp.NotIn)=false:=by cases op <;> first | rfl | exact absurd rfl h2
 cases b <;> simp [behindInMarks,e1,e2]
noncomputable def tB (t:TE):TT:=λσ H Q=>t σ H λx H1=>∃ c,x=.bl c/\Q c H1
theorem E4 {op:CmpOp} {t:TE} (h:PC X op a b t) (h1:behindInMarks op b=false:=by first | exact xZ _ (by decide) (by decide) | rfl):PT X (.Compare a [op] [b] pos) (tB t):=by
 intro pins s σ H Q I hw
 refine wpAny_isTrue_Compare1 (thn (h pins s σ H _ I hw) λv s1 h1=>thn h1 λu s2 h2=>thn h2 λc s3 ⟨x,H1,I1,r1,q1⟩=>?_) h1
 obtain ⟨d,rfl,q⟩:=q1
 cases r1
 exact wpAny_truthy_bool ⟨H1,I1,q⟩
theorem BL {e:Expr} {t:TE} (h:PE X e t) (he:∀ whole,isTrue e X.env whole=(do let v <- whole; standAt e.pos; holding [v] (truthy v)):=by intro _; rfl):PT X e (tB t):=by
 intro pins s σ H Q I hw
 refine isTrue_plain (thn (h pins s σ H _ I hw) λv s1 ⟨x,H1,I1,r1,q1⟩=>?_) (he _)
 obtain ⟨d,rfl,q⟩:=q1
 cases r1
 exact wpAny_truthy_bool ⟨H1,I1,q⟩
variable {tA tB':TT} {rest:List Expr}
noncomputable def tOr (t u:TT):TT:=λσ H Q=>t σ H λc H1=>if c=true then Q true H1 else u σ H1 Q
noncomputable def EM (t:TT):TT:=λσ H Q=>t σ H λc H1=>Q (!c) H1
theorem pw_or1 (ha:PT X a tA):PW X (.BoolOp .Or [a] pos) tA:=by
 intro wh pins s σ H Q I h
 refine isTrue_or (thn (ha pins s σ H Q I h) λc s1 e=>?_)
 cases c with
 | false=>exact isTrue_or_nil e
 | true=>exact e
theorem pw_or (ha:PT X a tA) (hb:PW X (.BoolOp .Or (b :: rest) pos) tB'):PW X (.BoolOp .Or (a :: b :: rest) pos) (tOr tA tB'):=by
 intro wh pins s σ H Q I h
 refine isTrue_or (thn (ha pins s σ H _ I h) λc s1 ⟨H1,I1,q1⟩=>?_)
 cases c with
 | true=>exact ⟨H1,I1,q1⟩
 | false=>exact hb wh pins s1 σ H1 Q I1 q1
theorem A2 (ha:PT X a tA):PT X (.UnaryOp .Not a pos) (EM tA):=by
 intro pins s σ H Q I h
 exact isTrue_not (ha pins s σ H (λc H1=>Q (!c) H1) I h)
noncomputable def Ej (ta tb:TE):TE:=λσ H Q=>ta σ H λx H1=>∃ c,x=.bl c/\if c=true then tb σ H1 Q else Q (.bl false) H1
noncomputable def EJ (ta tb:TE):TE:=λσ H Q=>ta σ H λx H1=>∃ c,x=.bl c/\if c=true then Q (.bl true) H1 else tb σ H1 Q
noncomputable def C8 (ta:TE):TE:=λσ H Q=>ta σ H λx H1=>∃ c,x=.bl c/\Q (.bl (!c)) H1
theorem BY {op} {t:TE} (h:PE X a t):PE X (.BoolOp op [a] pos) t:=λpins s σ H Q I hw=>BoolOp_one (h pins s σ H Q I hw)
theorem wb (ha:PE X a ta) (hb:PE X (.BoolOp .And (b :: rest) pos) tb):PE X (.BoolOp .And (a :: b :: rest) pos) (Ej ta tb):=by
 intro pins s σ H Q I h
 refine BoolOp_and (thn (ha pins s σ H _ I h) λv s1 ⟨x,H1,I1,r1,q1⟩=>?_)
 obtain ⟨c,rfl,q1⟩:=q1
 cases r1
 refine wpAny_truthy_bool ?_
 cases c with
 | true=>exact hb pins s1 σ H1 Q I1 q1
 | false=>exact ⟨.bl false,H1,I1,rfl,q1⟩
theorem AH (ha:PE X a ta) (hb:PE X (.BoolOp .Or (b :: rest) pos) tb):PE X (.BoolOp .Or (a :: b :: rest) pos) (EJ ta tb):=by
 intro pins s σ H Q I h
 refine BoolOp_or (thn (ha pins s σ H _ I h) λv s1 ⟨x,H1,I1,r1,q1⟩=>?_)
 obtain ⟨c,rfl,q1⟩:=q1
 cases r1
 refine wpAny_truthy_bool ?_
 cases c with
 | false=>exact hb pins s1 σ H1 Q I1 q1
 | true=>exact ⟨.bl true,H1,I1,rfl,q1⟩
theorem BA (ha:PE X a ta):PE X (.UnaryOp .Not a pos) (C8 ta):=by
 intro pins s σ H Q I h
 refine UnaryOp_ (thn (ha pins s σ H _ I h) λv s1 ⟨x,H1,I1,r1,q1⟩=>?_)
 obtain ⟨c,rfl,q1⟩:=q1
 cases r1
 exact not_of (wpAny_truthy_bool ⟨.bl (!c),H1,I1,rfl,q1⟩)
noncomputable def tIf (t:TT) (ta tb:TE):TE:=λσ H Q=>t σ H λc H1=>if c=true then ta σ H1 Q else tb σ H1 Q
theorem qb {c:Expr} (hc:PT X c tA) (ha:PE X a ta) (hb:PE X b tb):PE X (.IfExp c a b pos) (tIf tA ta tb):=by
 intro pins s σ H Q I h
 refine wpAny_IfExp (thn (hc pins s σ H _ I h) λd s1 ⟨H1,I1,q1⟩=>?_)
 cases d with
 | true=>exact ha pins s1 σ H1 Q I1 q1
 | false=>exact hb pins s1 σ H1 Q I1 q1
end
noncomputable def SqL (K:Fb) (H:Hp) (a:Addr) (xs:List V):Prop:=
 Rd H a (.lst xs) \/
   ∃ (o:Obj) (its:Array Value) (n:Nat),K.lookup a=some o/\o.cls=.type "list" /\ o.dict=none/\o.data=.seq its n/\its.size<=sizeLine/\Vals xs its.toList
noncomputable def SqT (K:Fb) (H:Hp) (a:Addr) (xs:List V):Prop:=
 Rd H a (.tup xs) \/
   ∃ (o:Obj) (its:Array Value) (n:Nat),K.lookup a=some o/\o.cls=.type "tuple" /\ o.data=.seq its n/\its.size<=sizeLine/\Vals xs its.toList
noncomputable def Ez:Value->Option V
 | .none=>some .non
 | .bool b=>some (.bl b)
 | .int i _=>some (.int i)
 | .str x _=>some (.str x)
 | .bytes b _=>some (.byt b)
 | .float b _=>some (.flt b)
 | .ref a=>some (.ref a)
 | .type n=>some (.ty n)
 | _=>none
theorem RelV.abs {x:V} {u:Value} (r:RelV x u):Ez u=some x:=by
 cases x with
 | non=>cases r; rfl
 | bl _=>cases r; rfl
 | int _=>obtain ⟨t,rfl⟩:=r; rfl
 | str _=>obtain ⟨t,rfl⟩:=r; rfl
 | byt _=>obtain ⟨t,rfl⟩:=r; rfl
 | flt _=>obtain ⟨t,rfl⟩:=r; rfl
 | ref _=>cases r; rfl
 | ty _=>cases r; rfl
theorem RelV.inj {x y:V} {u:Value} (r:RelV x u) (q:RelV y u):x=y:=FX (r.abs.symm.trans q.abs)
theorem Vals.inj:∀ {xs ys:List V} {us:List Value},Vals xs us->Vals ys us->xs=ys
 | _,_,_,.nil,.nil=>rfl
 | _,_,_,.cons r t,.cons r' t'=>by rw [r.inj r',Vals.inj t t']
section
variable {X:Cx} {pins:List (Addr × Obj)} {σ:St} {H:Hp} {s:Shared} {a:Addr} {xs ys:List V}
theorem SqL.of {K:Fb} (h:H a=some (.lst xs)):SqL K H a xs:=.inl (.inl h)
theorem SqT.of {K:Fb} (h:H a=some (.tup xs)):SqT K H a xs:=.inl (.inl h)
theorem Inv.list (I:Inv X pins σ H s) (h:SqL X.K H a xs):∃ its:List Value,Vals xs its/\PlainL s.heap a its.toArray/\xs.length<=sizeLine:=by
 rcases h with h | ⟨o,its,n,hk,hc,hd,hs,hz,r⟩
 · obtain ⟨z,its,n,r,e⟩:=h.ok I.hok
   exact ⟨its,r,⟨_,n,e,rfl,rfl,rfl⟩,z⟩
 · refine ⟨its.toList,r,⟨o,n,I.kIn a o hk,hc,hd,by simpa using hs⟩,?_⟩
   have e:=r.length
   simp only [Gw] at e
   omega
theorem Inv.tuple (I:Inv X pins σ H s) (h:SqT X.K H a xs):∃ its:List Value,Vals xs its/\IsTup s.heap a its.toArray/\xs.length<=sizeLine:=by
 rcases h with h | ⟨o,its,n,hk,hc,hs,hz,r⟩
 · obtain ⟨z,its,r,p⟩:=h.ok I.hok
   exact ⟨its,r,p,z⟩
 · refine ⟨its.toList,r,⟨o,I.kIn a o hk,hc,n,by simpa using hs⟩,?_⟩
   have e:=r.length
   simp only [Gw] at e
   omega
theorem Inv.iK (I:Inv X pins σ H s) (h:SqL X.K H a xs) (h':SqL X.K H a ys):xs=ys:=by
 obtain ⟨its,r,⟨o,n,e,_,_,d⟩,_⟩:=I.list h
 obtain ⟨its',r',⟨o',n',e',_,_,d'⟩,_⟩:=I.list h'
 rw [e] at e'; cases e'
 rw [d] at d'
 injection d' with d1 _
 have:its=its':=by simpa using congrArg KZ d1
 subst this
 exact r.inj r'
end
noncomputable abbrev Cx.lS (X:Cx) (E:Value->Shared->Prop):Cx:={ X with xe:=E }
noncomputable abbrev Cx.nox (X:Cx):Cx:=X.lS λ_ _=>False
theorem Cx.Ok.lS {X:Cx} (ok:X.Ok) (E:Value->Shared->Prop):(X.lS E).Ok:=
 ⟨ok.mod,ok.kind,ok.glob,ok.blt,ok.above,ok.inj,ok.has,ok.cab,ok.hd,ok.frames,ok.stk,ok.exf,ok.bs,ok.bsz,ok.noex,ok.exfs,ok.k6,ok.frf⟩
theorem Cx.Ok.fU {X:Cx} {E:Value->Shared->Prop} (ok:(X.lS E).Ok):X.Ok:=
 ⟨ok.mod,ok.kind,ok.glob,ok.blt,ok.above,ok.inj,ok.has,ok.cab,ok.hd,ok.frames,ok.stk,ok.exf,ok.bs,ok.bsz,ok.noex,ok.exfs,ok.k6,ok.frf⟩
section
variable {X:Cx} {pins:List (Addr × Obj)} {σ:St} {H:Hp} {s:Shared} {E:Value->Shared->Prop}
theorem Inv.lS (I:Inv X pins σ H s) (E:Value->Shared->Prop):Inv (X.lS E) pins σ H s:=⟨I.ok.lS E,I.os,I.bare,I.base,I.loc,I.cell,I.free,I.freeC,I.pin,I.hok,I.len⟩
theorem Inv.fU (I:Inv (X.lS E) pins σ H s):Inv X pins σ H s:=⟨I.ok.fU,I.os,I.bare,I.base,I.loc,I.cell,I.free,I.freeC,I.pin,I.hok,I.len⟩
theorem SP.fU {D:Ends} {f:Flow} {s':Shared} (h:SP (X.lS E) pins D f s'):SP X pins D f s':=by
 cases f with
 | next=>obtain ⟨σ',H',I,q⟩:=h; exact ⟨σ',H',I.fU,q⟩
 | brk=>obtain ⟨σ',H',I,q⟩:=h; exact ⟨σ',H',I.fU,q⟩
 | cont=>obtain ⟨σ',H',I,q⟩:=h; exact ⟨σ',H',I.fU,q⟩
 | ret u=>obtain ⟨v,σ',H',I,r,q⟩:=h; exact ⟨v,σ',H',I.fU,r,q⟩
theorem PSs.nox {st:List Stmt} {t:TS} (h:PSs X.nox st t):PSs X st t:=λpins s σ H D I hw=>
 wpAny_mono (h pins s σ H D (I.lS _) hw) (λ_ _ q=>q.fU) λ_ _ z=>HF z
end
section
variable {X:Cx} {st:Stmt} {rest:List Stmt} {t u:TS} {e:Expr} {te:TE} {pos:Pos}
noncomputable def Dv:TS:=λD σ H=>D.nx σ H
noncomputable def EL (t u:TS):TS:=λD σ H=>t { D with nx:=u D } σ H
theorem uj:PSs X [] Dv:=λ_ _ σ H _ I h=>wpAny_execs_nil ⟨σ,H,I,h⟩
theorem fM (h1:PS X st t) (h2:PSs X rest u):PSs X (st :: rest) (EL t u):=by
 intro pins s σ H D I h
 refine wpAny_execs_cons (thn (h1 pins s σ H { D with nx:=u D } I h) λf s1 q=>?_)
 cases f with
 | next=>
   obtain ⟨σ',H',I',q⟩:=q
   exact h2 pins s1 σ' H' D I' q
 | ret v=>exact q
 | brk=>exact q
 | cont=>exact q
theorem Inv.quiet {pins:List (Addr × Obj)} {σ:St} {H:Hp} {s:Shared} (I:Inv X pins σ H s):interactive X.env=false:=by simp [interactive,I.ok.kind]
noncomputable def DD (te:TE):TS:=λD σ H=>te σ H λ_ H1=>D.nx σ H1
theorem fV (he:PE X e te) (hs:swapsWith e none pos.line X.env=pure false:=by rfl):PS X (.Expr e pos) (DD te):=by
 intro pins s σ H D I h
 exact wpAny_Expr_any (thn (he pins s σ H _ I h) λv s1 ⟨x,H1,I1,r1,q1⟩=>⟨σ,H1,I1,q1⟩) I.quiet hs
noncomputable def E2 (te:TE):TS:=λD σ H=>te σ H D.rt
theorem rY (he:PE X e te):PS X (.Return (some e) pos) (E2 te):=by
 intro pins s σ H D I h
 exact wpAny_Return_some (thn (he pins s σ H _ I h) λv s1 ⟨x,H1,I1,r1,q1⟩=>⟨x,σ,H1,I1,r1,q1⟩)
noncomputable def E5 (c:TT) (t u:TS):TS:=λD σ H=>c σ H λb H1=>if b=true then t D σ H1 else u D σ H1
theorem AL {c:Expr} {a b:List Stmt} {tc:TT} (hc:PT X c tc) (ha:PSs X a t) (hb:PSs X b u):PS X (.If c a b pos) (E5 tc t u):=by
 intro pins s σ H D I h
 refine wpAny_If (thn (hc pins s σ H _ I h) λd s1 ⟨H1,I1,q1⟩=>?_)
 cases d with
 | true=>exact ha pins s1 σ H1 D I1 q1
 | false=>exact hb pins s1 σ H1 D I1 q1
noncomputable def Cq:TS:=λ_ _ _=>False
theorem mI {sts:List Stmt}:PSs X sts Cq:=λ_ _ _ _ _ _ h=>h.elim
end
noncomputable abbrev TG:=V->St->Hp->(St->Hp->Prop)->Prop
noncomputable abbrev TGs:=List V->St->Hp->(St->Hp->Prop)->Prop
noncomputable def PG (X:Cx) (target:Expr) (t:TG):Prop:=
 ∀ (pins:List (Addr × Obj)) (s:Shared) (σ:St) (H:Hp) (v:V) (u:Value) (Q:St->Hp->Prop),Inv X pins σ H s->RelV v u->t v σ H Q ->
   wpAny (model X.prog X.w) X.A (assign target X.env u) (λ_ s'=>∃ σ' H',Inv X pins σ' H' s'/\Q σ' H') X.xe s
noncomputable def PGs (X:Cx) (ts:List Expr) (t:TGs):Prop:=
 ∀ (pins:List (Addr × Obj)) (s:Shared) (σ:St) (H:Hp) (vs:List V) (us:List Value) (Q:St->Hp->Prop),Inv X pins σ H s->Vals vs us->t vs σ H Q ->
   wpAny (model X.prog X.w) X.A (assignInOrder ((assignEach ts X.env).map (·.2)) us) (λ_ s'=>∃ σ' H',Inv X pins σ' H' s'/\Q σ' H') X.xe s
noncomputable abbrev Ct:=V->V->V->Hp->(Hp->Prop)->Prop
noncomputable def Dq (X:Cx) (t:Ct):Prop:=
 ∀ (pins:List (Addr × Obj)) (s:Shared) (σ:St) (H:Hp) (o i v:V) (ov iv u:Value) (Q:Hp->Prop),Inv X pins σ H s->RelV o ov->RelV i iv->RelV v u->t o i v H Q ->
   wpAny (model X.prog X.w) X.A (setItem ov iv u) (λ_ s'=>∃ H',Inv X pins σ H' s'/\Q H') X.xe s
section
variable {X:Cx} {pos:Pos}
noncomputable def As (i:Nat):TG:=λv σ H Q=>Q (σ.set i (some v)) H
theorem dr {i:Nat} {x:Str} (hN:X.N.Nodup) (hi:X.N[i]?=some x) (hx:Loc X.env.scope x) (hf:X.fn x=true\/X.env.scope.names.lookup x=some .local:=by first | exact .inl rfl | exact .inr rfl | assumption):PG X (.Name x pos) (As i):=by
 intro pins s σ H v u Q I r h
 exact wpAny_assign_Name (qi I hN hi hx r (λs' I'=>⟨_,H,I',h⟩) hf)
noncomputable def EV:TGs:=λvs σ H Q=>vs=[]/\Q σ H
noncomputable def Eh (t:TG) (u:TGs):TGs:=λvs σ H Q=>∃ v r,vs=v :: r/\t v σ H λσ' H'=>u r σ' H' Q
theorem tJ:PGs X [] EV:=by
 intro pins s σ H vs us Q I r h
 obtain ⟨e,h⟩:=h
 subst e
 cases r
 exact assignInOrder_nil ⟨σ,H,I,h⟩
theorem kR {e:Expr} {es:List Expr} {t:TG} {u:TGs} (h1:PG X e t) (h2:PGs X es u)
   (hs:(assignEach (e :: es) X.env).map (·.2)=assign e X.env :: (assignEach es X.env).map (·.2):=by rfl):PGs X (e :: es) (Eh t u):=by
 intro pins s σ H vs us Q I r h
 obtain ⟨v,vr,e1,h⟩:=h
 subst e1
 cases r with
 | cons r rr=>
   rw [hs]
   refine assignInOrder_cons (thn (h1 pins s σ H _ _ _ I r h) λ_ s1 ⟨σ1,H1,I1,q1⟩=>?_)
   exact h2 pins s1 σ1 H1 _ _ Q I1 rr q1
noncomputable def EK (K:Fb) (n:Nat) (t:TGs):TG:=λv σ H Q=>∃ a xs,v=.ref a/\SqT K H a xs/\xs.length=n/\t xs σ H Q
theorem yn {es:List Expr} {k:Nat} {t:TGs} {n:Nat} (hc:X.calm=true) (h:PGs X es t)
   (hn:(assignEach es X.env).length=n:=by rfl) (hst:(assignEach es X.env).findIdx? (·.1)=none:=by rfl):PG X (.Tuple es k pos) (EK X.K n t):=by
 intro pins s σ H v u Q I r hw
 obtain ⟨a,xs,e1,hq,hl,hw⟩:=hw
 subst e1
 cases r
 obtain ⟨its,rv,ht,hz⟩:=I.tuple hq
 refine assign_Tuple_tuple (I.ok.hd hc) ht (by simp [hn,<- hl,rv.length]) hst λh' hx=>?_
 have I1:Inv X pins σ H { s with heap:=h' }:=I.kept (t':=s.toks) λb o e=>hx b o (FT (Fu e)) e
 exact h pins _ σ H xs _ Q I1 (by simpa using rv) hw
noncomputable def EN (to ti:TE) (t:Ct):TG:=λv σ H Q=>to σ H λo H1=>ti σ H1 λi H2=>t o i v H2 λH3=>Q σ H3
theorem gN {o i:Expr} {to ti:TE} {t:Ct} (ho:PE X o to) (hi:PE X i ti) (hs:Dq X t)
   (ha:∀ v,assign (.Subscript o i pos) X.env v=(do
     let ov <- holding [v] (eval o X.env)
     let iv <- holding [v,ov] (eval i X.env)
     standAt pos
     holding [v,ov,iv] (setItem ov iv v)
     release [v,ov,iv] []):=by intro _; rfl):PG X (.Subscript o i pos) (EN to ti t):=by
 intro pins s σ H v u Q I r h
 rw [ha]
 refine wpAny_bind (wpAny_holding (thn (ho pins s σ H _ I h) λov s1 ⟨x,H1,I1,r1,q1⟩=>?_))
 refine wpAny_bind (wpAny_holding (thn (hi pins s1 σ H1 _ I1 q1) λiv s2 ⟨y,H2,I2,r2,q2⟩=>?_))
 refine wpAny_bind (wpAny_standAt (wpAny_bind (wpAny_holding (thn (hs pins s2 σ H2 x y v ov iv u _ I2 r1 r2 r q2) λ_ s3 ⟨H3,I3,q3⟩=>?_))))
 exact wpAny_release ⟨σ,H3,I3,q3⟩
noncomputable def CA (te:TE) (g:TG):TS:=λD σ H=>te σ H λx H1=>g x σ H1 D.nx
theorem fH {tg e:Expr} {te:TE} {g:TG} (he:PE X e te) (hg:PG X tg g) (hs:swapsWithSole [tg] e pos.line X.env=pure false:=by rfl) (hw:swappedStores [tg] e X.env=pure none:=by rfl)
   (h1:(assignEach [tg] X.env).map (·.2)=[assign tg X.env]:=by rfl):PS X (.Assign [tg] e pos) (CA te g):=by
 intro pins s σ H D I h
 refine wpAny_Assign_stores (thn (he pins s σ H _ I h) λv s1 ⟨x,H1,I1,r1,q1⟩=>?_) hs hw
 rw [h1]
 exact thn (hg pins s1 σ H1 x v _ I1 r1 q1) λ_ s2 q=>q
theorem oB {i:Nat} {x:Str} {e:Expr} {te:TE} {pos':Pos} (hN:X.N.Nodup) (hi:X.N[i]?=some x) (hx:Loc X.env.scope x) (he:PE X e te) (hs:swapsWith e (some (.Name x pos')) pos.line X.env=pure false:=by rfl) (hf:X.fn x=true\/X.env.scope.names.lookup x=some .local:=by first | exact .inl rfl | exact .inr rfl | assumption) :
   PS X (.Assign [.Name x pos'] e pos) (CA te (As i)):=by
 intro pins s σ H D I h
 refine wpAny_Assign_Name (thn (he pins s σ H _ I h) λv s1 ⟨y,H1,I1,r1,q1⟩=>?_) hs
 exact qi I1 hN hi hx r1 (λs2 I2=>⟨_,H1,I2,q1⟩) hf
end
section
variable {X:Cx} {pos:Pos}
noncomputable def AQ (c:TT) (tb:TS):TS:=λD σ H=>∃ W:Nat->St->Hp->Prop,(∃ m,W m σ H)/\∀ m σ H,W m σ H ->
 c σ H λb H1=>if b=true then ∃ N:St->Hp->Prop,(∀ σ' H',N σ' H'->∃ m',m' < m/\W m' σ' H')/\tb { D with nx:=N,ct:=N,bk:=D.nx } σ H1 else D.nx σ H1
theorem vQ {c:Expr} {body:List Stmt} {tc:TT} {tb:TS} (hp:PassesOwn (model X.prog X.w) X.A X.env X.xe) (hc:PT X c tc) (hb:PSs X body tb):PS X (.While c body [] pos) (AQ tc tb):=by
 intro pins s σ H D I h
 obtain ⟨W,⟨m0,w0⟩,turn⟩:=h
 refine wpAny_While (codeAny_whileLoop (λn s'=>∃ σ' H',Inv X pins σ' H' s'/\W n σ' H') ?_ m0 ⟨σ,H,I,w0⟩)
 rintro n s1 ⟨σ1,H1,I1,w1⟩
 refine wpAny_passesOwn hp (thn (hc pins s1 σ1 H1 _ I1 (turn n σ1 H1 w1)) λb s2 ⟨H2,I2,q2⟩=>?_)
 cases b with
 | true=>
   obtain ⟨N,hN,q2⟩:=q2
   rw [if_pos rfl]
   refine wpAny_passesOwn hp (thn (hb pins s2 σ1 H2 _ I2 q2) λf s3 q3=>?_)
   cases f with
   | next=>
     obtain ⟨σ3,H3,I3,n3⟩:=q3
     obtain ⟨m',hm,w3⟩:=hN σ3 H3 n3
     exact ⟨m',hm,σ3,H3,I3,w3⟩
   | cont=>
     obtain ⟨σ3,H3,I3,n3⟩:=q3
     obtain ⟨m',hm,w3⟩:=hN σ3 H3 n3
     exact ⟨m',hm,σ3,H3,I3,w3⟩
   | brk=>exact q3
   | ret v=>exact q3
 | false=>
   rw [if_neg Fp]
   exact wpAny_execs_nil ⟨σ1,H2,I2,q2⟩
end
structure It where
 go:Nat->Hp->Prop
 yld:Nat->Hp->V->Hp->Prop
 stop:Nat->Hp->Prop
noncomputable def lW (X:Cx) (pins:List (Addr × Obj)) (H:Hp) (b:Addr):Prop:=
 H b=none/\b ≠ X.env.locals/\b ∉ X.fs/\(b ∈ X.ex\/X.s₀.heap.objs.size<=b)/\(∀ x c,X.env.cells.lookup x=some c->c ≠ b)/\∀ p ∈ X.pn++pins,p.1 ≠ b
theorem Inv.lX {X:Cx} {pins:List (Addr × Obj)} {σ:St} {H H':Hp} {s:Shared} {b:Addr} (I:Inv X pins σ H s) (hb:s.heap.objs.size<=b) (hn:H' b=none):lW X pins H' b:=by
 refine ⟨hn,Nat.ne_of_gt (Fy I.lt hb),I.EO hb,.inr (Fz I.sz hb),λx c e z=>?_,λp hp z=>?_⟩
 · obtain ⟨v,q⟩:=I.cell x c e
   exact absurd (Fy q.lt (by rw [z]; exact hb)) (F4 _)
 · exact absurd (Fy (Fu (I.pin p hp).1) (by rw [z]; exact hb)) (F4 _)
noncomputable def EG (X:Cx):Prop:=∃ h o u vs,X.A.handled=some (.ref h)/\X.H₀ h=some (.frz o u)/\o.data=.fields vs/\vs[2]?=some .none
noncomputable def Ck (kd:Bool) (X:Cx):Prop:=X.calm=true\/(kd=true/\EG X)
theorem Ck.calm {X:Cx} (h:Ck false X):X.calm=true:=h.resolve_right λz=>nomatch z.1
structure Turn (P:Program) (w:World) (K:Fb) (kd:Bool) (tg:Expr) (J:It) (fp:List Addr) (it:Addr) (tn:Nat->Heap->Prop):Prop where
 mem:it ∈ fp
 obj:∀ i h,tn i h->∀ b ∈ fp,∃ o,h.get? b=some o/\∀ v,o.data ≠ .cell v
 keep:∀ i h h',tn i h->(∀ b ∈ fp,∀ o,h.get? b=some o->h'.get? b=some o)->tn i h'
 item:∀ (X:Cx),X.prog=P->X.w=w->X.K=K->Ck kd X->∀ (i:Nat) (pins:List (Addr × Obj)) (s:Shared) (σ:St) (H:Hp) (E:Value->Shared->Prop),Inv X pins σ H s->(∀ b ∈ fp,lW X pins H b)->tn i s.heap->J.go i H ->
   wpAny (model P w) X.A (pyNext (.ref it)) (λr s1=>∃ u,r=some u /\
     wpAny (model P w) X.A (letOwnedTupleGo tg (.ref it) u) (λ_ s2=>∃ x H',Inv X pins σ H' s2/\RelV x u/\J.yld i H x H'/\tn (i + 1) s2.heap/\∀ b ∈ fp,H' b=none) E s1) E s
 done:∀ (X:Cx),X.prog=P->X.w=w->X.K=K->Ck kd X->∀ (i:Nat) (pins:List (Addr × Obj)) (s:Shared) (σ:St) (H:Hp) (E:Value->Shared->Prop),Inv X pins σ H s->(∀ b ∈ fp,lW X pins H b)->tn i s.heap->J.stop i H ->
   wpAny (model P w) X.A (pyNext (.ref it)) (λr s1=>r=none/\Inv X pins σ H s1) E s
 self:∀ (A:Around) (i:Nat) (s:Shared) (Q:Value->Shared->Prop) (E:Value->Shared->Prop),tn i s.heap->Q (.ref it) s->wpAny (model P w) A (pyIter (.ref it)) Q E s
noncomputable abbrev TI:=St->Hp->(It->Hp->Prop)->Prop
noncomputable def PIE (X:Cx) (pins:List (Addr × Obj)) (σ:St) (tg:Expr) (R:It->Hp->Prop) (itv:Value) (s2:Shared):Prop:=
 ∃ (kd:Bool) (it:Addr) (fp:List Addr) (tn:Nat->Heap->Prop) (J:It) (H':Hp),itv=.ref it/\Inv X pins σ H' s2/\Ck kd X/\Turn X.prog X.w X.K kd tg J fp it tn/\tn 0 s2.heap/\(∀ b ∈ fp,lW X pins H' b)/\R J H'
noncomputable def PI (X:Cx) (tg iter:Expr) (wi:TI):Prop:=
 ∀ (pins:List (Addr × Obj)) (s:Shared) (σ:St) (H:Hp) (R:It->Hp->Prop),Inv X pins σ H s->wi σ H R ->
   wpAny (model X.prog X.w) X.A (eval iter X.env) (λv s1=>wpAny (model X.prog X.w) X.A (pyIter v) (PIE X pins σ tg R) X.xe s1) X.xe s
theorem jE {M:Model} {A:Around} {E:Value->Shared->Prop} {s:Shared} {tg:Expr} {it:Addr} {u:Value} {o:Obj} {n:String} {vs:Array Value} {Q:Unit->Shared->Prop} (ho:s.heap.get? it=some o) (hc:o.cls=.type n) (hd:o.data=.fields vs)
   (hn:["enumerate","zip","dict_itemiterator","dict_reverseitemiterator","odict_iterator","itertools.zip_longest","itertools.pairwise"].contains n=false) (hQ:Q () s):wpAny M A (letOwnedTupleGo tg (.ref it) u) Q E s:=by
 unfold letOwnedTupleGo
 cases tg <;> first
   | exact wpAny_pure hQ
   | (cases u <;> first
       | exact wpAny_pure hQ
       | (refine wpAny_bind (wpAny_load ho ?_)
          rw [hc,hd]
          show wpAny M A (if (["enumerate","zip","dict_itemiterator","dict_reverseitemiterator","odict_iterator","itertools.zip_longest","itertools.pairwise"].contains n && vs[0]? == some (rawInt _))=true then _ else _) Q E s
          rw [if_neg (by intro h; rw [hn,Bool.false_and] at h; cases h)]
          exact wpAny_pure hQ))
noncomputable def Itl (K:Fb) (a:Addr):It:=
 ⟨λi H=>∃ xs x,SqL K H a xs/\xs[i]?=some x,λi H x H'=>H'=H/\∀ xs,SqL K H a xs->xs[i]?=some x,λi H=>∃ xs,SqL K H a xs/\xs.length<=i⟩
noncomputable def Itr (lo:Int) (n:Nat):It:=⟨λi _=>i < n,λi H x H'=>H'=H/\x=.int (lo + i),λi _=>n<=i⟩
theorem vn {P:Program} {w:World} {K:Fb} {tg:Expr} (a it:Addr):Turn P w K false tg (Itl K a) [it] it (λi h=>h.IsListIter it a i) where
 mem:=by simp
 obj:=λi h st b hb=>by
   have e:b=it:=by simpa using hb
   subst e
   obtain ⟨o,e,c,d⟩:=st
   exact ⟨o,e,λv z=>by rw [d] at z; cases z⟩
 keep:=λi h h' st k=>st.at λo e=>k it (by simp) o e
 item:=by
   intro X hP hw hK hc i pins s σ H E I hf st hg
   subst hP hw hK
   obtain ⟨xs,x,hq,hx⟩:=hg
   obtain ⟨its,rv,p,hz⟩:=I.list hq
   obtain ⟨u,hu,ru⟩:=rv.get hx
   obtain ⟨f0,f1,f2,f3,f4,f5⟩:=hf it (by simp)
   refine wpAny_pyNext_list_item st p.isList (x:=u) (by simpa using hu) λh' st' sb=>?_
   have I1:Inv X pins σ H { s with heap:=h' }:=I.turned (t':=s.toks) (λb o hb e=>(sb.2 b hb).trans e) f0 f1 f3 f4 f5
   obtain ⟨o,e,c,d⟩:=id st'
   exact ⟨u,rfl,jE (s:={ s with heap:=h' }) e c d (by decide) ⟨x,H,I1,ru,⟨rfl,λys hy=>by rw [I.iK hy hq]; exact hx⟩,st',λb hb=>(hf b hb).1⟩⟩
 done:=by
   intro X hP hw hK hc i pins s σ H E I hf st hg
   subst hP hw hK
   obtain ⟨xs,hq,hx⟩:=hg
   obtain ⟨its,rv,p,hz⟩:=I.list hq
   obtain ⟨f0,f1,f2,f3,f4,f5⟩:=hf it (by simp)
   have hl:=rv.length
   exact wpAny_pyNext_list_end (I.ok.hd hc.calm) st p.isList (by simp; omega) λh' eb=>⟨rfl,I.turned (t':=s.toks) (λb o hb e=>eb b o hb e) f0 f1 f3 f4 f5⟩
 self:=λ_ _ _ _ _ st h=>wpAny_pyIter_listiter st h
theorem rA {P:Program} {w:World} {K:Fb} {tg:Expr} (it:Addr) (lo:Int) (n:Nat):Turn P w K true tg (Itr lo n) [it] it (λi h=>IsRangeIter h it (lo + (i:Nat) * 1) ((n:Int) - (i:Nat)) 1) where
 mem:=by simp
 obj:=λi h st b hb=>by
   have e:b=it:=by simpa using hb
   subst e
   exact ⟨_,st,λv z=>by
     have z':Data.fields _=Data.cell v:=z
     cases z'⟩
 keep:=λi h h' st k=>k it (by simp) _ st
 item:=by
   intro X hP hw hK hc i pins s σ H E I hf st hg
   subst hP hw hK
   obtain ⟨f0,f1,f2,f3,f4,f5⟩:=hf it (by simp)
   refine wpAny_pyNext_range_item st (by have:i < n:=hg; omega) λh' st0 sb=>?_
   have st':IsRangeIter h' it (lo + ((i + 1:Nat):Int) * 1) ((n:Int) - ((i + 1:Nat):Int)) 1:=by
     have e1:lo + ((i + 1:Nat):Int) * 1=lo + (i:Nat) * 1 + 1:=by omega
     have e2:(n:Int) - ((i + 1:Nat):Int)=(n:Int) - (i:Nat) - 1:=by omega
     rw [e1,e2]; exact st0
   have I1:Inv X pins σ H { s with heap:=h',toks:=s.toks + 1 }:=I.turned (λb o hb e=>(sb.2 b hb).trans e) f0 f1 f3 f4 f5
   refine ⟨_,rfl,jE (s:={ s with heap:=h',toks:=s.toks + 1 }) (n:="range_iterator") st' rfl rfl (by decide) ⟨.int (lo + i),H,I1,⟨s.toks,?_⟩,⟨rfl,rfl⟩,st',λb hb=>(hf b hb).1⟩⟩
   rw [Int.mul_one]
 done:=by
   intro X hP hw hK hc i pins s σ H E I hf st hg
   subst hP hw hK
   obtain ⟨f0,f1,f2,f3,f4,f5⟩:=hf it (by simp)
   rcases hc with hc | ⟨_,q,o,u,vs,e1,e2,e3,e4⟩
   · exact wpAny_pyNext_range_end (I.ok.hd hc) st (by have:n<=i:=hg; omega) λh' eb=>⟨rfl,I.turned (t':=s.toks) (λb o hb e=>eb b o hb e) f0 f1 f3 f4 f5⟩
   · have e5:=I.hok q _ (I.base.frzs q o u e2)
     exact Hx.qZ e1 e5.1 e3 e4 st (by have:n<=i:=hg; omega) λh' eb=>⟨rfl,I.turned (t':=s.toks) (λb o hb e=>eb b o hb e) f0 f1 f3 f4 f5⟩
 self:=λ_ _ _ _ _ st h=>wpAny_pyIter_rangeiter st h
section
variable {X:Cx} {tg:Expr}
noncomputable def D4 (K:Fb) (tl:TE):TI:=λσ H R=>tl σ H λx H1=>∃ a,x=.ref a/\(∃ xs,SqL K H1 a xs)/\R (Itl K a) H1
theorem tw {l:Expr} {tl:TE} (hc:X.calm=true) (hl:PE X l tl):PI X tg l (D4 X.K tl):=by
 intro pins s σ H R I h
 refine thn (hl pins s σ H _ I h) λv s1 ⟨x,H1,I1,r1,q1⟩=>?_
 obtain ⟨a,e,⟨xs,hq⟩,q⟩:=q1
 subst e
 cases r1
 obtain ⟨its,rv,p,hz⟩:=I1.list hq
 refine wpAny_pyIter_list p.isList ?_
 refine ⟨false,s1.heap.objs.size,[s1.heap.objs.size],_,_,H1,rfl,I1.kept (t':=s1.toks) λb o e=>Fg _ e,.inl hc,vn a _,⟨_,FA _ rfl,rfl,rfl⟩,λb hb=>?_,q⟩
 have e:b=s1.heap.objs.size:=by simpa using hb
 subst e
 exact I1.lX (Fc _) (I1.hok.fresh (Fc _))
theorem pS {pins:List (Addr × Obj)} {σ:St} {H:Hp} {s:Shared} {R:It->Hp->Prop} {E:Value->Shared->Prop} {lo hi:Int} {t u v:Tok} {tk:Nat} (hc:Ck true X) (I:Inv X pins σ H s) (h1:-(2 ^ 62)<=lo) (h2:lo < 2 ^ 62) (h3:-(2 ^ 62)<=hi) (h4:hi < 2 ^ 62)
   (q:R (Itr lo (hi - lo).toNat) H):wpAny (model X.prog X.w) X.A (pyIter (.ref s.heap.objs.size)) (PIE X pins σ tg R) E { s with heap:=s.heap.push { cls:=.type "range",data:=.fields #[.int lo t,.int hi u,.int 1 v] },toks:=tk }:=by
 refine wpAny_pyIter_range (IsRange.new ..) (small_one h1 h2 h3 h4) ?_
 have I1:Inv X pins σ H { s with heap:=s.heap.push { cls:=.type "range",data:=.fields #[.int lo t,.int hi u,.int 1 v] },toks:=tk }:=I.kept λb o e=>Fg _ e
 refine ⟨true,(s.heap.push { cls:=.type "range",data:=.fields #[.int lo t,.int hi u,.int 1 v] }).objs.size,[(s.heap.push { cls:=.type "range",data:=.fields #[.int lo t,.int hi u,.int 1 v] }).objs.size],_,_,H,rfl,
   I1.kept (t':=tk) λb o e=>Fg _ e,hc,rA _ lo (hi - lo).toNat,?_,λb hb=>?_,q⟩
 · have e1:lo + ((0:Nat):Int) * 1=lo:=by simp
   have e2:(((hi - lo).toNat:Nat):Int) - ((0:Nat):Int)=Builtin.Range.rangeSize lo hi 1:=by rw [rangeSize_one]; split <;> omega
   show IsRangeIter _ _ (lo + ((0:Nat):Int) * 1) ((((hi - lo).toNat:Nat):Int) - ((0:Nat):Int)) 1
   rw [e1,e2]
   exact FA _ rfl
 · have e:b=(s.heap.push { cls:=.type "range",data:=.fields #[.int lo t,.int hi u,.int 1 v] }).objs.size:=by simpa using hb
   subst e
   exact I1.lX (Fc _) (I1.hok.fresh (Fc _))
noncomputable def D3 (ta:TA):TI:=λσ H R=>ta σ H λvs H1=>∃ j:Int,vs=[.int j]/\-(2 ^ 62)<=j/\j < 2 ^ 62/\R (Itr 0 j.toNat) H1
noncomputable def C6 (ta:TA):TI:=λσ H R=>ta σ H λvs H1=>∃ i j:Int,vs=[.int i,.int j]/\(-(2 ^ 62)<=i/\i < 2 ^ 62/\-(2 ^ 62)<=j/\j < 2 ^ 62)/\R (Itr i (j - i).toNat) H1
theorem uo {a:Expr} {ta:TA} {p pos:Pos} (hc:Ck true X) (hg:Gl X "range") (hm:X.mg "range" = none) (ha:PA X [a] ta) (hs:starEach [a] X.env=[(false,eval a X.env)]:=by rfl):PI X tg (.Call (.Name "range" p) [a] [] pos) (D3 ta):=by
 intro pins s σ H R I h
 refine Call_ (eX I hg hm boot_range (Gf (thn (ha pos pins s σ H _ I h) λus s1 ⟨vs,H1,I1,r1,q1⟩=>?_) hs rfl))
 obtain ⟨j,e,q1,q2,q⟩:=q1
 subst e
 cases r1 with
 | cons r rr=>
   cases rr
   obtain ⟨t,rfl⟩:=r
   exact call_range_1 (pS hc I1 (by omega) (by omega) q1 q2 (by simpa using q))
theorem uH {a b:Expr} {ta:TA} {p pos:Pos} (hc:Ck true X) (hg:Gl X "range") (hm:X.mg "range" = none) (ha:PA X [a,b] ta) (hs:starEach [a,b] X.env=[(false,eval a X.env),(false,eval b X.env)]:=by rfl) (hs2:starEach [b] X.env=[(false,eval b X.env)]:=by rfl) :
   PI X tg (.Call (.Name "range" p) [a,b] [] pos) (C6 ta):=by
 intro pins s σ H R I h
 refine Call_ (eX I hg hm boot_range (Gf (thn (ha pos pins s σ H _ I h) λus s1 ⟨vs,H1,I1,r1,q1⟩=>?_) (by rw [hs,hs2]) (by rw [hs2]; rfl)))
 obtain ⟨i,j,e,⟨q1,q2,q3,q4⟩,q⟩:=q1
 subst e
 cases r1 with
 | cons r rr=>
   cases rr with
   | cons r' rr=>
     cases rr
     obtain ⟨t,rfl⟩:=r
     obtain ⟨t',rfl⟩:=r'
     exact call_range_2 (pS hc I1 q1 q2 q3 q4 q)
noncomputable def ED (wi:TI) (g:TG) (tb:TS):TS:=λD σ H=>wi σ H λJ H1=>∃ W:Nat->Nat->St->Hp->Prop,(∃ m,W 0 m σ H1)/\∀ i m σ H,W i m σ H ->
 (J.stop i H/\D.nx σ H)\/(J.go i H/\∃ N:St->Hp->Prop,(∀ σ' H',N σ' H'->∃ m',m' < m/\W (i + 1) m' σ' H')/\∀ x H',J.yld i H x H'->g x σ H' λσ2 H2=>tb { D with nx:=N,ct:=N,bk:=D.nx } σ2 H2)
noncomputable def gE (fp:List Addr) (h:Heap):List (Addr × Obj):=fp.filterMap λb=>(h.get? b).map λo=>(b,o)
theorem b6 {fp:List Addr} {h:Heap} {b:Addr} {o:Obj} (hb:b ∈ fp) (e:h.get? b=some o):(b,o) ∈ gE fp h:=List.mem_filterMap.mpr ⟨b,hb,by rw [e]; rfl⟩
theorem uK {fp:List Addr} {h:Heap} {p:Addr × Obj} (hp:p ∈ gE fp h):p.1 ∈ fp/\h.get? p.1=some p.2:=by
 obtain ⟨b,hb,e⟩:=List.mem_filterMap.mp hp
 cases q:h.get? b with
 | none=>rw [q] at e; cases e
 | some o=>
   rw [q] at e
   have e':(b,o)=p:=FX e
   subst e'
   exact ⟨hb,q⟩
theorem Inv.pinned {pins:List (Addr × Obj)} {σ:St} {H:Hp} {s:Shared} {fp:List Addr} (I:Inv X pins σ H s) (hf:∀ b ∈ fp,lW X pins H b) (ho:∀ b ∈ fp,∃ o,s.heap.get? b=some o/\∀ v,o.data ≠ .cell v):Inv X (pins++gE fp s.heap) σ H s:=
 I.tV λp hp=>(Fs.mp hp).elim (λz=>I.pin p (Fl _ z)) λz=>by
   obtain ⟨hb,e⟩:=uK z
   obtain ⟨f0,f1,f2,_⟩:=hf p.1 hb
   obtain ⟨o,e',d⟩:=ho p.1 hb
   rw [e] at e'; cases e'
   exact ⟨e,f0,f1,f2,d⟩
theorem Inv.dY {pins pl:List (Addr × Obj)} {σ:St} {H:Hp} {s:Shared} (I:Inv X (pins++pl) σ H s):Inv X pins σ H s:=I.tV λp hp=>I.pin p (Fl _ (FD _ hp))
theorem xF {iter:Expr} {body:List Stmt} {wi:TI} {g:TG} {tb:TS} {pos:Pos} (hp:PassesOwn (model X.prog X.w) X.A X.env X.xe) (hi:PI X tg iter wi) (hg:PG X tg g) (hb:PSs X body tb)
   (hs:∀ x,foldedSetIterable iter X.env x=pure x:=by intro _; rfl):PS X (.For tg iter body [] pos) (ED wi g tb):=by
 intro pins s σ H D I h
 refine wpAny_For (thn (hi pins s σ H _ I h) λv s1 h1=>thn h1 λitv s2 h2=>?_) hs
 obtain ⟨kd,it,fp,tn,J,H2,e,I2,hc,T,st2,f2,W,⟨m0,w0⟩,turn⟩:=h2
 subst e
 have stat:∀ {H':Hp},(∀ b ∈ fp,H' b=none)->∀ b ∈ fp,lW X pins H' b:=λhn b hb=>⟨hn b hb,(f2 b hb).2⟩
 refine codeAny_forLoop_any (λn s'=>∃ i σ' H',Inv X pins σ' H' s'/\tn i s'.heap/\(∀ b ∈ fp,H' b=none)/\W i n σ' H') ?_ m0 ⟨0,σ,H2,I2,st2,λb hb=>(f2 b hb).1,w0⟩
 rintro n s3 ⟨i,σ3,H3,I3,st3,fr3,w3⟩
 rcases turn i n σ3 H3 w3 with ⟨stop,qn⟩ | ⟨go,N,hN,step⟩
 · refine wpAny_passesOwn hp (thn (T.done X rfl rfl rfl hc i pins s3 σ3 H3 X.xe I3 (stat fr3) st3 stop) λr s4 ⟨hr,I4⟩=>?_)
   subst hr
   exact wpAny_execs_nil ⟨σ3,H3,I4,qn⟩
 · refine wpAny_passesOwn hp (thn (T.item X rfl rfl rfl hc i pins s3 σ3 H3 X.xe I3 (stat fr3) st3 go) λr s4 ⟨u,hr,h4⟩=>?_)
   subst hr
   refine wpAny_passesOwn hp (thn h4 λ_ s5 ⟨x,H5,I5,r5,y5,st5,fr5⟩=>?_)
   have I5':=I5.pinned (stat fr5) (T.obj _ _ st5)
   refine wpAny_passesOwn hp (thn (hg _ s5 σ3 H5 x u _ I5' r5 (step x H5 y5)) λ_ s6 ⟨σ6,H6,I6,q6⟩=>?_)
   refine wpAny_passesOwn hp (thn (hb _ s6 σ6 H6 _ I6 q6) λf s7 q7=>?_)
   have again:∀ {σ7:St} {H7:Hp},Inv X (pins++gE fp s5.heap) σ7 H7 s7->N σ7 H7->∃ m,m < n/\∃ i σ' H',Inv X pins σ' H' s7/\tn i s7.heap/\(∀ b ∈ fp,H' b=none)/\W i m σ' H':=λ{σ7 H7} I7 n7=>by
     obtain ⟨m',hm,w7⟩:=hN σ7 H7 n7
     refine ⟨m',hm,i + 1,σ7,H7,I7.dY,T.keep _ _ _ st5 λb hb o e=>(I7.pin (b,o) (Fl _ (Fl _ (b6 hb e)))).1,λb hb=>?_,w7⟩
     obtain ⟨o,e,d⟩:=T.obj _ _ st5 b hb
     exact (I7.pin (b,o) (Fl _ (Fl _ (b6 hb e)))).2.1
   cases f with
   | next=>obtain ⟨σ7,H7,I7,n7⟩:=q7; exact again I7 n7
   | cont=>obtain ⟨σ7,H7,I7,n7⟩:=q7; exact again I7 n7
   | brk=>obtain ⟨σ7,H7,I7,q7⟩:=q7; exact ⟨σ7,H7,I7.dY,q7⟩
   | ret v=>obtain ⟨x7,σ7,H7,I7,r7,q7⟩:=q7; exact ⟨x7,σ7,H7,I7.dY,r7,q7⟩
end
noncomputable abbrev R2:=V->V->Hp->VK->Prop
noncomputable def OpR (X:Cx) (f:Value->Value->Sem Value) (r:R2):Prop:=
 ∀ (pins:List (Addr × Obj)) (s:Shared) (σ:St) (H:Hp) (x y:V) (v u:Value) (Q:VK),Inv X pins σ H s->RelV x v->RelV y u->r x y H Q ->
   wpAny (model X.prog X.w) X.A (f v u) (EP X pins σ Q) X.xe s
noncomputable def UnR (X:Cx) (f:Value->Sem Value) (r:V->Hp->VK->Prop):Prop:=
 ∀ (pins:List (Addr × Obj)) (s:Shared) (σ:St) (H:Hp) (x:V) (v:Value) (Q:VK),Inv X pins σ H s->RelV x v->r x H Q ->
   wpAny (model X.prog X.w) X.A (f v) (EP X pins σ Q) X.xe s
noncomputable def dg (X:Cx) (f:Value) (r:List V->Hp->VK->Prop):Prop:=
 ∀ (pins:List (Addr × Obj)) (s:Shared) (σ:St) (H:Hp) (xs:List V) (us:List Value) (Q:VK),Inv X pins σ H s->Vals xs us->r xs H Q ->
   wpAny (model X.prog X.w) X.A (call f us) (EP X pins σ Q) X.xe s
noncomputable def tOp (r:R2) (ta tb:TE):TE:=λσ H Q=>ta σ H λx H1=>tb σ H1 λy H2=>r x y H2 Q
noncomputable def tUn (r:V->Hp->VK->Prop) (ta:TE):TE:=λσ H Q=>ta σ H λx H1=>r x H1 Q
noncomputable def rI (C:Int->Int->Prop) (g:Int->Int->V):R2:=λx y H Q=>∃ i j,x=.int i/\y=.int j/\C i j/\Q (g i j) H
noncomputable def rI0 (g:Int->Int->V):R2:=λx y H Q=>∃ i j,x=.int i/\y=.int j/\Q (g i j) H
noncomputable def rU (g:Int->V):V->Hp->VK->Prop:=λx H Q=>∃ i,x=.int i/\Q (g i) H
section
variable {X:Cx} {a b c:Expr} {ta tb tc:TE} {pos:Pos}
theorem B1 (ha:PE X a ta) (hb:PE X b tb) {pins:List (Addr × Obj)} {s:Shared} {σ:St} {H:Hp} {R:V->V->Hp->Prop} (I:Inv X pins σ H s)
   (h:ta σ H λx H1=>tb σ H1 λy H2=>R x y H2) {Q:Value->Shared->Prop} {f:Value->Value->Sem Value}
   (hf:∀ v u s2 x y H2,Inv X pins σ H2 s2->RelV x v->RelV y u->R x y H2->wpAny (model X.prog X.w) X.A (f v u) Q X.xe s2) :
   wpAny (model X.prog X.w) X.A (eval a X.env) (λv s₁=>wpAny (model X.prog X.w) X.A (eval b X.env) (λu s₂=>wpAny (model X.prog X.w) X.A (f v u) Q X.xe s₂) X.xe s₁) X.xe s:=by
 refine thn (ha pins s σ H _ I h) λv s1 ⟨x,H1,I1,r1,q1⟩=>?_
 refine thn (hb pins s1 σ H1 _ I1 q1) λu s2 ⟨y,H2,I2,r2,q2⟩=>?_
 exact hf v u s2 x y H2 I2 r1 r2 q2
theorem sG {op:Operator} {r:R2} (ho:OpR X (binaryOp op) r) (ha:PE X a ta) (hb:PE X b tb):PE X (.BinOp a op b pos) (tOp r ta tb):=by
 intro pins s σ H Q I h
 exact wpAny_BinOp (B1 ha hb I h λv u s2 x y H2 I2 rx ry q=>ho pins s2 σ H2 x y v u Q I2 rx ry q)
theorem DB {op:UnaryOp} {r:V->Hp->VK->Prop} (ho:UnR X (unaryOp op) r) (ha:PE X a ta):PE X (.UnaryOp op a pos) (tUn r ta):=by
 intro pins s σ H Q I h
 exact UnaryOp_ (thn (ha pins s σ H _ I h) λv s1 ⟨x,H1,I1,r1,q1⟩=>ho pins s1 σ H1 x v Q I1 r1 q1)
theorem opI {f:Value->Value->Sem Value} {C:Int->Int->Prop} {g:Int->Int->Int}
   (rule:∀ (i j:Int) (t u:Tok) (s:Shared) (Q:Value->Shared->Prop) (E:Value->Shared->Prop),C i j->Q (.int (g i j) s.toks) { s with toks:=s.toks + 1 }->wpAny (model X.prog X.w) X.A (f (.int i t) (.int j u)) Q E s) :
   OpR X f (rI C λi j=>.int (g i j)):=by
 intro pins s σ H x y v u Q I rx ry h
 obtain ⟨i,j,rfl,rfl,hc,q⟩:=h
 obtain ⟨t,rfl⟩:=rx
 obtain ⟨t',rfl⟩:=ry
 exact rule i j t t' s _ _ hc ⟨.int (g i j),H,I.tok _,⟨_,rfl⟩,q⟩
theorem zO {f:Value->Value->Sem Value} {g:Int->Int->Int}
   (rule:∀ (i j:Int) (t u:Tok) (s:Shared) (Q:Value->Shared->Prop) (E:Value->Shared->Prop),Q (.int (g i j) s.toks) { s with toks:=s.toks + 1 }->wpAny (model X.prog X.w) X.A (f (.int i t) (.int j u)) Q E s) :
   OpR X f (rI0 λi j=>.int (g i j)):=by
 intro pins s σ H x y v u Q I rx ry h
 obtain ⟨i,j,rfl,rfl,q⟩:=h
 obtain ⟨t,rfl⟩:=rx
 obtain ⟨t',rfl⟩:=ry
 exact rule i j t t' s _ _ ⟨.int (g i j),H,I.tok _,⟨_,rfl⟩,q⟩
theorem zw {f:Value->Value->Sem Value} {g:Int->Int->Bool}
   (rule:∀ (i j:Int) (t u:Tok) (s:Shared) (Q:Value->Shared->Prop) (E:Value->Shared->Prop),Q (.bool (g i j)) s->wpAny (model X.prog X.w) X.A (f (.int i t) (.int j u)) Q E s) :
   OpR X f (rI0 λi j=>.bl (g i j)):=by
 intro pins s σ H x y v u Q I rx ry h
 obtain ⟨i,j,rfl,rfl,q⟩:=h
 obtain ⟨t,rfl⟩:=rx
 obtain ⟨t',rfl⟩:=ry
 exact rule i j t t' s _ _ ⟨.bl (g i j),H,I,rfl,q⟩
noncomputable def yS (i j:Int):Prop:=0<=j/\j<=1000000/\i.natAbs < 2 ^ 64
theorem rD (k:Nat):(0:Int)<=2 ^ k:=by
 rw [two_pow_cast]
 exact Hl _
theorem Ba:OpR X (binaryOp .Add) (rI0 λi j=>.int (i + j)):=zO λ_ _ _ _ _ _ _ q=>add_int q
theorem By:OpR X (binaryOp .Sub) (rI0 λi j=>.int (i - j)):=zO λ_ _ _ _ _ _ _ q=>sub_int q
theorem zh:OpR X (binaryOp .Mod) (rI (λ_ j=>j ≠ 0) λi j=>.int (i.fmod j)):=opI λ_ _ _ _ _ _ _ hc q=>mod_int' hc q
theorem Cn:OpR X (binaryOp .Pow) (rI yS λi j=>.int (i ^ j.toNat)):=opI λ_ _ _ _ _ _ _ hc q=>pow_int_small hc.1 hc.2.1 hc.2.2 q
theorem CO:OpR X (binaryOp .LShift) (rI yS λi j=>.int (i * 2 ^ j.toNat)):=opI λ_ _ _ _ _ _ _ hc q=>lshift_int_small hc.1 hc.2.1 hc.2.2 q
theorem BM:OpR X (binaryOp .RShift) (rI (λ_ j=>0<=j) λi j=>.int (i / 2 ^ j.toNat)):=opI λi j _ _ _ _ _ hc q=>
 rshift_int hc (by rw [F7 i (rD _)]; exact q)
theorem Bv:OpR X (binaryOp .BitAnd) (rI0 λi j=>.int (J8 i j)):=zO λ_ _ _ _ _ _ _ q=>and_int q
theorem Dj:OpR X (binaryOp .BitOr) (rI0 λi j=>.int (Kq i j)):=zO λ_ _ _ _ _ _ _ q=>or_int q
theorem unI {f:Value->Sem Value} {g:Int->Int}
   (rule:∀ (i:Int) (t:Tok) (s:Shared) (Q:Value->Shared->Prop) (E:Value->Shared->Prop),Q (.int (g i) s.toks) { s with toks:=s.toks + 1 }->wpAny (model X.prog X.w) X.A (f (.int i t)) Q E s) :
   UnR X f (rU λi=>.int (g i)):=by
 intro pins s σ H x v Q I rx h
 obtain ⟨i,rfl,q⟩:=h
 obtain ⟨t,rfl⟩:=rx
 exact rule i t s _ _ ⟨.int (g i),H,I.tok _,⟨_,rfl⟩,q⟩
theorem BW:UnR X (unaryOp .USub) (rU λi=>.int (-i)):=unI λ_ _ _ _ _ q=>neg_int q
end
noncomputable def Di:V->V->Bool
 | .non,.non=>true | .non,.int _=>true | .int _,.non=>true | .non,.bl _=>true | .bl _,.non=>true | .non,.str _=>true | .str _,.non=>true
 | .int _,.int _=>true | .bl _,.bl _=>true | .str _,.str _=>true | .byt _,.byt _=>true
 | .int _,.str _=>true | .str _,.int _=>true | .bl _,.str _=>true | .str _,.bl _=>true
 | _,_=>false
noncomputable def rEq:R2:=λx y H Q=>Di x y=true/\Q (.bl (decide (x=y))) H
noncomputable def rNe:R2:=λx y H Q=>Di x y=true/\Q (.bl (!decide (x=y))) H
theorem tG {i j:Int}:decide (V.int i=V.int j)=(i == j):=by
 rw [HR]
 simp
theorem vZ {i j:Bool}:decide (V.bl i=V.bl j)=(i == j):=by
 rw [HR]
 simp
theorem sW {i j:Str}:decide (V.str i=V.str j)=(i == j):=by
 rw [HR]
 simp
theorem tI {i j:Array UInt8}:decide (V.byt i=V.byt j)=(i.toList == j.toList):=by
 rw [HR]
 cases i
 cases j
 simp
section
variable {X:Cx} {a b c:Expr} {ta tb tc:TE} {pos:Pos}
theorem aW {pins:List (Addr × Obj)} {σ:St} {H:Hp} {s:Shared} {Q:VK} {k k':Bool} (I:Inv X pins σ H s) (q:Q (.bl k) H) (e:k=k'):EP X pins σ Q (.bool k') s:=by
 subst e
 exact ⟨.bl k,H,I,rfl,q⟩
theorem El:OpR X (compareOp .Eq) rEq:=by
 intro pins s σ H x y v u Q I rx ry h
 obtain ⟨hs,q⟩:=h
 cases x with
 | non=>
   cases rx
   cases y with
   | non=>cases ry; exact PySem.EqNone.eq_none_none (aW I q (by simp))
   | bl j=>cases ry; exact PySem.EqNone.eq_none_bool (aW I q (by simp))
   | int j=>obtain ⟨t',rfl⟩:=ry; exact PySem.EqNone.eq_none_int (aW I q (by simp))
   | str j=>obtain ⟨t',rfl⟩:=ry; exact PySem.EqNone.eq_none_str (aW I q (by simp))
   | _=>exact absurd (show false=true from hs) Fp
 | bl i=>
   cases rx
   cases y with
   | non=>cases ry; exact PySem.EqNone.eq_bool_none (aW I q (by simp))
   | bl j=>cases ry; exact eq_bool (aW I q vZ)
   | str j=>obtain ⟨t',rfl⟩:=ry; exact PySem.EqMixed.eq_bool_str (aW I q (by simp))
   | _=>exact absurd (show false=true from hs) Fp
 | int i=>
   obtain ⟨t,rfl⟩:=rx
   cases y with
   | non=>cases ry; exact PySem.EqNone.eq_int_none (aW I q (by simp))
   | int j=>obtain ⟨t',rfl⟩:=ry; exact eq_int (aW I q tG)
   | str j=>obtain ⟨t',rfl⟩:=ry; exact PySem.EqMixed.eq_int_str (aW I q (by simp))
   | _=>exact absurd (show false=true from hs) Fp
 | str i=>
   obtain ⟨t,rfl⟩:=rx
   cases y with
   | non=>cases ry; exact PySem.EqNone.eq_str_none (aW I q (by simp))
   | bl j=>cases ry; exact PySem.EqMixed.eq_str_bool (aW I q (by simp))
   | int j=>obtain ⟨t',rfl⟩:=ry; exact PySem.EqMixed.eq_str_int (aW I q (by simp))
   | str j=>obtain ⟨t',rfl⟩:=ry; exact eq_str (aW I q sW)
   | _=>exact absurd (show false=true from hs) Fp
 | byt i=>
   obtain ⟨t,rfl⟩:=rx
   cases y with
   | byt j=>obtain ⟨t',rfl⟩:=ry; exact PySem.W.eq_bytes (aW I q tI)
   | _=>exact absurd (show false=true from hs) Fp
 | _=>cases y <;> exact absurd (show false=true from hs) Fp
theorem DZ:OpR X (compareOp .NotEq) rNe:=by
 intro pins s σ H x y v u Q I rx ry h
 obtain ⟨hs,q⟩:=h
 cases x with
 | non=>
   cases rx
   cases y with
   | non=>cases ry; exact PySem.EqNone.ne_none_none (aW I q (by simp))
   | bl j=>cases ry; exact PySem.EqNone.ne_none_bool (aW I q (by simp))
   | int j=>obtain ⟨t',rfl⟩:=ry; exact PySem.EqNone.ne_none_int (aW I q (by simp))
   | str j=>obtain ⟨t',rfl⟩:=ry; exact PySem.EqNone.ne_none_str (aW I q (by simp))
   | _=>exact absurd (show false=true from hs) Fp
 | bl i=>
   cases rx
   cases y with
   | non=>cases ry; exact PySem.EqNone.ne_bool_none (aW I q (by simp))
   | bl j=>cases ry; exact ne_bool (aW I q (congrArg not vZ))
   | str j=>obtain ⟨t',rfl⟩:=ry; exact PySem.EqMixed.ne_bool_str (aW I q (by simp))
   | _=>exact absurd (show false=true from hs) Fp
 | int i=>
   obtain ⟨t,rfl⟩:=rx
   cases y with
   | non=>cases ry; exact PySem.EqNone.ne_int_none (aW I q (by simp))
   | int j=>obtain ⟨t',rfl⟩:=ry; exact ne_int (aW I q (congrArg not tG))
   | str j=>obtain ⟨t',rfl⟩:=ry; exact PySem.EqMixed.ne_int_str (aW I q (by simp))
   | _=>exact absurd (show false=true from hs) Fp
 | str i=>
   obtain ⟨t,rfl⟩:=rx
   cases y with
   | non=>cases ry; exact PySem.EqNone.ne_str_none (aW I q (by simp))
   | bl j=>cases ry; exact PySem.EqMixed.ne_str_bool (aW I q (by simp))
   | int j=>obtain ⟨t',rfl⟩:=ry; exact PySem.EqMixed.ne_str_int (aW I q (by simp))
   | str j=>obtain ⟨t',rfl⟩:=ry; exact ne_str (aW I q (congrArg not sW))
   | _=>exact absurd (show false=true from hs) Fp
 | byt i=>
   obtain ⟨t,rfl⟩:=rx
   cases y with
   | byt j=>obtain ⟨t',rfl⟩:=ry; exact PySem.W.ne_bytes (aW I q (congrArg not tI))
   | _=>exact absurd (show false=true from hs) Fp
 | _=>cases y <;> exact absurd (show false=true from hs) Fp
theorem Dl:OpR X (compareOp .Lt) (rI0 λi j=>.bl (decide (i < j))):=zw λ_ _ _ _ _ _ _ q=>lt_int q
theorem De:OpR X (compareOp .LtE) (rI0 λi j=>.bl (decide (i<=j))):=zw λ_ _ _ _ _ _ _ q=>le_int q
theorem Ek:OpR X (compareOp .Gt) (rI0 λi j=>.bl (decide (j < i))):=zw λ_ _ _ _ _ _ _ q=>gt_int q
theorem DY:OpR X (compareOp .GtE) (rI0 λi j=>.bl (decide (j<=i))):=zw λ_ _ _ _ _ _ _ q=>ge_int q
theorem xI:OpR X (compareOp .Is) (λx y H Q=>y=.non/\Q (.bl (decide (x=.non))) H):=by
 intro pins s σ H x y v u Q I rx ry h
 obtain ⟨rfl,q⟩:=h
 cases ry
 refine is_none_gen (aW I q ?_)
 cases x <;> first
   | (cases rx; rfl)
   | (obtain ⟨t,rfl⟩:=rx; rfl)
theorem v5 (b:Expr) {op:CmpOp} (h:op ≠ .In:=by decide) (h2:op ≠ .NotIn:=by decide):behindInMarks op b=false:=by
 have e1:(op == CmpOp.In)=false:=by cases op <;> first | rfl | exact absurd rfl h
 have e2:(op == CmpOp.NotIn)=false:=by cases op <;> first | rfl | exact absurd rfl h2
 cases b <;> simp [behindInMarks,e1,e2]
theorem zI {op:CmpOp} {r:R2} (ho:OpR X (compareOp op) r) (ha:PE X a ta) (hb:PE X b tb) (hm:behindInMarks op b=false):PE X (.Compare a [op] [b] pos) (tOp r ta tb):=by
 intro pins s σ H Q I h
 exact wpAny_Compare1 (B1 ha hb I h λv u s2 x y H2 I2 rx ry q=>ho pins s2 σ H2 x y v u Q I2 rx ry q) hm
noncomputable def Al (t:TE):TT:=λσ H Q=>t σ H λx H'=>∃ k,x=.bl k/\Q k H'
theorem zS {op:CmpOp} {r:R2} (ho:OpR X (compareOp op) r) (ha:PE X a ta) (hb:PE X b tb) (hm:behindInMarks op b=false):PT X (.Compare a [op] [b] pos) (Al (tOp r ta tb)):=by
 intro pins s σ H Q I h
 refine wpAny_isTrue_Compare1 (thn (ha pins s σ H _ I h) λv s1 ⟨x,H1,I1,r1,q1⟩=>thn (hb pins s1 σ H1 _ I1 q1) λu s2 ⟨y,H2,I2,r2,q2⟩=>
   thn (ho pins s2 σ H2 x y v u _ I2 r1 r2 q2) λc s3 ⟨z,H3,I3,r3,k,e,q3⟩=>?_) hm
 subst e
 cases r3
 exact wpAny_truthy_bool ⟨H3,I3,q3⟩
noncomputable def r6 (r r':R2) (ta tb tc:TE):TE:=λσ H Q=>ta σ H λx H1=>tb σ H1 λy H2=>r x y H2 λz H3=>∃ k,z=.bl k /\
 (if k=true then tc σ H3 λw' H4=>r' y w' H4 Q else Q (.bl false) H3)
theorem wL {op op':CmpOp} {r r':R2} (ho:OpR X (compareOp op) r) (ho':OpR X (compareOp op') r') (ha:PE X a ta) (hb:PE X b tb) (hc:PE X c tc)
   (hm:lastMarks [op,op'] [b,c]=false:=by with_unfolding_all rfl):PE X (.Compare a [op,op'] [b,c] pos) (r6 r r' ta tb tc):=by
 intro pins s σ H Q I h
 refine Compare_chain (thn (ha pins s σ H _ I h) λv s1 ⟨x,H1,I1,r1,q1⟩=>chain_link (thn (hb pins s1 σ H1 _ I1 q1) λu s2 ⟨y,H2,I2,r2,q2⟩=>
   thn (ho pins s2 σ H2 x y v u _ I2 r1 r2 q2) λd s3 ⟨z,H3,I3,r3,k,e,q3⟩=>?_)) hm
 subst e
 cases r3
 refine wpAny_truthy_bool ?_
 cases k with
 | false=>exact ite_ff ⟨.bl false,H3,I3,rfl,q3⟩
 | true=>exact ite_tt (chain_last (thn (hc pins s3 σ H3 _ I3 q3) λw' s4 ⟨z',H4,I4,r4,q4⟩=>ho' pins s4 σ H4 y z' u w' Q I4 r2 r4 q4))
theorem v8 {op op':CmpOp} {r r':R2} (ho:OpR X (compareOp op) r) (ho':OpR X (compareOp op') r') (ha:PE X a ta) (hb:PE X b tb) (hc:PE X c tc)
   (hm:lastMarks [op,op'] [b,c]=false:=by with_unfolding_all rfl):PT X (.Compare a [op,op'] [b,c] pos) (Al (r6 r r' ta tb tc)):=by
 intro pins s σ H Q I h
 refine isTrue_chain (thn (ha pins s σ H _ I h) λv s1 ⟨x,H1,I1,r1,q1⟩=>test_link (thn (hb pins s1 σ H1 _ I1 q1) λu s2 ⟨y,H2,I2,r2,q2⟩=>
   thn (ho pins s2 σ H2 x y v u _ I2 r1 r2 q2) λd s3 ⟨z,H3,I3,r3,k,e,q3⟩=>?_)) hm
 subst e
 cases r3
 refine wpAny_truthy_bool ?_
 cases k with
 | false=>
   obtain ⟨k',e',q'⟩:=q3
   cases e'
   exact ite_ff ⟨H3,I3,q'⟩
 | true=>
   refine ite_tt (test_last (thn (hc pins s3 σ H3 _ I3 q3) λw' s4 ⟨z',H4,I4,r4,q4⟩=>thn (ho' pins s4 σ H4 y z' u w' _ I4 r2 r4 q4) λd' s5 ⟨z2,H5,I5,r5,k2,e2,q5⟩=>?_))
   subst e2
   cases r5
   exact wpAny_truthy_bool ⟨H5,I5,q5⟩
theorem nE:(sizeLine:Nat) < 2 ^ 63:=by rw [sizeLine_eq]; decide
theorem vals1 {x:V} {us:List Value} (r:Vals [x] us):∃ u,us=[u]/\RelV x u:=by
 cases r with
 | cons r1 r2=>cases r2; exact ⟨_,rfl,r1⟩
theorem vals2 {x y:V} {us:List Value} (r:Vals [x,y] us):∃ u w',us=[u,w']/\RelV x u/\RelV y w':=by
 cases r with
 | cons r1 r2=>
   cases r2 with
   | cons r3 r4=>cases r4; exact ⟨_,_,rfl,r1,r3⟩
theorem vJ:dg X (.builtin "abs") (λxs H Q=>∃ i,xs=[.int i]/\Q (.int (if i < 0 then -i else i)) H):=by
 intro pins s σ H xs us Q I r h
 obtain ⟨i,rfl,q⟩:=h
 obtain ⟨u,rfl,t,rfl⟩:=vals1 r
 exact call_abs_int λu tk=>⟨.int (if i < 0 then -i else i),H,I.tok _,⟨_,rfl⟩,q⟩
theorem uR (hc:X.calm=true):dg X (.builtin "max") (λxs H Q=>∃ i j,xs=[.int i,.int j]/\Q (.int (if j > i then j else i)) H):=by
 intro pins s σ H xs us Q I r h
 obtain ⟨i,j,rfl,q⟩:=h
 obtain ⟨u,w',rfl,⟨t,rfl⟩,⟨t',rfl⟩⟩:=vals2 r
 refine max_two_ints (I.ok.hd hc) λh' tk k=>⟨_,H,I.kept k,?_,q⟩
 by_cases hj:j > i
 · rw [if_pos hj,if_pos hj]; exact ⟨_,rfl⟩
 · rw [if_neg hj,if_neg hj]; exact ⟨_,rfl⟩
theorem uT (hc:X.calm=true):dg X (.builtin "min") (λxs H Q=>∃ i j,xs=[.int i,.int j]/\Q (.int (if j < i then j else i)) H):=by
 intro pins s σ H xs us Q I r h
 obtain ⟨i,j,rfl,q⟩:=h
 obtain ⟨u,w',rfl,⟨t,rfl⟩,⟨t',rfl⟩⟩:=vals2 r
 refine min_two_ints (I.ok.hd hc) λh' tk k=>⟨_,H,I.kept k,?_,q⟩
 by_cases hj:j < i
 · rw [if_pos hj,if_pos hj]; exact ⟨_,rfl⟩
 · rw [if_neg hj,if_neg hj]; exact ⟨_,rfl⟩
theorem uV:dg X (.type "int") (λxs H Q=>(∃ i,xs=[.int i]/\Q (.int i) H)\/∃ k,xs=[.bl k]/\Q (.int (if k then 1 else 0)) H):=by
 intro pins s σ H xs us Q I r h
 rcases h with ⟨i,rfl,q⟩ | ⟨k,rfl,q⟩
 · obtain ⟨u,rfl,t,rfl⟩:=vals1 r
   exact call_int_int ⟨.int i,H,I,⟨_,rfl⟩,q⟩
 · obtain ⟨u,rfl,r1⟩:=vals1 r
   cases r1
   exact call_int_bool ⟨.int (if k then 1 else 0),H,I.tok _,⟨_,rfl⟩,q⟩
end
section
variable {prog:Program} {w:World} {A:Around} {E:Value->Shared->Prop} {s:Shared} {K:Fb} {x dx C f:Addr} {mA:Str->Option Value} {name:Str} {v:Value}
end
theorem pH.some_of {v:V} {o:Option Value} (r:pH (some v) o):∃ u,o=some u/\RelV v u:=by
 cases o with
 | none=>exact (show False from r).elim
 | some u=>exact ⟨u,rfl,r⟩
section
variable {P:Program} {w:World} {H H':Hp} {h h':Heap} {a C dx:Addr} {fs fs':List (Str × V)}
end
section
variable {X:Cx} {pins:List (Addr × Obj)} {σ:St} {H:Hp} {s:Shared} {a C dx:Addr} {fs:List (Str × V)} {f:Str} {v:V} {A:Around} {E:Value->Shared->Prop}
end
section
variable {X:Cx} {o e value:Expr} {f:Str} {pos pos' tpos:Pos} {ta tv:TE}
end
section
variable {X:Cx} {pins:List (Addr × Obj)} {σ:St} {H:Hp} {s:Shared} {A:Around} {E:Value->Shared->Prop} {Q:Value->Shared->Prop} {c:Value} {b:Bool}
end
structure fu (k:Nat) (A:Around):Prop where
 hd:A.handled=none
 dp:A.depth + 3 * k + 5 < recursionLimit
 un:A.units + 16 * k + 200 < cLine
theorem fu.mono {j k:Nat} {A:Around} (r:fu k A) (h:j<=k):fu j A:=⟨r.hd,by have:=r.dp; omega,by have:=r.un; omega⟩
theorem fu.deeper {k:Nat} {A:Around} (r:fu (k + 1) A) (env:Env):fu k (A.deeper env):=
 ⟨r.hd,by have:=r.dp; show A.depth + 1 + 3 * k + 5 < _; omega,by have:=r.un; show A.units + 3 + 16 * k + 200 < _; omega⟩
theorem fu.depth {k:Nat} {A:Around} (r:fu k A):A.depth < recursionLimit:=by have:=r.dp; omega
theorem fu.units {k:Nat} {A:Around} (r:fu k A):A.units + 64 < cLine:=by have:=r.un; omega
noncomputable def ER:TA:=λ_ H Q=>Q [] H
noncomputable def Em (ta:TE) (tr:TA):TA:=λσ H Q=>ta σ H λx H1=>tr σ H1 λxs H2=>Q (x :: xs) H2
section
variable {X:Cx} {e:Expr} {es:List Expr} {te:TE} {t:TA} {pos:Pos}
theorem dC:PA X [] ER:=λ_ _ _ _ H Q I h=>JS ⟨[],H,I,.nil,h⟩
theorem bO (ha:PE X e te) (hr:PA X es t) (hs:starEach (e :: es) X.env=(false,eval e X.env) :: starEach es X.env:=by rfl):PA X (e :: es) (Em te t):=by
 intro pos pins s σ H Q I h
 rw [hs]
 show wpAny _ _ (spliced ((false,eval e X.env) :: backTo pos (starEach es X.env))) _ _ s
 refine Iy (thn (ha pins s σ H _ I h) λu s1 ⟨x,H1,I1,r1,q1⟩=>?_)
 exact thn (hr pos pins s1 σ H1 _ I1 q1) λus s2 ⟨xs,H2,I2,r2,q2⟩=>⟨x :: xs,H2,I2,.cons r1 r2,q2⟩
noncomputable def EZ (t:TA):TE:=λσ H Q=>t σ H λxs H1=>xs.length<=sizeLine/\∀ p,H1 p=none->Q (.ref p) (upd H1 p (.tup xs))
noncomputable def EW (t:TA):TE:=λσ H Q=>t σ H λxs H1=>xs.length<=sizeLine/\∀ p,H1 p=none->Q (.ref p) (upd H1 p (.lst xs))
theorem rF {x1} (h:PA X es t):PE X (.Tuple es x1 pos) (EZ t):=by
 intro pins s σ H Q I hq
 refine wpAny_Tuple_spliced (thn (h pos pins s σ H _ I hq) λus s1 ⟨xs,H1,I1,r,z,q⟩=>⟨by rw [<- r.length]; exact z,?_⟩)
 have hf:H1 s1.heap.objs.size=none:=I1.hok.fresh (Fc _)
 refine ⟨.ref s1.heap.objs.size,upd H1 s1.heap.objs.size (.tup xs),I1.laid (t':=s1.toks) (λb u e=>Fg _ e) (Fc _) ?_,rfl,q _ hf⟩
 exact ⟨z,us,r,⟨_,FA _ rfl,rfl,_,rfl⟩⟩
theorem Cr (h:PA X es t):PE X (.List es pos) (EW t):=by
 intro pins s σ H Q I hq
 refine wpAny_List_spliced (thn (h pos pins s σ H _ I hq) λus s1 ⟨xs,H1,I1,r,z,q⟩=>⟨by rw [<- r.length]; exact z,?_⟩)
 have hf:H1 s1.heap.objs.size=none:=I1.hok.fresh (Fc _)
 refine ⟨.ref s1.heap.objs.size,upd H1 s1.heap.objs.size (.lst xs),I1.laid (t':=s1.toks) (λb u e=>Fg _ e) (Fc _) ?_,rfl,q _ hf⟩
 exact ⟨z,us,0,r,FA _ rfl⟩
end
noncomputable abbrev Sp:=List V->Hp->VK->XK->Prop
noncomputable abbrev CXT:=List Env->Hp->Shared->XK->Value->Shared->Prop
structure zA (P:Program) (w:World) (K:Fb) (mg:Str->Option Value) (base:Heap) (A:Around) (outer:List Env) (s:Shared) (H:Hp):Prop where
 frames:A.frames=some outer
 mod:Mod K mg base
 bs:∀ b o,base.get? b=some o->s.heap.get? b=some o/\H b=none
 bsz:base.objs.size<=s.heap.objs.size
 k6:s.heap.FunFrames base outer
 frf:∀ b ∈ frs outer,H b=none
 hok:HOk P w H s.heap
 bare:AllBare s.gens
noncomputable def CE (outer:List Env) (P:Program) (w:World) (H:Hp) (s:Shared) (Q:VK) (u:Value) (s':Shared):Prop:=
 ∃ v H',s'.os=s.os/\AllBare s'.gens/\Un (frs outer) [] H H' s.heap s'.heap/\HOk P w H' s'.heap/\RelV v u/\Q v H'
noncomputable def CR (CX:CXT) (outer:List Env) (P:Program) (w:World) (H:Hp) (s:Shared) (Q:VK) (E:XK) (r:Result) (s':Shared):Prop:=
 match r with
 | .ok (.ret u)=>CE outer P w H s Q u s'
 | .ok _=>False
 | .error e=>CX outer H s E e s'
structure aQ (P:Program) (w:World) (K:Fb) (mg:Str->Option Value) (base:Heap) (CX:CXT) (k:Nat) (f:Addr) (fd:FuncData) (ps:List Str) (sp:Sp):Prop where
 len:∀ vs H Q E,sp vs H Q E->vs.length=ps.length
 run:∀ (A:Around) (outer:List Env) (s:Shared) (H:Hp) (args:Args) (us:List Value) (vs:List V) (Q:VK) (E:XK),fu k A->zA P w K mg base A outer s H->BindsTo s fd args (ps.zip us)->Vals vs us->sp vs H Q E ->
   codeAny (model P w) A (.call (.ref f) args) (CR CX outer P w H s Q E) s
theorem aQ.mono {P:Program} {w:World} {K:Fb} {mg:Str->Option Value} {base:Heap} {CX:CXT} {j k:Nat} {f:Addr} {fd:FuncData} {ps:List Str} {sp:Sp} (F:aQ P w K mg base CX j f fd ps sp) (h:j<=k) :
   aQ P w K mg base CX k f fd ps sp:=⟨F.len,λA outer s H args us vs Q E hr=>F.run A outer s H args us vs Q E (hr.mono h)⟩
section
variable {X:Cx} {pins:List (Addr × Obj)} {σ:St} {H:Hp} {s s':Shared}
theorem Inv.E8 (I:Inv X pins σ H s):zA X.prog X.w X.K X.mg X.base X.A X.stack s H:=
 ⟨I.ok.frames,I.ok.mod,I.bs,Fz I.ok.bsz I.sz,I.stack,I.tK,I.hok,I.bare⟩
theorem Inv.after {Q:VK} {u:Value} (I:Inv X pins σ H s) (h:CE X.stack X.prog X.w H s Q u s'):EP X pins σ Q u s':=by
 obtain ⟨v,H',os,bare,un,hok,r,q⟩:=h
 obtain ⟨hh,g,d,t,os'⟩:=s'
 obtain rfl:os'=s.os:=os
 exact ⟨v,H',I.call (h':=hh) (g':=g) (d':=d) (t':=t) (ch:=[]) un hok bare (λb z=>absurd z (by simp)),r,q⟩
end
noncomputable def Ei (sp:Sp) (dvs:List V) (E:XK) (t:TA):TE:=λσ H Q=>t σ H λvs H1=>sp (vs++dvs) H1 Q E
noncomputable def Binds (K:Fb) (fd:FuncData) (ps:List Str) (ds:List Value):Prop:=
 ∀ (s:Shared) (us:List Value),K.In s.heap->(us++ds).length=ps.length->BindsTo s fd ⟨us,[]⟩ (ps.zip (us++ds))
theorem Binds.all {K:Fb} {fd:FuncData} {ps:List Str} (h:∀ us:List Value,us.length=ps.length->bindArgs fd ⟨us,[]⟩=pure (ps.zip us)):Binds K fd ps []:=λs us _ hl=>by
 rw [Gh] at hl ⊢
 exact .of_eq (h us hl)
noncomputable def Passes (CX:CXT) (X:Cx) (E:XK):Prop:=∀ (pins:List (Addr × Obj)) (σ:St) (H:Hp) (s:Shared) (e:Value) (s':Shared),Inv X pins σ H s->CX X.stack H s E e s'->X.xe e s'
section
variable {X:Cx} {CX:CXT} {k:Nat} {f C:Addr} {fd:FuncData} {ps:List Str} {sp:Sp} {dvs:List V} {ds:List Value} {E:XK} {x m:Str} {p pos apos:Pos} {e o:Expr} {es:List Expr} {ta:TE} {t:TA}
theorem Cf {pins:List (Addr × Obj)} {σ:St} {H:Hp} {s:Shared} {Q:VK} {us:List Value} {vs:List V} (F:aQ X.prog X.w X.K X.mg X.base CX k f fd ps sp) (hr:fu k X.A) (hb:Binds X.K fd ps ds) (hd:Vals dvs ds) (hx:Passes CX X E)
   (I:Inv X pins σ H s) (r:Vals vs us) (h:sp (vs++dvs) H Q E):wpAny (model X.prog X.w) X.A (call (.ref f) us) (EP X pins σ Q) X.xe s:=by
 have r2:Vals (vs++dvs) (us++ds):=r.append hd
 have hl:(us++ds).length=ps.length:=by rw [<- r2.length]; exact F.len _ _ _ _ h
 refine wpAny_call (codeAny_mono (F.run X.A X.stack s H ⟨us,[]⟩ (us++ds) (vs++dvs) Q E hr I.E8 (hb s us I.kIn hl) r2 h) λr s' hq=>?_)
 cases r with
 | error e=>exact hx pins σ H s e s' I hq
 | ok fl=>
   cases fl with
   | ret u=>exact I.after hq
   | next=>exact HF hq
   | brk=>exact HF hq
   | cont=>exact HF hq
theorem y8 (F:aQ X.prog X.w X.K X.mg X.base CX k f fd ps sp) (hr:fu k X.A) (hg:Gl X x) (hm:X.mg x=some (.ref f)) (hk:G6 X.K (.ref f)=true) (hb:Binds X.K fd ps ds) (hd:Vals dvs ds) (hx:Passes CX X E)
   (ha:PA X (e :: es) t) (hdb:(x == ("__debug__" : Str))=false:=by decide) (he:starEach (e :: es) X.env=(false,eval e X.env) :: starEach es X.env:=by rfl) (hpl:(backTo pos (starEach es X.env)).any (·.1)=false:=by rfl) :
   PE X (.Call (.Name x p) (e :: es) [] pos) (Ei sp dvs E t):=by
 intro pins s σ H Q I h
 refine wpAny_Call_Name_kw (tF I hg hm ?_ hdb)
 refine PySem.W.callWith_K (h₀:=X.base) I.ok.mod.kin hk (thn (ha pos pins s σ H _ I h) λus s1 ⟨vs,H1,I1,r,q⟩=>⟨I1.kIn,?_⟩) he hpl
 exact Cf F hr hb hd hx I1 r q
end
section
variable {X:Cx} {CX:CXT} {k:Nat} {f C:Addr} {fd:FuncData} {ps ks:List Str} {sp:Sp} {E:XK} {x m:Str} {p pos apos kpos:Pos} {e o:Expr} {es:List Expr} {kws:List Keyword} {te ta:TE} {t tk:TA} {nm:Option Str}
variable {g:List Value->List Value->List Value} {gV:List V->List V->List V}
end
structure aq (N P:List Str) (sc:Scope):Prop where
 kind:sc.kind=.function
 co:sc.isCoroutine=false
 gen:sc.isGenerator=false
 nd:N.Nodup
 pre:N.take P.length=P
 par:∀ x ∈ P,sc.names.lookup x=some .local\/sc.names.lookup x=some .cell
 nofree:∀ y ∈ sc.names,y.2 ≠ .free
theorem mT {kindOf:Str->Option NameKind} {x:Str}:∀ {binds:List (Str × Value)} {m:Str->Option Value},(∀ v,(x,v) ∉ binds)->bindL kindOf binds m x=m x
 | [],_,_=>rfl
 | (n,v) :: r,m,h=>by
   unfold bindL
   rw [mT λw hw=>h w (Fh _ hw)]
   split
   · have:x ≠ n:=by rintro rfl; exact h v Fi
     simp [this]
   · rfl
theorem mC {kindOf:Str->Option NameKind} {x:Str}:∀ {binds:List (Str × Value)} {m:Str->Option Value},(∀ v,(x,v) ∉ binds)->bindC kindOf binds m x=m x
 | [],_,_=>rfl
 | (n,v) :: r,m,h=>by
   unfold bindC
   rw [mC λw hw=>h w (Fh _ hw)]
   split
   · rfl
   · have:x ≠ n:=by rintro rfl; exact h v Fi
     simp [this]
theorem mG {kindOf:Str->Option NameKind} {x:Str} {v:Value}:∀ {P:List Str} {vs:List Value} {i:Nat} {m:Str->Option Value},P.Nodup->P[i]?=some x->vs[i]?=some v->kindOf x=some .local ->
   bindL kindOf (P.zip vs) m x=some v
 | [],_,_,_,_,h,_,_=>by simp at h
 | _ :: _,[],_,_,_,_,h,_=>by simp at h
 | p :: P,w :: vs,0,m,nd,h1,h2,hk=>by
   simp at h1 h2; subst h1; subst h2
   show bindL kindOf ((p,w) :: P.zip vs) m p=_
   unfold bindL
   rw [mT λv hv=>(F8.mp nd).1 (Ki hv).1,if_pos hk]
   simp
 | p :: P,w :: vs,i + 1,m,nd,h1,h2,hk=>by
   show bindL kindOf ((p,w) :: P.zip vs) m x=_
   unfold bindL
   exact mG (i:=i) (F8.mp nd).2 (by simpa using h1) (by simpa using h2) hk
theorem mY {kindOf:Str->Option NameKind} {x:Str} {v:Value}:∀ {P:List Str} {vs:List Value} {i:Nat} {m:Str->Option Value},P.Nodup->P[i]?=some x->vs[i]?=some v->kindOf x ≠ some .local ->
   bindC kindOf (P.zip vs) m x=some v
 | [],_,_,_,_,h,_,_=>by simp at h
 | _ :: _,[],_,_,_,_,h,_=>by simp at h
 | p :: P,w :: vs,0,m,nd,h1,h2,hk=>by
   simp at h1 h2; subst h1; subst h2
   show bindC kindOf ((p,w) :: P.zip vs) m p=_
   unfold bindC
   rw [mC λv hv=>(F8.mp nd).1 (Ki hv).1,if_neg hk]
   simp
 | p :: P,w :: vs,i + 1,m,nd,h1,h2,hk=>by
   show bindC kindOf ((p,w) :: P.zip vs) m x=_
   unfold bindC
   exact mY (i:=i) (F8.mp nd).2 (by simpa using h1) (by simpa using h2) hk
noncomputable def start (N:List Str) (vs:List V):St:=vs.map some++FH (N.length - vs.length) none
noncomputable def rE (CX:CXT) (P:Program) (w:World) (K:Fb) (mg:Str->Option Value) (base:Heap) (N:List Str) (qual:Str) (scope:Scope) (f:Addr) (cd:Value) (A:Around) (outer:List Env) (s:Shared) (H:Hp) (E:XK):Cx where
 prog:=P
 w:=w
 K:=K
 mg:=mg
 base:=base
 A:=A.deeper (envOfC qual scope s.heap.objs.size f cd)
 N:=N
 s₀:=s
 H₀:=H
 env:=envOfC qual scope s.heap.objs.size f cd
 outer:=outer
 stack:=envOfC qual scope s.heap.objs.size f cd :: outer
 ex:=[]
 calm:=true
 fn:=λ_=>true
 pn:=[]
 xe:=λe s'=>wpAny (model P w) (A.deeper (envOfC qual scope s.heap.objs.size f cd)) (leaving (envOfC qual scope s.heap.objs.size f cd) e) (λ_ s''=>CX outer H s E e s'') (λe' s''=>CX outer H s E e' s'') s'
theorem pj {sc:Scope} {n:Nat} {x:Str} (h:sc.names.lookup x=some .cell):∃ c,(cellsFrom n sc.names []).lookup x=some c:=by
 have q:=Kv sc.names n [] (.inl h)
 exact Kr.mp q
theorem vh {CX:CXT} {P:Program} {w:World} {K:Fb} {mg:Str->Option Value} {base:Heap} {N ps:List Str} {qual:Str} {scope:Scope} {f:Addr} {cd:Value} {A:Around} {outer:List Env} {s s1:Shared} {H:Hp} {E:XK} {us:List Value} {vs:List V}
   (S:aq N ps scope) {cm:Bool} (hd:cm=true->A.handled=none) (e0:zA P w K mg base A outer s H) (hl:vs.length=ps.length) (r:Vals vs us)
   (x:InCallC s s.heap.objs.size (bindL (envOfC qual scope s.heap.objs.size f cd).kindOf (ps.zip us) λ_=>none) (cellsFrom (s.heap.objs.size + 1) scope.names []) (bindC (envOfC qual scope s.heap.objs.size f cd).kindOf (ps.zip us) λ_=>none) s1) :
   Inv { rE CX P w K mg base N qual scope f cd A outer s H E with calm:=cm } [] (start N vs) H s1:=by
 have hpl:ps.length<=N.length:=by have:=congrArg Kk S.pre; rw [FI] at this; omega
 obtain ⟨h1,tk,rfl,hk⟩:=x.done
 have noA:∀ b:Addr,b ∉ (rE CX P w K mg base N qual scope f cd A outer s H E).ex:=λb z=>absurd (show b ∈ ([]:List Addr) from z) (by simp)
 refine ⟨⟨e0.mod,S.kind,rfl,rfl,Fc _,λy z c h1 h2=>?_,λy hy=>?_,λy c _ h=>?_,hd,Around.frames_deeper e0.frames,.inr ⟨rfl,rfl⟩,λb z=>absurd z (noA b),e0.bs,e0.bsz,λb _ _=>noA b,λb z=>absurd z (noA b),e0.k6,e0.frf⟩,
   rfl,e0.bare,Un.kept hk,⟨_,x.toInCall.ns,λi y v h1 h2 h3=>?_⟩,λy c h=>⟨_,x.cell y c h⟩,e0.hok.fresh (Fc _),λy c h=>?_,λp hp=>absurd (show p ∈ ([]:List (Addr × Obj)) from hp) (by simp),e0.hok.kept hk,?_⟩
 · exact name_of_addr x.apart (HB h1) (HB h2)
 · have hy:scope.names.lookup y=some .cell\/scope.names.lookup y=some .free:=hy
   rcases hy with hy | hy
   · exact pj hy
   · exact absurd rfl (S.nofree _ (HB hy))
 · exact GR (x.above y c (HB h))
 · have hi:i < vs.length:=by
     unfold start at h2
     by_cases hi:i < vs.length
     · exact hi
     · rw [F0 (by simpa using hi)] at h2
       rw [HP] at h2
       split at h2 <;> cases h2
   have ha:vs[i]?=some v:=by
     unfold start at h2
     rw [FG (by simpa using hi),FL] at h2
     cases e:vs[i]? with
     | none=>rw [e] at h2; cases h2
     | some a=>rw [e] at h2; cases h2; rfl
   obtain ⟨u,hu,rv⟩:=r.get ha
   have hp:ps[i]?=some y:=by
     rw [<- S.pre,KG (by omega)]; exact h1
   have ndP:ps.Nodup:=by rw [<- S.pre]; exact S.nd.sublist (List.take_sublist _ _)
   refine ⟨u,rv,?_⟩
   rcases S.par y (Gn hp) with k | k
   · exact .inl ⟨k,mG ndP hp hu k⟩
   · obtain ⟨c,e⟩:=pj (n:=s.heap.objs.size + 1) k
     refine .inr ⟨.inl k,c,e,?_⟩
     have q:=x.cell y c e
     rw [mY ndP hp hu (by show scope.names.lookup y ≠ _; rw [k]; decide)] at q
     exact q
 · exact e0.hok.fresh (GR (x.above y c (HB h)))
 · unfold start
   show _=N.length
   rw [Fw,E9,Gy]
   omega
theorem Eg {CX:CXT} {P:Program} {w:World} {K:Fb} {mg:Str->Option Value} {base:Heap} {k:Nat} {f:Addr} {name qual:Str} {params:Arguments} {body:List Stmt} {scope:Scope} {dV kV doc pm cdv ct oc:Value} {an od:Option Addr}
   {osl:Array (Option Value)} {N ps:List Str} {sp:Sp} (lk:K.lookup f=some ⟨oc,od,.func (GV name qual params body scope dV kV doc pm an cdv ct),osl⟩) (hcd:Ht K cdv qual=true) (S:aq N ps scope)
   (len:∀ vs H Q E,sp vs H Q E->vs.length=ps.length)
   (hbody:∀ (A:Around) (outer:List Env) (s:Shared) (H:Hp) (vs:List V) (Q:VK) (E:XK),fu k (A.deeper (envOfC qual scope s.heap.objs.size f cdv))->sp vs H Q E ->
     ∃ t,PSs (rE CX P w K mg base N qual scope f cdv A outer s H E) body t/\t { nx:=λ_ H'=>Q .non H',rt:=Q } (start N vs) H) :
   aQ P w K mg base CX (k + 1) f (GV name qual params body scope dV kV doc pm an cdv ct) ps sp:=by
 refine ⟨len,λA outer s H args us vs Q E hr e0 hb r hsp=>?_⟩
 have hl:=len _ _ _ _ hsp
 have KX:K.In s.heap:=e0.mod.kin.keeps λb o e=>(e0.bs b o e).1
 have lim:s.heap.NoLimit:=e0.mod.nolimit.keeps λb o e=>(e0.bs b o e).1
 have hkind:∀ y ∈ ps.zip us,scope.names.lookup y.1=some .local\/(scope.names.lookup y.1=some .cell/\((cellsFrom (s.heap.objs.size + 1) scope.names []).lookup y.1).isSome=true):=λ⟨n,v⟩ hy=>by
   rcases S.par n (Ki hy).1 with q | q
   · exact .inl q
   · exact .inr ⟨q,Kv _ _ _ (.inl q)⟩
 refine codeAny_call_function hr.depth (KX _ _ lk) rfl S.co S.gen rfl (PySem.W.codeRec_of KX hcd) (hb _ _ _ _ ?_)
 refine wpAny_newFunctionEnv_cells S.kind hkind λenv he s1 x=>?_
 subst he
 refine ⟨lim.keeps x.toInCall.keep,codeAny_func ?_⟩
 obtain ⟨t,ht,hq⟩:=hbody A outer s H vs Q E (hr.deeper _) hsp
 have I:Inv (rE CX P w K mg base N qual scope f cdv A outer s H E) [] (start N vs) H s1:=vh (cm:=true) S (λ_=>hr.hd) e0 hl r x
 refine wpAny_mono (ht [] s1 (start N vs) H _ I hq) (λfl s' hs=>?_) λe s' hs=>hs
 have fin:∀ {σ':St} {H':Hp} {v:V} {u:Value},Inv (rE CX P w K mg base N qual scope f cdv A outer s H E) [] σ' H' s'->RelV v u->Q v H'->CE outer P w H s Q u s':=
   λ{σ' H' v u} J rv q=>⟨v,H',J.os,J.bare,J.base,J.hok,rv,q⟩
 cases fl with
 | ret u=>
   obtain ⟨v,σ',H',J,rv,q⟩:=hs
   exact fin J rv q
 | next=>
   obtain ⟨σ',H',J,q⟩:=hs
   exact fin (v:=V.non) (u:=GW) J rfl q
 | brk=>
   obtain ⟨_,_,_,q⟩:=hs
   exact HF q
 | cont=>
   obtain ⟨_,_,_,q⟩:=hs
   exact HF q
section
variable {X:Cx} {x:Str} {p pos:Pos} {e:Expr} {es:List Expr} {t:TA} {id T:String} {r:List V->Hp->VK->Prop}
noncomputable def tCB (r:List V->Hp->VK->Prop) (t:TA):TE:=λσ H Q=>t σ H λvs H1=>r vs H1 Q
theorem pC (hc:dg X (.builtin id) r) (hg:Gl X x) (hm:X.mg x=none) (hv:bootBuiltins x=some (.builtin id)) (ha:PA X (e :: es) t) (hn:x ≠ "__name__":=by decide) (hdb:(x == ("__debug__" : Str))=false:=by decide)
   (he:starEach (e :: es) X.env=(false,eval e X.env) :: starEach es X.env:=by rfl) (hpl:(backTo pos (starEach es X.env)).any (·.1)=false:=by rfl):PE X (.Call (.Name x p) (e :: es) [] pos) (tCB r t):=by
 intro pins s σ H Q I h
 refine wpAny_Call_Name_kw (eX I hg hm hv ?_ hn hdb)
 exact PyProof.Rows.callWith_builtin1 (thn (ha pos pins s σ H _ I h) λus s1 ⟨vs,H1,I1,r1,q1⟩=>hc pins s1 σ H1 vs us Q I1 r1 q1) he hpl
theorem mM (hc:dg X (.type T) r) (hg:Gl X x) (hm:X.mg x=none) (hv:bootBuiltins x=some (.type T)) (ha:PA X (e :: es) t) (hn:x ≠ "__name__":=by decide) (hdb:(x == ("__debug__" : Str))=false:=by decide)
   (he:starEach (e :: es) X.env=(false,eval e X.env) :: starEach es X.env:=by rfl) (hpl:(backTo pos (starEach es X.env)).any (·.1)=false:=by rfl):PE X (.Call (.Name x p) (e :: es) [] pos) (tCB r t):=by
 intro pins s σ H Q I h
 refine wpAny_Call_Name_kw (eX I hg hm hv ?_ hn hdb)
 exact Gf (thn (ha pos pins s σ H _ I h) λus s1 ⟨vs,H1,I1,r1,q1⟩=>hc pins s1 σ H1 vs us Q I1 r1 q1) he hpl
end
end L2
namespace HT
open PySem PyProof.Rows
section
open PySem.SeqAt
open PySem.AutoSeq1 (wpAny_loadPart')
open PySem.MeetsSeq PySem.MeetsSeq2 PySem.MeetsSeq3
end
section
variable {prog:Program} {w:World} {A:Around} {E:Value->Shared->Prop} {s:Shared}
theorem yT {t b:Addr} {vs ws:List Value} {Q:Value->Shared->Prop} (ht:IsTup s.heap t vs.toArray) (hb:IsTup s.heap b ws.toArray) (hv:vs ≠ [])
   (h1:ws=[]->Q (.ref t) s) (h2:ws ≠ []->Q (.ref s.heap.objs.size) { s with heap:=s.heap.push { cls:=.type "tuple",data:=.seq (vs++ws).toArray } })
   (hsz:vs.length + ws.length<=sizeLine):wpAny (model prog w) A (binaryOp .Add (.ref t) (.ref b)) Q E s:=by
 obtain ⟨⟨cls,dd,data,sl⟩,ho,hc,n,hd⟩:=id ht
 obtain ⟨⟨cls2,dd2,data2,sl2⟩,ho2,hc2,n2,hd2⟩:=id hb
 simp only at hc hd hc2 hd2
 subst hc hd hc2 hd2
 have e:vs.toArray++ws.toArray=(vs++ws).toArray:=by simp
 by_cases hw:ws=[]
 · exact concat_meets ⟨_,ho,rfl⟩ ⟨_,ho2,rfl⟩ noFill_tuple_add seq_tuple_add IT IJ (IB _ _)
     (tuple_addW1 t b vs.toArray ws.toArray n n2 dd dd2 sl sl2 (by simpa using hv) (by simp [hw])) ⟨ho,ho2,h1 hw⟩
 · refine concat_meets ⟨_,ho,rfl⟩ ⟨_,ho2,rfl⟩ noFill_tuple_add seq_tuple_add IT IJ (IB _ _)
     (tuple_addW2 t b vs.toArray ws.toArray n n2 dd dd2 sl sl2 (by simpa using hv) (by simpa using hw) (by rw [Fo,Fo]; exact hsz)) ⟨ho,ho2,?_⟩
   rw [e]
   exact h2 hw
noncomputable def sIx (n d:Nat):Option Int->Nat
 | none=>d
 | some v=>if v < 0 then (v + (n:Int)).toNat else min v.toNat n
theorem kN (n d:Nat):sIx n d none=d:=rfl
theorem jU (n d k:Nat):sIx n d (some (k:Int))=min k n:=by
 show (if (k:Int) < 0 then ((k:Int) + (n:Int)).toNat else min (k:Int).toNat n)=min k n
 rw [if_neg (by omega),Fq]
theorem BO (n d:Nat) (hd:d<=n) (o:Option Int):sIx n d o<=n:=by
 cases o with
 | none=>exact hd
 | some v=>
   show (if v < 0 then (v + (n:Int)).toNat else min v.toNat n)<=n
   by_cases hv:v < 0
   · rw [if_pos hv]; omega
   · rw [if_neg hv]; exact Nat.min_le_right _ _
theorem sF (v:Int) (n d:Nat):(if v < 0 then max (v + (n:Int)) 0 else min v (n:Int))=((sIx n d (some v):Nat):Int):=by
 show (if v < 0 then max (v + (n:Int)) 0 else min v (n:Int))=(((if v < 0 then (v + (n:Int)).toNat else min v.toNat n):Nat):Int)
 by_cases hv:v < 0
 · simp only [if_pos hv]; omega
 · simp only [if_neg hv]; omega
theorem sA (lo hi:Option Int) (n:Nat):JI lo hi 1 (n:Int)=(((sIx n 0 lo:Nat):Int),((sIx n n hi:Nat):Int)):=by
 have h1:¬ ((1:Int) < 0):=by omega
 unfold Builtin.Slice.sliceAdjust
 simp only [h1,if_false]
 refine Prod.ext ?_ ?_
 · cases lo with
   | none=>rfl
   | some v=>exact sF v n 0
 · cases hi with
   | none=>rfl
   | some v=>exact sF v n n
theorem rH (i j:Nat):Ii (i:Int) (j:Int) 1=j - i:=by
 unfold Builtin.Slice.slicePlaces
 have h1:(1:Int) > 0:=by omega
 simp only [h1,if_true,Int.ediv_one]
 split <;> omega
theorem kJ {v:Value} {o:Option Int} {Q:Option Int->Shared->Prop} (p:IsPart v o) (h:Q o s):wpAny (model prog w) A (Builtin.Slice.slicePartIndex v) Q E s:=by
 cases p with
 | none=>exact slicePart_none h
 | int i t=>exact slicePart_int h
theorem jo {sl:Addr} {vl vu:Value} {lo hi:Option Int} {n:Nat} {Q:Int × Int × Nat->Shared->Prop} (hs:s.heap.IsSliceOf sl vl vu .none) (pl:IsPart vl lo) (pu:IsPart vu hi)
   (h:Q (((sIx n 0 lo:Nat):Int),1,sIx n n hi - sIx n 0 lo) s):wpAny (model prog w) A (Builtin.Slice.sliceApplied (.ref sl) (pure (n:Int))) Q E s:=by
 obtain ⟨os,hos,hcs,hds⟩:=id hs
 unfold Builtin.Slice.sliceApplied Builtin.Slice.sliceFields
 refine wpAny_bind (wpAny_bind (wpAny_field hos hds (x:=vl) rfl (wpAny_bind (wpAny_field hos hds (x:=vu) rfl (wpAny_bind (wpAny_field hos hds (x:=.none) rfl (wpAny_pure ?_)))))))
 refine wpAny_bind (slicePart_none ?_)
 show wpAny _ _ (if ((1:Int) == 0)=true then _ else _) _ _ s
 rw [if_neg (by decide)]
 refine wpAny_bind (kJ pl (wpAny_bind (kJ pu (wpAny_bind (wpAny_pure ?_)))))
 show wpAny _ _ (match JI lo hi 1 (n:Int) with | (lo,hi)=>pure (lo,(1:Int),Ii lo hi 1)) _ _ s
 rw [sA lo hi n]
 show wpAny _ _ (pure (((sIx n 0 lo:Nat):Int),(1:Int),Ii ((sIx n 0 lo:Nat):Int) ((sIx n n hi:Nat):Int) 1)) _ _ s
 rw [rH]
 exact wpAny_pure h
theorem xn (xs:Array Value) (i k:Nat):((Fd k).filterMap λ(m:Nat)=>xs[((i:Int) + (m:Int) * 1).toNat]?).toArray=((xs.toList.drop i).take k).toArray:=by
 have e:(λ(m:Nat)=>xs[((i:Int) + (m:Int) * 1).toNat]?)=λm=>xs[i + m]?:=by
   funext m
   have:((i:Int) + (m:Int) * 1).toNat=i + m:=by omega
   rw [this]
 rw [e]
 have:=pick_run xs i k
 rw [List.filterMap_map] at this
 have e2:((λx=>xs[x]?) ∘ λx=>i + x)=λm=>xs[i + m]?:=rfl
 rw [e2] at this
 rw [this]
theorem ij {t sl:Addr} {items:Array Value} {vl vu:Value} {lo hi:Option Int} {Q:Value->Shared->Prop} (ht:IsTup s.heap t items) (hs:s.heap.IsSliceOf sl vl vu .none) (pl:IsPart vl lo) (pu:IsPart vu hi)
   (hw:¬ (sIx items.size 0 lo=0/\sIx items.size items.size hi=items.size))
   (h:Q (.ref s.heap.objs.size) { s with heap:=s.heap.push { cls:=.type "tuple",data:=.seq ((items.toList.drop (sIx items.size 0 lo)).take (sIx items.size items.size hi - sIx items.size 0 lo)).toArray } })
   (hsz:items.size<=sizeLine):wpAny (model prog w) A (getItem (.ref t) (.ref sl)) Q E s:=by
 have htake:sizeOk (.seq ((items.toList.drop (sIx items.size 0 lo)).take (sIx items.size items.size hi - sIx items.size 0 lo)).toArray):=by
   show ((items.toList.drop (sIx items.size 0 lo)).take (sIx items.size items.size hi - sIx items.size 0 lo)).toArray.size<=sizeLine
   rw [Fo,FI,Hi,Gw]
   omega
 have hj:sIx items.size items.size hi<=items.size:=BO _ _ (Fc _) hi
 obtain ⟨os,hos,hcs,hds⟩:=id hs
 have hTs:s.TypeIs (.ref sl) "slice":=⟨os,hos,hcs⟩
 unfold getItem
 try with_reducible refine wpAny_holding ?_
 first | refine wpAny_bind (wpAny_pure ?_) | skip
 refine wpAny_bind (wpAny_sequenceKey ht.typeIs (by decide) ?_)
 refine wpAny_bind (wpAny_callSpecial?_slot (name:=J3 "__getitem__") ht.typeIs Jo
   (wpAny_call_entry Jo ht.typeIs entry_tuple_getitem ?_ (args_tuple_getitem _ _)))
 show wpAny _ _ (Ic (.ref t) >>= _) _ _ s
 refine wpAny_bind (tupleItemsOf_ ht ?_)
 refine wpAny_bind (wpAny_typeOf hTs ?_)
 rw [if_pos (by decide)]
 refine wpAny_bind (jo hs pl pu ?_)
 have hno:¬ ((((sIx items.size 0 lo:Nat):Int) == 0 && (1:Int) == 1 && (sIx items.size items.size hi - sIx items.size 0 lo) == items.size)=true):=by
   intro q
   rw [F2,F2] at q
   have q1:((sIx items.size 0 lo:Nat):Int)=0:=eq_of_beq q.1.1
   have q2:sIx items.size items.size hi - sIx items.size 0 lo=items.size:=eq_of_beq q.2
   exact hw ⟨by omega,by omega⟩
 show wpAny _ _ (if (((sIx items.size 0 lo:Nat):Int) == 0 && (1:Int) == 1 && (sIx items.size items.size hi - sIx items.size 0 lo) == items.size)=true then _ else _) _ _ s
 rw [if_neg hno,xn]
 first
   | exact wpAny_bind (m:=Hm _) (wpAny_newObj_type (wpAny_pure ⟨_,rfl,wpAny_pure h⟩) htake)
   | exact wpAny_bind (m:=Hm _) (wpAny_newObj_type (wpAny_bind (wpAny_pure (wpAny_pure ⟨_,rfl,wpAny_pure h⟩))) htake)
   | exact wpAny_bind (wpAny_bind (m:=Hm _) (wpAny_newObj_type (wpAny_pure (wpAny_pure ⟨_,rfl,wpAny_pure h⟩)) htake))
   | exact wpAny_bind (wpAny_bind (m:=Hm _) (wpAny_newObj_type (wpAny_pure ⟨_,rfl,wpAny_pure h⟩) htake))
end
end HT
namespace L2
open PySem PySem.Spec PyProof.Rows
noncomputable abbrev TO:=St->Hp->(Option Int->Hp->Prop)->Prop
noncomputable def PO (X:Cx) (e:Option Expr) (t:TO):Prop:=
 ∀ (pins:List (Addr × Obj)) (s:Shared) (σ:St) (H:Hp) (Q:Option Int->Hp->Prop),Inv X pins σ H s->t σ H Q ->
   wpAny (model X.prog X.w) X.A (evalPart e X.env) (λu s'=>∃ o H',Inv X pins σ H' s'/\IsPart u o/\Q o H') X.xe s
noncomputable def yF:TO:=λ_ H Q=>Q none H
noncomputable def DU (t:TE):TO:=λσ H Q=>t σ H λx H1=>∃ i,x=.int i/\Q (some i) H1
section
variable {X:Cx} {e:Expr} {te:TE} {lo hi:Option Expr} {tl th:TO} {pos p2:Pos}
theorem yV:PO X none yF:=by
 intro pins s σ H Q I h
 rw [evalPart_none]
 exact wpAny_pure ⟨none,H,I,.none,h⟩
theorem zp (h:PE X e te):PO X (some e) (DU te):=by
 intro pins s σ H Q I hw
 rw [evalPart_some]
 refine thn (h pins s σ H _ I hw) λu s1 ⟨x,H1,I1,r1,q1⟩=>?_
 obtain ⟨i,rfl,q⟩:=q1
 obtain ⟨t,rfl⟩:=r1
 exact ⟨some i,H1,I1,.int i t,q⟩
noncomputable def SlR (X:Cx) (r:V->Option Int->Option Int->Hp->VK->Prop):Prop:=
 ∀ (pins:List (Addr × Obj)) (s:Shared) (σ:St) (H:Hp) (x:V) (v vl vu:Value) (lo hi:Option Int) (sl:Addr) (Q:VK),Inv X pins σ H s->RelV x v->s.heap.IsSliceOf sl vl vu .none->IsPart vl lo->IsPart vu hi->r x lo hi H Q ->
   ∃ T id,typeLookup (.type T) "__getitem__" = pure (some (.builtin id))/\s.TypeIs v T/\wpAny (model X.prog X.w) X.A (getItem v (.ref sl)) (EP X pins σ Q) X.xe s
noncomputable def tSl (r:V->Option Int->Option Int->Hp->VK->Prop) (te:TE) (tl th:TO):TE:=λσ H Q=>te σ H λx H1=>tl σ H1 λl H2=>th σ H2 λu H3=>r x l u H3 Q
theorem oW {r:V->Option Int->Option Int->Hp->VK->Prop} (hr:SlR X r) (he:PE X e te) (hl:PO X lo tl) (hu:PO X hi th):PE X (.Subscript e (.Slice lo hi none p2) pos) (tSl r te tl th):=by
 intro pins s σ H Q I h
 refine Subscript_ (thn (he pins s σ H _ I h) λv s1 ⟨x,H1,I1,r1,q1⟩=>?_)
 refine wpAny_Slice (thn (hl pins s1 σ H1 _ I1 q1) λvl s2 ⟨l,H2,I2,pl,q2⟩=>thn (hu pins s2 σ H2 _ I2 q2) λvu s3 ⟨u,H3,I3,pu,q3⟩=>?_)
 rw [evalPart_none]
 refine wpAny_pure ?_
 have I4:Inv X pins σ H3 { s3 with heap:=s3.heap.push { cls:=.type "slice",data:=.fields #[vl,vu,.none] } }:=I3.kept (t':=s3.toks) λb ob q=>Fg _ q
 obtain ⟨T,id,hT,ht,hg⟩:=hr pins { s3 with heap:=s3.heap.push { cls:=.type "slice",data:=.fields #[vl,vu,.none] } } σ H3 x v vl vu l u s3.heap.objs.size Q I4 r1 (Heap.IsSliceOf.new ..) pl pu q3
 show wpAny (model X.prog X.w) X.A (subscriptTail e (.Slice lo hi none p2) v (.ref s3.heap.objs.size)) (EP X pins σ Q) X.xe { s3 with heap:=s3.heap.push { cls:=.type "slice",data:=.fields #[vl,vu,.none] } }
 exact tail_any (ops:=[.ref s3.heap.objs.size,v]) ht hT hg (by with_unfolding_all rfl)
noncomputable def kI (xs:List V) (lo hi:Option Int):List V:=(xs.drop (HT.sIx xs.length 0 lo)).take (HT.sIx xs.length xs.length hi - HT.sIx xs.length 0 lo)
theorem jx (xs:List V) (lo hi:Option Int):(kI xs lo hi).length<=xs.length:=by
 unfold kI
 rw [FI,Hi]
 omega
noncomputable def Ew (K:Fb):V->Option Int->Option Int->Hp->VK->Prop:=λx lo hi H Q=>∃ a xs,x=.ref a/\SqT K H a xs /\
 ¬ (HT.sIx xs.length 0 lo=0/\HT.sIx xs.length xs.length hi=xs.length)/\∀ p,H p=none->Q (.ref p) (upd H p (.tup (kI xs lo hi)))
theorem CS:SlR X (Ew X.K):=by
 intro pins s σ H x v vl vu lo hi sl Q I rx hs pl pu h
 obtain ⟨a,xs,rfl,hx,hw,q⟩:=h
 cases rx
 obtain ⟨its,r,ht,hz⟩:=I.tuple hx
 have hlen:its.toArray.size=xs.length:=by rw [Fo]; exact r.length.symm
 refine ⟨"tuple",_,PyProof.Rows.slot_tuple_getitem.lookup,ht.typeIs,?_⟩
 refine HT.ij ht hs pl pu (by rw [hlen]; exact hw) ?_ (by rw [hlen]; exact hz)
 rw [hlen]
 refine ⟨.ref s.heap.objs.size,_,I.laid (t':=s.toks) (o:=.tup (kI xs lo hi)) (λb ob q=>Fg _ q) (Fc _) ?_,rfl,q _ (I.hok.fresh (Fc _))⟩
 exact ⟨Fz (jx xs lo hi) hz,_,(r.drop (HT.sIx xs.length 0 lo)).take (HT.sIx xs.length xs.length hi - HT.sIx xs.length 0 lo),IsTup.new _ _⟩
noncomputable def D1 (K:Fb):R2:=λx y H Q=>∃ a b xs ys,x=.ref a/\y=.ref b/\SqT K H a xs/\SqT K H b ys/\xs ≠ []/\xs.length + ys.length<=sizeLine /\
 (ys=[]->Q (.ref a) H)/\(ys ≠ []->∀ p,H p=none->Q (.ref p) (upd H p (.tup (xs++ys))))
theorem Vals.ng {xs:List V} {us:List Value} (r:Vals xs us):us=[] ↔ xs=[]:=by
 cases r with
 | nil=>simp
 | cons _ _=>simp
theorem zg:OpR X (binaryOp .Add) (D1 X.K):=by
 intro pins s σ H x y v u Q I rx ry h
 obtain ⟨a,b,xs,ys,rfl,rfl,ha,hb,hx,hz,q1,q2⟩:=h
 cases rx
 cases ry
 obtain ⟨its,r1,p1,_⟩:=I.tuple ha
 obtain ⟨its2,r2,p2,_⟩:=I.tuple hb
 refine HT.yT p1 p2 (λz=>hx (r1.ng.mp z)) (λz=>⟨.ref a,H,I,rfl,q1 (r2.ng.mp z)⟩) (λz=>?_) (by rw [<- r1.length,<- r2.length]; exact hz)
 refine ⟨.ref s.heap.objs.size,_,I.laid (t':=s.toks) (o:=.tup (xs++ys)) (λb ob q=>Fg _ q) (Fc _) ?_,rfl,q2 (λw=>z (r2.ng.mpr w)) _ (I.hok.fresh (Fc _))⟩
 exact ⟨by rw [Fw]; exact hz,_,r1.append r2,IsTup.new _ _⟩
end
noncomputable def ixN (n:Nat) (i:Int):Option Nat:=if 0<=i then (if i < n then some i.toNat else none) else if -(n:Int)<=i then some (i + n).toNat else none
noncomputable def atI {α:Type} (xs:List α) (i:Int):Option α:=(ixN xs.length i).bind λj=>xs[j]?
theorem ue {n:Nat} {i:Int} {j:Nat} (h:ixN n i=some j):seqIndex? i n=some j/\j < n/\-(n:Int)<=i/\i < n:=by
 unfold ixN at h
 by_cases h0:0<=i
 · rw [if_pos h0] at h
   by_cases h1:i < n
   · rw [if_pos h1] at h
     have e:i.toNat=j:=FX h
     exact ⟨by rw [seqIndex_of h0 h1,e],by omega,by omega,h1⟩
   · rw [if_neg h1] at h; cases h
 · rw [if_neg h0] at h
   by_cases h1:-(n:Int)<=i
   · rw [if_pos h1] at h
     have e:(i + n).toNat=j:=FX h
     exact ⟨by rw [seqIndex_neg (by omega) h1,e],by omega,h1,by omega⟩
   · rw [if_neg h1] at h; cases h
theorem sQ {α:Type} {xs:List α} {i:Int} {v:α} (h:atI xs i=some v):∃ j,seqIndex? i xs.length=some j/\xs[j]?=some v/\j < xs.length/\-(xs.length:Int)<=i/\i < xs.length:=by
 unfold atI at h
 cases e:ixN xs.length i with
 | none=>rw [e] at h; cases h
 | some j=>
   rw [e] at h
   obtain ⟨h1,h2,h3,h4⟩:=ue e
   exact ⟨j,h1,h,h2,h3,h4⟩
noncomputable def fZ (b:Expr):Prop:=∀ o i,subscripted b false o i=operate [o,i] (getItem o i)
noncomputable def IxR (X:Cx) (r:R2):Prop:=
 ∀ (value slice:Expr) (pins:List (Addr × Obj)) (s:Shared) (σ:St) (H:Hp) (x y:V) (v u:Value) (Q:VK),Inv X pins σ H s->RelV x v->RelV y u->r x y H Q ->
   subscripted slice false v u=operate [v,u] (getItem v u)->wpAny (model X.prog X.w) X.A (subscriptTail value slice v u) (EP X pins σ Q) X.xe s
noncomputable def MtR (X:Cx) (id:String) (r:V->List V->Hp->VK->Prop):Prop:=
 ∀ (pins:List (Addr × Obj)) (s:Shared) (σ:St) (H:Hp) (x:V) (xs:List V) (v:Value) (us:List Value) (Q:VK),Inv X pins σ H s->RelV x v->Vals xs us->r x xs H Q ->
   wpAny (model X.prog X.w) X.A (call (.builtin id) (v :: us)) (EP X pins σ Q) X.xe s
section
variable {X:Cx} {a b:Expr} {ta tb:TE} {pos:Pos}
theorem xx {r:R2} (hr:IxR X r) (ha:PE X a ta) (hb:PE X b tb) (hs:fZ b):PE X (.Subscript a b pos) (tOp r ta tb):=by
 intro pins s σ H Q I h
 exact Subscript_ (B1 ha hb I h λv u s2 x y H2 I2 rx ry q=>hr a b pins s2 σ H2 x y v u Q I2 rx ry q (hs _ _))
noncomputable def EX (K:Fb):R2:=λx y H Q=>∃ p xs i v,x=.ref p/\y=.int i/\SqL K H p xs/\atI xs i=some v/\Q v H
noncomputable def E7 (K:Fb):R2:=λx y H Q=>∃ p xs i v,x=.ref p/\y=.int i/\SqT K H p xs/\atI xs i=some v/\Q v H
theorem oO:IxR X (EX X.K):=by
 intro value slice pins s σ H x y v u Q I rx ry h hs
 obtain ⟨p,xs,i,z,rfl,rfl,hq,he,q⟩:=h
 cases rx
 obtain ⟨t,rfl⟩:=ry
 obtain ⟨its,r,pl,hz⟩:=I.list hq
 obtain ⟨j,h1,h2,h3,h4,h5⟩:=sQ he
 obtain ⟨w,ew,rw'⟩:=r.get h2
 have hl:=r.length
 have hn:=nE
 have fin:EP X pins σ Q w s:=⟨z,H,I,rw',q⟩
 by_cases h0:0<=i
 · have hj:i.toNat=j:=by
     rw [seqIndex_of h0 h5] at h1
     exact FX h1
   exact item_listR pl.isList h0 (by omega) (by rw [hj]; simpa using ew) fin hs
 · have hj:(i + (its.toArray.size:Int)).toNat=j:=by
     rw [seqIndex_neg (by omega) h4] at h1
     rw [Fo,<- hl]
     exact FX h1
   exact subscriptTail_builtinR (x:=w) pl.isList.typeIs slot_list_getitem.lookup
     (wpAny_getItem_list_neg (Q:=λr s'=>r=w/\EP X pins σ Q r s') pl.isList (by omega) (by rw [Fo] <;> omega) (by omega) (by rw [hj]; simpa using ew) ⟨rfl,fin⟩) hs
theorem CY:IxR X (E7 X.K):=by
 intro value slice pins s σ H x y v u Q I rx ry h hs
 obtain ⟨p,xs,i,z,rfl,rfl,hq,he,q⟩:=h
 cases rx
 obtain ⟨t,rfl⟩:=ry
 obtain ⟨its,r,pl,hz⟩:=I.tuple hq
 obtain ⟨j,h1,h2,h3,h4,h5⟩:=sQ he
 obtain ⟨w,ew,rw'⟩:=r.get h2
 have hl:=r.length
 have hn:=nE
 have fin:EP X pins σ Q w s:=⟨z,H,I,rw',q⟩
 exact subscriptTail_builtinR (x:=w) pl.typeIs slot_tuple_getitem.lookup
   (getItem_tuple (j:=j) (Q:=λr s'=>r=w/\EP X pins σ Q r s') pl (by omega) (by omega) (by rw [Fo,<- hl]; exact h1) (by simpa using ew) ⟨rfl,fin⟩) hs
theorem sk (its:List Value) (n j:Nat) (u:Value):JW (·.setIfInBounds j u) { cls:=.type "list",data:=.seq its.toArray n }={ cls:=.type "list",data:=.seq (its.set j u).toArray n }:=by
 simp [JW]
theorem Inv.lst {pins:List (Addr × Obj)} {σ:St} {H:Hp} {s:Shared} {p:Addr} {xs:List V} (I:Inv X pins σ H s) (h:H p=some (.lst xs)) :
   ∃ (its:List Value) (n:Nat),Vals xs its/\s.heap.get? p=some { cls:=.type "list",data:=.seq its.toArray n }/\xs.length<=sizeLine:=by
 obtain ⟨z,its,n,r,e⟩:=I.hok p _ h
 exact ⟨its,n,r,e,z⟩
theorem Inv.Bt {pins:List (Addr × Obj)} {σ:St} {H:Hp} {s:Shared} {p:Addr} {xs ys:List V} {its its':List Value} {n n':Nat} {f:Obj->Obj} (I:Inv X pins σ H s) (h:H p=some (.lst xs))
   (ho:s.heap.get? p=some { cls:=.type "list",data:=.seq its.toArray n }) (hf:f { cls:=.type "list",data:=.seq its.toArray n }={ cls:=.type "list",data:=.seq its'.toArray n' }) (r:Vals ys its') (hz:ys.length<=sizeLine) (t:Nat) :
   Inv X pins σ (upd H p (.lst ys)) { s with heap:=s.heap.update p f,toks:=t }:=by
 have e:(s.heap.update p f).get? p=some { cls:=.type "list",data:=.seq its'.toArray n' }:=by
   rw [Jl f ho (by rw [hf] <;> rfl),hf]
 refine I.write (x:=p) (e:=p) (by rw [h]; trivial) (.inl rfl) (λb u hb q=>(Jf _ _ (GG hb)).trans q) ⟨_,e⟩ ?_
 exact ⟨hz,its',n',r,e⟩
noncomputable def Dz:V->V->V->Hp->(Hp->Prop)->Prop:=λo i v H Q=>∃ p xs k j,o=.ref p/\i=.int k/\H p=some (.lst xs)/\ixN xs.length k=some j/\Q (upd H p (.lst (xs.set j v)))
theorem set_list:Dq X Dz:=by
 intro pins s σ H o i v ov iv u Q I ro ri rv h
 obtain ⟨p,xs,k,j,rfl,rfl,hp,hj,q⟩:=h
 cases ro
 obtain ⟨t,rfl⟩:=ri
 obtain ⟨its,n,r,ho,hz⟩:=I.lst hp
 obtain ⟨h1,h2,h3,h4⟩:=ue hj
 have hl:=r.length
 have hn:=nE
 have I':Inv X pins σ (upd H p (.lst (xs.set j v))) { s with heap:=s.heap.update p (JW (·.setIfInBounds j u)) }:=
   I.Bt hp ho (sk its n j u) (r.set rv j) (by rw [FF]; exact hz) s.toks
 by_cases h0:0<=k
 · have hk:k.toNat=j:=by
     rw [seqIndex_of h0 h4] at h1
     exact FX h1
   exact PySem.W.ki_setAt ho h0 (by omega) (by rw [Fo,<- hl]; exact h4) (by rw [hk]; exact ⟨_,I',q⟩)
 · have hk:(k + (its.toArray.size:Int)).toNat=j:=by
     rw [seqIndex_neg (by omega) h3] at h1
     rw [Fo,<- hl]
     exact FX h1
   exact PySem.W.ki_setBack ho (by omega) (by rw [Fo,<- hl]; exact h3) (by omega) (by rw [hk]; exact ⟨_,I',q⟩)
theorem oM (lo hi:Option Int) (n:Nat):(sliceBounds lo hi none n).1=((HT.sIx n 0 lo:Nat):Int)/\(sliceBounds lo hi none n).2.1=((HT.sIx n n hi:Nat):Int)/\(sliceBounds lo hi none n).2.2=1:=by
 refine ⟨?_,?_,rfl⟩
 · cases lo with
   | none=>simp [sliceBounds,HT.sIx]
   | some i=>
     simp only [sliceBounds,HT.sIx,Option.getD_none,show (1:Int) > 0 by decide,if_true]
     by_cases h:i < 0
     · simp only [h,if_true] <;> omega
     · simp only [h,if_false] <;> omega
 · cases hi with
   | none=>simp [sliceBounds,HT.sIx]
   | some i=>
     simp only [sliceBounds,HT.sIx,Option.getD_none,show (1:Int) > 0 by decide,if_true]
     by_cases h:i < 0
     · simp only [h,if_true] <;> omega
     · simp only [h,if_false] <;> omega
theorem lP (its:List Value) (lo hi:Option Int):slicePick its.toArray lo hi none=((its.drop (HT.sIx its.length 0 lo)).take (HT.sIx its.length its.length hi - HT.sIx its.length 0 lo)).toArray:=by
 obtain ⟨h1,h2,h3⟩:=oM lo hi its.toArray.size
 unfold slicePick
 rw [h1,h2,h3]
 simp only [sliceRange_one,pick_run,Fo] <;> rfl
noncomputable def Er (K:Fb):V->Option Int->Option Int->Hp->VK->Prop:=λx lo hi H Q=>∃ a xs,x=.ref a/\SqL K H a xs/\∀ p,H p=none->Q (.ref p) (upd H p (.lst (kI xs lo hi)))
theorem z9:SlR X (Er X.K):=by
 intro pins s σ H x v vl vu lo hi sl Q I rx hs pl pu h
 obtain ⟨a,xs,rfl,hx,q⟩:=h
 cases rx
 obtain ⟨its,r,ht,hz⟩:=I.list hx
 have hlen:=r.length
 refine ⟨"list",_,slot_list_getitem.lookup,ht.isList.typeIs,?_⟩
 refine wpAny_getItem_list_slice ht.isList hs pl pu .none (by simp) ?_ (by rw [Fo] <;> omega)
 rw [lP,<- hlen]
 refine ⟨.ref s.heap.objs.size,_,I.laid (t':=s.toks) (o:=.lst (kI xs lo hi)) (λb ob q=>Fg _ q) (Fc _) ?_,rfl,q _ (I.hok.fresh (Fc _))⟩
 exact ⟨Fz (jx xs lo hi) hz,_,0,(r.drop (HT.sIx xs.length 0 lo)).take (HT.sIx xs.length xs.length hi - HT.sIx xs.length 0 lo),FA _ rfl⟩
noncomputable def ju:V->Bool
 | .non=>true
 | .bl _=>true
 | .int _=>true
 | .str _=>true
 | _=>false
noncomputable def eqV:V->V->Bool
 | .non,.non=>true
 | .bl a,.bl b=>a == b
 | .bl a,.int b=>(if a then 1 else 0) == b
 | .int a,.bl b=>a == (if b then 1 else 0)
 | .int a,.int b=>a == b
 | .str a,.str b=>a == b
 | _,_=>false
theorem Cu {A:Around} {s:Shared} {y x:V} {u v:Value} (ry:RelV y u) (rx:RelV x v) (fy:ju y=true) (fx:ju x=true):SeqAt.EqAt A s u v (eqV y x):=by
 cases y with
 | non=>
   cases ry
   cases x with
   | non=>cases rx; exact SeqAt.EqAt.same _
   | bl b=>cases rx; exact SeqAt.EqAt.none_bool b
   | int b=>obtain ⟨t,rfl⟩:=rx; exact SeqAt.EqAt.none_int b t
   | str b=>obtain ⟨t,rfl⟩:=rx; exact SeqAt.EqAt.none_str b t
   | _=>exact absurd (show false=true from fx) Fp
 | bl a=>
   cases ry
   cases x with
   | non=>cases rx; exact SeqAt.EqAt.bool_none a
   | bl b=>cases rx; exact SeqAt.EqAt.bool_bool a b
   | int b=>obtain ⟨t,rfl⟩:=rx; exact SeqAt.EqAt.bool_int a b t
   | str b=>obtain ⟨t,rfl⟩:=rx; exact SeqAt.EqAt.bool_str a b t
   | _=>exact absurd (show false=true from fx) Fp
 | int a=>
   obtain ⟨t',rfl⟩:=ry
   cases x with
   | non=>cases rx; exact SeqAt.EqAt.int_none a t'
   | bl b=>cases rx; exact SeqAt.EqAt.int_bool a t' b
   | int b=>obtain ⟨t,rfl⟩:=rx; exact SeqAt.EqAt.int_int a t' b t
   | str b=>obtain ⟨t,rfl⟩:=rx; exact KA a t' b t
   | _=>exact absurd (show false=true from fx) Fp
 | str a=>
   obtain ⟨t',rfl⟩:=ry
   cases x with
   | non=>cases rx; exact SeqAt.EqAt.str_none a t'
   | bl b=>cases rx; exact SeqAt.EqAt.str_bool a t' b
   | int b=>obtain ⟨t,rfl⟩:=rx; exact Kz a t' b t
   | str b=>obtain ⟨t,rfl⟩:=rx; exact SeqAt.EqAt.str_str a t' b t
   | _=>exact absurd (show false=true from fx) Fp
 | _=>exact absurd (show false=true from fy) Fp
noncomputable def eqU (x:V) (u:Value):Bool:=match u with
 | .none=>eqV .non x
 | .bool b=>eqV (.bl b) x
 | .int i _=>eqV (.int i) x
 | .str z _=>eqV (.str z) x
 | _=>false
theorem x6 {x y:V} {u:Value} (r:RelV y u) (f:ju y=true):eqU x u=eqV y x:=by
 cases y with
 | non=>cases r; rfl
 | bl b=>cases r; rfl
 | int i=>obtain ⟨t,rfl⟩:=r; rfl
 | str z=>obtain ⟨t,rfl⟩:=r; rfl
 | _=>exact absurd (show false=true from f) Fp
theorem n8 {x:V}:∀ {xs:List V} {us:List Value},Vals xs us->xs.all ju=true->us.any (eqU x)=xs.any λy=>eqV y x
 | _,_,.nil,_=>rfl
 | y :: xs,u :: us,.cons r t,f=>by
   rw [IY,F2] at f
   rw [HQ,HQ,x6 r f.1,n8 t f.2]
theorem j5 {A:Around} {s:Shared} {x:V} {v:Value} (rx:RelV x v) (fx:ju x=true):∀ {xs:List V} {us:List Value},Vals xs us->xs.all ju=true->∀ u ∈ us,SeqAt.EqAt A s u v (eqU x u)
 | _,_,.nil,_=>λu hu=>by cases hu
 | y :: xs,u :: us,.cons r t,f=>λu' hu=>by
   rw [IY,F2] at f
   rcases Fv.mp hu with rfl | hu
   · rw [x6 r f.1]; exact Cu r rx f.1 fx
   · exact j5 rx fx t f.2 u' hu
noncomputable def inV (x:V) (xs:List V):Bool:=xs.any λy=>eqV y x
noncomputable def rIn (K:Fb) (neg:Bool):R2:=λx y H Q=>∃ p xs,y=.ref p/\(SqL K H p xs\/SqT K H p xs)/\ju x=true/\xs.all ju=true/\Q (.bl (if neg then !inV x xs else inV x xs)) H
theorem oo:OpR X (compareOp .NotIn) (rIn X.K true):=by
 intro pins s σ H x y v u Q I rx ry h
 obtain ⟨p,xs,rfl,hq,fx,fs,q⟩:=h
 cases ry
 rcases hq with hq | hq
 · obtain ⟨its,r,pl,hz⟩:=I.list hq
   refine SeqAt.notIn_listAt (eqU x) pl.isList (λw hw=>j5 rx fx r fs w (by simpa using hw)) ⟨.bl _,H,I,rfl,?_⟩
   rw [show its.toArray.any (eqU x)=its.any (eqU x) by simp,n8 r fs]
   exact q
 · obtain ⟨its,r,pl,hz⟩:=I.tuple hq
   refine SeqAt.notIn_tupleAt (eqU x) pl (λw hw=>j5 rx fx r fs w (by simpa using hw)) ⟨.bl _,H,I,rfl,?_⟩
   rw [show its.toArray.any (eqU x)=its.any (eqU x) by simp,n8 r fs]
   exact q
theorem ie:dg X (.builtin "len") (λxs H Q=>∃ p ys,xs=[.ref p]/\(SqL X.K H p ys\/SqT X.K H p ys)/\Q (.int ys.length) H):=by
 intro pins s σ H xs us Q I r h
 obtain ⟨p,ys,rfl,hq,q⟩:=h
 obtain ⟨u,rfl,rx⟩:=vals1 r
 cases rx
 have hn:=nE
 rcases hq with hq | hq
 · obtain ⟨its,r',pl,hz⟩:=I.list hq
   have hlen:=r'.length
   exact Calls.call_len_list pl.isList (by simp only [Fo] <;> omega) ⟨.int ys.length,H,I.tok _,⟨s.toks + 1,by rw [Fo,hlen]⟩,q⟩
 · obtain ⟨its,r',pl,hz⟩:=I.tuple hq
   have hlen:=r'.length
   exact len_tuple pl (by simp only [Fo] <;> omega) ⟨.int ys.length,H,I.tok _,⟨s.toks + 1,by rw [Fo,hlen]⟩,q⟩
theorem iw:dg X (.type "list") (λxs H Q=>∃ p ys,xs=[.ref p]/\(SqL X.K H p ys\/SqT X.K H p ys)/\∀ l,H l=none->Q (.ref l) (upd H l (.lst ys))):=by
 intro pins s σ H xs us Q I r h
 obtain ⟨p,ys,rfl,hq,q⟩:=h
 obtain ⟨u,rfl,rx⟩:=vals1 r
 cases rx
 have fin:∀ (its:List Value),Vals ys its->ys.length<=sizeLine->∀ (h':Heap) (c':Nat),(∀ b o',s.heap.get? b=some o'->h'.get? b=some o') ->
     h'.get? s.heap.objs.size=some { cls:=.type "list",dict:=none,data:=.seq its.toArray c',slots:=#[] }->EP X pins σ Q (.ref s.heap.objs.size) { s with heap:=h' }:=λits r' hz h' c' kp e=>
   ⟨.ref s.heap.objs.size,_,I.laid (t':=s.toks) kp (Fc _) (show bo X.prog X.w _ h' _ (.lst ys) from ⟨hz,its,c',r',e⟩),rfl,q _ (I.hok.fresh (Fc _))⟩
 rcases hq with hq | hq
 · obtain ⟨its,r',pl,hz⟩:=I.list hq
   have hlen:=r'.length
   obtain ⟨o,ho,hc,n,hd⟩:=pl.isList
   exact call_list_seq p (.inl rfl) ho hc hd (λh' c' kp e=>fin its r' hz h' c' kp e) (by simp only [Fo] <;> omega)
 · obtain ⟨its,r',pl,hz⟩:=I.tuple hq
   have hlen:=r'.length
   obtain ⟨o,ho,hc,n,hd⟩:=pl
   exact call_list_seq p (.inr rfl) ho hc hd (λh' c' kp e=>fin its r' hz h' c' kp e) (by simp only [Fo] <;> omega)
noncomputable def tyV (K:Fb) (T:String) (x:V) (H:Hp):Prop:=match x with
 | .str _=>T = "str"
 | .int _=>T = "int"
 | .ref p=>(T = "list" /\ ∃ xs,SqL K H p xs)\/(T = "tuple" /\ ∃ o,K.lookup p=some o/\o.cls=.type "tuple" /\ o.dict=none) \/
     (T = "dict" /\ ((∃ kvs,H p=some (.dK kvs))\/∃ kvs,H p=some (.dT kvs)))\/(T = "set" /\ ∃ S n,H p=some (.set S n))
 | _=>False
theorem wc {pins:List (Addr × Obj)} {σ:St} {H:Hp} {s:Shared} {T:String} {x:V} {v:Value} (I:Inv X pins σ H s) (r:RelV x v) (ty:tyV X.K T x H) :
   s.TypeIs v T/\∀ a,v=.ref a->∃ ob,s.heap.get? a=some ob/\ob.dict=none:=by
 cases x with
 | str z=>
   obtain ⟨t,rfl⟩:=r
   cases (show T = "str" from ty)
   exact ⟨typeIs_str s z t,λ_ e=>nomatch e⟩
 | int i=>
   obtain ⟨t,rfl⟩:=r
   cases (show T = "int" from ty)
   exact ⟨typeIs_int s i t,λ_ e=>nomatch e⟩
 | ref p=>
   cases r
   rcases ty with ⟨rfl,xs,hq⟩ | ⟨rfl,o,hk,hc,hd⟩ | ⟨rfl,hk⟩ | ⟨rfl,S,n,hk⟩
   · obtain ⟨its,_,pl,_⟩:=I.list hq
     refine ⟨pl.isList.typeIs,λa e=>?_⟩
     cases e
     obtain ⟨o,n,e,c,hd,_⟩:=pl
     exact ⟨o,e,hd⟩
   · refine ⟨⟨o,I.kIn p o hk,hc⟩,λa e=>?_⟩
     cases e
     exact ⟨o,I.kIn _ o hk,hd⟩
   · have z:∃ o,s.heap.get? p=some o/\o.ExactDict:=by
       rcases hk with ⟨kvs,hk⟩ | ⟨kvs,hk⟩
       · obtain ⟨_,_,_,_,o,_,_,e,ex,_⟩:=I.hok p _ hk
         exact ⟨o,e,ex⟩
       · obtain ⟨_,_,_,_,o,_,_,e,ex,_⟩:=I.hok p _ hk
         exact ⟨o,e,ex⟩
     obtain ⟨o,e,ex⟩:=z
     refine ⟨⟨o,e,ex.1⟩,λa e2=>?_⟩
     cases e2
     exact ⟨o,e,ex.2.1⟩
   · obtain ⟨o,_,_,_,e,ex,_⟩:=I.hok p _ hk
     refine ⟨⟨o,e,ex.1⟩,λa e2=>?_⟩
     cases e2
     exact ⟨o,e,ex.2.1⟩
 | _=>exact HF ty
noncomputable def Es (K:Fb) (T:String) (r:V->List V->Hp->VK->Prop) (to:TE):TE:=λσ H Q=>to σ H λx H1=>tyV K T x H1/\r x [] H1 Q
noncomputable def tBM (K:Fb) (T:String) (r:V->List V->Hp->VK->Prop) (to:TE) (t:TA):TE:=λσ H Q=>to σ H λx H1=>tyV K T x H1/\t σ H1 λxs H2=>r x xs H2 Q
variable {o e:Expr} {es:List Expr} {to:TE} {t:TA} {name:Str} {apos cpos:Pos} {T id:String} {r:V->List V->Hp->VK->Prop}
theorem Bc (pa:PlainAttrs T) (slot:Slot T name id) (hty:typeOf (.builtin id)=pure (.type "method_descriptor")) (hm:MtR X id r) (ho:PE X o to)
   (hbase:attributeBase o name X.env (eval o X.env)=eval o X.env:=by rfl) (hline:(apos.endLine == cpos.line)=true:=by rfl):PE X (.Call (.Attribute o name apos) [] [] cpos) (Es X.K T r to):=by
 intro pins s σ H Q I h
 refine wpAny_Call_method0_late hbase hline (thn (ho pins s σ H _ I h) λv s1 ⟨x,H1,I1,r1,ty,q1⟩=>?_)
 obtain ⟨h1,h2⟩:=wc I1 r1 ty
 exact ⟨T,id,pa,slot,hty,h1,h2,HY rfl (PySem.evalArgs_none (hm pins s1 σ H1 x [] v [] Q I1 r1 .nil q1))⟩
theorem pZ (pa:PlainAttrs T) (slot:Slot T name id) (hty:typeOf (.builtin id)=pure (.type "method_descriptor")) (hm:MtR X id r) (ho:PE X o to) (ha:PA X (e :: es) t)
   (hbase:attributeBase o name X.env (eval o X.env)=eval o X.env:=by rfl)
   (hfew:((backTo cpos (starEach (e :: es) X.env)).all (λx=>!x.1) && (backToKw cpos (keywordEach [] X.env)).all (λx=>x.1.isSome)
     && decide ((e :: es).length + ([]:List Keyword).length + (if ([]:List Keyword).isEmpty then 0 else 1) < 30))=true:=by rfl)
   (hline:(apos.endLine == cpos.line)=true:=by rfl) (hs:starEach (e :: es) X.env=(false,eval e X.env) :: starEach es X.env:=by rfl) (hplain:(backTo cpos (starEach es X.env)).any (·.1)=false:=by rfl) :
   PE X (.Call (.Attribute o name apos) (e :: es) [] cpos) (tBM X.K T r to t):=by
 intro pins s σ H Q I h
 refine wpAny_Call_method_late hbase hfew hline rfl (thn (ho pins s σ H _ I h) λv s1 ⟨x,H1,I1,r1,ty,q1⟩=>?_)
 obtain ⟨h1,h2⟩:=wc I1 r1 ty
 refine ⟨T,id,pa,slot,hty,h1,h2,?_⟩
 have hA:=ha cpos pins s1 σ H1 _ I1 q1
 rw [hs] at hA ⊢
 refine HY (by show (false || (backTo cpos (starEach es X.env)).any (·.1))=false; rw [hplain] <;> rfl) (Calls.evalArgs_plain ?_)
 exact thn hA λus s2 ⟨vs,H2,I2,r2,q2⟩=>hm pins s2 σ H2 x vs v us Q I2 r1 r2 q2
end
noncomputable def MtM (X:Cx) (id:String) (r:V->List V->Hp->VK->Prop):Prop:=
 ∀ (pins:List (Addr × Obj)) (s:Shared) (σ:St) (H:Hp) (x:V) (xs:List V) (v:Value) (us:List Value) (Q:VK),Inv X pins σ H s->RelV x v->Vals xs us->r x xs H Q ->
   wpAny (model X.prog X.w) X.A (call (.builtin id) (v :: us)) (EP X pins σ Q) X.xe s
theorem Vals.one:∀ {x:V} {us:List Value},Vals [x] us->∃ u,us=[u]/\RelV x u
 | _,_,.cons r .nil=>⟨_,rfl,r⟩
theorem Vals.two:∀ {x y:V} {us:List Value},Vals [x,y] us->∃ u v,us=[u,v]/\RelV x u/\RelV y v
 | _,_,_,.cons r (.cons q .nil)=>⟨_,_,rfl,r,q⟩
theorem Vals.zero:∀ {us:List Value},Vals [] us->us=[]
 | _,.nil=>rfl
theorem Vals.eraseIdx:∀ {xs:List V} {us:List Value} (i:Nat),Vals xs us->Vals (xs.eraseIdx i) (us.eraseIdx i)
 | _,_,_,.nil=>.nil
 | _,_,0,.cons _ t=>t
 | _,_,i + 1,.cons r t=>.cons r (Vals.eraseIdx i t)
theorem Vals.rep {xs:List V} {us:List Value} (h:Vals xs us):∀ k:Nat,Vals (FH k xs).flatten (FH k us).flatten
 | 0=>.nil
 | k + 1=>by
   rw [GL,GL,GY,GY]
   exact Vals.append h (Vals.rep h k)
theorem m5 {α:Type}:∀ (l:List α) (i:Nat),(l.eraseIdx i).length<=l.length
 | [],_=>Fc _
 | _ :: _,0=>Hh _
 | _ :: r,i + 1=>Ka (m5 r i)
theorem foldl_rep (its:List Value):∀ (k:Nat) (acc:List Value),
   List.foldl (λx1 x2=>x1++x2) acc.toArray (FH k its.toArray)=(acc++(FH k its).flatten).toArray
 | 0,acc=>by simp
 | k + 1,acc=>by
   have e:acc.toArray++its.toArray=(acc++its).toArray:=by simp
   have e2:(acc++its)++(FH k its).flatten=acc++(FH (k + 1) its).flatten:=by
     rw [GL,GY,GB]
   rw [<- e2,<- foldl_rep its k (acc++its),<- e,GL,Jr]
section
variable {X:Cx} {pins:List (Addr × Obj)} {σ:St} {H:Hp} {s:Shared} {l b:Addr} {xs ys zs:List V}
theorem Inv.xA {its its':List Value} {n:Nat} {f:Array Value->Array Value} {t':Nat} (I:Inv X pins σ H s) (hH:H l=some (.lst xs))
   (e:s.heap.get? l=some { cls:=.type "list",data:=.seq its.toArray n }) (hf:f its.toArray=its'.toArray) (hv:Vals ys its') (hz:ys.length<=sizeLine) :
   Inv X pins σ (upd H l (.lst ys)) { s with heap:=s.heap.update l (JW f),toks:=t' }:=by
 have q:=PySem.IsL.update e f
 rw [hf] at q
 refine I.write (x:=l) (e:=l) (by rw [hH]; exact trivial) (.inl rfl) (λb' u hb hu=>(Jf s.heap (JW f) (GG hb)).trans hu) ⟨_,q⟩ ?_
 exact ⟨hz,its',_,hv,q⟩
theorem Inv.D9 {its:List Value} {t':Nat} (I:Inv X pins σ H s) (hv:Vals ys its) (hz:ys.length<=sizeLine) :
   Inv X pins σ (upd H s.heap.objs.size (.lst ys)) { s with heap:=s.heap.push { cls:=.type "list",data:=.seq its.toArray },toks:=t' }:=
 I.laid (λ_ _ q=>Fg _ q) (Fc _) ⟨hz,its,0,hv,FA _ rfl⟩
theorem Inv.fresh (I:Inv X pins σ H s):H s.heap.objs.size=none:=I.hok.fresh (Fc _)
theorem Inv.uO (I:Inv X pins σ H s) (hH:H l=some (.lst xs)):xs.length<=sizeLine/\∃ (its:List Value) (n:Nat),Vals xs its/\xs.length=its.length/\s.heap.get? l=some { cls:=.type "list",data:=.seq its.toArray n }:=by
 obtain ⟨z,its,n,r,e⟩:=I.hok l _ hH
 exact ⟨z,its,n,r,r.length,e⟩
theorem oS {n:Nat} (h:n<=sizeLine):Il n=false:=by
 unfold Builtin.List.listTooLong
 exact decide_eq_false (by omega)
end
section
variable {X:Cx}
noncomputable def zD:V->List V->Hp->VK->Prop:=λx vs H Q=>∃ l xs y,x=.ref l/\vs=[y]/\H l=some (.lst xs)/\xs.length < sizeLine/\Q .non (upd H l (.lst (xs++[y])))
theorem fW:MtM X "list.append" zD:=by
 intro pins s σ H x vs v us Q I rx rv h
 obtain ⟨l,xs,y,rfl,rfl,hH,hz,q⟩:=h
 cases rx
 obtain ⟨u,rfl,ru⟩:=rv.one
 obtain ⟨z,its,n,r,hl,e⟩:=I.uO hH
 refine call_meets Jb ⟨_,e,rfl⟩ F.entry_list_append (F.args_list_append_2 _ _) (PySem.list_append l its.toArray n u (by rw [Fo]; omega)) ⟨e,?_⟩
 refine ⟨.non,_,I.xA (its':=its++[u]) hH e (by simp) (r.append (.cons ru .nil)) ?_,rfl,q⟩
 rw [Fw,Jp]
 omega
noncomputable def yY:V->List V->Hp->VK->Prop:=λx vs H Q=>∃ l b xs zs,x=.ref l/\vs=[.ref b]/\H l=some (.lst xs)/\H b=some (.lst zs)/\xs.length + zs.length<=sizeLine/\Q .non (upd H l (.lst (xs++zs)))
theorem uM:MtM X "list.extend" yY:=by
 intro pins s σ H x vs v us Q I rx rv h
 obtain ⟨l,b,xs,zs,rfl,rfl,hH,hB,hz,q⟩:=h
 cases rx
 obtain ⟨u,rfl,ru⟩:=rv.one
 cases ru
 obtain ⟨z,its,n,r,hl,e⟩:=I.uO hH
 obtain ⟨z2,its2,n2,r2,hl2,e2⟩:=I.uO hB
 have hsz:its.toArray.size + its2.toArray.size<=sizeLine:=by rw [Fo,Fo]; omega
 have hlong:¬ (!its.toArray.isEmpty && Il (its.toArray.size + its2.toArray.size))=true:=by
   rw [oS hsz,Bool.and_false]
   exact Fp
 refine call_meets F.slot_list_extend ⟨_,e,rfl⟩ F.entry_list_extend (F.args_list_extend_2 _ _)
   (AutoSeq1.list_extend_list_list_0 l its.toArray n b its2.toArray n2 hlong (by rw [Fo]; omega) (by omega)) ⟨e,e2,?_⟩
 refine ⟨.non,_,I.xA (its':=its++its2) hH e (by simp) (r.append r2) ?_,rfl,q⟩
 rw [Fw]
 omega
noncomputable def BX:V->List V->Hp->VK->Prop:=λx vs H Q=>∃ l xs i k y,x=.ref l/\vs=[.int i]/\H l=some (.lst xs)/\-(2 ^ 63)<=i/\i < 2 ^ 63/\seqIndex? i xs.length=some k/\xs[k]?=some y/\Q y (upd H l (.lst (xs.eraseIdx k)))
theorem wW:MtM X "list.pop" BX:=by
 intro pins s σ H x vs v us Q I rx rv h
 obtain ⟨l,xs,i,k,y,rfl,rfl,hH,h1,h2,hk,hy,q⟩:=h
 cases rx
 obtain ⟨u,rfl,ru⟩:=rv.one
 obtain ⟨t,rfl⟩:=ru
 obtain ⟨z,its,n,r,hl,e⟩:=I.uO hH
 obtain ⟨w,hw,rw'⟩:=r.get hy
 refine call_meets F.slot_list_pop ⟨_,e,rfl⟩ F.entry_list_pop (F.args_list_pop_2 _ _)
   (MeetsSeq.list_pop_at l its.toArray n i t k w (fitsIndex_both h1 h2) (by rw [Fo,<- hl]; exact hk) (by rw [<- Jk]; exact hw) (by rw [Fo]; omega)) ⟨e,?_⟩
 refine ⟨y,_,I.xA (its':=its.eraseIdx k) hH e ?_ (r.eraseIdx k) ?_,rw',q⟩
 · show its.toArray.eraseIdxIfInBounds k=(its.eraseIdx k).toArray
   rw [List.eraseIdxIfInBounds_toArray]
 · have:=m5 xs k
   omega
noncomputable def CT:V->List V->Hp->VK->Prop:=λx vs H Q=>∃ l xs,x=.ref l/\vs=[]/\H l=some (.lst xs)/\Q .non (upd H l (.lst []))
theorem wN:MtM X "list.clear" CT:=by
 intro pins s σ H x vs v us Q I rx rv h
 obtain ⟨l,xs,rfl,rfl,hH,q⟩:=h
 cases rx
 have hus:=rv.zero
 subst hus
 obtain ⟨z,its,n,r,hl,e⟩:=I.uO hH
 refine call_meets F.slot_list_clear ⟨_,e,rfl⟩ F.entry_list_clear (F.args_list_clear_1 _) (AutoSeq1.list_clear_list_0 l its.toArray n (by rw [Fo]; omega)) ⟨e,?_⟩
 exact ⟨.non,_,I.xA (its':=[]) (ys:=[]) hH e rfl .nil (FR _),rfl,q⟩
theorem len_rep {α:Type} (xs:List α) (k:Nat):(FH k xs).flatten.length=k * xs.length:=by
 induction k with
 | zero=>simp
 | succ k ih=>rw [GL,GY,Fw,ih,GK,Nat.add_comm]
end
section
variable {prog:Program} {w:World} {A:Around} {E:Value->Shared->Prop} {s:Shared}
end
section
variable {X:Cx}
end
end L2
namespace Att
open PySem PySem.W PySem.Calls PyProof.Rows
theorem jH {P:Params} {h:Heap}:∀ (ns:List Int) (vs:List Value),WellAll P h vs (ns.map WData.int)->IntsAre vs ns:=by
 intro ns
 induction ns with
 | nil=>
   intro vs w
   rw [IE] at w
   cases w
   exact .nil
 | cons n ns ih=>
   intro vs w
   rw [FJ] at w
   cases w with
   | cons a b=>
     cases a
     exact .cons _ _ (ih _ b)
theorem u4 {l:OpenLaw} {n:Nat} (hn:l.most=some n) {P:Params} {h:Heap} {args:List WData} {vals:List Value}
   (hpre:l.row.toRowW.claim.pre args=true) (hwl:WellAll P h vals args) :
   ∃ a vs ns,vals=[FV a]/\args=[WData.list (ns.map WData.int)]/\h.get? a=some { cls:=.type "list",data:=.seq vs.toArray }/\IntsAre vs ns/\ns.length<=n:=by
 have hsh:WShape.hasAll [] args [.list .int]=true:=(pre_splitW hpre).1
 have hc:l.pre.holds [] { args:=args }=true:=(pre_splitW hpre).2
 obtain ⟨d,r,rfl,h1,h2⟩:=hasAllW_cons hsh
 obtain rfl:=hasAllW_nil h2
 obtain ⟨xs,rfl,h3⟩:=hasW_list h1
 obtain ⟨ns,rfl⟩:=items_int h3
 have hlen:ns.length<=n:=by
   unfold OpenLaw.pre at hc
   have h4:(WTm.not (.lt (.lit (.int (n:Int))) (.len (.arg 0)))).holds [] { args:=[.list (ns.map .int)] }=true:=by
     have h4:=(holds_andW hc).1
     rw [hn] at h4
     exact h4
   have h5:=condW_of h4 (w_not (w_lt w_lit (w_len_list (w_arg rfl))))
   rw [E9] at h5
   refine Nat.le_of_not_lt λq=>?_
   have q':(n:Int) < ((ns.length:Nat):Int):=by omega
   first
     | (rw [decide_eq_true q'] at h5; exact absurd h5 (by decide))
     | (simp at h5; omega)
 cases hwl with
 | cons w1 w2=>
   cases w2
   cases w1 with
   | list ho hall=>exact ⟨_,_,ns,rfl,rfl,ho,jH ns _ hall,hlen⟩
theorem uC (l:OpenLaw) (args:List WData):l.row.toRowW.claim.post args (.bool true) args=true:=
 postW_of (r:=l.row.toRowW) (X:=(true == true))
   (show WShape.has [] (.bool true) .bool=true by first | rfl | decide | simp [WShape.has,WShape.arms,WShape.armsAll])
   (show (WTm.eq .res (.lit (.bool true))).value [] { args:=args,res:=some (.bool true),after:=args }=some (.bool (true == true)) from w_eq_bool (w_res rfl) w_lit) rfl
theorem qE {l:OpenLaw} {n:Nat} {q:Program} {loose:List Str} {XP:(Str->Option Value)->Heap->Prop} {YP:World->Heap->Prop} {d:DefRec}
   (hn:l.most=some n) (hdf:d.params.defaults=[])
   (call:∀ (w:World) (s₀ s₁:Shared) (mg mb:Str->Option Value) (fa:Addr) (o:Obj) (pm cd doc:Value) (a:Addr) (vs:List Value) (ns:List Int),
     Ground q loose [] XP w s₀ mg mb s₁.heap->YP w s₁.heap ->
     s₁.heap.get? fa=some o->o.data=.func (docDef d.name d.params d.body d.scope pm cd doc)->s₁.heap.CodeRec cd d.name->mg d.name=some (.ref fa) ->
     s₁.heap.get? a=some { cls:=.type "list",data:=.seq vs.toArray }->IntsAre vs ns->ns.length<=n->s₁.gens=#[] ->
     codeAny (model l.prog w) callerA (.call (.ref fa) ⟨[.ref a],[]⟩) (λr s'=>r=.ok (.ret (.bool true))/\OldK s₁.heap s'.heap/\s'.os=s₁.os/\AllBare s'.gens) s₁) :
   WalkO q loose XP YP l.row.toRowW d [] (λf vs=>PySem.call f vs):=by
 intro w s₀ s₁ mg mb G Y fa o pm cd doc dV kV ho hd hcd hD hmg hg args vals as hpre hlay hrd hwl hlo
 obtain rfl:dV=.none:=Dflts.none hD hdf
 obtain rfl:kV=.none:=Dflts.noKw hD
 obtain ⟨a,vs,ns,rfl,rfl,hobj,hints,hlen⟩:=u4 hn hpre hwl
 refine enter_call (codeAny_mono (call w s₀ s₁ mg mb fa o pm cd doc a vs ns G Y ho (fd_plain hd) hcd hmg hobj hints hlen hg) λr s' hq=>?_)
 obtain ⟨rfl,h2,h3,h4⟩:=hq
 exact ⟨.inl ⟨.bool true,.bool true,[],rfl,λ_=>rfl,.bool true,uC l _,λ_=>⟨Kt,λ_ hm=>(nomatch hm)⟩⟩,h2,h3,h4⟩
section
variable {prog:Program} {w:World} {A:Around} {E:Value->Shared->Prop} {s:Shared} {K:Frag}
end
end Att
namespace L2
open PySem PySem.Spec PyProof.Rows
theorem mB:∀ {vs:List Value} {ns:List Int},IntsAre vs ns->Vals (ns.map V.int) vs
 | _,_,.nil=>.nil
 | _,_,.cons n t h=>.cons ⟨t,rfl⟩ (mB h)
noncomputable def Cb (H:Hp):Prop:=∀ b,H b=none\/∃ o xs,H b=some (.frz o (.lst xs))
theorem xP {P:Program} {w:World} {K:Fb} {mg mb:Str->Option Value} {CX:CXT} {k:Nat} {fa a:Addr} {fd:FuncData} {x:Str} {sp:Sp} {s₁:Shared} {vs:List Value} {ns:List Int}
   (KX:K.In s₁.heap) (hns:s₁.heap.Ns mainGlobals mg) (hb:s₁.heap.Ns builtinsNs mb) (hbb:∀ x:Str,x ≠ "__name__" -> mb x=bootBuiltins x) (hlim:s₁.heap.NoLimit) (hg:s₁.gens=#[])
   (ha:s₁.heap.get? a=some { cls:=.type "list",data:=.seq vs.toArray }) (hi:IntsAre vs ns) (hl:ns.length<=sizeLine) (hr:fu k callerA)
   (F:∀ base:Heap,K.In base->base.Ns mainGlobals mg->aQ P w K mg base CX k fa fd [x] sp) (hbind:∀ (s:Shared) (u:Value),BindsTo s fd ⟨[u],[]⟩ [(x,u)])
   (hsp:∀ H:Hp,Cb H->SqL K H a (ns.map V.int)->sp [.ref a] H (λv _=>v=.bl true) λ_ _ _=>False)
   (hCX:∀ H e s',CX [] H s₁ (λ_ _ _=>False) e s'->False) :
   codeAny (model P w) callerA (.call (.ref fa) ⟨[.ref a],[]⟩) (λr s'=>r=.ok (.ret (.bool true))/\OldK s₁.heap s'.heap/\s'.os=s₁.os/\AllBare s'.gens) s₁:=by
 have rv:=mB hi
 have lenV:=hi.length
 have core:∀ H:Hp,Cb H->SqL K H a (ns.map V.int)->HOk P w H s₁.heap->(∀ b,H b ≠ none->b=a)->(H a ≠ none->K.lookup a=none) ->
     codeAny (model P w) callerA (.call (.ref fa) ⟨[.ref a],[]⟩) (λr s'=>r=.ok (.ret (.bool true))/\OldK s₁.heap s'.heap/\s'.os=s₁.os/\AllBare s'.gens) s₁:=by
   intro H hO hS hok hA hK
   have base_of:∀ {b:Addr} {o:Obj},s₁.heap.get? b=some o->H b=none->(nC s₁.heap H).get? b=some o:=λe n=>xD e n
   have noA:∀ {b:Addr} {o:Obj} {es:Array DictEntry} {ep:Nat},s₁.heap.get? b=some o->o.data=.dict es ep->H b=none:=λ{b o es ep} e d=>by
     cases q:H b with
     | none=>rfl
     | some u=>
       have e':b=a:=hA b (by rw [q]; simp)
       subst e'
       rw [ha] at e; cases e
       have d':Data.seq vs.toArray _=Data.dict es ep:=d
       cases d'
   have nsK:∀ {b:Addr} {m:Str->Option Value},s₁.heap.Ns b m->(nC s₁.heap H).Ns b m:=λ{b m} ⟨o,es,ep,e,d,r⟩=>⟨o,es,ep,base_of e (noA e d),d,r⟩
   have hKb:K.In (nC s₁.heap H):=λb o e=>base_of (KX b o e) (by
     cases q:H b with
     | none=>rfl
     | some u=>
       have e':b=a:=hA b (by rw [q]; simp)
       subst e'
       rw [hK (by rw [q]; simp)] at e; cases e)
   have hM:Mod K mg (nC s₁.heap H):=⟨hKb,nsK hns,⟨mb,nsK hb,hbb⟩,let ⟨mc,h1,h2⟩:=hlim; ⟨mc,nsK h1,h2⟩⟩
   have e0:zA P w K mg (nC s₁.heap H) callerA [] s₁ H:=⟨rfl,hM,λb o e=>yU e,Nat.le_of_eq (uL _ _),trivial,λb hb=>absurd (show b ∈ ([]:List Addr) from hb) (by simp),hok,.of_eq hg⟩
   refine codeAny_mono ((F _ hKb (nsK hns)).run callerA [] s₁ H ⟨[.ref a],[]⟩ [.ref a] [.ref a] _ _ hr e0 (hbind s₁ (.ref a)) (.cons rfl .nil) (hsp H hO hS)) λr s' h=>?_
   cases r with
   | error e=>exact (hCX H e s' h).elim
   | ok fl=>
     cases fl with
     | next=>exact HF h
     | brk=>exact HF h
     | cont=>exact HF h
     | ret u=>
       obtain ⟨v,H',os,bare,un,hok',r',q⟩:=h
       have q':v=.bl true:=q
       subst q'
       obtain rfl:u=GX true:=r'
       refine ⟨rfl,OldK.of_keep λb o e=>?_,os,bare⟩
       cases q:H b with
       | none=>exact un.keep b o e q (by intro z; exact absurd (show b ∈ ([]:List Addr) from z) (by simp)) (by simp)
       | some u=>
         rcases hO b with z | ⟨ob,xs,z⟩
         · rw [q] at z; cases z
         · have z2:=un.frzs b ob _ z
           obtain ⟨e1,_⟩:=hok b _ z
           obtain ⟨e2,_⟩:=hok' b _ z2
           rw [e] at e1; cases e1
           exact e2
 cases hk:K.lookup a with
 | some o=>
   have e:=KX a o hk
   rw [ha] at e
   cases e
   refine core (λ_=>none) (λ_=>.inl rfl) (.inr ⟨_,vs.toArray,_,hk,rfl,rfl,rfl,by rw [Fo,lenV]; exact hl,by simpa using rv⟩) (λb u z=>by have z':(none:Option HO)=some u:=z; cases z') (λb z=>absurd rfl z) λz=>absurd rfl z
 | none=>
   refine core (λb=>if b=a then some (.frz { cls:=.type "list",data:=.seq vs.toArray } (.lst (ns.map V.int))) else none) (λb=>?_) (.inl (.inr ⟨{ cls:=.type "list",data:=.seq vs.toArray },if_pos rfl⟩)) (λb u z=>?_) (λb z=>?_) λ_=>hk
   · by_cases hb:b=a
     · exact .inr ⟨_,_,if_pos hb⟩
     · exact .inl (if_neg hb)
   · by_cases hb:b=a
     · have z':=(if_pos hb).symm.trans z
       cases z'
       subst hb
       exact ⟨ha,by rw [E9]; exact hl,vs,_,rv,ha⟩
     · have z':=(if_neg hb).symm.trans z
       cases z'
   · by_cases hb:b=a
     · exact hb
     · exact absurd (if_neg hb) z
theorem zG {l:JV} {n k:Nat} {q:Program} {loose:List Str} {XP:(Str->Option Value)->Heap->Prop} {YP:World->Heap->Prop} {d:DefRec} {K:Params->Fb} {CX:World->CXT} {sp:World->Sp} {x:Str}
   (hn:l.most=some n) (hn2:n<=sizeLine) (hdf:d.params.defaults=[]) (hr:fu k callerA)
   (hY:∀ (w:World) (h:Heap),YP w h->(K w.params).In h)
   (F:∀ (w:World) (mg:Str->Option Value) (fa:Addr) (h:Heap),(K w.params).In h->h.Ns mainGlobals mg->mg d.name=some (.ref fa) ->
     ∃ fd:FuncData,(∀ (s:Shared) (u:Value),BindsTo s fd ⟨[u],[]⟩ [(x,u)]) /\
       ∀ base:Heap,(K w.params).In base->base.Ns mainGlobals mg->aQ l.prog w (K w.params) mg base (CX w) k fa fd [x] (sp w))
   (hsp:∀ (w:World) (H:Hp) (a:Addr) (ns:List Int),ns.length<=n->Cb H->SqL (K w.params) H a (ns.map V.int)->sp w [.ref a] H (λv _=>v=.bl true) λ_ _ _=>False)
   (hCX:∀ (w:World) (H:Hp) (s:Shared) (e:Value) (s':Shared),CX w [] H s (λ_ _ _=>False) e s'->False) :
   PySem.W.WalkO q loose XP YP l.row.toRowW d [] (λf vs=>PySem.call f vs):=by
 refine Att.qE hn hdf λw s₀ s₁ mg mb fa o pm cd doc a vs ns G Y ho hd hcd hmg hobj hints hlen hg=>?_
 have KX:=hY w _ Y
 obtain ⟨fd,hb,hF⟩:=F w mg fa _ KX G.T.g hmg
 exact xP KX G.T.g G.T.b G.T.builtins G.T.nolimit hg hobj hints (Fz hlen hn2) hr hF hb (λH hO hS=>hsp w H a ns hlen hO hS) λH e s'=>hCX w H s₁ e s'
noncomputable def cA (s:Stmt):Arguments:=match s with
 | .FunctionDef _ a _ _ _ _ _ _ _ _=>a
 | _=>{ posonlyargs:=[],args:=[],vararg:=none,kwonlyargs:=[],kw_defaults:=[],kwarg:=none,defaults:=[] }
noncomputable def bY (s:Stmt):List Stmt:=match s with
 | .FunctionDef _ _ b _ _ _ _ _ _ _=>b
 | _=>[]
noncomputable def ah (s:Stmt):Scope:=match s with
 | .FunctionDef _ _ _ _ _ _ sc _ _ _=>sc
 | _=>{ kind:=.function,names:=[],isGenerator:=false,isCoroutine:=false }
noncomputable abbrev CX0:CXT:=λ_ _ _ _ _ _=>False
noncomputable abbrev E0:XK:=λ_ _ _=>False
theorem Dx {X:Cx}:Passes CX0 X E0:=λ_ _ _ _ _ _ _ h=>h.elim
structure Fun (K:Fb) (x qual:Str) (st:Stmt) (f:Addr) (fd:FuncData):Prop where
 ex:∃ (oc:Value) (od:Option Addr) (dV kV doc pm:Value) (an:Option Addr) (cdv ct:Value) (osl:Array (Option Value)),
   fd=GV x qual (cA st) (bY st) (ah st) dV kV doc pm an cdv ct/\K.lookup f=some ⟨oc,od,.func fd,osl⟩/\Ht K cdv qual=true
 kp:G6 K (.ref f)=true
section
variable {P:Program} {w:World} {K:Fb} {mg:Str->Option Value} {base:Heap}
theorem Fun.ok {x qual:Str} {st:Stmt} {f:Addr} {fd:FuncData} {N ps:List Str} {k:Nat} {sp:Sp} (F:Fun K x qual st f fd) (S:aq N ps (ah st)) (len:∀ vs H Q E,sp vs H Q E->vs.length=ps.length)
   (hbody:∀ (cdv:Value) (A:Around) (outer:List Env) (s:Shared) (H:Hp) (vs:List V) (Q:VK) (E:XK),fu k (A.deeper (envOfC qual (ah st) s.heap.objs.size f cdv))->sp vs H Q E ->
     ∃ t,PSs (rE CX0 P w K mg base N qual (ah st) f cdv A outer s H E).nox (bY st) t/\t { nx:=λ_ H'=>Q .non H',rt:=Q } (start N vs) H):aQ P w K mg base CX0 (k + 1) f fd ps sp:=by
 obtain ⟨oc,od,dV,kV,doc,pm,an,cdv,ct,osl,rfl,lk,hcd⟩:=F.ex
 refine Eg lk hcd S len λA outer s H vs Q E hr hsp=>?_
 obtain ⟨t,h,q⟩:=hbody cdv A outer s H vs Q E hr hsp
 exact ⟨t,h.nox,q⟩
theorem Fun.binds {x qual:Str} {st:Stmt} {f:Addr} {fd:FuncData} {ps:List Str} (_:Fun K x qual st f fd) (h:∀ us:List Value,us.length=ps.length->bindArgs fd ⟨us,[]⟩=pure (ps.zip us)):Binds K fd ps []:=.all h
theorem rS {x qual:Str} {st:Stmt} {f:Addr} {oc:Value} {od an:Option Addr} {osl:Array (Option Value)} {dV kV doc pm cdv ct:Value} (l:K.lookup f=some ⟨oc,od,.func (GV x qual (cA st) (bY st) (ah st) dV kV doc pm an cdv ct),osl⟩)
   (c:Ht K cdv qual=true) (k:G6 K (.ref f)=true):Fun K x qual st f (GV x qual (cA st) (bY st) (ah st) dV kV doc pm an cdv ct):=⟨⟨oc,od,dV,kV,doc,pm,an,cdv,ct,osl,rfl,l,c⟩,k⟩
end
theorem jg {n:Nat} (h:n<=1000):n < sizeLine:=FQ h (by decide)
section
variable {X:Cx}
theorem pv (i:Nat) {x:Str} {pos:Pos} (hN:X.N[i]?=some x:=by rfl) (hv:Vis X.env.scope x:=by first | exact GO rfl | exact F5 (GO rfl) | exact F5 (F5 rfl)) (hd:(x == ("__debug__" : Str))=false:=by decide)
   (hcd:(x == ("__classdict__" : Str))=false:=by decide):PE X (.Name x pos) (Eb i):=bx hN hv hd hcd
end
theorem vA {A B:Prop} (h:B):if false=true then A else B:=by
 rw [if_neg Fp]
 exact h
theorem uQ {A B:Prop} (h:A):if true=true then A else B:=by
 rw [if_pos rfl]
 exact h
noncomputable def aj (H H':Hp):Prop:=∀ b o,H b=some o->H' b=some o
theorem aj.refl (H:Hp):aj H H:=λ_ _ h=>h
theorem aj.trans {H H1 H2:Hp} (a:aj H H1) (b:aj H1 H2):aj H H2:=λc o h=>b c o (a c o h)
theorem aj.free {H H':Hp} (e:aj H H') {l:Addr} (h:H' l=Option.none):H l=Option.none:=by
 cases q:H l with
 | none=>rfl
 | some o=>
   rw [e l o q] at h
   cases h
theorem aj.seq {K:Fb} {H H':Hp} {a:Addr} {xs:List V} (e:aj H H') (h:SqL K H a xs):SqL K H' a xs:=by
 rcases h with (h | ⟨o,h⟩) | h
 · exact .inl (.inl (e _ _ h))
 · exact .inl (.inr ⟨o,e _ _ h⟩)
 · exact .inr h
end L2
set_option linter.all false
set_option maxRecDepth 100000
namespace Hx
open PySem PySem.Spec PyProof.Rows
section
variable {M:Model} {A:Around} {E:Value->Shared->Prop} {s:Shared}
end
end Hx
namespace Hx
open PySem PySem.Spec PySem.Calls PyProof.Rows PySem.W
section
variable {prog:Program} {w:World} {A:Around} {E:Value->Shared->Prop} {s:Shared} {K:Frag} {x D:Addr} {ox:Obj}
end
end Hx
namespace Hx
open PySem PySem.Spec PySem.Calls PyProof.Rows PySem.W L2
section
variable {X:Cx} {x:Str} {C S:Addr} {np cpos pos:Pos} {e:Expr} {es:List Expr} {t:TA}
end
section
variable {fs fs' ch:List Addr} {H H1:Hp} {h h1 h2:Heap} {old:Addr->Prop} {P:Program} {w:World} {a:Addr}
end
theorem there {P:Program} {w:World} {H:Hp} {h:Heap} {a:Addr} {o:HO} (x:bo P w H h a o):∃ u,h.get? a=some u:=by
 cases o with
 | lst xs=>obtain ⟨_,_,_,_,e⟩:=x; exact ⟨_,e⟩
 | tup xs=>obtain ⟨_,_,_,o,e,_⟩:=x; exact ⟨_,e⟩
 | dK kvs=>obtain ⟨_,_,_,_,o,_,_,e,_⟩:=x; exact ⟨_,e⟩
 | dT kvs=>obtain ⟨_,_,_,_,o,_,_,e,_⟩:=x; exact ⟨_,e⟩
 | set S n=>obtain ⟨o,_,_,_,e,_⟩:=x; exact ⟨_,e⟩
 | ins C dx fs=>obtain ⟨_,_,_,e,_⟩:=x; exact ⟨_,e⟩
 | own y=>exact x
 | xd fs=>obtain ⟨_,⟨o,_,_,e,_⟩,_⟩:=x; exact ⟨_,e⟩
 | met f y=>exact ⟨_,x⟩
 | rng lo hi=>obtain ⟨_,_,_,e⟩:=x; exact ⟨_,e⟩
 | frz o u=>exact ⟨_,x.1⟩
 | tbl ps=>exact ⟨_,x⟩
 | ext φ=>exact x.2.1
section
variable {P:Program} {w:World} {K:Frag} {mg:Str->Option Value} {base:Heap} {N:List Str} {qual:Str} {scope:Scope} {f:Addr} {cd:Value} {A:Around} {outer:List Env} {s0:Shared} {H0:Hp} {E:XK} {cl:Nat->Addr}
end
section
variable {X:Cx} {pins:List (Addr × Obj)} {σ:L2.St} {H:Hp} {s:Shared} {a:Addr}
noncomputable abbrev XP (X:Cx) (pins:List (Addr × Obj)) (E:Value->Shared->Prop):Cx:={ X with pn:=X.pn++pins,xe:=E }
end
section
variable {X:Cx} {cl:Nat->Addr} {ks:List Nat} {n sm:Str} {i:Nat} {S:Addr} {ret:Expr} {psm pr ph pos:Pos} {body:List Stmt} {tb:(Nat->Hp->Prop)->TS} {tr:Addr->Obj->TE}
end
end Hx
namespace Ev
open PySem PySem.Spec PyProof.Rows L2
structure Bx where
 p:Fb->Hp->Addr->Prop
 mono:∀ {K:Fb} {H H':Hp} {a:Addr},aj H H'->p K H a->p K H' a
 isd:∀ {K:Fb} {H:Hp} {a:Addr},p K H a->∃ o:HO,H a=some o/\∀ (P:Program) (w:World) (H':Hp) (h:Heap),bo P w H' h a o->∃ ob,h.get? a=some ob/\ob.cls=.type "dict"
inductive D where
 | non | bl (b:Bool) | int (i:Int) | str (x:Str) | tup (xs:List D) | lst (xs:List D) | box (x:Bx)
noncomputable instance:Inhabited D:=⟨.non⟩
mutual
inductive Den (K:Fb) (H:Hp):V->D->Prop where
 | non:Den K H .non .non
 | bl {b:Bool}:Den K H (.bl b) (.bl b)
 | int {i:Int}:Den K H (.int i) (.int i)
 | str {x:Str}:Den K H (.str x) (.str x)
 | tup {a:Addr} {vs:List V} {ds:List D} (h:SqT K H a vs) (r:ar K H vs ds):Den K H (.ref a) (.tup ds)
 | lst {a:Addr} {vs:List V} {ds:List D} (h:SqL K H a vs) (r:ar K H vs ds):Den K H (.ref a) (.lst ds)
 | box {a:Addr} {x:Bx} (h:x.p K H a):Den K H (.ref a) (.box x)
inductive ar (K:Fb) (H:Hp):List V->List D->Prop where
 | nil:ar K H [] []
 | cons {v:V} {d:D} {vs:List V} {ds:List D} (h:Den K H v d) (r:ar K H vs ds):ar K H (v :: vs) (d :: ds)
end
section
variable {K:Fb} {H H':Hp}
theorem aY (e:aj H H') {a:Addr} {xs:List V} (h:SqT K H a xs):SqT K H' a xs:=by
 rcases h with (h | ⟨o,h⟩) | h
 · exact .inl (.inl (e _ _ h))
 · exact .inl (.inr ⟨o,e _ _ h⟩)
 · exact .inr h
theorem aN (e:aj H H') {a:Addr} {xs:List V} (h:SqL K H a xs):SqL K H' a xs:=e.seq h
mutual
theorem Den.mono (e:aj H H'):∀ {v:V} {d:D},Den K H v d->Den K H' v d
 | _,_,.non=>.non
 | _,_,.bl=>.bl
 | _,_,.int=>.int
 | _,_,.str=>.str
 | _,_,.tup h r=>.tup (aY e h) (ar.mono e r)
 | _,_,.lst h r=>.lst (aN e h) (ar.mono e r)
 | _,_,.box (x:=x) h=>.box (x.mono e h)
theorem ar.mono (e:aj H H'):∀ {vs:List V} {ds:List D},ar K H vs ds->ar K H' vs ds
 | _,_,.nil=>.nil
 | _,_,.cons h r=>.cons (Den.mono e h) (ar.mono e r)
end
theorem ar.length:∀ {vs:List V} {ds:List D},ar K H vs ds->vs.length=ds.length
 | _,_,.nil=>rfl
 | _,_,.cons _ r=>congrArg (· + 1) r.length
theorem ar.get:∀ {vs:List V} {ds:List D} {i:Nat} {d:D},ar K H vs ds->ds[i]?=some d->∃ v,vs[i]?=some v/\Den K H v d
 | _,_,_,_,.nil,e=>by simp at e
 | _,_,0,_,.cons h _,e=>by simp at e; subst e; exact ⟨_,rfl,h⟩
 | _,_,i + 1,d,.cons _ r,e=>by
   obtain ⟨v,h1,h2⟩:=ar.get (i:=i) (d:=d) r (by simpa using e)
   exact ⟨v,by simpa using h1,h2⟩
theorem ar.append:∀ {xs ys:List V} {ds es:List D},ar K H xs ds->ar K H ys es->ar K H (xs++ys) (ds++es)
 | _,_,_,_,.nil,s=>s
 | _,_,_,_,.cons h r,s=>.cons h (ar.append r s)
theorem ar.take:∀ {xs:List V} {ds:List D} (n:Nat),ar K H xs ds->ar K H (xs.take n) (ds.take n)
 | _,_,0,_=>.nil
 | _,_,_ + 1,.nil=>.nil
 | _,_,n + 1,.cons h r=>.cons h (ar.take n r)
theorem ar.drop:∀ {xs:List V} {ds:List D} (n:Nat),ar K H xs ds->ar K H (xs.drop n) (ds.drop n)
 | _,_,0,r=>r
 | _,_,_ + 1,.nil=>.nil
 | _,_,n + 1,.cons _ r=>ar.drop n r
end
noncomputable def aD (i j:Int):Prop:=i.natAbs.log2 < 64\/j.natAbs.log2 < 64\/(i.natAbs.log2 < 1000000/\j.natAbs.log2 < 1000000)
noncomputable def aE (j:Int):Prop:=j ≠ 0/\j.natAbs.log2 < 9000
theorem ak {H:Hp} {p:Addr} (h:H p=none) (o:HO):aj H (upd H p o):=λb u q=>by rw [av (aR q h)]; exact q
noncomputable def Ite (K:Fb) (a:Addr):L2.It:=
 ⟨λi H=>∃ xs x,SqL K H a xs/\xs[i]?=some x,λi H v H'=>∃ p x,H p=none/\v=.ref p/\H'=upd H p (.tup [.int (i:Nat),x])/\∀ xs,SqL K H a xs->xs[i]?=some x,λi H=>∃ xs,SqL K H a xs/\xs.length<=i⟩
theorem vm {P:Program} {w:World} {K:Fb} {ts:List Expr} {q:Nat} {tp:Pos} (a e it:Addr) (hne:e ≠ it) :
   Turn P w K false (.Tuple ts q tp) (Ite K a) [e,it] e (λi h=>(∃ old,IsEnum h e it (i:Nat) old)/\h.IsListIter it a i) where
 mem:=by simp
 obj:=λi h st b hb=>by
   obtain ⟨⟨old,h1⟩,o,h2,h3,h4⟩:=st
   rcases Fv.mp hb with rfl | hb
   · exact ⟨_,h1,λv z=>nomatch z⟩
   · have z:b=it:=by simpa using hb
     subst z
     exact ⟨o,h2,λv z=>by rw [h4] at z; cases z⟩
 keep:=λi h h' st k=>by
   obtain ⟨⟨old,h1⟩,o,h2,h3,h4⟩:=st
   exact ⟨⟨old,k e (by simp) _ h1⟩,o,k it (by simp) o h2,h3,h4⟩
 item:=by
   intro X hP hw hK hc i pins s σ H E I hf st hg
   subst hP hw hK
   obtain ⟨xs,x,hq,hx⟩:=hg
   obtain ⟨its,rv,p,hz⟩:=I.list hq
   obtain ⟨u,hu,ru⟩:=rv.get hx
   obtain ⟨⟨old,h1⟩,h2⟩:=st
   have fe:=hf e (by simp)
   have fi:=hf it (by simp)
   refine wpAny_pyNext_enum_item h1 h2 p.isList (x:=u) (by simpa using hu) hne λh' g1 g2 g3 g4 g5=>⟨_,rfl,?_⟩
   refine wpAny_letOwnedTupleGo_enum (s:={ s with heap:=h',toks:=s.toks + 1 }) g1 λh2' k1 k2=>?_
   have hn:H s.heap.objs.size=none:=I.hok.fresh (Fc _)
   have le1:e < s.heap.objs.size:=Fu h1
   have le2:it < s.heap.objs.size:=by obtain ⟨o,z,_⟩:=h2; exact Fu z
   have kp:∀ b o,b ≠ e->b ≠ it->s.heap.get? b=some o->h2'.get? b=some o:=λb o b1 b2 z=>(k2.2 b b1).trans (g5 b o b1 b2 z)
   have nt:h2'.get? s.heap.objs.size=some { cls:=.type "tuple",data:=.seq #[.int (i:Nat) s.toks,u] }:=(k2.2 _ (Nat.ne_of_gt le1)).trans g3
   have ne1:∀ b v,H b=some v->b ≠ e:=λb v z q=>by rw [q,fe.1] at z; cases z
   have ne2:∀ b v,H b=some v->b ≠ it:=λb v z q=>by rw [q,fi.1] at z; cases z
   have hok0:HOk X.prog X.w H h2':=λb v z=>(I.hok b v z).kX (λc v' hc' q=>kp c v' (by
       rcases hc' with hc' | hc'
       · rw [hc']; exact ne1 b v z
       · exact ne1 c _ hc') (by
       rcases hc' with hc' | hc'
       · rw [hc']; exact ne2 b v z
       · exact ne2 c _ hc') q) (λ_ q=>q) λ_ _ q=>q
   have hok1:HOk X.prog X.w (upd H s.heap.objs.size (.tup [.int (i:Nat),x])) h2':=λb v z=>by
     by_cases hb:b=s.heap.objs.size
     · subst hb
       rw [aC] at z; cases z
       exact ⟨(by show 2<=sizeLine; decide),[.int (i:Nat) s.toks,u],.cons ⟨_,rfl⟩ (.cons ru .nil),_,nt,rfl,_,rfl⟩
     · rw [av hb] at z
       exact (hok0 b v z).kX (λc v' _ q=>q) (λc q=>by rw [av (aR q hn)]; exact q) λc ys q=>by rw [av (aR q hn)]; exact q
   have I1:Inv X pins σ (upd H s.heap.objs.size (.tup [.int (i:Nat),x])) { s with heap:=h2',toks:=s.toks + 1 }:=by
     refine I.step (g':=s.gens) (d':=s.drawn) (ch:=[e,it]) (λb hb=>?_) (λb o _ _ hc' z _=>kp b o (λq=>hc' (by simp [q])) (λq=>hc' (by simp [q])) z)
       (λb o _ _ hc' z _=>⟨o.slots,kp b o (λq=>hc' (by simp [q])) (λq=>hc' (by simp [q])) z⟩)
       (λb o hc' z n=>by rw [av (FT (Fu z))]; exact n) (λb o hc' z=>⟨o,kp b o (λq=>hc' (by simp [q])) (λq=>hc' (by simp [q])) z⟩)
       (λb ys z=>by rw [av (aR z hn)]; exact z) (λb o u z=>by rw [av (aR z hn)]; exact z) (λb ps z=>⟨#[],by rw [av (aR z hn),z]; simp⟩) (λm hm=>?_) hok1 I.bare
     · rcases Fv.mp hb with rfl | hb
       · exact ⟨fe.2.2.2.1,fe.2.1,fe.2.2.2.2.1,fe.2.2.2.2.2⟩
       · have z:b=it:=by simpa using hb
         subst z
         exact ⟨fi.2.2.2.1,fi.2.1,fi.2.2.2.2.1,fi.2.2.2.2.2⟩
     · obtain ⟨o,es,ep,ho,r⟩:=hm
       exact ⟨o,es,ep,kp _ o (GG fe.2.1) (GG fi.2.1) ho,r⟩
   refine ⟨.ref s.heap.objs.size,_,I1,rfl,⟨s.heap.objs.size,x,hn,rfl,rfl,λys hy=>by rw [I.iK hy hq]; exact hx⟩,⟨⟨_,k1⟩,?_⟩,λb hb=>?_⟩
   · obtain ⟨o,z1,z2,z3⟩:=g2
     exact ⟨o,(k2.2 it (GG hne)).trans z1,z2,z3⟩
   · rcases Fv.mp hb with rfl | hb
     · rw [av (FT le1)]; exact fe.1
     · have z:b=it:=by simpa using hb
       subst z
       rw [av (FT le2)]; exact fi.1
 done:=by
   intro X hP hw hK hc i pins s σ H E I hf st hg
   subst hP hw hK
   obtain ⟨xs,hq,hx⟩:=hg
   obtain ⟨its,rv,p,hz⟩:=I.list hq
   obtain ⟨⟨old,h1⟩,h2⟩:=st
   obtain ⟨f0,f1,f2,f3,f4,f5⟩:=hf it (by simp)
   have hl:=rv.length
   exact wpAny_pyNext_enum_end (I.ok.hd hc.calm) h1 h2 p.isList (by simp; omega) λh' eb=>⟨rfl,I.turned (t':=s.toks) (λb o hb z=>eb b o hb z) f0 f1 f3 f4 f5⟩
 self:=λ_ _ _ _ _ st h=>by
   obtain ⟨⟨old,h1⟩,_⟩:=st
   exact wpAny_pyIter_enum h1 h
section
variable {X:Cx}
noncomputable def Cz (K:Fb) (ta:TA):TI:=λσ H R=>ta σ H λvs H1=>∃ a,vs=[.ref a]/\(∃ xs,SqL K H1 a xs)/\R (Ite K a) H1
theorem uD:bootBuiltins "enumerate" = some (.type "enumerate"):=by decide +kernel
theorem og {ts:List Expr} {q:Nat} {tp:Pos} {a:Expr} {ta:TA} {p pos:Pos} (hc:X.calm=true) (hg:Gl X "enumerate") (hm:X.mg "enumerate" = none) (ha:PA X [a] ta) (hs:starEach [a] X.env=[(false,eval a X.env)]) :
   PI X (.Tuple ts q tp) (.Call (.Name "enumerate" p) [a] [] pos) (Cz X.K ta):=by
 intro pins s σ H R I h
 refine Call_ (eX I hg hm uD (Gf (thn (ha pos pins s σ H _ I h) λus s1 ⟨vs,H1,I1,r1,q1⟩=>?_) hs rfl))
 obtain ⟨l,e,⟨xs,hq⟩,q⟩:=q1
 subst e
 obtain ⟨u,rfl,ru⟩:=vals1 r1
 cases ru
 obtain ⟨its,rv,pl,hz⟩:=I1.list hq
 refine call_enumerate_list pl.isList λh' g1 g2 g3 g4=>?_
 refine wpAny_pyIter_enum (s:={ s1 with heap:=h' }) g1 ?_
 have I2:Inv X pins σ H1 { s1 with heap:=h' }:=I1.kept (t':=s1.toks) g4
 have n1:H1 (s1.heap.objs.size + 1)=none:=I1.hok.fresh (by omega)
 have n2:H1 s1.heap.objs.size=none:=I1.hok.fresh (Fc _)
 refine ⟨false,s1.heap.objs.size + 1,[s1.heap.objs.size + 1,s1.heap.objs.size],_,_,H1,rfl,I2,.inl hc,vm l (s1.heap.objs.size + 1) s1.heap.objs.size (J9 _),⟨⟨_,g1⟩,g2⟩,λb hb=>?_,q⟩
 rcases Fv.mp hb with rfl | hb
 · exact I1.lX (by omega) n1
 · have z:b=s1.heap.objs.size:=by simpa using hb
   subst z
   exact I1.lX (Fc _) n2
end
noncomputable def Itz (K:Fb) (a b:Addr):L2.It:=
 ⟨λi H=>∃ xs ys x y,SqL K H a xs/\SqL K H b ys/\xs[i]?=some x/\ys[i]?=some y,
  λi H v H'=>∃ p x y,H p=none/\v=.ref p/\H'=upd H p (.tup [x,y])/\(∀ xs,SqL K H a xs->xs[i]?=some x)/\∀ ys,SqL K H b ys->ys[i]?=some y,
  λi H=>∃ xs ys,SqL K H a xs/\SqL K H b ys/\(xs.length<=i\/ys.length<=i)⟩
noncomputable def zSt (a b z TI TO i1 i2:Addr) (i:Nat) (h:Heap):Prop:=
 IsZip h z TI TO .none/\IsPair h TI (.ref i1) (.ref i2)/\(∃ u v,IsPair h TO u v)/\h.IsListIter i1 a i/\h.IsListIter i2 b i
theorem mZ {h:Heap} {a b z TI TO i1 i2:Addr} {i:Nat} {xs ys:Array Value} (n:TI ≠ TO) (m:i1 ≠ i2) (s:zSt a b z TI TO i1 i2 i h) (l1:h.IsList a xs) (l2:h.IsList b ys):ZipApart z TI TO i1 i2 a b:=by
 obtain ⟨h1,h2,⟨u,v,h3⟩,⟨o4,h4,c4,d4⟩,⟨o5,h5,c5,d5⟩⟩:=s
 obtain ⟨o6,h6,c6,n6,d6⟩:=l1
 obtain ⟨o7,h7,c7,n7,d7⟩:=l2
 have kk:∀ {x y:Addr} {o p:Obj},h.get? x=some o->h.get? y=some p->o.cls ≠ p.cls->x ≠ y:=λe1 e2 c q=>by subst q; rw [e1] at e2; cases e2; exact c rfl
 have cz:∀ {s t:String},s ≠ t->Kw s ≠ Kw t:=λn q=>n (by cases q; rfl)
 refine ⟨kk h2 h1 (cz (by decide)),kk h3 h1 (cz (by decide)),kk h4 h1 ?_,kk h5 h1 ?_,n,kk h2 h4 ?_,kk h2 h5 ?_,kk h3 h4 ?_,kk h3 h5 ?_,m,kk h6 h1 ?_,kk h6 h3 ?_,kk h6 h4 ?_,kk h6 h5 ?_,kk h7 h1 ?_,kk h7 h3 ?_,kk h7 h4 ?_,kk h7 h5 ?_⟩
 all_goals first | (rw [c4]; exact cz (by decide)) | (rw [c5]; exact cz (by decide)) | (rw [c6]; exact cz (by decide)) | (rw [c7]; exact cz (by decide)) | (rw [c6,c4]; exact cz (by decide)) | (rw [c6,c5]; exact cz (by decide)) | (rw [c7,c4]; exact cz (by decide)) | (rw [c7,c5]; exact cz (by decide))
theorem xu {P:Program} {w:World} {K:Fb} {ts:List Expr} {q:Nat} {tp:Pos} (a b z TI TO i1 i2:Addr) (nT:TI ≠ TO) (nI:i1 ≠ i2) :
   Turn P w K false (.Tuple ts q tp) (Itz K a b) [z,TI,TO,i1,i2] z (zSt a b z TI TO i1 i2) where
 mem:=by simp
 obj:=λi h st c hb=>by
   obtain ⟨h1,h2,⟨u,v,h3⟩,⟨o4,h4,c4,d4⟩,⟨o5,h5,c5,d5⟩⟩:=st
   simp only [Fv,HD,or_false] at hb
   rcases hb with rfl | rfl | rfl | rfl | rfl
   · exact ⟨_,h1,λv z=>nomatch z⟩
   · exact ⟨_,h2,λv z=>nomatch z⟩
   · exact ⟨_,h3,λv z=>nomatch z⟩
   · exact ⟨_,h4,λv z=>by rw [d4] at z; cases z⟩
   · exact ⟨_,h5,λv z=>by rw [d5] at z; cases z⟩
 keep:=λi h h' st k=>by
   obtain ⟨h1,h2,⟨u,v,h3⟩,⟨o4,h4,c4,d4⟩,⟨o5,h5,c5,d5⟩⟩:=st
   exact ⟨k z (by simp) _ h1,k TI (by simp) _ h2,⟨u,v,k TO (by simp) _ h3⟩,⟨o4,k i1 (by simp) _ h4,c4,d4⟩,⟨o5,k i2 (by simp) _ h5,c5,d5⟩⟩
 item:=by
   intro X hP hw hK hc i pins s σ H E I hf st hg
   subst hP hw hK
   obtain ⟨xs,ys,x,y,hq1,hq2,hx,hy⟩:=hg
   obtain ⟨its1,rv1,p1,hz1⟩:=I.list hq1
   obtain ⟨its2,rv2,p2,hz2⟩:=I.list hq2
   obtain ⟨u1,hu1,ru1⟩:=rv1.get hx
   obtain ⟨u2,hu2,ru2⟩:=rv2.get hy
   have D:=mZ nT nI st p1.isList p2.isList
   obtain ⟨h1,h2,⟨u,v,h3⟩,h4,h5⟩:=st
   refine wpAny_pyNext_zip_item D h1 h2 h3 h4 h5 p1.isList p2.isList (x:=u1) (y:=u2) (by simpa using hu1) (by simpa using hu2) λh' g1 g2 g3 g4 g5 g6 g7=>⟨_,rfl,?_⟩
   refine wpAny_letOwnedTupleGo_zip (s:={ s with heap:=h' }) g1 λh2' k1 k2=>?_
   have hn:H s.heap.objs.size=none:=I.hok.fresh (Fc _)
   have le1:z < s.heap.objs.size:=Fu h1
   have lt2:TI < s.heap.objs.size:=Fu h2
   have lt3:TO < s.heap.objs.size:=Fu h3
   have lt4:i1 < s.heap.objs.size:=by obtain ⟨o,z,_⟩:=h4; exact Fu z
   have lt5:i2 < s.heap.objs.size:=by obtain ⟨o,z,_⟩:=h5; exact Fu z
   have kp:∀ c o,c ≠ z->c ≠ TO->c ≠ i1->c ≠ i2->s.heap.get? c=some o->h2'.get? c=some o:=λc o b1 b2 b3 b4 e=>(k2.2 c b1).trans (g7 c o b1 b2 b3 b4 e)
   have nt:IsPair h2' s.heap.objs.size u1 u2:=(k2.2 _ (Nat.ne_of_gt le1)).trans g5
   have ne:∀ c,c ∈ [z,TI,TO,i1,i2]->∀ d v,H d=some v->d ≠ c:=λc hc d v e q=>by
     have:=(hf c hc).1
     rw [q,this] at e; cases e
   have hok0:HOk X.prog X.w H h2':=λd v e=>(I.hok d v e).kX (λc v' hc' q=>kp c v'
       (by rcases hc' with hc' | hc'
           · rw [hc']; exact ne z (by simp) d v e
           · exact ne z (by simp) c _ hc')
       (by rcases hc' with hc' | hc'
           · rw [hc']; exact ne TO (by simp) d v e
           · exact ne TO (by simp) c _ hc')
       (by rcases hc' with hc' | hc'
           · rw [hc']; exact ne i1 (by simp) d v e
           · exact ne i1 (by simp) c _ hc')
       (by rcases hc' with hc' | hc'
           · rw [hc']; exact ne i2 (by simp) d v e
           · exact ne i2 (by simp) c _ hc') q) (λ_ q=>q) λ_ _ q=>q
   have hok1:HOk X.prog X.w (upd H s.heap.objs.size (.tup [x,y])) h2':=λd v e=>by
     by_cases hb:d=s.heap.objs.size
     · subst hb
       rw [aC] at e; cases e
       exact ⟨(by show 2<=sizeLine; decide),[u1,u2],.cons ru1 (.cons ru2 .nil),_,nt,rfl,_,rfl⟩
     · rw [av hb] at e
       exact (hok0 d v e).kX (λc v' _ q=>q) (λc q=>by rw [av (aR q hn)]; exact q) λc ys q=>by rw [av (aR q hn)]; exact q
   have I1:Inv X pins σ (upd H s.heap.objs.size (.tup [x,y])) { s with heap:=h2' }:=by
     refine I.step (t':=s.toks) (g':=s.gens) (d':=s.drawn) (ch:=[z,TO,i1,i2]) (λc hb=>?_) (λc o _ _ hc' e _=>kp c o (λq=>hc' (by simp [q])) (λq=>hc' (by simp [q])) (λq=>hc' (by simp [q])) (λq=>hc' (by simp [q])) e)
       (λc o _ _ hc' e _=>⟨o.slots,kp c o (λq=>hc' (by simp [q])) (λq=>hc' (by simp [q])) (λq=>hc' (by simp [q])) (λq=>hc' (by simp [q])) e⟩)
       (λc o hc' e n=>by rw [av (FT (Fu e))]; exact n) (λc o hc' e=>⟨o,kp c o (λq=>hc' (by simp [q])) (λq=>hc' (by simp [q])) (λq=>hc' (by simp [q])) (λq=>hc' (by simp [q])) e⟩)
       (λc ys e=>by rw [av (aR e hn)]; exact e) (λc o u e=>by rw [av (aR e hn)]; exact e) (λc ps e=>⟨#[],by rw [av (aR e hn),e]; simp⟩) (λm hm=>?_) hok1 I.bare
     · have hb':c ∈ [z,TI,TO,i1,i2]:=by
         simp only [Fv,HD,or_false] at hb ⊢
         rcases hb with h | h | h | h <;> simp [h]
       have fe:=hf c hb'
       exact ⟨fe.2.2.2.1,fe.2.1,fe.2.2.2.2.1,fe.2.2.2.2.2⟩
     · obtain ⟨o,es,ep,ho,r⟩:=hm
       exact ⟨o,es,ep,kp _ o (GG (hf z (by simp)).2.1) (GG (hf TO (by simp)).2.1) (GG (hf i1 (by simp)).2.1) (GG (hf i2 (by simp)).2.1) ho,r⟩
   refine ⟨.ref s.heap.objs.size,_,I1,rfl,⟨s.heap.objs.size,x,y,hn,rfl,rfl,λzs hy'=>by rw [I.iK hy' hq1]; exact hx,λzs hy'=>by rw [I.iK hy' hq2]; exact hy⟩,⟨k1,?_,⟨u1,u2,(k2.2 TO D.TOz).trans g2⟩,?_,?_⟩,λc hb=>?_⟩
   · exact kp TI _ D.TIz D.TITO D.TIi1 D.TIi2 h2
   · obtain ⟨o,z1,z2,z3⟩:=g3
     exact ⟨o,(k2.2 i1 D.i1z).trans z1,z2,z3⟩
   · obtain ⟨o,z1,z2,z3⟩:=g4
     exact ⟨o,(k2.2 i2 D.i2z).trans z1,z2,z3⟩
   · have fc:=(hf c hb).1
     have lt:c < s.heap.objs.size:=by
       simp only [Fv,HD,or_false] at hb
       rcases hb with rfl | rfl | rfl | rfl | rfl <;> assumption
     rw [av (FT lt)]
     exact fc
 done:=by
   intro X hP hw hK hc i pins s σ H E I hf st hg
   subst hP hw hK
   obtain ⟨xs,ys,hq1,hq2,hx⟩:=hg
   obtain ⟨its1,rv1,p1,hz1⟩:=I.list hq1
   obtain ⟨its2,rv2,p2,hz2⟩:=I.list hq2
   have D:=mZ nT nI st p1.isList p2.isList
   obtain ⟨h1,h2,⟨u,v,h3⟩,h4,h5⟩:=st
   have hl1:=rv1.length
   have hl2:=rv2.length
   refine wpAny_pyNext_zip_end (I.ok.hd hc.calm) D h1 h2 h3 h4 h5 p1.isList p2.isList (by
     rcases hx with hx | hx
     · left; simp; omega
     · right; simp; omega) λh' eb=>⟨rfl,?_⟩
   have ne:∀ c,c ∈ [z,TI,TO,i1,i2]->∀ d v,H d=some v->d ≠ c:=λc hc d v e q=>by
     have:=(hf c hc).1
     rw [q,this] at e; cases e
   have hok0:HOk X.prog X.w H h':=λd v e=>(I.hok d v e).kX (λc v' hc' q=>eb c v'
       (by rcases hc' with hc' | hc'
           · rw [hc']; exact ne z (by simp) d v e
           · exact ne z (by simp) c _ hc')
       (by rcases hc' with hc' | hc'
           · rw [hc']; exact ne TO (by simp) d v e
           · exact ne TO (by simp) c _ hc')
       (by rcases hc' with hc' | hc'
           · rw [hc']; exact ne i1 (by simp) d v e
           · exact ne i1 (by simp) c _ hc')
       (by rcases hc' with hc' | hc'
           · rw [hc']; exact ne i2 (by simp) d v e
           · exact ne i2 (by simp) c _ hc') q) (λ_ q=>q) λ_ _ q=>q
   refine I.step (t':=s.toks) (g':=s.gens) (d':=s.drawn) (ch:=[z,TO,i1,i2]) (λc hb=>?_) (λc o _ _ hc' e _=>eb c o (λq=>hc' (by simp [q])) (λq=>hc' (by simp [q])) (λq=>hc' (by simp [q])) (λq=>hc' (by simp [q])) e)
       (λc o _ _ hc' e _=>⟨o.slots,eb c o (λq=>hc' (by simp [q])) (λq=>hc' (by simp [q])) (λq=>hc' (by simp [q])) (λq=>hc' (by simp [q])) e⟩)
       (λc o hc' e n=>n) (λc o hc' e=>⟨o,eb c o (λq=>hc' (by simp [q])) (λq=>hc' (by simp [q])) (λq=>hc' (by simp [q])) (λq=>hc' (by simp [q])) e⟩)
       (λc ys e=>e) (λc o u e=>e) (λc ps e=>⟨#[],by rw [e]; simp⟩) (λm hm=>?_) hok0 I.bare
   · have hb':c ∈ [z,TI,TO,i1,i2]:=by
       simp only [Fv,HD,or_false] at hb ⊢
       rcases hb with h | h | h | h <;> simp [h]
     have fe:=hf c hb'
     exact ⟨fe.2.2.2.1,fe.2.1,fe.2.2.2.2.1,fe.2.2.2.2.2⟩
   · obtain ⟨o,es,ep,ho,r⟩:=hm
     exact ⟨o,es,ep,eb _ o (GG (hf z (by simp)).2.1) (GG (hf TO (by simp)).2.1) (GG (hf i1 (by simp)).2.1) (GG (hf i2 (by simp)).2.1) ho,r⟩
 self:=λ_ _ _ _ _ st h=>wpAny_pyIter_zip st.1 h
section
variable {X:Cx}
noncomputable def Cs (K:Fb) (ta:TA):TI:=λσ H R=>ta σ H λvs H1=>∃ a b,vs=[.ref a,.ref b]/\(∃ xs,SqL K H1 a xs)/\(∃ ys,SqL K H1 b ys)/\R (Itz K a b) H1
theorem rb {ts:List Expr} {q:Nat} {tp:Pos} {a b:Expr} {ta:TA} {p pos:Pos} (hc:X.calm=true) (hg:Gl X "zip") (hm:X.mg "zip" = none) (ha:PA X [a,b] ta) (hs:starEach [a,b] X.env=(false,eval a X.env) :: starEach [b] X.env) (hs2:starEach [b] X.env=[(false,eval b X.env)]) :
   PI X (.Tuple ts q tp) (.Call (.Name "zip" p) [a,b] [] pos) (Cs X.K ta):=by
 intro pins s σ H R I h
 refine Call_ (eX I hg hm boot_zip (Gf (thn (ha pos pins s σ H _ I h) λus s1 ⟨vs,H1,I1,r1,q1⟩=>?_) hs (by rw [hs2]; rfl)))
 obtain ⟨l,l',e,⟨xs,hq1⟩,⟨ys,hq2⟩,q⟩:=q1
 subst e
 obtain ⟨u,u',rfl,ru,ru'⟩:=vals2 r1
 cases ru
 cases ru'
 obtain ⟨its1,rv1,pl1,hz1⟩:=I1.list hq1
 obtain ⟨its2,rv2,pl2,hz2⟩:=I1.list hq2
 refine call_zip_2 pl1.isList pl2.isList λh' g1 g2 g3 g4 g5 g6 g7=>?_
 refine wpAny_pyIter_zip (s:={ s1 with heap:=h' }) g1 ?_
 have I2:Inv X pins σ H1 { s1 with heap:=h' }:=I1.kept (t':=s1.toks) g7
 have nn:∀ j,H1 (s1.heap.objs.size + j)=none:=λj=>I1.hok.fresh (by omega)
 refine ⟨false,s1.heap.objs.size + 4,[s1.heap.objs.size + 4,s1.heap.objs.size + 2,s1.heap.objs.size + 3,s1.heap.objs.size,s1.heap.objs.size + 1],_,_,H1,rfl,I2,.inl hc,xu l l' (s1.heap.objs.size + 4) (s1.heap.objs.size + 2) (s1.heap.objs.size + 3) s1.heap.objs.size (s1.heap.objs.size + 1) (by simp) (GG (J9 _)),⟨g1,g2,⟨_,_,g3⟩,g4,g5⟩,λc hb=>?_,q⟩
 have hb':∃ j,c=s1.heap.objs.size + j:=by
   simp only [Fv,HD,or_false] at hb
   rcases hb with h | h | h | h | h
   · exact ⟨_,h⟩
   · exact ⟨_,h⟩
   · exact ⟨_,h⟩
   · exact ⟨0,h⟩
   · exact ⟨_,h⟩
 obtain ⟨j,rfl⟩:=hb'
 exact I1.lX (Nat.le_add_right _ _) (nn j)
end
section
variable {X:Cx} {tg:Expr}
theorem xQ:bootBuiltins "reversed" = some (.type "reversed"):=by decide +kernel
end
theorem wa:∀ (names:List (Str × NameKind)) (n:Nat) (acc:List (Str × Addr)) (x:Str) (c:Addr),(cellsFrom n names acc).lookup x=some c->n<=c\/acc.lookup x=some c
 | [],_,_,_,_,h=>.inr h
 | (y,k) :: r,n,acc,x,c,h=>by
   unfold cellsFrom at h
   split at h
   · rcases wa r (n + 1) _ x c h with q | q
     · exact .inl (by omega)
     · rw [F9] at q
       split at q
       · cases q; exact .inl (Fc _)
       · exact .inr q
   · exact wa r n acc x c h
theorem lF:∀ (names:List (Str × NameKind)) (n:Nat) (acc:List (Str × Addr)) (x:Str),(x,GS) ∉ names->(cellsFrom n names acc).lookup x=acc.lookup x
 | [],_,_,_,_=>rfl
 | (y,k) :: r,n,acc,x,h=>by
   have h1:(x,GS) ∉ r:=λz=>h (Fh _ z)
   unfold cellsFrom
   split
   · rename_i hk
     rw [lF r _ _ x h1,F9]
     have:(x == y)=false:=by
       rw [beq_eq_false_iff_ne]
       rintro rfl
       exact h (by rw [eq_of_beq hk]; exact Fi)
     rw [this]
   · exact lF r n acc x h1
theorem m8:∀ (names:List (Str × NameKind)) (n:Nat) (acc:List (Str × Addr)) (x:Str),(x,GS) ∈ names->∃ c,(cellsFrom n names acc).lookup x=some c/\n<=c
 | (y,k) :: r,n,acc,x,h=>by
   unfold cellsFrom
   by_cases hr:(x,GS) ∈ r
   · split
     · obtain ⟨c,e,l⟩:=m8 r (n + 1) ((y,n) :: acc) x hr
       exact ⟨c,e,by omega⟩
     · exact m8 r n acc x hr
   · rcases Fv.mp h with q | q
     · cases q
       rw [if_pos (by rfl),lF r _ _ _ hr]
       exact ⟨n,by simp [F9],Fc _⟩
     · exact absurd q hr
theorem rg:∀ (names:List (Str × NameKind)) (n:Nat) (acc:List (Str × Addr)),(∀ x c,acc.lookup x=some c->c < n)->(∀ x y c,acc.lookup x=some c->acc.lookup y=some c->x=y) ->
   ∀ x y c,(cellsFrom n names acc).lookup x=some c->(cellsFrom n names acc).lookup y=some c->x=y
 | [],_,_,_,h=>h
 | (z,k) :: r,n,acc,hl,h=>by
   unfold cellsFrom
   split
   · refine rg r (n + 1) _ (λx c e=>?_) (λx y c e1 e2=>?_)
     · rw [F9] at e
       split at e
       · cases e; exact Jg _
       · exact IV (hl x c e)
     · rw [F9] at e1 e2
       split at e1
       · rename_i q1
         cases e1
         split at e2
         · rename_i q2
           exact (eq_of_beq q1).trans (eq_of_beq q2).symm
         · exact absurd (hl y _ e2) (F4 _)
       · split at e2
         · cases e2
           exact absurd (hl x _ e1) (F4 _)
         · exact h x y c e1 e2
   · exact rg r n acc hl h
theorem om:∀ (names:List (Str × NameKind)) (h:Heap) (acc:List (Str × Addr)),(∀ x c,acc.lookup x=some c->∃ v,h.IsCell c v)->∀ x c,(cellsFrom h.objs.size names acc).lookup x=some c->∃ v,(pushCells h names).IsCell c v
 | [],_,_,ha,x,c,e=>ha x c e
 | (z,k) :: r,h,acc,ha,x,c,e=>by
   unfold cellsFrom at e
   unfold pushCells
   split at e
   · rename_i hk
     rw [if_pos hk]
     refine om r _ ((z,h.objs.size) :: acc) (λy d q=>?_) x c (by rw [Hb]; exact e)
     rw [F9] at q
     split at q
     · cases q
       exact ⟨none,_,FA _ rfl,rfl⟩
     · obtain ⟨v,o,ho,hd⟩:=ha y d q
       exact ⟨v,o,Fg _ ho,hd⟩
   · rename_i hk
     rw [if_neg hk]
     exact om r h acc ha x c e
noncomputable def cN (env:Im):List (Str × NameKind)->List (Str × Addr)->List (Str × Addr)
 | [],acc=>acc
 | (n,k) :: r,acc=>if k == .free then (match env.cells.lookup n with | some c=>cN env r ((n,c) :: acc) | none=>cN env r acc) else cN env r acc
theorem kF (env:Im):∀ (names:List (Str × NameKind)) (acc:List (Str × Addr)),(∀ x ∈ names,x.2=.free->∃ c,env.cells.lookup x.1=some c) ->
   (forIn (m:=Sem) names acc λx cs=>do
     let (name,kind):=x
     if kind == .free then do
       let c <- cellOf env name
       pure (HE ((name,c) :: cs))
     else pure (HE cs))=pure (cN env names acc)
 | [],acc,_=>rfl
 | (n,k) :: r,acc,h=>by
   rw [List.forIn_cons]
   unfold cN
   by_cases hk:(k == .free)=true
   · obtain ⟨c,hc⟩:=h (n,k) Fi (eq_of_beq hk)
     simp only [hk,if_true,cellOf,hc,pure_bind]
     exact kF env r _ λx hx=>h x (Fh _ hx)
   · simp only [hk,Ha,if_false,pure_bind]
     exact kF env r _ λx hx=>h x (Fh _ hx)
theorem tS {env:Im} {scope:Scope} (h:∀ x ∈ scope.names,x.2=.free->∃ c,env.cells.lookup x.1=some c):closureFor scope env=pure (cN env scope.names []):=by
 unfold closureFor
 have:=kF env scope.names [] h
 simp only [bind_pure]
 exact this
theorem e8 (env:Im):∀ (names:List (Str × NameKind)) (acc:List (Str × Addr)) (x:Str) (c:Addr),(∀ y d,acc.lookup y=some d->env.cells.lookup y=some d)->(cN env names acc).lookup x=some c->env.cells.lookup x=some c
 | [],_,x,c,ha,h=>ha x c h
 | (n,k) :: r,acc,x,c,ha,h=>by
   unfold cN at h
   split at h
   · split at h
     · rename_i c' hc
       refine e8 env r _ x c (λy d q=>?_) h
       rw [F9] at q
       split at q
       · rename_i qq
         cases q
         rw [eq_of_beq qq]; exact hc
       · exact ha y d q
     · exact e8 env r acc x c ha h
   · exact e8 env r acc x c ha h
theorem cZ (env:Im):∀ (names:List (Str × NameKind)) (acc:List (Str × Addr)) (x:Str) (c:Addr),(∀ y d,acc.lookup y=some d->env.cells.lookup y=some d)->env.cells.lookup x=some c->((x,GC) ∈ names\/acc.lookup x=some c)->(cN env names acc).lookup x=some c
 | [],_,x,c,_,_,h=>h.elim (λz=>absurd z (by simp)) id
 | (n,k) :: r,acc,x,c,ha,hc,h=>by
   unfold cN
   split
   · split
     · rename_i c' hc'
       refine cZ env r _ x c (λy d q=>?_) hc ?_
       · rw [F9] at q
         split at q
         · rename_i qq
           cases q
           rw [eq_of_beq qq]; exact hc'
         · exact ha y d q
       · by_cases q:x=n
         · subst q
           rw [hc] at hc'; cases hc'
           exact .inr (by simp [F9])
         · rcases h with h | h
           · rcases Fv.mp h with z | z
             · cases z; exact absurd rfl q
             · exact .inl z
           · refine .inr ?_
             rw [F9,beq_eq_false_iff_ne.mpr q]
             exact h
     · rename_i hc'
       refine cZ env r acc x c ha hc ?_
       rcases h with h | h
       · rcases Fv.mp h with z | z
         · cases z; rw [hc] at hc'; cases hc'
         · exact .inl z
       · exact .inr h
   · rename_i hk
     refine cZ env r acc x c ha hc ?_
     rcases h with h | h
     · rcases Fv.mp h with z | z
       · cases z; exact absurd rfl hk
       · exact .inl z
     · exact .inr h
theorem mD {M:Model} {A:Around} {E:Value->Shared->Prop} {s:Shared} {scope:Scope} {cl:List (Str × Addr)} {env:Im} {Q:Im->Shared->Prop}
   (h:Q (newEnv scope s.heap.objs.size env.globals (cellsFrom (s.heap.objs.size + 1) scope.names cl) env.qual none .none (some env) builtinsNs) { s with heap:=pushCells (s.heap.push { cls:=.type "dict",data:=.dict #[] }) scope.names }) :
   wpAny M A (newFunctionEnv scope env.globals cl [] env.qual none .none (some env)) Q E s:=by
 simp only [newFunctionEnv,Option.isSome_some,if_true]
 refine wpAny_bind (wpAny_alloc ?_)
 refine wpAny_bind (wpAny_layCells _ (λname kind cells=>by cases hkc:kind == GS <;> simp [hkc]) _ _ _ _ ?_)
 rw [show ({ s with heap:=s.heap.push { cls:=.type "dict",data:=.dict #[] } }:Shared).heap.objs.size=s.heap.objs.size + 1 from Hb ..]
 exact wpAny_bind (wpAny_pure (wpAny_pure h))
noncomputable def aG (X:Cx) (s:Shared) (H:Hp) (scope:Scope) (N:List Str) (fp:List Addr):Cx:=
 { prog:=X.prog,w:=X.w,K:=X.K,mg:=X.mg,base:=X.base,A:=X.A,N:=N,s₀:=s,H₀:=H
   env:=compEnvC scope (cellsFrom (s.heap.objs.size + 1 + 1) scope.names (cN X.env scope.names [])) (s.heap.objs.size + 1) X.env
   outer:=X.stack,stack:=X.stack,ex:=fp,fn:=λx=>decide ((x,GS) ∈ scope.names),calm:=X.calm,pn:=[],xe:=λ_ _=>False }
noncomputable def fq (σ:L2.St) (caps:List (Option Nat)):L2.St:=caps.map λo=>o.bind λi=>(σ[i]?).join
structure dj (X:Cx) (scope:Scope) (N:List Str) (caps:List (Option Nat)):Prop where
 kind:scope.kind=.function
 loc:∀ x ∈ scope.names,x.2=.local->scope.names.lookup x.1=some .local
 fre:∀ x ∈ scope.names,x.2=.free->X.env.kindOf x.1=some .cell
 one:∀ x,(x,GC) ∈ scope.names->(x,GS) ∉ scope.names
 noboth:∀ x,(x,GC) ∈ scope.names->(x,NameKind.local) ∉ scope.names
 len:N.length=caps.length + 1
 cap:∀ (j i:Nat),caps[j]?=some (some i)->∃ x,N[j]?=some x/\X.N[i]?=some x/\(x,GC) ∈ scope.names
 acc:∃ z,N[caps.length]?=some z/\¬ Vis (relabel scope X.env) z
section
variable {X:Cx} {pins:List (Addr × Obj)} {σ:L2.St} {H:Hp} {s:Shared} {scope:Scope} {N:List Str} {caps:List (Option Nat)} {fp:List Addr}
theorem eP {env:Im} {x:Str} {names:List (Str × NameKind)} (h:∀ y,(y,GC) ∈ names->env.kindOf y=some .cell) (hk:env.scope.kind=.function) {k:NameKind}
   (e:(names.map λ(n,k)=>if (k == GC && env.scope.kind == .function && env.kindOf n == some .cell) then (n,GS) else (n,k)).lookup x=some k) :
   (x,k) ∈ names\/((x,GC) ∈ names/\k=.cell):=by
 induction names with
 | nil=>cases e
 | cons p r ih=>
   obtain ⟨n,q⟩:=p
   rw [FJ] at e
   have hr:∀ y,(y,GC) ∈ r->env.kindOf y=some .cell:=λy hy=>h y (Fh _ hy)
   have sub:((x,k) ∈ r\/((x,GC) ∈ r/\k=.cell))->(x,k) ∈ (n,q) :: r\/((x,GC) ∈ (n,q) :: r/\k=.cell):=λz=>
     z.elim (λy=>.inl (Fh _ y)) λy=>.inr ⟨Fh _ y.1,y.2⟩
   dsimp only at e
   split at e
   · rename_i c
     rw [F9] at e
     split at e
     · rename_i qq
       cases e
       rw [F2,F2] at c
       rw [eq_of_beq qq,eq_of_beq c.1.1]
       exact .inr ⟨Fi,rfl⟩
     · exact sub (ih hr e)
   · rename_i c
     rw [F9] at e
     split at e
     · rename_i qq
       cases e
       rw [eq_of_beq qq]
       exact .inl Fi
     · exact sub (ih hr e)
theorem gB (I:Inv X pins σ H s) (c:dj X scope N caps):∀ x ∈ scope.names,x.2=.free->∃ d,X.env.cells.lookup x.1=some d:=λx hx hf=>I.ok.has x.1 (.inl (c.fre x hx hf))
theorem qC (I:Inv X pins σ H s) (hf:∀ b ∈ fp,lW X pins H b) (ho:∀ b ∈ fp,∃ o,s.heap.get? b=some o) (c:dj X scope N caps) :
   Inv (aG X s H scope N fp) [] (fq σ caps++[some (.ref s.heap.objs.size)]) (upd H s.heap.objs.size (.lst []))
     { s with heap:=pushCells ((s.heap.push { cls:=.type "list",data:=.seq ([]:List Value).toArray }).push { cls:=.type "dict",data:=.dict #[] }) scope.names }:=by
 have hcl:∀ x d,(cN X.env scope.names []).lookup x=some d->X.env.cells.lookup x=some d:=λx d=>e8 X.env scope.names [] x d (λy d z=>by simp at z)
 have kp:∀ b o,s.heap.get? b=some o->(pushCells ((s.heap.push { cls:=.type "list",data:=.seq ([]:List Value).toArray }).push { cls:=.type "dict",data:=.dict #[] }) scope.names).get? b=some o:=λb o e=>
   pushCells_keeps _ _ b o (Fg _ (Fg _ e))
 have sz2:((s.heap.push { cls:=.type "list",data:=.seq ([]:List Value).toArray }).push { cls:=.type "dict",data:=.dict #[] }).objs.size=s.heap.objs.size + 1 + 1:=by rw [Hb,Hb]
 have oldc:∀ x d,X.env.cells.lookup x=some d->d < s.heap.objs.size:=λx d e=>by
   obtain ⟨v,o,q,_⟩:=I.cell x d e
   exact Fu q
 have cel:∀ x d,(aG X s H scope N fp).env.cells.lookup x=some d->s.heap.objs.size + 1 + 1<=d\/X.env.cells.lookup x=some d:=λx d e=>by
   rcases wa _ _ _ x d e with q | q
   · exact .inl q
   · exact .inr (hcl x d q)
 have ok:(aG X s H scope N fp).Ok:=by
   refine ⟨I.ok.mod,c.kind,I.ok.glob,I.ok.blt,Hh _,?_,?_,?_,I.ok.hd,I.ok.frames,.inl rfl,?_,I.bs,Fz I.ok.bsz I.sz,?_,?_,I.stack,I.tK⟩
   · exact rg _ _ _ (λx d e=>Fy (oldc x d (hcl x d e)) (by omega)) λx y d e1 e2=>I.ok.inj x y d (hcl x d e1) (hcl y d e2)
   · intro x hx
     have hfk:∀ y,(y,GC) ∈ scope.names->X.env.kindOf y=some .cell:=λy hy=>c.fre _ hy rfl
     have fre:(x,GC) ∈ scope.names->∃ d,(aG X s H scope N fp).env.cells.lookup x=some d:=λhm=>by
       obtain ⟨d,hd⟩:=gB I c _ hm rfl
       exact ⟨d,by
         show (cellsFrom _ scope.names _).lookup x=_
         rw [lF _ _ _ x (c.one x hm)]
         exact cZ X.env scope.names [] x d (λy e z=>by simp at z) hd (.inl hm)⟩
     have own:(x,GS) ∈ scope.names->∃ d,(aG X s H scope N fp).env.cells.lookup x=some d:=λhm=>by
       obtain ⟨d,e,_⟩:=m8 scope.names (s.heap.objs.size + 1 + 1) (cN X.env scope.names []) x hm
       exact ⟨d,e⟩
     rcases hx with hx | hx
     · rcases eP hfk I.ok.kind (show (scope.names.map _).lookup x=some .cell from hx) with q | q
       · exact own q
       · exact fre q.1
     · rcases eP hfk I.ok.kind (show (scope.names.map _).lookup x=some .free from hx) with q | q
       · exact fre q
       · exact fre q.1
   · intro x d hfn e
     have hm:(x,GS) ∈ scope.names:=of_decide_eq_true hfn
     obtain ⟨d',e',l⟩:=m8 scope.names (s.heap.objs.size + 1 + 1) (cN X.env scope.names []) x hm
     have e2:(cellsFrom (s.heap.objs.size + 1 + 1) scope.names (cN X.env scope.names [])).lookup x=some d:=e
     rw [e'] at e2; cases e2
     exact Fz (Fz (Hh _) (Hh _)) l
   · intro b hb
     obtain ⟨o,q⟩:=ho b hb
     have bl:=Fu q
     refine ⟨λz=>?_,λx d e z=>?_⟩
     · have z':b=s.heap.objs.size + 1:=z
       rw [z'] at bl
       exact absurd bl (Nat.not_lt.mpr (Hh _))
     · subst z
       rcases cel x d e with q | q
       · exact absurd (Fy bl (Fz (Fz (Hh _) (Hh _)) q)) (F4 _)
       · exact (hf d hb).2.2.2.2.1 x d q rfl
   · intro b o e hb
     rcases (hf b hb).2.2.2.1 with q | q
     · exact I.ok.noex b o e q
     · have:=Fy (Fu e) I.ok.bsz
       exact absurd (Fy this q) (F4 _)
   · intro b hb hm
     rcases Fv.mp (I.qY b hm) with q | q
     · exact (hf b hb).2.1 q
     · exact (hf b hb).2.2.1 q
 have hD:(pushCells ((s.heap.push { cls:=.type "list",data:=.seq ([]:List Value).toArray }).push { cls:=.type "dict",data:=.dict #[] }) scope.names).get? s.heap.objs.size=some { cls:=.type "list",data:=.seq ([]:List Value).toArray }:=
   pushCells_keeps _ _ _ _ (Fg _ (FA _ rfl))
 have fr:∀ a,s.heap.objs.size<=a->a ≠ s.heap.objs.size->(upd H s.heap.objs.size (.lst [])) a=none:=λa h1 h2=>by rw [av h2]; exact I.hok.fresh h1
 refine ⟨ok,rfl,I.bare,Un.laid kp (Fc _) (I.hok.fresh (Fc _)),⟨λ_=>none,?_,λi x v e1 e2 e3=>?_⟩,λx d e=>?_,?_,λx d e=>?_,λp hp=>absurd (show p ∈ ([]:List (Addr × Obj)) from hp) (by simp),?_,?_⟩
 · have:=Heap.Ns.new (s.heap.push { cls:=.type "list",data:=.seq ([]:List Value).toArray }) (.type "dict")
   rw [Hb] at this
   exact this.keeps (pushCells_keeps _ _)
 · by_cases hi:i < caps.length
   · rw [FG (by unfold fq; rw [E9]; exact hi)] at e2
     unfold fq at e2
     rw [FL] at e2
     cases hc:caps[i]? with
     | none=>rw [hc] at e2; cases e2
     | some o=>
       rw [hc] at e2
       cases o with
       | none=>cases e2
       | some j=>
         have e2':(σ[j]?).join=some v:=FX e2
         have e4:σ[j]?=some (some v):=by
           cases q:σ[j]? with
           | none=>rw [q] at e2'; cases e2'
           | some y=>rw [q] at e2'; exact congrArg some e2'
         obtain ⟨x',g1,g2,g3⟩:=c.cap i j hc
         rw [show (aG X s H scope N fp).N=N from rfl,g1] at e1
         cases e1
         have hkc:=c.fre _ g3 rfl
         obtain ⟨m,_,hl⟩:=I.loc
         obtain ⟨u,ru,look⟩:=hl j x v g2 e4 (.inr (.inl hkc))
         refine ⟨u,ru,?_⟩
         rcases look with ⟨k,_⟩ | ⟨k,d,hd,hcell⟩
         · rw [hkc] at k; cases k
         · have e5:(aG X s H scope N fp).env.cells.lookup x=some d:=by
             show (cellsFrom _ scope.names _).lookup x=_
             rw [lF _ _ _ x (c.one x g3)]
             exact cZ X.env scope.names [] x d (λy e z=>by simp at z) hd (.inl g3)
           have hcell':Heap.IsCell (pushCells ((s.heap.push { cls:=.type "list",data:=.seq ([]:List Value).toArray }).push { cls:=.type "dict",data:=.dict #[] }) scope.names) d (some u):=by
             obtain ⟨o,q1,q2⟩:=hcell
             exact ⟨o,kp _ _ q1,q2⟩
           refine .inr ⟨?_,d,e5,hcell'⟩
           rcases e3 with e3 | e3 | e3
           · exfalso
             rcases eP (λy hy=>c.fre _ hy rfl) I.ok.kind (show (scope.names.map _).lookup x=some .local from e3) with q | q
             · have q1:=c.loc _ q rfl
               exact c.noboth x g3 q
             · cases q.2
           · exact .inl e3
           · exact .inr e3
   · exfalso
     obtain ⟨z,z1,z2⟩:=c.acc
     have hl:i < N.length:=(Fn.mp e1).1
     have:i=caps.length:=by have:=c.len; omega
     subst this
     rw [show (aG X s H scope N fp).N=N from rfl,z1] at e1
     cases e1
     exact z2 e3
 · rw [show (aG X s H scope N fp).env.cells=cellsFrom (s.heap.objs.size + 1 + 1) scope.names (cN X.env scope.names []) from rfl,<- sz2] at e
   refine om scope.names _ _ (λy d' q=>?_) x d e
   obtain ⟨v,o,q1,q2⟩:=I.cell y d' (hcl y d' q)
   exact ⟨v,o,Fg _ (Fg _ q1),q2⟩
 · exact fr _ (Hh _) (J9 _)
 · rcases cel x d e with q | q
   · exact fr d (by omega) (by intro z; omega)
   · rw [av (FT (oldc x d q))]; exact I.freeC x d q
 · exact I.hok.laid kp (Fc _) ⟨FR _,[],0,.nil,hD⟩
 · rw [Fw]
   unfold fq
   rw [E9,show (aG X s H scope N fp).N=N from rfl,c.len]
   rfl
end
noncomputable def PTs (X:Cx) (ifs:List Expr) (t:TT):Prop:=
 ∀ (pins:List (Addr × Obj)) (s:Shared) (σ:L2.St) (H:Hp) (Q:Bool->Hp->Prop),Inv X pins σ H s->t σ H Q ->
   wpAny (model X.prog X.w) X.A (forIn ifs true λc r=>if r=true then do let ok <- isTrue c X.env (eval c X.env); pure (HE ok) else pure (HE r)) (TP X pins σ Q) X.xe s
section
variable {prog:Program} {w:World} {A:Around} {R:Result->Shared->Prop} {s:Shared}
theorem k9 {elt target iter:Expr} {ifs:List Expr} {scope:Scope} {pos:Pos} {it acc:Value} {env:Im} (Iv:Nat->Shared->Prop)
   (step:∀ n s,Iv n s->wpAny (model prog w) A (pyNext it) (λr s₁=>match r with
     | none=>R (.ok .next) s₁
     | some v=>wpAny (model prog w) A (letOwnedTupleGo target it v) (λ_ s₀=>wpAny (model prog w) A (assign target env v) (λ_ s₂=>
         wpAny (model prog w) A (forIn ifs true λc r=>if r=true then do let ok <- isTrue c env (eval c env); pure (HE ok) else pure (HE r)) (λok s₃=>
           if ok=true then wpAny (model prog w) A (eval elt env) (λx s₄=>
             wpAny (model prog w) A (call (.builtin "list.append") [acc,x]) (λ_ s₅=>∃ m,m < n/\Iv m s₅) (λ_ _=>False) s₄) (λ_ _=>False) s₃
           else ∃ m,m < n/\Iv m s₃) (λ_ _=>False) s₂) (λ_ _=>False) s₀) (λ_ _=>False) s₁) (λ_ _=>False) s)
   (n:Nat) (h:Iv n s):codeAny (model prog w) A (.compLoop (.ListComp elt [⟨target,iter,ifs,0⟩] scope pos) 0 it acc env) R s:=by
 have no:∀ {α:Type} {t:Sem α} {Q:α->Shared->Prop} {s:Shared} {E:Value->Shared->Prop},wpAny (model prog w) A t Q (λ_ _=>False) s->wpAny (model prog w) A t Q E s:=λh=>wpAny_mono h (λ_ _ q=>q) λ_ _ q=>q.elim
 refine codeAny_loop rfl Iv (λn s hI=>?_) n h
 show wpAny _ A (Sem.onRaise (compTurn (.ListComp elt [⟨target,iter,ifs,0⟩] scope pos) 0 it acc env) (λx=>do noteFrame x env; theTreesLotGoes x)) _ _ s
 refine wpAny_noted ?_
 rw [compTurn_list]
 refine wpAny_bind (wpAny_standAt (wpAny_bind (thn (no (step n s hI)) λr s₁ h₁=>?_)))
 cases r with
 | none=>exact wpAny_pure h₁
 | some v=>
   refine wpAny_bind (thn (no h₁) λ_ s₀ h₀=>wpAny_bind (thn (no h₀) λ_ s₂ h₂=>wpAny_bind (thn (no h₂) λok s₃ h₃=>?_)))
   cases ok with
   | false=>exact wpAny_pure ⟨rfl,h₃⟩
   | true=>exact wpAny_bind (wpAny_bind (thn (no h₃) λx s₄ h₄=>wpAny_bind (thn (no h₄) λ_ s₅ h₅=>wpAny_pure (wpAny_pure ⟨rfl,h₅⟩))))
end
theorem sR {X:Cx} {kd:Bool} {pins:List (Addr × Obj)} {σ:L2.St} {H:Hp} {s:Shared} {scope:Scope} {N:List Str} {fp:List Addr} (h:Ck kd X) (I:Inv X pins σ H s):Ck kd (aG X s H scope N fp):=by
 rcases h with h | ⟨hk,q,o,u,vs,e1,e2,e3,e4⟩
 · exact .inl h
 · exact .inr ⟨hk,q,o,u,vs,e1,I.base.frzs q o u e2,e3,e4⟩
noncomputable def eo (In:TG->TT->TE->Prop) (caps:List (Option Nat)) (wi:TI):TE:=λσ H Q=>wi σ H λJ H1=>∃ g tt te,In g tt te/\∀ D,H1 D=none ->
 ∃ Z:Nat->Nat->L2.St->Hp->Prop,(∃ m,Z 0 m (fq σ caps++[some (.ref D)]) (upd H1 D (.lst [])))/\∀ i m σ' H',Z i m σ' H' ->
   (J.stop i H'/\Q (.ref D) H')\/(J.go i H'/\∀ x H2,J.yld i H' x H2->g x σ' H2 λσ2 H3=>tt σ2 H3 λb H4=>
     if b=true then te σ2 H4 λv H5=>∃ vs m',H5 D=some (.lst vs)/\vs.length < sizeLine/\m' < m/\Z (i + 1) m' σ2 (upd H5 D (.lst (vs++[v]))) else ∃ m',m' < m/\Z (i + 1) m' σ2 H4)
theorem cy {X:Cx} {elt tg iter:Expr} {ifs:List Expr} {scope:Scope} {N:List Str} {caps:List (Option Nat)} {pos:Pos} {wi:TI} {In:TG->TT->TE->Prop} (c:dj X scope N caps) (hi:PI X tg iter wi)
   (hs:∀ x,foldedSetIterable iter X.env x=pure x)
   (hin:∀ g tt te,In g tt te->∀ s H fp,PG (aG X s H scope N fp) tg g/\PTs (aG X s H scope N fp) ifs tt/\PE (aG X s H scope N fp) elt te) :
   PE X (.ListComp elt [⟨tg,iter,ifs,0⟩] scope pos) (eo In caps wi):=by
 intro pins s σ H Q I h
 rw [eval_ListComp]
 have hcl:=tS (gB I c)
 refine wpAny_comprehension_free (use:=none) (g:=⟨tg,iter,ifs,0⟩) (gs:=[]) rfl hs hcl c.kind c.loc ?_
 show wpAny _ _ (eval iter X.env) _ _ s
 refine thn (hi pins s σ H _ I h) λv s1 h1=>thn h1 λitv s2 h2=>?_
 obtain ⟨kd,it,fp,tn,J,H2,e,I2,hck,T,st2,f2,g,tt,te,hI,q⟩:=h2
 have hc:=sR (scope:=scope) (N:=N) (fp:=fp) hck I2
 subst e
 obtain ⟨Z,⟨m0,z0⟩,turn⟩:=q s2.heap.objs.size (I2.hok.fresh (Fc _))
 have ho:∀ b ∈ fp,∃ o,s2.heap.get? b=some o:=λb hb=>let ⟨o,e,_⟩:=T.obj _ _ st2 b hb; ⟨o,e⟩
 have I4:=qC (scope:=scope) (N:=N) (caps:=caps) I2 f2 ho c
 obtain ⟨hg,ht,he⟩:=hin g tt te hI s2 H2 fp
 refine wpAny_newObj_type (mD ?_) (by show 0<=sizeLine; decide)
 have hC:(s2.heap.push { cls:=.type "list",dict:=none,data:=.seq ([]:List Value).toArray }).objs.size=s2.heap.objs.size + 1:=Hb ..
 dsimp only
 rw [hC]
 have kp:∀ b o,s2.heap.get? b=some o->(pushCells ((s2.heap.push { cls:=.type "list",data:=.seq ([]:List Value).toArray }).push { cls:=.type "dict",data:=.dict #[] }) scope.names).get? b=some o:=λb o e=>
   pushCells_keeps _ _ b o (Fg _ (Fg _ e))
 have st4:tn 0 (pushCells ((s2.heap.push { cls:=.type "list",data:=.seq ([]:List Value).toArray }).push { cls:=.type "dict",data:=.dict #[] }) scope.names):=T.keep _ _ _ st2 λb _ o e=>kp b o e
 have stat:∀ {H':Hp},(∀ b ∈ fp,H' b=none)->∀ b ∈ fp,lW (aG X s2 H2 scope N fp) [] H' b:=λhn b hb=>
   ⟨hn b hb,(I4.ok.exf b hb).1,I4.ok.exfs b hb,.inl hb,(I4.ok.exf b hb).2,λp hp=>absurd (show p ∈ ([]:List (Addr × Obj)) from hp) (by simp)⟩
 have fr4:∀ b ∈ fp,(upd H2 s2.heap.objs.size (.lst [])) b=none:=λb hb=>by
   obtain ⟨o,e⟩:=ho b hb
   rw [av (FT (Fu e))]; exact (f2 b hb).1
 have loop:codeAny (model X.prog X.w) X.A (.compLoop (.ListComp elt [⟨tg,iter,ifs,0⟩] scope pos) 0 (.ref it) (.ref s2.heap.objs.size) (aG X s2 H2 scope N fp).env)
     (compPost (model X.prog X.w) X.A X.xe none (EP X pins σ Q) (.ref s2.heap.objs.size) (s2.heap.objs.size + 1))
     { s2 with heap:=pushCells ((s2.heap.push { cls:=.type "list",data:=.seq ([]:List Value).toArray }).push { cls:=.type "dict",data:=.dict #[] }) scope.names }:=by
   refine k9 (λn s'=>∃ i σ' H',Inv (aG X s2 H2 scope N fp) [] σ' H' s'/\tn i s'.heap/\(∀ b ∈ fp,H' b=none)/\Z i n σ' H') ?_ m0 ⟨0,_,_,I4,st4,fr4,z0⟩
   rintro n s3 ⟨i,σ3,H3,I3,st3,fr3,w3⟩
   rcases turn i n σ3 H3 w3 with ⟨stop,qn⟩ | ⟨go,step⟩
   · refine thn (T.done (aG X s2 H2 scope N fp) rfl rfl rfl hc i [] s3 σ3 H3 _ I3 (stat fr3) st3 stop) λr s5 ⟨hr,I5⟩=>?_
     subst hr
     obtain ⟨m,hn,_⟩:=id I5.loc
     refine ⟨m,hn,λh' sb=>⟨.ref s2.heap.objs.size,H3,?_,rfl,qn⟩⟩
     have lt:∀ b o,s2.heap.get? b=some o->b ≠ s2.heap.objs.size + 1:=λb o e=>FT (IV (Fu e))
     have u:=I5.base
     have u':Un (frs X.stack) fp H2 H3 s2.heap h':=⟨λb o e n1 n2 n3=>(sb.2 b (lt b o e)).trans (u.keep b o e n1 n2 n3),λb o e n1 n2 n3=>let ⟨sl,z⟩:=u.slot b o e n1 n2 n3; ⟨sl,(sb.2 b (lt b o e)).trans z⟩,
       u.free,λb o e n1=>let ⟨o',z⟩:=u.there b o e n1; ⟨o',(sb.2 b (lt b o e)).trans z⟩,u.tups,u.frzs,u.tbls⟩
     have fC:H3 (s2.heap.objs.size + 1)=none:=I5.free
     refine I2.AG (s':={ s5 with heap:=h' }) I5.os u' (λb o e=>(I5.hok b o e).kX (λd v hd z=>(sb.2 d ?_).trans z) (λ_ z=>z) λ_ _ z=>z) I5.bare λb hb=>⟨(f2 b hb).2.2.2.1,(f2 b hb).2.1,(f2 b hb).2.2.2.2.1,(f2 b hb).2.2.2.2.2⟩
     rcases hd with hd | hd
     · rw [hd]; exact aR e fC
     · exact aR hd fC
   · refine thn (T.item (aG X s2 H2 scope N fp) rfl rfl rfl hc i [] s3 σ3 H3 _ I3 (stat fr3) st3 go) λr s4 ⟨u,hr,h4⟩=>?_
     subst hr
     refine thn h4 λ_ s5 ⟨x,H5,I5,r5,y5,st5,fr5⟩=>?_
     have I5':=I5.pinned (stat fr5) (T.obj _ _ st5)
     refine thn (hg _ s5 σ3 H5 x u _ I5' r5 (step x H5 y5)) λ_ s6 ⟨σ6,H6,I6,q6⟩=>?_
     have again:∀ {s7:Shared} {σ7:L2.St} {H7:Hp} {m':Nat},Inv (aG X s2 H2 scope N fp) ([]++gE fp s5.heap) σ7 H7 s7->m' < n->Z (i + 1) m' σ7 H7 ->
         ∃ m,m < n/\∃ i σ' H',Inv (aG X s2 H2 scope N fp) [] σ' H' s7/\tn i s7.heap/\(∀ b ∈ fp,H' b=none)/\Z i m σ' H':=λ{s7 σ7 H7 m'} I7 hm z7=>by
       refine ⟨m',hm,i + 1,σ7,H7,I7.dY,T.keep _ _ _ st5 λb hb o e=>(I7.pin (b,o) (Fl _ (Fl _ (b6 hb e)))).1,λb hb=>?_,z7⟩
       obtain ⟨o,e,d⟩:=T.obj _ _ st5 b hb
       exact (I7.pin (b,o) (Fl _ (Fl _ (b6 hb e)))).2.1
     refine thn (ht _ s6 σ6 H6 _ I6 q6) λok s7 ⟨H7,I7,q7⟩=>?_
     cases ok with
     | false=>
       rw [if_neg (by decide)] at q7
       obtain ⟨m',hm,z7⟩:=q7
       exact again I7 hm z7
     | true=>
       rw [if_pos rfl] at q7
       refine thn (he _ s7 σ6 H7 _ I7 q7) λv' s8 ⟨v,H8,I8,r8,vs,m',q8,l8,hm,z8⟩=>?_
       refine thn (fW (X:=aG X s2 H2 scope N fp) _ s8 σ6 H8 (.ref s2.heap.objs.size) [v] (.ref s2.heap.objs.size) [v'] (λ_ H9=>H9=upd H8 s2.heap.objs.size (.lst (vs++[v]))) I8 rfl (.cons r8 .nil) ⟨_,vs,v,rfl,rfl,q8,l8,rfl⟩) λ_ s9 ⟨_,H9,I9,_,e9⟩=>?_
       subst e9
       exact again I9 hm z8
 exact codeAny_compStart_list loop (T.self _ 0 _ _ _ st4 loop)
theorem iE {X:Cx} {gT:TG} {y:Str} {py spos:Pos} {elt tg iter:Expr} {ifs:List Expr} {scope:Scope} {N:List Str} {caps:List (Option Nat)} {pos:Pos} {wi:TI} {In:TG->TT->TE->Prop} (hT:PG X (.Name y py) gT) (c:dj X scope N caps) (hi:PI X tg iter wi)
   (hs:∀ x,foldedSetIterable iter X.env x=pure x)
   (hin:∀ g tt te,In g tt te->∀ s H fp,PG (aG X s H scope N fp) tg g/\PTs (aG X s H scope N fp) ifs tt/\PE (aG X s H scope N fp) elt te)
   (hsw:swapsWith (.ListComp elt [⟨tg,iter,ifs,0⟩] scope pos) (some (.Name y py)) spos.line X.env=pure true) :
   PS X (.Assign [.Name y py] (.ListComp elt [⟨tg,iter,ifs,0⟩] scope pos) spos) (CA (eo In caps wi) gT):=by
 intro pins s σ H D I h
 rw [exec_Assign_Name_used _ _ _ _ hsw]
 refine wpAny_bind (wpAny_standAt (wpAny_bind ?_))
 show wpAny _ _ (do let _ <- comprehension (.ListComp elt [⟨tg,iter,ifs,0⟩] scope pos) scope X.env _ (newList []) false _ (some (assign (.Name y py) X.env))) _ _ s
 refine wpAny_bind ?_
 have hcl:=tS (gB I c)
 refine wpAny_comprehension_free (use:=some (assign (.Name y py) X.env)) (Q:=λ_ s'=>wpAny (model X.prog X.w) X.A (pure ()) (λ_ s''=>wpAny (model X.prog X.w) X.A (pure Flow.next) (SP X pins D) X.xe s'') X.xe s') (g:=⟨tg,iter,ifs,0⟩) (gs:=[]) rfl hs hcl c.kind c.loc ?_
 show wpAny _ _ (eval iter X.env) _ _ s
 refine thn (hi pins s σ H _ I h) λv s1 h1=>thn h1 λitv s2 h2=>?_
 obtain ⟨kd,it,fp,tn,J,H2,e,I2,hck,T,st2,f2,g,tt,te,hI,q⟩:=h2
 have hc:=sR (scope:=scope) (N:=N) (fp:=fp) hck I2
 subst e
 obtain ⟨Z,⟨m0,z0⟩,turn⟩:=q s2.heap.objs.size (I2.hok.fresh (Fc _))
 have ho:∀ b ∈ fp,∃ o,s2.heap.get? b=some o:=λb hb=>let ⟨o,e,_⟩:=T.obj _ _ st2 b hb; ⟨o,e⟩
 have I4:=qC (scope:=scope) (N:=N) (caps:=caps) I2 f2 ho c
 obtain ⟨hg,ht,he⟩:=hin g tt te hI s2 H2 fp
 refine wpAny_newObj_type (mD ?_) (by show 0<=sizeLine; decide)
 have hC:(s2.heap.push { cls:=.type "list",dict:=none,data:=.seq ([]:List Value).toArray }).objs.size=s2.heap.objs.size + 1:=Hb ..
 dsimp only
 rw [hC]
 have kp:∀ b o,s2.heap.get? b=some o->(pushCells ((s2.heap.push { cls:=.type "list",data:=.seq ([]:List Value).toArray }).push { cls:=.type "dict",data:=.dict #[] }) scope.names).get? b=some o:=λb o e=>
   pushCells_keeps _ _ b o (Fg _ (Fg _ e))
 have st4:tn 0 (pushCells ((s2.heap.push { cls:=.type "list",data:=.seq ([]:List Value).toArray }).push { cls:=.type "dict",data:=.dict #[] }) scope.names):=T.keep _ _ _ st2 λb _ o e=>kp b o e
 have stat:∀ {H':Hp},(∀ b ∈ fp,H' b=none)->∀ b ∈ fp,lW (aG X s2 H2 scope N fp) [] H' b:=λhn b hb=>
   ⟨hn b hb,(I4.ok.exf b hb).1,I4.ok.exfs b hb,.inl hb,(I4.ok.exf b hb).2,λp hp=>absurd (show p ∈ ([]:List (Addr × Obj)) from hp) (by simp)⟩
 have fr4:∀ b ∈ fp,(upd H2 s2.heap.objs.size (.lst [])) b=none:=λb hb=>by
   obtain ⟨o,e⟩:=ho b hb
   rw [av (FT (Fu e))]; exact (f2 b hb).1
 have loop:codeAny (model X.prog X.w) X.A (.compLoop (.ListComp elt [⟨tg,iter,ifs,0⟩] scope pos) 0 (.ref it) (.ref s2.heap.objs.size) (aG X s2 H2 scope N fp).env)
     (compPost (model X.prog X.w) X.A X.xe (some (assign (.Name y py) X.env)) (λ_ s'=>wpAny (model X.prog X.w) X.A (pure ()) (λ_ s''=>wpAny (model X.prog X.w) X.A (pure Flow.next) (SP X pins D) X.xe s'') X.xe s') (.ref s2.heap.objs.size) (s2.heap.objs.size + 1))
     { s2 with heap:=pushCells ((s2.heap.push { cls:=.type "list",data:=.seq ([]:List Value).toArray }).push { cls:=.type "dict",data:=.dict #[] }) scope.names }:=by
   refine k9 (λn s'=>∃ i σ' H',Inv (aG X s2 H2 scope N fp) [] σ' H' s'/\tn i s'.heap/\(∀ b ∈ fp,H' b=none)/\Z i n σ' H') ?_ m0 ⟨0,_,_,I4,st4,fr4,z0⟩
   rintro n s3 ⟨i,σ3,H3,I3,st3,fr3,w3⟩
   rcases turn i n σ3 H3 w3 with ⟨stop,qn⟩ | ⟨go,step⟩
   · refine thn (T.done (aG X s2 H2 scope N fp) rfl rfl rfl hc i [] s3 σ3 H3 _ I3 (stat fr3) st3 stop) λr s5 ⟨hr,I5⟩=>?_
     subst hr
     obtain ⟨m,hn,_⟩:=id I5.loc
     have I6:Inv X pins σ H3 s5:=by
       have lt:∀ b o,s2.heap.get? b=some o->b ≠ s2.heap.objs.size + 1:=λb o e=>FT (IV (Fu e))
       have u:=I5.base
       have u':Un (frs X.stack) fp H2 H3 s2.heap s5.heap:=⟨λb o e n1 n2 n3=>u.keep b o e n1 n2 n3,λb o e n1 n2 n3=>u.slot b o e n1 n2 n3,u.free,λb o e n1=>u.there b o e n1,u.tups,u.frzs,u.tbls⟩
       exact I2.AG (s':=s5) I5.os u' I5.hok I5.bare λb hb=>⟨(f2 b hb).2.2.2.1,(f2 b hb).2.1,(f2 b hb).2.2.2.2.1,(f2 b hb).2.2.2.2.2⟩
     have fC:H3 (s2.heap.objs.size + 1)=none:=I5.free
     have fk:lW X pins H3 (s2.heap.objs.size + 1):=I2.lX (Hh _) fC
     obtain ⟨oC,es,ep,hoC,hdC,rC⟩:=id hn
     have hpin:=I6.pinned (fp:=[s2.heap.objs.size + 1]) (λb hb=>by rw [Ff.mp hb]; exact fk) (λb hb=>by rw [Ff.mp hb]; exact ⟨oC,hoC,λv z=>by rw [hdC] at z; cases z⟩)
     have hmem:(s2.heap.objs.size + 1,oC) ∈ gE [s2.heap.objs.size + 1] s5.heap:=b6 (List.mem_singleton_self _) hoC
     refine thn (hT _ s5 σ H3 (.ref s2.heap.objs.size) (.ref s2.heap.objs.size) _ hpin rfl qn) λ_ s6 ⟨σ6,H6,I7,q7⟩=>?_
     obtain ⟨p1,p2,p3,p4,p5⟩:=I7.pin _ (Fl _ (Fl _ hmem))
     refine ⟨m,⟨oC,es,ep,p1,hdC,rC⟩,λh' sb=>wpAny_pure (wpAny_pure ?_)⟩
     refine ⟨σ6,H6,?_,q7⟩
     exact (I7.dY).turned (t':=s6.toks) (it:=s2.heap.objs.size + 1) (λb o hb e=>(sb.2 b hb).trans e) p2 p3 fk.2.2.2.1 fk.2.2.2.2.1 fk.2.2.2.2.2
   · refine thn (T.item (aG X s2 H2 scope N fp) rfl rfl rfl hc i [] s3 σ3 H3 _ I3 (stat fr3) st3 go) λr s4 ⟨u,hr,h4⟩=>?_
     subst hr
     refine thn h4 λ_ s5 ⟨x,H5,I5,r5,y5,st5,fr5⟩=>?_
     have I5':=I5.pinned (stat fr5) (T.obj _ _ st5)
     refine thn (hg _ s5 σ3 H5 x u _ I5' r5 (step x H5 y5)) λ_ s6 ⟨σ6,H6,I6,q6⟩=>?_
     have again:∀ {s7:Shared} {σ7:L2.St} {H7:Hp} {m':Nat},Inv (aG X s2 H2 scope N fp) ([]++gE fp s5.heap) σ7 H7 s7->m' < n->Z (i + 1) m' σ7 H7 ->
         ∃ m,m < n/\∃ i σ' H',Inv (aG X s2 H2 scope N fp) [] σ' H' s7/\tn i s7.heap/\(∀ b ∈ fp,H' b=none)/\Z i m σ' H':=λ{s7 σ7 H7 m'} I7 hm z7=>by
       refine ⟨m',hm,i + 1,σ7,H7,I7.dY,T.keep _ _ _ st5 λb hb o e=>(I7.pin (b,o) (Fl _ (Fl _ (b6 hb e)))).1,λb hb=>?_,z7⟩
       obtain ⟨o,e,d⟩:=T.obj _ _ st5 b hb
       exact (I7.pin (b,o) (Fl _ (Fl _ (b6 hb e)))).2.1
     refine thn (ht _ s6 σ6 H6 _ I6 q6) λok s7 ⟨H7,I7,q7⟩=>?_
     cases ok with
     | false=>
       rw [if_neg (by decide)] at q7
       obtain ⟨m',hm,z7⟩:=q7
       exact again I7 hm z7
     | true=>
       rw [if_pos rfl] at q7
       refine thn (he _ s7 σ6 H7 _ I7 q7) λv' s8 ⟨v,H8,I8,r8,vs,m',q8,l8,hm,z8⟩=>?_
       refine thn (fW (X:=aG X s2 H2 scope N fp) _ s8 σ6 H8 (.ref s2.heap.objs.size) [v] (.ref s2.heap.objs.size) [v'] (λ_ H9=>H9=upd H8 s2.heap.objs.size (.lst (vs++[v]))) I8 rfl (.cons r8 .nil) ⟨_,vs,v,rfl,rfl,q8,l8,rfl⟩) λ_ s9 ⟨_,H9,I9,_,e9⟩=>?_
       subst e9
       exact again I9 hm z8
 exact codeAny_compStart_list loop (T.self _ 0 _ _ _ st4 loop)
end Ev
namespace Hy
open PySem PySem.Spec PyProof.Rows L2
open Ev (D Den ar)
open Classical in
noncomputable def hd (H:Hp) (M:Addr->Prop):Hp:=λb=>if M b then none else H b
theorem ao {H:Hp} {M:Addr->Prop} {b:Addr} {o:HO}:hd H M b=some o ↔ ¬ M b/\H b=some o:=by
 unfold hd
 by_cases h:M b
 · rw [if_pos h]; exact ⟨λz=>(nomatch z),λz=>absurd h z.1⟩
 · rw [if_neg h]; exact ⟨λz=>⟨h,z⟩,λz=>z.2⟩
theorem ay {H H':Hp} {M M':Addr->Prop} (e:aj H H') (m:∀ b,M' b->M b):aj (hd H M) (hd H' M'):=λb _ h=>ao.mpr ⟨λz=>(ao.mp h).1 (m b z),e b _ (ao.mp h).2⟩
theorem aI {H:Hp} {M:Addr->Prop}:aj (hd H M) H:=λ_ _ h=>(ao.mp h).2
inductive Nd where
 | d (x:D) | l (xs:List Nd) | t (xs:List Nd)
structure Ex where
 p:Fb->Hp->HO->Addr->Prop
 mono:∀ {K:Fb} {G G':Hp} {o:HO} {a:Addr},aj G G'->p K G o a->p K G' o a
 ext:∀ {K:Fb} {G:Hp} {o:HO} {a:Addr},p K G o a->(∃ φ,o=.ext φ)\/(∃ ob φ,o=.frz ob (.ext φ))\/∃ kvs,o=.dK kvs\/∃ ob,o=.frz ob (.dK kvs)
inductive Sl where
 | un | d (x:D) | o (xs:List D) | n (t:Nd) | x (E:Ex)
mutual
inductive bD (K:Fb) (G H:Hp):V->List Addr->Nd->Prop where
 | d {u:V} {x:D} (h:Den K G u x):bD K G H u [] (.d x)
 | l {a:Addr} {vs:List V} {bs:List Addr} {xs:List Nd} (h:H a=some (.lst vs)) (r:aL K G H vs bs xs):bD K G H (.ref a) (a :: bs) (.l xs)
 | t {a:Addr} {vs:List V} {bs:List Addr} {xs:List Nd} (h:H a=some (.tup vs)) (r:aL K G H vs bs xs):bD K G H (.ref a) (a :: bs) (.t xs)
inductive aL (K:Fb) (G H:Hp):List V->List Addr->List Nd->Prop where
 | nil:aL K G H [] [] []
 | cons {v:V} {vs:List V} {b1 b2:List Addr} {s:Nd} {ss:List Nd} (h:bD K G H v b1 s) (r:aL K G H vs b2 ss):aL K G H (v :: vs) (b1++b2) (s :: ss)
end
noncomputable def cj (K:Fb) (G H:Hp) (v:Option V) (bs:List Addr):Sl->Prop
 | .un=>bs=[]
 | .d x=>bs=[]/\∃ u,v=some u/\Den K G u x
 | .o xs=>∃ a vs,bs=[a]/\v=some (.ref a)/\H a=some (.lst vs)/\ar K G vs xs
 | .n t=>bs.Nodup/\∃ u,v=some u/\bD K G H u bs t
 | .x E=>∃ a o,bs=[a]/\v=some (.ref a)/\H a=some o/\E.p K G o a
section
variable {K:Fb} {G G' H H':Hp}
mutual
theorem bD.frame (g:aj G G'):∀ {u:V} {bs:List Addr} {t:Nd},(∀ b ∈ bs,H' b=H b)->bD K G H u bs t->bD K G' H' u bs t
 | _,_,_,_,.d h=>.d (h.mono g)
 | _,_,_,e,.l h r=>.l (by rw [e _ (Fi ..)]; exact h) (aL.frame g (λb hb=>e b (Fh _ hb)) r)
 | _,_,_,e,.t h r=>.t (by rw [e _ (Fi ..)]; exact h) (aL.frame g (λb hb=>e b (Fh _ hb)) r)
theorem aL.frame (g:aj G G'):∀ {vs:List V} {bs:List Addr} {xs:List Nd},(∀ b ∈ bs,H' b=H b)->aL K G H vs bs xs->aL K G' H' vs bs xs
 | _,_,_,_,.nil=>.nil
 | _,_,_,e,.cons h r=>.cons (bD.frame g (λb hb=>e b (FD _ hb)) h) (aL.frame g (λb hb=>e b (Fl _ hb)) r)
end
mutual
theorem bD.some_of:∀ {u:V} {bs:List Addr} {t:Nd},bD K G H u bs t->∀ b ∈ bs,∃ o,H b=some o
 | _,_,_,.d _,_,z=>nomatch z
 | _,_,_,.l h r,b,z=>(Fv.mp z).elim (λe=>e ▸ ⟨_,h⟩) λz=>aL.some_of r b z
 | _,_,_,.t h r,b,z=>(Fv.mp z).elim (λe=>e ▸ ⟨_,h⟩) λz=>aL.some_of r b z
theorem aL.some_of:∀ {vs:List V} {bs:List Addr} {xs:List Nd},aL K G H vs bs xs->∀ b ∈ bs,∃ o,H b=some o
 | _,_,_,.nil,_,z=>nomatch z
 | _,_,_,.cons h r,b,z=>(Fs.mp z).elim (λz=>bD.some_of h b z) λz=>aL.some_of r b z
end
theorem bD.mono (g:aj G G') (e:aj H H') {u:V} {bs:List Addr} {t:Nd} (h:bD K G H u bs t):bD K G' H' u bs t:=h.frame g λb hb=>by
 obtain ⟨o,q⟩:=h.some_of b hb
 rw [q,e b o q]
theorem cj.mono (g:aj G G') (e:aj H H') {v:Option V} {bs:List Addr}:∀ {s:Sl},cj K G H v bs s->cj K G' H' v bs s
 | .un,h=>h
 | .d _,⟨h,u,e1,h2⟩=>⟨h,u,e1,h2.mono g⟩
 | .o _,⟨a,vs,h1,h2,h3,h4⟩=>⟨a,vs,h1,h2,e _ _ h3,h4.mono g⟩
 | .n _,⟨h0,u,h1,h2⟩=>⟨h0,u,h1,h2.mono g e⟩
 | .x E,⟨a,o,h1,h2,h3,h4⟩=>⟨a,o,h1,h2,e _ _ h3,E.mono g h4⟩
end
noncomputable def own (A:Addr->Prop) (B:Nat->List Addr) (b:Addr):Prop:=A b\/∃ i,b ∈ B i
noncomputable def vw (C:Bool) (A:Addr->Prop) (B:Nat->List Addr):Addr->Prop:=match C with
 | true=>own A B
 | false=>A
structure Sta (K:Fb) (A:Addr->Prop) (H₀:Hp) (τ:List Sl) (B:Nat->List Addr) (σ:L2.St) (H:Hp):Prop where
 same:aj H₀ H
 len:σ.length=τ.length
 sl:∀ i s,τ[i]?=some s->cj K (hd H (own A B)) H (σ[i]?).join (B i) s
 fr:∀ i b,b ∈ B i->H₀ b=none
 uq:∀ i j b,b ∈ B i->b ∈ B j->i=j
 ad:∀ b,A b->∃ o,H₀ b=some o
 bd:∀ i b,b ∈ B i->∃ o,H b=some o
noncomputable def upB (B:Nat->List Addr) (i:Nat) (bs:List Addr):Nat->List Addr:=λj=>if j=i then bs else B j
section
variable {K:Fb} {A:Addr->Prop} {H₀ H H':Hp} {τ:List Sl} {B:Nat->List Addr} {σ:L2.St}
theorem Sta.dm (S:Sta K A H₀ τ B σ H) (b:Addr) (h:own A B b):∃ o,H b=some o:=h.elim (λz=>let ⟨o,q⟩:=S.ad b z; ⟨o,S.same _ _ q⟩) λ⟨i,z⟩=>S.bd i b z
theorem Sta.mono (S:Sta K A H₀ τ B σ H) (e:aj H H'):Sta K A H₀ τ B σ H' where
 same:=S.same.trans e
 len:=S.len
 sl:=λi s h=>(S.sl i s h).mono (ay e λ_ z=>z) e
 fr:=S.fr
 uq:=S.uq
 ad:=S.ad
 bd:=λi b h=>let ⟨o,q⟩:=S.bd i b h; ⟨o,e _ _ q⟩
theorem aZ {i j:Nat} {bs:List Addr} {b:Addr} (h:b ∈ upB B i bs j):(j=i/\b ∈ bs)\/(j ≠ i/\b ∈ B j):=by
 unfold upB at h
 by_cases e:j=i
 · rw [if_pos e] at h; exact .inl ⟨e,h⟩
 · rw [if_neg e] at h; exact .inr ⟨e,h⟩
theorem Sta.set (S:Sta K A H₀ τ B σ H) (e:aj H H') {i:Nat} {v:V} {s:Sl} {bs:List Addr} (hf:∀ b ∈ bs,H b=none/\∃ o,H' b=some o) (h:cj K (hd H' λb=>own A B b\/b ∈ bs) H' (some v) bs s) :
   Sta K A H₀ (τ.set i s) (upB B i bs) (σ.set i (some v)) H':=by
 have sub:∀ b,own A (upB B i bs) b->own A B b\/b ∈ bs:=λb z=>z.elim (λz=>.inl (.inl z)) λ⟨j,z⟩=>(aZ z).elim (λz=>.inr z.2) λz=>.inl (.inr ⟨j,z.2⟩)
 have some_of:∀ b j,b ∈ B j->∃ o,H b=some o:=λb j z=>S.dm b (.inr ⟨j,z⟩)
 refine ⟨S.same.trans e,by rw [FF,FF,S.len],λj t hj=>?_,λj b hb=>?_,λj k b h1 h2=>?_,S.ad,λj b hb=>?_⟩
 · by_cases ej:j=i
   · subst ej
     have hl:j < τ.length:=by
       have:=(Fn.mp hj).1
       rwa [FF] at this
     rw [FP hl] at hj
     cases hj
     rw [FP (by rw [S.len]; exact hl)]
     unfold upB
     rw [if_pos rfl]
     exact h.mono (ay (aj.refl _) sub) (aj.refl _)
   · rw [Ft (λz=>ej z.symm)] at hj
     rw [Ft (λz=>ej z.symm)]
     unfold upB
     rw [if_neg ej]
     have q:=S.sl j t hj
     refine q.mono (λb o z=>?_) e
     obtain ⟨z1,z2⟩:=ao.mp z
     refine ao.mpr ⟨λy=>?_,e _ _ z2⟩
     rcases sub b y with y | y
     · exact z1 y
     · rw [(hf b y).1] at z2; cases z2
 · rcases aZ hb with ⟨_,z⟩ | ⟨_,z⟩
   · exact S.same.free (hf b z).1
   · exact S.fr j b z
 · rcases aZ h1 with ⟨e1,z1⟩ | ⟨e1,z1⟩ <;> rcases aZ h2 with ⟨e2,z2⟩ | ⟨e2,z2⟩
   · exact e1.trans e2.symm
   · obtain ⟨o,q⟩:=some_of b k z2; rw [(hf b z1).1] at q; cases q
   · obtain ⟨o,q⟩:=some_of b j z1; rw [(hf b z2).1] at q; cases q
   · exact S.uq j k b z1 z2
 · rcases aZ hb with ⟨_,z⟩ | ⟨_,z⟩
   · exact (hf b z).2
   · obtain ⟨o,q⟩:=S.bd j b z; exact ⟨o,e _ _ q⟩
theorem Sta.less (S:Sta K A H₀ τ B σ H) {i:Nat} {s:Sl} {bs:List Addr} (hb:∀ b ∈ bs,b ∈ B i) (h:∀ G:Hp,aj (hd H (own A B)) G->(∀ b o,b ∈ B i->b ∉ bs->H b=some o->G b=some o)->cj K G H (σ[i]?).join bs s):Sta K A H₀ (τ.set i s) (upB B i bs) σ H:=by
 have sub:∀ b,own A (upB B i bs) b->own A B b:=λb z=>z.elim .inl λ⟨j,z⟩=>(aZ z).elim (λz=>.inr ⟨i,hb b z.2⟩) λz=>.inr ⟨j,z.2⟩
 refine ⟨S.same,by rw [FF,S.len],λj t hj=>?_,λj b h=>?_,λj k b h1 h2=>?_,S.ad,λj b h=>(aZ h).elim (λz=>S.bd i b (hb b z.2)) λz=>S.bd j b z.2⟩
 · by_cases ej:j=i
   · subst ej
     have hl:j < τ.length:=by
       have:=(Fn.mp hj).1
       rwa [FF] at this
     rw [FP hl] at hj
     cases hj
     unfold upB
     rw [if_pos rfl]
     refine h _ (ay (aj.refl _) sub) λb o z1 z2 z3=>ao.mpr ⟨λy=>?_,z3⟩
     rcases y with y | ⟨m,y⟩
     · obtain ⟨_,q⟩:=S.ad b y
       rw [S.fr j b z1] at q; cases q
     · rcases aZ y with ⟨e,y⟩ | ⟨e,y⟩
       · exact z2 y
       · exact e (S.uq m j b y z1)
   · rw [Ft (λz=>ej z.symm)] at hj
     unfold upB
     rw [if_neg ej]
     exact (S.sl j t hj).mono (ay (aj.refl _) sub) (aj.refl _)
 · rcases aZ h with ⟨e,z⟩ | ⟨_,z⟩
   · exact S.fr i b (hb b z)
   · exact S.fr j b z
 · rcases aZ h1 with ⟨e1,z1⟩ | ⟨e1,z1⟩ <;> rcases aZ h2 with ⟨e2,z2⟩ | ⟨e2,z2⟩
   · exact e1.trans e2.symm
   · exact absurd (S.uq k i b z2 (hb b z1)) e2
   · exact absurd (S.uq j i b z1 (hb b z2)) e1
   · exact S.uq j k b z1 z2
end
end Hy
namespace Hy
open PySem PySem.Spec PyProof.Rows L2
open Ev (D Den ar aD aE ak aY aN)
noncomputable def Fr (H H':Hp) (bs:List Addr):Prop:=∀ b ∈ bs,H b=none/\∃ o,H' b=some o
noncomputable def dE (K:Fb) (C:Bool) (τ:List Sl) (s:Sl):TE:=λσ H Q=>∃ A H₀ B,Sta K A H₀ τ B σ H /\
 ∀ v H' bs,aj H H'->Fr H H' bs->cj K (hd H' λb=>vw C A B b\/b ∈ bs) H' (some v) bs s->Q v H'
noncomputable def dA (K:Fb) (C:Bool) (τ:List Sl) (ds:List D):TA:=λσ H Q=>∃ A H₀ B,Sta K A H₀ τ B σ H /\
 ∀ vs H',aj H H'->ar K (hd H' (vw C A B)) vs ds->Q vs H'
noncomputable def dT (K:Fb) (τ:List Sl) (c:Bool):TT:=λσ H Q=>∃ A H₀ B,Sta K A H₀ τ B σ H/\∀ H',aj H H'->Q c H'
structure Po where
 nx:List Sl->Prop
 rt:Sl->Prop
 bk:List Sl->Prop:=λ_=>False
 ct:List Sl->Prop:=λ_=>False
 xc:Hp->Prop:=λ_=>True
structure Meets (K:Fb) (A:Addr->Prop) (H₀:Hp) (N:Po) (D:Ends):Prop where
 nx:∀ τ B σ H,N.nx τ->Sta K A H₀ τ B σ H->D.nx σ H
 bk:∀ τ B σ H,N.bk τ->Sta K A H₀ τ B σ H->D.bk σ H
 ct:∀ τ B σ H,N.ct τ->Sta K A H₀ τ B σ H->D.ct σ H
 rt:∀ v H bs s,N.rt s->aj H₀ H->Fr H₀ H bs->cj K (hd H λb=>A b\/b ∈ bs) H (some v) bs s->D.rt v H
 xc:∀ H,aj H₀ H->N.xc H
noncomputable def dS (K:Fb) (τ:List Sl) (N:Po):TS:=λD σ H=>∃ A H₀ B,Sta K A H₀ τ B σ H/\Meets K A H₀ N D
theorem peW {X:Cx} {e:Expr} {t t':TE} (h:PE X e t) (f:∀ σ H Q,t' σ H Q->t σ H Q):PE X e t':=λpins s σ H Q I q=>h pins s σ H Q I (f σ H Q q)
theorem ptW {X:Cx} {e:Expr} {t t':TT} (h:PT X e t) (f:∀ σ H Q,t' σ H Q->t σ H Q):PT X e t':=λpins s σ H Q I q=>h pins s σ H Q I (f σ H Q q)
theorem pwW {X:Cx} {e:Expr} {t t':TT} (h:PW X e t) (f:∀ σ H Q,t' σ H Q->t σ H Q):PW X e t':=λwh pins s σ H Q I q=>h wh pins s σ H Q I (f σ H Q q)
theorem paW {X:Cx} {e:List Expr} {t t':TA} (h:PA X e t) (f:∀ σ H Q,t' σ H Q->t σ H Q):PA X e t':=λp pins s σ H Q I q=>h p pins s σ H Q I (f σ H Q q)
theorem psW {X:Cx} {e:Stmt} {t t':TS} (h:PS X e t) (f:∀ D σ H,t' D σ H->t D σ H):PS X e t':=λpins s σ H D I q=>h pins s σ H D I (f D σ H q)
theorem jJ {X:Cx} {e:List Stmt} {t t':TS} (h:PSs X e t) (f:∀ D σ H,t' D σ H->t D σ H):PSs X e t':=λpins s σ H D I q=>h pins s σ H D I (f D σ H q)
section
variable {K:Fb} {C:Bool} {τ:List Sl} {A:Addr->Prop} {H₀ H H':Hp} {B:Nat->List Addr} {σ:L2.St} {x y z:D} {Q:VK}
theorem i7 {b:Addr} (h:vw C A B b):own A B b:=by
 cases C with
 | true=>exact h
 | false=>exact .inl h
theorem Sta.vd (S:Sta K A H₀ τ B σ H) (b:Addr) (h:vw C A B b):∃ o,H b=some o:=S.dm b (i7 h)
theorem aH (S:Sta K A H₀ τ B σ H) (k:∀ v H',aj H H'->Den K (hd H' (vw C A B)) v x->Q v H'):dE K C τ (.d x) σ H Q:=
 ⟨A,H₀,B,S,λv H' bs e _ ⟨hb,u,eu,h⟩=>by
   cases eu
   exact k v H' e (h.mono (ay (aj.refl _) λ_ z=>.inl z))⟩
theorem cJ (h:dE K C τ (.d x) σ H Q):∃ A H₀ B,Sta K A H₀ τ B σ H/\∀ v H',aj H H'->Den K (hd H' (vw C A B)) v x->Q v H':=by
 obtain ⟨A,H₀,B,S,k⟩:=h
 exact ⟨A,H₀,B,S,λv H' e d=>k v H' [] e (λ_ z=>nomatch z) ⟨rfl,v,rfl,d.mono (ay (aj.refl _) λ_ z=>z.elim id λz=>nomatch z)⟩⟩
theorem gp {ds:List D} {Q:List V->Hp->Prop} (S:Sta K A H₀ τ B σ H) (k:∀ vs H',aj H H'->ar K (hd H' (vw C A B)) vs ds->Q vs H'):dA K C τ ds σ H Q:=⟨A,H₀,B,S,k⟩
theorem kY {M:Addr->Prop} {p:Addr} {o:HO} (hM:∀ b,M b->∃ o,H b=some o) (hp:H p=none):hd (upd H p o) M p=some o:=
 ao.mpr ⟨λz=>(by obtain ⟨o,q⟩:=hM p z; rw [hp] at q; cases q),aC⟩
mutual
noncomputable def ndD:Nd->D
 | .d x=>x
 | .l xs=>.lst (ke xs)
 | .t xs=>.tup (ke xs)
noncomputable def ke:List Nd->List D
 | []=>[]
 | x :: xs=>ndD x :: ke xs
end
noncomputable def fzD:Sl->Option D
 | .un=>none
 | .d x=>some x
 | .o xs=>some (.lst xs)
 | .n t=>some (ndD t)
 | .x _=>none
mutual
theorem bD.den {G G':Hp} (g:aj G G'):∀ {u:V} {bs:List Addr} {t:Nd},(∀ b ∈ bs,∀ o,H b=some o->G' b=some o)->bD K G H u bs t->Den K G' u (ndD t)
 | _,_,_,_,.d h=>h.mono g
 | _,_,_,e,.l h r=>.lst (SqL.of (e _ (Fi ..) _ h)) (aL.den g (λb hb=>e b (Fh _ hb)) r)
 | _,_,_,e,.t h r=>.tup (SqT.of (e _ (Fi ..) _ h)) (aL.den g (λb hb=>e b (Fh _ hb)) r)
theorem aL.den {G G':Hp} (g:aj G G'):∀ {vs:List V} {bs:List Addr} {xs:List Nd},(∀ b ∈ bs,∀ o,H b=some o->G' b=some o)->aL K G H vs bs xs->ar K G' vs (ke xs)
 | _,_,_,_,.nil=>.nil
 | _,_,_,e,.cons h r=>.cons (bD.den g (λb hb=>e b (FD _ hb)) h) (aL.den g (λb hb=>e b (Fl _ hb)) r)
end
theorem cj.den {G G':Hp} {v:Option V} {bs:List Addr} {s:Sl} (h:cj K G H v bs s) (g:aj G G') (hv:∀ b ∈ bs,∀ o,H b=some o->G' b=some o) (e:fzD s=some x):∃ u,v=some u/\Den K G' u x:=by
 cases s with
 | un=>cases e
 | d y=>cases e; obtain ⟨_,u,e,q⟩:=h; exact ⟨u,e,q.mono g⟩
 | o xs=>
   cases e
   obtain ⟨a,vs,rfl,h2,h3,h4⟩:=h
   exact ⟨_,h2,.lst (SqL.of (hv a (Fi ..) _ h3)) (h4.mono g)⟩
 | n t=>
   cases e
   obtain ⟨_,u,e,q⟩:=h
   exact ⟨u,e,q.den g hv⟩
 | x E=>cases e
theorem slot_of {i:Nat} {u:V} (h:(σ[i]?).join=some u):σ[i]?=some (some u):=by
 cases e:σ[i]? with
 | none=>rw [e] at h; cases h
 | some o=>rw [e] at h; exact congrArg some h
end
section
variable {X:Cx} {C:Bool} {τ:List Sl} {x y z:D} {a b e:Expr} {es:List Expr} {pos:Pos}
theorem aa (i:Nat) {n:Str} {x:D} (h:τ[i]?=some (.d x):=by rfl) (hN:X.N[i]?=some n:=by rfl) (hv:Vis X.env.scope n:=by first | exact GO rfl | exact F5 (GO rfl) | exact F5 (F5 rfl))
   (hd:(n == ("__debug__" : Str))=false:=by decide) (hcd:(n == ("__classdict__" : Str))=false:=by decide):PE X (.Name n pos) (dE X.K C τ (.d x)):=peW (bx hN hv hd hcd) λσ H Q q=>by
 obtain ⟨A,H₀,B,S,k⟩:=cJ q
 obtain ⟨_,u,e,d⟩:=S.sl i _ h
 exact ⟨u,slot_of e,k u H (aj.refl _) (d.mono (ay (aj.refl _) λ_ z=>i7 z))⟩
theorem iM (i:Nat) {n:Str} {s:Sl} {x:D} (h:τ[i]?=some s:=by rfl) (hx:fzD s=some x:=by rfl) (hN:X.N[i]?=some n:=by rfl) (hv:Vis X.env.scope n:=by first | exact GO rfl | exact F5 (GO rfl) | exact F5 (F5 rfl))
   (hd:(n == ("__debug__" : Str))=false:=by decide) (hcd:(n == ("__classdict__" : Str))=false:=by decide):PE X (.Name n pos) (dE X.K false τ (.d x)):=peW (bx hN hv hd hcd) λσ H Q q=>by
 obtain ⟨A,H₀,B,S,k⟩:=cJ q
 obtain ⟨u,e,d⟩:=(S.sl i _ h).den (G':=Hy.hd H A) (ay (aj.refl _) λ_ z=>.inl z) (λb hb o ho=>ao.mpr ⟨λz=>(by obtain ⟨_,q⟩:=S.ad b z; rw [S.fr i b hb] at q; cases q),ho⟩) hx
 exact ⟨u,slot_of e,k u H (aj.refl _) d⟩
theorem tQ {v:V} (h:PE X e (tC v)) (d:∀ H,Den X.K H v x):PE X e (dE X.K C τ (.d x)):=peW h λσ H Q q=>by
 obtain ⟨A,H₀,B,S,k⟩:=cJ q
 exact k v H (aj.refl _) (d _)
theorem ae {i j}:PE X (.Constant (.int i) j pos) (dE X.K C τ (.d (.int i))):=tQ su λ_=>.int
theorem uU {b j}:PE X (.Constant (.bool b) j pos) (dE X.K C τ (.d (.bl b))):=tQ DF λ_=>.bl
theorem pP {j}:PE X (.Constant .none j pos) (dE X.K C τ (.d .non)):=tQ BC λ_=>.non
theorem BR {n:Str} {i:Int} (hm:∃ t,X.mg n=some (.int i t)) (hg:Gl X n:=by rfl) (hd:(n == ("__debug__" : Str))=false:=by decide):PE X (.Name n pos) (dE X.K C τ (.d (.int i))):=by
 obtain ⟨t,hm⟩:=hm
 exact tQ (yK (v:=.int i) hg hm ⟨t,rfl⟩ hd) λ_=>.int
theorem a4 {s:Sl} (h:PE X e (dE X.K C τ s)) (hx:fzD s=some x:=by rfl):PE X e (dE X.K C τ (.d x)):=peW h λσ H Q q=>by
 obtain ⟨A,H₀,B,S,k⟩:=cJ q
 refine ⟨A,H₀,B,S,λv H' bs e hf q=>?_⟩
 have vd:=S.vd (C:=C)
 obtain ⟨u,e1,d⟩:=q.den (G':=Hy.hd H' (vw C A B)) (ay (aj.refl _) λ_ z=>.inl z) (λb hb o ho=>ao.mpr ⟨λz=>(by obtain ⟨_,q⟩:=vd b z; rw [(hf b hb).1] at q; cases q),ho⟩) hx
 cases e1
 exact k v H' e d
noncomputable def flat:D->Bool
 | .tup _=>false
 | .lst _=>false
 | .box _=>false
 | _=>true
theorem iJ {K:Fb} {G G':Hp} {v:V} (h:Den K G v x) (f:flat x=true):Den K G' v x:=by
 cases h with
 | non=>exact .non
 | bl=>exact .bl
 | int=>exact .int
 | str=>exact .str
 | tup _ _=>cases f
 | lst _ _=>cases f
 | box _=>cases f
noncomputable def cq (X:Cx) (f:Value->Value->Sem Value) (x y z:D):Prop:=∃ r:R2,OpR X f r /\
 ∀ (M:Addr->Prop) (v w:V) (H:Hp) (Q:VK),(∀ b,M b->∃ o,H b=some o)->Den X.K (hd H M) v x->Den X.K (hd H M) w y->(∀ u H',aj H H'->Den X.K (hd H' M) u z->Q u H')->r v w H Q
theorem two {r:R2} (hr:∀ (M:Addr->Prop) (v w:V) (H:Hp) (Q:VK),(∀ b,M b->∃ o,H b=some o)->Den X.K (hd H M) v x->Den X.K (hd H M) w y->(∀ u H',aj H H'->Den X.K (hd H' M) u z->Q u H')->r v w H Q) :
   ∀ σ H Q,dE X.K C τ (.d z) σ H Q->tOp r (dE X.K C τ (.d x)) (dE X.K C τ (.d y)) σ H Q:=by
 intro σ H Q h
 obtain ⟨A,H₀,B,S,k⟩:=cJ h
 refine aH S λv H1 e1 d1=>aH (S.mono e1) λw H2 e2 d2=>hr (vw C A B) v w H2 Q ((S.mono e1).mono e2).vd (d1.mono (ay e2 λ_ z=>z)) d2 λu H' e3 d3=>k u H' (e1.trans (e2.trans e3)) d3
theorem ax {op:Operator} (ha:PE X a (dE X.K C τ (.d x))) (hb:PE X b (dE X.K C τ (.d y))) (ho:cq X (binaryOp op) x y z):PE X (.BinOp a op b pos) (dE X.K C τ (.d z)):=by
 obtain ⟨r,h1,h2⟩:=ho
 exact peW (sG h1 ha hb) (two h2)
theorem cG {op:CmpOp} (ha:PE X a (dE X.K C τ (.d x))) (hb:PE X b (dE X.K C τ (.d y))) (ho:cq X (compareOp op) x y z) (hm:behindInMarks op b=false:=by first | exact v5 _ | rfl):PE X (.Compare a [op] [b] pos) (dE X.K C τ (.d z)):=by
 obtain ⟨r,h1,h2⟩:=ho
 exact peW (zI h1 ha hb hm) (two h2)
theorem vR {t:TE} {c:Bool} (h:∀ σ H Q,dE X.K false τ (.d (.bl c)) σ H Q->t σ H Q):∀ σ H Q,dT X.K τ c σ H Q->t σ H λx H'=>∃ k,x=.bl k/\Q k H':=λσ H Q ⟨A,H₀,B,S,k⟩=>
 h σ H _ (aH S λv H' e d=>by cases d; exact ⟨c,rfl,k H' e⟩)
theorem aS {op:CmpOp} {c:Bool} (ha:PE X a (dE X.K false τ (.d x))) (hb:PE X b (dE X.K false τ (.d y))) (ho:cq X (compareOp op) x y (.bl c)) (hm:behindInMarks op b=false:=by first | exact v5 _ | rfl):PT X (.Compare a [op] [b] pos) (dT X.K τ c):=by
 obtain ⟨r,h1,h2⟩:=ho
 exact ptW (zS h1 ha hb hm) (vR (two h2))
theorem bS {c:Bool} (h:PE X e (dE X.K false τ (.d (.bl c)))) (he:∀ whole,isTrue e X.env whole=(do let v <- whole; standAt e.pos; holding [v] (truthy v)):=by intro _; rfl):PT X e (dT X.K τ c):=
 ptW (BL h he) (vR λ_ _ _ q=>q)
theorem mQ {g:Int->Int->V} {P:Int->Int->Prop} {i j:Int} (hc:P i j) (hz:∀ K H,Den K H (g i j) z):∀ (M:Addr->Prop) (v w:V) (H:Hp) (Q:VK),(∀ b,M b->∃ o,H b=some o)->Den X.K (hd H M) v (.int i)->Den X.K (hd H M) w (.int j) ->
   (∀ u H',aj H H'->Den X.K (hd H' M) u z->Q u H')->rI P g v w H Q:=λ_ v w H Q _ d1 d2 k=>by
 cases d1
 cases d2
 exact ⟨i,j,rfl,rfl,hc,k _ H (aj.refl _) (hz _ _)⟩
theorem jw {g:Int->Int->V} {i j:Int} (hz:∀ K H,Den K H (g i j) z):∀ (M:Addr->Prop) (v w:V) (H:Hp) (Q:VK),(∀ b,M b->∃ o,H b=some o)->Den X.K (hd H M) v (.int i)->Den X.K (hd H M) w (.int j) ->
   (∀ u H',aj H H'->Den X.K (hd H' M) u z->Q u H')->rI0 g v w H Q:=λ_ v w H Q _ d1 d2 k=>by
 cases d1
 cases d2
 exact ⟨i,j,rfl,rfl,k _ H (aj.refl _) (hz _ _)⟩
variable {i j:Int}
theorem a7:cq X (binaryOp .Add) (.int i) (.int j) (.int (i + j)):=⟨_,Ba,jw λ_ _=>.int⟩
theorem cF:cq X (binaryOp .Sub) (.int i) (.int j) (.int (i - j)):=⟨_,By,jw λ_ _=>.int⟩
theorem DI:cq X (binaryOp .BitAnd) (.int i) (.int j) (.int (J8 i j)):=⟨_,Bv,jw λ_ _=>.int⟩
theorem EH:cq X (binaryOp .BitOr) (.int i) (.int j) (.int (Kq i j)):=⟨_,Dj,jw λ_ _=>.int⟩
theorem aD.ok' {i j:Int} (h:aD i j):IntMulOk i j:=by
 have b:∀ {k:Int} {n:Nat},k.natAbs.log2 < n->Hd k<=n:=λ{k n} q=>by
   unfold Builtin.Int.intBits
   split
   · exact FR _
   · exact q
 rcases h with h | h | ⟨h1,h2⟩
 · exact .of_left (b h)
 · exact .of_right (b h)
 · exact .of_bits (Fz (b h1) (by decide)) (Fz (b h2) (by decide))
theorem aX (h:aD i j):cq X (binaryOp .Mult) (.int i) (.int j) (.int (i * j)):=⟨rI aD λi j=>.int (i * j),opI λ_ _ _ _ _ _ _ hc q=>mul_int q (aD.ok' hc),mQ h λ_ _=>.int⟩
theorem bH (h:aE j):cq X (binaryOp .FloorDiv) (.int i) (.int j) (.int (i.fdiv j)):=⟨rI (λ_ j=>aE j) λi j=>.int (i.fdiv j),opI λ_ _ _ _ _ _ _ hc q=>floordiv_int hc.1 q (.inl (PyProof.noPylong_of_log2 hc.2)),mQ h λ_ _=>.int⟩
theorem ba (h:j ≠ 0):cq X (binaryOp .Mod) (.int i) (.int j) (.int (i.fmod j)):=⟨_,zh,mQ h λ_ _=>.int⟩
theorem lG (h:yS i j):cq X (binaryOp .Pow) (.int i) (.int j) (.int (i ^ j.toNat)):=⟨_,Cn,mQ h λ_ _=>.int⟩
theorem D5 (h:yS i j):cq X (binaryOp .LShift) (.int i) (.int j) (.int (i * 2 ^ j.toNat)):=⟨_,CO,mQ h λ_ _=>.int⟩
theorem Az (h:0<=j):cq X (binaryOp .RShift) (.int i) (.int j) (.int (i / 2 ^ j.toNat)):=⟨_,BM,mQ h λ_ _=>.int⟩
theorem kc:cq X (compareOp .Lt) (.int i) (.int j) (.bl (decide (i < j))):=⟨_,Dl,jw λ_ _=>.bl⟩
theorem D7:cq X (compareOp .LtE) (.int i) (.int j) (.bl (decide (i<=j))):=⟨_,De,jw λ_ _=>.bl⟩
theorem pU:cq X (compareOp .Gt) (.int i) (.int j) (.bl (decide (j < i))):=⟨_,Ek,jw λ_ _=>.bl⟩
theorem B6:cq X (compareOp .GtE) (.int i) (.int j) (.bl (decide (j<=i))):=⟨_,DY,jw λ_ _=>.bl⟩
theorem de:cq X (compareOp .Eq) (.int i) (.int j) (.bl (decide (i=j))):=⟨_,El,λ_ v w H Q _ d1 d2 k=>by
 cases d1
 cases d2
 exact ⟨rfl,by rw [show decide (V.int i=V.int j)=decide (i=j) by simp]; exact k _ H (aj.refl _) .bl⟩⟩
theorem gP:cq X (compareOp .NotEq) (.int i) (.int j) (.bl (!decide (i=j))):=⟨_,DZ,λ_ v w H Q _ d1 d2 k=>by
 cases d1
 cases d2
 exact ⟨rfl,by rw [show decide (V.int i=V.int j)=decide (i=j) by simp]; exact k _ H (aj.refl _) .bl⟩⟩
theorem iD (h:PE X a (dE X.K C τ (.d (.int i)))):PE X (.UnaryOp .USub a pos) (dE X.K C τ (.d (.int (-i)))):=peW (DB BW h) λσ H Q q=>by
 obtain ⟨A,H₀,B,S,k⟩:=cJ q
 refine aH S λv H1 e1 d1=>?_
 cases d1
 exact ⟨i,rfl,k _ H1 e1 .int⟩
theorem sT {e:Expr}:PE X e λ_ _ _=>False:=λ_ _ _ _ _ _ h=>h.elim
theorem pw_no {e:Expr}:PW X e λ_ _ _=>False:=λ_ _ _ _ _ _ _ h=>h.elim
variable {p q:Bool} {c:Expr} {rest:List Expr}
theorem kh {op} {s:Sl} (h:PE X a (dE X.K C τ s)):PE X (.BoolOp op [a] pos) (dE X.K C τ s):=BY h
theorem mN (ha:PE X a (dE X.K C τ (.d (.bl p)))) (hb:p=true->PE X (.BoolOp .And (b :: rest) pos) (dE X.K C τ (.d (.bl q)))):PE X (.BoolOp .And (a :: b :: rest) pos) (dE X.K C τ (.d (.bl (p && q)))):=by
 cases p with
 | false=>
   refine peW (wb ha sT) λσ H Q z=>?_
   obtain ⟨A,H₀,B,S,k⟩:=cJ z
   exact aH S λv H' e d=>by cases d; exact ⟨_,rfl,k _ H' e .bl⟩
 | true=>
   refine peW (wb ha (hb rfl)) λσ H Q z=>?_
   obtain ⟨A,H₀,B,S,k⟩:=cJ z
   exact aH S λv H' e d=>by cases d; exact ⟨_,rfl,aH (S.mono e) λv H2 e2 d2=>k v H2 (e.trans e2) d2⟩
theorem Ep (ha:PE X a (dE X.K C τ (.d (.bl p)))) (hb:p=false->PE X (.BoolOp .Or (b :: rest) pos) (dE X.K C τ (.d (.bl q)))):PE X (.BoolOp .Or (a :: b :: rest) pos) (dE X.K C τ (.d (.bl (p || q)))):=by
 cases p with
 | true=>
   refine peW (AH ha sT) λσ H Q z=>?_
   obtain ⟨A,H₀,B,S,k⟩:=cJ z
   exact aH S λv H' e d=>by cases d; exact ⟨_,rfl,k _ H' e .bl⟩
 | false=>
   refine peW (AH ha (hb rfl)) λσ H Q z=>?_
   obtain ⟨A,H₀,B,S,k⟩:=cJ z
   exact aH S λv H' e d=>by cases d; exact ⟨_,rfl,aH (S.mono e) λv H2 e2 d2=>k v H2 (e.trans e2) d2⟩
theorem AB (ha:PE X a (dE X.K C τ (.d (.bl p)))):PE X (.UnaryOp .Not a pos) (dE X.K C τ (.d (.bl (!p)))):=peW (BA ha) λσ H Q z=>by
 obtain ⟨A,H₀,B,S,k⟩:=cJ z
 exact aH S λv H' e d=>by cases d; exact ⟨_,rfl,k _ H' e .bl⟩
theorem gu (ha:PT X a (dT X.K τ p)):PW X (.BoolOp .Or [a] pos) (dT X.K τ p):=pw_or1 ha
theorem gH (ha:PT X a (dT X.K τ p)) (hb:p=false->PW X (.BoolOp .Or (b :: rest) pos) (dT X.K τ q)):PW X (.BoolOp .Or (a :: b :: rest) pos) (dT X.K τ (p || q)):=by
 cases p with
 | true=>exact pwW (pw_or ha pw_no) λσ H Q ⟨A,H₀,B,S,k⟩=>⟨A,H₀,B,S,λH' e=>uQ (k H' e)⟩
 | false=>exact pwW (pw_or ha (hb rfl)) λσ H Q ⟨A,H₀,B,S,k⟩=>⟨A,H₀,B,S,λH' e=>vA (⟨A,H₀,B,S.mono e,λH2 e2=>k H2 (e.trans e2)⟩)⟩
theorem bW (ha:PT X a (dT X.K τ p)):PT X (.UnaryOp .Not a pos) (dT X.K τ (!p)):=ptW (A2 ha) λσ H Q ⟨A,H₀,B,S,k⟩=>⟨A,H₀,B,S,λH' e=>k H' e⟩
theorem t9 {s:Sl} (hc:PT X c (dT X.K τ p)) (ha:p=true->PE X a (dE X.K C τ s)) (hb:p=false->PE X b (dE X.K C τ s)):PE X (.IfExp c a b pos) (dE X.K C τ s):=by
 have fin:∀ {σ H H' Q} {A:Addr->Prop} {H₀ B},Sta X.K A H₀ τ B σ H->(∀ v H' bs,aj H H'->Fr H H' bs->cj X.K (hd H' λb=>vw C A B b\/b ∈ bs) H' (some v) bs s->Q v H')->aj H H'->dE X.K C τ s σ H' Q:=λS k e=>
   ⟨_,_,_,S.mono e,λv H2 bs e2 hf h=>k v H2 bs (e.trans e2) (λb hb=>⟨e.free (hf b hb).1,(hf b hb).2⟩) h⟩
 cases p with
 | true=>exact peW (qb hc (ha rfl) sT) λσ H Q ⟨A,H₀,B,S,k⟩=>⟨A,H₀,B,S,λH' e=>uQ (fin S k e)⟩
 | false=>exact peW (qb hc sT (hb rfl)) λσ H Q ⟨A,H₀,B,S,k⟩=>⟨A,H₀,B,S,λH' e=>vA (fin S k e)⟩
theorem zZ {op op':CmpOp} (ha:PE X a (dE X.K C τ (.d x))) (hb:PE X b (dE X.K C τ (.d y))) (hc:PE X c (dE X.K C τ (.d z))) (h1:cq X (compareOp op) x y (.bl p)) (h2:cq X (compareOp op') y z (.bl q))
   (hm:lastMarks [op,op'] [b,c]=false:=by with_unfolding_all rfl):PE X (.Compare a [op,op'] [b,c] pos) (dE X.K C τ (.d (.bl (p && q))))/\(C=false->PT X (.Compare a [op,op'] [b,c] pos) (dT X.K τ (p && q))):=by
 obtain ⟨r,o1,k1⟩:=h1
 obtain ⟨r',o2,k2⟩:=h2
 have key:∀ σ H Q,dE X.K C τ (.d (.bl (p && q))) σ H Q->r6 r r' (dE X.K C τ (.d x)) (dE X.K C τ (.d y)) (dE X.K C τ (.d z)) σ H Q:=λσ H Q h=>by
   obtain ⟨A,H₀,B,S,k⟩:=cJ h
   refine aH S λv H1 e1 d1=>aH (S.mono e1) λw H2 e2 d2=>k1 (vw C A B) v w H2 _ ((S.mono e1).mono e2).vd (d1.mono (ay e2 λ_ z=>z)) d2 λu H3 e3 d3=>?_
   cases d3
   refine ⟨p,rfl,?_⟩
   cases p with
   | false=>exact vA (k _ H3 (e1.trans (e2.trans e3)) .bl)
   | true=>exact uQ (aH (((S.mono e1).mono e2).mono e3) λw' H4 e4 d4=>k2 (vw C A B) w w' H4 Q ((((S.mono e1).mono e2).mono e3).mono e4).vd (d2.mono (ay (e3.trans e4) λ_ z=>z)) d4 λu H5 e5 d5=>k u H5 (e1.trans (e2.trans (e3.trans (e4.trans e5)))) d5)
 exact ⟨peW (wL o1 o2 ha hb hc hm) key,λhC=>by subst hC; exact ptW (v8 o1 o2 ha hb hc hm) (vR key)⟩
theorem af:PA X [] (dA X.K C τ []):=paW dC λσ H Q ⟨A,H₀,B,S,k⟩=>k [] H (aj.refl _) .nil
theorem ab {ds:List D} (ha:PE X e (dE X.K C τ (.d x))) (hr:PA X es (dA X.K C τ ds)) (hs:starEach (e :: es) X.env=(false,eval e X.env) :: starEach es X.env:=by rfl):PA X (e :: es) (dA X.K C τ (x :: ds)):=paW (bO ha hr hs) λσ H Q ⟨A,H₀,B,S,k⟩=>
 aH S λv H1 e1 d1=>gp (S.mono e1) λvs H2 e2 d2=>k _ H2 (e1.trans e2) (.cons (d1.mono (ay e2 λ_ z=>z)) d2)
theorem cg {ds:List D} {m} (h:PA X es (dA X.K C τ ds)) (hl:Nat.ble ds.length 1000=true:=by rfl):PE X (.Tuple es m pos) (dE X.K C τ (.d (.tup ds))):=peW (rF h) λσ H Q q=>by
 obtain ⟨A,H₀,B,S,k⟩:=cJ q
 refine gp S λvs H1 e1 d1=>⟨by rw [d1.length]; exact GR (jg (Jy hl)),λp hp=>k _ _ (e1.trans (ak hp _)) ?_⟩
 exact .tup (SqT.of (kY (S.mono e1).vd hp)) (d1.mono (ay (ak hp _) λ_ z=>z))
theorem fm {ds:List D} (h:PA X es (dA X.K C τ ds)) (hl:Nat.ble ds.length 1000=true:=by rfl):PE X (.List es pos) (dE X.K C τ (.o ds)):=peW (Cr h) λσ H Q ⟨A,H₀,B,S,k⟩=>
 gp S λvs H1 e1 d1=>⟨by rw [d1.length]; exact GR (jg (Jy hl)),λp hp=>k _ _ [p] (e1.trans (ak hp _)) (λb hb=>by
   obtain rfl:=Ff.mp hb
   exact ⟨e1.free hp,_,aC⟩) ⟨p,vs,rfl,rfl,aC,d1.mono λb o z=>by
     obtain ⟨z1,z2⟩:=ao.mp z
     refine ao.mpr ⟨λy=>?_,ak hp _ _ _ z2⟩
     rcases y with y | y
     · exact z1 y
     · rw [Ff.mp y] at z2; rw [hp] at z2; cases z2⟩⟩
end
noncomputable def spD (K:Fb) (Φ:List D->Sl->Prop):Sp:=λvs H Q _=>∃ A ds s,(∀ b,A b->∃ o,H b=some o)/\ar K (hd H A) vs ds/\Φ ds s /\
 ∀ v H' bs,aj H H'->Fr H H' bs->cj K (hd H' λb=>A b\/b ∈ bs) H' (some v) bs s->Q v H'
noncomputable def Cal (P:Program) (w:World) (K:Fb) (mg:Str->Option Value) (base:Heap) (k:Nat) (n:Str) (Φ:List D->Sl->Prop):Prop:=
 ∃ f fd ps,aQ P w K mg base CX0 k f fd ps (spD K Φ)/\mg n=some (.ref f)/\G6 K (.ref f)=true/\Binds K fd ps []
theorem Cal.mono {P:Program} {w:World} {K:Fb} {mg:Str->Option Value} {base:Heap} {j k:Nat} {n:Str} {Φ:List D->Sl->Prop} (c:Cal P w K mg base j n Φ) (h:j<=k):Cal P w K mg base k n Φ:=
 let ⟨f,fd,ps,F,r⟩:=c; ⟨f,fd,ps,F.mono h,r⟩
noncomputable def ai:List Str:=["len","abs","max","min","int","bool","list","tuple","str","isinstance","range","enumerate","all","zip","sorted","sum","any","reversed"]
structure Bk (X:Cx) (k:Nat):Prop where
 room:fu k X.A
 calm:X.calm=true
 blt:∀ x ∈ ai,X.mg x=none
 po:PassesOwn (model X.prog X.w) X.A X.env X.xe
section
variable {X:Cx} {C:Bool} {τ:List Sl} {x y z:D} {a b e:Expr} {es:List Expr} {pos p:Pos} {k:Nat} {s:Sl} {ds:List D} {i j:Int}
theorem x_call {n:Str} {Φ:List D->Sl->Prop} (B:Bk X k) (c:Cal X.prog X.w X.K X.mg X.base k n Φ) (ha:PA X (e :: es) (dA X.K C τ ds)) (h:Φ ds s) (hg:Gl X n:=by rfl) (hdb:(n == ("__debug__" : Str))=false:=by decide)
   (he:starEach (e :: es) X.env=(false,eval e X.env) :: starEach es X.env:=by rfl) (hpl:(backTo pos (starEach es X.env)).any (·.1)=false:=by rfl):PE X (.Call (.Name n p) (e :: es) [] pos) (dE X.K C τ s):=by
 obtain ⟨f,fd,ps,F,hm,hk,hb⟩:=c
 refine peW (y8 F B.room hg hm hk hb .nil Dx ha hdb he hpl) λσ H Q ⟨A,H₀,B,S,q⟩=>gp S λvs H1 e1 d1=>?_
 rw [Gh]
 exact ⟨vw C A B,ds,s,(S.mono e1).vd,d1,h,λv H' bs e2 hf h2=>q v H' bs (e1.trans e2) (λb hb=>⟨e1.free (hf b hb).1,(hf b hb).2⟩) h2⟩
noncomputable def gy (X:Cx) (f:Value) (ds:List D) (s:Sl):Prop:=∃ r:List V->Hp->VK->Prop,dg X f r /\
 ∀ (M:Addr->Prop) (vs:List V) (H:Hp) (Q:VK),(∀ b,M b->∃ o,H b=some o)->ar X.K (hd H M) vs ds->(∀ u H' bs,aj H H'->Fr H H' bs->cj X.K (hd H' λb=>M b\/b ∈ bs) H' (some u) bs s->Q u H')->r vs H Q
theorem vV {r:List V->Hp->VK->Prop} (hr:∀ (M:Addr->Prop) (vs:List V) (H:Hp) (Q:VK),(∀ b,M b->∃ o,H b=some o)->ar X.K (hd H M) vs ds->(∀ u H' bs,aj H H'->Fr H H' bs->cj X.K (hd H' λb=>M b\/b ∈ bs) H' (some u) bs s->Q u H')->r vs H Q) :
   ∀ σ H Q,dE X.K C τ s σ H Q->tCB r (dA X.K C τ ds) σ H Q:=λσ H Q ⟨A,H₀,B,S,q⟩=>
 gp S λvs H1 e1 d1=>hr (vw C A B) vs H1 Q (S.mono e1).vd d1 λv H' bs e2 hf h2=>q v H' bs (e1.trans e2) (λb hb=>⟨e1.free (hf b hb).1,(hf b hb).2⟩) h2
theorem a5 {n:Str} {id:String} (B:Bk X k) (ha:PA X (e :: es) (dA X.K C τ ds)) (c:gy X (.builtin id) ds s) (hn:n ∈ ai:=by decide) (hg:Gl X n:=by rfl) (hv:bootBuiltins n=some (.builtin id):=by decide +kernel) (h1:n ≠ "__name__":=by decide) (hdb:(n == ("__debug__" : Str))=false:=by decide)
   (he:starEach (e :: es) X.env=(false,eval e X.env) :: starEach es X.env:=by rfl) (hpl:(backTo pos (starEach es X.env)).any (·.1)=false:=by rfl):PE X (.Call (.Name n p) (e :: es) [] pos) (dE X.K C τ s):=by
 obtain ⟨r,h1,h2⟩:=c
 exact peW (pC h1 hg (B.blt _ hn) hv ha (by assumption) hdb he hpl) (vV h2)
theorem kS {n:Str} {T:String} (B:Bk X k) (ha:PA X (e :: es) (dA X.K C τ ds)) (c:gy X (.type T) ds s) (hn:n ∈ ai:=by decide) (hg:Gl X n:=by rfl) (hv:bootBuiltins n=some (.type T):=by decide +kernel) (h1:n ≠ "__name__":=by decide) (hdb:(n == ("__debug__" : Str))=false:=by decide)
   (he:starEach (e :: es) X.env=(false,eval e X.env) :: starEach es X.env:=by rfl) (hpl:(backTo pos (starEach es X.env)).any (·.1)=false:=by rfl):PE X (.Call (.Name n p) (e :: es) [] pos) (dE X.K C τ s):=by
 obtain ⟨r,h1,h2⟩:=c
 exact peW (mM h1 hg (B.blt _ hn) hv ha (by assumption) hdb he hpl) (vV h2)
theorem iB {K:Fb} {H:Hp} {M:Addr->Prop} {v:V} (h:Den K (hd H M) v x):cj K (hd H λb=>M b\/b ∈ ([]:List Addr)) H (some v) [] (.d x):=⟨rfl,v,rfl,h.mono (ay (aj.refl _) λ_ z=>z.elim id λz=>nomatch z)⟩
theorem cY {H H':Hp}:Fr H H' []:=λ_ z=>nomatch z
theorem fR {xs:List D}:gy X (.builtin "len") [.lst xs] (.d (.int xs.length)):=⟨_,ie,λM vs H Q _ d q=>by
 cases d with
 | cons d r=>
   cases r
   cases d with
   | lst h r=>
     refine ⟨_,_,rfl,.inl (aN aI h),?_⟩
     rw [r.length]
     exact q _ H [] (aj.refl _) cY (iB .int)⟩
theorem iO {xs:List D}:gy X (.builtin "len") [.tup xs] (.d (.int xs.length)):=⟨_,ie,λM vs H Q _ d q=>by
 cases d with
 | cons d r=>
   cases r
   cases d with
   | tup h r=>
     refine ⟨_,_,rfl,.inr (aY aI h),?_⟩
     rw [r.length]
     exact q _ H [] (aj.refl _) cY (iB .int)⟩
noncomputable def lZ (i:Int):Int:=if i < 0 then -i else i
theorem jY:gy X (.builtin "abs") [.int i] (.d (.int (lZ i))):=⟨_,vJ,λM vs H Q _ d q=>by
 cases d with
 | cons d r=>
   cases r
   cases d
   exact ⟨_,rfl,q _ H [] (aj.refl _) cY (iB .int)⟩⟩
theorem tZ (hc:X.calm=true):gy X (.builtin "max") [.int i,.int j] (.d (.int (if j > i then j else i))):=⟨_,uR hc,λM vs H Q _ d q=>by
 cases d with
 | cons d r=>
   cases r with
   | cons d' r=>
     cases r
     cases d
     cases d'
     exact ⟨_,_,rfl,q _ H [] (aj.refl _) cY (iB .int)⟩⟩
theorem px (hc:X.calm=true):gy X (.builtin "min") [.int i,.int j] (.d (.int (if j < i then j else i))):=⟨_,uT hc,λM vs H Q _ d q=>by
 cases d with
 | cons d r=>
   cases r with
   | cons d' r=>
     cases r
     cases d
     cases d'
     exact ⟨_,_,rfl,q _ H [] (aj.refl _) cY (iB .int)⟩⟩
theorem ku {c:Bool}:gy X (.type "int") [.bl c] (.d (.int (if c then 1 else 0))):=⟨_,uV,λM vs H Q _ d q=>by
 cases d with
 | cons d r=>
   cases r
   cases d
   exact .inr ⟨_,rfl,q _ H [] (aj.refl _) cY (iB .int)⟩⟩
theorem jh {K:Fb} {H:Hp} {M:Addr->Prop} {p:Addr} {vs:List V} {xs:List D} (hp:H p=none) (d:ar K (hd H M) vs xs) :
   aj H (upd H p (.lst vs))/\Fr H (upd H p (.lst vs)) [p]/\cj K (hd (upd H p (.lst vs)) λb=>M b\/b ∈ [p]) (upd H p (.lst vs)) (some (.ref p)) [p] (.o xs):=
 ⟨ak hp _,λb hb=>by
   obtain rfl:=Ff.mp hb
   exact ⟨hp,_,aC⟩,p,vs,rfl,rfl,aC,d.mono λb o z=>by
     obtain ⟨z1,z2⟩:=ao.mp z
     refine ao.mpr ⟨λy=>?_,ak hp _ _ _ z2⟩
     rcases y with y | y
     · exact z1 y
     · rw [Ff.mp y] at z2; rw [hp] at z2; cases z2⟩
theorem xC {xs:List D}:gy X (.type "list") [.lst xs] (.o xs):=⟨_,iw,λM vs H Q _ d q=>by
 cases d with
 | cons d r=>
   cases r
   cases d with
   | lst h r=>
     refine ⟨_,_,rfl,.inl (aN aI h),λp hp=>?_⟩
     obtain ⟨z1,z2,z3⟩:=jh (K:=X.K) (M:=M) hp r
     exact q _ _ [p] z1 z2 z3⟩
theorem sL {xs:List D}:gy X (.type "list") [.tup xs] (.o xs):=⟨_,iw,λM vs H Q _ d q=>by
 cases d with
 | cons d r=>
   cases r
   cases d with
   | tup h r=>
     refine ⟨_,_,rfl,.inr (aY aI h),λp hp=>?_⟩
     obtain ⟨z1,z2,z3⟩:=jh (K:=X.K) (M:=M) hp r
     exact q _ _ [p] z1 z2 z3⟩
theorem vY {K:Fb} {H:Hp} {vs:List V} {ds:List D} {i:Int} {d:D} (r:ar K H vs ds) (h:atI ds i=some d):∃ v,atI vs i=some v/\Den K H v d:=by
 unfold atI at h ⊢
 rw [r.length]
 cases e:ixN ds.length i with
 | none=>rw [e] at h; cases h
 | some j=>rw [e] at h; exact r.get h
noncomputable def A3 (X:Cx) (x y z:D):Prop:=∃ r:R2,IxR X r /\
 ∀ (M:Addr->Prop) (v w:V) (H:Hp) (Q:VK),(∀ b,M b->∃ o,H b=some o)->Den X.K (hd H M) v x->Den X.K (hd H M) w y->(∀ u H',aj H H'->Den X.K (hd H' M) u z->Q u H')->r v w H Q
theorem aJ (ha:PE X a (dE X.K C τ (.d x))) (hb:PE X b (dE X.K C τ (.d y))) (ho:A3 X x y z) (hs:fZ b:=by exact λ_ _=>rfl):PE X (.Subscript a b pos) (dE X.K C τ (.d z)):=by
 obtain ⟨r,h1,h2⟩:=ho
 exact peW (xx h1 ha hb hs) (two h2)
theorem aT {xs:List D} (h:atI xs i=some z):A3 X (.lst xs) (.int i) z:=⟨_,oO,λM v w H Q _ d1 d2 q=>by
 cases d2
 cases d1 with
 | lst hs r=>
   obtain ⟨v,e,d⟩:=vY r h
   exact ⟨_,_,_,_,rfl,rfl,aN aI hs,e,q _ H (aj.refl _) d⟩⟩
theorem aV {xs:List D} (h:atI xs i=some z):A3 X (.tup xs) (.int i) z:=⟨_,CY,λM v w H Q _ d1 d2 q=>by
 cases d2
 cases d1 with
 | tup hs r=>
   obtain ⟨v,e,d⟩:=vY r h
   exact ⟨_,_,_,_,rfl,rfl,aY aI hs,e,q _ H (aj.refl _) d⟩⟩
noncomputable def dO (K:Fb) (τ:List Sl) (c:Option Int):TO:=λσ H Q=>∃ A H₀ B,Sta K A H₀ τ B σ H/\∀ H',aj H H'->Q c H'
theorem Du {e:Option Expr} {t t':TO} (h:PO X e t) (f:∀ σ H Q,t' σ H Q->t σ H Q):PO X e t':=λpins s σ H Q I q=>h pins s σ H Q I (f σ H Q q)
theorem gU:PO X none (dO X.K τ none):=Du yV λσ H Q ⟨A,H₀,B,S,k⟩=>k H (aj.refl _)
theorem gC (h:PE X e (dE X.K false τ (.d (.int i)))):PO X (some e) (dO X.K τ (some i)):=Du (zp h) λσ H Q ⟨A,H₀,B,S,k⟩=>aH S λv H1 e1 d1=>by
 cases d1
 exact ⟨_,rfl,k H1 e1⟩
noncomputable def cutD (xs:List D) (lo hi:Option Int):List D:=(xs.drop (HT.sIx xs.length 0 lo)).take (HT.sIx xs.length xs.length hi - HT.sIx xs.length 0 lo)
theorem yL {lo hi:Option Expr} {l u:Option Int} {xs:List D} {p2:Pos} (ha:PE X a (dE X.K C τ (.d (.lst xs)))) (hl:PO X lo (dO X.K τ l)) (hu:PO X hi (dO X.K τ u)):PE X (.Subscript a (.Slice lo hi none p2) pos) (dE X.K C τ (.o (cutD xs l u))):=
 peW (oW z9 ha hl hu) λσ H Q ⟨A,H₀,B,S,k⟩=>aH S λv H1 e1 d1=>⟨A,H₀,B,S.mono e1,λH2 e2=>⟨A,H₀,B,(S.mono e1).mono e2,λH3 e3=>by
   cases d1 with
   | @lst _ ws _ h r=>
     have h:=aN (e2.trans e3) (aN aI h)
     refine ⟨_,_,rfl,h,λp hp=>?_⟩
     have r:=r.mono (ay (e2.trans e3) λ_ z=>z)
     have r':ar X.K (hd H3 (vw C A B)) (kI ws l u) (cutD xs l u):=by
       unfold kI cutD
       rw [r.length]
       exact (r.drop _).take _
     obtain ⟨z1,z2,z3⟩:=jh (K:=X.K) hp r'
     exact k _ _ [p] (e1.trans (e2.trans (e3.trans z1))) (λb hb=>⟨(e1.trans (e2.trans e3)).free (z2 b hb).1,(z2 b hb).2⟩) z3⟩⟩
inductive Ty where
 | int | bool | str | list | tuple
noncomputable def tyN:Ty->String
 | .int=>"int" | .bool=>"bool" | .str=>"str" | .list=>"list" | .tuple=>"tuple"
noncomputable def DP:D->String
 | .non=>"NoneType" | .bl _=>"bool" | .int _=>"int" | .str _=>"str" | .tup _=>"tuple" | .lst _=>"list" | .box _=>"dict"
noncomputable def l4:Ty->D->Bool
 | .int,.int _=>true
 | .int,.bl _=>true
 | .bool,.bl _=>true
 | .str,.str _=>true
 | .list,.lst _=>true
 | .tuple,.tup _=>true
 | _,_=>false
theorem A8 (K:Fb) (d:D) (t:Ty):PySem.W.kitOne K (.type (DP d)) (.type (tyN t))=some (l4 t d):=by
 cases d <;> cases t <;> (show PySem.W.kitOne K (.type _) (.type _)=some _) <;> with_unfolding_all rfl
theorem CQ (t:Ty):dg X (.builtin "isinstance") (λxs H Q=>∃ G x d,aj G H/\xs=[x,.ty (tyN t)]/\Den X.K G x d/\Q (.bl (l4 t d)) H):=by
 intro pins s σ H xs us Q I r q
 obtain ⟨G,x,d,sg,rfl,dx,q⟩:=q
 obtain ⟨u,w,rfl,rx,rt⟩:∃ u w,us=[u,w]/\RelV x u/\RelV (.ty (tyN t)) w:=by
   cases r with
   | cons r1 r=>cases r with
     | cons r2 r=>cases r; exact ⟨_,_,rfl,r1,r2⟩
 cases (show w=Kw (tyN t) from rt)
 have kt:=A8 X.K d t
 have fin:∀ tk,EP X pins σ Q (.bool (l4 t d)) { s with toks:=tk }:=λtk=>⟨.bl _,H,I.tok _,rfl,q⟩
 cases dx with
 | non=>cases (show u=GW from rx); exact Hj PySem.W.kitx_none I.kIn Hf kt (λz=>nomatch z) fin
 | bl=>cases (show u=GX _ from rx); exact Hj PySem.W.kitx_bool I.kIn Hf kt (λz=>nomatch z) fin
 | int=>obtain ⟨t',z⟩:=(show ∃ t,u=II _ t from rx); cases z; exact Hj PySem.W.kitx_int I.kIn Hf kt (λz=>nomatch z) fin
 | str=>obtain ⟨t',z⟩:=(show ∃ t,u=KR _ t from rx); cases z; exact Hj PySem.W.kitx_str I.kIn Hf kt (λz=>nomatch z) fin
 | tup h r1=>
   cases (show u=FV _ from rx)
   obtain ⟨its,_,⟨o,h1,h2,_⟩,_⟩:=I.tuple (aY sg h)
   exact Hj PySem.W.kitx_tuple I.kIn ⟨o,h1,h2⟩ kt (λz=>nomatch z) fin
 | lst h r1=>
   cases (show u=FV _ from rx)
   obtain ⟨its,_,⟨o,n,h1,h2,_⟩,_⟩:=I.list (aN sg h)
   exact Hj PySem.W.kitx_list I.kIn ⟨o,h1,h2⟩ kt (λz=>nomatch z) fin
 | @box a x h=>
   cases (show u=FV _ from rx)
   obtain ⟨o',h1,h2⟩:=x.isd h
   obtain ⟨o,h3,h4⟩:=h2 _ _ _ _ (I.hok a _ (sg _ _ h1))
   exact Hj PySem.W.kitx_dict I.kIn ⟨o,h3,h4⟩ kt (λz=>nomatch z) fin
theorem gx {n:Str} {q:Pos} (t:Ty) (B:Bk X k) (ha:PE X a (dE X.K false τ (.d x))) (hn:n ∈ ai:=by decide) (ht:bootBuiltins n=some (.type (tyN t)):=by decide +kernel) (hg:Gl X "isinstance":=by rfl) (hg':Gl X n:=by rfl) (h1:n ≠ "__name__":=by decide) (hdb:(n == ("__debug__" : Str))=false:=by decide)
   (he:starEach [a,.Name n q] X.env=(false,eval a X.env) :: starEach [.Name n q] X.env:=by rfl) (hpl:(backTo pos (starEach [.Name n q] X.env)).any (·.1)=false:=by rfl):PE X (.Call (.Name "isinstance" p) [a,.Name n q] [] pos) (dE X.K C τ (.d (.bl (l4 t x)))):=by
 refine peW (pC (CQ t) hg (B.blt _ (by decide)) (by decide +kernel) (bO ha (bO (zV (v:=.ty (tyN t)) hg' (B.blt _ hn) ht rfl h1 hdb) dC) he) (by decide) (by decide) he hpl) λσ H Q q=>?_
 obtain ⟨A,H₀,B,S,k⟩:=cJ q
 exact aH S λv H1 e1 d1=>⟨_,v,x,aI,rfl,d1,k _ H1 e1 .bl⟩
end
section
variable {K:Fb} {A:Addr->Prop} {H₀ H H':Hp} {τ:List Sl} {B:Nat->List Addr} {σ:L2.St}
theorem Sta.put (S:Sta K A H₀ τ B σ H) {i:Nat} {a:Addr} {xs ys:List D} {vs:List V} (hi:τ[i]?=some (.o xs)) (hB:B i=[a]) (d:ar K (hd H (own A B)) vs ys):Sta K A H₀ (τ.set i (.o ys)) B σ (upd H a (.lst vs)):=by
 have ha:own A B a:=.inr ⟨i,by rw [hB]; exact Ff.mpr rfl⟩
 have ne:∀ b,b ≠ a->upd H a (.lst vs) b=H b:=λb h=>av h
 have sm:aj (hd H (own A B)) (hd (upd H a (.lst vs)) (own A B)):=λb o z=>by
   obtain ⟨z1,z2⟩:=ao.mp z
   exact ao.mpr ⟨z1,by rw [ne b (λe=>z1 (e ▸ ha))]; exact z2⟩
 have f0:H₀ a=none:=S.fr i a (by rw [hB]; exact Ff.mpr rfl)
 have hs:aj H₀ (upd H a (.lst vs)):=λb o z=>by rw [ne b (λe=>by rw [e,f0] at z; cases z)]; exact S.same b o z
 refine ⟨hs,by rw [FF,S.len],λj t hj=>?_,S.fr,S.uq,S.ad,λj b hb=>?_⟩
 · by_cases ej:j=i
   · subst ej
     have hl:=(Fn.mp hi).1
     rw [FP hl] at hj
     cases hj
     obtain ⟨a',vs',e1,e2,_,_⟩:=S.sl j _ hi
     rw [hB] at e1
     cases e1
     exact ⟨a,vs,hB,e2,aC,d.mono sm⟩
   · rw [Ft (λz=>ej z.symm)] at hj
     have q:=S.sl j t hj
     have off:∀ b ∈ B j,b ≠ a:=λb hb e=>ej (S.uq j i a (e ▸ hb) (by rw [hB]; exact Ff.mpr rfl))
     cases t with
     | un=>exact q
     | d x=>obtain ⟨z,u,e,d⟩:=q; exact ⟨z,u,e,d.mono sm⟩
     | o zs=>
       obtain ⟨c,ws,z1,z2,z3,z4⟩:=q
       exact ⟨c,ws,z1,z2,by rw [ne c (off c (by rw [z1]; exact Ff.mpr rfl))]; exact z3,z4.mono sm⟩
     | n t=>
       obtain ⟨z0,u,z1,z2⟩:=q
       exact ⟨z0,u,z1,z2.frame sm λb hb=>ne b (off b hb)⟩
     | x E=>
       obtain ⟨c,o,z1,z2,z3,z4⟩:=q
       exact ⟨c,o,z1,z2,by rw [ne c (off c (by rw [z1]; exact Ff.mpr rfl))]; exact z3,E.mono sm z4⟩
 · by_cases e:b=a
   · subst e; exact ⟨_,aC⟩
   · rw [ne b e]; exact S.bd j b hb
theorem Sta.fz (S:Sta K A H₀ τ B σ H) {i:Nat} {s:Sl} {x:D} (hi:τ[i]?=some s) (hx:fzD s=some x):Sta K A H₀ (τ.set i (.d x)) (upB B i []) σ H:=
 S.less (λ_ z=>nomatch z) λG g hv=>by
   obtain ⟨u,e,d⟩:=(S.sl i s hi).den (G':=G) g (λb hb o ho=>hv b o hb (λz=>nomatch z) ho) hx
   exact ⟨rfl,u,e,d⟩
theorem Sta.un (S:Sta K A H₀ τ B σ H) (i:Nat):Sta K A H₀ (τ.set i .un) (upB B i []) σ H:=S.less (λ_ z=>nomatch z) λG g hv=>rfl
end
section
variable {X:Cx} {C:Bool} {τ:List Sl} {x y z:D} {a b e c:Expr} {es:List Expr} {pos p:Pos} {k:Nat} {s:Sl} {ds:List D} {N:Po} {st:Stmt} {rest body els:List Stmt}
theorem aM (h:N.nx τ):PSs X [] (dS X.K τ N):=jJ uj λD σ H ⟨A,H₀,B,S,M⟩=>M.nx τ B σ H h S
theorem a8 {M:List Sl->Prop} (h1:PS X st (dS X.K τ { N with nx:=M })) (h2:∀ τ',M τ'->PSs X rest (dS X.K τ' N)):PSs X (st :: rest) (dS X.K τ N):=by
 have h:PSs X rest λD σ H=>∃ τ',M τ'/\dS X.K τ' N D σ H:=λpins s σ H D I ⟨τ',m,q⟩=>h2 τ' m pins s σ H D I q
 exact jJ (fM h1 h) λD σ H ⟨A,H₀,B,S,Me⟩=>⟨A,H₀,B,S,λτ' B' σ' H' m S'=>⟨τ',m,A,H₀,B',S',Me⟩,Me.bk,Me.ct,Me.rt,Me.xc⟩
theorem DO (i:Nat) {s:Sl} {x:D} (h:PSs X rest (dS X.K (τ.set i (.d x)) N)) (hi:τ[i]?=some s:=by rfl) (hx:fzD s=some x:=by rfl):PSs X rest (dS X.K τ N):=jJ h λD σ H ⟨A,H₀,B,S,Me⟩=>⟨A,H₀,_,S.fz hi hx,Me⟩
theorem EC (i:Nat) (h:PSs X rest (dS X.K (τ.set i .un) N)):PSs X rest (dS X.K τ N):=jJ h λD σ H ⟨A,H₀,B,S,Me⟩=>⟨A,H₀,_,S.un i,Me⟩
theorem aw (i:Nat) {n:Str} {p:Pos} (hN:X.N.Nodup) (he:PE X e (dE X.K true τ s)) (hr:PSs X rest (dS X.K (τ.set i s) N)) (hi:X.N[i]?=some n:=by rfl) (hx:Loc X.env.scope n:=by first | exact .inl rfl | exact .inr rfl) (hs:swapsWith e (some (.Name n p)) pos.line X.env=pure false:=by rfl)
   (hf:X.fn n=true\/X.env.scope.names.lookup n=some .local:=by first | exact .inl rfl | exact .inr rfl | assumption):PSs X (.Assign [.Name n p] e pos :: rest) (dS X.K τ N):=
 a8 (M:=(·=τ.set i s)) (psW (oB hN hi hx he hs hf) λD σ H ⟨A,H₀,B,S,Me⟩=>⟨A,H₀,B,S,λv H' bs e hf h=>Me.nx _ _ _ _ rfl (S.set e hf h)⟩) λ_ e=>e ▸ hr
theorem gW (he:PE X e (dE X.K true τ s)) (hr:PSs X rest (dS X.K τ N)) (hs:swapsWith e none pos.line X.env=pure false:=by rfl):PSs X (.Expr e pos :: rest) (dS X.K τ N):=
 a8 (M:=(·=τ)) (psW (fV he hs) λD σ H ⟨A,H₀,B,S,Me⟩=>⟨A,H₀,B,S,λv H' bs e hf h=>Me.nx _ _ _ _ rfl (S.mono e)⟩) λ_ e=>e ▸ hr
theorem aF (he:PE X e (dE X.K false τ s)) (h:N.rt s):PSs X (.Return (some e) pos :: rest) (dS X.K τ N):=
 a8 (M:=λ_=>False) (psW (rY he) λD σ H ⟨A,H₀,B,S,Me⟩=>⟨A,H₀,B,S,λv H' bs e hf q=>Me.rt v H' bs s h (S.same.trans e) (λb hb=>⟨S.same.free (hf b hb).1,(hf b hb).2⟩) q⟩) λ_ e=>e.elim
theorem jj (i:Nat) {n:Str} (h:N.rt s) (hi:τ[i]?=some s:=by rfl) (h0:s ≠ .un:=by exact nofun) (hN:X.N[i]?=some n:=by rfl) (hv:Vis X.env.scope n:=by first | exact GO rfl | exact F5 (GO rfl) | exact F5 (F5 rfl))
   (hd:(n == ("__debug__" : Str))=false:=by decide) (hcd:(n == ("__classdict__" : Str))=false:=by decide):PSs X (.Return (some (.Name n p)) pos :: rest) (dS X.K τ N):=
 a8 (M:=λ_=>False) (psW (rY (bx hN hv hd hcd)) λD σ H ⟨A,H₀,B,S,Me⟩=>by
   have q:=S.sl i s hi
   obtain ⟨u,e⟩:∃ u,(σ[i]?).join=some u:=by
     cases s with
     | un=>exact absurd rfl h0
     | d x=>obtain ⟨_,u,e,_⟩:=q; exact ⟨u,e⟩
     | o xs=>obtain ⟨_,_,_,e,_⟩:=q; exact ⟨_,e⟩
     | n t=>obtain ⟨_,u,e,_⟩:=q; exact ⟨u,e⟩
     | x E=>obtain ⟨_,_,_,e,_⟩:=q; exact ⟨_,e⟩
   rw [e] at q
   exact ⟨u,slot_of e,Me.rt u H (B i) s h S.same (λb hb=>⟨S.fr i b hb,S.bd i b hb⟩) (q.mono (ay (aj.refl _) λb z=>z.elim .inl λz=>.inr ⟨i,z⟩) (aj.refl _))⟩) λ_ e=>e.elim
theorem Av {H H':Hp} {σ:L2.St} {D:Ends} {A:Addr->Prop} {H₀:Hp} {B:Nat->List Addr} (S:Sta X.K A H₀ τ B σ H) (Me:Meets X.K A H₀ N D) (e:aj H H'):dS X.K τ N D σ H':=⟨A,H₀,B,S.mono e,Me⟩
theorem EB {t:Bool} (hc:PT X c (dT X.K τ t)) (ha:t=true->PSs X body (dS X.K τ N)) (hb:t=false->PSs X els (dS X.K τ N)):PS X (.If c body els pos) (dS X.K τ N):=by
 cases t with
 | true=>exact psW (AL hc (ha rfl) mI) λD σ H ⟨A,H₀,B,S,Me⟩=>⟨A,H₀,B,S,λH' e=>uQ (Av S Me e)⟩
 | false=>exact psW (AL hc mI (hb rfl)) λD σ H ⟨A,H₀,B,S,Me⟩=>⟨A,H₀,B,S,λH' e=>vA (Av S Me e)⟩
theorem ja {t:Bool} {M:List Sl->Prop} (hc:PT X c (dT X.K τ t)) (ha:t=true->PSs X body (dS X.K τ { N with nx:=M })) (hb:t=false->PSs X els (dS X.K τ { N with nx:=M })) (hr:∀ τ',M τ'->PSs X rest (dS X.K τ' N)):PSs X (.If c body els pos :: rest) (dS X.K τ N):=
 a8 (EB hc ha hb) hr
theorem b9 {t:Bool} (hc:PT X c (dT X.K τ t)) (ha:t=true->PSs X body (dS X.K τ { N with nx:=λ_=>False })) (hr:t=false->PSs X rest (dS X.K τ N)):PSs X (.If c body [] pos :: rest) (dS X.K τ N):=by
 cases t with
 | true=>exact ja (M:=λ_=>False) hc ha (λz=>nomatch z) λ_ z=>z.elim
 | false=>exact ja (M:=(·=τ)) hc (λz=>nomatch z) (λ_=>aM rfl) λ_ e=>e ▸ hr rfl
theorem cL {t:Bool} (hc:PT X c (dT X.K τ t)) (ht:t=false) (hr:PSs X rest (dS X.K τ N)):PSs X (.If c body [] pos :: rest) (dS X.K τ N):=b9 hc (λz=>by rw [ht] at z; cases z) λ_=>hr
theorem vN (i:Nat) {n:Str} {xs:List D} {ap cp:Pos} (he:PE X e (dE X.K true τ (.d x))) (hl:xs.length < 1000000) (hr:PSs X rest (dS X.K (τ.set i (.o (xs++[x]))) N)) (hi:τ[i]?=some (.o xs):=by rfl) (hN:X.N[i]?=some n:=by rfl)
   (hv:Vis X.env.scope n:=by first | exact GO rfl | exact F5 (GO rfl) | exact F5 (F5 rfl)) (hd:(n == ("__debug__" : Str))=false:=by decide) (hcd:(n == ("__classdict__" : Str))=false:=by decide)
   (hfew:((backTo cp (starEach [e] X.env)).all (λx=>!x.1) && (backToKw cp (keywordEach [] X.env)).all (λx=>x.1.isSome) && decide (([e]:List Expr).length + ([]:List Keyword).length + (if ([]:List Keyword).isEmpty then 0 else 1) < 30))=true:=by rfl)
   (hline:(ap.endLine == cp.line)=true:=by rfl) (hst:starEach [e] X.env=(false,eval e X.env) :: starEach [] X.env:=by rfl) (hpl:(backTo cp (starEach [] X.env)).any (·.1)=false:=by rfl)
   (hs:swapsWith (.Call (.Attribute (.Name n p) "append" ap) [e] [] cp) none pos.line X.env=pure false:=by rfl) (hbase:attributeBase (.Name n p) "append" X.env (eval (.Name n p) X.env)=eval (.Name n p) X.env:=by rfl) :
   PSs X (.Expr (.Call (.Attribute (.Name n p) "append" ap) [e] [] cp) pos :: rest) (dS X.K τ N):=
 a8 (M:=(·=τ.set i (.o (xs++[x])))) (psW (fV (pZ GU Jb Ke fW (bx hN hv hd hcd) (bO he dC hst) hbase hfew hline hst hpl) hs) λD σ H ⟨A,H₀,B,S,Me⟩=>by
   obtain ⟨l,vs,hb,e1,e2,d⟩:=S.sl i _ hi
   refine ⟨_,slot_of e1,.inl ⟨rfl,_,SqL.of e2⟩,aH S λv H1 e3 d1=>⟨l,vs,v,rfl,rfl,e3 _ _ e2,by rw [d.length]; exact GP hl (by decide),?_⟩⟩
   exact Me.nx _ _ _ _ rfl ((S.mono e3).put hi hb ((d.mono (ay e3 λ_ z=>z)).append (.cons d1 .nil)))) λ_ e=>e ▸ hr
theorem fY {K:Fb} {H:Hp}:∀ {vs:List V} {ds:List D} {v:V} {d:D} (j:Nat),ar K H vs ds->Den K H v d->ar K H (vs.set j v) (ds.set j d)
 | _,_,_,_,_,.nil,_=>.nil
 | _,_,_,_,0,.cons _ r,h=>.cons h r
 | _,_,_,_,j + 1,.cons h' r,h=>.cons h' (fY j r h)
theorem Au (i:Nat) {n:Str} {xs:List D} {m:Int} {j:Nat} {ix:Expr} {sp:Pos} (hx:PE X ix (dE X.K false τ (.d (.int m)))) (he:PE X e (dE X.K true τ (.d x))) (hj:ixN xs.length m=some j) (hr:PSs X rest (dS X.K (τ.set i (.o (xs.set j x))) N)) (hi:τ[i]?=some (.o xs):=by rfl) (hN:X.N[i]?=some n:=by rfl)
   (hv:Vis X.env.scope n:=by first | exact GO rfl | exact F5 (GO rfl) | exact F5 (F5 rfl)) (hd:(n == ("__debug__" : Str))=false:=by decide) (hcd:(n == ("__classdict__" : Str))=false:=by decide)
   (hs:swapsWithSole [.Subscript (.Name n p) ix sp] e pos.line X.env=pure false:=by rfl) (hw:swappedStores [.Subscript (.Name n p) ix sp] e X.env=pure none:=by rfl) (h1:(assignEach [.Subscript (.Name n p) ix sp] X.env).map (·.2)=[assign (.Subscript (.Name n p) ix sp) X.env]:=by rfl)
   (ha:∀ v,assign (.Subscript (.Name n p) ix sp) X.env v=(do
     let ov <- holding [v] (eval (.Name n p) X.env)
     let iv <- holding [v,ov] (eval ix X.env)
     standAt sp
     holding [v,ov,iv] (setItem ov iv v)
     release [v,ov,iv] []):=by intro _; rfl) :
   PSs X (.Assign [.Subscript (.Name n p) ix sp] e pos :: rest) (dS X.K τ N):=
 a8 (M:=(·=τ.set i (.o (xs.set j x)))) (psW (fH he (gN (bx hN hv hd hcd) hx set_list ha) hs hw h1) λD σ H ⟨A,H₀,B,S,Me⟩=>aH S λv H1 e1 d1=>by
   obtain ⟨l,vs,hb,f1,f2,d⟩:=(S.mono e1).sl i _ hi
   refine ⟨_,slot_of f1,aH (S.mono e1) λw H2 e2 d2=>?_⟩
   cases d2
   refine ⟨l,vs,m,j,rfl,rfl,e2 _ _ f2,by rw [d.length]; exact hj,?_⟩
   exact Me.nx _ _ _ _ rfl (((S.mono e1).mono e2).put hi hb (fY j (d.mono (ay e2 λ_ z=>z)) (d1.mono (ay e2 λ_ z=>z))))) λ_ e=>e ▸ hr
end
end Hy
namespace Hy
open PySem PySem.Spec PyProof.Rows L2
open Ev (D Den ar ak aY aN Ite Itz Cz Cs og rb aG fq dj PTs cy eo)
noncomputable def Yl (K:Fb) (J:L2.It) (xs:List D) (G:Hp):Prop:=∀ H,aj G H->(∀ i,xs.length<=i->J.stop i H)/\∀ (i:Nat) (h:i < xs.length),J.go i H /\
 ∀ x H',J.yld i H x H'->aj H H'/\∀ M:Addr->Prop,(∀ b,M b->∃ o,H b=some o)->aj G (hd H M)->Den K (hd H' M) x xs[i]
noncomputable def dI (K:Fb) (τ:List Sl) (xs:List D):TI:=λσ H R=>∃ A H₀ B,Sta K A H₀ τ B σ H/\∀ J H',aj H H'->Yl K J xs (hd H' (own A B))->R J H'
noncomputable def dG (K:Fb) (τ:List Sl) (x:D) (τ':List Sl):TG:=λv σ H Q=>∃ A H₀ B,Sta K A H₀ τ B σ H/\Den K (hd H (own A B)) v x/\∀ σ' B',Sta K A H₀ τ' B' σ' H->Q σ' H
theorem piW {X:Cx} {tg e:Expr} {t t':TI} (h:PI X tg e t) (f:∀ σ H Q,t' σ H Q->t σ H Q):PI X tg e t':=λpins s σ H Q I q=>h pins s σ H Q I (f σ H Q q)
theorem pgW {X:Cx} {e:Expr} {t t':TG} (h:PG X e t) (f:∀ v σ H Q,t' v σ H Q->t v σ H Q):PG X e t':=λpins s σ H v u Q I r q=>h pins s σ H v u Q I r (f v σ H Q q)
section
variable {K:Fb} {G:Hp} {a:Addr} {vs:List V} {xs:List D}
theorem yZ (h:SqL K G a vs) (r:ar K G vs xs):Yl K (Itl K a) xs G:=by
 intro H sg
 have hl:=r.length
 refine ⟨λi hi=>⟨vs,aN sg h,by omega⟩,λi hi=>?_⟩
 obtain ⟨v,hv,dv⟩:=r.get (Fe hi)
 refine ⟨⟨vs,v,aN sg h,hv⟩,λx H' ⟨e1,e2⟩=>?_⟩
 subst e1
 have ex:x=v:=by have:=e2 vs (aN sg h); rw [hv] at this; exact (FX this).symm
 subst ex
 exact ⟨aj.refl _,λM _ sv=>dv.mono sv⟩
noncomputable def jl (lo:Int) (n:Nat):List D:=(Fd n).map λk=>D.int (lo + (k:Nat))
theorem aB (lo:Int) (n:Nat):(jl lo n).length=n:=by simp [jl]
theorem hX (lo:Int) (n i:Nat) (h:i < (jl lo n).length):(jl lo n)[i]=.int (lo + (i:Nat)):=by simp [jl]
theorem vT (lo:Int) (n:Nat):Yl K (Itr lo n) (jl lo n) G:=by
 intro H sg
 refine ⟨λi hi=>by rw [aB] at hi; exact hi,λi hi=>?_⟩
 have hi':i < n:=by rw [aB] at hi; exact hi
 refine ⟨hi',λx H' ⟨e1,e2⟩=>?_⟩
 subst e1 e2
 refine ⟨aj.refl _,λM _ sv=>?_⟩
 rw [hX]
 exact .int
noncomputable def ky (xs:List D):List D:=(Fd xs.length).map λi=>D.tup [.int (i:Nat),xs.getD i .non]
theorem cB (xs:List D):(ky xs).length=xs.length:=by simp [ky]
theorem nq (xs:List D) (i:Nat) (h:i < (ky xs).length):(ky xs)[i]=.tup [.int (i:Nat),xs.getD i .non]:=by simp [ky]
theorem AW (h:SqL K G a vs) (r:ar K G vs xs):Yl K (Ite K a) (ky xs) G:=by
 intro H sg
 have hl:=r.length
 have el:=cB xs
 refine ⟨λi hi=>⟨vs,aN sg h,by omega⟩,λi hi=>?_⟩
 have hi':i < xs.length:=by omega
 obtain ⟨v,hv,dv⟩:=r.get (Fe hi')
 refine ⟨⟨vs,v,aN sg h,hv⟩,λy H' ⟨p,x,hp,e0,e1,e2⟩=>?_⟩
 subst e0 e1
 have ex:x=v:=by have:=e2 vs (aN sg h); rw [hv] at this; exact (FX this).symm
 subst ex
 refine ⟨ak hp _,λM hM sv=>?_⟩
 rw [nq,show xs.getD i .non=xs[i] by simp [IQ,hi']]
 exact .tup (SqT.of (kY hM hp)) (.cons .int (.cons (dv.mono (sv.trans (ay (ak hp _) λ_ z=>z))) .nil))
end
section
variable {X:Cx} {C:Bool} {τ:List Sl} {x y z:D} {a b e c tg it:Expr} {es:List Expr} {pos p q:Pos} {k:Nat} {s:Sl} {xs:List D} {N:Po} {st:Stmt} {rest body els:List Stmt}
theorem aU (h:PE X it (dE X.K true τ (.d (.lst xs)))) (hc:X.calm=true:=by first | rfl | assumption):PI X tg it (dI X.K τ xs):=piW (tw hc h) λσ H R ⟨A,H₀,B,S,k⟩=>aH S λv H1 e1 d1=>by
 cases d1 with
 | lst h r=>exact ⟨_,rfl,⟨_,aN aI h⟩,k _ H1 e1 (yZ h r)⟩
theorem dZ {n:Int} (B:Bk X k) (h:PE X a (dE X.K false τ (.d (.int n)))) (h1:-(2 ^ 62)<=n) (h2:n < 2 ^ 62) (hg:Gl X "range":=by rfl) (hs:starEach [a] X.env=[(false,eval a X.env)]:=by rfl):PI X tg (.Call (.Name "range" p) [a] [] pos) (dI X.K τ (jl 0 n.toNat)):=
 piW (uo (.inl B.calm) hg (B.blt _ (by decide)) (ab h af hs) hs) λσ H R ⟨A,H₀,B,S,k⟩=>gp S λvs H1 e1 d1=>by
   cases d1 with
   | cons d r=>
     cases r
     cases d
     exact ⟨n,rfl,h1,h2,k _ H1 e1 (vT 0 _)⟩
theorem iZ {m n:Int} (B:Bk X k) (h:PE X a (dE X.K false τ (.d (.int m)))) (h':PE X b (dE X.K false τ (.d (.int n)))) (h1:-(2 ^ 62)<=m/\m < 2 ^ 62/\-(2 ^ 62)<=n/\n < 2 ^ 62) (hg:Gl X "range":=by rfl) (hs:starEach [a,b] X.env=[(false,eval a X.env),(false,eval b X.env)]:=by rfl)
   (hs2:starEach [b] X.env=[(false,eval b X.env)]:=by rfl):PI X tg (.Call (.Name "range" p) [a,b] [] pos) (dI X.K τ (jl m (n - m).toNat)):=
 piW (uH (.inl B.calm) hg (B.blt _ (by decide)) (ab h (ab h' af hs2) (by rw [hs,hs2])) hs hs2) λσ H R ⟨A,H₀,B,S,k⟩=>gp S λvs H1 e1 d1=>by
   cases d1 with
   | cons d r=>
     cases r with
     | cons d' r=>
       cases r
       cases d
       cases d'
       exact ⟨m,n,rfl,h1,k _ H1 e1 (vT m _)⟩
theorem yk {ts:List Expr} {m:Nat} {tp:Pos} (B:Bk X k) (h:PE X a (dE X.K true τ (.d (.lst xs)))) (hg:Gl X "enumerate":=by rfl) (hs:starEach [a] X.env=[(false,eval a X.env)]:=by rfl):PI X (.Tuple ts m tp) (.Call (.Name "enumerate" p) [a] [] pos) (dI X.K τ (ky xs)):=
 piW (og B.calm hg (B.blt _ (by decide)) (ab h af hs) hs) λσ H R ⟨A,H₀,B,S,k⟩=>gp S λvs H1 e1 d1=>by
   cases d1 with
   | cons d r=>
     cases r
     cases d with
     | lst h r=>exact ⟨_,rfl,⟨_,aN aI h⟩,k _ H1 e1 (AW h r)⟩
theorem ze (i:Nat) {n:Str} (hN:X.N.Nodup) (hi:X.N[i]?=some n:=by rfl) (hx:Loc X.env.scope n:=by first | exact .inl rfl | exact .inr rfl) (hf:X.fn n=true\/X.env.scope.names.lookup n=some .local:=by first | exact .inl rfl | exact .inr rfl | assumption):PG X (.Name n p) (dG X.K τ x (τ.set i (.d x))):=
 pgW (dr (i:=i) hN hi hx hf) λv σ H Q ⟨A,H₀,B,S,d,k⟩=>k _ _ (S.set (aj.refl _) (bs:=[]) (λ_ z=>nomatch z) (iB d))
theorem AA (i j:Nat) {n m:Str} {p2 pt:Pos} {md:Nat} (hc:X.calm=true) (hN:X.N.Nodup) (hi:X.N[i]?=some n:=by rfl) (hj:X.N[j]?=some m:=by rfl) (hx:Loc X.env.scope n:=by first | exact .inl rfl | exact .inr rfl) (hy:Loc X.env.scope m:=by first | exact .inl rfl | exact .inr rfl)
   (hf:X.fn n=true\/X.env.scope.names.lookup n=some .local:=by first | exact .inl rfl | exact .inr rfl | assumption) (hf':X.fn m=true\/X.env.scope.names.lookup m=some .local:=by first | exact .inl rfl | exact .inr rfl | assumption) :
   PG X (.Tuple [.Name n p,.Name m p2] md pt) (dG X.K τ (.tup [x,y]) ((τ.set i (.d x)).set j (.d y))):=by
 refine pgW (yn hc (kR (dr (i:=i) hN hi hx hf) (kR (dr (i:=j) hN hj hy hf') tJ))) λv σ H Q ⟨A,H₀,B,S,d,k⟩=>?_
 cases d with
 | tup h r=>
   cases r with
   | cons d1 r=>
     cases r with
     | cons d2 r=>
       cases r
       have S1:=S.set (i:=i) (aj.refl _) (bs:=[]) (λ_ z=>nomatch z) (iB d1)
       have sub:∀ b,own A (upB B i []) b->own A B b:=λb z=>z.elim .inl λ⟨j,z⟩=>(aZ z).elim (λz=>nomatch z.2) λz=>.inr ⟨j,z.2⟩
       exact ⟨_,_,rfl,aY aI h,rfl,_,_,rfl,_,_,rfl,rfl,k _ _ (S1.set (i:=j) (aj.refl _) (bs:=[]) (λ_ z=>nomatch z) (iB (d2.mono (ay (aj.refl _) sub))))⟩
theorem Sta.base {K:Fb} {A:Addr->Prop} {H₀ H:Hp} {τ:List Sl} {B:Nat->List Addr} {σ:L2.St} (S:Sta K A H₀ τ B σ H):aj H₀ (hd H λb=>∃ i,b ∈ B i)/\Sta K A (hd H λb=>∃ i,b ∈ B i) τ B σ H:=by
 have s0:aj H₀ (hd H λb=>∃ i,b ∈ B i):=λb o h=>ao.mpr ⟨λ⟨i,z⟩=>(by rw [S.fr i b z] at h; cases h),S.same _ _ h⟩
 exact ⟨s0,aI,S.len,S.sl,λi b hb=>by
   cases e:hd H (λb=>∃ i,b ∈ B i) b with
   | none=>rfl
   | some o=>exact absurd ⟨i,hb⟩ (ao.mp e).1,S.uq,λb hb=>let ⟨o,q⟩:=S.ad b hb; ⟨o,s0 _ _ q⟩,S.bd⟩
theorem Sta.back {K:Fb} {A:Addr->Prop} {H₀ G H:Hp} {τ:List Sl} {B:Nat->List Addr} {σ:L2.St} (S:Sta K A G τ B σ H) (s:aj H₀ G) (ad:∀ b,A b->∃ o,H₀ b=some o):Sta K A H₀ τ B σ H:=
 ⟨s.trans S.same,S.len,S.sl,λi b hb=>s.free (S.fr i b hb),S.uq,ad,S.bd⟩
theorem Ay {M:Nat->List Sl->Prop} {T:Nat->List Sl->List Sl} (B:Bk X k) (hi:PI X tg it (dI X.K τ xs)) (h0:M 0 τ) (hg:∀ i (h:i < xs.length) τ',M i τ'->PG X tg (dG X.K τ' xs[i] (T i τ')))
   (hb:∀ i,i < xs.length->∀ τ',M i τ'->PSs X body (dS X.K (T i τ') { N with nx:=M (i + 1),ct:=M (i + 1),bk:=N.nx })) (hn:∀ τ',M xs.length τ'->N.nx τ')
   (hs:∀ x,foldedSetIterable it X.env x=pure x:=by intro _; rfl):PS X (.For tg it body [] pos) (dS X.K τ N):=by
 have hg':PG X tg λv σ H Q=>∃ (i:Nat) (h:i < xs.length) (τ':List Sl),M i τ'/\dG X.K τ' xs[i] (T i τ') v σ H Q:=λpins s σ H v u Q I r ⟨i,h,τ',m,q⟩=>hg i h τ' m pins s σ H v u Q I r q
 have hb':PSs X body λD σ H=>∃ i τ',i < xs.length/\M i τ'/\dS X.K (T i τ') { N with nx:=M (i + 1),ct:=M (i + 1),bk:=N.nx } D σ H:=λpins s σ H D I ⟨i,τ',h,m,q⟩=>hb i h τ' m pins s σ H D I q
 refine psW (xF B.po hi hg' hb' hs) λD σ H ⟨A,H₀,B,S,Me⟩=>⟨A,H₀,B,S,λJ H1 e1 yl=>?_⟩
 obtain ⟨s0,S1⟩:=(S.mono e1).base
 have sub:∀ {H'},aj (hd H1 λb=>∃ i,b ∈ B i) H'->aj (hd H1 (own A B)) H':=λe=>(ay (aj.refl _) λ_ z=>.inr z).trans e
 refine ⟨λi m σ' H'=>m=xs.length - i/\i<=xs.length/\∃ τ' B',M i τ'/\Sta X.K A (hd H1 λb=>∃ i,b ∈ B i) τ' B' σ' H',⟨xs.length,rfl,FR _,τ,B,h0,S1⟩,?_⟩
 rintro i m σ' H' ⟨rfl,hi,τ',B',hM,S'⟩
 obtain ⟨y1,y2⟩:=yl H' (sub S'.same)
 by_cases hlt:i < xs.length
 · obtain ⟨g,y⟩:=y2 i hlt
   refine .inr ⟨g,λσ2 H2=>∃ τ2 B2,M (i + 1) τ2/\Sta X.K A (hd H1 λb=>∃ i,b ∈ B i) τ2 B2 σ2 H2,λσ2 H2 q=>⟨xs.length - (i + 1),by omega,rfl,hlt,q⟩,λx H2 hy=>?_⟩
   obtain ⟨e2,dx⟩:=y x H2 hy
   have S2:=S'.mono e2
   refine ⟨i,hlt,τ',hM,A,_,B',S2,dx (own A B') S'.dm ?_,λσ3 B3 S3=>⟨i,τ',hlt,hM,A,_,B3,S3,?_⟩⟩
   · intro b o z
     obtain ⟨z1,z2⟩:=ao.mp z
     have z3:hd H1 (λb=>∃ i,b ∈ B i) b=some o:=ao.mpr ⟨λy=>z1 (.inr y),z2⟩
     refine ao.mpr ⟨λy=>?_,S'.same _ _ z3⟩
     rcases y with y | ⟨l,y⟩
     · exact z1 (.inl y)
     · rw [S'.fr l b y] at z3; cases z3
   · exact ⟨λτ3 B3 σ3 H3 m S3=>⟨τ3,B3,m,S3⟩,λτ3 B3 σ3 H3 m S3=>Me.nx τ3 B3 σ3 H3 m (S3.back s0 S.ad),λτ3 B3 σ3 H3 m S3=>⟨τ3,B3,m,S3⟩,
       λv H3 bs s3 hr e3 hf q=>Me.rt v H3 bs s3 hr (s0.trans e3) (λb hb=>⟨s0.free (hf b hb).1,(hf b hb).2⟩) q,λH3 e3=>Me.xc H3 (s0.trans e3)⟩
 · have e:i=xs.length:=by omega
   subst e
   exact .inl ⟨y1 _ (Fc _),Me.nx τ' B' σ' H' (hn τ' hM) (S'.back s0 S.ad)⟩
theorem bu (j:Nat) {n:Str} (M:Nat->List Sl->Prop) {g:Nat->D} (B:Bk X k) (hN:X.N.Nodup) (hi:PI X (.Name n p) it (dI X.K τ xs)) (hx:∀ i (h:i < xs.length),xs[i]=g i) (h0:M 0 τ)
   (hb:∀ i,i < xs.length->∀ τ',M i τ'->PSs X body (dS X.K (τ'.set j (.d (g i))) { N with nx:=M (i + 1),ct:=M (i + 1),bk:=λ_=>False }))
   (hr:∀ τ',M xs.length τ'->PSs X rest (dS X.K τ' N)) (hs:∀ x,foldedSetIterable it X.env x=pure x:=by intro _; rfl) (hi':X.N[j]?=some n:=by rfl) (hl:Loc X.env.scope n:=by first | exact .inl rfl | exact .inr rfl)
   (hf:X.fn n=true\/X.env.scope.names.lookup n=some .local:=by first | exact .inl rfl | exact .inr rfl | assumption):PSs X (.For (.Name n p) it body [] pos :: rest) (dS X.K τ N):=
 a8 (M:=M xs.length) (Ay (M:=M) (T:=λi τ'=>τ'.set j (.d (g i))) B hi h0 (λi h τ' m=>by rw [hx i h]; exact ze j hN hi' hl hf)
   (λi h τ' m=>jJ (hb i h τ' m) λD σ H ⟨A,H₀,B,S,Me⟩=>⟨A,H₀,B,S,Me.nx,λ_ _ _ _ z=>z.elim,Me.ct,Me.rt,Me.xc⟩) (λ_ m=>m) hs) hr
theorem qJ (j l:Nat) {n m:Str} {p2 pt:Pos} {md:Nat} (M:Nat->List Sl->Prop) {g g':Nat->D} (B:Bk X k) (hN:X.N.Nodup) (hi:PI X (.Tuple [.Name n p,.Name m p2] md pt) it (dI X.K τ xs)) (hx:∀ i (h:i < xs.length),xs[i]=.tup [g i,g' i]) (h0:M 0 τ)
   (hb:∀ i,i < xs.length->∀ τ',M i τ'->PSs X body (dS X.K ((τ'.set j (.d (g i))).set l (.d (g' i))) { N with nx:=M (i + 1),ct:=M (i + 1),bk:=λ_=>False }))
   (hr:∀ τ',M xs.length τ'->PSs X rest (dS X.K τ' N)) (hs:∀ x,foldedSetIterable it X.env x=pure x:=by intro _; rfl) (hi':X.N[j]?=some n:=by rfl) (hj':X.N[l]?=some m:=by rfl) (hl:Loc X.env.scope n:=by first | exact .inl rfl | exact .inr rfl) (hl':Loc X.env.scope m:=by first | exact .inl rfl | exact .inr rfl)
   (hf:X.fn n=true\/X.env.scope.names.lookup n=some .local:=by first | exact .inl rfl | exact .inr rfl | assumption) (hf':X.fn m=true\/X.env.scope.names.lookup m=some .local:=by first | exact .inl rfl | exact .inr rfl | assumption):PSs X (.For (.Tuple [.Name n p,.Name m p2] md pt) it body [] pos :: rest) (dS X.K τ N):=
 a8 (M:=M xs.length) (Ay (M:=M) (T:=λi τ'=>(τ'.set j (.d (g i))).set l (.d (g' i))) B hi h0 (λi h τ' m=>by rw [hx i h]; exact AA j l B.calm hN hi' hj' hl hl' hf hf')
   (λi h τ' m=>jJ (hb i h τ' m) λD σ H ⟨A,H₀,B,S,Me⟩=>⟨A,H₀,B,S,Me.nx,λ_ _ _ _ z=>z.elim,Me.ct,Me.rt,Me.xc⟩) (λ_ m=>m) hs) hr
theorem dU {n:Nat} (i:Nat) (h:i < (jl 0 n).length):(jl 0 n)[i]=.int (i:Nat):=by rw [hX,Int.zero_add]
theorem Af {bs:List Int} (i:Nat) (h:i < (bs.map D.int).length):(bs.map D.int)[i]=.int (bs.getD i 0):=by
 have:i < bs.length:=by simpa using h
 simp [this]
theorem Ai {bs:List Int} (i:Nat) (h:i < (ky (bs.map D.int)).length):(ky (bs.map D.int))[i]=.tup [.int (i:Nat),.int (bs.getD i 0)]:=by
 have:i < bs.length:=by rw [cB] at h; simpa using h
 rw [nq]
 simp [this]
end
end Hy
namespace Hy
open PySem PySem.Spec PyProof.Rows L2
open Ev (D Den ar ak aY aN aG fq dj PTs cy eo iE)
noncomputable def slot:List Str->Str->Option Nat
 | [],_=>none
 | y :: r,x=>if x=y then some 0 else (slot r x).map (· + 1)
theorem slot_get:∀ {N:List Str} {x:Str} {i:Nat},slot N x=some i->N[i]?=some x
 | [],_,_,h=>by cases h
 | y :: r,x,i,h=>by
   unfold slot at h
   split at h
   · cases h; rename_i e; rw [e]; rfl
   · cases e:slot r x with
     | none=>rw [e] at h; cases h
     | some j=>rw [e] at h; cases h; simpa using slot_get e
noncomputable def vC (scope sc:Scope):Scope:={ scope with names:=scope.names.map λ(n,k)=>if (k == .free && sc.kind == .function && sc.names.lookup n == some .cell) then (n,.cell) else (n,k) }
noncomputable def bNm (scope:Scope):List Str:=(scope.names.filter λp=>(p.2 == .local || p.2 == .cell || p.2 == .free) && p.1 != (".0" : Str)).map (·.1)
noncomputable def bCp (No:List Str) (scope:Scope):List (Option Nat):=(bNm scope).map λx=>if (x,GC) ∈ scope.names then slot No x else none
noncomputable def bOk (sc scope:Scope):Bool:=
 scope.kind == .function && scope.names.all (λp=>p.2 != .local || scope.names.lookup p.1 == some .local) && scope.names.all (λp=>p.2 != .free || sc.names.lookup p.1 == some .cell)
   && scope.names.all (λp=>p.2 != .free || (!decide ((p.1,GS) ∈ scope.names) && !decide ((p.1,NameKind.local) ∈ scope.names))) && decide (bNm scope++[("#" : Str)]).Nodup
   && (vC scope sc).names.all (λp=>p.1 != ("#" : Str))
theorem x4 {a b:Bool} (h:(a && b)=true):a=true/\b=true:=by rw [F2] at h; exact h
theorem wq {x:Str} {q:NameKind}:∀ {names:List (Str × NameKind)},names.lookup x=some q->(x,q) ∈ names
 | (y,k) :: r,h=>by
   rw [F9] at h
   split at h
   · rename_i e; cases h; rw [eq_of_beq e]; exact Fi ..
   · exact Fh _ (wq h)
theorem fX {X:Cx} {scope:Scope} (h:bOk X.env.scope scope=true):dj X scope (bNm scope++[("#" : Str)]) (bCp X.N scope)/\(bNm scope++[("#" : Str)]).Nodup:=by
 unfold bOk at h
 obtain ⟨h,h6⟩:=x4 h
 obtain ⟨h,h5⟩:=x4 h
 obtain ⟨h,h4⟩:=x4 h
 obtain ⟨h,h3⟩:=x4 h
 obtain ⟨h1,h2⟩:=x4 h
 rw [F1] at h2 h3 h4 h6
 refine ⟨⟨eq_of_beq h1,λx hx hk=>?_,λx hx hk=>?_,λx hx hm=>?_,λx hx hm=>?_,?_,λj i hj=>?_,?_⟩,of_decide_eq_true h5⟩
 · have:=h2 x hx; rw [hk] at this; simpa using this
 · have:=h3 x hx; rw [hk] at this; show X.env.scope.names.lookup x.1=_; simpa using this
 · have:=h4 _ hx; simp [hm] at this
 · have:=h4 _ hx; simp [hm] at this
 · unfold bCp; rw [Fw,E9]; rfl
 · unfold bCp at hj
   rw [FL] at hj
   cases e:(bNm scope)[j]? with
   | none=>rw [e] at hj; cases hj
   | some x=>
     rw [e] at hj
     simp only [GF,HG] at hj
     split at hj
     · exact ⟨x,by rw [FG (Fn.mp e).1]; exact e,slot_get hj,by assumption⟩
     · cases hj
 · refine ⟨("#" : Str),?_,λhv=>?_⟩
   · unfold bCp; rw [E9,F0 (Fc _),Jx]; rfl
   · have key:∀ q,(vC scope X.env.scope).names.lookup ("#" : Str) ≠ some q:=λq hq=>by
       have:=h6 _ (wq hq)
       simp at this
     rcases hv with hv | hv | hv <;> exact key _ hv
noncomputable abbrev cpX (X:Cx) (s:Shared) (H:Hp) (scope:Scope) (fp:List Addr):Cx:=aG X s H scope (bNm scope++[("#" : Str)]) fp
theorem Bk.comp {X:Cx} {k:Nat} (B:Bk X k) (s:Shared) (H:Hp) (scope:Scope) (fp:List Addr):Bk (cpX X s H scope fp) k:=⟨B.room,B.calm,B.blt,PassesOwn.never⟩
noncomputable def bB (τ:List Sl) (caps:List (Option Nat)):List Sl:=caps.map λo=>match o with
 | some i=>match τ[i]? with
   | some (.d x)=>.d x
   | _=>.un
 | none=>.un
theorem oN {X:Cx}:PTs X [] λ_ H Q=>Q true H:=λpins s σ H Q I q=>by
 show wpAny _ _ (pure true) _ _ _
 exact wpAny_pure ⟨H,I,q⟩
section
variable {X:Cx} {C:Bool} {τ:List Sl} {x y z:D} {a b e c tg it elt:Expr} {es ifs:List Expr} {pos p q:Pos} {k:Nat} {xs:List D} {scope:Scope}
structure Cmp (X:Cx) (elt tg it:Expr) (ifs:List Expr) (scope:Scope) (τ:List Sl) (ys:List D):Prop where
 ex:∃ (In:TG->TT->TE->Prop) (caps:List (Option Nat)) (N:List Str) (wi:TI),dj X scope N caps/\PI X tg it wi/\(∀ g tt te,In g tt te->∀ s H fp,PG (aG X s H scope N fp) tg g/\PTs (aG X s H scope N fp) ifs tt/\PE (aG X s H scope N fp) elt te) /\
   ∀ C σ H Q,dE X.K C τ (.o ys) σ H Q->eo In caps wi σ H Q
 hs:∀ x,foldedSetIterable it X.env x=pure x
theorem bV {ys:List D} (h:Cmp X elt tg it ifs scope τ ys):PE X (.ListComp elt [⟨tg,it,ifs,0⟩] scope pos) (dE X.K C τ (.o ys)):=by
 obtain ⟨In,caps,N,wi,h1,h2,h3,h4⟩:=h.ex
 exact peW (cy h1 h2 h.hs h3) (h4 C)
theorem xm (i:Nat) {n:Str} {p spos:Pos} {rest:List Stmt} {N:Po} {ys:List D} {s:Sl} (hN:X.N.Nodup) (h:Cmp X elt tg it ifs scope τ ys) (hz:s=.o ys\/s=.d (.lst ys)) (hr:PSs X rest (dS X.K (τ.set i s) N)) (hi:X.N[i]?=some n:=by rfl) (hx:Loc X.env.scope n:=by first | exact .inl rfl | exact .inr rfl)
   (hsw:swapsWith (.ListComp elt [⟨tg,it,ifs,0⟩] scope pos) (some (.Name n p)) spos.line X.env=pure true:=by rfl) (hf:X.fn n=true\/X.env.scope.names.lookup n=some .local:=by first | exact .inl rfl | exact .inr rfl | assumption) :
   PSs X (.Assign [.Name n p] (.ListComp elt [⟨tg,it,ifs,0⟩] scope pos) spos :: rest) (dS X.K τ N):=by
 obtain ⟨In,caps,N',wi,h1,h2,h3,h4⟩:=h.ex
 have h5:∀ σ H Q,dE X.K true τ s σ H Q->eo In caps wi σ H Q:=by
   rcases hz with rfl | rfl
   · exact h4 true
   · intro σ H Q q
     obtain ⟨A,H₀,B,S,k⟩:=cJ q
     refine h4 true σ H Q ⟨A,H₀,B,S,λv H' bs e hf q=>?_⟩
     obtain ⟨u,e1,d⟩:=q.den (G':=Hy.hd H' (vw true A B)) (ay (aj.refl _) λ_ z=>.inl z) (λb hb o ho=>ao.mpr ⟨λz=>(by obtain ⟨_,q⟩:=S.vd (C:=true) b z; rw [(hf b hb).1] at q; cases q),ho⟩) rfl
     cases e1
     exact k v H' e d
 exact a8 (M:=(·=τ.set i s)) (psW (iE (dr (i:=i) hN hi hx hf) h1 h2 h.hs h3 hsw) λD σ H ⟨A,H₀,B,S,Me⟩=>h5 _ _ _ ⟨A,H₀,B,S,λv H' bs e hf h=>Me.nx _ _ _ _ rfl (S.set e hf h)⟩) λ_ e=>e ▸ hr
theorem rX {T:Nat->List Sl} {t:Nat->Bool} {f:Nat->D} (hc:bOk X.env.scope scope=true) (hi:PI X tg it (dI X.K τ xs)) (hT:∀ i,(T i).length=(bB τ (bCp X.N scope)++[Sl.un]).length/\∀ (l:Nat) (x:D),(bB τ (bCp X.N scope)++[Sl.un])[l]?=some (.d x)->(T i)[l]?=some (.d x))
   (hg:∀ i (h:i < xs.length) s H fp,PG (cpX X s H scope fp) tg (dG X.K (bB τ (bCp X.N scope)++[Sl.un]) xs[i] (T i)))
   (ht:∀ i,i < xs.length->∀ s H fp,PTs (cpX X s H scope fp) ifs (dT X.K (T i) (t i)))
   (he:∀ i,i < xs.length->t i=true->∀ s H fp,PE (cpX X s H scope fp) elt (dE X.K true (T i) (.d (f i)))) (hl:xs.length < 1000000) (hs:∀ x,foldedSetIterable it X.env x=pure x:=by intro _; rfl) :
   Cmp X elt tg it ifs scope τ (((Fd xs.length).filter t).map f):=by
 obtain ⟨cap,_⟩:=fX hc
 generalize hτ:bB τ (bCp X.N scope)++[Sl.un]=τb at *
 refine ⟨⟨λg tt te=>g=(λv σ H Q=>∃ (i:Nat) (h:i < xs.length),dG X.K τb xs[i] (T i) v σ H Q)/\tt=(λσ H Q=>∃ i,i < xs.length/\dT X.K (T i) (t i) σ H Q)/\te=(λσ H Q=>∃ i,i < xs.length/\t i=true/\dE X.K true (T i) (.d (f i)) σ H Q),_,_,_,cap,hi,?_,?_⟩,hs⟩
 · rintro g tt te ⟨rfl,rfl,rfl⟩ s H fp
   exact ⟨λpins s' σ H' v u Q I r ⟨i,h,q⟩=>hg i h s H fp pins s' σ H' v u Q I r q,λpins s' σ H' Q I ⟨i,h,q⟩=>ht i h s H fp pins s' σ H' Q I q,λpins s' σ H' Q I ⟨i,h,h',q⟩=>he i h h' s H fp pins s' σ H' Q I q⟩
 rintro C σ H Q ⟨A,H₀,B,S,kk⟩
 refine ⟨A,H₀,B,S,λJ H1 e1 yl=>⟨_,_,_,⟨rfl,rfl,rfl⟩,λD hD=>?_⟩⟩
 have S1:=S.mono e1
 have nD:¬ own A B D:=λz=>by obtain ⟨o,q⟩:=S1.dm D z; rw [hD] at q; cases q
 have noN:∀ (l:Nat) (t:Nd),τb[l]?=some (.n t)->0 ≠ 0:=λl t h=>by
   exfalso
   rw [<- hτ] at h
   have:=Gn h
   rcases Fs.mp this with z | z
   · unfold bB at z
     obtain ⟨o,_,ho⟩:=Fj.mp z
     split at ho
     · split at ho <;> cases ho
     · cases ho
   · cases Ff.mp z
 have slots:∀ {σ':L2.St} {H':Hp},aj H1 H'->(∃ o,H' D=some o)->σ'.length=τb.length->(∀ (l:Nat) (s:Sl),τb[l]?=some s->cj X.K (hd H' λb=>own A B b\/b=D) H' (σ'[l]?).join [] s)->Sta X.K (λb=>own A B b\/b=D) H' τb (λ_=>[]) σ' H':=λ{σ' H'} e1 e2 e3 e4=>
   ⟨aj.refl _,e3,λl s h=>(e4 l s h).mono (ay (aj.refl _) λ_ z=>z.elim id λ⟨_,z⟩=>(nomatch z)) (aj.refl _),λ_ _ z=>(nomatch z),λ_ _ _ z=>(nomatch z),λb z=>z.elim (λz=>let ⟨o,q⟩:=S1.dm b z; ⟨o,e1 _ _ q⟩) λz=>z ▸ e2,λ_ _ z=>(nomatch z)⟩
 refine ⟨λi m σ' H'=>m=xs.length - i/\i<=xs.length/\aj H1 H'/\(∃ vs,H' D=some (.lst vs)/\vs.length<=i/\ar X.K (hd H' λb=>own A B b\/b=D) vs (((Fd i).filter t).map f)) /\
   σ'.length=τb.length/\∀ (l:Nat) (s:Sl),τb[l]?=some s->cj X.K (hd H' λb=>own A B b\/b=D) H' (σ'[l]?).join [] s,⟨xs.length,rfl,FR _,ak hD _,⟨[],aC,Fc _,.nil⟩,?_,λl s h=>?_⟩,?_⟩
 · rw [<- hτ]; unfold fq bB; rw [Fw,Fw,E9,E9]; rfl
 · have hv:aj (hd H (own A B)) (hd (upd H1 D (.lst [])) λb=>own A B b\/b=D):=λb o z=>by
     obtain ⟨z1,z2⟩:=ao.mp z
     have z2:=e1 _ _ z2
     have ne:b ≠ D:=λz=>by rw [z,hD] at z2; cases z2
     exact ao.mpr ⟨λy=>y.elim z1 ne,by rw [av ne]; exact z2⟩
   cases s with
   | un=>rfl
   | d x=>
     rw [<- hτ] at h
     have hlt:l < (bCp X.N scope).length:=by
       rcases GQ l (bCp X.N scope).length with h' | h'
       · exact h'
       · exfalso
         rw [F0 (by unfold bB; rw [E9]; exact h')] at h
         cases e:l - (bB τ (bCp X.N scope)).length with
         | zero=>rw [e] at h; cases h
         | succ n=>rw [e] at h; cases h
     rw [FG (by unfold bB; rw [E9]; exact hlt)] at h
     rw [FG (by unfold fq; rw [E9]; exact hlt)]
     unfold bB at h
     unfold fq
     rw [FL] at h ⊢
     cases e:(bCp X.N scope)[l]? with
     | none=>rw [e] at h; cases h
     | some o=>
       rw [e] at h
       cases o with
       | none=>cases h
       | some i=>
         simp only [GF,HG] at h
         split at h
         · rename_i x' hx'
           cases h
           obtain ⟨_,u,eu,d⟩:=S.sl i _ hx'
           exact ⟨rfl,u,by simpa using eu,d.mono hv⟩
         · cases h
   | o xs'=>
     exfalso
     rw [<- hτ] at h
     have:=Gn h
     rcases Fs.mp this with z | z
     · unfold bB at z
       obtain ⟨o,_,ho⟩:=Fj.mp z
       split at ho
       · split at ho <;> cases ho
       · cases ho
     · cases Ff.mp z
   | n t'=>
     exfalso
     rw [<- hτ] at h
     have:=Gn h
     rcases Fs.mp this with z | z
     · unfold bB at z
       obtain ⟨o,_,ho⟩:=Fj.mp z
       split at ho
       · split at ho <;> cases ho
       · cases ho
     · cases Ff.mp z
   | x E'=>
     exfalso
     rw [<- hτ] at h
     have:=Gn h
     rcases Fs.mp this with z | z
     · unfold bB at z
       obtain ⟨o,_,ho⟩:=Fj.mp z
       split at ho
       · split at ho <;> cases ho
       · cases ho
     · cases Ff.mp z
 rintro i m σ' H' ⟨rfl,hi,e2,⟨vs,hv1,hv2,hv3⟩,hlen,hsl⟩
 obtain ⟨y1,y2⟩:=yl H' (aI.trans e2)
 by_cases hlt:i < xs.length
 · obtain ⟨g,y⟩:=y2 i hlt
   refine .inr ⟨g,λx H2 hy=>?_⟩
   obtain ⟨e3,dx⟩:=y x H2 hy
   have S2:Sta X.K (λb=>own A B b\/b=D) H' τb (λ_=>[]) σ' H':=slots e2 ⟨_,hv1⟩ hlen hsl
   have o0:∀ b,own (λb=>own A B b\/b=D) (λ_=>([]:List Addr)) b->own A B b\/b=D:=λb z=>z.elim id λ⟨_,z⟩=>(nomatch z)
   have dx':=dx _ S2.dm (λb o z=>by
     obtain ⟨z1,z2⟩:=ao.mp z
     exact ao.mpr ⟨λy=>(o0 b y).elim z1 λy=>(by rw [y,hD] at z2; cases z2),e2 _ _ z2⟩)
   refine ⟨i,hlt,_,_,_,S2.mono e3,dx',λσ2 B2 S3=>?_⟩
   have hB2:∀ j b,b ∈ B2 j->b ≠ D:=λj b hb z=>by
     have:=S3.fr j b hb
     rw [z,hv1] at this
     cases this
   have back:∀ {H5:Hp},aj H2 H5->σ2.length=τb.length/\∀ (l:Nat) (s:Sl),τb[l]?=some s->cj X.K (hd H5 λb=>own A B b\/b=D) H5 (σ2[l]?).join [] s:=λ{H5} e5=>by
     refine ⟨S3.len.trans (hT i).1,λl s h=>?_⟩
     cases s with
     | un=>rfl
     | d x=>
       obtain ⟨_,u,eu,d⟩:=S3.sl l _ ((hT i).2 l x h)
       exact ⟨rfl,u,eu,d.mono (ay e5 λ_ z=>.inl z)⟩
     | o xs'=>exact absurd (hsl l _ h) (λ⟨_,_,z,_⟩=>(nomatch z))
     | n t'=>exact absurd rfl (noN l t' h)
     | x E'=>exact absurd (hsl l _ h) (λ⟨_,_,z,_⟩=>(nomatch z))
   refine ⟨i,hlt,_,_,_,S3,λH4 e4=>?_⟩
   cases ht:t i with
   | false=>
     rw [if_neg Fp]
     obtain ⟨b1,b2⟩:=back e4
     refine ⟨xs.length - (i + 1),by omega,rfl,hlt,e2.trans (e3.trans e4),⟨vs,e4 _ _ (e3 _ _ hv1),by omega,?_⟩,b1,b2⟩
     rw [F3,Gg,FE,Gv,ht]
     simpa using hv3.mono (ay (e3.trans e4) λ_ z=>z)
   | true=>
     rw [if_pos rfl]
     refine ⟨i,hlt,ht,aH (S3.mono e4) λv H5 e5 d5=>?_⟩
     have e6:=e3.trans (e4.trans e5)
     have hv5:=e6 _ _ hv1
     refine ⟨vs,xs.length - (i + 1),hv5,GP (FQ hv2 (GP hlt hl)) (by decide),by omega,rfl,hlt,?_,?_⟩
     · intro b o z
       have ne:b ≠ D:=λy=>by rw [y,hD] at z; cases z
       rw [av ne]
       exact e6 _ _ (e2 _ _ z)
     have sm:aj (hd H5 λb=>own A B b\/b=D) (hd (upd H5 D (.lst (vs++[v]))) λb=>own A B b\/b=D):=λb o z=>by
       obtain ⟨z1,z2⟩:=ao.mp z
       exact ao.mpr ⟨z1,by rw [av λy=>z1 (.inr y)]; exact z2⟩
     obtain ⟨b1,b2⟩:=back (e4.trans e5)
     refine ⟨⟨vs++[v],aC,by rw [Fw]; exact Ka hv2,?_⟩,b1,λl s h=>?_⟩
     · rw [F3,Gg,FE,Gv,ht,if_pos rfl]
       refine ar.append (hv3.mono ((ay e6 λ_ z=>z).trans sm)) (.cons (d5.mono ((ay (aj.refl _) λ_ z=>.inl z).trans sm)) .nil)
     · cases s with
       | un=>rfl
       | d x=>obtain ⟨z1,u,eu,d⟩:=b2 l _ h; exact ⟨z1,u,eu,d.mono sm⟩
       | o xs'=>exact absurd (hsl l _ h) (λ⟨_,_,z,_⟩=>(nomatch z))
       | n t'=>exact absurd rfl (noN l t' h)
       | x E'=>exact absurd (hsl l _ h) (λ⟨_,_,z,_⟩=>(nomatch z))
 · have e:i=xs.length:=by omega
   subst e
   refine .inl ⟨y1 _ (Fc _),kk _ _ [D] (e1.trans e2) (λb hb=>?_) ⟨D,vs,rfl,rfl,hv1,hv3.mono (ay (aj.refl _) λb z=>z.elim (λz=>.inl (i7 z)) λz=>.inr (Ff.mp z))⟩⟩
   obtain rfl:=Ff.mp hb
   exact ⟨e1.free hD,_,hv1⟩
theorem cmp (j:Nat) {n:Str} {g f:Nat->D} (B:Bk X k) (hi:PI X (.Name n p) it (dI X.K τ xs)) (hx:∀ i (h:i < xs.length),xs[i]=g i) (hl:xs.length < 1000000)
   (he:∀ i,i < xs.length->∀ s H fp,PE (cpX X s H scope fp) elt (dE X.K true ((bB τ (bCp X.N scope)++[Sl.un]).set j (.d (g i))) (.d (f i))))
   (hc:bOk X.env.scope scope=true:=by kernel_rfl) (hu:(bB τ (bCp X.N scope)++[Sl.un])[j]?=some .un:=by rfl) (hN:(bNm scope++[("#" : Str)])[j]?=some n:=by rfl) (hv:∀ s H fp,Loc (cpX X s H scope fp).env.scope n:=by intro _ _ _; first | exact .inl rfl | exact .inr rfl)
   (hf:∀ s H fp,(cpX X s H scope fp).fn n=true\/(cpX X s H scope fp).env.scope.names.lookup n=some .local:=by intro _ _ _; first | exact .inr rfl | exact .inl rfl) (hs:∀ x,foldedSetIterable it X.env x=pure x:=by intro _; rfl) :
   Cmp X elt (.Name n p) it [] scope τ ((Fd xs.length).map f):=by
 have h:=rX (T:=λi=>(bB τ (bCp X.N scope)++[Sl.un]).set j (.d (g i))) (t:=λ_=>true) (f:=f) (elt:=elt) (ifs:=[]) hc hi (λi=>⟨FF,λl x h=>?_⟩) (λi h s H fp=>?_) (λi h s H fp=>?_) (λi h _ s H fp=>he i h s H fp) hl hs
 · rwa [Ip.mpr λ_ _=>rfl] at h
 · rw [Ft (λz=>by rw [<- z,hu] at h; cases h)]
   exact h
 · rw [hx i h]
   exact ze j (fX hc).2 hN (hv s H fp) (hf s H fp)
 · exact λpins s' σ H' Q I ⟨A,H₀,B,S,q⟩=>oN pins s' σ H' Q I (q H' (aj.refl _))
end
section
variable {P:Program} {w:World} {K:Fb} {mg:Str->Option Value} {base:Heap}
noncomputable def AU (N:List Str) (ds:List D):List Sl:=ds.map .d++FH (N.length - ds.length) .un
noncomputable abbrev Xc (P:Program) (w:World) (K:Fb) (mg:Str->Option Value) (base:Heap) (N:List Str) (qual:Str) (st:Stmt) (f:Addr) (cdv:Value) (A:Around) (outer:List Env) (s:Shared) (H:Hp) (E:XK):Cx:=(rE CX0 P w K mg base N qual (ah st) f cdv A outer s H E).nox
theorem fnD {x qual:Str} {st:Stmt} {f:Addr} {fd:FuncData} {N ps:List Str} {k:Nat} {Φ:List D->Sl->Prop} (F:Fun K x qual st f fd) (S:aq N ps (ah st)) (hb:∀ x ∈ ai,mg x=none) (len:∀ ds r,Φ ds r->ds.length=ps.length)
   (body:∀ ds r,Φ ds r->∀ cdv A outer s H E,Bk (Xc P w K mg base N qual st f cdv A outer s H E) k->PSs (Xc P w K mg base N qual st f cdv A outer s H E) (bY st) (dS K (AU N ds) { nx:=λ_=>r=.d .non,rt:=λr'=>r'=r })) :
   aQ P w K mg base CX0 (k + 1) f fd ps (spD K Φ):=by
 refine F.ok S (λvs H Q E ⟨A,ds,r,_,d,h,_⟩=>d.length.trans (len ds r h)) λcdv A outer s H vs Q E hr ⟨A',ds,r,ha,d,h,q⟩=>⟨_,body ds r h cdv A outer s H E ⟨hr,rfl,hb,PassesOwn.never⟩,A',H,λ_=>[],⟨aj.refl _,?_,λi s hi=>?_,λ_ _ z=>(nomatch z),λ_ _ _ z=>(nomatch z),ha,λ_ _ z=>(nomatch z)⟩,λτ B σ H' h S=>?_,λ_ _ _ _ h=>h.elim,λ_ _ _ _ h=>h.elim,λv H' bs s h e hf z=>?_,λ_ _=>trivial⟩
 · unfold L2.start AU
   simp [d.length]
 · have hl:=d.length
   unfold AU at hi
   unfold L2.start
   by_cases hlt:i < ds.length
   · rw [FG (by simpa using hlt),FL,Fe hlt] at hi
     cases hi
     obtain ⟨v,e,dv⟩:=d.get (Fe hlt)
     refine ⟨rfl,v,?_,dv.mono (ay (aj.refl _) λ_ z=>z.elim id λ⟨_,z⟩=>(nomatch z))⟩
     rw [FG (by simpa [hl] using hlt),FL,e]
     rfl
   · rw [F0 (by simpa using hlt),HP] at hi
     split at hi
     · cases hi; rfl
     · cases hi
 · obtain rfl:=(h:r=_)
   exact q .non H' [] S.same cY (iB .non)
 · obtain rfl:=(h:s=r)
   exact q v H' bs e hf z
theorem zU {K:Fb} {Φ:List D->Sl->Prop} (hΦ:∀ ns:List Int,ns.length<=63->Φ [.lst (ns.map .int)] (.d (.bl true))) (H:Hp) (a:Addr) (ns:List Int) (hl:ns.length<=63) (hS:SqL K H a (ns.map V.int)):spD K Φ [.ref a] H (λv _=>v=.bl true) λ_ _ _=>False:=by
 have hh:hd H (λ_=>False)=H:=by funext b; unfold hd; rw [if_neg id]
 refine ⟨λ_=>False,_,_,λ_ z=>z.elim,.cons (.lst (vs:=ns.map V.int) (by rw [hh]; exact hS) ?_) .nil,hΦ ns hl,λv H' bs _ _ h=>?_⟩
 · clear hl hS
   induction ns with
   | nil=>exact .nil
   | cons n ns ih=>exact .cons .int ih
 · obtain ⟨_,u,e,d⟩:=h
   cases e
   cases d
   rfl
end
end Hy
namespace Hy
open PySem PySem.Spec PyProof.Rows L2
open Ev (D Den ar aD aE ak aY aN)
section
variable {X:Cx} {C:Bool} {τ:List Sl} {x y z:D} {a b e:Expr} {es:List Expr} {pos p:Pos} {k:Nat} {s:Sl} {ds:List D} {i j:Int}
theorem lz {K:Fb} {H:Hp}:∀ {vs:List V} {ns:List Int},ar K H vs (ns.map .int)->vs=ns.map V.int
 | _,[],h=>by cases h; rfl
 | _,n :: ns,h=>by
   cases h with
   | cons d r=>cases d; rw [lz r]; rfl
theorem j6:∀ {ns:List Int} {us:List Value},Vals (ns.map V.int) us->∃ xs:List (Int × Tok),us=xs.map (λp=>II p.1 p.2)/\xs.map (·.1)=ns
 | [],_,h=>by cases h; exact ⟨[],rfl,rfl⟩
 | n :: ns,_,h=>by
   cases h with
   | cons rv rs=>
     obtain ⟨xs,rfl,rfl⟩:=j6 rs
     obtain ⟨t,rfl⟩:=(show ∃ t,_=II n t from rv)
     exact ⟨(n,t) :: xs,rfl,rfl⟩
theorem xV (hc:X.calm=true):dg X (.builtin "sum") (λxs H Q=>∃ (p:Addr) (ns:List Int),xs=[.ref p]/\SqL X.K H p (ns.map V.int)/\Q (.int ns.sum) H):=by
 intro pins s σ H xs us Q I r q
 obtain ⟨p,ns,rfl,h,q⟩:=q
 obtain ⟨u,rfl,ru⟩:∃ u,us=[u]/\RelV (.ref p) u:=by
   cases r with
   | cons r1 r=>cases r; exact ⟨_,rfl,r1⟩
 cases (show u=FV _ from ru)
 obtain ⟨its,rv,pl,hz⟩:=I.list h
 obtain ⟨xs,rfl,hx⟩:=j6 rv
 refine sum_intListG (xs:=xs.toArray) (I.ok.hd hc) (by have:=pl.isList; simpa [intItems] using this) λh' tk t' k=>?_
 refine ⟨.int ns.sum,H,I.kept k,⟨t',?_⟩,q⟩
 rw [Fo,preSum_eq,FC (by simp),hx]
theorem DH (hc:X.calm=true) (ns:List Int) {xs:List D} (hx:xs=ns.map .int):gy X (.builtin "sum") [.lst xs] (.d (.int ns.sum)):=⟨_,xV hc,λM vs H Q _ d q=>by
 subst hx
 cases d with
 | cons d r=>
   cases r
   cases d with
   | lst h r=>
     cases lz r
     exact ⟨_,_,rfl,aN aI h,q _ H [] (aj.refl _) cY (iB .int)⟩⟩
theorem yM:OpR X (binaryOp .Add) (λx y H Q=>∃ l b xs zs,x=.ref l/\y=.ref b/\SqL X.K H l xs/\SqL X.K H b zs/\xs.length + zs.length<=sizeLine/\∀ p,H p=none->Q (.ref p) (upd H p (.lst (xs++zs)))):=by
 intro pins s σ H x y v u Q I rx ry h
 obtain ⟨l,b,xs,zs,rfl,rfl,hH,hB,hz,q⟩:=h
 cases rx
 cases ry
 obtain ⟨its,r,pl,_⟩:=I.list hH
 obtain ⟨its2,r2,pl2,_⟩:=I.list hB
 have hl:=r.length
 have hl2:=r2.length
 obtain ⟨⟨cls,dd,data,sl⟩,ho,hc,n,hd⟩:=pl.isList
 obtain ⟨⟨cls2,dd2,data2,sl2⟩,ho2,hc2,n2,hd2⟩:=pl2.isList
 simp only at hc hd hc2 hd2
 subst hc hd hc2 hd2
 have e:its.toArray++its2.toArray=(its++its2).toArray:=by simp
 refine concat_meets ⟨_,ho,rfl⟩ ⟨_,ho2,rfl⟩ noFill_list_add seq_list_add PySem.F.slot_list_add PySem.F.entry_list_add (PySem.F.args_list_add_2 _ _) (list_addW l b its.toArray its2.toArray n n2 dd dd2 sl sl2 (by rw [Fo,Fo]; omega)) ⟨ho,ho2,?_⟩
 rw [e]
 exact ⟨.ref _,_,I.D9 (t':=s.toks) (r.append r2) (by rw [Fw]; omega),rfl,q _ I.fresh⟩
theorem Aw {xs ys:List D} (ha:PE X a (dE X.K C τ (.d (.lst xs)))) (hb:PE X b (dE X.K C τ (.d (.lst ys)))) (hl:xs.length + ys.length < 1000000):PE X (.BinOp a .Add b pos) (dE X.K C τ (.o (xs++ys))):=peW (sG yM ha hb) λσ H Q ⟨A,H₀,B,S,k⟩=>
 aH S λv H1 e1 d1=>aH (S.mono e1) λw H2 e2 d2=>by
   cases d1 with
   | lst h1 r1=>cases d2 with
     | lst h2 r2=>
       refine ⟨_,_,_,_,rfl,rfl,aN (aI.trans e2) h1,aN aI h2,by rw [r1.length,r2.length]; exact GR (GP hl (by decide)),λp hp=>?_⟩
       obtain ⟨z1,z2,z3⟩:=jh (K:=X.K) hp ((r1.mono (ay e2 λ_ z=>z)).append r2)
       exact k _ _ [p] (e1.trans (e2.trans z1)) (λb hb=>⟨(e1.trans e2).free (z2 b hb).1,(z2 b hb).2⟩) z3
theorem mkL (h:i.natAbs < 2 ^ 60):aD i j:=.inl (by
 rcases GI i.natAbs with z | z
 · rw [z]; decide
 · exact GP ((Iw (by omega)).mpr h) (by decide))
theorem mkR (h:j.natAbs < 2 ^ 60):aD i j:=.inr (.inl (by
 rcases GI j.natAbs with z | z
 · rw [z]; decide
 · exact GP ((Iw (by omega)).mpr h) (by decide)))
theorem mkD (h0:j ≠ 0) (h:j.natAbs < 2 ^ 62):aE j:=⟨h0,GP ((Iw (by omega)).mpr h) (by decide)⟩
end
theorem aP {α:Type} {xs:List α} {i:Nat} {x:α} (h:xs[i]?=some x):atI xs (i:Int)=some x:=by
 unfold atI ixN
 have:=(Fn.mp h).1
 rw [if_pos (by omega),if_pos (by omega)]
 simpa using h
theorem rL {ns:List Int} {i:Int} (h0:0<=i) (h:i.toNat < ns.length):atI (ns.map D.int) i=some (.int (ns.getD i.toNat 0)):=by
 obtain ⟨n,rfl⟩:=Je h0
 exact aP (by
   have h:n < ns.length:=h
   simp [h])
theorem jd {xs:List D} (n:Nat):cutD xs none (some (n:Int))=xs.take n:=by
 unfold cutD
 rw [HT.jU,HT.kN,JE,J5]
 rcases Nat.le_total n xs.length with h | h
 · rw [HW h]
 · rw [Kb h,FC (Fc _),FC h]
theorem getD_none {α:Type} {xs:List α} {i:Nat} {d:α} (h:xs.length<=i):xs.getD i d=d:=by simp [IQ,h]
theorem ex1 {α:Type} {p:α->Prop} {a:α} (h:p a):∃ a,p a:=⟨a,h⟩
theorem ex3 {α:Type} {p:α->α->α->Prop} {a b c:α} (h:p a b c):∃ a b c,p a b c:=⟨a,b,c,h⟩
end Hy
namespace Hy
open PySem PySem.Spec PyProof.Rows L2
open Ev (D Den ar)
noncomputable def Dfn (K:Fb) (x:Str) (st:Stmt) (f:Addr):Prop:=Io K mainGlobals x=some (some (.ref f))/\(∃ oc od kV dc pm an cd ct sl,K.lookup f=some ⟨oc,od,.func (GV x x (cA st) (bY st) (ah st) .none kV dc pm an cd ct),sl⟩/\Ht K cd x=true)/\G6 K (.ref f)=true
noncomputable def BdA (x:Str) (st:Stmt) (ps:List Str):Prop:=∀ (kV dc pm:Value) (an:Option Addr) (cd ct:Value) (us:List Value),us.length=ps.length->bindArgs (GV x x (cA st) (bY st) (ah st) .none kV dc pm an cd ct) ⟨us,[]⟩=pure (ps.zip us)
noncomputable def nsL (K:Fb):List Str->Prop
 | []=>True
 | x :: r=>Io K mainGlobals x=some none/\nsL K r
section
variable {P:Program} {w:World} {K:Fb} {h:Heap} {mg:Str->Option Value} {base:Heap} {x:Str} {st:Stmt} {f:Addr} {ps:List Str} {k:Nat} {Φ:List D->Sl->Prop}
theorem Dfn.of {oc:Value} {od an:Option Addr} {kV dc pm cd ct:Value} {sl:Array (Option Value)} (a:Io K mainGlobals x=some (some (.ref f))) (l:K.lookup f=some ⟨oc,od,.func (GV x x (cA st) (bY st) (ah st) .none kV dc pm an cd ct),sl⟩) (c:Ht K cd x=true) (k:G6 K (.ref f)=true):Dfn K x st f:=⟨a,⟨_,_,_,_,_,_,_,_,_,l,c⟩,k⟩
theorem nsL.none (X:K.In h) (G:h.Ns mainGlobals mg):∀ {l:List Str},nsL K l->∀ x ∈ l,mg x=none
 | _ :: _,z,x,m=>by
   rcases Fv.mp m with rfl | m
   · exact PySem.W.mg_none_of X G z.1
   · exact nsL.none X G z.2 x m
theorem Dfn.fn (d:Dfn K x st f) (X:K.In h) (G:h.Ns mainGlobals mg) (b:BdA x st ps):∃ fd,Fun K x x st f fd/\mg x=some (.ref f)/\G6 K (.ref f)=true/\Binds K fd ps []:=by
 obtain ⟨a,⟨oc,od,kV,dc,pm,an,cd,ct,sl,l,c'⟩,q⟩:=d
 have F:=rS l c' q
 exact ⟨_,F,JB X G a,q,F.binds (b kV dc pm an cd ct)⟩
theorem Dfn.cal (d:Dfn K x st f) (X:K.In h) (G:h.Ns mainGlobals mg) (b:BdA x st ps) (o:∀ fd,Fun K x x st f fd->aQ P w K mg base CX0 k f fd ps (spD K Φ)):Cal P w K mg base k x Φ:=by
 obtain ⟨fd,F,h1,h2,h3⟩:=d.fn X G b
 exact ⟨f,fd,ps,o fd F,h1,h2,h3⟩
end
theorem bd1 {Q:List Value->Prop} (h:∀ a,Q [a]):∀ us:List Value,us.length=1->Q us:=λus e=>match us,e with | [a],_=>h a
theorem bd2 {Q:List Value->Prop} (h:∀ a b,Q [a,b]):∀ us:List Value,us.length=2->Q us:=λus e=>match us,e with | [a,b],_=>h a b
theorem bd3 {Q:List Value->Prop} (h:∀ a b c,Q [a,b,c]):∀ us:List Value,us.length=3->Q us:=λus e=>match us,e with | [a,b,c],_=>h a b c
theorem bd4 {Q:List Value->Prop} (h:∀ a b c d,Q [a,b,c,d]):∀ us:List Value,us.length=4->Q us:=λus e=>match us,e with | [a,b,c,d],_=>h a b c d
end Hy
namespace Hy
open PySem PySem.Spec PyProof.Rows L2
open Ev (D Den ar ak aY aN)
noncomputable def bz:List Nat->Nd->Option Nd
 | [],t=>some t
 | i :: p,.l xs=>(xs[i]?).bind (bz p)
 | i :: p,.t xs=>(xs[i]?).bind (bz p)
 | _ :: _,.d _=>none
noncomputable def bw:List Nat->Nd->Nd->Nd
 | [],_,n=>n
 | i :: p,.l xs,n=>.l (xs.set i (bw p (xs.getD i (.d .non)) n))
 | i :: p,.t xs,n=>.t (xs.set i (bw p (xs.getD i (.d .non)) n))
 | _ :: _,.d x,_=>.d x
noncomputable def cE (H:Hp):List Nat->V->V->Prop
 | [],u,v=>v=u
 | i :: p,u,v=>∃ a vs w,u=.ref a/\(H a=some (.lst vs)\/H a=some (.tup vs))/\vs[i]?=some w/\cE H p w v
theorem cE.mono {H H':Hp} (e:aj H H'):∀ {p:List Nat} {u v:V},cE H p u v->cE H' p u v
 | [],_,_,h=>h
 | _ :: _,_,_,⟨a,vs,w,h1,h2,h3,h4⟩=>⟨a,vs,w,h1,h2.elim (λz=>.inl (e _ _ z)) (λz=>.inr (e _ _ z)),h3,h4.mono e⟩
theorem cE.snoc {H:Hp} {i:Nat} {a:Addr} {vs:List V} {w:V}:∀ {p:List Nat} {u:V},cE H p u (.ref a)->(H a=some (.lst vs)\/H a=some (.tup vs))->vs[i]?=some w->cE H (p++[i]) u w
 | [],_,h,h1,h2=>⟨a,vs,w,h.symm,h1,h2,rfl⟩
 | _ :: _,_,⟨b,us,x,z1,z2,z3,z4⟩,h1,h2=>⟨b,us,x,z1,z2,z3,z4.snoc h1 h2⟩
section
variable {K:Fb} {G H:Hp}
theorem aL.length:∀ {vs:List V} {bs:List Addr} {xs:List Nd},aL K G H vs bs xs->vs.length=xs.length
 | _,_,_,.nil=>rfl
 | _,_,_,.cons _ r=>congrArg (· + 1) r.length
theorem aL.part:∀ {vs:List V} {bs:List Addr} {xs:List Nd} {i:Nat} {c:Nd},aL K G H vs bs xs->xs[i]?=some c->∃ v l m r,vs[i]?=some v/\bs=l++(m++r)/\bD K G H v m c /\
   ∀ {G' H':Hp} {m':List Addr} {c':Nd},aj G G'->(∀ b,b ∈ l\/b ∈ r->H' b=H b)->bD K G' H' v m' c'->aL K G' H' vs (l++(m'++r)) (xs.set i c')
 | _,_,_,_,_,.nil,e=>by cases e
 | _,_,_,0,_,.cons (b1:=b1) (b2:=b2) h r,e=>by
   cases e
   exact ⟨_,[],b1,b2,rfl,rfl,h,λg e h'=>by rw [Kj]; exact .cons h' (r.frame g λb hb=>e b (.inr hb))⟩
 | _,_,_,i + 1,c,.cons (b1:=b1) h r,e=>by
   obtain ⟨v,l,m,q,h1,h2,h3,h4⟩:=aL.part (i:=i) (c:=c) r (by simpa using e)
   refine ⟨v,b1++l,m,q,by simpa using h1,by rw [h2,GB],h3,λ{G' H' m' c'} g e h'=>?_⟩
   rw [GB]
   exact .cons (h.frame g λb hb=>e b (.inl (FD _ hb))) (h4 g (λb hb=>e b (hb.elim (λz=>.inl (Fl _ z)) .inr)) h')
theorem bD.focus:∀ (p:List Nat) {u:V} {bs:List Addr} {t c:Nd},bD K G H u bs t->bz p t=some c->∃ v l m r,cE H p u v/\bs=l++(m++r)/\bD K G H v m c /\
   ∀ {G' H':Hp} {m':List Addr} {c':Nd},aj G G'->(∀ b,b ∈ l\/b ∈ r->H' b=H b)->bD K G' H' v m' c'->bD K G' H' u (l++(m'++r)) (bw p t c')
 | [],u,bs,tr,c,h,e=>by
   cases e
   exact ⟨u,[],bs,[],rfl,by simp,h,λg _ h'=>by simpa [bw] using h'⟩
 | i :: p,_,_,.l xs,c,.l (a:=a) (bs:=bs) hH r,e=>by
   rw [bz] at e
   cases ei:xs[i]? with
   | none=>rw [ei] at e; cases e
   | some x=>
     rw [ei] at e
     obtain ⟨v,l,m,q,h1,h2,h3,h4⟩:=r.part ei
     obtain ⟨w,l',m',q',g1,g2,g3,g4⟩:=bD.focus p h3 e
     refine ⟨w,a :: (l++l'),m',q'++q,⟨a,_,v,rfl,.inl hH,h1,g1⟩,by rw [h2,g2]; simp,g3,λ{G' H' m2 c2} g e2 h'=>?_⟩
     have k1:=g4 g (λb hb=>e2 b (hb.elim (λz=>.inl (Fh _ (Fl _ z))) λz=>.inr (FD _ z))) h'
     have k2:=h4 g (λb hb=>e2 b (hb.elim (λz=>.inl (Fh _ (FD _ z))) λz=>.inr (Fl _ z))) k1
     rw [bw,show xs.getD i (.d .non)=x by simp [IQ,ei]]
     have k3:=bD.l (G:=G') (K:=K) (a:=a) (by rw [e2 a (.inl (Fi ..))]; exact hH) k2
     simpa using k3
 | i :: p,_,_,.t xs,c,.t (a:=a) (bs:=bs) hH r,e=>by
   rw [bz] at e
   cases ei:xs[i]? with
   | none=>rw [ei] at e; cases e
   | some x=>
     rw [ei] at e
     obtain ⟨v,l,m,q,h1,h2,h3,h4⟩:=r.part ei
     obtain ⟨w,l',m',q',g1,g2,g3,g4⟩:=bD.focus p h3 e
     refine ⟨w,a :: (l++l'),m',q'++q,⟨a,_,v,rfl,.inr hH,h1,g1⟩,by rw [h2,g2]; simp,g3,λ{G' H' m2 c2} g e2 h'=>?_⟩
     have k1:=g4 g (λb hb=>e2 b (hb.elim (λz=>.inl (Fh _ (Fl _ z))) λz=>.inr (FD _ z))) h'
     have k2:=h4 g (λb hb=>e2 b (hb.elim (λz=>.inl (Fh _ (FD _ z))) λz=>.inr (Fl _ z))) k1
     rw [bw,show xs.getD i (.d .non)=x by simp [IQ,ei]]
     have k3:=bD.t (G:=G') (K:=K) (a:=a) (by rw [e2 a (.inl (Fi ..))]; exact hH) k2
     simpa using k3
theorem cE.det:∀ {p:List Nat} {u v w:V},cE H p u v->cE H p u w->v=w
 | [],_,_,_,h,h'=>h.trans h'.symm
 | _ :: _,_,_,_,⟨a,vs,x,h1,h2,h3,h4⟩,⟨b,us,y,g1,g2,g3,g4⟩=>by
   rw [h1] at g1
   cases g1
   have e:vs=us:=by
     rcases h2 with h2 | h2 <;> rcases g2 with g2 | g2 <;> rw [h2] at g2 <;> cases g2 <;> rfl
   subst e
   rw [h3] at g3
   cases g3
   exact h4.det g4
theorem cj.frame {G' H':Hp} (g:aj G G') {v:Option V} {bs:List Addr}:∀ {s:Sl},(∀ b ∈ bs,H' b=H b)->cj K G H v bs s->cj K G' H' v bs s
 | .un,_,h=>h
 | .d _,_,⟨h,u,e1,h2⟩=>⟨h,u,e1,h2.mono g⟩
 | .o _,e,⟨a,vs,h1,h2,h3,h4⟩=>⟨a,vs,h1,h2,by rw [e a (by rw [h1]; exact Fi ..)]; exact h3,h4.mono g⟩
 | .n _,e,⟨h0,u,h1,h2⟩=>⟨h0,u,h1,h2.frame g e⟩
 | .x E,e,⟨a,o,h1,h2,h3,h4⟩=>⟨a,o,h1,h2,by rw [e a (by rw [h1]; exact Fi ..)]; exact h3,E.mono g h4⟩
theorem qN {l r b0 b1:List Addr} {a:Addr} (h:(l++((a :: b0)++r)).Nodup) (h1:b1.Nodup) (hb:∀ b ∈ b1,b ∈ b0\/(b ∉ l/\b ≠ a/\b ∉ r)):(l++((a :: b1)++r)).Nodup:=by
 obtain ⟨z1,z2,z3⟩:=Gk.mp h
 rw [Gi] at z2
 obtain ⟨z4,z5⟩:=F8.mp z2
 obtain ⟨z6,z7,z8⟩:=Gk.mp z5
 refine Gk.mpr ⟨z1,?_,λx hx y hy=>?_⟩
 · rw [Gi]
   refine F8.mpr ⟨λz=>?_,Gk.mpr ⟨h1,z7,λx hx y hy=>?_⟩⟩
   · rcases Fs.mp z with z | z
     · rcases hb a z with q | q
       · exact z4 (FD _ q)
       · exact q.2.1 rfl
     · exact z4 (Fl _ z)
   · rcases hb x hx with q | q
     · exact z8 x q y hy
     · exact λe=>q.2.2 (e ▸ hy)
 · rw [Gi] at hy
   rcases Fv.mp hy with q | q
   · exact z3 x hx y (by rw [q]; exact FD _ (Fi ..))
   · rcases Fs.mp q with q | q
     · rcases hb y q with q | q
       · exact z3 x hx y (FD _ (Fh _ q))
       · exact λe=>q.1 (e ▸ hx)
     · exact z3 x hx y (Fl _ q)
theorem Sta.putN {A:Addr->Prop} {H₀:Hp} {τ:List Sl} {B:Nat->List Addr} {σ:L2.St} {i:Nat} {t:Nd} {p:List Nat} {xs:List Nd} (S:Sta K A H₀ τ B σ H) (hi:τ[i]?=some (.n t)) (hp:bz p t=some (.l xs)) :
   ∃ u a vs bs0,(σ[i]?).join=some u/\cE H p u (.ref a)/\H a=some (.lst vs)/\aL K (hd H (own A B)) H vs bs0 xs/\bs0.Nodup/\own A B a/\(∀ b ∈ bs0,own A B b/\b ≠ a) /\
     ∀ {H1:Hp} {vs':List V} {bs1:List Addr} {xs':List Nd},aj H H1->bs1.Nodup->(∀ b ∈ bs1,b ∈ bs0\/(H b=none/\∃ o,H1 b=some o))->aL K (hd (upd H1 a (.lst vs')) λb=>own A B b\/b ∈ bs1) (upd H1 a (.lst vs')) vs' bs1 xs' ->
       ∃ B',Sta K A H₀ (τ.set i (.n (bw p t (.l xs')))) B' σ (upd H1 a (.lst vs')):=by
 obtain ⟨nd,u,eu,ok⟩:=S.sl i _ hi
 obtain ⟨v,l,m,r,pv,hbs,okc,back⟩:=ok.focus p hp
 cases okc with
 | @l a vs bs0 _ hH r0=>
   have mem:∀ b,b ∈ l\/b=a\/b ∈ bs0\/b ∈ r->b ∈ B i:=λb hb=>by
     rw [hbs]
     rcases hb with z | z | z | z
     · exact FD _ z
     · exact Fl _ (by rw [z]; exact FD _ (Fi ..))
     · exact Fl _ (FD _ (Fh _ z))
     · exact Fl _ (Fl _ z)
   have nd':=nd
   rw [hbs] at nd'
   obtain ⟨n1,n2,n3⟩:=Gk.mp nd'
   rw [Gi] at n2
   obtain ⟨n4,n5⟩:=F8.mp n2
   obtain ⟨n6,_,_⟩:=Gk.mp n5
   have ha:own A B a:=.inr ⟨i,mem a (.inr (.inl rfl))⟩
   refine ⟨u,a,vs,bs0,eu,pv,hH,r0,n6,ha,λb hb=>⟨.inr ⟨i,mem b (.inr (.inr (.inl hb)))⟩,λz=>n4 (z ▸ FD _ hb)⟩,λ{H1 vs' bs1 xs'} e h1 hb hx=>?_⟩
   have keep:∀ b o,b ≠ a->H b=some o->upd H1 a (.lst vs') b=H b:=λb o ne h=>by rw [av ne,e _ _ h,h]
   have la:∀ b,b ∈ l\/b ∈ r->b ≠ a:=λb hb z=>by
     rcases hb with q | q
     · exact n3 b q a (FD _ (Fi ..)) z
     · exact n4 (z ▸ Fl _ q)
   have fresh:∀ b ∈ bs1,b ∈ bs0\/(b ∉ l/\b ≠ a/\b ∉ r):=λb hb1=>by
     rcases hb b hb1 with q | ⟨q,_⟩
     · exact .inl q
     · have no:∀ c,c ∈ B i->b ≠ c:=λc hc z=>by obtain ⟨o,hc⟩:=S.bd i c hc; rw [<- z,q] at hc; cases hc
       exact .inr ⟨λz=>no b (mem b (.inl z)) rfl,no a (mem a (.inr (.inl rfl))),λz=>no b (mem b (.inr (.inr (.inr z)))) rfl⟩
   have sub:∀ b,own A (upB B i (l++((a :: bs1)++r))) b->own A B b\/b ∈ bs1:=λb z=>by
     rcases z with z | ⟨j,z⟩
     · exact .inl (.inl z)
     · rcases aZ z with ⟨_,z⟩ | ⟨_,z⟩
       · rcases Fs.mp z with z | z
         · exact .inl (.inr ⟨i,mem b (.inl z)⟩)
         · rw [Gi] at z
           rcases Fv.mp z with z | z
           · exact .inl (z ▸ ha)
           · rcases Fs.mp z with z | z
             · exact .inr z
             · exact .inl (.inr ⟨i,mem b (.inr (.inr (.inr z)))⟩)
       · exact .inl (.inr ⟨j,z⟩)
   have sm:aj (hd H (own A B)) (hd (upd H1 a (.lst vs')) (own A (upB B i (l++((a :: bs1)++r))))):=λb o z=>by
     obtain ⟨z1,z2⟩:=ao.mp z
     refine ao.mpr ⟨λy=>?_,by rw [keep b o (λq=>z1 (q ▸ ha)) z2]; exact z2⟩
     rcases sub b y with y | y
     · exact z1 y
     · rcases hb b y with q | ⟨q,_⟩
       · exact z1 (.inr ⟨i,mem b (.inr (.inr (.inl q)))⟩)
       · rw [q] at z2; cases z2
   have hs:aj H₀ (upd H1 a (.lst vs')):=λb o z=>by
     have f0:=S.fr i a (mem a (.inr (.inl rfl)))
     rw [av (λq=>by rw [q,f0] at z; cases z)]
     exact e _ _ (S.same _ _ z)
   refine ⟨upB B i (l++((a :: bs1)++r)),hs,by rw [FF,S.len],λj s hj=>?_,λj b z=>?_,λj k b z1 z2=>?_,S.ad,λj b z=>?_⟩
   · by_cases ej:j=i
     · subst ej
       have hl:=(Fn.mp hi).1
       rw [FP hl] at hj
       cases hj
       unfold upB
       rw [if_pos rfl]
       refine ⟨qN nd' h1 fresh,u,eu,back sm (λb hb=>?_) (.l aC (hx.frame (ay (aj.refl _) sub) λ_ _=>rfl))⟩
       obtain ⟨o,q⟩:=S.bd j b (mem b (hb.elim .inl λz=>.inr (.inr (.inr z))))
       exact keep b o (la b hb) q
     · rw [Ft (λz=>ej z.symm)] at hj
       unfold upB
       rw [if_neg ej]
       refine (S.sl j s hj).frame sm λb hb=>?_
       obtain ⟨o,q⟩:=S.bd j b hb
       exact keep b o (λz=>ej (S.uq j i a (z ▸ hb) (mem a (.inr (.inl rfl))))) q
   · rcases aZ z with ⟨_,z⟩ | ⟨_,z⟩
     · rcases sub b (.inr ⟨i,by unfold upB; rw [if_pos rfl]; exact z⟩) with y | y
       · rcases Fs.mp z with z | z
         · exact S.fr i b (mem b (.inl z))
         · rw [Gi] at z
           rcases Fv.mp z with z | z
           · exact S.fr i b (mem b (.inr (.inl z)))
           · rcases Fs.mp z with z | z
             · rcases hb b z with q | ⟨q,_⟩
               · exact S.fr i b (mem b (.inr (.inr (.inl q))))
               · exact S.same.free q
             · exact S.fr i b (mem b (.inr (.inr (.inr z))))
       · rcases hb b y with q | ⟨q,_⟩
         · exact S.fr i b (mem b (.inr (.inr (.inl q))))
         · exact S.same.free q
     · exact S.fr j b z
   · have inB:∀ {c},c ∈ l++((a :: bs1)++r)->c ∈ B i\/H c=none:=λ{c} z=>by
       rcases Fs.mp z with z | z
       · exact .inl (mem c (.inl z))
       · rw [Gi] at z
         rcases Fv.mp z with z | z
         · exact .inl (mem c (.inr (.inl z)))
         · rcases Fs.mp z with z | z
           · rcases hb c z with q | ⟨q,_⟩
             · exact .inl (mem c (.inr (.inr (.inl q))))
             · exact .inr q
           · exact .inl (mem c (.inr (.inr (.inr z))))
     have cross:∀ {j},j ≠ i->b ∈ B j->b ∈ l++((a :: bs1)++r)->False:=λ{j} nj y1 y2=>by
       rcases inB y2 with q | q
       · exact nj (S.uq j i b y1 q)
       · obtain ⟨o,w⟩:=S.bd j b y1; rw [q] at w; cases w
     rcases aZ z1 with ⟨e1,y1⟩ | ⟨e1,y1⟩ <;> rcases aZ z2 with ⟨e2,y2⟩ | ⟨e2,y2⟩
     · exact e1.trans e2.symm
     · exact (cross e2 y2 y1).elim
     · exact (cross e1 y1 y2).elim
     · exact S.uq j k b y1 y2
   · rcases aZ z with ⟨_,z⟩ | ⟨_,z⟩
     · by_cases e':b=a
       · exact ⟨_,by rw [e']; exact aC⟩
       · rw [av e']
         have old:b ∈ B i->∃ o,H1 b=some o:=λq=>let ⟨o,w⟩:=S.bd i b q; ⟨o,e _ _ w⟩
         rcases Fs.mp z with z | z
         · exact old (mem b (.inl z))
         · rw [Gi] at z
           rcases Fv.mp z with z | z
           · exact absurd z e'
           · rcases Fs.mp z with z | z
             · rcases hb b z with q | ⟨_,q⟩
               · exact old (mem b (.inr (.inr (.inl q))))
               · exact q
             · exact old (mem b (.inr (.inr (.inr z))))
     · by_cases e':b=a
       · exact ⟨_,by rw [e']; exact aC⟩
       · rw [av e']
         obtain ⟨o,w⟩:=S.bd j b z
         exact ⟨o,e _ _ w⟩
end
noncomputable def dP (K:Fb) (τ:List Sl) (i:Nat) (p:List Nat):TE:=λσ H Q=>∃ A H₀ B,Sta K A H₀ τ B σ H/\∀ u v H',(σ[i]?).join=some u->aj H H'->cE H' p u v->Q v H'
noncomputable def rK:Sl->Option Nd
 | .un=>none
 | .d x=>some (.d x)
 | .o xs=>some (.l (xs.map .d))
 | .n t=>some t
 | .x _=>none
section
variable {K:Fb} {G H:Hp}
theorem iQ:∀ {vs:List V} {xs:List D},ar K G vs xs->aL K G H vs [] (xs.map .d)
 | _,_,.nil=>.nil
 | _,_,.cons h r=>.cons (b1:=[]) (b2:=[]) (.d h) (iQ r)
theorem cj.nd {v:V} {bs:List Addr} {s:Sl} {c:Nd} (h:cj K G H (some v) bs s) (e:rK s=some c):bD K G H v bs c/\bs.Nodup:=by
 cases s with
 | un=>cases e
 | d x=>cases e; obtain ⟨rfl,u,eu,d⟩:=h; cases eu; exact ⟨.d d,Hc⟩
 | o xs=>cases e; obtain ⟨a,vs,rfl,e2,h3,h4⟩:=h; cases e2; exact ⟨.l h3 (iQ h4),by simp⟩
 | n t=>cases e; obtain ⟨h0,u,eu,h2⟩:=h; cases eu; exact ⟨h2,h0⟩
 | x E=>cases e
theorem aL.snoc {v:V} {c:Nd} {b2:List Addr} (h:bD K G H v b2 c):∀ {vs:List V} {bs:List Addr} {xs:List Nd},aL K G H vs bs xs->aL K G H (vs++[v]) (bs++b2) (xs++[c])
 | _,_,_,.nil=>by have:=aL.cons h .nil; rw [Gh] at this; exact this
 | _,_,_,.cons h1 r=>by rw [GB]; exact .cons h1 (aL.snoc h r)
theorem Sta.nd {A:Addr->Prop} {H₀:Hp} {τ:List Sl} {B:Nat->List Addr} {σ:L2.St} (S:Sta K A H₀ τ B σ H) {i:Nat} {s:Sl} {c:Nd} (hi:τ[i]?=some s) (hc:rK s=some c):Sta K A H₀ (τ.set i (.n c)) (upB B i (B i)) σ H:=
 S.less (λ_ z=>z) λG' g _=>by
   have q:=S.sl i s hi
   obtain ⟨u,e⟩:∃ u,(σ[i]?).join=some u:=by
     cases s with
     | un=>cases hc
     | d x=>obtain ⟨_,u,e,_⟩:=q; exact ⟨u,e⟩
     | o xs=>obtain ⟨_,_,_,e,_⟩:=q; exact ⟨_,e⟩
     | n t=>obtain ⟨_,u,e,_⟩:=q; exact ⟨u,e⟩
     | x E=>cases hc
   rw [e] at q ⊢
   obtain ⟨q1,q2⟩:=q.nd hc
   exact ⟨q2,u,rfl,q1.frame g λ_ _=>rfl⟩
end
section
variable {X:Cx} {C:Bool} {τ:List Sl} {x y z:D} {a b e o ix:Expr} {es:List Expr} {pos p q:Pos} {k:Nat} {s:Sl} {N:Po} {rest:List Stmt} {i:Nat} {t c:Nd} {pt:List Nat} {xs:List Nd} {j:Int} {m:Nat}
theorem DJ (i:Nat) {s:Sl} {c:Nd} (h:PSs X rest (dS X.K (τ.set i (.n c)) N)) (hi:τ[i]?=some s:=by rfl) (hc:rK s=some c:=by rfl):PSs X rest (dS X.K τ N):=jJ h λD σ H ⟨A,H₀,B,S,Me⟩=>⟨A,H₀,_,S.nd hi hc,Me⟩
theorem fK (i:Nat) {n:Str} {t:Nd} (h:τ[i]?=some (.n t):=by rfl) (hN:X.N[i]?=some n:=by rfl) (hv:Vis X.env.scope n:=by first | exact GO rfl | exact F5 (GO rfl) | exact F5 (F5 rfl))
   (hd:(n == ("__debug__" : Str))=false:=by decide) (hcd:(n == ("__classdict__" : Str))=false:=by decide):PE X (.Name n pos) (dP X.K τ i []):=peW (bx hN hv hd hcd) λσ H Q ⟨A,H₀,B,S,k⟩=>by
 obtain ⟨_,u,e,_⟩:=S.sl i _ h
 exact ⟨u,slot_of e,k u u H e (aj.refl _) rfl⟩
theorem Sta.at {K:Fb} {A:Addr->Prop} {H₀ H:Hp} {τ:List Sl} {B:Nat->List Addr} {σ:L2.St} (S:Sta K A H₀ τ B σ H) (hi:τ[i]?=some (.n t)) (hp:bz pt t=some c):∃ u v m,(σ[i]?).join=some u/\cE H pt u v/\bD K (hd H (own A B)) H v m c/\∀ b ∈ m,b ∈ B i:=by
 obtain ⟨_,u,e,ok⟩:=S.sl i _ hi
 obtain ⟨v,l,m,r,h1,h2,h3,_⟩:=ok.focus pt hp
 exact ⟨u,v,m,e,h1,h3,λb hb=>by rw [h2]; exact Fl _ (FD _ hb)⟩
theorem tP {K:Fb} {G H:Hp} {vs:List V} {bs:List Addr} {m:Nat} (r:aL K G H vs bs xs) (hm:m < xs.length):∃ v,vs[m]?=some v:=⟨vs[m]'(by rw [r.length]; exact hm),Fe _⟩
theorem xY {n m:Nat} {j:Int} (h:ixN n j=some m):m < n:=by
 unfold ixN at h
 split at h
 · split at h
   · cases h; omega
   · cases h
 · split at h
   · cases h; omega
   · cases h
theorem mH (ha:PE X a (dP X.K τ i pt)) (hb:PE X b (dE X.K false τ (.d (.int j)))) (hi:τ[i]?=some (.n t)) (hp:bz pt t=some (.l xs)) (hj:ixN xs.length j=some m) (hs:fZ b:=by exact λ_ _=>rfl):PE X (.Subscript a b pos) (dP X.K τ i (pt++[m])):=
 peW (xx oO ha hb hs) λσ H Q ⟨A,H₀,B,S,k⟩=>⟨A,H₀,B,S,λu v H1 eu e1 pv=>aH (S.mono e1) λw H2 e2 d2=>by
   cases d2
   obtain ⟨u',v',m',eu',pv',ok,_⟩:=((S.mono e1).mono e2).at hi hp
   rw [eu] at eu'
   cases eu'
   obtain rfl:=(pv.mono e2).det pv'
   cases ok with
   | @l ad vs _ _ hH r=>
     obtain ⟨x,hx⟩:=tP r (xY hj)
     exact ⟨ad,vs,j,x,rfl,rfl,SqL.of hH,by unfold atI; rw [r.length,hj]; exact hx,k u x H2 eu (e1.trans e2) (pv'.snoc (.inl hH) hx)⟩⟩
theorem EU (h:PE X e (dP X.K τ i pt)) (hi:τ[i]?=some (.n t)) (hp:bz pt t=some (.d x)):PE X e (dE X.K C τ (.d x)):=peW h λσ H Q q=>by
 obtain ⟨A,H₀,B,S,k⟩:=cJ q
 refine ⟨A,H₀,B,S,λu v H1 eu e1 pv=>?_⟩
 obtain ⟨u',v',m',eu',pv',ok,_⟩:=(S.mono e1).at hi hp
 rw [eu] at eu'
 cases eu'
 obtain rfl:=pv.det pv'
 cases ok with
 | d h=>exact k v H1 e1 (h.mono (ay (aj.refl _) λ_ z=>i7 z))
theorem Bn {ap cp:Pos} (ho:PE X o (dP X.K τ i pt)) (he:PE X e (dE X.K true τ s)) (hi:τ[i]?=some (.n t)) (hp:bz pt t=some (.l xs)) (hc:rK s=some c) (hl:xs.length < 1000000) (hr:PSs X rest (dS X.K (τ.set i (.n (bw pt t (.l (xs++[c]))))) N))
   (hfew:((backTo cp (starEach [e] X.env)).all (λx=>!x.1) && (backToKw cp (keywordEach [] X.env)).all (λx=>x.1.isSome) && decide (([e]:List Expr).length + ([]:List Keyword).length + (if ([]:List Keyword).isEmpty then 0 else 1) < 30))=true:=by rfl)
   (hline:(ap.endLine == cp.line)=true:=by rfl) (hst:starEach [e] X.env=(false,eval e X.env) :: starEach [] X.env:=by rfl) (hpl:(backTo cp (starEach [] X.env)).any (·.1)=false:=by rfl)
   (hs:swapsWith (.Call (.Attribute o "append" ap) [e] [] cp) none pos.line X.env=pure false:=by rfl) (hbase:attributeBase o "append" X.env (eval o X.env)=eval o X.env:=by rfl) :
   PSs X (.Expr (.Call (.Attribute o "append" ap) [e] [] cp) pos :: rest) (dS X.K τ N):=
 a8 (M:=(·=τ.set i (.n (bw pt t (.l (xs++[c])))))) (psW (fV (pZ GU Jb Ke fW ho (bO he dC hst) hbase hfew hline hst hpl) hs) λD σ H ⟨A,H₀,B,S,Me⟩=>by
   refine ⟨A,H₀,B,S,λu v H1 eu e1 pv=>?_⟩
   have S1:=S.mono e1
   obtain ⟨u',l,vs,bs0,eu',pv',hH,r0,nd0,hal,hown,put⟩:=S1.putN hi hp
   rw [eu] at eu'
   cases eu'
   obtain rfl:=pv.det pv'
   refine ⟨.inl ⟨rfl,_,SqL.of hH⟩,A,H₀,B,S1,λw H2 bs e2 hf hw=>⟨l,vs,w,rfl,rfl,e2 _ _ hH,by rw [r0.length]; exact GP hl (by decide),?_⟩⟩
   obtain ⟨nw,ndw⟩:=hw.nd hc
   have off:∀ b ∈ bs,b ≠ l:=λb hb z=>by rw [z] at hb; rw [(hf l hb).1] at hH; cases hH
   have sm:aj (hd H2 λb=>own A B b\/b ∈ bs) (hd (upd H2 l (.lst (vs++[w]))) λb=>own A B b\/b ∈ bs0++bs):=λb o z=>by
     obtain ⟨z1,z2⟩:=ao.mp z
     refine ao.mpr ⟨λy=>z1 ?_,by rw [av (λy:b=l=>z1 (.inl (by rw [y]; exact hal)))]; exact z2⟩
     rcases y with y | y
     · exact .inl y
     · exact (Fs.mp y).elim (λz=>.inl (hown b z).1) .inr
   have sm0:aj (hd H1 (own A B)) (hd (upd H2 l (.lst (vs++[w]))) λb=>own A B b\/b ∈ bs0++bs):=λb o z=>by
     obtain ⟨z1,z2⟩:=ao.mp z
     refine ao.mpr ⟨λy=>?_,by rw [av (λy:b=l=>z1 (by rw [y]; exact hal))]; exact e2 _ _ z2⟩
     rcases y with y | y
     · exact z1 y
     · rcases Fs.mp y with y | y
       · exact z1 (hown b y).1
       · rw [(hf b y).1] at z2; cases z2
   obtain ⟨B',S'⟩:=put (H1:=H2) (vs':=vs++[w]) (bs1:=bs0++bs) (xs':=xs++[c]) e2 (Gk.mpr ⟨nd0,ndw,λx hx y hy z=>by
       obtain ⟨o,q⟩:=r0.some_of x hx
       rw [z,(hf y hy).1] at q; cases q⟩)
     (λb hb=>(Fs.mp hb).elim .inl λz=>.inr (hf b z))
     (aL.snoc (nw.frame sm λb hb=>av (off b hb)) (r0.frame sm0 λb hb=>by
       obtain ⟨o,q⟩:=r0.some_of b hb
       rw [av (hown b hb).2,e2 _ _ q,q]))
   exact Me.nx _ B' _ _ rfl S') λ_ e=>e ▸ hr
end
end Hy
namespace Ev
open PySem PySem.Spec PyProof.Rows L2
noncomputable def bad:Str:=⟨#[0x110000]⟩
mutual
noncomputable def eqD:D->D->Bool
 | .non,.non=>true
 | .bl a,.bl b=>a == b
 | .bl a,.int j=>(if a then 1 else 0) == j
 | .int i,.bl b=>i == (if b then 1 else 0)
 | .int a,.int b=>a == b
 | .str a,.str b=>a == b
 | .tup xs,.tup ys=>lD xs ys
 | .lst xs,.lst ys=>lD xs ys
 | .box _,.box _=>true
 | .box _,.str b=>bad == b
 | .str a,.box _=>a == bad
 | .box _,.non | .box _,.bl _ | .box _,.int _ | .box _,.tup _ | .box _,.lst _=>false
 | .non,.box _ | .bl _,.box _ | .int _,.box _ | .tup _,.box _ | .lst _,.box _=>false
 | .non,.bl _ | .non,.int _ | .non,.str _ | .non,.tup _ | .non,.lst _=>false
 | .bl _,.non | .bl _,.str _ | .bl _,.tup _ | .bl _,.lst _=>false
 | .int _,.non | .int _,.str _ | .int _,.tup _ | .int _,.lst _=>false
 | .str _,.non | .str _,.bl _ | .str _,.int _ | .str _,.tup _ | .str _,.lst _=>false
 | .tup _,.non | .tup _,.bl _ | .tup _,.int _ | .tup _,.str _ | .tup _,.lst _=>false
 | .lst _,.non | .lst _,.bl _ | .lst _,.int _ | .lst _,.str _ | .lst _,.tup _=>false
noncomputable def lD:List D->List D->Bool
 | [],[]=>true
 | x :: xs,y :: ys=>eqD x y && lD xs ys
 | [],_ :: _=>false
 | _ :: _,[]=>false
end
mutual
noncomputable def toP:D->PyData
 | .non=>.none
 | .bl b=>.bool b
 | .int i=>.int i
 | .str x=>.str x
 | .tup xs=>.tuple (gi xs)
 | .lst xs=>.list (gi xs)
 | .box _=>.str bad
noncomputable def gi:List D->List PyData
 | []=>[]
 | x :: xs=>toP x :: gi xs
end
mutual
noncomputable def cln:D->Bool
 | .str x=>PyData.strOk x
 | .tup xs=>eD xs
 | .lst xs=>eD xs
 | .box _=>false
 | .non | .bl _ | .int _=>true
noncomputable def eD:List D->Bool
 | []=>true
 | x :: xs=>cln x && eD xs
end
mutual
noncomputable def dep:D->Nat
 | .tup xs=>fA xs + 1
 | .lst xs=>fA xs + 1
 | .non | .bl _ | .int _ | .str _ | .box _=>0
noncomputable def fA:List D->Nat
 | []=>0
 | x :: xs=>max (dep x) (fA xs)
end
noncomputable def fO (x:D):Prop:=cln x=true/\dep x<=64
noncomputable instance (x:D):Decidable (fO x):=inferInstanceAs (Decidable (_/\_))
mutual
theorem jS:∀ x y:D,Gp (toP x) (toP y)=eqD x y
 | .non,y=>by cases y <;> simp [toP,Gp,eqD]
 | .bl a,y=>by cases y <;> simp [toP,Gp,eqD]
 | .int a,y=>by cases y <;> simp [toP,Gp,eqD]
 | .str a,y=>by cases y <;> simp [toP,Gp,eqD]
 | .tup xs,.tup ys=>by simp only [toP,Gp,eqD]; exact j4 xs ys
 | .lst xs,.lst ys=>by simp only [toP,Gp,eqD]; exact j4 xs ys
 | .tup xs,.non=>by simp [toP,Gp,eqD]
 | .tup xs,.bl _=>by simp [toP,Gp,eqD]
 | .tup xs,.int _=>by simp [toP,Gp,eqD]
 | .tup xs,.str _=>by simp [toP,Gp,eqD]
 | .tup xs,.lst _=>by simp [toP,Gp,eqD]
 | .lst xs,.non=>by simp [toP,Gp,eqD]
 | .lst xs,.bl _=>by simp [toP,Gp,eqD]
 | .lst xs,.int _=>by simp [toP,Gp,eqD]
 | .lst xs,.str _=>by simp [toP,Gp,eqD]
 | .lst xs,.tup _=>by simp [toP,Gp,eqD]
 | .tup xs,.box _=>by simp [toP,Gp,eqD]
 | .lst xs,.box _=>by simp [toP,Gp,eqD]
 | .box _,y=>by cases y <;> simp [toP,Gp,eqD]
theorem j4:∀ xs ys:List D,IL (gi xs) (gi ys)=lD xs ys
 | [],[]=>by simp [gi,IL,lD]
 | [],_ :: _=>by simp [gi,IL,lD]
 | _ :: _,[]=>by simp [gi,IL,lD]
 | x :: xs,y :: ys=>by simp only [gi,IL,lD]; rw [jS x y,j4 xs ys]
end
mutual
theorem oq:∀ x:D,(toP x).canLay0=cln x
 | .non=>by simp [toP,Hv,cln]
 | .bl _=>by simp [toP,Hv,cln]
 | .int _=>by simp [toP,Hv,cln]
 | .str _=>by simp [toP,Hv,cln]
 | .tup xs=>by simp only [toP,Hv,cln]; exact jX xs
 | .lst xs=>by simp only [toP,Hv,cln]; exact jX xs
 | .box _=>by simp only [toP,Hv,cln]; decide +kernel
theorem jX:∀ xs:List D,JM (gi xs)=eD xs
 | []=>by simp [gi,JM,eD]
 | x :: xs=>by simp only [gi,JM,eD]; rw [oq x,jX xs]
end
mutual
theorem nP:∀ x:D,(toP x).depth=dep x
 | .non=>by simp [toP,Ia,dep]
 | .bl _=>by simp [toP,Ia,dep]
 | .int _=>by simp [toP,Ia,dep]
 | .str _=>by simp [toP,Ia,dep]
 | .tup xs=>by simp only [toP,Ia,dep]; rw [kP xs]
 | .lst xs=>by simp only [toP,Ia,dep]; rw [kP xs]
 | .box _=>by simp [toP,Ia,dep]
theorem kP:∀ xs:List D,J4 (gi xs)=fA xs
 | []=>by simp [gi,J4,fA]
 | x :: xs=>by simp only [gi,J4,fA]; rw [nP x,kP xs]
end
theorem gR {x:D} (h:fO x):SeqAt.shaped (toP x)=true:=by
 unfold SeqAt.shaped
 rw [oq,nP,h.1,Bool.true_and]
 exact decide_eq_true h.2
section
variable {X:Cx} {pins:List (Addr × Obj)} {σ:L2.St} {H G:Hp} {s:Shared}
mutual
theorem fN (I:Inv X pins σ H s) (e:aj G H):∀ {v:V} {d:D} {u:Value},Den X.K G v d->RelV v u->cln d=true->∃ as,Reads s.heap u (toP d) as
 | _,_,_,.non,r,_=>by cases r; exact ⟨_,.none⟩
 | _,_,_,.bl,r,_=>by cases r; exact ⟨_,.bool _⟩
 | _,_,_,.int,r,_=>by obtain ⟨t,rfl⟩:=r; exact ⟨_,.int _ _⟩
 | _,_,_,.str,r,_=>by obtain ⟨t,rfl⟩:=r; exact ⟨_,.str _ _⟩
 | _,_,_,.tup h q,r,c=>by
   cases r
   obtain ⟨its,rv,⟨o,h1,h2,n,h3⟩,_⟩:=I.tuple (aY e h)
   obtain ⟨as,z⟩:=iU I e q rv (by rw [cln] at c; exact c)
   exact ⟨_,.tuple h1 h2 h3 (by simpa using z)⟩
 | _,_,_,.lst h q,r,c=>by
   cases r
   obtain ⟨its,rv,⟨o,n,h1,h2,_,h3⟩,_⟩:=I.list (aN e h)
   obtain ⟨as,z⟩:=iU I e q rv (by rw [cln] at c; exact c)
   exact ⟨_,.list h1 h2 h3 (by simpa using z)⟩
 | _,_,_,.box _,_,c=>by rw [cln] at c; cases c
theorem iU (I:Inv X pins σ H s) (e:aj G H):∀ {vs:List V} {ds:List D} {us:List Value},ar X.K G vs ds->Vals vs us->eD ds=true->∃ as,ReadsAll s.heap us (gi ds) as
 | _,_,_,.nil,.nil,_=>⟨_,.nil⟩
 | _,_,_,.cons h q,.cons r rs,c=>by
   rw [eD,F2] at c
   obtain ⟨as,z⟩:=fN I e h r c.1
   obtain ⟨bs,z'⟩:=iU I e q rs c.2
   exact ⟨_,.cons z z'⟩
end
end
end Ev
namespace Hy
open PySem PySem.Spec PyProof.Rows L2
open Ev (D Den ar ak aY aN Itz Cs rb eqD fO fN gR jS)
section
variable {X:Cx} {C:Bool} {τ:List Sl} {x y z:D} {a b e c tg it elt:Expr} {es ifs:List Expr} {pos p q:Pos} {k:Nat} {s:Sl} {N:Po} {rest body:List Stmt} {ds xs ys:List D} {i j:Int} {scope:Scope}
theorem oK (M:Nat->Bool->List Sl->Prop) (B:Bk X k) (h0:∃ n t,M n t τ) (hc:∀ n t τ',M n t τ'->PT X c (dT X.K τ' t)) (hb:∀ n τ',M n true τ'->PSs X body (dS X.K τ' { N with nx:=λτ2=>∃ m t,m < n/\M m t τ2,ct:=λτ2=>∃ m t,m < n/\M m t τ2,bk:=λ_=>False }))
   (hr:∀ n τ',M n false τ'->PSs X rest (dS X.K τ' N)):PSs X (.While c body [] pos :: rest) (dS X.K τ N):=by
 have hc':PT X c λσ H Q=>∃ n t τ',M n t τ'/\dT X.K τ' t σ H Q:=λpins s σ H Q I ⟨n,t,τ',m,q⟩=>hc n t τ' m pins s σ H Q I q
 have hb':PSs X body λD σ H=>∃ n τ',M n true τ'/\dS X.K τ' { N with nx:=λτ2=>∃ m t,m < n/\M m t τ2,ct:=λτ2=>∃ m t,m < n/\M m t τ2,bk:=λ_=>False } D σ H:=λpins s σ H D I ⟨n,τ',m,q⟩=>hb n τ' m pins s σ H D I q
 refine a8 (M:=λτ'=>∃ n,M n false τ') (psW (vQ B.po hc' hb') λD σ H ⟨A,H₀,B,S,Me⟩=>⟨λm σ' H'=>∃ t τ' B',M m t τ'/\Sta X.K A H₀ τ' B' σ' H',?_,?_⟩) λτ' h=>let ⟨n,h⟩:=h; hr n τ' h
 · obtain ⟨n,t,h0⟩:=h0
   exact ⟨n,t,τ,B,h0,S⟩
 rintro m σ' H' ⟨t,τ',B',hM,S'⟩
 refine ⟨m,t,τ',hM,A,H₀,B',S',λH1 e1=>?_⟩
 cases t with
 | false=>exact vA (Me.nx τ' B' σ' H1 ⟨m,hM⟩ (S'.mono e1))
 | true=>
   refine uQ ⟨λσ2 H2=>∃ τ2 B2,(∃ n t,n < m/\M n t τ2)/\Sta X.K A H₀ τ2 B2 σ2 H2,λσ2 H2 ⟨τ2,B2,⟨n,t,l,q⟩,S2⟩=>⟨n,l,t,τ2,B2,q,S2⟩,m,τ',hM,A,H₀,B',S'.mono e1,?_⟩
   exact ⟨λτ2 B2 σ2 H2 m S2=>⟨τ2,B2,m,S2⟩,λ_ _ _ _ z=>z.elim,λτ2 B2 σ2 H2 m S2=>⟨τ2,B2,m,S2⟩,Me.rt,Me.xc⟩
noncomputable def fG (xs ys:List D):List D:=(xs.zip ys).map λp=>.tup [p.1,p.2]
theorem bU:(fG xs ys).length=min xs.length ys.length:=by simp [fG]
theorem uc (i:Nat) (h:i < (fG xs ys).length):(fG xs ys)[i]=.tup [xs.getD i .non,ys.getD i .non]:=by
 rw [bU] at h
 simp [fG,show i < xs.length by omega,show i < ys.length by omega]
theorem CG {K:Fb} {G:Hp} {a b:Addr} {vs ws:List V} (h:SqL K G a vs) (r:ar K G vs xs) (h':SqL K G b ws) (r':ar K G ws ys):Yl K (Itz K a b) (fG xs ys) G:=by
 intro H sg
 have hl:=r.length
 have hl':=r'.length
 refine ⟨λi hi=>⟨vs,ws,aN sg h,aN sg h',by rw [bU] at hi; omega⟩,λi hi=>?_⟩
 have hi':=hi
 rw [bU] at hi'
 obtain ⟨v,hv,dv⟩:=r.get (Fe (show i < xs.length by omega))
 obtain ⟨w,hw,dw⟩:=r'.get (Fe (show i < ys.length by omega))
 refine ⟨⟨vs,ws,v,w,aN sg h,aN sg h',hv,hw⟩,λy H' ⟨p,x1,x2,hp,e0,e1,e2,e3⟩=>?_⟩
 subst e0 e1
 have ex:x1=v:=by have:=e2 vs (aN sg h); rw [hv] at this; exact (FX this).symm
 have ey:x2=w:=by have:=e3 ws (aN sg h'); rw [hw] at this; exact (FX this).symm
 subst ex ey
 refine ⟨ak hp _,λM hM sv=>?_⟩
 rw [uc,show xs.getD i .non=xs[i] by simp [show i < xs.length by omega],show ys.getD i .non=ys[i] by simp [show i < ys.length by omega]]
 have up:=sv.trans (ay (ak hp (.tup [x1,x2])) λ_ z=>z)
 exact .tup (SqT.of (kY hM hp)) (.cons (dv.mono up) (.cons (dw.mono up) .nil))
theorem pE {ts:List Expr} {m:Nat} {tp:Pos} (B:Bk X k) (h:PE X a (dE X.K true τ (.d (.lst xs)))) (h':PE X b (dE X.K true τ (.d (.lst ys)))) (hg:Gl X "zip":=by rfl) (hs:starEach [a,b] X.env=(false,eval a X.env) :: starEach [b] X.env:=by rfl) (hs2:starEach [b] X.env=[(false,eval b X.env)]:=by rfl) :
   PI X (.Tuple ts m tp) (.Call (.Name "zip" p) [a,b] [] pos) (dI X.K τ (fG xs ys)):=
 piW (rb B.calm hg (B.blt _ (by decide)) (ab h (ab h' af hs2) hs) hs hs2) λσ H R ⟨A,H₀,B,S,k⟩=>gp S λvs H1 e1 d1=>by
   cases d1 with
   | cons d r=>
     cases r with
     | cons d' r=>
       cases r
       cases d with
       | lst h r=>cases d' with
         | lst h' r'=>exact ⟨_,_,rfl,⟨_,aN aI h⟩,⟨_,aN aI h'⟩,k _ H1 e1 (CG h r h' r')⟩
theorem Co (hu:X.A.units + 64 < cLine):OpR X (compareOp .NotEq) (λx y H Q=>∃ G d e,aj G H/\Den X.K G x d/\Den X.K G y e/\fO d/\fO e/\Q (.bl (!eqD d e)) H):=by
 intro pins s σ H x y v u Q I rx ry ⟨G,d,e,sg,dx,dy,o1,o2,q⟩
 obtain ⟨as,r1⟩:=fN I sg dx rx o1.1
 obtain ⟨bs,r2⟩:=fN I sg dy ry o2.1
 exact ne_dataH r1 r2 (gR o1) (gR o2) hu ⟨.bl _,H,I,by rw [jS]; rfl,q⟩
theorem Ef (B:Bk X k) (h1:fO x) (h2:fO y):cq X (compareOp .NotEq) x y (.bl (!eqD x y)):=⟨_,Co B.room.units,λM v w H Q _ d1 d2 q=>⟨_,x,y,aI,d1,d2,h1,h2,q _ H (aj.refl _) .bl⟩⟩
variable {u v:Str}
theorem jz:∀ {bs:List Bool} {us:List Value},Vals (bs.map V.bl) us->us=bs.map GX
 | [],_,h=>by cases h; rfl
 | b :: bs,_,h=>by
   cases h with
   | cons rv rs=>rw [jz rs,show _=GX b from rv]; rfl
theorem xN (hc:X.calm=true):dg X (.builtin "all") (λxs H Q=>∃ (p:Addr) (bs:List Bool),xs=[.ref p]/\SqL X.K H p (bs.map V.bl)/\Q (.bl (bs.all id)) H):=by
 intro pins s σ H xs us Q I r q
 obtain ⟨p,bs,rfl,h,q⟩:=q
 obtain ⟨u,rfl,ru⟩:∃ u,us=[u]/\RelV (.ref p) u:=by
   cases r with
   | cons r1 r=>cases r; exact ⟨_,rfl,r1⟩
 cases (show u=FV _ from ru)
 obtain ⟨its,rv,pl,hz⟩:=I.list h
 obtain rfl:=jz rv
 have lt:∀ a,s.heap.IsList a (bs.map GX).toArray->a ≠ s.heap.objs.size:=λa ⟨o,z,_⟩=>FT (Fu z)
 refine call_all_walk (wpAny_pyIter_list pl.isList ⟨_,_,_,_,_,_,λi=>(bs.map GX)[i]? == some (GX true),rfl,Walks.list (A:=X.A.in1) (I.ok.hd hc) _ _ (lt _ pl.isList) (bs.map GX).toArray,⟨⟨_,FA _ rfl,rfl,rfl⟩,?_⟩,λi v s' Q' E' hP hQ=>?_,λh' tk hk=>?_⟩)
 · obtain ⟨o,z1,z2⟩:=pl.isList
   exact ⟨o,Fg _ z1,z2⟩
 · have hP':(bs.map GX)[i]?=some v:=by simpa using hP
   obtain ⟨c,_,rfl⟩:=Fj.mp (Gn hP')
   refine wpAny_truthy_bool ?_
   have hQ:Q' ((bs.map GX)[i]? == some (GX true)) s':=hQ
   rw [hP'] at hQ
   cases c
   · exact hQ
   · exact hQ
 · refine ⟨.bl (bs.all id),H,I.kept (t':=tk) λb' o z=>?_,?_,q⟩
   · refine hk b' o (λhm=>?_) (Fg _ z)
     have:b'=s.heap.objs.size:=by simpa using hm
     exact absurd (Fu z) (by rw [this]; exact F4 _)
   · have e:∀ bs:List Bool,bs.all id=(Fd (bs.map GX).toArray.size).all λi=>(bs.map GX)[i]? == some (GX true):=λbs=>by
       rw [Fo,E9]
       induction bs with
       | nil=>rfl
       | cons b bs ih=>
         rw [IY,ih,Ga,G4,IY,JY]
         congr 1
         cases b <;> rfl
     rw [e]; rfl
theorem sZ {K:Fb} {H:Hp}:∀ {vs:List V} {bs:List Bool},ar K H vs (bs.map .bl)->vs=bs.map V.bl
 | _,[],h=>by cases h; rfl
 | _,_ :: _,h=>by
   cases h with
   | cons d r=>cases d; rw [sZ r]; rfl
theorem xk (hc:X.calm=true) (bs:List Bool) (hx:xs=bs.map .bl):gy X (.builtin "all") [.lst xs] (.d (.bl (bs.all id))):=⟨_,xN hc,λM vs H Q _ d q=>by
 subst hx
 cases d with
 | cons d r=>
   cases r
   cases d with
   | lst h r=>
     cases sZ r
     exact ⟨_,_,rfl,aN aI h,q _ H [] (aj.refl _) cY (iB .bl)⟩⟩
end
end Hy
namespace Hy
open PySem PySem.Spec PyProof.Rows L2
open Ev (D Den ar ak aY aN aG fq dj PTs cy eo)
section
variable {X:Cx} {C:Bool} {τ:List Sl} {x y z:D} {a b e c tg it elt o:Expr} {es ifs:List Expr} {pos p q:Pos} {k:Nat} {s:Sl} {N:Po} {rest body:List Stmt} {ds xs ys:List D} {i j:Int} {scope:Scope}
theorem yP:OpR X (binaryOp .Mult) (λx y H Q=>∃ l k xs,x=.ref l/\y=.int k/\SqL X.K H l xs/\0<=k/\k < 100000/\xs.length * k.toNat<=sizeLine/\∀ p,H p=none->Q (.ref p) (upd H p (.lst (FH k.toNat xs).flatten))):=by
 intro pins s σ H x y v u Q I rx ry h
 obtain ⟨l,k,xs,rfl,rfl,hH,h1,h2,hz,q⟩:=h
 cases rx
 obtain ⟨t,rfl⟩:=ry
 obtain ⟨its,r,pl,_⟩:=I.list hH
 have hl:=r.length
 obtain ⟨⟨cls,dd,data,sl⟩,e,hc,n,hd⟩:=pl.isList
 simp only at hc hd
 subst hc hd
 have hlen:its.toArray.size * k.toNat<=sizeLine:=by rw [Fo,<- hl]; exact hz
 have hcap:¬ its.toArray.size * k.toNat > (2 ^ 63 - 1) / 8:=by
   have:(sizeLine:Nat)<=(2 ^ 63 - 1) / 8:=by decide
   omega
 have hfit:¬ (!Builtin.List.listFitsIndex k)=true:=by
   rw [fitsIndex_both (by omega) (by omega)]
   exact Fp
 have hlong:¬ Il (its.toArray.size * k.toNat)=true:=by
   rw [oS hlen]
   exact Fp
 have hnew:List.foldl (λx1 x2=>x1++x2) #[] (FH (if its.toArray.isEmpty=true then 0 else k.toNat) its.toArray)=(FH k.toNat its).flatten.toArray:=by
   have f0:∀ m:Nat,List.foldl (λx1 x2=>x1++x2) #[] (FH m its.toArray)=(FH m its).flatten.toArray:=λm=>by
     have:=foldl_rep its m []
     rw [Kj] at this
     exact this
   rw [f0]
   cases its with
   | nil=>simp
   | cons a r'=>rw [if_neg (by simp)]
 refine wpAny_binaryOp_repeat_ref (T:="list") (U:="int") (by decide) ⟨_,e,rfl⟩ (λs'=>typeIs_int s' k t) noFill_list_mul F.fills_int_mul F.slot_int_rmul repeat_list F.slot_int_index.lookup
   (call_meets F.slot_int_rmul (typeIs_int s k t) F.entry_int_rmul (F.args_int_rmul_2 _ _) (lm_int_rmul_list_any k t l its.toArray n dd sl)
     ⟨e,rfl,⟨_,e,rfl⟩,call_meets F.slot_list_mul ⟨_,e,rfl⟩ F.entry_list_mul (F.args_list_mul_2 _ _) (lm_list_mul_any l its.toArray n dd sl k t hfit hcap hlong) ⟨e,?_⟩⟩)
 rw [hnew]
 exact ⟨.ref _,_,I.D9 (t':=s.toks) (r.rep k.toNat) (by rw [len_rep,Ij]; exact hz),rfl,q _ I.fresh⟩
theorem sP {K:Fb} {H:Hp} {vs:List V} (h:ar K H vs xs):∀ k:Nat,ar K H (FH k vs).flatten (FH k xs).flatten
 | 0=>.nil
 | k + 1=>by rw [GL,GL,GY,GY]; exact h.append (sP h k)
theorem C9 (ha:PE X a (dE X.K C τ (.d (.lst xs)))) (hb:PE X b (dE X.K C τ (.d (.int j)))) (h0:0<=j) (h1:j < 100000) (hl:xs.length * j.toNat < 1000000):PE X (.BinOp a .Mult b pos) (dE X.K C τ (.o (FH j.toNat xs).flatten)):=peW (sG yP ha hb) λσ H Q ⟨A,H₀,B,S,k⟩=>
 aH S λv H1 e1 d1=>aH (S.mono e1) λw H2 e2 d2=>by
   cases d2
   cases d1 with
   | lst h1' r1=>
     refine ⟨_,j,_,rfl,rfl,aN (aI.trans e2) h1',h0,h1,by rw [r1.length]; exact GR (GP hl (by decide)),λp hp=>?_⟩
     obtain ⟨z1,z2,z3⟩:=jh (K:=X.K) hp (sP (r1.mono (ay e2 λ_ z=>z)) j.toNat)
     exact k _ _ [p] (e1.trans (e2.trans z1)) (λb hb=>⟨(e1.trans e2).free (z2 b hb).1,(z2 b hb).2⟩) z3
noncomputable def dN' (K:Fb) (C:Bool) (τ:List Sl) (ns:List Nd):TA:=λσ H Q=>∃ A H₀ B,Sta K A H₀ τ B σ H/\∀ vs H' bs,aj H H'->Fr H H' bs->bs.Nodup->aL K (hd H' λb=>vw C A B b\/b ∈ bs) H' vs bs ns->Q vs H'
theorem DC:PA X [] (dN' X.K C τ []):=paW dC λσ H Q ⟨A,H₀,B,S,k⟩=>k [] H [] (aj.refl _) cY Hc .nil
theorem Sta.hide {K:Fb} {A:Addr->Prop} {H₀ H H1:Hp} {B:Nat->List Addr} {σ:L2.St} {b1:List Addr} (S:Sta K A H₀ τ B σ H) (e:aj H H1) (f:Fr H H1 b1):Sta K (λb=>A b\/b ∈ b1) (hd H1 λb=>∃ i,b ∈ B i) τ B σ H1 where
 same:=aI
 len:=S.len
 sl:=λi s h=>(S.sl i s h).mono (λb o z=>by
   obtain ⟨z1,z2⟩:=ao.mp z
   refine ao.mpr ⟨λw=>?_,e _ _ z2⟩
   rcases w with (w | w) | w
   · exact z1 (.inl w)
   · rw [(f b w).1] at z2; cases z2
   · exact z1 (.inr w)) e
 fr:=λi b hb=>by
   cases q:hd H1 (λb=>∃ i,b ∈ B i) b with
   | none=>rfl
   | some o=>exact absurd ⟨i,hb⟩ (ao.mp q).1
 uq:=S.uq
 ad:=λb hb=>by
   rcases hb with z | z
   · obtain ⟨o,q⟩:=S.ad b z
     exact ⟨o,ao.mpr ⟨λ⟨i,w⟩=>(by rw [S.fr i b w] at q; cases q),e _ _ (S.same _ _ q)⟩⟩
   · obtain ⟨w1,o,w2⟩:=f b z
     exact ⟨o,ao.mpr ⟨λ⟨i,w⟩=>(by obtain ⟨o',q⟩:=S.bd i b w; rw [w1] at q; cases q),w2⟩⟩
 bd:=λi b hb=>let ⟨o,q⟩:=S.bd i b hb; ⟨o,e _ _ q⟩
theorem oP {A:Addr->Prop} {B:Nat->List Addr} {b1:List Addr} {b:Addr} (h:vw C A B b\/b ∈ b1):vw C (λb=>A b\/b ∈ b1) B b:=by
 cases C with
 | true=>
   rcases h with (h | h) | h
   · exact .inl (.inl h)
   · exact .inr h
   · exact .inl (.inr h)
 | false=>exact h
theorem yj {n:Nd} {ns:List Nd} (ha:PE X e (dE X.K C τ s)) (hn:rK s=some n) (hr:PA X es (dN' X.K C τ ns)) (hs:starEach (e :: es) X.env=(false,eval e X.env) :: starEach es X.env:=by rfl):PA X (e :: es) (dN' X.K C τ (n :: ns)):=paW (bO ha hr hs) λσ H Q ⟨A,H₀,B,S,k⟩=>
 ⟨A,H₀,B,S,λv H1 b1 e1 f1 h1=>⟨_,_,B,S.hide e1 f1,λvs H2 b2 e2 f2 n2 h2=>by
   obtain ⟨q1,n1⟩:=h1.nd hn
   refine k _ H2 (b1++b2) (e1.trans e2) (λb hb=>?_) (Gk.mpr ⟨n1,n2,λx hx y hy z=>?_⟩) (.cons (q1.frame ?_ λb hb=>?_) (h2.frame ?_ λ_ _=>rfl))
   · rcases Fs.mp hb with z | z
     · obtain ⟨w1,o,w2⟩:=f1 b z; exact ⟨w1,o,e2 _ _ w2⟩
     · exact ⟨e1.free (f2 b z).1,(f2 b z).2⟩
   · obtain ⟨_,o,w⟩:=f1 x hx; rw [z,(f2 y hy).1] at w; cases w
   · intro b o z
     obtain ⟨z1,z2⟩:=ao.mp z
     refine ao.mpr ⟨λw=>?_,e2 _ _ z2⟩
     rcases w with w | w
     · exact z1 (.inl w)
     · rcases Fs.mp w with w | w
       · exact z1 (.inr w)
       · rw [(f2 b w).1] at z2; cases z2
   · obtain ⟨_,o,w⟩:=f1 b hb
     rw [w,e2 _ _ w]
   · refine ay (aj.refl _) λb w=>?_
     rcases w with w | w
     · exact .inl (oP (.inl w))
     · rcases Fs.mp w with w | w
       · exact .inl (oP (.inr w))
       · exact .inr w⟩⟩
theorem wC {K:Fb} {H:Hp} {M:Addr->Prop} {p:Addr} {o:HO} {vs:List V} {bs:List Addr} {ns:List Nd} (hp:H p=none) (d:aL K (hd H λb=>M b\/b ∈ bs) H vs bs ns) (nd:bs.Nodup) :
   aL K (hd (upd H p o) λb=>M b\/b ∈ p :: bs) (upd H p o) vs bs ns/\(p :: bs).Nodup:=by
 have off:∀ b ∈ bs,b ≠ p:=λb hb z=>by obtain ⟨w,q⟩:=d.some_of b hb; rw [z,hp] at q; cases q
 refine ⟨d.frame (λb w z=>?_) λb hb=>av (off b hb),F8.mpr ⟨λz=>off p z rfl,nd⟩⟩
 obtain ⟨z1,z2⟩:=ao.mp z
 have ne:b ≠ p:=λy=>by rw [y,hp] at z2; cases z2
 refine ao.mpr ⟨λy=>?_,by rw [av ne]; exact z2⟩
 rcases y with y | y
 · exact z1 (.inl y)
 · rcases Fv.mp y with y | y
   · exact ne y
   · exact z1 (.inr y)
theorem Bz {ns:List Nd} {m} (h:PA X es (dN' X.K C τ ns)) (hl:Nat.ble ns.length 1000=true:=by rfl):PE X (.Tuple es m pos) (dE X.K C τ (.n (.t ns))):=peW (rF h) λσ H Q ⟨A,H₀,B,S,k⟩=>
 ⟨A,H₀,B,S,λvs H1 bs e1 f1 n1 h1=>⟨by rw [h1.length]; exact GR (jg (Jy hl)),λp hp=>by
   obtain ⟨z1,z2⟩:=wC (o:=.tup vs) hp h1 n1
   exact k _ _ (p :: bs) (e1.trans (ak hp _)) (λb hb=>by
     rcases Fv.mp hb with w | w
     · subst w; exact ⟨e1.free hp,_,aC⟩
     · obtain ⟨w1,o,w2⟩:=f1 b w; exact ⟨w1,o,ak hp _ _ _ w2⟩) ⟨z2,_,rfl,.t aC z1⟩⟩⟩
end
section
variable {X:Cx} {C:Bool} {τ τ':List Sl} {x y z:D} {a b e c tg it elt o ix:Expr} {es ifs:List Expr} {pos p q:Pos} {k:Nat} {s:Sl} {N:Po} {rest body:List Stmt} {ds xs ys:List D} {i:Nat} {j:Int} {scope:Scope}
noncomputable def dGs (K:Fb) (τ:List Sl) (xs:List D) (τ':List Sl):TGs:=λvs σ H Q=>∃ A H₀ B,Sta K A H₀ τ B σ H/\ar K (hd H (own A B)) vs xs/\∀ σ' B',Sta K A H₀ τ' B' σ' H->Q σ' H
theorem D0 {es:List Expr} {t t':TGs} (h:PGs X es t) (f:∀ v σ H Q,t' v σ H Q->t v σ H Q):PGs X es t':=λpins s σ H v u Q I r q=>h pins s σ H v u Q I r (f v σ H Q q)
theorem CM:PGs X [] (dGs X.K τ [] τ):=D0 tJ λv σ H Q ⟨A,H₀,B,S,d,k⟩=>by
 cases d
 exact ⟨rfl,k σ B S⟩
theorem sU (i:Nat) {n:Str} (hN:X.N.Nodup) (h:PGs X es (dGs X.K (τ.set i (.d x)) xs τ')) (hi:X.N[i]?=some n:=by rfl) (hx:Loc X.env.scope n:=by first | exact .inl rfl | exact .inr rfl) (hf:X.fn n=true\/X.env.scope.names.lookup n=some .local:=by first | exact .inl rfl | exact .inr rfl | assumption):PGs X (.Name n p :: es) (dGs X.K τ (x :: xs) τ'):=
 D0 (kR (dr (i:=i) hN hi hx hf) h) λv σ H Q ⟨A,H₀,B,S,d,k⟩=>by
   cases d with
   | cons d r=>
     have sub:∀ b,own A (upB B i []) b->own A B b:=λb z=>z.elim .inl λ⟨j,z⟩=>(aZ z).elim (λz=>nomatch z.2) λz=>.inr ⟨j,z.2⟩
     exact ⟨_,_,rfl,A,H₀,_,S.set (aj.refl _) (bs:=[]) (λ_ z=>nomatch z) (iB d),r.mono (ay (aj.refl _) sub),k⟩
theorem Ed {m:Nat} (hc:X.calm=true) (h:PGs X es (dGs X.K τ xs τ')) (hl:(assignEach es X.env).length=xs.length:=by rfl) (hst:(assignEach es X.env).findIdx? (·.1)=none:=by rfl):PG X (.Tuple es m pos) (dG X.K τ (.tup xs) τ'):=
 pgW (yn (n:=xs.length) hc h hl hst) λv σ H Q ⟨A,H₀,B,S,d,k⟩=>by
   cases d with
   | tup h r=>exact ⟨_,_,rfl,aY aI h,r.length,A,H₀,B,S,r,k⟩
theorem BS {m:Nat} (he:PE X e (dE X.K true τ (.d x))) (hg:PG X (.Tuple es m p) (dG X.K τ x τ')) (hr:PSs X rest (dS X.K τ' N)) (hs:swapsWithSole [.Tuple es m p] e pos.line X.env=pure false:=by rfl) (hw:swappedStores [.Tuple es m p] e X.env=pure none:=by rfl)
   (h1:(assignEach [.Tuple es m p] X.env).map (·.2)=[assign (.Tuple es m p) X.env]:=by rfl):PSs X (.Assign [.Tuple es m p] e pos :: rest) (dS X.K τ N):=
 a8 (M:=(·=τ')) (psW (fH he hg hs hw h1) λD σ H ⟨A,H₀,B,S,Me⟩=>aH S λv H1 e1 d1=>⟨A,H₀,B,S.mono e1,d1,λσ' B' S'=>Me.nx _ _ _ _ rfl S'⟩) λ_ e=>e ▸ hr
theorem ES (T:Nat->List Sl) {f:Nat->D} (B:Bk X k) (hi:PI X tg it (dI X.K τ xs)) (hl:xs.length < 1000000) (hT:∀ i,(T i).length=(bB τ (bCp X.N scope)++[Sl.un]).length/\∀ (l:Nat) (x:D),(bB τ (bCp X.N scope)++[Sl.un])[l]?=some (.d x)->(T i)[l]?=some (.d x))
   (hg:∀ i (h:i < xs.length) s H fp,PG (cpX X s H scope fp) tg (dG X.K (bB τ (bCp X.N scope)++[.un]) xs[i] (T i)))
   (he:∀ i,i < xs.length->∀ s H fp,PE (cpX X s H scope fp) elt (dE X.K true (T i) (.d (f i)))) (hc:bOk X.env.scope scope=true:=by kernel_rfl) (hs:∀ x,foldedSetIterable it X.env x=pure x:=by intro _; rfl) :
   Cmp X elt tg it [] scope τ ((Fd xs.length).map f):=by
 have h:=rX (T:=T) (t:=λ_=>true) (f:=f) (elt:=elt) (ifs:=[]) hc hi hT hg (λi h s H fp=>λpins s' σ H' Q I ⟨A,H₀,B,S,q⟩=>oN pins s' σ H' Q I (q H' (aj.refl _))) (λi h _ s H fp=>he i h s H fp) hl hs
 rwa [Ip.mpr λ_ _=>rfl] at h
theorem yA {c:Expr} {t:TT} (h:PT X c t):PTs X [c] t:=λpins s σ H Q I q=>wpAny_tests_one (h pins s σ H Q I q)
theorem tU (j:Nat) {n:Str} {g f:Nat->D} {t:Nat->Bool} (B:Bk X k) (hi:PI X (.Name n p) it (dI X.K τ xs)) (hx:∀ i (h:i < xs.length),xs[i]=g i) (hl:xs.length < 1000000)
   (ht:∀ i,i < xs.length->∀ s H fp,PT (cpX X s H scope fp) c (dT X.K ((bB τ (bCp X.N scope)++[Sl.un]).set j (.d (g i))) (t i)))
   (he:∀ i,i < xs.length->t i=true->∀ s H fp,PE (cpX X s H scope fp) elt (dE X.K true ((bB τ (bCp X.N scope)++[Sl.un]).set j (.d (g i))) (.d (f i))))
   (hc:bOk X.env.scope scope=true:=by kernel_rfl) (hu:(bB τ (bCp X.N scope)++[Sl.un])[j]?=some .un:=by rfl) (hN:(bNm scope++[("#" : Str)])[j]?=some n:=by rfl) (hv:∀ s H fp,Loc (cpX X s H scope fp).env.scope n:=by intro _ _ _; first | exact .inl rfl | exact .inr rfl)
   (hf:∀ s H fp,(cpX X s H scope fp).fn n=true\/(cpX X s H scope fp).env.scope.names.lookup n=some .local:=by intro _ _ _; first | exact .inr rfl | exact .inl rfl) (hs:∀ x,foldedSetIterable it X.env x=pure x:=by intro _; rfl) :
   Cmp X elt (.Name n p) it [c] scope τ (((Fd xs.length).filter t).map f):=by
 refine rX (T:=λi=>(bB τ (bCp X.N scope)++[Sl.un]).set j (.d (g i))) (t:=t) (f:=f) (elt:=elt) (ifs:=[c]) hc hi (λi=>⟨FF,λl x h=>?_⟩) (λi h s H fp=>?_) (λi h s H fp=>yA (ht i h s H fp)) he hl hs
 · rw [Ft (λz=>by rw [<- z,hu] at h; cases h)]
   exact h
 · rw [hx i h]
   exact ze j (fX hc).2 hN (hv s H fp) (hf s H fp)
structure wI (X:Cx) (elt tg it:Expr) (ifs:List Expr) (scope:Scope) (τ:List Sl) (ns:List Nd):Prop where
 ex:∃ (In:TG->TT->TE->Prop) (caps:List (Option Nat)) (N:List Str) (wi:TI),dj X scope N caps/\PI X tg it wi/\(∀ g tt te,In g tt te->∀ s H fp,PG (aG X s H scope N fp) tg g/\PTs (aG X s H scope N fp) ifs tt/\PE (aG X s H scope N fp) elt te) /\
   ∀ C σ H Q,dE X.K C τ (.n (.l ns)) σ H Q->eo In caps wi σ H Q
 hs:∀ x,foldedSetIterable it X.env x=pure x
theorem Aj {ns:List Nd} (h:wI X elt tg it ifs scope τ ns):PE X (.ListComp elt [⟨tg,it,ifs,0⟩] scope pos) (dE X.K C τ (.n (.l ns))):=by
 obtain ⟨In,caps,N,wi,h1,h2,h3,h4⟩:=h.ex
 exact peW (cy h1 h2 h.hs h3) (h4 C)
theorem zQ {T:Nat->List Sl} {f:Nat->Nd} {S':Nat->Sl} (B:Bk X k) (hc:bOk X.env.scope scope=true) (hi:PI X tg it (dI X.K τ xs)) (hT:∀ i,(T i).length=(bB τ (bCp X.N scope)++[Sl.un]).length/\∀ (l:Nat) (x:D),(bB τ (bCp X.N scope)++[Sl.un])[l]?=some (.d x)->(T i)[l]?=some (.d x))
   (hg:∀ i (h:i < xs.length) s H fp,PG (cpX X s H scope fp) tg (dG X.K (bB τ (bCp X.N scope)++[.un]) xs[i] (T i)))
   (he:∀ i,i < xs.length->∀ s H fp,PE (cpX X s H scope fp) elt (dE X.K true (T i) (S' i))) (hn:∀ i,i < xs.length->rK (S' i)=some (f i)) (hl:xs.length < 1000000) (hs:∀ x,foldedSetIterable it X.env x=pure x:=by intro _; rfl) :
   wI X elt tg it [] scope τ ((Fd xs.length).map f):=by
 obtain ⟨cap,_⟩:=fX hc
 generalize hτ:bB τ (bCp X.N scope)++[Sl.un]=τb at *
 refine ⟨⟨λg tt te=>g=(λv σ H Q=>∃ (i:Nat) (h:i < xs.length),dG X.K τb xs[i] (T i) v σ H Q)/\tt=(λσ H Q=>Q true H)/\te=(λσ H Q=>∃ i,i < xs.length/\dE X.K true (T i) (S' i) σ H Q),_,_,_,cap,hi,?_,?_⟩,hs⟩
 · rintro g tt te ⟨rfl,rfl,rfl⟩ s H fp
   exact ⟨λpins s' σ H' v u Q I r ⟨i,h,q⟩=>hg i h s H fp pins s' σ H' v u Q I r q,oN,λpins s' σ H' Q I ⟨i,h,q⟩=>he i h s H fp pins s' σ H' Q I q⟩
 rintro C σ H Q ⟨A,H₀,B,S,kk⟩
 refine ⟨A,H₀,B,S,λJ H1 e1 yl=>⟨_,_,_,⟨rfl,rfl,rfl⟩,λD hD=>?_⟩⟩
 have S1:=S.mono e1
 have flat:∀ (l:Nat) (s:Sl),τb[l]?=some s->s=.un\/∃ x,s=.d x:=λl s h=>by
   rw [<- hτ] at h
   rcases Fs.mp (Gn h) with z | z
   · unfold bB at z
     obtain ⟨o,_,ho⟩:=Fj.mp z
     split at ho
     · split at ho
       · exact .inr ⟨_,ho.symm⟩
       · exact .inl ho.symm
     · exact .inl ho.symm
   · exact .inl (Ff.mp z)
 have slots:∀ {σ':L2.St} {H':Hp} {rs:List Addr},aj H1 H'->(∃ o,H' D=some o)->(∀ b ∈ rs,∃ o,H' b=some o)->σ'.length=τb.length->(∀ (l:Nat) (s:Sl),τb[l]?=some s->cj X.K (hd H' λb=>own A B b\/b=D\/b ∈ rs) H' (σ'[l]?).join [] s)->Sta X.K (λb=>own A B b\/b=D\/b ∈ rs) H' τb (λ_=>[]) σ' H':=λ{σ' H' rs} e1 e2 e5 e3 e4=>
   ⟨aj.refl _,e3,λl s h=>(e4 l s h).mono (ay (aj.refl _) λ_ z=>z.elim id λ⟨_,z⟩=>(nomatch z)) (aj.refl _),λ_ _ z=>(nomatch z),λ_ _ _ z=>(nomatch z),λb z=>z.elim (λz=>let ⟨o,q⟩:=S1.dm b z; ⟨o,e1 _ _ q⟩) λz=>z.elim (λz=>z ▸ e2) (e5 b),λ_ _ z=>(nomatch z)⟩
 refine ⟨λi m σ' H'=>m=xs.length - i/\i<=xs.length/\aj H1 H'/\(∃ vs rs,H' D=some (.lst vs)/\vs.length<=i/\aL X.K (hd H' λb=>own A B b\/b=D\/b ∈ rs) H' vs rs ((Fd i).map f)/\(D :: rs).Nodup/\(∀ b ∈ rs,H1 b=none) /\
   σ'.length=τb.length/\∀ (l:Nat) (s:Sl),τb[l]?=some s->cj X.K (hd H' λb=>own A B b\/b=D\/b ∈ rs) H' (σ'[l]?).join [] s),⟨xs.length,rfl,FR _,ak hD _,[],[],aC,Fc _,.nil,by simp,λ_ z=>(nomatch z),?_,λl s h=>?_⟩,?_⟩
 · rw [<- hτ]; unfold fq bB; rw [Fw,Fw,E9,E9]; rfl
 · have hv:aj (hd H (own A B)) (hd (upd H1 D (.lst [])) λb=>own A B b\/b=D\/b ∈ ([]:List Addr)):=λb o z=>by
     obtain ⟨z1,z2⟩:=ao.mp z
     have z2:=e1 _ _ z2
     have ne:b ≠ D:=λz=>by rw [z,hD] at z2; cases z2
     exact ao.mpr ⟨λy=>y.elim z1 λy=>y.elim ne λy=>(nomatch y),by rw [av ne]; exact z2⟩
   rcases flat l s h with rfl | ⟨x,rfl⟩
   · rfl
   · rw [<- hτ] at h
     have hlt:l < (bCp X.N scope).length:=by
       rcases GQ l (bCp X.N scope).length with h' | h'
       · exact h'
       · exfalso
         rw [F0 (by unfold bB; rw [E9]; exact h')] at h
         cases e:l - (bB τ (bCp X.N scope)).length with
         | zero=>rw [e] at h; cases h
         | succ n=>rw [e] at h; cases h
     rw [FG (by unfold bB; rw [E9]; exact hlt)] at h
     rw [FG (by unfold fq; rw [E9]; exact hlt)]
     unfold bB at h
     unfold fq
     rw [FL] at h ⊢
     cases e:(bCp X.N scope)[l]? with
     | none=>rw [e] at h; cases h
     | some o=>
       rw [e] at h
       cases o with
       | none=>cases h
       | some i=>
         simp only [GF,HG] at h
         split at h
         · rename_i x' hx'
           cases h
           obtain ⟨_,u,eu,d⟩:=S.sl i _ hx'
           exact ⟨rfl,u,by simpa using eu,d.mono hv⟩
         · cases h
 rintro i m σ' H' ⟨rfl,hi,e2,vs,rs,hv1,hv2,hv3,hnd,hfr,hlen,hsl⟩
 obtain ⟨y1,y2⟩:=yl H' (aI.trans e2)
 have rsd:∀ b ∈ rs,∃ o,H' b=some o:=hv3.some_of
 by_cases hlt:i < xs.length
 · obtain ⟨g,y⟩:=y2 i hlt
   refine .inr ⟨g,λx H2 hy=>?_⟩
   obtain ⟨e3,dx⟩:=y x H2 hy
   have S2:=slots e2 ⟨_,hv1⟩ rsd hlen hsl
   have o0:∀ b,own (λb=>own A B b\/b=D\/b ∈ rs) (λ_=>([]:List Addr)) b->own A B b\/b=D\/b ∈ rs:=λb z=>z.elim id λ⟨_,z⟩=>(nomatch z)
   have dx':=dx _ S2.dm (λb o z=>by
     obtain ⟨z1,z2⟩:=ao.mp z
     exact ao.mpr ⟨λy=>(o0 b y).elim z1 λy=>y.elim (λy=>(by rw [y,hD] at z2; cases z2)) λy=>(by rw [hfr b y] at z2; cases z2),e2 _ _ z2⟩)
   refine ⟨i,hlt,_,_,_,S2.mono e3,dx',λσ2 B2 S3=>?_⟩
   refine uQ ⟨i,hlt,_,_,_,S3,λv H5 bs e5 hf5 d5=>?_⟩
   obtain ⟨nv,ndv⟩:=d5.nd (hn i hlt)
   have e6:=e3.trans e5
   have hv5:=e6 _ _ hv1
   have bsD:∀ b ∈ bs,b ≠ D:=λb hb z=>by have:=(hf5 b hb).1; rw [z,e3 _ _ hv1] at this; cases this
   have bsR:∀ b ∈ bs,b ∉ rs:=λb hb z=>by obtain ⟨o,q⟩:=rsd b z; have:=(hf5 b hb).1; rw [e3 _ _ q] at this; cases this
   refine ⟨vs,xs.length - (i + 1),hv5,GP (FQ hv2 (GP hlt hl)) (by decide),by omega,rfl,hlt,?_,vs++[v],rs++bs,aC,by rw [Fw]; exact Ka hv2,?_,?_,?_,S3.len.trans (hT i).1,λl s h=>?_⟩
   · intro b o z
     have ne:b ≠ D:=λy=>by rw [y,hD] at z; cases z
     rw [av ne]
     exact e6 _ _ (e2 _ _ z)
   · rw [F3,FE]
     have sm1:aj (hd H5 λb=>vw true (λb=>own A B b\/b=D\/b ∈ rs) B2 b\/b ∈ bs) (hd (upd H5 D (.lst (vs++[v]))) λb=>own A B b\/b=D\/b ∈ rs++bs):=λb o z=>by
       obtain ⟨z1,z2⟩:=ao.mp z
       refine ao.mpr ⟨λy=>z1 ?_,by rw [av (λy:b=D=>z1 (.inl (.inl (.inr (.inl y)))))]; exact z2⟩
       rcases y with y | y | y
       · exact .inl (.inl (.inl y))
       · exact .inl (.inl (.inr (.inl y)))
       · exact (Fs.mp y).elim (λy=>.inl (.inl (.inr (.inr y)))) .inr
     have sm2:aj (hd H' λb=>own A B b\/b=D\/b ∈ rs) (hd (upd H5 D (.lst (vs++[v]))) λb=>own A B b\/b=D\/b ∈ rs++bs):=λb o z=>by
       obtain ⟨z1,z2⟩:=ao.mp z
       refine ao.mpr ⟨λy=>?_,by rw [av (λy:b=D=>z1 (.inr (.inl y)))]; exact e6 _ _ z2⟩
       rcases y with y | y | y
       · exact z1 (.inl y)
       · exact z1 (.inr (.inl y))
       · rcases Fs.mp y with y | y
         · exact z1 (.inr (.inr y))
         · have:=(hf5 b y).1; rw [e3 _ _ z2] at this; cases this
     refine aL.snoc (nv.frame sm1 λb hb=>av (bsD b hb)) (hv3.frame sm2 λb hb=>?_)
     obtain ⟨o,q⟩:=rsd b hb
     rw [av (λz:b=D=>(F8.mp hnd).1 (by rw [<- z]; exact hb)),e6 _ _ q,q]
   · obtain ⟨n1,n2⟩:=F8.mp hnd
     refine F8.mpr ⟨λz=>?_,Gk.mpr ⟨n2,ndv,λx hx y hy z=>bsR y hy (z ▸ hx)⟩⟩
     exact (Fs.mp z).elim n1 λz=>bsD D z rfl
   · intro b hb
     rcases Fs.mp hb with z | z
     · exact hfr b z
     · exact (e2.trans e3).free (hf5 b z).1
   · rcases flat l s h with rfl | ⟨x,rfl⟩
     · rfl
     · obtain ⟨_,u,eu,d⟩:=S3.sl l _ ((hT i).2 l x h)
       refine ⟨rfl,u,eu,d.mono λb o z=>?_⟩
       obtain ⟨z1,z2⟩:=ao.mp z
       refine ao.mpr ⟨λy=>?_,by rw [av (λy:b=D=>z1 (.inl (.inr (.inl y))))]; exact e5 _ _ z2⟩
       rcases y with y | y | y
       · exact z1 (.inl (.inl y))
       · exact z1 (.inl (.inr (.inl y)))
       · rcases Fs.mp y with y | y
         · exact z1 (.inl (.inr (.inr y)))
         · rw [(hf5 b y).1] at z2; cases z2
 · have e:i=xs.length:=by omega
   subst e
   refine .inl ⟨y1 _ (Fc _),kk _ _ (D :: rs) (e1.trans e2) (λb hb=>?_) ⟨hnd,_,rfl,.l hv1 (hv3.frame (ay (aj.refl _) λb z=>?_) λ_ _=>rfl)⟩⟩
   · rcases Fv.mp hb with rfl | z
     · exact ⟨e1.free hD,_,hv1⟩
     · exact ⟨e1.free (hfr b z),rsd b z⟩
   · rcases z with z | z
     · exact .inl (i7 z)
     · exact .inr ((Fv.mp z).elim .inl .inr)
theorem CH (j:Nat) {n:Str} {g:Nat->D} {f:Nat->Nd} {S':Nat->Sl} (B:Bk X k) (hi:PI X (.Name n p) it (dI X.K τ xs)) (hx:∀ i (h:i < xs.length),xs[i]=g i) (hl:xs.length < 1000000)
   (he:∀ i,i < xs.length->∀ s H fp,PE (cpX X s H scope fp) elt (dE X.K true ((bB τ (bCp X.N scope)++[Sl.un]).set j (.d (g i))) (S' i))) (hn:∀ i,i < xs.length->rK (S' i)=some (f i))
   (hc:bOk X.env.scope scope=true:=by kernel_rfl) (hu:(bB τ (bCp X.N scope)++[Sl.un])[j]?=some .un:=by rfl) (hN:(bNm scope++[("#" : Str)])[j]?=some n:=by rfl) (hv:∀ s H fp,Loc (cpX X s H scope fp).env.scope n:=by intro _ _ _; first | exact .inl rfl | exact .inr rfl)
   (hf:∀ s H fp,(cpX X s H scope fp).fn n=true\/(cpX X s H scope fp).env.scope.names.lookup n=some .local:=by intro _ _ _; first | exact .inr rfl | exact .inl rfl) (hs:∀ x,foldedSetIterable it X.env x=pure x:=by intro _; rfl) :
   wI X elt (.Name n p) it [] scope τ ((Fd xs.length).map f):=by
 refine zQ (T:=λi=>(bB τ (bCp X.N scope)++[Sl.un]).set j (.d (g i))) B hc hi (λi=>⟨FF,λl x h=>?_⟩) (λi h s H fp=>?_) he hn hl hs
 · rw [Ft (λz=>by rw [<- z,hu] at h; cases h)]
   exact h
 · rw [hx i h]
   exact ze j (fX hc).2 hN (hv s H fp) (hf s H fp)
end
section
variable {X:Cx} {C:Bool} {τ τ':List Sl} {x y z:D} {a b e c tg it elt o ix:Expr} {es ifs:List Expr} {pos p q:Pos} {k:Nat} {s:Sl} {N:Po} {rest body:List Stmt} {ds xs ys:List D} {i:Nat} {scope:Scope}
theorem wQ (j l:Nat) {n m:Str} {p2 pt:Pos} {md:Nat} {g g' f:Nat->D} (B:Bk X k) (hi:PI X (.Tuple [.Name n p,.Name m p2] md pt) it (dI X.K τ xs)) (hx:∀ i (h:i < xs.length),xs[i]=.tup [g i,g' i]) (hl:xs.length < 1000000)
   (he:∀ i,i < xs.length->∀ s H fp,PE (cpX X s H scope fp) elt (dE X.K true (((bB τ (bCp X.N scope)++[Sl.un]).set j (.d (g i))).set l (.d (g' i))) (.d (f i))))
   (hc:bOk X.env.scope scope=true:=by kernel_rfl) (hu:(bB τ (bCp X.N scope)++[Sl.un])[j]?=some .un:=by rfl) (hu':(bB τ (bCp X.N scope)++[Sl.un])[l]?=some .un:=by rfl) (hN:(bNm scope++[("#" : Str)])[j]?=some n:=by rfl) (hN':(bNm scope++[("#" : Str)])[l]?=some m:=by rfl) (hv:∀ s H fp,Loc (cpX X s H scope fp).env.scope n:=by intro _ _ _; first | exact .inl rfl | exact .inr rfl) (hv':∀ s H fp,Loc (cpX X s H scope fp).env.scope m:=by intro _ _ _; first | exact .inl rfl | exact .inr rfl)
   (hf:∀ s H fp,(cpX X s H scope fp).fn n=true\/(cpX X s H scope fp).env.scope.names.lookup n=some .local:=by intro _ _ _; first | exact .inr rfl | exact .inl rfl) (hf':∀ s H fp,(cpX X s H scope fp).fn m=true\/(cpX X s H scope fp).env.scope.names.lookup m=some .local:=by intro _ _ _; first | exact .inr rfl | exact .inl rfl) (hs:∀ x,foldedSetIterable it X.env x=pure x:=by intro _; rfl) :
   Cmp X elt (.Tuple [.Name n p,.Name m p2] md pt) it [] scope τ ((Fd xs.length).map f):=
 ES (λi=>((bB τ (bCp X.N scope)++[Sl.un]).set j (.d (g i))).set l (.d (g' i))) B hi hl (λi=>⟨by rw [FF,FF],λr x h=>by
     rw [Ft (λz=>by rw [<- z,hu'] at h; cases h),Ft (λz=>by rw [<- z,hu] at h; cases h)]
     exact h⟩)
   (λi h s H fp=>by rw [hx i h]; exact AA j l (B.comp s H scope fp).calm (fX hc).2 hN hN' (hv s H fp) (hv' s H fp) (hf s H fp) (hf' s H fp)) he hc hs
end
end Hy
namespace Hy
open PySem PySem.Spec PyProof.Rows L2
open Ev (D Den ar ak aY aN)
section
variable {X:Cx} {C:Bool} {τ:List Sl} {x y z:D} {a b e o ix:Expr} {es:List Expr} {pos p q:Pos} {k:Nat} {s:Sl} {N:Po} {rest:List Stmt} {i j:Nat} {t c:Nd} {pt:List Nat} {xs:List Nd} {m:Nat}
theorem set_same {α:Type} {xs:List α} {i:Nat} {y:α} (h:xs[i]?=some y):xs.set i y=xs:=by
 obtain ⟨h1,h2⟩:=Fn.mp h
 rw [<- h2]
 exact List.set_getElem_self h1
end
noncomputable def par:D->Bool
 | .tup [x,y]=>flat x && flat y
 | _=>false
section
variable {K:Fb} {G H:Hp}
end
section
variable {X:Cx} {τ:List Sl} {e:Expr} {pos:Pos} {N:Po} {rest:List Stmt}
end
end Hy
namespace Hy
open PySem PySem.Spec PyProof.Rows L2
open Ev (D Den ar)
theorem _root_.L2.Fun.CZ {K:Fb} {x qual:Str} {st:Stmt} {f T:Addr} {fd:FuncData} {ps:List Str} {c:Value} {d:Option Addr} {items:Array Value} {n:Nat} {sl:Array (Option Value)} (_:L2.Fun K x qual st f fd) (hd:fd.defaults=.ref T) (lT:K.lookup T=some ⟨c,d,.seq items n,sl⟩)
   (h:∀ us:List Value,us.length=ps.length->∃ k,bindArgs fd ⟨us,[]⟩=seqItems? fd.defaults >>= k/\k (some items)=pure (ps.zip us)):L2.Binds K fd ps []:=λs us X hl=>by
 rw [Gh] at hl ⊢
 obtain ⟨k,h1,h2⟩:=h us hl
 exact .of_defaults hd (X _ _ lT) rfl h1 h2
noncomputable def xU (K:Fb) (x:Str) (st:Stmt) (f:Addr) (i:Int):Prop:=Io K mainGlobals x=some (some (.ref f))/\(∃ oc od kV dc pm an cd ct sl T td tl tc tt tn,K.lookup f=some ⟨oc,od,.func (GV x x (cA st) (bY st) (ah st) (.ref T) kV dc pm an cd ct),sl⟩/\Ht K cd x=true/\K.lookup T=some ⟨tc,td,.seq #[.int i tt] tn,tl⟩)/\G6 K (.ref f)=true
section
variable {P:Program} {w:World} {K:Fb} {h:Heap} {mg:Str->Option Value} {base:Heap} {x:Str} {st:Stmt} {f:Addr} {ps:List Str} {k:Nat} {Φ:List D->Sl->Prop} {i:Int}
theorem xU.of {oc tc:Value} {od an td:Option Addr} {kV dc pm cd ct:Value} {sl tl:Array (Option Value)} {T:Addr} {tt:Tok} {tn:Nat} (a:Io K mainGlobals x=some (some (.ref f))) (l:K.lookup f=some ⟨oc,od,.func (GV x x (cA st) (bY st) (ah st) (.ref T) kV dc pm an cd ct),sl⟩) (c:Ht K cd x=true) (d:K.lookup T=some ⟨tc,td,.seq #[.int i tt] tn,tl⟩) (k:G6 K (.ref f)=true):xU K x st f i:=⟨a,⟨_,_,_,_,_,_,_,_,_,_,_,_,_,_,_,l,c,d⟩,k⟩
theorem xU.cal (d:xU K x st f i) (X:K.In h) (G:h.Ns mainGlobals mg) (b:∀ (T:Addr) (tt:Tok) (kV dc pm:Value) (an:Option Addr) (cd ct:Value) (us:List Value),us.length=ps.length->∃ k,bindArgs (GV x x (cA st) (bY st) (ah st) (.ref T) kV dc pm an cd ct) ⟨us,[]⟩=seqItems? (.ref T) >>= k/\k (some #[.int i tt])=pure (ps.zip us))
   (o:∀ fd,Fun K x x st f fd->aQ P w K mg base CX0 k f fd ps (spD K Φ)):Cal P w K mg base k x Φ:=by
 obtain ⟨a,⟨oc,od,kV,dc,pm,an,cd,ct,sl,T,td,tl,tc,tt,tn,l,c',dt⟩,q⟩:=d
 have F:=rS l c' q
 exact ⟨f,_,ps,o _ F,JB X G a,q,F.CZ rfl dt (b T tt kV dc pm an cd ct)⟩
end
mutual
noncomputable def oU:Nd->Bool
 | .d x=>flat x
 | .l xs=>mF xs
 | .t xs=>mF xs
noncomputable def mF:List Nd->Bool
 | []=>true
 | x :: xs=>oU x && mF xs
end
noncomputable def zx:Sl->Bool
 | .un=>true
 | .d x=>flat x
 | .o xs=>xs.all flat
 | .n t=>oU t
 | .x _=>false
section
variable {K:Fb} {G G' H:Hp}
mutual
theorem bD.fl:∀ {u:V} {bs:List Addr} {t:Nd},bD K G H u bs t->oU t=true->bD K G' H u bs t
 | _,_,_,.d h,f=>.d (iJ h (by rw [oU] at f; exact f))
 | _,_,_,.l h r,f=>.l h (aL.fl r (by rw [oU] at f; exact f))
 | _,_,_,.t h r,f=>.t h (aL.fl r (by rw [oU] at f; exact f))
theorem aL.fl:∀ {vs:List V} {bs:List Addr} {ts:List Nd},aL K G H vs bs ts->mF ts=true->aL K G' H vs bs ts
 | _,_,_,.nil,_=>.nil
 | _,_,_,.cons h r,f=>by
   rw [mF,F2] at f
   exact .cons (bD.fl h f.1) (aL.fl r f.2)
end
theorem tM:∀ {vs:List V} {xs:List D},ar K G vs xs->xs.all flat=true->ar K G' vs xs
 | _,_,.nil,_=>.nil
 | _,_,.cons h r,f=>by
   rw [IY,F2] at f
   exact .cons (iJ h f.1) (tM r f.2)
theorem cj.fl {v:Option V} {bs:List Addr}:∀ {s:Sl},cj K G H v bs s->zx s=true->cj K G' H v bs s
 | .un,h,_=>h
 | .d _,⟨h,u,e1,h2⟩,f=>⟨h,u,e1,iJ h2 f⟩
 | .o _,⟨a,vs,h1,h2,h3,h4⟩,f=>⟨a,vs,h1,h2,h3,tM h4 f⟩
 | .n _,⟨h0,u,h1,h2⟩,f=>⟨h0,u,h1,h2.fl f⟩
end
theorem vK {X:Cx} {C C':Bool} {τ:List Sl} {e:Expr} {s s0:Sl} {x:D} (i:Nat) (h:PE X e (dE X.K C' (τ.set i (.d x)) s)) (f:zx s=true) (hi:τ[i]?=some s0:=by rfl) (hx:fzD s0=some x:=by rfl):PE X e (dE X.K C τ s):=
 peW h λσ H Q ⟨A,H₀,B,S,k⟩=>⟨A,H₀,_,S.fz hi hx,λv H' bs e fr q=>k v H' bs e fr (q.fl f)⟩
theorem En {X:Cx} {τ:List Sl} {elt tg it:Expr} {ifs:List Expr} {pos p spos:Pos} {scope:Scope} {rest:List Stmt} {N:Po} {ns:List Nd} {s0:Sl} {x:D} (i j:Nat) {n:Str} (hN:X.N.Nodup) (h:wI X elt tg it ifs scope (τ.set j (.d x)) ns) (f:mF ns=true) (hr:PSs X rest (dS X.K (τ.set i (.n (.l ns))) N))
   (hj:τ[j]?=some s0:=by rfl) (hx:fzD s0=some x:=by rfl) (hi:X.N[i]?=some n:=by rfl) (hl:Loc X.env.scope n:=by first | exact .inl rfl | exact .inr rfl)
   (hsw:swapsWith (.ListComp elt [⟨tg,it,ifs,0⟩] scope pos) (some (.Name n p)) spos.line X.env=pure true:=by rfl) (hf:X.fn n=true\/X.env.scope.names.lookup n=some .local:=by first | exact .inl rfl | exact .inr rfl | assumption) :
   PSs X (.Assign [.Name n p] (.ListComp elt [⟨tg,it,ifs,0⟩] scope pos) spos :: rest) (dS X.K τ N):=by
 obtain ⟨In,caps,N',wi,h1,h2,h3,h4⟩:=h.ex
 exact a8 (M:=(·=τ.set i (.n (.l ns)))) (psW (Ev.iE (dr (i:=i) hN hi hl hf) h1 h2 h.hs h3 hsw) λD σ H ⟨A,H₀,B,S,Me⟩=>h4 true _ _ _ ⟨A,H₀,_,S.fz hj hx,λv H' bs e hf h=>Me.nx _ _ _ _ rfl (S.set e hf (h.fl (show oU (.l ns)=true by rw [oU]; exact f)))⟩) λ_ e=>e ▸ hr
theorem Aa {X:Cx} {τ:List Sl} {elt tg it:Expr} {ifs:List Expr} {pos p spos:Pos} {scope:Scope} {rest:List Stmt} {N:Po} {ns:List Nd} (i:Nat) {n:Str} (hN:X.N.Nodup) (h:wI X elt tg it ifs scope τ ns) (hr:PSs X rest (dS X.K (τ.set i (.n (.l ns))) N))
   (hi:X.N[i]?=some n:=by rfl) (hl:Loc X.env.scope n:=by first | exact .inl rfl | exact .inr rfl)
   (hsw:swapsWith (.ListComp elt [⟨tg,it,ifs,0⟩] scope pos) (some (.Name n p)) spos.line X.env=pure true:=by rfl) (hf:X.fn n=true\/X.env.scope.names.lookup n=some .local:=by first | exact .inl rfl | exact .inr rfl | assumption) :
   PSs X (.Assign [.Name n p] (.ListComp elt [⟨tg,it,ifs,0⟩] scope pos) spos :: rest) (dS X.K τ N):=by
 obtain ⟨In,caps,N',wi,h1,h2,h3,h4⟩:=h.ex
 exact a8 (M:=(·=τ.set i (.n (.l ns)))) (psW (Ev.iE (dr (i:=i) hN hi hl hf) h1 h2 h.hs h3 hsw) λD σ H ⟨A,H₀,B,S,Me⟩=>h4 true _ _ _ ⟨A,H₀,B,S,λv H' bs e hf h=>Me.nx _ _ _ _ rfl (S.set e hf h)⟩) λ_ e=>e ▸ hr
end Hy
namespace Lc
open PySem PySem.Spec PyProof.Rows L2
open PySem.AutoSeq1 (wpAny_loadPart')
open PySem.MeetsSeq PySem.MeetsSeq2 PySem.MeetsSeq3 PySem.SeqRoads2 PySem.SeqAt
open Ev (D Den ar eqD fO toP)
section
variable {X:Cx} {pins:List (Addr × Obj)} {σ:L2.St} {H G:Hp} {s:Shared}
open Ev (cln eD dep fA fN jS oq nP)
end
end Lc
namespace Hy
open PySem PySem.Spec PyProof.Rows L2
open Ev (D Den ar fO)
end Hy
namespace Hy
open PySem PySem.Spec PyProof.Rows L2
open Ev (D Den ar)
section
variable {K:Fb} {A:Addr->Prop} {H₀ H H':Hp} {τ:List Sl} {B:Nat->List Addr} {σ:L2.St}
end
section
variable {X:Cx} {τ:List Sl} {x y z:D} {a b e c:Expr} {es:List Expr} {pos p q:Pos} {k:Nat} {s:Sl} {ds:List D} {N:Po} {rest body:List Stmt}
end
section
variable {P:Program} {w:World} {K:Fb} {mg:Str->Option Value} {base:Heap}
end
section
variable {X:Cx} {τ:List Sl} {es:List Expr} {pos p q pr:Pos} {k:Nat} {s:Sl} {ds:List D} {N:Po} {rest:List Stmt}
end
end Hy
namespace Hy
open PySem PySem.Spec PyProof.Rows L2
open Ev (D Den ar aD aE ak aY aN)
section
variable {X:Cx} {i:Int}
theorem vG {ns:List Int}:cq X (compareOp .NotIn) (.int i) (.tup (ns.map .int)) (.bl (!ns.any λw=>decide (w=i))):=⟨_,oo,λM x' y' H Q _ d1 d2 q=>by
 cases d1
 cases d2 with
 | @tup ad vs _ h r=>
   cases lz r
   refine ⟨_,_,rfl,.inr (aY aI h),rfl,?_,?_⟩
   · rw [JY,F1]; intro _ _; rfl
   · have e:(ns.any λw=>decide (w=i))=inV (.int i) (ns.map V.int):=by unfold inV; rw [List.any_map]; congr 1
     rw [if_pos rfl]
     rw [e] at q
     exact q _ H (aj.refl _) .bl⟩
end
end Hy
namespace Su
open PySem PyProof.Rows HT
open PySem.SeqAt
open PySem.AutoSeq1 (wpAny_loadPart')
open PySem.MeetsSeq PySem.MeetsSeq2 PySem.MeetsSeq3
section
variable {prog:Program} {w:World} {A:Around} {E:Value->Shared->Prop} {s:Shared}
end
end Su
namespace Hy
open PySem PySem.Spec PyProof.Rows L2
open Ev (D Den ar aD aE ak aY aN)
section
variable {X:Cx} {C:Bool} {τ:List Sl} {x y z:D} {a b e:Expr} {es:List Expr} {pos p:Pos} {k:Nat} {s:Sl} {ds xs ys:List D} {i j:Int} {N:Po} {rest:List Stmt}
theorem zv:OpR X (binaryOp .Add) (λx y H Q=>∃ a b ys,x=.ref a/\y=.ref b/\SqT X.K H a []/\SqT X.K H b ys/\Q (.ref b) H):=by
 intro pins s σ H x y v u Q I rx ry h
 obtain ⟨a,b,ys,rfl,rfl,ha,hb,q⟩:=h
 cases rx
 cases ry
 obtain ⟨its,r1,p1,_⟩:=I.tuple ha
 obtain ⟨its2,r2,p2,_⟩:=I.tuple hb
 cases r1
 obtain ⟨⟨cls,dd,data,sl⟩,ho,hc,n,hd⟩:=id p1
 obtain ⟨⟨cls2,dd2,data2,sl2⟩,ho2,hc2,n2,hd2⟩:=id p2
 simp only at hc hd hc2 hd2
 subst hc hd hc2 hd2
 exact concat_meets ⟨_,ho,rfl⟩ ⟨_,ho2,rfl⟩ noFill_tuple_add seq_tuple_add IT IJ (IB _ _) (tuple_addW0 a b _ _ n n2 dd dd2 sl sl2 (by simp)) ⟨ho,ho2,⟨.ref b,H,I,rfl,q⟩⟩
theorem rQ (hl:xs.length + ys.length < 1000000):cq X (binaryOp .Add) (.tup xs) (.tup ys) (.tup (xs++ys)):=by
 have lim:1000000<=sizeLine:=by decide
 cases xs with
 | nil=>exact ⟨_,zv,λM v w H Q _ d1 d2 k=>by
     cases d1 with
     | tup h1 r1=>
       cases r1
       cases d2 with
       | tup h2 r2=>exact ⟨_,_,_,rfl,rfl,aY aI h1,aY aI h2,k _ H (aj.refl _) (.tup h2 r2)⟩⟩
 | cons x0 xs=>exact ⟨_,zg,λM v w H Q hM d1 d2 k=>by
     cases d1 with
     | @tup a1 vs _ h1 r1=>
     cases d2 with
     | @tup a2 ws _ h2 r2=>
     have l1:=r1.length
     have l2:=r2.length
     refine ⟨_,_,_,_,rfl,rfl,aY aI h1,aY aI h2,λz=>by subst z; simp at l1,by omega,λz=>?_,λ_ p hp=>?_⟩
     · subst z
       cases r2
       rw [Gh] at k
       exact k _ H (aj.refl _) (.tup h1 r1)
     · have e:=ak hp (.tup (vs++ws))
       exact k _ _ e (.tup (SqT.of (kY hM hp)) ((r1.append r2).mono (ay e λ_ z=>z)))⟩
end
section
variable {X:Cx} {C:Bool} {τ:List Sl} {x y z:D} {a b e:Expr} {es:List Expr} {pos p:Pos} {k:Nat} {s:Sl} {ds xs ys:List D} {N:Po} {rest:List Stmt}
theorem DV (i:Nat) {n:Str} {ap cp:Pos} (he:PE X e (dE X.K true τ (.o ys))) (hl:xs.length + ys.length < 1000000) (hr:PSs X rest (dS X.K (τ.set i (.o (xs++ys))) N)) (hi:τ[i]?=some (.o xs):=by rfl) (hN:X.N[i]?=some n:=by rfl)
   (hv:Vis X.env.scope n:=by first | exact GO rfl | exact F5 (GO rfl) | exact F5 (F5 rfl)) (hd:(n == ("__debug__" : Str))=false:=by decide) (hcd:(n == ("__classdict__" : Str))=false:=by decide)
   (hfew:((backTo cp (starEach [e] X.env)).all (λx=>!x.1) && (backToKw cp (keywordEach [] X.env)).all (λx=>x.1.isSome) && decide (([e]:List Expr).length + ([]:List Keyword).length + (if ([]:List Keyword).isEmpty then 0 else 1) < 30))=true:=by rfl)
   (hline:(ap.endLine == cp.line)=true:=by rfl) (hst:starEach [e] X.env=(false,eval e X.env) :: starEach [] X.env:=by rfl) (hpl:(backTo cp (starEach [] X.env)).any (·.1)=false:=by rfl)
   (hs:swapsWith (.Call (.Attribute (.Name n p) "extend" ap) [e] [] cp) none pos.line X.env=pure false:=by rfl) (hbase:attributeBase (.Name n p) "extend" X.env (eval (.Name n p) X.env)=eval (.Name n p) X.env:=by rfl) :
   PSs X (.Expr (.Call (.Attribute (.Name n p) "extend" ap) [e] [] cp) pos :: rest) (dS X.K τ N):=
 a8 (M:=(·=τ.set i (.o (xs++ys)))) (psW (fV (pZ GU PySem.F.slot_list_extend PySem.F.type_list_extend uM (bx hN hv hd hcd) (bO he dC hst) hbase hfew hline hst hpl) hs) λD σ H ⟨A,H₀,B,S,Me⟩=>by
   obtain ⟨l,vs,hb,e1,e2,d⟩:=S.sl i _ hi
   refine ⟨_,slot_of e1,.inl ⟨rfl,_,SqL.of e2⟩,A,H₀,B,S,λv H1 bs e3 fr ⟨l2,ws,eb,ev,h2,d2⟩=>?_⟩
   cases ev
   have lim:1000000<=sizeLine:=by decide
   refine ⟨l,l2,vs,ws,rfl,rfl,e3 _ _ e2,h2,by rw [d.length,d2.length]; omega,?_⟩
   exact Me.nx _ _ _ _ rfl ((S.mono e3).put hi hb ((d.mono (ay e3 λ_ z=>z)).append (d2.mono (ay (aj.refl _) λ_ z=>.inl z))))) λ_ e=>e ▸ hr
end
end Hy
namespace Hy
open PySem PySem.Spec PyProof.Rows L2
open Ev (D Den ar ak aY aN)
section
variable {X:Cx}
theorem vM {α:Type}:∀ (its:List α) (k:Nat) (y:α),k<=its.length->its.insertIdx k y=its.take k++[y]++its.drop k
 | _,0,_,_=>rfl
 | a :: r,k + 1,y,h=>by
   rw [IP,vM r k y (by simpa using h)]
   rfl
theorem Ca {its:List Value} {k:Nat} {y:Value} (h:k<=its.length):(its.toArray.extract 0 k).push y++its.toArray.extract k=(its.insertIdx k y).toArray:=by
 apply Array.toList_inj.mp
 simp only [Array.toList_append,Array.toList_push,Array.toList_extract,List.extract_eq_drop_take,JE,J5,Fo]
 rw [vM its k y h]
 congr 1
 exact FC (by rw [Hi]; exact Fc _)
noncomputable def yt:V->List V->Hp->VK->Prop:=λx vs H Q=>∃ l xs,∃ i:Int,∃ y,x=.ref l/\vs=[.int i,y]/\H l=some (.lst xs)/\0<=i/\i.toNat<=xs.length/\xs.length < sizeLine/\Q .non (upd H l (.lst (xs.insertIdx i.toNat y)))
theorem uG:MtM X "list.insert" yt:=by
 intro pins s σ H x vs v us Q I rx rv h
 obtain ⟨l,xs,i,y,rfl,rfl,hH,h0,h1,h2,q⟩:=h
 cases rx
 obtain ⟨u,w,rfl,ru,rw'⟩:=rv.two
 obtain ⟨t,rfl⟩:=ru
 obtain ⟨z,its,n,r,hl,e⟩:=I.uO hH
 have hi:i < 2 ^ 63:=by have:=HI h0; have:sizeLine < 2 ^ 62:=(by decide); omega
 have hf:Builtin.List.listFitsIndex i=true:=by
   unfold Builtin.List.listFitsIndex
   rw [F2]
   exact ⟨decide_eq_true (by omega),decide_eq_true hi⟩
 refine call_meets Kf ⟨_,e,rfl⟩ PySem.F.entry_list_insert (PySem.F.args_list_insert_3 _ _ _) (PySem.AutoSeq1.list_insert_list_int_val_1 l its.toArray n i t w (by simp [hf]) (by rw [Fo]; omega)) ⟨e,?_⟩
 have vi:∀ {xs:List V} {us:List Value} (k:Nat) {a:V} {b:Value},Vals xs us->RelV a b->Vals (xs.insertIdx k a) (us.insertIdx k b):=λ{xs us} k {a b} r ra=>by
   induction k generalizing xs us with
   | zero=>exact .cons ra r
   | succ k ih=>cases r with
     | nil=>exact .nil
     | cons r1 r2=>exact .cons r1 (ih r2)
 refine ⟨.non,_,I.xA (its':=its.insertIdx i.toNat w) hH e ?_ (vi _ r rw') ?_,rfl,q⟩
 · show (its.toArray.extract 0 (if i < 0 then (i + (its.toArray.size:Int)).toNat else min i.toNat its.toArray.size)).push w++its.toArray.extract (if i < 0 then (i + (its.toArray.size:Int)).toNat else min i.toNat its.toArray.size)=_
   rw [if_neg (by omega),Fo,HW (by omega)]
   exact Ca (by omega)
 · rw [JJ h1]; omega
end
section
variable {X:Cx} {C:Bool} {τ:List Sl} {x y z:D} {a b e f o ix:Expr} {es:List Expr} {pos p q:Pos} {k:Nat} {s:Sl} {N:Po} {rest:List Stmt} {i:Nat} {t c:Nd} {pt:List Nat} {xs:List Nd} {j:Int} {m:Nat}
end
noncomputable def Pj (σ:L2.St) (H:Hp) (i j k:Nat):Prop:=∃ a vs v,(σ[i]?).join=some (.ref a)/\H a=some (.lst vs)/\vs[k]?=some v/\σ[j]?=some (some v)
theorem Pj.mono {σ:L2.St} {H H':Hp} {i j k:Nat} (h:Pj σ H i j k) (e:aj H H'):Pj σ H' i j k:=let ⟨a,vs,v,e1,e2,e3,e4⟩:=h; ⟨a,vs,v,e1,e _ _ e2,e3,e4⟩
noncomputable def dPJ (K:Fb) (τ:List Sl) (i j k:Nat) (pt:List Nat):TE:=λσ H Q=>∃ A H₀ B,Sta K A H₀ τ B σ H/\Pj σ H i j k/\∀ u v H',(σ[i]?).join=some u->aj H H'->cE H' (k :: pt) u v->Q v H'
noncomputable def dEJ (K:Fb) (τ:List Sl) (i j k:Nat) (x:D):TE:=λσ H Q=>∃ A H₀ B,Sta K A H₀ τ B σ H/\Pj σ H i j k/\∀ v H',aj H H'->Den K (hd H' A) v x->Q v H'
section
variable {X:Cx} {τ τ1 τ2:List Sl} {x y z:D} {a b e o ix:Expr} {es:List Expr} {pos p q:Pos} {l:Nat} {s:Sl} {N:Po} {st:Stmt} {body rest:List Stmt} {i j k:Nat} {t c:Nd} {pt:List Nat} {xs:List Nd} {m:Nat} {ds:List D}
theorem eG {n:Str} (hN:X.N[j]?=some n:=by rfl) (hv:Vis X.env.scope n:=by first | exact GO rfl | exact F5 (GO rfl) | exact F5 (F5 rfl))
   (hd:(n == ("__debug__" : Str))=false:=by decide) (hcd:(n == ("__classdict__" : Str))=false:=by decide):PE X (.Name n pos) (dPJ X.K τ i j k []):=
 peW (bx hN hv hd hcd) λ_ H _ ⟨_,_,_,_,⟨a,vs,v,e1,e2,e3,e4⟩,q⟩=>⟨v,e4,q _ v H e1 (aj.refl _) ⟨a,vs,v,rfl,.inl e2,e3,rfl⟩⟩
theorem pk {z:Int} (ha:PE X a (dPJ X.K τ i j k pt)) (hb:PE X b (dE X.K false τ (.d (.int z)))) (hi:τ[i]?=some (.n t)) (hp:bz (k :: pt) t=some (.l xs)) (hj:ixN xs.length z=some m) (hs:fZ b:=by exact λ_ _=>rfl):PE X (.Subscript a b pos) (dPJ X.K τ i j k (pt++[m])):=
 peW (xx oO ha hb hs) λσ H Q ⟨A,H₀,B,S,P,q⟩=>⟨A,H₀,B,S,P,λu v H1 eu e1 pv=>aH (S.mono e1) λw H2 e2 d2=>by
   cases d2
   obtain ⟨u',v',m',eu',pv',ok,_⟩:=((S.mono e1).mono e2).at hi hp
   rw [eu] at eu'
   cases eu'
   obtain rfl:=(pv.mono e2).det pv'
   cases ok with
   | @l ad vs _ _ hH r=>
     obtain ⟨x,hx⟩:=tP r (xY hj)
     exact ⟨ad,vs,z,x,rfl,rfl,SqL.of hH,by unfold atI; rw [r.length,hj]; exact hx,q u x H2 eu (e1.trans e2) (pv'.snoc (.inl hH) hx)⟩⟩
theorem xj (h:PE X e (dPJ X.K τ i j k pt)) (hi:τ[i]?=some (.n t)) (hp:bz (k :: pt) t=some c):PE X e (dEJ X.K τ i j k (ndD c)):=peW h λσ H Q ⟨A,H₀,B,S,P,q⟩=>by
 refine ⟨A,H₀,B,S,P,λu v H1 eu e1 pv=>?_⟩
 obtain ⟨u',v',m',eu',pv',ok,hm⟩:=(S.mono e1).at hi hp
 rw [eu] at eu'
 cases eu'
 obtain rfl:=pv.det pv'
 exact q v H1 e1 (ok.den (ay (aj.refl _) λ_ z=>.inl z) λb hb o ho=>ao.mpr ⟨λz=>(by obtain ⟨_,w⟩:=S.ad b z; rw [S.fr i b (hm b hb)] at w; cases w),ho⟩)
theorem Sta.below {K:Fb} {A:Addr->Prop} {H₀ H:Hp} {B:Nat->List Addr} {σ:L2.St} (S:Sta K A H₀ τ B σ H) (hi:τ[i]?=some (.n t)) (hp:bz (k :: pt) t=some (.l xs)) {r w:Addr} (hr:(σ[i]?).join=some (.ref r)) (hw:cE H (k :: pt) (.ref r) (.ref w)):w ≠ r:=by
 obtain ⟨nd,u,e,ok⟩:=S.sl i _ hi
 rw [hr] at e
 cases e
 generalize B i=bi at nd ok
 have key:∀ {vs:List V} {bs:List Addr} {ys:List Nd},aL K (hd H (own A B)) H vs bs ys->(ys[k]?).bind (bz pt)=some (.l xs)->(∃ v,vs[k]?=some v/\cE H pt v (.ref w))->w ∈ bs:=λ{vs bs ys} q e ⟨v,h1,h2⟩=>by
   cases ei:ys[k]? with
   | none=>rw [ei] at e; cases e
   | some c=>
     rw [ei] at e
     obtain ⟨v',l,m,r',g1,g2,g3,_⟩:=q.part ei
     rw [h1] at g1
     cases g1
     obtain ⟨w',l',m',q',f1,f2,f3,_⟩:=g3.focus pt e
     obtain rfl:=h2.det f1
     cases f3 with
     | l hH r2=>
       rw [g2,f2]
       exact Fl _ (FD _ (Fl _ (FD _ (Fi ..))))
 obtain ⟨a,vs,v,e1,e2,e3,e4⟩:=hw
 cases e1
 cases ok with
 | d h=>cases hp
 | @l _ vs' bs ys hH r0=>
   rw [bz] at hp
   have:vs=vs':=by rcases e2 with e2 | e2 <;> rw [hH] at e2 <;> cases e2; rfl
   subst this
   exact λz=>(F8.mp nd).1 (z ▸ key r0 hp ⟨v,e3,e4⟩)
 | @t _ vs' bs ys hH r0=>
   rw [bz] at hp
   have:vs=vs':=by rcases e2 with e2 | e2 <;> rw [hH] at e2 <;> cases e2; rfl
   subst this
   exact λz=>(F8.mp nd).1 (z ▸ key r0 hp ⟨v,e3,e4⟩)
theorem DN {ns ms:List Nd} (h:k < ns.length):(ms.take k++ns.drop k)[k]?=some ns[k]\/ms.length < k:=by
 by_cases hm:ms.length < k
 · exact .inr hm
 · refine .inl ?_
   rw [F0 (by simp; omega)]
   simp [HW (Nat.le_of_not_lt hm),h]
theorem y3 {ns ms:List Nd} (h:k < ns.length) (h':k < ms.length):(ms.take k++ns.drop k).set k ms[k]=ms.take (k + 1)++ns.drop (k + 1):=by
 have hm:(ms.take k).length=k:=by simp; omega
 rw [List.set_append_right _ _ (by omega),hm,Jx,List.drop_eq_getElem_cons h,List.set_cons_zero,IM,Fe h',GB]
 rfl
end
end Hy
namespace Hy
open PySem PySem.Spec PyProof.Rows L2
open Ev (D Den ar ak)
section
variable {X:Cx} {C:Bool} {τ:List Sl} {x y z:D} {a b e:Expr} {es:List Expr} {pos p np cpos:Pos} {k c:Nat} {s:Sl} {ds:List D} {N:Po} {rest body:List Stmt} {cl:Nat->Addr} {Ex:Nat->Hp->Prop} {Et:Hp->Prop}
end
section
variable {P:Program} {w:World} {K:Fb} {mg:Str->Option Value} {base:Heap} {cl:Nat->Addr}
end
section
variable {X:Cx} {C:Bool} {τ:List Sl} {e:Expr} {k c i:Nat} {N:Po} {rest body:List Stmt} {cl:Nat->Addr} {n:Str} {fw S:Addr} {p p' q psm pr ph pos:Pos}
end
section
variable {X:Cx} {C:Bool} {τ:List Sl} {x y z:D} {a b e c0 tg it elt:Expr} {es ifs:List Expr} {pos p q q':Pos} {k c:Nat} {cl:Nat->Addr} {xs:List D} {scope:Scope}
end
section
variable {P:Program} {w:World} {K:Fb} {mg:Str->Option Value} {base:Heap} {cl:Nat->Addr}
end
end Hy
namespace Hy
open PySem PySem.Spec PyProof.Rows L2
open Ev (D Den ar cy eo)
section
variable {X:Cx} {C:Bool} {τ:List Sl} {a e tg it elt:Expr} {es ifs:List Expr} {pos p:Pos} {Et:Hp->Prop} {scope:Scope}
end
end Hy
namespace Hy
open PySem PySem.Spec PyProof.Rows L2
open Ev (D Den ar)
section
variable {P:Program} {w:World} {K:Fb} {h:Heap} {mg:Str->Option Value} {base:Heap} {x:Str} {st:Stmt} {f:Addr} {ps:List Str} {k:Nat} {Φ:List D->Nat->Prop} {cl:Nat->Addr}
end
end Hy
namespace L2
open PySem PySem.Spec PyProof.Rows
section
variable {κ:Type} [DecidableEq κ]
noncomputable def eZ (kvs:List (κ × V)) (k:κ):Option V:=(kvs.find? λkv=>decide (kv.1=k)).map (·.2)
noncomputable def putK (kvs:List (κ × V)) (k:κ) (v:V):List (κ × V):=
 if (kvs.any λkv=>decide (kv.1=k))=true then kvs.map (λkv=>if kv.1=k then (kv.1,v) else kv) else kvs++[(k,v)]
theorem bN {p:κ × V} {r:List (κ × V)} {k:κ} (e:p.1=k):eZ (p :: r) k=some p.2:=by simp [eZ,G0,e]
theorem bM {p:κ × V} {r:List (κ × V)} {k:κ} (e:¬ p.1=k):eZ (p :: r) k=eZ r k:=by simp [eZ,G0,e]
theorem km (k:κ):∀ kvs:List (κ × V),(kvs.any λkv=>decide (kv.1=k))=(eZ kvs k).isSome
 | []=>rfl
 | p :: r=>by
   rw [HQ]
   by_cases e:p.1=k
   · simp only [bN e,decide_eq_true e,Bool.true_or,Option.isSome_some]
   · rw [bM e,decide_eq_false e,Bool.false_or]; exact km k r
theorem oT (k j:κ) (y:V):∀ kvs:List (κ × V),eZ (kvs.map λkv=>if kv.1=k then (kv.1,y) else kv) j=(eZ kvs j).map λx=>if j=k then y else x
 | []=>rfl
 | p :: r=>by
   have ih:=oT k j y r
   rw [FJ]
   by_cases h:p.1=k
   · rw [if_pos h]
     by_cases e:p.1=j
     · rw [bN (p:=(p.1,y)) e,bN e,GF,if_pos (e.symm.trans h)]
     · rw [bM (p:=(p.1,y)) e,bM e,ih]
   · rw [if_neg h]
     by_cases e:p.1=j
     · rw [bN (p:=p) e,bN e,GF,if_neg (λz=>h (e.trans z))]
     · rw [bM (p:=p) e,bM e,ih]
theorem mw (k j:κ) (y:V):∀ kvs:List (κ × V),eZ kvs k=none->eZ (kvs++[(k,y)]) j=if j=k then some y else eZ kvs j
 | [],_=>by
   by_cases e:k=j
   · rw [if_pos e.symm]; exact bN (p:=(k,y)) e
   · rw [if_neg (λz=>e z.symm)]; exact bM (p:=(k,y)) e
 | p :: r,hn=>by
   rw [Gi]
   have hk:¬ p.1=k:=λz=>by rw [bN z] at hn; cases hn
   rw [bM hk] at hn
   have ih:=mw k j y r hn
   by_cases e:p.1=j
   · rw [bN e,bN e,if_neg (λz=>hk (e.trans z))]
   · rw [bM e,bM e,ih]
theorem xf (kvs:List (κ × V)) (k j:κ) (y:V):eZ (putK kvs k y) j=if j=k then some y else eZ kvs j:=by
 unfold putK
 by_cases a:(kvs.any λkv=>decide (kv.1=k))=true
 · rw [if_pos a,oT]
   rw [km] at a
   by_cases e:j=k
   · obtain ⟨x,hx⟩:=Kr.mp a
     rw [if_pos e,e,hx,GF,if_pos rfl]
   · rw [if_neg e]
     cases eZ kvs j with
     | none=>rfl
     | some x=>rw [GF,if_neg e]
 · rw [if_neg a]
   refine mw k j y kvs ?_
   rw [km] at a
   cases q:eZ kvs k with
   | none=>rfl
   | some x=>rw [q] at a; exact (a rfl).elim
theorem jt (kvs:List (κ × V)) (k:κ) (v:V):(putK kvs k v).length<=kvs.length + 1:=by
 unfold putK
 split
 · rw [E9]; omega
 · rw [Fw,Ga,Jq]; omega
theorem pH.getD {o:Option V} {u:Option Value} {d:V} {d':Value} (r:pH o u) (rd:RelV d d'):RelV (o.getD d) (u.getD d'):=by
 cases o with
 | none=>cases u with
   | none=>exact rd
   | some _=>exact (show False from r).elim
 | some _=>cases u with
   | none=>exact (show False from r).elim
   | some _=>exact r
theorem KV.val {kvs:List (κ × V)} {vs:List (κ × Value)} (r:KV kvs vs) (k:κ):pH (eZ kvs k) (valueAt vs k):=by
 unfold KV at r
 induction r with
 | nil=>exact Hf
 | @cons p q ps qs h t ih=>
   obtain ⟨h1,h2⟩:=h
   by_cases e:p.1=k
   · have e':q.1=k:=h1.symm.trans e
     have b:valueAt (q :: qs) k=some q.2:=by simp [valueAt,G0,e']
     rw [bN e,b]; exact h2
   · have e':¬ q.1=k:=λz=>e (h1.trans z)
     have b:valueAt (q :: qs) k=valueAt qs k:=by simp [valueAt,G0,e']
     rw [bM e,b]; exact ih
theorem KV.any {kvs:List (κ × V)} {vs:List (κ × Value)} (r:KV kvs vs) (k:κ):(kvs.any λkv=>decide (kv.1=k))=vs.any λkv=>decide (kv.1=k):=by
 unfold KV at r
 induction r with
 | nil=>rfl
 | cons h t ih=>rw [HQ,HQ,ih,h.1]
theorem KV.Eo {kvs:List (κ × V)} {vs:List (κ × Value)} (r:KV kvs vs) (k:κ) {y:V} {u:Value} (ry:RelV y u) :
   KV (kvs.map λkv=>if kv.1=k then (kv.1,y) else kv) (vs.map λkv=>if kv.1=k then (kv.1,u) else kv):=by
 unfold KV at r ⊢
 induction r with
 | nil=>exact .nil
 | @cons p q ps qs h t ih=>
   rw [FJ,FJ]
   refine .cons ?_ ih
   obtain ⟨h1,h2⟩:=h
   by_cases e:p.1=k
   · rw [if_pos e,if_pos (h1.symm.trans e)]; exact ⟨h1,ry⟩
   · rw [if_neg e,if_neg (λz=>e (h1.trans z))]; exact ⟨h1,h2⟩
theorem KV.put {kvs:List (κ × V)} {vs:List (κ × Value)} (r:KV kvs vs) (k:κ) {y:V} {u:Value} (ry:RelV y u):KV (putK kvs k y) (stored vs k u):=by
 unfold putK stored
 rw [r.any k]
 by_cases e:(vs.any λkv=>decide (kv.1=k))=true
 · rw [if_pos e,if_pos e]; exact r.Eo k ry
 · rw [if_neg e,if_neg e]; exact Paired.snoc r ⟨rfl,ry⟩
theorem KV.keys {kvs:List (κ × V)} {vs:List (κ × Value)} (r:KV kvs vs):kvs.map (·.1)=vs.map (·.1):=by
 unfold KV at r
 induction r with
 | nil=>rfl
 | cons h t ih=>rw [FJ,FJ,ih,h.1]
theorem KV.length {kvs:List (κ × V)} {vs:List (κ × Value)} (r:KV kvs vs):kvs.length=vs.length:=Paired.length r
end
theorem sN {P:Program} {w:World} {k:Key} {u:Value} (r:RelV (kV k) u):(bf P w).is k u=true:=by
 cases k with
 | inl i=>obtain ⟨t,e⟩:=(show ∃ t,u=II i t from r); subst e; exact pF P w i t
 | inr x=>obtain ⟨t,e⟩:=(show ∃ t,u=KR x t from r); subst e; exact qk P w x t
section
variable {P:Program} {w:World} {H:Hp} {h:Heap} {a:Addr}
theorem Ee {u:HO} (ok:HOk P w H h) (e:Rd H a u):bo P w H h a u:=e.ok ok
theorem qa {kvs:List (Key × V)} (ok:HOk P w H h) (e:Rd H a (.dK kvs)):kvs.length<=sizeLine/\(a == sysModules)=false/\∃ vs,KV kvs vs/\h.DictOf (bf P w) a vs:=
 show bo P w H h a (.dK kvs) from Ee ok e
theorem ug {kvs:List (Key × V)} (ok:HOk P w H h) (e:H a=some (.dK kvs)):kvs.length<=sizeLine/\(a == sysModules)=false/\∃ vs,KV kvs vs/\h.DictOf (bf P w) a vs:=qa ok (.inl e)
end
noncomputable def vW (H:Hp) (a:Addr) (y:V) (r:Option V):Prop:=∃ kvs k,Rd H a (.dK kvs)/\y=kV k/\r=eZ kvs k
noncomputable def Dy (H:Hp) (a:Addr) (y v:V) (H':Hp):Prop:=∃ kvs k,H a=some (.dK kvs)/\y=kV k/\kvs.length < sizeLine/\H'=upd H a (.dK (putK kvs k v))
section
variable {X:Cx} {pins:List (Addr × Obj)} {σ:St} {H:Hp} {s:Shared} {a:Addr} {y v:V} {u r:Value} {o:Option V} {A:Around} {E:Value->Shared->Prop}
theorem Inv.big (I:Inv X pins σ H s):sysModules < s.heap.objs.size:=by
 have h:mainGlobals < s.heap.objs.size:=(I.mod.glob.keeps I.bk).lt
 exact GP (by decide) h
theorem uE {Q:Value->Shared->Prop} (hu:A.units + 1 < cLine) (I:Inv X pins σ H s) (g:vW H a y (some v)) (ry:RelV y u) (h:∀ w' s',Inv X pins σ H s'->RelV v w'->Q w' s') :
   wpAny (model X.prog X.w) A (getItem (.ref a) u) Q E s:=by
 obtain ⟨kvs,k,e,ey,l⟩:=g
 subst ey
 obtain ⟨z,hd,vs,rel,dd⟩:=qa I.hok e
 obtain ⟨w',hw,rw'⟩:=pH.some_of (v:=v) (o:=valueAt vs k) (by rw [l]; exact rel.val k)
 exact wpAny_getItem_of (sN ry) dd.mapOf hw (h w' _ (I.tok _) rw')
theorem e7 {h':Heap} {t':Nat} {ob:HO} (I:Inv X pins σ H s) (mu:Mut (H a)) (hs:IA a s.heap h') (he:∃ q,h'.get? a=some q) (new:bo X.prog X.w (upd H a ob) h' a ob) :
   Inv X pins σ (upd H a ob) { s with heap:=h',toks:=t' }:=
 I.write (x:=a) (e:=a) mu (.inl rfl) (λb q hb z=>(hs.2 b hb).trans z) he new
theorem nG {P:Program} {w:World} {H':Hp} {h':Heap} {kvs:List (Key × V)} {vs:List (Key × Value)} (z:kvs.length<=sizeLine) (hd:(a == sysModules)=false) (rel:KV kvs vs) (dd:h'.DictOf (bf P w) a vs) :
   bo P w H' h' a (.dK kvs):=⟨z,hd,vs,rel,dd⟩
theorem uA {H':Hp} {Q:Unit->Shared->Prop} (hu:A.units + 1 < cLine) (I:Inv X pins σ H s) (g:Dy H a y v H') (ry:RelV y u) (rv:RelV v r) (h:∀ s',Inv X pins σ H' s'->Q () s') :
   wpAny (model X.prog X.w) A (setItem (.ref a) u r) Q E s:=by
 obtain ⟨kvs,k,e,ey,l,eH⟩:=g
 subst ey eH
 obtain ⟨z,hd,vs,rel,dd⟩:=ug I.hok e
 have hz:vs.length<=sizeLine:=by rw [<- rel.length]; exact z
 have hl:(putK kvs k v).length<=sizeLine:=by have:=jt kvs k v; omega
 refine wpAny_setItem_pairs (hsz:=hz) (sN ry) dd λh' dd' hs=>h _ ?_
 have he:∃ q,h'.get? a=some q:=let ⟨q,_,_,hq,_⟩:=dd'; ⟨q,hq⟩
 exact e7 I (by rw [e]; exact Hf) hs he (nG hl hd (rel.put k rv) dd')
end
section
variable {X:Cx} {pins:List (Addr × Obj)} {σ:St} {H:Hp} {s:Shared} {a:Addr} {kvs:List (Key × V)} {k:Key} {u:Value} {A:Around} {E:Value->Shared->Prop}
end
noncomputable def lQ (i:Expr):Prop:=∀ ov iv,subscripted i false ov iv=operate [ov,iv] (getItem ov iv)
theorem oe {prog:Program} {w:World} {A:Around} {E:Value->Shared->Prop} {s:Shared} {env:Env} {value slice:Expr} {pos:Pos} {T id:String} {Q:Value->Shared->Prop}
   (hl:typeLookup (.type T) "__getitem__" = pure (some (.builtin id))) (hs:lQ slice)
   (h:wpAny (model prog w) A (eval value env) (λo s₁=>wpAny (model prog w) A (eval slice env) (λi s₂=>s₂.TypeIs o T/\wpAny (model prog w) A (getItem o i) Q E s₂) E s₁) E s) :
   wpAny (model prog w) A (eval (.Subscript value slice pos) env) Q E s:=by
 refine Subscript_ (wpAny_mono h (λo s₁ h₁=>wpAny_mono h₁ (λi s₂ h₂=>?_) λ_ _ x=>x) λ_ _ x=>x)
 obtain ⟨hT,h₂⟩:=h₂
 unfold subscriptTail
 refine wpAny_bind ?_
 rw [getitemInPython_of_ne hT.not_modules]
 refine wpAny_bind (wpAny_specialOf hT hl ?_)
 have fin:wpAny (model prog w) A (subscripted slice false o i) (λr s₃=>wpAny (model prog w) A (letTemporaryGo value o r >>= λ_=>pure r) Q E s₃) E s₂:=by
   rw [hs o i]
   exact wpAny_operating (wpAny_mono h₂ (λr s₃ h₃=>wpAny_bind (wpAny_letTemporaryGo (wpAny_pure h₃))) λ_ _ x=>x)
 first
   | exact wpAny_pure (wpAny_bind fin)
   | exact wpAny_bind (wpAny_pure (wpAny_bind fin))
   | exact wpAny_bind fin
theorem pN {X:Cx} {pins:List (Addr × Obj)} {σ:St} {H:Hp} {s:Shared} {a:Addr} {y:V} {o:Option V} (I:Inv X pins σ H s) (g:vW H a y o):s.TypeIs (.ref a) "dict":=by
 obtain ⟨kvs,k,e,_,_⟩:=g
 obtain ⟨_,_,vs,_,dd⟩:=qa I.hok e
 exact dd.typeIs
noncomputable def Dm (td ty:TE):TE:=λσ H Q=>td σ H λx H1=>ty σ H1 λy H2=>∃ a v,x=.ref a/\vW H2 a y (some v)/\Q v H2
noncomputable def D6 (td ty tv:TE):TS:=λD σ H=>tv σ H λv H1=>td σ H1 λx H2=>ty σ H2 λy H3=>∃ a H4,x=.ref a/\Dy H3 a y v H4/\D.nx σ H4
section
variable {X:Cx} {o i e value:Expr} {pos pos' tpos:Pos} {td ty tv:TE}
theorem zM (hu:X.A.units + 1 < cLine) (ho:PE X o td) (hi:PE X i ty) (hs:lQ i):PE X (.Subscript o i pos) (Dm td ty):=by
 intro pins s σ H Q I h
 refine oe PySem.F.slot_dict_getitem.lookup hs (thn (ho pins s σ H _ I h) λu s1 ⟨x,H1,I1,rx,q1⟩=>thn (hi pins s1 σ H1 _ I1 q1) λiv s2 ⟨y,H2,I2,ry,a,v,ex,g,q2⟩=>?_)
 subst ex
 obtain rfl:u=FV a:=rx
 exact ⟨pN I2 g,uE hu I2 g ry λw' s3 I3 rw'=>⟨v,H2,I3,rw',q2⟩⟩
theorem yx (hu:X.A.units + 1 < cLine) (ho:PE X o td) (hi:PE X i ty) (hv:PE X value tv) (hs:swapsWith value (some (.Subscript o i pos')) pos.line X.env=pure false) :
   PS X (.Assign [.Subscript o i pos'] value pos) (D6 td ty tv):=by
 intro pins s σ H D I h
 refine wpAny_Assign_Subscript (thn (hv pins s σ H _ I h) λr s1 ⟨v,H1,I1,rv,q1⟩=>thn (ho pins s1 σ H1 _ I1 q1) λu s2 ⟨x,H2,I2,rx,q2⟩=>thn (hi pins s2 σ H2 _ I2 q2) λiv s3 ⟨y,H3,I3,ry,a,H4,ex,g,q3⟩=>?_) hs
 subst ex
 obtain rfl:u=FV a:=rx
 exact uA hu I3 g ry rv λs4 I4=>⟨σ,H4,I4,q3⟩
end
theorem pA {P:Program} {w:World} {H:Hp} (h:Heap) (hb:sysModules < h.objs.size):bo P w H (h.push { cls:=.type "dict",data:=.dict #[] }) h.objs.size (.dK []):=
 ⟨FR _,beq_eq_false_iff_ne.mpr (GG (FT hb)),[],.nil,Heap.DictOf.new h⟩
noncomputable def Bl:TE:=λ_ H Q=>∀ p,H p=none->Q (.ref p) (upd H p (.dK []))
section
variable {X:Cx} {pos:Pos}
theorem we:PE X (.Dict [] [] pos) Bl:=λpins s σ H Q I h=>
 wpAny_Dict_empty ⟨.ref s.heap.objs.size,_,I.laid (a:=s.heap.objs.size) (o:=.dK []) (t':=s.toks) (λ_ _ q=>Fg _ q) (Fc _) (pA s.heap I.big),rfl,h _ (I.hok.fresh (Fc _))⟩
end
noncomputable def rN:List (TE × TE)->St->Hp->(List (V × V)->Hp->Prop)->Prop
 | [],_,H,Q=>Q [] H
 | (tk,tv) :: r,σ,H,Q=>tk σ H λx H1=>tv σ H1 λy H2=>rN r σ H2 λps H3=>Q ((x,y) :: ps) H3
noncomputable abbrev VV:List (V × V)->List (Value × Value)->Prop:=Paired λp q=>RelV p.1 q.1/\RelV p.2 q.2
noncomputable def PPs (X:Cx) (pos:Pos) (keys:List (Option Expr)) (values:List Expr) (trs:List (TE × TE)):Prop:=
 ∀ (pins:List (Addr × Obj)) (s:Shared) (σ:St) (H:Hp) (Q:List (V × V)->Hp->Prop),Inv X pins σ H s->rN trs σ H Q ->
   wpAny (model X.prog X.w) X.A (evalPairs (pairTrees keys values X.env pos)) (λvs s'=>∃ ps H',Inv X pins σ H' s'/\VV ps vs/\Q ps H') X.xe s
theorem yD {X:Cx} {pos:Pos}:PPs X pos [] [] []:=λpins s σ H Q I h=>pairTrees_nil_walk ⟨[],H,I,.nil,h⟩
theorem xl {X:Cx} {pos:Pos} {k v:Expr} {ks:List (Option Expr)} {vs:List Expr} {tk tv:TE} {trs:List (TE × TE)} (hk:PE X k tk) (hv:PE X v tv) (hr:PPs X pos ks vs trs) :
   PPs X pos (some k :: ks) (v :: vs) ((tk,tv) :: trs):=λpins s σ H Q I h=>
 pairTrees_cons_walk (thn (hk pins s σ H _ I h) λu s1 ⟨x,H1,I1,rx,q1⟩=>thn (hv pins s1 σ H1 _ I1 q1) λw2 s2 ⟨y,H2,I2,ry,q2⟩=>
   thn (hr pins s2 σ H2 _ I2 q2) λws s3 ⟨ps,H3,I3,rel,q3⟩=>⟨(x,y) :: ps,H3,I3,.cons ⟨rx,ry⟩ rel,q3⟩)
noncomputable def jq (kvs more:List (Key × V)):List (Key × V):=more.foldl (λacc kv=>putK acc kv.1 kv.2) kvs
theorem KV.merge:∀ {more:List (Key × V)} {rs:List (Key × Value)} {kvs:List (Key × V)} {vs:List (Key × Value)},KV more rs->KV kvs vs->KV (jq kvs more) (merged vs rs):=by
 intro more rs kvs vs r
 unfold KV at r
 induction r generalizing kvs vs with
 | nil=>intro q; exact q
 | @cons p q ps qs h t ih=>
   intro r0
   have e:KV (putK kvs p.1 p.2) (stored vs q.1 q.2):=by
     have:=r0.put p.1 h.2
     rw [<- h.1]; exact this
   exact ih e
theorem gm:∀ (more kvs:List (Key × V)),(jq kvs more).length<=kvs.length + more.length
 | [],kvs=>by show kvs.length<=kvs.length + 0; omega
 | p :: r,kvs=>by
   have h1:=gm r (putK kvs p.1 p.2)
   have h2:=jt kvs p.1 p.2
   show (jq (putK kvs p.1 p.2) r).length<=_
   rw [Ga]; omega
theorem lM {P:Program} {w:World}:∀ {kvs:List (Key × V)} {ws:List (Value × Value)},VV (kvs.map λkv=>(kV kv.1,kv.2)) ws->∃ rs,Carries (bf P w) ws rs/\KV kvs rs
 | [],_,r=>by rw [IE] at r; cases r; exact ⟨[],Hf,.nil⟩
 | p :: kvs,_,r=>by
   rw [FJ] at r
   cases r with
   | @cons a b as bs h t=>
     obtain ⟨rs,c,q⟩:=lM (P:=P) (w:=w) t
     obtain ⟨b1,b2⟩:=b
     exact ⟨(p.1,b2) :: rs,⟨sN h.1,rfl,c⟩,.cons ⟨rfl,h.2⟩ q⟩
noncomputable def C4 (trs:List (TE × TE)):TE:=λσ H Q=>∀ p,H p=none->rN trs σ (upd H p (.dK [])) λps H2=>H2 p=some (.dK [])/\∃ kvs:List (Key × V),ps=kvs.map (λkv=>(kV kv.1,kv.2))/\kvs.length<=15/\Q (.ref p) (upd H2 p (.dK (jq [] kvs)))
theorem yJ {X:Cx} {pos:Pos} {keys:List (Option Expr)} {values:List Expr} {trs:List (TE × TE)} (h:PPs X pos keys values trs) (hall:keys.all (·.isSome)=true) (hl:keys.length=values.length) (h0:keys ≠ [])
   (h15:keys.length<=15):PE X (.Dict keys values pos) (C4 trs):=by
 intro pins s σ H Q I q
 have hn:=I.hok.fresh (Fc s.heap.objs.size)
 have I1:=I.laid (a:=s.heap.objs.size) (o:=.dK []) (h':=s.heap.push { cls:=.type "dict",data:=.dict #[] }) (t':=s.toks) (λ_ _ q=>Fg _ q) (Fc _) (pA s.heap I.big)
 refine wpAny_Dict_walk (knd:=bf X.prog X.w) hall hl h0 h15 (thn (h pins _ σ _ _ I1 (q _ hn)) λws s2 ⟨ps,H2,I2,rel,e,kvs,ep,lk,q2⟩=>?_)
 subst ep
 obtain ⟨rs,c,rk⟩:=lM (P:=X.prog) (w:=X.w) rel
 obtain ⟨z,hd,vs0,r0,dd⟩:=ug I2.hok e
 cases r0
 refine ⟨rs,c,dd,λh' dd' hs=>⟨.ref s.heap.objs.size,_,?_,rfl,q2⟩⟩
 have hz:(jq [] kvs).length<=sizeLine:=by
   have h1:=gm kvs []
   rw [Jq] at h1
   rw [sizeLine_eq]; omega
 have he:∃ q,h'.get? s.heap.objs.size=some q:=let ⟨q,_,_,hq,_⟩:=dd'; ⟨q,hq⟩
 exact e7 I2 (by rw [e]; exact Hf) hs he (nG hz hd (rk.merge .nil) dd')
structure M2 (X:Cx) (o:Expr) (m:Str) (apos:Pos) (e f:Expr) (cpos:Pos):Prop where
 base:attributeBase o m X.env (eval o X.env)=eval o X.env
 few:((backTo cpos (starEach [e,f] X.env)).all (λx=>!x.1) && (backToKw cpos (keywordEach [] X.env)).all (λx=>x.1.isSome)
   && decide (([e,f]:List Expr).length + ([]:List Keyword).length + (if ([]:List Keyword).isEmpty then 0 else 1) < 30))=true
 line:(apos.endLine == cpos.line)=true
 trees:backTo cpos (starEach [e,f] X.env)=[(false,eval e X.env),(false,eval f X.env)]
noncomputable def IsD (H:Hp) (a:Addr):Prop:=∃ kvs,Rd H a (.dK kvs)
theorem BZ {X:Cx} {pins:List (Addr × Obj)} {σ:St} {H:Hp} {s:Shared} {a:Addr} (I:Inv X pins σ H s) (d:IsD H a) :
   s.TypeIs (.ref a) "dict" /\ (∀ b,FV a=.ref b->∃ ob,s.heap.get? b=some ob/\ob.dict=none)/\(a == sysModules)=false:=by
 obtain ⟨kvs,e⟩:=d
 obtain ⟨_,hd,vs,_,dd⟩:=qa I.hok e
 refine ⟨dd.typeIs,λb q=>?_,hd⟩
 cases q
 obtain ⟨ob,_,_,h1,h2,_⟩:=dd
 exact ⟨ob,h1,h2.2.1⟩
section
variable {X:Cx} {pins:List (Addr × Obj)} {σ:St} {H:Hp} {s:Shared} {a:Addr} {y d:V} {u r:Value} {o:Option V} {A:Around} {E:Value->Shared->Prop}
theorem Bg {Q:Value->Shared->Prop} (hu:A.units + 1 < cLine) (I:Inv X pins σ H s) (g:vW H a y o) (ry:RelV y u) (rd:RelV d r) (h:∀ w' s',Inv X pins σ H s'->RelV (o.getD d) w'->Q w' s') :
   wpAny (model X.prog X.w) A (call (.builtin "dict.get") [.ref a,u,r]) Q E s:=by
 obtain ⟨kvs,k,e,ey,l⟩:=g
 subst ey
 obtain ⟨z,hd,vs,rel,dd⟩:=qa I.hok e
 refine call_meetsIn KC dd.typeIs PySem.F.entry_dict_get (PySem.F.args_dict_get_3 _ _ _) (meets_dict_get_default (bf X.prog X.w) a (sN ry) hd r) ⟨_,dd.mapOf,h _ _ (I.tok _) ?_⟩
 rw [l]
 exact (rel.val k).getD rd
end
noncomputable def AV (td ty tx:TE):TE:=λσ H Q=>td σ H λx H1=>∃ a,x=.ref a/\IsD H1 a/\ty σ H1 λy H2=>tx σ H2 λz H3=>∃ o,vW H3 a y o/\Q (o.getD z) H3
section
variable {X:Cx} {o e f:Expr} {apos cpos:Pos} {td ty tx:TE}
theorem vU (hu:X.A.units + 1 < cLine) (ho:PE X o td) (he:PE X e ty) (hf:PE X f tx) (m:M2 X o "get" apos e f cpos):PE X (.Call (.Attribute o "get" apos) [e,f] [] cpos) (AV td ty tx):=by
 intro pins s σ H Q I h
 refine wpAny_Call_method m.base m.few m.line Kp KC PySem.F.type_dict_get (thn (ho pins s σ H _ I h) λu s1 ⟨x,H1,I1,rx,a,ex,d,q1⟩=>?_)
 subst ex
 obtain rfl:u=FV a:=rx
 obtain ⟨t1,t2,_⟩:=BZ I1 d
 refine ⟨t1,t2,?_⟩
 rw [m.trees]
 refine HY rfl (Calls.evalArgs_plain (Iy (thn (he pins s1 σ H1 _ I1 q1) λiv s2 ⟨y,H2,I2,ry,q2⟩=>
   Iy (thn (hf pins s2 σ H2 _ I2 q2) λfv s3 ⟨z,H3,I3,rz,ov,g,q3⟩=>JS ?_))))
 exact Bg hu I3 g ry rz λw' s4 I4 rw'=>⟨_,H3,I4,rw',q3⟩
end
end L2
namespace L2
open PySem PySem.Spec PyProof.Rows PySem.SeqAt
section
variable {P:Program} {w:World} {A:Around} {E:Value->Shared->Prop} {s:Shared}
noncomputable def HK (P:Program) (w:World) (A:Around) (h:Heap) (v:Value) (x:Int) (d:Nat):Prop:=
 ∀ (s:Shared) (E:Value->Shared->Prop) (Q:Int->Shared->Prop),s.heap=h->Q x { s with toks:=s.toks + d }->wpAny (model P w) A (pyHash v) Q E s
theorem u0 {a:Addr} {u v:Value} {x y:Int} {m n:Nat} {Q:Int->Shared->Prop} (hu:A.units < cLine) (hk:IsTup s.heap a #[u,v]) (h1:∀ B,B.units<=A.units + 1->HK P w B s.heap u x m) (h2:∀ B,B.units<=A.units + 1->HK P w B s.heap v y n)
   (h:Q (reduceHash (FK [x,y])) { s with toks:=s.toks + (m + n + 1) }):wpAny (model P w) A (pyHash (.ref a)) Q E s:=by
 obtain ⟨o,ho,hc,k,hd⟩:=hk
 have hT:s.TypeIs (.ref a) "tuple":=⟨o,ho,hc⟩
 unfold pyHash
 refine wpAny_bind (wpAny_cRoomFor_or (.inr hu) ?_)
 refine wpAny_bind (wpAny_specialOf hT F.slot_tuple_hash.lookup ?_)
 show wpAny _ _ (if (some (IS "tuple.__hash__") == some GW)=true then _ else _) Q E s
 rw [if_neg (by rw [beq_builtin_none]; exact Fp)]
 refine wpAny_bind (wpAny_specialOf hT F.slot_tuple_hash.lookup ?_)
 show wpAny _ _ (callSpecialIfBoundUnlessNone? (.ref a) "__hash__" _ >>= _) Q E s
 refine wpAny_bind (wpAny_callSpecialIfBoundUnlessNone?_slot hT Ja (wpAny_call_entry Ja hT F.entry_tuple_hash ?_ (F.args_tuple_hash_1 _)))
 show wpAny _ _ (Ic (.ref a) >>= _) _ _ s
 refine wpAny_bind (wpAny_tupleItemsOf ho hd ?_)
 refine wpAny_bind ?_
 rw [<- Iz]
 refine wpAny_forIn_list _
   (λrest (b:Array Int) s'=>(rest=[u,v]/\b=#[]/\s'=s)\/(rest=[v]/\b=#[x]/\s'={ s with toks:=s.toks + m })\/(rest=[]/\b=#[x,y]/\s'={ s with toks:=s.toks + (m + n) }))
   _ ?_ ?_ _ _ (.inl ⟨rfl,rfl,rfl⟩)
 · rintro z rest b s' (⟨e,rfl,rfl⟩ | ⟨e,rfl,rfl⟩ | ⟨e,_⟩)
   · cases e
     refine wpAny_bind (h1 _ ?_ _ _ _ rfl ?_)
     · exact Fc _
     · exact wpAny_pure (.inr (.inl ⟨rfl,rfl,rfl⟩))
   · cases e
     refine wpAny_bind (h2 _ ?_ _ _ _ rfl ?_)
     · exact Fc _
     · exact wpAny_pure (.inr (.inr ⟨rfl,rfl,by simp [Hu]⟩))
   · cases e
 · rintro b s' (⟨e,_⟩ | ⟨e,_⟩ | ⟨_,rfl,rfl⟩)
   · cases e
   · cases e
   show wpAny _ _ (retInt (FK [x,y])) _ _ _
   refine wpAny_ret_mkInt ?_
   show wpAny _ _ (if (decide (-(2:Int) ^ 63<=FK [x,y]) && decide (FK [x,y] < 2 ^ 63))=true then _ else _) Q E _
   unfold reduceHash at h
   by_cases hr:(decide (-(2:Int) ^ 63<=FK [x,y]) && decide (FK [x,y] < 2 ^ 63))=true
   · rw [if_pos hr]
     rw [if_pos hr] at h
     exact wpAny_pure (by simpa [Hu] using h)
   · rw [if_neg hr]
     rw [if_neg hr] at h
     exact wpAny_bind (wpAny_rule (wpAny_pure (by simpa [Hu] using h)))
theorem rR {a:Addr} {u v:Value} {n:Nat} {Q:Bool->Shared->Prop} (hk:IsTup s.heap a #[u,v]) (h1:∀ A E Q,Q true s->wpAny (model P w) A (eqIsQuiet n u) Q E s) (h2:∀ A E Q,Q true s->wpAny (model P w) A (eqIsQuiet n v) Q E s) (h:Q true s) :
   wpAny (model P w) A (eqIsQuiet (n + 1) (.ref a)) Q E s:=by
 obtain ⟨o,ho,hc,k,hd⟩:=hk
 have hT:s.TypeIs (.ref a) "tuple":=⟨o,ho,hc⟩
 unfold eqIsQuiet
 refine wpAny_bind (wpAny_specialOf hT F.slot_tuple_eq.lookup ?_)
 show wpAny _ _ (isInstance (.ref a) (.type "tuple") >>= _) _ _ s
 refine wpAny_bind (wpAny_isInstance hT isSubtype_tuple_tuple ?_)
 simp only [JP,Ha,if_false]
 refine wpAny_bind (wpAny_seqItems ho hd ?_)
 refine wpAny_bind ?_
 show wpAny _ _ (forIn #[u,v] _ _) _ _ s
 rw [<- Iz]
 refine wpAny_forIn_list _ (λrest r s'=>r.1=none/\s'=s/\∀ z ∈ rest,z=u\/z=v) _ ?_ ?_ _ _ ⟨rfl,rfl,λz hz=>by simpa using hz⟩
 · rintro z rest r s' ⟨hr,rfl,hall⟩
   have hz:∀ A E Q,Q true s'->wpAny (model P w) A (eqIsQuiet n z) Q E s':=by
     rcases hall z Fi with rfl | rfl
     · exact h1
     · exact h2
   refine wpAny_bind (hz _ _ _ ?_)
   simp only [JP,Ha,if_false]
   exact wpAny_pure ⟨rfl,rfl,λx hx=>hall x (Fh _ hx)⟩
 · rintro ⟨r1,r2⟩ s' ⟨hr,rfl,_⟩
   simp only at hr
   subst hr
   exact wpAny_pure h
theorem zE {a b:Addr} {u v u' v':Value} {p q:Bool} (hu:A.units < cLine) (ha:IsTup s.heap a #[u,v]) (hb:IsTup s.heap b #[u',v']) (h1:EqAt A.in1 s u u' p) (h2:EqAt A.in1 s v v' q) (hs:a=b->(p && q)=true):EqAt A s (.ref a) (.ref b) (p && q):=by
 by_cases z:a=b
 · subst z
   rw [hs rfl]
   exact .same _
 · have:=EqAt.of_refs z (RcAt.tuples (e:=λj=>if j=0 then p else q) ha hb hu λj j1 j2=>by
     match j,j1 with
     | 0,_=>exact h1
     | 1,_=>exact h2)
   have e:((Fd (min (#[u,v]:Array Value).size (#[u',v']:Array Value).size)).all (λj=>if j=0 then p else q) && (#[u,v]:Array Value).size == (#[u',v']:Array Value).size)=(p && q):=by
     show (p && (q && true) && true)=(p && q)
     cases p <;> cases q <;> rfl
   rw [e] at this
   exact this
end
theorem jQ {h:Heap} {a:Addr} {x y:Array Value} (p:IsTup h a x) (q:IsTup h a y):x=y:=by
 obtain ⟨o,ho,_,n,hd⟩:=p
 obtain ⟨o',ho',_,n',hd'⟩:=q
 rw [ho] at ho'; cases ho'
 rw [hd] at hd'; cases hd'; rfl
theorem tN {h h':Heap} {a d:Addr} {x:Array Value} {o:Obj} {es ep} (p:IsTup h a x) (ho:h.get? d=some o) (hd:o.data=.dict es ep) (hs:IA d h h'):IsTup h' a x:=by
 obtain ⟨o',ho',hc,n,hd'⟩:=p
 have hne:a ≠ d:=by
   rintro rfl
   rw [ho] at ho'; cases ho'
   rw [hd] at hd'; exact nomatch hd'
 exact ⟨o',(hs.2 a hne).trans ho',hc,n,hd'⟩
structure IK (P:Program) (w:World) (K:Type) [DecidableEq K] where
 is:Heap->K->Value->Prop
 hash:K->Int
 draws:K->Nat
 dep:Nat
 inj:∀ {h:Heap} {v:Value} {x y:K},is h x v->is h y v->x=y
 keeps:∀ {h h':Heap} {k:K} {v:Value} {d:Addr} {o:Obj} {es ep},is h k v->h.get? d=some o->o.data=.dict es ep->IA d h h'->is h' k v
 hk:∀ {A:Around} {h:Heap} {k:K} {v:Value},is h k v->A.units + dep < cLine->HK P w A h v (hash k) (draws k)
 eq:∀ {A:Around} {s:Shared} {x y:K} {u v:Value},is s.heap x u->is s.heap y v->A.units + dep < cLine->EqAt A s u v (decide (x=y))
 quiet:∀ {s:Shared} {k:K} {v:Value} {n:Nat},dep < n->is s.heap k v->∀ A E Q,Q true s->wpAny (model P w) A (eqIsQuiet n v) Q E s
section
variable {P:Program} {w:World}
noncomputable def Dg:IK P w Int where
 is:=λ_ k v=>∃ t,v=.int k t
 hash:=hashInt
 draws:=λ_=>1
 dep:=0
 inj:=λ⟨_,e⟩ ⟨_,g⟩=>by rw [e] at g; cases g; rfl
 keeps:=λh _ _ _=>h
 hk:=λ⟨_,e⟩ _ s E Q _ hq=>by rw [e]; exact wpAny_pyHash_int hq
 eq:=λ{A s x y u v} ⟨_,e⟩ ⟨_,g⟩ _=>by
   rw [e,g]
   have:decide (x=y)=(x == y):=by by_cases h:x=y <;> simp [h]
   rw [this]
   exact .int_int _ _ _ _
 quiet:=λ{s k v n} hn ⟨_,e⟩ A E Q q=>by
   obtain ⟨m,rfl⟩:∃ m,n=m + 1:=⟨n - 1,by omega⟩
   rw [e]
   exact wpAny_pure q
variable {K K':Type} [DecidableEq K] [DecidableEq K']
noncomputable def Bb (a:IK P w K) (b:IK P w K'):IK P w (K × K') where
 is:=λh k v=>∃ p u u',v=.ref p/\IsTup h p #[u,u']/\a.is h k.1 u/\b.is h k.2 u'
 hash:=λk=>reduceHash (FK [a.hash k.1,b.hash k.2])
 draws:=λk=>a.draws k.1 + b.draws k.2 + 1
 dep:=max a.dep b.dep + 1
 inj:=λ{h v x y} ⟨p,u,u',e,t,h1,h2⟩ ⟨p',v1,v2,e',t',g1,g2⟩=>by
   rw [e] at e'
   cases e'
   have q:=jQ t t'
   simp only [Array.mk.injEq,List.cons.injEq,and_true] at q
   obtain ⟨rfl,rfl⟩:=q
   exact Prod.ext (a.inj h1 g1) (b.inj h2 g2)
 keeps:=λ⟨p,u,u',e,t,h1,h2⟩ ho hd hs=>⟨p,u,u',e,tN t ho hd hs,a.keeps h1 ho hd hs,b.keeps h2 ho hd hs⟩
 hk:=λ{A h k v} ⟨p,u,u',e,t,h1,h2⟩ hu s E Q eh hq=>by
   rw [e]
   subst eh
   exact u0 (by omega) t (λB hB=>a.hk h1 (by omega)) (λB hB=>b.hk h2 (by omega)) hq
 eq:=λ{A s x y u v} hx hy hu=>by
   obtain ⟨p,u1,u2,e,t,h1,h2⟩:=id hx
   obtain ⟨p',v1,v2,e',t',g1,g2⟩:=id hy
   have ed:decide (x=y)=(decide (x.1=y.1) && decide (x.2=y.2)):=by
     obtain ⟨x1,x2⟩:=x
     obtain ⟨y1,y2⟩:=y
     rw [HR]
     simp
   rw [e,e',ed]
   refine zE (by omega) t t' (a.eq h1 g1 (show A.units + 1 + a.dep < cLine by omega)) (b.eq h2 g2 (show A.units + 1 + b.dep < cLine by omega)) λz=>?_
   subst z
   have q:=jQ t t'
   simp only [Array.mk.injEq,List.cons.injEq,and_true] at q
   obtain ⟨rfl,rfl⟩:=q
   rw [a.inj h1 g1,b.inj h2 g2]
   simp
 quiet:=λ{s k v n} hn ⟨p,u,u',e,t,h1,h2⟩ A E Q q=>by
   obtain ⟨m,rfl⟩:∃ m,n=m + 1:=⟨n - 1,by omega⟩
   rw [e]
   exact rR t (a.quiet (by omega) h1) (b.quiet (by omega) h2) q
noncomputable def kindOf (a:IK P w K) (hd:a.dep<=7):HeapKind P w K where
 is:=λh k p=>a.is h k (.ref p)
 hash:=a.hash
 draws:=a.draws
 room:=λA=>A.units + 8 < cLine
 inj:=a.inj
 keeps:=a.keeps
 pyHash:=λ{A E s k p Q} hu hk h=>a.hk hk (by omega) s E Q rfl h
 eqBool:=λ{A E s x y p p' Q} hu hx hy h=>a.eq hx hy (by omega) _ _ _ _ h
 quiet:=λ{A E s k p Q} hk h=>a.quiet (by omega) hk A E Q h
end
inductive dM {K:Type} (R:K->Value->Prop):List K->List Value->Prop where
 | nil:dM R [] []
 | cons {x:K} {v:Value} {xs:List K} {vs:List Value} (h:R x v) (r:dM R xs vs):dM R (x :: xs) (v :: vs)
section
variable {K:Type}
theorem dM.mono {R S:K->Value->Prop} (f:∀ x v,R x v->S x v):∀ {xs:List K} {vs:List Value},dM R xs vs->dM S xs vs
 | _,_,.nil=>.nil
 | _,_,.cons h r=>.cons (f _ _ h) (r.mono f)
theorem dM.inj {R:K->Value->Prop} (f:∀ x y v,R x v->R y v->x=y):∀ {xs ys:List K} {vs:List Value},dM R xs vs->dM R ys vs->xs=ys
 | _,_,_,.nil,.nil=>rfl
 | _,_,_,.cons h r,.cons g q=>by rw [f _ _ _ h g,r.inj f q]
theorem dM.length {R:K->Value->Prop}:∀ {xs:List K} {vs:List Value},dM R xs vs->xs.length=vs.length
 | _,_,.nil=>rfl
 | _,_,.cons _ r=>congrArg (· + 1) r.length
theorem dM.at {R:K->Value->Prop}:∀ {xs:List K} {vs:List Value},dM R xs vs->∀ (j:Nat) (h1:j < xs.length) (h2:j < vs.length),R xs[j] vs[j]
 | _,_,.nil,_,h1,_=>absurd h1 (Gb _)
 | _,_,.cons h _,0,_,_=>h
 | _,_,.cons _ r,j + 1,h1,h2=>r.at j (Nat.lt_of_succ_lt_succ h1) (Nat.lt_of_succ_lt_succ h2)
theorem dM.mem {R:K->Value->Prop}:∀ {xs:List K} {vs:List Value},dM R xs vs->∀ v ∈ vs,∃ x,R x v
 | _,_,.nil,_,h=>nomatch h
 | _,_,.cons h r,v,hv=>(Fv.mp hv).elim (λz=>⟨_,z ▸ h⟩) (r.mem v)
theorem all_eq [DecidableEq K] {xs ys:List K}:((Fd (min xs.length ys.length)).all (λj=>decide (xs[j]?=ys[j]?)) && xs.length == ys.length)=decide (xs=ys):=by
 rw [HR]
 simp only [F2,F1,FN,decide_eq_true_eq,beq_iff_eq]
 constructor
 · rintro ⟨h1,h2⟩
   refine List.ext_getElem? λj=>?_
   by_cases hj:j < xs.length
   · exact h1 j (by omega)
   · rw [G9 (by omega),G9 (by omega)]
 · rintro rfl
   exact ⟨λ_ _=>rfl,rfl⟩
end
section
variable {P:Program} {w:World} {K:Type} [DecidableEq K]
theorem u7 {a:IK P w K} {A:Around} {E:Value->Shared->Prop} {s:Shared} {p:Addr} {its:List Value} {xs:List K} {Q:Int->Shared->Prop} (hu:A.units + (a.dep + 1) < cLine) (hk:IsTup s.heap p its.toArray) (hs:dM (a.is s.heap) xs its)
   (h:Q (reduceHash (FK (xs.map a.hash))) { s with toks:=s.toks + ((xs.map a.draws).sum + 1) }):wpAny (model P w) A (pyHash (.ref p)) Q E s:=by
 obtain ⟨o,ho,hc,k,hd⟩:=hk
 have hT:s.TypeIs (.ref p) "tuple":=⟨o,ho,hc⟩
 unfold pyHash
 refine wpAny_bind (wpAny_cRoomFor_or (.inr (by omega)) ?_)
 refine wpAny_bind (wpAny_specialOf hT F.slot_tuple_hash.lookup ?_)
 show wpAny _ _ (if (some (IS "tuple.__hash__") == some GW)=true then _ else _) Q E s
 rw [if_neg (by rw [beq_builtin_none]; exact Fp)]
 refine wpAny_bind (wpAny_specialOf hT F.slot_tuple_hash.lookup ?_)
 show wpAny _ _ (callSpecialIfBoundUnlessNone? (.ref p) "__hash__" _ >>= _) Q E s
 refine wpAny_bind (wpAny_callSpecialIfBoundUnlessNone?_slot hT Ja (wpAny_call_entry Ja hT F.entry_tuple_hash ?_ (F.args_tuple_hash_1 _)))
 show wpAny _ _ (Ic (.ref p) >>= _) _ _ s
 refine wpAny_bind (wpAny_tupleItemsOf ho hd ?_)
 refine wpAny_bind ?_
 rw [<- Iz]
 refine wpAny_forIn_list _
   (λrest (b:Array Int) s'=>∃ (ks:List K) (n:Nat),dM (a.is s.heap) ks rest/\b.toList++ks.map a.hash=xs.map a.hash/\n + (ks.map a.draws).sum=(xs.map a.draws).sum/\s'={ s with toks:=s.toks + n })
   _ ?_ ?_ _ _ ⟨xs,0,hs,rfl,by omega,rfl⟩
 · rintro z rest b s' ⟨ks,n,hr,e1,e2,rfl⟩
   cases hr with
   | @cons x _ ks' _ hx hr=>
     refine wpAny_bind (a.hk hx (show A.units + 1 + a.dep < cLine by omega) _ _ _ rfl ?_)
     refine wpAny_pure ⟨ks',n + a.draws x,hr,?_,?_,by simp [Hu]⟩
     · simpa using e1
     · rw [FJ,List.sum_cons] at e2
       omega
 · rintro b s' ⟨ks,n,hr,e1,e2,rfl⟩
   cases hr
   rw [IE,Gh] at e1
   rw [IE,List.sum_nil,Ik] at e2
   subst e2
   show wpAny _ _ (retInt (FK b.toList)) _ _ _
   rw [e1]
   refine wpAny_ret_mkInt ?_
   show wpAny _ _ (if (decide (-(2:Int) ^ 63<=FK (xs.map a.hash)) && decide (FK (xs.map a.hash) < 2 ^ 63))=true then _ else _) Q E _
   unfold reduceHash at h
   by_cases hr:(decide (-(2:Int) ^ 63<=FK (xs.map a.hash)) && decide (FK (xs.map a.hash) < 2 ^ 63))=true
   · rw [if_pos hr]
     rw [if_pos hr] at h
     exact wpAny_pure (by simpa [Hu] using h)
   · rw [if_neg hr]
     rw [if_neg hr] at h
     exact wpAny_bind (wpAny_rule (wpAny_pure (by simpa [Hu] using h)))
theorem qQ {A:Around} {E:Value->Shared->Prop} {s:Shared} {p:Addr} {its:List Value} {n:Nat} {Q:Bool->Shared->Prop} (hk:IsTup s.heap p its.toArray) (h1:∀ z ∈ its,∀ A E Q,Q true s->wpAny (model P w) A (eqIsQuiet n z) Q E s) (h:Q true s) :
   wpAny (model P w) A (eqIsQuiet (n + 1) (.ref p)) Q E s:=by
 obtain ⟨o,ho,hc,k,hd⟩:=hk
 have hT:s.TypeIs (.ref p) "tuple":=⟨o,ho,hc⟩
 unfold eqIsQuiet
 refine wpAny_bind (wpAny_specialOf hT F.slot_tuple_eq.lookup ?_)
 show wpAny _ _ (isInstance (.ref p) (.type "tuple") >>= _) _ _ s
 refine wpAny_bind (wpAny_isInstance hT isSubtype_tuple_tuple ?_)
 simp only [JP,Ha,if_false]
 refine wpAny_bind (wpAny_seqItems ho hd ?_)
 refine wpAny_bind ?_
 show wpAny _ _ (forIn its.toArray _ _) _ _ s
 rw [<- Iz]
 refine wpAny_forIn_list _ (λrest r s'=>r.1=none/\s'=s/\∀ z ∈ rest,z ∈ its) _ ?_ ?_ _ _ ⟨rfl,rfl,λz hz=>by simpa using hz⟩
 · rintro z rest r s' ⟨hr,rfl,hall⟩
   refine wpAny_bind (h1 z (hall z Fi) _ _ _ ?_)
   simp only [JP,Ha,if_false]
   exact wpAny_pure ⟨rfl,rfl,λx hx=>hall x (Fh _ hx)⟩
 · rintro ⟨r1,r2⟩ s' ⟨hr,rfl,_⟩
   simp only at hr
   subst hr
   exact wpAny_pure h
noncomputable def CC (a:IK P w K):IK P w (List K) where
 is:=λh ks v=>∃ p its,v=.ref p/\IsTup h p its.toArray/\dM (a.is h) ks its
 hash:=λks=>reduceHash (FK (ks.map a.hash))
 draws:=λks=>(ks.map a.draws).sum + 1
 dep:=a.dep + 1
 inj:=λ{h v x y} ⟨p,its,e,t,r⟩ ⟨p',its',e',t',r'⟩=>by
   rw [e] at e'
   cases e'
   have q:its=its':=congrArg KZ (jQ t t')
   subst q
   exact dM.inj (R:=a.is h) (λ_ _ _ z1 z2=>a.inj z1 z2) r r'
 keeps:=λ⟨p,its,e,t,r⟩ ho hd hs=>⟨p,its,e,tN t ho hd hs,r.mono λ_ _ z=>a.keeps z ho hd hs⟩
 hk:=λ{A h k v} ⟨p,its,e,t,r⟩ hu s E Q eh hq=>by
   rw [e]
   subst eh
   exact u7 hu t r hq
 eq:=λ{A s x y u v} hx hy hu=>by
   obtain ⟨p,its,e,t,r⟩:=id hx
   obtain ⟨p',its',e',t',r'⟩:=id hy
   rw [e,e']
   by_cases z:p=p'
   · subst z
     have q:its=its':=congrArg KZ (jQ t t')
     subst q
     rw [decide_eq_true (dM.inj (R:=a.is s.heap) (λ_ _ _ z1 z2=>a.inj z1 z2) r r')]
     exact .same _
   · have:=EqAt.of_refs z (RcAt.tuples (e:=λj=>decide (x[j]?=y[j]?)) t t' (show A.units < cLine by omega) λj j1 j2=>by
       have l1:j < x.length:=by rw [r.length]; simpa using j1
       have l2:j < y.length:=by rw [r'.length]; simpa using j2
       rw [Fe l1,Fe l2]
       have:=a.eq (A:=A.in1) (r.at j l1 (by simpa using j1)) (r'.at j l2 (by simpa using j2)) (show A.units + 1 + a.dep < cLine by omega)
       simpa using this)
     have el:(its.toArray.size,its'.toArray.size)=(x.length,y.length):=by rw [r.length,r'.length]; simp
     have e1:its.toArray.size=x.length:=congrArg Prod.fst el
     have e2:its'.toArray.size=y.length:=congrArg Prod.snd el
     rw [e1,e2,all_eq] at this
     exact this
 quiet:=λ{s k v n} hn ⟨p,its,e,t,r⟩ A E Q q=>by
   obtain ⟨m,rfl⟩:∃ m,n=m + 1:=⟨n - 1,by omega⟩
   rw [e]
   refine qQ t (λz hz=>?_) q
   obtain ⟨x,hx⟩:=r.mem z hz
   exact a.quiet (by omega) hx
end
end L2
namespace Ev
open PySem PySem.Spec PyProof.Rows L2
structure KD (K:Type) [DecidableEq K] where
 ik:∀ (P:Program) (w:World),IK P w K
 dep:Nat
 dep_ok:∀ P w,(ik P w).dep=dep
 toD:K->D
 den:∀ {X:Cx} {pins:List (Addr × Obj)} {σ:L2.St} {H:Hp} {s:Shared} {v:V} {u:Value} {k:K},Inv X pins σ H s->Den X.K H v (toD k)->RelV v u->(ik X.prog X.w).is s.heap k u
noncomputable def Dc:KD Int where
 ik:=λ_ _=>Dg
 dep:=0
 dep_ok:=λ_ _=>rfl
 toD:=.int
 den:=λ_ d r=>by cases d; exact r
section
variable {K K':Type} [DecidableEq K] [DecidableEq K']
noncomputable def AR (a:KD K) (b:KD K'):KD (K × K') where
 ik:=λP w=>Bb (a.ik P w) (b.ik P w)
 dep:=max a.dep b.dep + 1
 dep_ok:=λP w=>by show max (a.ik P w).dep (b.ik P w).dep + 1=_; rw [a.dep_ok,b.dep_ok]
 toD:=λk=>.tup [a.toD k.1,b.toD k.2]
 den:=λ{X pins σ H s v u k} I d r=>by
   cases d with
   | tup h q=>
     cases (show u=FV _ from r)
     obtain ⟨its,rv,t,_⟩:=I.tuple h
     cases q with
     | cons d1 q=>cases q with
       | cons d2 q=>cases q with
         | nil=>cases rv with
           | cons r1 rv=>cases rv with
             | cons r2 rv=>cases rv with
               | nil=>exact ⟨_,_,_,rfl,t,a.den I d1 r1,b.den I d2 r2⟩
theorem oY (a:KD K) {X:Cx} {pins:List (Addr × Obj)} {σ:L2.St} {H:Hp} {s:Shared} (I:Inv X pins σ H s):∀ {ks:List K} {vs:List V} {us:List Value},ar X.K H vs (ks.map a.toD)->Vals vs us->dM ((a.ik X.prog X.w).is s.heap) ks us
 | [],_,_,.nil,.nil=>.nil
 | _ :: _,_,_,.cons d r,.cons q t=>.cons (a.den I d q) (oY a I r t)
noncomputable def AS (a:KD K):KD (List K) where
 ik:=λP w=>CC (a.ik P w)
 dep:=a.dep + 1
 dep_ok:=λP w=>by show (a.ik P w).dep + 1=_; rw [a.dep_ok]
 toD:=λks=>.tup (ks.map a.toD)
 den:=λ{X pins σ H s v u k} I d r=>by
   generalize e:D.tup (k.map a.toD)=x at d
   cases d with
   | tup h q=>
     cases e
     cases (show u=FV _ from r)
     obtain ⟨its,rv,t,_⟩:=I.tuple h
     exact ⟨_,its,rfl,t,oY a I q rv⟩
   | _=>cases e
noncomputable abbrev NEs (K:Type):=List (K × Addr × Value)
noncomputable def kd (a:KD K) (hd:a.dep<=7) (P:Program) (w:World):HeapKind P w K:=kindOf (a.ik P w) (by rw [a.dep_ok]; exact hd)
variable {a:KD K} {hd:a.dep<=7}
noncomputable def dNk (a:KD K) (hd:a.dep<=7) (P:Program) (w:World) (p:Addr) (xs:NEs K):HO:=.ext λh=>(p == sysModules)=false/\∃ o es ep,h.get? p=some o/\o.ExactDict/\o.data=.dict es ep/\es.toList=xs.map (entryOfKey (kd a hd P w))/\(xs.map (·.1)).Nodup
structure gn (a:KD K) (hd:a.dep<=7) (P:Program) (w:World) (F:Fb) (H:Hp) (d:Addr) (xs:NEs K):Prop where
 at_:H d=some (dNk a hd P w d xs)
 key:∀ x ∈ xs,Den F H (.ref x.2.1) (a.toD x.1)
variable {X:Cx} {pins:List (Addr × Obj)} {σ:L2.St} {H:Hp} {s:Shared} {d b:Addr} {xs:NEs K} {k:K} {A:Around} {E:Value->Shared->Prop}
theorem key_is (I:Inv X pins σ H s) (q:Den X.K H (.ref b) (a.toD k)):(kd a hd X.prog X.w).is s.heap k b:=a.den I q rfl
theorem vB (I:Inv X pins σ H s) (D:gn a hd X.prog X.w X.K H d xs):(d == sysModules)=false/\s.heap.DictOfH (kd a hd X.prog X.w) d xs:=by
 obtain ⟨⟨h0,o,es,ep,h1,h2,h3,h4,h5⟩,_⟩:=(show bo X.prog X.w H s.heap d (dNk a hd X.prog X.w d xs) from I.hok d _ D.at_)
 exact ⟨h0,o,es,ep,h1,h2,h3,h4,λx hx=>key_is I (D.key x hx),h5⟩
noncomputable def C7 (a:KD K) (hd:a.dep<=7) (P:Program) (w:World) (F:Fb) (td ty:TE):TE:=λσ H Q=>td σ H λx H1=>ty σ H1 λy H2=>∃ d b k xs p v,x=.ref d/\y=.ref b/\gn a hd P w F H2 d xs/\Den F H2 (.ref b) (a.toD k)/\atKey xs k=some p/\RelV v p.2/\Q v H2
noncomputable def Dr (a:KD K) (hd:a.dep<=7) (P:Program) (w:World) (F:Fb) (td ty tv:TE):TS:=λD σ H=>tv σ H λv H1=>td σ H1 λx H2=>ty σ H2 λy H3=>∃ d b k xs,x=.ref d/\y=.ref b/\gn a hd P w F H3 d xs/\Den F H3 (.ref b) (a.toD k)/\xs.length<=sizeLine/\∀ u,RelV v u->D.nx σ (upd H3 d (dNk a hd P w d (storedH xs k b u)))
noncomputable def DM (a:KD K) (hd:a.dep<=7) (P:Program) (w:World):TE:=λ_ H Q=>∀ p,H p=none->Q (.ref p) (upd H p (dNk a hd P w p []))
variable {o i e value:Expr} {pos pos':Pos} {td ty tv:TE}
theorem iG (hu:X.A.units + 16 < cLine) (ho:PE X o td) (hi:PE X i ty) (hs:lQ i):PE X (.Subscript o i pos) (C7 a hd X.prog X.w X.K td ty):=by
 intro pins s σ H Q I h
 refine oe PySem.F.slot_dict_getitem.lookup hs (thn (ho pins s σ H _ I h) λu s1 ⟨x,H1,I1,rx,q1⟩=>thn (hi pins s1 σ H1 _ I1 q1) λiv s2 ⟨y,H2,I2,ry,d,b,k,xs,p,v,ex,ey,D,g,hp,rv,q2⟩=>?_)
 subst ex ey
 obtain rfl:u=FV d:=rx
 obtain rfl:iv=FV b:=ry
 obtain ⟨_,dd⟩:=vB I2 D
 exact ⟨dd.typeIs,wpAny_getItem_heap (show X.A.units + 1 + 8 < cLine by omega) (key_is I2 g) dd hp ⟨v,H2,I2.tok _,rv,q2⟩⟩
theorem n9 (hu:X.A.units + 16 < cLine) (ho:PE X o td) (hi:PE X i ty) (hv:PE X value tv) (hs:swapsWith value (some (.Subscript o i pos')) pos.line X.env=pure false) :
   PS X (.Assign [.Subscript o i pos'] value pos) (Dr a hd X.prog X.w X.K td ty tv):=by
 intro pins s σ H D I h
 refine wpAny_Assign_Subscript (thn (hv pins s σ H _ I h) λr s1 ⟨v,H1,I1,rv,q1⟩=>thn (ho pins s1 σ H1 _ I1 q1) λu s2 ⟨x,H2,I2,rx,q2⟩=>thn (hi pins s2 σ H2 _ I2 q2) λiv s3 ⟨y,H3,I3,ry,d,b,k,xs,ex,ey,D',g,hl,q3⟩=>?_) hs
 subst ex ey
 obtain rfl:u=FV d:=rx
 obtain rfl:iv=FV b:=ry
 obtain ⟨hd',dd⟩:=vB I3 D'
 refine wpAny_setItem_heap (hsz:=hl) (show X.A.units + 1 + 8 < cLine by omega) (key_is I3 g) dd λh' dd' hs=>⟨σ,_,?_,q3 r rv⟩
 obtain ⟨q,es,ep,hq,h2,h3,h4,_,h5⟩:=dd'
 refine e7 I3 (by rw [D'.at_]; exact Hf) hs ⟨q,hq⟩ ⟨⟨hd',q,es,ep,hq,h2,h3,h4,h5⟩,⟨q,hq⟩,λa1 a2 ⟨z0,o,es,ep,z1,z2⟩ hk=>⟨z0,o,es,ep,hk o z1,z2⟩⟩
theorem nJ:PE X (.Dict [] [] pos) (DM a hd X.prog X.w):=λpins s σ H Q I h=>
 wpAny_Dict_empty ⟨.ref s.heap.objs.size,_,I.laid (a:=s.heap.objs.size) (o:=dNk a hd X.prog X.w s.heap.objs.size []) (t':=s.toks) (λ_ _ q=>Fg _ q) (Fc _)
   ⟨⟨beq_eq_false_iff_ne.mpr (GG (FT I.big)),_,#[],0,FA _ rfl,⟨rfl,rfl,rfl⟩,rfl,rfl,Hc⟩,⟨_,FA _ rfl⟩,λa1 a2 ⟨z0,o,es,ep,z1,z2⟩ hk=>⟨z0,o,es,ep,hk o z1,z2⟩⟩,rfl,h _ (I.hok.fresh (Fc _))⟩
end
end Ev
namespace Hy
open PySem PySem.Spec PyProof.Rows L2
open Ev (D Den ar KD NEs dNk gn)
section
variable {K:Type} [DecidableEq K]
inductive EnK (a:KD K) (F:Fb) (G:Hp):NEs K->List (K × D)->Prop where
 | nil:EnK a F G [] []
 | cons {k:K} {b:Addr} {u:Value} {v:V} {x:D} {xs:NEs K} {m:List (K × D)} (hk:Den F G (.ref b) (a.toD k)) (hr:RelV v u) (hv:Den F G v x) (r:EnK a F G xs m):EnK a F G ((k,b,u) :: xs) ((k,x) :: m)
variable {a:KD K} {F:Fb} {G G':Hp}
theorem EnK.mono (e:aj G G'):∀ {xs:NEs K} {m:List (K × D)},EnK a F G xs m->EnK a F G' xs m
 | _,_,.nil=>.nil
 | _,_,.cons h1 h2 h3 r=>.cons (h1.mono e) h2 (h3.mono e) (r.mono e)
theorem EnK.length:∀ {xs:NEs K} {m:List (K × D)},EnK a F G xs m->xs.length=m.length
 | _,_,.nil=>rfl
 | _,_,.cons _ _ _ r=>congrArg (· + 1) r.length
theorem EnK.key:∀ {xs:NEs K} {m:List (K × D)},EnK a F G xs m->∀ x ∈ xs,Den F G (.ref x.2.1) (a.toD x.1)
 | _,_,.nil,_,h=>nomatch h
 | _,_,.cons h _ _ r,x,hx=>(Fv.mp hx).elim (λz=>z ▸ h) (r.key x)
noncomputable def getM (m:List (K × D)) (k:K):Option D:=(m.find? λx=>decide (x.1=k)).map (·.2)
noncomputable def eQ (m:List (K × D)) (k:K) (x:D):List (K × D):=if (getM m k).isSome then m.map λy=>if y.1=k then (y.1,x) else y else m++[(k,x)]
theorem EnK.at:∀ {xs:NEs K} {m:List (K × D)},EnK a F G xs m->∀ k,match getM m k with
   | none=>atKey xs k=none
   | some x=>∃ p v,atKey xs k=some p/\RelV v p.2/\Den F G v x
 | _,_,.nil,_=>rfl
 | _,_,.cons (k:=k') (x:=y) (m:=m) (xs:=xs) h1 h2 h3 r,k=>by
   have ih:=r.at k
   unfold getM atKey at *
   by_cases e:k'=k
   · simp only [G0,e,decide_true,GF]
     exact ⟨_,_,rfl,h2,h3⟩
   · simp only [G0,e,decide_false]
     exact ih
theorem EnK.isSome {xs:NEs K} {m:List (K × D)} (h:EnK a F G xs m) (k:K):(atKey xs k).isSome=(getM m k).isSome:=by
 have:=h.at k
 cases e:getM m k with
 | none=>rw [e] at this; simp only at this; rw [this]; rfl
 | some x=>rw [e] at this; obtain ⟨p,v,h1,_⟩:=this; rw [h1]; rfl
theorem EnK.snoc {k:K} {b:Addr} {u:Value} {v:V} {x:D} (h1:Den F G (.ref b) (a.toD k)) (h2:RelV v u) (h3:Den F G v x):∀ {xs:NEs K} {m:List (K × D)},EnK a F G xs m->EnK a F G (xs++[(k,b,u)]) (m++[(k,x)])
 | _,_,.nil=>.cons h1 h2 h3 .nil
 | _,_,.cons g1 g2 g3 r=>.cons g1 g2 g3 (r.snoc h1 h2 h3)
theorem EnK.over {k:K} {u:Value} {v:V} {x:D} (h2:RelV v u) (h3:Den F G v x):∀ {xs:NEs K} {m:List (K × D)},EnK a F G xs m->EnK a F G (xs.map (putAt k u)) (m.map λy=>if y.1=k then (y.1,x) else y)
 | _,_,.nil=>.nil
 | _,_,.cons (k:=k') g1 g2 g3 r=>by
   rw [FJ,FJ]
   unfold putAt
   by_cases e:k'=k
   · simp only [e,if_true]
     rw [e] at g1
     exact .cons g1 h2 h3 (r.over h2 h3)
   · simp only [e,if_false]
     exact .cons g1 g2 g3 (r.over h2 h3)
theorem EnK.put {k:K} {b:Addr} {u:Value} {v:V} {x:D} {xs:NEs K} {m:List (K × D)} (h:EnK a F G xs m) (h1:Den F G (.ref b) (a.toD k)) (h2:RelV v u) (h3:Den F G v x):EnK a F G (storedH xs k b u) (eQ m k x):=by
 unfold storedH eQ
 rw [h.isSome k]
 split
 · exact h.over h2 h3
 · exact h.snoc h1 h2 h3
noncomputable def exK (a:KD K) (hd:a.dep<=7) (P:Program) (w:World) (m:List (K × D)):Ex where
 p:=λF G o p=>∃ xs,o=dNk a hd P w p xs/\EnK a F G xs m
 mono:=λe ⟨xs,h1,h2⟩=>⟨xs,h1,h2.mono e⟩
 ext:=λ⟨xs,h1,_⟩=>.inl ⟨_,h1⟩
end
end Hy
namespace Hy
open PySem PySem.Spec PyProof.Rows L2
open Ev (D Den ar KD NEs dNk gn ak iG nJ n9)
section
variable {K:Type} [DecidableEq K] {a:KD K} {hd:a.dep<=7} {X:Cx} {C:Bool} {τ:List Sl} {x:D} {b e ix:Expr} {pos p q:Pos} {k:Nat} {N:Po} {rest:List Stmt} {m:List (K × D)} {key:K}
theorem q9:PE X (.Dict [] [] pos) (dE X.K C τ (.x (exK a hd X.prog X.w []))):=peW nJ λσ H Q ⟨A,H₀,B,S,k⟩=>λp hp=>k (.ref p) _ [p] (ak hp _) (λb hb=>by rw [Ff.mp hb]; exact ⟨hp,_,aC⟩) ⟨p,_,rfl,rfl,aC,[],rfl,.nil⟩
theorem Sta.dct {F:Fb} {P:Program} {w:World} {A:Addr->Prop} {H₀ H:Hp} {B:Nat->List Addr} {σ:L2.St} {i:Nat} (S:Sta F A H₀ τ B σ H) (hi:τ[i]?=some (.x (exK a hd P w m))):∃ d xs,(σ[i]?).join=some (.ref d)/\B i=[d]/\H d=some (dNk a hd P w d xs)/\EnK a F (Hy.hd H (own A B)) xs m:=by
 obtain ⟨d,o,h1,h2,h3,xs,rfl,h5⟩:=S.sl i _ hi
 exact ⟨d,xs,h2,h1,h3,h5⟩
theorem rB (i:Nat) {n:Str} (hu:X.A.units + 16 < cLine) (hi:τ[i]?=some (.x (exK a hd X.prog X.w m))) (hk:PE X ix (dE X.K false τ (.d (a.toD key)))) (hx:getM m key=some x) (hr:∀ H v,Den X.K H v (a.toD key)->∃ b,v=.ref b) (hs:lQ ix) (hN:X.N[i]?=some n:=by rfl)
   (hv:Vis X.env.scope n:=by first | exact GO rfl | exact F5 (GO rfl) | exact F5 (F5 rfl)) (hd1:(n == ("__debug__" : Str))=false:=by decide) (hcd:(n == ("__classdict__" : Str))=false:=by decide):PE X (.Subscript (.Name n p) ix pos) (dE X.K C τ (.d x)):=
 peW (iG (a:=a) (hd:=hd) hu (bx (i:=i) hN hv hd1 hcd) hk hs) λσ H Q q=>by
   obtain ⟨A,H₀,B,S,kk⟩:=cJ q
   obtain ⟨d,xs,e1,e2,e3,e4⟩:=S.dct hi
   refine ⟨_,slot_of e1,aH S λy H2 e5 dy=>?_⟩
   obtain ⟨b,rfl⟩:=hr _ _ dy
   have S2:=S.mono e5
   obtain ⟨d',xs',g1,g2,g3,g4⟩:=S2.dct hi
   rw [e1] at g1
   cases g1
   have:=g4.at key
   rw [hx] at this
   obtain ⟨pp,v,h1,h2,h3⟩:=this
   exact ⟨d,b,key,xs',pp,v,rfl,rfl,⟨g3,λz hz=>(g4.key z hz).mono aI⟩,dy.mono aI,h1,h2,kk v H2 e5 (h3.mono (ay (aj.refl _) λ_ z=>i7 z))⟩
end
section
variable {K:Fb} {A:Addr->Prop} {H₀ H H':Hp} {τ:List Sl} {B:Nat->List Addr} {σ:L2.St}
theorem Sta.zW (S:Sta K A H₀ τ B σ H) {i:Nat} {a:Addr} {E E':Ex} {o':HO} (hi:τ[i]?=some (.x E)) (hB:B i=[a]) (d:E'.p K (hd H (own A B)) o' a):Sta K A H₀ (τ.set i (.x E')) B σ (upd H a o'):=by
 have ha:own A B a:=.inr ⟨i,by rw [hB]; exact Ff.mpr rfl⟩
 have ne:∀ b,b ≠ a->upd H a o' b=H b:=λb h=>av h
 have sm:aj (hd H (own A B)) (hd (upd H a o') (own A B)):=λb o z=>by
   obtain ⟨z1,z2⟩:=ao.mp z
   exact ao.mpr ⟨z1,by rw [ne b (λe=>z1 (e ▸ ha))]; exact z2⟩
 have f0:H₀ a=none:=S.fr i a (by rw [hB]; exact Ff.mpr rfl)
 have hs:aj H₀ (upd H a o'):=λb o z=>by rw [ne b (λe=>by rw [e,f0] at z; cases z)]; exact S.same b o z
 refine ⟨hs,by rw [FF,S.len],λj t hj=>?_,S.fr,S.uq,S.ad,λj b hb=>?_⟩
 · by_cases ej:j=i
   · subst ej
     have hl:=(Fn.mp hi).1
     rw [FP hl] at hj
     cases hj
     obtain ⟨a',o,e1,e2,_,_⟩:=S.sl j _ hi
     rw [hB] at e1
     cases e1
     exact ⟨a,o',hB,e2,aC,E'.mono sm d⟩
   · rw [Ft (λz=>ej z.symm)] at hj
     have off:∀ b ∈ B j,b ≠ a:=λb hb e=>ej (S.uq j i a (e ▸ hb) (by rw [hB]; exact Ff.mpr rfl))
     have q:=S.sl j t hj
     cases t with
     | un=>exact q
     | d x=>obtain ⟨z,u,e,d⟩:=q; exact ⟨z,u,e,d.mono sm⟩
     | o zs=>
       obtain ⟨c,ws,z1,z2,z3,z4⟩:=q
       exact ⟨c,ws,z1,z2,by rw [ne c (off c (by rw [z1]; exact Ff.mpr rfl))]; exact z3,z4.mono sm⟩
     | n t=>
       obtain ⟨z0,u,z1,z2⟩:=q
       exact ⟨z0,u,z1,z2.frame sm λb hb=>ne b (off b hb)⟩
     | x E=>
       obtain ⟨c,o,z1,z2,z3,z4⟩:=q
       exact ⟨c,o,z1,z2,by rw [ne c (off c (by rw [z1]; exact Ff.mpr rfl))]; exact z3,E.mono sm z4⟩
 · by_cases e:b=a
   · subst e; exact ⟨_,aC⟩
   · rw [ne b e]; exact S.bd j b hb
end
section
variable {K:Type} [DecidableEq K] {a:KD K} {hd:a.dep<=7} {X:Cx} {C:Bool} {τ:List Sl} {x:D} {b e ix:Expr} {pos p q sp:Pos} {k:Nat} {N:Po} {rest:List Stmt} {m:List (K × D)} {key:K}
theorem nK (i:Nat) {n:Str} (hu:X.A.units + 16 < cLine) (hi:τ[i]?=some (.x (exK a hd X.prog X.w m))) (hk:PE X ix (dE X.K true τ (.d (a.toD key)))) (he:PE X e (dE X.K true τ (.d x))) (hl:m.length<=sizeLine) (hr:∀ H v,Den X.K H v (a.toD key)->∃ b,v=.ref b)
   (hn:PSs X rest (dS X.K (τ.set i (.x (exK a hd X.prog X.w (eQ m key x)))) N)) (hN:X.N[i]?=some n:=by rfl)
   (hv:Vis X.env.scope n:=by first | exact GO rfl | exact F5 (GO rfl) | exact F5 (F5 rfl)) (hd1:(n == ("__debug__" : Str))=false:=by decide) (hcd:(n == ("__classdict__" : Str))=false:=by decide)
   (hs:swapsWith e (some (.Subscript (.Name n p) ix sp)) pos.line X.env=pure false:=by rfl):PSs X (.Assign [.Subscript (.Name n p) ix sp] e pos :: rest) (dS X.K τ N):=
 a8 (M:=(·=τ.set i (.x (exK a hd X.prog X.w (eQ m key x))))) (psW (n9 (a:=a) (hd:=hd) hu (bx (i:=i) hN hv hd1 hcd) hk he hs) λD σ H ⟨A,H₀,B,S,Me⟩=>aH S λv H1 e1 d1=>by
   have S1:=S.mono e1
   obtain ⟨d,xs,g1,_⟩:=S1.dct hi
   refine ⟨_,slot_of g1,aH S1 λy H2 e2 dy=>?_⟩
   obtain ⟨b,rfl⟩:=hr _ _ dy
   have S2:=S1.mono e2
   obtain ⟨d',xs',h1,h2,h3,h4⟩:=S2.dct hi
   rw [g1] at h1
   cases h1
   have d1':=d1.mono (ay e2 λ_ z=>z)
   exact ⟨d,b,key,xs',rfl,rfl,⟨h3,λz hz=>(h4.key z hz).mono aI⟩,dy.mono aI,by rw [h4.length]; exact hl,λu hu=>Me.nx _ _ _ _ rfl (S2.zW hi h2 ⟨_,rfl,h4.put dy hu d1'⟩)⟩) λ_ e=>e ▸ hn
end
end Hy
namespace Ev
open PySem PySem.Spec PyProof.Rows L2
section
variable {K:Type} [DecidableEq K] {a:KD K} {hd:a.dep<=7} {X:Cx} {o i e f:Expr} {pos apos cpos:Pos} {td ty tx tk tv:TE}
noncomputable def C1 (a:KD K) (hd:a.dep<=7) (P:Program) (w:World) (F:Fb) (tk tv:TE):TE:=λσ H Q=>∀ p,H p=none->tk σ (upd H p (dNk a hd P w p [])) λy H1=>tv σ H1 λv H2=>∃ b k,y=.ref b/\H2 p=some (dNk a hd P w p [])/\Den F H2 (.ref b) (a.toD k)/\∀ u,RelV v u->Q (.ref p) (upd H2 p (dNk a hd P w p (storedH [] k b u)))
theorem tW (hu:X.A.units + 16 < cLine) (hk:PE X e tk) (hv:PE X f tv):PE X (.Dict [some e] [f] pos) (C1 a hd X.prog X.w X.K tk tv):=λpins s σ H Q I h=>by
 refine wpAny_Dict_any rfl rfl (by simp) (show 1<=15 by decide) (pairTrees_cons_walk ?_)
 have I0:=I.laid (a:=s.heap.objs.size) (o:=dNk a hd X.prog X.w s.heap.objs.size []) (t':=s.toks) (h':=s.heap.push { cls:=.type "dict",data:=.dict #[] }) (λ_ _ q=>Fg _ q) (Fc _)
   ⟨⟨beq_eq_false_iff_ne.mpr (GG (FT I.big)),_,#[],0,FA _ rfl,⟨rfl,rfl,rfl⟩,rfl,rfl,Hc⟩,⟨_,FA _ rfl⟩,λa1 a2 ⟨z0,o,es,ep,z1,z2⟩ hk=>⟨z0,o,es,ep,hk o z1,z2⟩⟩
 refine thn (hk _ _ σ _ _ I0 (h _ (I.hok.fresh (Fc _)))) λkv s1 ⟨y,H1,I1,ry,q1⟩=>thn (hv _ s1 σ H1 _ I1 q1) λvv s2 ⟨v,H2,I2,rv,b,k,ey,hp,g,q2⟩=>pairTrees_nil_walk ?_
 subst ey
 obtain rfl:kv=FV b:=ry
 have D:gn a hd X.prog X.w X.K H2 s.heap.objs.size []:=⟨hp,λ_ z=>nomatch z⟩
 obtain ⟨hd',dd⟩:=vB I2 D
 unfold storeAll
 rw [List.forIn_cons]
 refine wpAny_bind (wpAny_bind (wpAny_dictSet_heap (hsz:=FR _) (show X.A.units + 8 < cLine by omega) (key_is I2 g) dd λh' dd' hs=>wpAny_pure ?_))
 dsimp only
 rw [List.forIn_nil]
 refine wpAny_pure ?_
 obtain ⟨q,es,ep,hq,h2,h3,h4,_,h5⟩:=dd'
 refine ⟨.ref s.heap.objs.size,_,e7 (ob:=dNk a hd X.prog X.w s.heap.objs.size (storedH [] k b vv)) I2 (by rw [hp]; exact Hf) hs ⟨q,hq⟩ ⟨⟨hd',q,es,ep,hq,h2,h3,h4,h5⟩,⟨q,hq⟩,λa1 a2 ⟨z0,o,es,ep,z1,z2⟩ hk=>⟨z0,o,es,ep,hk o z1,z2⟩⟩,rfl,q2 vv rv⟩
end
end Ev
namespace Hy
open PySem PySem.Spec PyProof.Rows L2
open Ev (D Den ar KD NEs dNk gn Bx ak iG tW)
section
variable {K:Type} [DecidableEq K] {a:KD K} {hd:a.dep<=7} {X:Cx} {C:Bool} {τ:List Sl} {x y:D} {b e f o ix:Expr} {pos p q apos cpos:Pos} {k:Nat} {N:Po} {rest:List Stmt} {m:List (K × D)} {key:K}
noncomputable def bxK (a:KD K) (hd:a.dep<=7) (P:Program) (w:World) (m:List (K × D)):Bx where
 p:=λF H d=>∃ xs,H d=some (dNk a hd P w d xs)/\EnK a F H xs m
 mono:=λe ⟨xs,h1,h2⟩=>⟨xs,e _ _ h1,h2.mono e⟩
 isd:=λ{_ _ d} ⟨xs,h1,_⟩=>⟨_,h1,λP w H' h z=>let ⟨_,o,_,_,z1,z2,_⟩:=z.1; ⟨o,z1,z2.1⟩⟩
noncomputable abbrev bxD (a:KD K) (hd:a.dep<=7) (P:Program) (w:World) (m:List (K × D)):D:=.box (bxK a hd P w m)
theorem Sta.fzX {F:Fb} {P:Program} {w:World} {A:Addr->Prop} {H₀ H:Hp} {B:Nat->List Addr} {σ:L2.St} {i:Nat} (S:Sta F A H₀ τ B σ H) (hi:τ[i]?=some (.x (exK a hd P w m))):Sta F A H₀ (τ.set i (.d (bxD a hd P w m))) (upB B i []) σ H:=
 S.less (λ_ z=>nomatch z) λG g hv=>by
   obtain ⟨d,xs,h1,h2,h3,h4⟩:=S.dct hi
   exact ⟨rfl,_,h1,.box ⟨xs,hv d _ (by rw [h2]; exact Ff.mpr rfl) (λz=>nomatch z) h3,h4.mono g⟩⟩
theorem AD (i:Nat) (h:PSs X rest (dS X.K (τ.set i (.d (bxD a hd X.prog X.w m))) N)) (hi:τ[i]?=some (.x (exK a hd X.prog X.w m)):=by rfl):PSs X rest (dS X.K τ N):=jJ h λD σ H ⟨A,H₀,B,S,Me⟩=>⟨A,H₀,_,S.fzX hi,Me⟩
theorem Am (h:PE X e (dE X.K C τ (.x (exK a hd X.prog X.w m)))):PE X e (dE X.K C τ (.d (bxD a hd X.prog X.w m))):=peW h λσ H Q q=>by
 obtain ⟨A,H₀,B,S,k⟩:=cJ q
 refine ⟨A,H₀,B,S,λv H' bs e hf ⟨d,o,h1,h2,h3,xs,h4,h5⟩=>?_⟩
 cases h2
 subst h1 h4
 have vd:=S.vd (C:=C)
 have un:¬ vw C A B d:=λz=>by
   obtain ⟨_,q⟩:=vd d z
   rw [(hf d (Ff.mpr rfl)).1] at q
   cases q
 exact k _ H' e (.box ⟨xs,ao.mpr ⟨un,h3⟩,h5.mono (ay (aj.refl _) λ_ z=>.inl z)⟩)
theorem sj (hu:X.A.units + 16 < cLine) (hb:PE X b (dE X.K C τ (.d (bxD a hd X.prog X.w m)))) (hk:PE X ix (dE X.K C τ (.d (a.toD key)))) (hx:getM m key=some x) (hr:∀ H v,Den X.K H v (a.toD key)->∃ b,v=.ref b) (hs:lQ ix):PE X (.Subscript b ix pos) (dE X.K C τ (.d x)):=
 peW (iG (a:=a) (hd:=hd) hu hb hk hs) λσ H Q q=>by
   obtain ⟨A,H₀,B,S,kk⟩:=cJ q
   refine aH S λv H1 e1 d1=>aH (S.mono e1) λy H2 e2 dy=>?_
   obtain ⟨b',rfl⟩:=hr _ _ dy
   cases d1.mono (ay e2 λ_ z=>z) with
   | box h=>
     obtain ⟨xs,g3,g4⟩:=h
     have:=g4.at key
     rw [hx] at this
     obtain ⟨pp,v,h1,h2,h3⟩:=this
     exact ⟨_,b',key,xs,pp,v,rfl,rfl,⟨aI _ _ g3,λz hz=>(g4.key z hz).mono aI⟩,dy.mono aI,h1,h2,kk v H2 (e1.trans e2) h3⟩
theorem rW (hu:X.A.units + 16 < cLine) (hk:PE X e (dE X.K C τ (.d (a.toD key)))) (hv:PE X f (dE X.K C τ (.d x))) (hr:∀ H v,Den X.K H v (a.toD key)->∃ b,v=.ref b):PE X (.Dict [some e] [f] pos) (dE X.K C τ (.x (exK a hd X.prog X.w [(key,x)]))):=
 peW (tW (a:=a) (hd:=hd) hu hk hv) λσ H Q ⟨A,H₀,B,S,kk⟩=>λp hp=>by
   have e0:=ak hp (dNk a hd X.prog X.w p [])
   have f0:Fr H (upd H p (dNk a hd X.prog X.w p [])) [p]:=λb hb=>by rw [Ff.mp hb]; exact ⟨hp,_,aC⟩
   have S1:=S.hide e0 f0
   refine aH S1 λy H2 e2 dy=>aH (S1.mono e2) λv H3 e3 dv=>?_
   obtain ⟨b',rfl⟩:=hr _ _ dy
   have e03:=e2.trans e3
   have hp3:=e03 _ _ (aC (H:=H) (a:=p) (o:=dNk a hd X.prog X.w p []))
   have dy3:=dy.mono (ay e3 λ_ z=>z)
   refine ⟨b',key,rfl,hp3,dy3.mono aI,λu hu=>?_⟩
   have sm:aj (Hy.hd H3 (vw C (λb=>A b\/b ∈ [p]) B)) (Hy.hd (upd H3 p (dNk a hd X.prog X.w p (storedH [] key b' u))) λb=>vw C A B b\/b ∈ [p]):=λb o z=>by
     obtain ⟨z1,z2⟩:=ao.mp z
     have nh:¬ (vw C A B b\/b ∈ [p]):=λy=>z1 (oP y)
     exact ao.mpr ⟨nh,by rw [av (λq=>nh (.inr (Ff.mpr q)))]; exact z2⟩
   have hs:aj H (upd H3 p (dNk a hd X.prog X.w p (storedH [] key b' u))):=λb o z=>by
     have ne:b ≠ p:=λq=>by rw [q,hp] at z; cases z
     rw [av ne]
     exact e03 _ _ (e0 _ _ z)
   exact kk (.ref p) _ [p] hs (λb hb=>by rw [Ff.mp hb]; exact ⟨hp,_,aC⟩) ⟨p,_,rfl,rfl,aC,_,rfl,(EnK.nil.put dy3 hu dv).mono sm⟩
end
end Hy
namespace Ev
open PySem PySem.Spec PyProof.Rows L2
open PySem.Builtin.Range (rangeFitsLong rangeSize)
noncomputable def iA (n:Int):Obj:={ cls:=.type "range_iterator",data:=.fields #[rawInt (0 + (rangeSize 0 n 1 - 1) * 1),rawInt (rangeSize 0 n 1),rawInt (-1)] }
theorem fits_of {i:Int} (h1:-(2 ^ 62)<=i) (h2:i<=2 ^ 62):rangeFitsLong i=true:=by
 unfold rangeFitsLong
 rw [F2,decide_eq_true_iff,decide_eq_true_iff]
 omega
theorem x8 {n:Int} (h:0<=n):rangeSize 0 n 1=n:=by
 rw [rangeSize_one]
 split <;> omega
theorem Cg {n:Int} (h0:0<=n) (h1:n < 2 ^ 62):(rangeFitsLong 0 && rangeFitsLong n && rangeFitsLong 1 && rangeFitsLong (-1) && rangeFitsLong (0 - 1) && rangeFitsLong (rangeSize 0 n 1))=true:=by
 rw [x8 h0,fits_of (i:=n) (by omega) (by omega)]
 decide
theorem u5 (r:Addr) (n:Int) (t u v:Tok) (hs:(rangeFitsLong 0 && rangeFitsLong n && rangeFitsLong 1 && rangeFitsLong (-1) && rangeFitsLong (0 - 1) && rangeFitsLong (rangeSize 0 n 1))=true) :
   Meets (Builtin.«range.__reversed__» ⟨[.ref r],[]⟩) (λ_ R s=>IsRange s.heap r 0 n 1 t u v/\R (.ok (.ret (FV s.heap.objs.size))) { s with heap:=s.heap.push (iA n),toks:=s.toks }):=
 .of_wp λprog w A R s h=>by
   obtain ⟨hp,g,d,tk,os⟩:=s
   obtain ⟨hl,h⟩:=h
   have hs':(!(rangeFitsLong 0 && rangeFitsLong n && rangeFitsLong 1 && rangeFitsLong (-1) && rangeFitsLong (0 - 1) && rangeFitsLong (rangeSize 0 n 1)))=false:=by rw [hs]; rfl
   wp_walk
   rw [if_neg (by rw [hs]; decide),if_pos hs]
   exact wpAny_bind (wpAny_newObj_type (wpAny_pure ⟨_,rfl,h⟩))
section
variable {prog:Program} {w:World} {A:Around} {E:Value->Shared->Prop} {s:Shared}
theorem lu {r:Addr} {n:Int} {t u v:Tok} {Q:Value->Shared->Prop} (hr:IsRange s.heap r 0 n 1 t u v) (h0:0<=n) (h1:n < 2 ^ 62)
   (h:Q (.ref s.heap.objs.size) { s with heap:=s.heap.push (iA n) }):wpAny (model prog w) A (call (.builtin "range.__reversed__") [.ref r]) Q E s:=
 call_meets F.slot_range_reversed ⟨_,hr,rfl⟩ F.entry_range_reversed (F.args_range_reversed_1 _) (u5 r n t u v (Cg h0 h1)) ⟨hr,h⟩
theorem oQ {r:Addr} {n:Int} {t u v:Tok} {Q₁:Value->Shared->Prop} (hr:IsRange s.heap r 0 n 1 t u v) (h0:0<=n) (h1:n < 2 ^ 62)
   (h:Q₁ (.ref s.heap.objs.size) { s with heap:=s.heap.push (iA n) }) :
   codeAny (model prog w) A (.call (.builtin "reversed.__new__") ⟨[.type "reversed",.ref r],[]⟩) (wants Q₁ E) s:=by
 have hT:s.TypeIs (.ref r) "range":=⟨_,hr,rfl⟩
 refine codeAny_of_tree ?_
 refine wpAny_bind (wpAny_of_eq (F.newCall_reversed_1 _) (wpAny_pure ⟨plainId_quiet F.plain_reversed_new _,codeAny_builtin F.entry_reversed_new ?_⟩))
 rw [Around.under_plainId F.plain_reversed_new _]
 unfold Builtin.«reversed.__new__»
 refine wpAny_bind (wpAny_of_eq (newClass_reversed _) ?_)
 try dsimp only
 refine wpAny_bind (wpAny_of_eq (a:=()) (by first | rfl | kernel_rfl) ?_)
 refine wpAny_bind (wpAny_of_eq (a:=()) (by first | rfl | kernel_rfl) ?_)
 try dsimp only
 refine wpAny_bind (wpAny_specialOf hT F.slot_range_reversed.lookup ?_)
 try dsimp only
 refine wpAny_bind (wpAny_of_eq (F.slot_range_reversed.bind _) ?_)
 try dsimp only
 first
 | rw [if_neg (show ¬ ((IS "range.__reversed__" == GW)=true) from Fp)]
 | (show wpAny _ _ (if (IS "range.__reversed__" == GW)=true then _ else _) _ _ _; rw [if_neg (show ¬ ((IS "range.__reversed__" == GW)=true) from Fp)])
 refine wpAny_bind (wpAny_rule ?_)
 refine wpAny_bind (m:=runValue (.call (.builtin "range.__reversed__") ⟨[.ref r],[]⟩)) (show wpAny _ _ (call (.builtin "range.__reversed__") [.ref r]) _ _ _ from lu hr h0 h1 ?_)
 first
 | exact wpAny_pure h
 | exact wpAny_bind (wpAny_pure (wpAny_pure h))
theorem jF:isSubtype (.type "range_iterator") (.type "reversed")=pure false:=by rw [isSubtype_type]; kernel_rfl
theorem kW {r:Addr} {n:Int} {t u v:Tok} {Q:Value->Shared->Prop} (hr:IsRange s.heap r 0 n 1 t u v) (h0:0<=n) (h1:n < 2 ^ 62)
   (h:Q (.ref s.heap.objs.size) { s with heap:=s.heap.push (iA n) }):wpAny (model prog w) A (call (.type "reversed") [.ref r]) Q E s:=by
 refine callType_other (U:="range_iterator") (Q₁:=λobj s₁=>obj=.ref s.heap.objs.size/\s₁={ s with heap:=s.heap.push (iA n) }) (by decide +kernel) F.create_reversed ⟨_,_,F.mro_reversed⟩ F.made_reversed jF (F.typeCall_reversed_1 _) (oQ hr h0 h1 ⟨rfl,rfl⟩) ?_
 rintro obj s₁ ⟨rfl,rfl⟩
 exact ⟨⟨_,FA _ rfl,rfl⟩,h⟩
end
noncomputable def Itd (n:Nat):L2.It:=⟨λi _=>i < n,λi H x H'=>H'=H/\x=.int ((n:Int) - 1 - i),λi _=>n<=i⟩
theorem zJ {P:Program} {w:World} {K:Fb} {tg:Expr} (it:Addr) (n:Nat):Turn P w K false tg (Itd n) [it] it (λi h=>i<=n/\IsRangeIter h it ((n:Int) - 1 + (i:Nat) * (-1)) ((n:Int) - (i:Nat)) (-1)) where
 mem:=by simp
 obj:=λi h st b hb=>by
   have e:b=it:=by simpa using hb
   subst e
   exact ⟨_,st.2,λv z=>by
     have z':Data.fields _=Data.cell v:=z
     cases z'⟩
 keep:=λi h h' st k=>⟨st.1,k it (by simp) _ st.2⟩
 item:=by
   intro X hP hw hK hc i pins s σ H E I hf st hg
   subst hP hw hK
   obtain ⟨f0,f1,f2,f3,f4,f5⟩:=hf it (by simp)
   have W:=Walks.range (prog:=X.prog) (w:=X.w) (I.ok.hd hc.calm) it ((n:Int) - 1) (-1) n
   refine W.item i s _ _ hg st.2 λv h' tk hv st' kk=>?_
   obtain ⟨t,rfl⟩:=hv
   have I1:Inv X pins σ H { s with heap:=h',toks:=tk }:=I.turned (λb o hb e=>kk b o (by simpa using hb) e) f0 f1 f3 f4 f5
   refine ⟨_,rfl,jE (s:={ s with heap:=h',toks:=tk }) (n:="range_iterator") st' rfl rfl (by decide) ⟨.int ((n:Int) - 1 - i),H,I1,⟨t,?_⟩,⟨rfl,rfl⟩,⟨hg,st'⟩,λb hb=>(hf b hb).1⟩⟩
   rw [Int.mul_neg,Int.mul_one,<- Int.sub_eq_add_neg]
 done:=by
   intro X hP hw hK hc i pins s σ H E I hf st hg
   subst hP hw hK
   obtain ⟨f0,f1,f2,f3,f4,f5⟩:=hf it (by simp)
   have hg:n<=i:=hg
   obtain rfl:i=n:=Nat.le_antisymm st.1 hg
   have W:=Walks.range (prog:=X.prog) (w:=X.w) (I.ok.hd hc.calm) it ((i:Int) - 1) (-1) i
   exact W.done s _ _ st.2 λh' tk kk=>⟨rfl,I.turned (λb o hb e=>kk b o (by simpa using hb) e) f0 f1 f3 f4 f5⟩
 self:=λ_ _ _ _ _ st h=>wpAny_pyIter_rangeiter st.2 h
section
variable {X:Cx} {tg:Expr}
noncomputable def iDn (ta:TA):TI:=λσ H R=>ta σ H λvs H1=>∃ n:Nat,vs=[.int n]/\n < 1000/\R (Itd n) H1
theorem AK {a:Expr} {ta:TA} {p p' pos pos':Pos} (hc:X.calm=true) (hg:Gl X "reversed") (hm:X.mg "reversed" = none) (hg':Gl X "range") (hm':X.mg "range" = none) (ha:PA X [a] ta) (hs':starEach [a] X.env=[(false,eval a X.env)]:=by rfl)
   (hs:starEach [.Call (.Name "range" p') [a] [] pos'] X.env=[(false,eval (.Call (.Name "range" p') [a] [] pos') X.env)]:=by rfl):PI X tg (.Call (.Name "reversed" p) [.Call (.Name "range" p') [a] [] pos'] [] pos) (iDn ta):=by
 intro pins s σ H R I h
 refine Call_ (eX I hg hm xQ (Gf ?_ hs rfl))
 rw [hs]
 refine Iy (Call_ (eX I hg' hm' boot_range (Gf (thn (ha pos' pins s σ H _ I h) λus s1 ⟨vs,H1,I1,r1,n,e,hn,q⟩=>?_) hs' rfl)))
 subst e
 cases r1 with
 | cons r rr=>
   cases rr
   obtain ⟨t,rfl⟩:=r
   refine call_range_1 (JS ?_)
   have I2:Inv X pins σ H1 { s1 with heap:=s1.heap.push { cls:=.type "range",data:=.fields #[.int 0 s1.toks,.int n t,.int 1 (s1.toks + 1)] },toks:=s1.toks + 1 + 1 }:=I1.kept λb o e=>Fg _ e
   refine kW (IsRange.new ..) (by omega) (by omega) ?_
   have z:rangeSize 0 (n:Int) 1=n:=x8 (by omega)
   have st:(Heap.push (s1.heap.push { cls:=.type "range",data:=.fields #[.int 0 s1.toks,.int n t,.int 1 (s1.toks + 1)] }) (iA n)).get? (s1.heap.push { cls:=.type "range",data:=.fields #[.int 0 s1.toks,.int n t,.int 1 (s1.toks + 1)] }).objs.size=some (iA n):=FA _ rfl
   have st':IsRangeIter (Heap.push (s1.heap.push { cls:=.type "range",data:=.fields #[.int 0 s1.toks,.int n t,.int 1 (s1.toks + 1)] }) (iA n)) (s1.heap.push { cls:=.type "range",data:=.fields #[.int 0 s1.toks,.int n t,.int 1 (s1.toks + 1)] }).objs.size ((n:Int) - 1 + ((0:Nat):Int) * (-1)) ((n:Int) - ((0:Nat):Int)) (-1):=by
     unfold IsRangeIter
     rw [st,iA,z]
     congr 6
     all_goals (simp)
   refine wpAny_pyIter_rangeiter (x:=(n:Int) - 1 + ((0:Nat):Int) * (-1)) (left:=(n:Int) - ((0:Nat):Int)) (step:=-1) st' ?_
   refine ⟨false,_,[(s1.heap.push { cls:=.type "range",data:=.fields #[.int 0 s1.toks,.int n t,.int 1 (s1.toks + 1)] }).objs.size],_,_,H1,rfl,I2.kept (t':=s1.toks + 1 + 1) λb o e=>Fg _ e,.inl hc,zJ _ n,⟨FR _,st'⟩,λb hb=>?_,q⟩
   have e:b=(s1.heap.push { cls:=.type "range",data:=.fields #[.int 0 s1.toks,.int n t,.int 1 (s1.toks + 1)] }).objs.size:=by simpa using hb
   subst e
   exact I2.lX (Fc _) (I2.hok.fresh (Fc _))
end
end Ev
namespace Ev
open PySem PySem.Spec PyProof.Rows L2
noncomputable def bG (kv:List (Int × Int)):List (Key × V):=kv.map λp=>(.inl p.1,.int p.2)
noncomputable def Itk (a:Addr) (o:Obj) (kv:List (Int × Int)):L2.It:=
 ⟨λi H=>i < kv.length/\H a=some (.frz o (.dK (bG kv))),λi H x H'=>H'=H/\∃ p,kv[i]?=some p/\x=.int p.1,λi H=>kv.length<=i/\H a=some (.frz o (.dK (bG kv)))⟩
theorem oD {X:Cx} {pins:List (Addr × Obj)} {σ:L2.St} {H:Hp} {s:Shared} {a:Addr} {o:Obj} {kvs:List (Key × V)} {es:Array DictEntry} {ep:Nat} (I:Inv X pins σ H s) (h:H a=some (.frz o (.dK kvs))) (hd:o.data=.dict es ep) :
   ∃ vs,KV kvs vs/\s.heap.DictAt (bf X.prog X.w) a vs ep:=by
 obtain ⟨e,_,_,vs,rel,o',es',ep',e',r⟩:=(show bo X.prog X.w H s.heap a (.frz o (.dK kvs)) from I.hok a _ h)
 rw [e] at e'; cases e'
 have z:=r.2.1
 rw [hd] at z
 injection z with z1 z2
 subst z1 z2
 exact ⟨vs,rel,o,es,e,r⟩
theorem uN {P:Program} {w:World} {K:Fb} {tg:Expr} (a it:Addr) (o:Obj) (kv:List (Int × Int)) (es:Array DictEntry) (ep:Nat) (hd:o.data=.dict es ep) :
   Turn P w K false tg (Itk a o kv) [it] it (λi h=>i<=kv.length/\h.IsKeyIter it a i kv.length ep) where
 mem:=by simp
 obj:=λi h st b hb=>by
   have e:b=it:=by simpa using hb
   subst e
   obtain ⟨o,e,c,d⟩:=st.2
   exact ⟨o,e,λv z=>by rw [d] at z; cases z⟩
 keep:=λi h h' st k=>⟨st.1,st.2.at λo e=>k it (by simp) o e⟩
 item:=by
   intro X hP hw hK hc i pins s σ H E I hf st hg
   subst hP hw hK
   obtain ⟨hi,ha⟩:=hg
   obtain ⟨f0,f1,f2,f3,f4,f5⟩:=hf it (by simp)
   obtain ⟨vs,rel,dd⟩:=oD I ha hd
   have hl:kv.length=vs.length:=by rw [<- rel.length,bG,E9]
   have st2:=st.2
   rw [hl] at st2
   have hx:vs[i]?=some vs[i]:=by simp [show i < vs.length by omega]
   have kk:=congrArg (λl=>l[i]?) rel.keys
   simp only [bG,Fx,FL,hx,Fe hi,GF,Ih] at kk
   have kk:=FX kk
   refine wpAny_pyNext_dict_item st2 dd hx λkey h' hk st' sb=>?_
   have hk:(bf X.prog X.w).is (HS kv[i].fst) key=true:=by rw [kk]; exact hk
   obtain ⟨t,rfl⟩:=Value.isInt_shape (show Value.isInt _ key=true from hk)
   have I1:Inv X pins σ H { s with heap:=h' }:=I.turned (t':=s.toks) (λb o hb e=>(sb.2 b hb).trans e) f0 f1 f3 f4 f5
   obtain ⟨o',e,c,d⟩:=id st'
   refine ⟨_,rfl,jE (s:={ s with heap:=h' }) e c d (by decide) ⟨.int kv[i].1,H,I1,⟨t,rfl⟩,⟨rfl,_,Fe hi,rfl⟩,⟨hi,by rw [hl]; exact st'⟩,λb hb=>(hf b hb).1⟩⟩
 done:=by
   intro X hP hw hK hc i pins s σ H E I hf st hg
   subst hP hw hK
   obtain ⟨hi,ha⟩:=hg
   obtain ⟨f0,f1,f2,f3,f4,f5⟩:=hf it (by simp)
   obtain ⟨vs,rel,dd⟩:=oD I ha hd
   have hl:kv.length=vs.length:=by rw [<- rel.length,bG,E9]
   have st2:=st.2
   rw [hl] at st2
   exact wpAny_pyNext_dict_end (I.ok.hd hc.calm) st2 dd (G9 (by omega)) λh' eb=>⟨rfl,I.turned (t':=s.toks) (λb o hb e=>eb b o hb e) f0 f1 f3 f4 f5⟩
 self:=λ_ _ _ _ _ st h=>wpAny_pyIter_keyiter st.2 h
section
variable {X:Cx} {tg:Expr}
noncomputable def ym (tl:TE):TI:=λσ H R=>tl σ H λx H1=>∃ a o kv,x=.ref a/\H1 a=some (.frz o (.dK (bG kv)))/\R (Itk a o kv) H1
theorem pz {l:Expr} {tl:TE} (hc:X.calm=true) (hl:PE X l tl):PI X tg l (ym tl):=by
 intro pins s σ H R I h
 refine thn (hl pins s σ H _ I h) λu s1 ⟨x,H1,I1,r1,a,o,kv,ex,ha,q⟩=>?_
 subst ex
 cases r1
 obtain ⟨e,ok⟩:=(show bo X.prog X.w H1 s1.heap a (.frz o (.dK (bG kv))) from I1.hok a _ ha)
 obtain ⟨z,hd,vs,rel,o',es,ep,e',r⟩:=ok
 rw [e] at e'
 cases e'
 refine wpAny_pyIter_dict hd (show s1.heap.DictAt (bf X.prog X.w) a vs ep from ⟨o,es,e,r⟩) ?_
 have hv:vs.length=kv.length:=by rw [<- rel.length,bG,E9]
 refine ⟨false,s1.heap.objs.size,[s1.heap.objs.size],_,_,H1,rfl,I1.kept (t':=s1.toks) λb o e=>Fg _ e,.inl hc,uN a _ o kv es ep r.2.1,⟨FR _,?_⟩,λb hb=>?_,q⟩
 · rw [<- hv]
   exact ⟨_,FA _ rfl,rfl,rfl⟩
 · have e:b=s1.heap.objs.size:=by simpa using hb
   subst e
   exact I1.lX (Fc _) (I1.hok.fresh (Fc _))
end
end Ev
namespace Hy
open PySem PySem.Spec PyProof.Rows L2
open Ev (D Den ar Bx ak bG Itk ym pz Itd iDn AK)
noncomputable def ft (kv:List (Int × Int)) (k v:Int):List (Int × Int):=
 if (kv.any λp=>decide (p.1=k))=true then kv.map (λp=>if p.1=k then (p.1,v) else p) else kv++[(k,v)]
noncomputable def bK (kv:List (Int × Int)) (k:Int):Option Int:=(kv.find? λp=>decide (p.1=k)).map (·.2)
theorem y9 (kv:List (Int × Int)) (k:Int):((bG kv).any λp=>decide (p.1=.inl k))=kv.any λp=>decide (p.1=k):=by
 unfold bG
 rw [List.any_map]
 congr 1
 funext p
 simp
theorem tT (kv:List (Int × Int)) (k v:Int):putK (bG kv) (.inl k) (.int v)=bG (ft kv k v):=by
 unfold putK ft
 rw [y9]
 by_cases h:(kv.any λp=>decide (p.1=k))=true
 · rw [if_pos h,if_pos h]
   unfold bG
   rw [Fx,Fx]
   refine F6 λp _=>?_
   simp only [Ih]
   by_cases z:p.1=k
   · rw [if_pos (congrArg HS z),if_pos z]
   · rw [if_neg (λy=>z (JU y)),if_neg z]
 · rw [if_neg h,if_neg h]
   unfold bG
   rw [FE]
   rfl
theorem iz:∀ (kv:List (Int × Int)) (k:Int),eZ (bG kv) (.inl k)=(bK kv k).map V.int
 | [],_=>rfl
 | p :: r,k=>by
   unfold bK
   by_cases z:p.1=k
   · rw [Jh (by simp [z])]
     exact bN (p:=(HS p.1,V.int p.2)) (congrArg HS z)
   · rw [Ji (by simp [z])]
     exact (bM (p:=(HS p.1,V.int p.2)) (λy=>z (JU y))).trans (iz r k)
theorem zC (kv:List (Int × Int)) (k v:Int):(ft kv k v).length<=kv.length + 1:=by
 unfold ft
 split
 · rw [E9]; omega
 · rw [Fw,Ga,Jq]; omega
noncomputable def exZ (m:List (Int × Int)):Ex where
 p:=λ_ _ o _=>o=.dK (bG m)
 mono:=λ_ h=>h
 ext:=λh=>.inr (.inr ⟨_,.inl h⟩)
noncomputable def exF (ob:Obj) (m:List (Int × Int)):Ex where
 p:=λ_ _ o _=>o=.frz ob (.dK (bG m))
 mono:=λ_ h=>h
 ext:=λh=>.inr (.inr ⟨_,.inr ⟨_,h⟩⟩)
noncomputable def bxZ (m:List (Int × Int)):Bx where
 p:=λ_ H d=>∃ o,H d=some (.frz o (.dK (bG m)))
 mono:=λe ⟨o,h⟩=>⟨o,e _ _ h⟩
 isd:=λ⟨o,h⟩=>⟨_,h,λP w H' h z=>by
   obtain ⟨_,_,_,vs,_,ob,_,_,z1,z2,_⟩:=z
   exact ⟨ob,z1,z2.1⟩⟩
section
variable {K:Fb} {A:Addr->Prop} {H₀ H:Hp} {τ:List Sl} {B:Nat->List Addr} {σ:L2.St} {m:List (Int × Int)} {i:Nat}
theorem Sta.dz (S:Sta K A H₀ τ B σ H) (hi:τ[i]?=some (.x (exZ m))):∃ d,(σ[i]?).join=some (.ref d)/\B i=[d]/\H d=some (.dK (bG m)):=by
 obtain ⟨d,o,h1,h2,h3,h4⟩:=S.sl i _ hi
 cases (show o=_ from h4)
 exact ⟨d,h2,h1,h3⟩
theorem Sta.fzF {ob:Obj} (S:Sta K A H₀ τ B σ H) (hi:τ[i]?=some (.x (exF ob m))):Sta K A H₀ (τ.set i (.d (.box (bxZ m)))) (upB B i []) σ H:=
 S.less (λ_ z=>nomatch z) λG g hv=>by
   obtain ⟨d,o,h1,h2,h3,h4⟩:=S.sl i _ hi
   cases (show o=_ from h4)
   exact ⟨rfl,_,h2,.box ⟨ob,hv d _ (by rw [h1]; exact Ff.mpr rfl) (λz=>nomatch z) h3⟩⟩
end
section
variable {X:Cx} {C:Bool} {τ:List Sl} {x y:D} {a b e f o ix tg:Expr} {pos p q apos cpos sp:Pos} {k:Nat} {N:Po} {rest:List Stmt} {m:List (Int × Int)} {key v n:Int}
theorem Dh {xs:List D} {n:Nat} (h:xs.length=n):gy X (.builtin "len") [.lst xs] (.d (.int n)):=h ▸ fR
theorem eK {n:Str}:lQ (.Name n p):=λ_ _=>rfl
theorem vy {op:Operator}:lQ (.BinOp a op b p):=λ_ _=>rfl
theorem CV:PE X (.Dict [] [] pos) (dE X.K C τ (.x (exZ []))):=peW we λσ H Q ⟨A,H₀,B,S,k⟩=>λp hp=>k (.ref p) _ [p] (ak hp _) (λb hb=>by rw [Ff.mp hb]; exact ⟨hp,_,aC⟩) ⟨p,_,rfl,rfl,aC,rfl⟩
theorem Br {j l:Nat}:PE X (.Dict [some (.Constant (.int key) j p)] [.Constant (.int v) l q] pos) (dE X.K C τ (.x (exZ [(key,v)]))):=peW (yJ (xl su su yD) rfl rfl (by simp) (by show (1:Nat)<=15; decide)) λσ H Q ⟨A,H₀,B,S,k⟩=>λp hp=>by
 refine ⟨aC,[(.inl key,.int v)],rfl,(by show (1:Nat)<=15; decide),?_⟩
 have e:upd (upd H p (.dK [])) p (.dK (jq [] [(HS key,V.int v)]))=upd H p (.dK (bG [(key,v)])):=by
   funext b
   unfold upd
   split <;> rfl
 rw [e]
 exact k (.ref p) _ [p] (ak hp _) (λb hb=>by rw [Ff.mp hb]; exact ⟨hp,_,aC⟩) ⟨p,_,rfl,rfl,aC,rfl⟩
theorem C5 (i:Nat) (h:PSs X rest (dS X.K (τ.set i (.d (.box (bxZ m)))) N)) (hi:τ[i]?=some (.x (exZ m)):=by rfl):PSs X rest (dS X.K τ N):=by
 intro pins s σ H D I ⟨A,H₀,B,S,Me⟩
 obtain ⟨d,h1,h2,h3⟩:=S.dz hi
 obtain ⟨z,hd,vs,rel,dd⟩:=ug I.hok h3
 obtain ⟨o,es,ep,e,r⟩:=id dd
 have I2:Inv X pins σ (upd H d (.frz o (.dK (bG m)))) s:=e7 (t':=s.toks) (h':=s.heap) I (by rw [h3]; exact Hf) (.refl _ _) ⟨o,e⟩ ⟨e,nG z hd rel dd⟩
 have hl:=(Fn.mp hi).1
 have S2:=S.zW (E':=exF o m) hi h2 rfl
 have S3:=S2.fzF (ob:=o) (m:=m) (FP hl)
 rw [List.set_set] at S3
 exact h pins s σ _ D I2 ⟨A,H₀,_,S3,Me⟩
theorem BD (hu:X.A.units + 1 < cLine) (hb:PE X b (dE X.K C τ (.d (.box (bxZ m))))) (hk:PE X ix (dE X.K C τ (.d (.int key)))) (hx:bK m key=some v) (hs:lQ ix):PE X (.Subscript b ix pos) (dE X.K C τ (.d (.int v))):=
 peW (zM hu hb hk hs) λσ H Q q=>by
   obtain ⟨A,H₀,B,S,kk⟩:=cJ q
   refine aH S λu H1 e1 d1=>aH (S.mono e1) λy H2 e2 dy=>?_
   cases dy
   cases d1.mono (ay e2 λ_ z=>z) with
   | box h=>
     obtain ⟨o,g⟩:=h
     exact ⟨_,.int v,rfl,⟨_,.inl key,.inr ⟨o,aI _ _ g⟩,rfl,by rw [iz,hx]; rfl⟩,kk _ H2 (e1.trans e2) .int⟩
theorem zo (i:Nat) {nm:Str} (hu:X.A.units + 1 < cLine) (hi:τ[i]?=some (.x (exZ m))) (hk:PE X e (dE X.K false τ (.d (.int key)))) (hx:PE X f (dE X.K false τ (.d (.int v)))) (m2:M2 X (.Name nm p) "get" apos e f cpos:=by exact ⟨rfl,rfl,rfl,rfl⟩) (hN:X.N[i]?=some nm:=by rfl)
   (hv:Vis X.env.scope nm:=by first | exact GO rfl | exact F5 (GO rfl) | exact F5 (F5 rfl)) (hd1:(nm == ("__debug__" : Str))=false:=by decide) (hcd:(nm == ("__classdict__" : Str))=false:=by decide):PE X (.Call (.Attribute (.Name nm p) "get" apos) [e,f] [] cpos) (dE X.K C τ (.d (.int ((bK m key).getD v)))):=
 peW (vU hu (bx (i:=i) hN hv hd1 hcd) hk hx m2) λσ H Q q=>by
   obtain ⟨A,H₀,B,S,kk⟩:=cJ q
   obtain ⟨d,h1,h2,h3⟩:=S.dz hi
   refine ⟨_,slot_of h1,d,rfl,⟨_,.inl h3⟩,aH S λy H2 e2 dy=>aH (S.mono e2) λz H3 e3 dz=>?_⟩
   cases dy
   cases dz
   refine ⟨_,⟨_,.inl key,.inl ((e2.trans e3) _ _ h3),rfl,rfl⟩,?_⟩
   have e:(eZ (bG m) (.inl key)).getD (.int v)=V.int ((bK m key).getD v):=by rw [iz]; cases bK m key <;> rfl
   rw [e]
   exact kk _ H3 (e2.trans e3) .int
theorem AX (i:Nat) {nm:Str} (hu:X.A.units + 1 < cLine) (hi:τ[i]?=some (.x (exZ m))) (hk:PE X ix (dE X.K true τ (.d (.int key)))) (he:PE X e (dE X.K true τ (.d (.int v)))) (hl:m.length < sizeLine)
   (hn:PSs X rest (dS X.K (τ.set i (.x (exZ (ft m key v)))) N)) (hN:X.N[i]?=some nm:=by rfl)
   (hv:Vis X.env.scope nm:=by first | exact GO rfl | exact F5 (GO rfl) | exact F5 (F5 rfl)) (hd1:(nm == ("__debug__" : Str))=false:=by decide) (hcd:(nm == ("__classdict__" : Str))=false:=by decide)
   (hs:swapsWith e (some (.Subscript (.Name nm p) ix sp)) pos.line X.env=pure false:=by rfl):PSs X (.Assign [.Subscript (.Name nm p) ix sp] e pos :: rest) (dS X.K τ N):=
 a8 (M:=(·=τ.set i (.x (exZ (ft m key v))))) (psW (yx hu (bx (i:=i) hN hv hd1 hcd) hk he hs) λD σ H ⟨A,H₀,B,S,Me⟩=>aH S λu H1 e1 d1=>by
   cases d1
   have S1:=S.mono e1
   obtain ⟨d,g1,_⟩:=S1.dz hi
   refine ⟨_,slot_of g1,aH S1 λy H2 e2 dy=>?_⟩
   cases dy
   have S2:=S1.mono e2
   obtain ⟨d',h1,h2,h3⟩:=S2.dz hi
   rw [g1] at h1
   cases h1
   refine ⟨d,_,rfl,⟨_,.inl key,h3,rfl,by unfold bG; rw [E9]; exact hl,rfl⟩,?_⟩
   rw [tT]
   exact Me.nx _ _ _ _ rfl (S2.zW hi h2 rfl)) λ_ e=>e ▸ hn
theorem yv (h:PE X e (dE X.K true τ (.d (.box (bxZ m))))) (hc:X.calm=true:=by first | rfl | assumption):PI X tg e (dI X.K τ (m.map λp=>.int p.1)):=piW (pz hc h) λσ H R ⟨A,H₀,B,S,k⟩=>aH S λv H1 e1 d1=>by
 cases d1 with
 | box h=>
   obtain ⟨o,g⟩:=h
   refine ⟨_,o,m,rfl,aI _ _ g,k _ H1 e1 λH2 sg=>⟨λi hi=>⟨by simpa using hi,sg _ _ g⟩,λi hi=>⟨⟨by simpa using hi,sg _ _ g⟩,λx H' ⟨eH,p,hp,ex⟩=>?_⟩⟩⟩
   subst eH ex
   refine ⟨aj.refl _,λM _ _=>?_⟩
   have hi':i < m.length:=by simpa using hi
   rw [Fe hi'] at hp
   cases hp
   rw [Gu]
   exact .int
theorem zu {m:List (Int × Int)}:∀ i (h:i < (m.map λp=>D.int p.1).length),(m.map λp=>D.int p.1)[i]=.int (m.getD i (0,0)).1:=λi h=>by
 have:i < m.length:=by simpa using h
 simp [this]
noncomputable def dnD (n:Nat):List D:=(Fd n).map λi:Nat=>.int ((n:Int) - 1 - (i:Int))
theorem ir (n:Nat):(dnD n).length=n:=by simp [dnD]
theorem Eu {n:Nat}:∀ i (h:i < (dnD n).length),(dnD n)[i]=.int ((n - 1 - i:Nat):Int):=λi h=>by
 rw [ir] at h
 simp only [dnD,Gu,HN]
 congr 1
 omega
theorem E3 {n:Nat} {p' pos':Pos} (B:Bk X k) (h:PE X a (dE X.K false τ (.d (.int n)))) (hn:n < 1000) (hg:Gl X "reversed":=by rfl) (hg':Gl X "range":=by rfl) (hs':starEach [a] X.env=[(false,eval a X.env)]:=by rfl)
   (hs:starEach [.Call (.Name "range" p') [a] [] pos'] X.env=[(false,eval (.Call (.Name "range" p') [a] [] pos') X.env)]:=by rfl):PI X tg (.Call (.Name "reversed" p) [.Call (.Name "range" p') [a] [] pos'] [] pos) (dI X.K τ (dnD n)):=
 piW (AK B.calm hg (B.blt _ (by decide)) hg' (B.blt _ (by decide)) (ab h af hs') hs' hs) λσ H R ⟨A,H₀,B,S,k⟩=>gp S λvs H1 e1 d1=>by
   cases d1 with
   | cons d r=>
     cases r
     cases d
     refine ⟨n,rfl,hn,k _ H1 e1 λH2 sg=>⟨λi hi=>by rw [ir] at hi; exact hi,λi hi=>⟨by rw [ir] at hi; exact hi,λx H' ⟨eH,ex⟩=>?_⟩⟩⟩
     subst eH ex
     refine ⟨aj.refl _,λM _ _=>?_⟩
     simp only [dnD,Gu,HN]
     exact .int
end
end Hy
namespace Hy
open PySem PySem.Spec PyProof.Rows L2
open Ev (D Den ar ak aG fq dj PTs cy eo)
theorem mW {K:Fb} {G:Hp}:∀ {vs:List V} {ns:List Int},ar K G vs (ns.map .int)->vs=ns.map V.int
 | _,[],.nil=>rfl
 | _,n :: ns,.cons h r=>by cases h; rw [mW r]; rfl
section
variable {X:Cx}
end
section
variable {X:Cx} {C:Bool} {τ:List Sl} {e it:Expr} {pos p q p2 pos2 tp ip vp rp ap cp p1:Pos} {k:Nat} {N:Po} {rest:List Stmt} {scope:Scope}
theorem wK {α β:Type} (g:α->β):∀ (xs:List α) (i:Nat),(xs.eraseIdx i).map g=(xs.map g).eraseIdx i
 | [],_=>rfl
 | _ :: _,0=>rfl
 | x :: xs,i + 1=>by rw [FJ,KO,KO,FJ,wK g xs i]
end
end Hy
namespace Hy
open PySem PySem.Spec PyProof.Rows L2
open Ev (D Den ar ak)
theorem mP {K:Fb} {H:Hp}:∀ {vs:List V} {ds:List D} (j:Nat),ar K H vs ds->ar K H (vs.eraseIdx j) (ds.eraseIdx j)
 | _,_,_,.nil=>.nil
 | _,_,0,.cons _ r=>r
 | _,_,j + 1,.cons h r=>.cons h (mP j r)
theorem sE {K:Fb} {H:Hp} {v:V} {x:D} (h:Den K H v x):∀ {vs:List V} {ds:List D} (j:Nat),ar K H vs ds->ar K H (vs.insertIdx j v) (ds.insertIdx j x)
 | _,_,0,r=>.cons h r
 | _,_,_ + 1,.nil=>.nil
 | _,_,j + 1,.cons h1 r=>.cons h1 (sE h j r)
section
variable {X:Cx} {τ:List Sl} {a b:Expr} {pos p q:Pos} {N:Po} {rest:List Stmt}
theorem D8 (i:Nat) {n:Str} {xs:List D} {ap cp ap2 cp2:Pos} {k j:Nat} (x:D) (ha:PE X a (dE X.K false τ (.d (.int (k:Nat))))) (hb:PE X b (dE X.K false τ (.d (.int (j:Nat))))) (hj:xs[j]?=some x) (hk:k < xs.length) (hl:xs.length < 1000000) (hr:PSs X rest (dS X.K (τ.set i (.o ((xs.eraseIdx j).insertIdx k x))) N)) (hi:τ[i]?=some (.o xs):=by rfl) (hN:X.N[i]?=some n:=by rfl)
   (hv:Vis X.env.scope n:=by first | exact GO rfl | exact F5 (GO rfl) | exact F5 (F5 rfl)) (hd:(n == ("__debug__" : Str))=false:=by decide) (hcd:(n == ("__classdict__" : Str))=false:=by decide)
   (hfew:((backTo cp (starEach [a,.Call (.Attribute (.Name n q) "pop" ap2) [b] [] cp2] X.env)).all (λx=>!x.1) && (backToKw cp (keywordEach [] X.env)).all (λx=>x.1.isSome) && decide (([a,.Call (.Attribute (.Name n q) "pop" ap2) [b] [] cp2]:List Expr).length + ([]:List Keyword).length + (if ([]:List Keyword).isEmpty then 0 else 1) < 30))=true:=by rfl)
   (hline:(ap.endLine == cp.line)=true:=by rfl) (hst:starEach [a,.Call (.Attribute (.Name n q) "pop" ap2) [b] [] cp2] X.env=(false,eval a X.env) :: starEach [.Call (.Attribute (.Name n q) "pop" ap2) [b] [] cp2] X.env:=by rfl)
   (hst2:starEach [.Call (.Attribute (.Name n q) "pop" ap2) [b] [] cp2] X.env=(false,eval (.Call (.Attribute (.Name n q) "pop" ap2) [b] [] cp2) X.env) :: starEach [] X.env:=by rfl) (hpl:(backTo cp (starEach [.Call (.Attribute (.Name n q) "pop" ap2) [b] [] cp2] X.env)).any (·.1)=false:=by rfl)
   (hs:swapsWith (.Call (.Attribute (.Name n p) "insert" ap) [a,.Call (.Attribute (.Name n q) "pop" ap2) [b] [] cp2] [] cp) none pos.line X.env=pure false:=by rfl) (hbase:attributeBase (.Name n p) "insert" X.env (eval (.Name n p) X.env)=eval (.Name n p) X.env:=by rfl)
   (hfew2:((backTo cp2 (starEach [b] X.env)).all (λx=>!x.1) && (backToKw cp2 (keywordEach [] X.env)).all (λx=>x.1.isSome) && decide (([b]:List Expr).length + ([]:List Keyword).length + (if ([]:List Keyword).isEmpty then 0 else 1) < 30))=true:=by rfl) (hline2:(ap2.endLine == cp2.line)=true:=by rfl)
   (hst3:starEach [b] X.env=(false,eval b X.env) :: starEach [] X.env:=by rfl) (hpl2:(backTo cp2 (starEach [] X.env)).any (·.1)=false:=by rfl) (hbase2:attributeBase (.Name n q) "pop" X.env (eval (.Name n q) X.env)=eval (.Name n q) X.env:=by rfl) :
   PSs X (.Expr (.Call (.Attribute (.Name n p) "insert" ap) [a,.Call (.Attribute (.Name n q) "pop" ap2) [b] [] cp2] [] cp) pos :: rest) (dS X.K τ N):=
 a8 (M:=(·=τ.set i (.o ((xs.eraseIdx j).insertIdx k x)))) (psW (fV (pZ GU Kf PySem.F.type_list_insert uG (bx hN hv hd hcd)
     (bO ha (bO (pZ GU PySem.F.slot_list_pop PySem.F.type_list_pop wW (bx hN hv hd hcd) (bO hb dC hst3) hbase2 hfew2 hline2 hst3 hpl2) dC hst2) hst) hbase hfew hline hst hpl) hs) λDn σ H ⟨A,H₀,B,S,Me⟩=>by
   obtain ⟨l,vs,hbb,e1,e2,d⟩:=S.sl i _ hi
   have hjl:j < xs.length:=(Fn.mp hj).1
   refine ⟨_,slot_of e1,.inl ⟨rfl,_,SqL.of e2⟩,aH S λw1 H1 f1 g1=>?_⟩
   cases g1
   have S1:=S.mono f1
   refine ⟨_,slot_of e1,.inl ⟨rfl,_,SqL.of (f1 _ _ e2)⟩,aH S1 λw2 H2 f2 g2=>?_⟩
   cases g2
   have S2:=S1.mono f2
   obtain ⟨l',vs',hb',e1',e2',d'⟩:=S2.sl i _ hi
   rw [e1] at e1'
   cases e1'
   have hln:=d'.length
   obtain ⟨v,hv1,dv⟩:=d'.get hj
   refine ⟨l,vs',(j:Int),j,v,rfl,rfl,e2',by omega,by omega,PySem.StrLaws.seqIndex_nonneg (by omega) (by omega),hv1,?_⟩
   have hel:(vs'.eraseIdx j).length=xs.length - 1:=by rw [Gm (by omega),hln]
   refine ⟨l,vs'.eraseIdx j,(k:Int),v,rfl,rfl,aC,by omega,by rw [Fq]; omega,by rw [hel]; have:sizeLine > 1000000:=(by decide); omega,?_⟩
   rw [Fq]
   have eu:upd (upd H2 l (.lst (vs'.eraseIdx j))) l (.lst ((vs'.eraseIdx j).insertIdx k v))=upd H2 l (.lst ((vs'.eraseIdx j).insertIdx k v)):=by
     funext z
     unfold upd
     split <;> rfl
   rw [eu]
   exact Me.nx _ _ _ _ rfl (S2.put hi hb' (sE dv k (mP j d')))) λ_ e=>e ▸ hr
end
noncomputable def je (a:Int) (as:List Int):Int:=as.foldl (λm x=>if x > m then x else m) a
theorem ou:∀ (as:List Int) (a:Int),je a as ∈ a :: as/\∀ x ∈ a :: as,x<=je a as
 | [],a=>⟨Fi ..,λx hx=>by rw [Ff.mp hx]; exact Int.le_refl _⟩
 | b :: as,a=>by
   obtain ⟨h1,h2⟩:=ou as (if b > a then b else a)
   have e:je a (b :: as)=je (if b > a then b else a) as:=rfl
   rw [e]
   have h3:=h2 _ (Fi ..)
   have h4:a<=(if b > a then b else a)/\b<=(if b > a then b else a):=by split <;> omega
   refine ⟨?_,λx hx=>?_⟩
   · rcases Fv.mp h1 with z | z
     · rw [z]
       split
       · exact Fh _ (Fi ..)
       · exact Fi ..
     · exact Fh _ (Fh _ z)
   · rcases Fv.mp hx with z | z
     · rw [z]; exact Int.le_trans h4.1 h3
     · rcases Fv.mp z with z | z
       · rw [z]; exact Int.le_trans h4.2 h3
       · exact h2 x (Fh _ z)
theorem yX {a M:Int} {as:List Int} (h1:M ∈ a :: as) (h2:∀ x ∈ a :: as,x<=M):je a as=M:=by
 obtain ⟨z1,z2⟩:=ou as a
 exact Int.le_antisymm (h2 _ z1) (z2 _ h1)
theorem kg:∀ {us:List Value} {ns:List Int},Vals (ns.map V.int) us->∃ xs:List (Int × Tok),us=xs.map (λp=>II p.1 p.2)/\xs.map (·.1)=ns
 | [],[],_=>⟨[],rfl,rfl⟩
 | [],_ :: _,h=>nomatch h
 | _ :: _,[],h=>nomatch h
 | u :: us,n :: ns,h=>by
   cases h with
   | cons h1 h2=>
     obtain ⟨t,rfl⟩:=h1
     obtain ⟨xs,rfl,rfl⟩:=kg h2
     exact ⟨(n,t) :: xs,rfl,rfl⟩
section
variable {X:Cx}
theorem vj (hc:X.calm=true):dg X (.builtin "max") (λxs H Q=>∃ p a as,xs=[.ref p]/\SqL X.K H p ((a :: as).map V.int)/\Q (.int (je a as)) H):=by
 intro pins s σ H vs us Q I r q
 obtain ⟨p,a,as,rfl,h1,q⟩:=q
 obtain ⟨u,rfl,ru⟩:=vals1 r
 cases (show u=FV _ from ru)
 obtain ⟨its,rv,p,hz⟩:=I.list h1
 obtain ⟨xs,rfl,hx⟩:=kg (ns:=a :: as) rv
 have hlen:0 < xs.length:=by have:=congrArg Kk hx; simp only [E9,Ga] at this; omega
 refine max_intList (xs:=xs.toArray) (I.ok.hd hc) (by have:=p.isList; simpa [intItems] using this) (by simpa using hlen) λv h' tk hv k=>?_
 obtain ⟨g1,g2⟩:=argBest_gt (numAt xs.toArray) (xs.toArray.size - 1)
 rw [Fo] at g1 g2 hv
 revert hv g1 g2
 generalize argBest (λi j=>decide (numAt xs.toArray i > numAt xs.toArray j)) (xs.length - 1)=b
 intro hv g1 g2
 have nat:∀ i (w:Int × Tok),xs[i]?=some w->numAt xs.toArray i=w.1:=λi w e=>by simp [numAt,e]
 obtain ⟨w,hw⟩:∃ w,xs[b]?=some w:=⟨xs[b]'(by omega),Fe _⟩
 have ev:v=II w.1 w.2:=by
   simp only [intItems,Array.getElem?_map,List.getElem?_toArray,hw,GF,HG] at hv
   exact hv.symm
 have em:je a as=w.1:=by
   refine yX (by rw [<- hx]; exact Fj.mpr ⟨w,Gn hw,rfl⟩) λx hx'=>?_
   rw [<- hx] at hx'
   obtain ⟨y,hy,rfl⟩:=Fj.mp hx'
   obtain ⟨i,hi,e⟩:=Hg hy
   have:=g2 i (by omega)
   rw [nat i y (by rw [Fe hi,e]),nat b w hw] at this
   exact this
 exact ⟨.int (je a as),H,I.kept k,⟨w.2,by rw [em,ev]⟩,q⟩
theorem Cv (hc:X.calm=true) (a:Int) (as:List Int) {xs:List D} (hx:xs=(a :: as).map .int):gy X (.builtin "max") [.lst xs] (.d (.int (je a as))):=⟨_,vj hc,λM vs H Q _ d q=>by
 subst hx
 cases d with
 | cons d r=>
   cases r
   cases d with
   | lst h1 r=>
     have e:=mW r
     subst e
     exact ⟨_,a,as,rfl,Ev.aN aI h1,q _ H [] (aj.refl _) cY (iB .int)⟩⟩
end
end Hy
namespace Lc
open PySem PySem.Spec PyProof.Rows L2
open PySem.AutoSeq1 (wpAny_loadPart')
open PySem.MeetsSeq PySem.MeetsSeq2 PySem.MeetsSeq3 PySem.SeqRoads2 PySem.SeqAt
open Ev (D Den ar eqD fO toP cln eD dep fA)
section
variable {X:Cx} {pins:List (Addr × Obj)} {σ:L2.St} {H G:Hp} {s:Shared}
end
end Lc
namespace Lc
open PySem PySem.Spec PyProof.Rows L2
open Ev (D Den ar eqD fO toP cln eD dep fA)
section
variable {prog:Program} {w:World} {A:Around} {R:Result->Shared->Prop} {E:Value->Shared->Prop}
end
end Lc
namespace Hy
open PySem PySem.Spec PyProof.Rows L2
open Ev (D Den ar aN eqD fO)
section
variable {X:Cx} {k:Nat} {xs:List D}
end
end Hy
namespace Ev
open PySem PySem.Spec PyProof.Rows L2
section
variable {X:Cx} {o e f g:Expr} {pos apos cpos:Pos} {td te tf tg:TE}
end
section
variable {X:Cx} {tg l:Expr} {tl:TE}
end
end Ev
namespace Hy
open PySem PySem.Spec PyProof.Rows L2
open Ev (D Den ar ak)
section
variable {X:Cx} {C:Bool} {τ:List Sl} {o e f g a b:Expr} {pos apos cpos p p2:Pos} {z w v:Str} {k:Nat} {xs:List D}
end
end Hy
namespace Tx
open PySem
noncomputable def inj (c:Nat):List (List Nat)->List Nat
 | []=>[]
 | [a]=>a
 | a :: b :: r=>a++c :: inj c (b :: r)
noncomputable def cs (x:Str):List Nat:=x.cps.toList
noncomputable def ch (c:Nat):Str:=⟨#[c]⟩
end Tx
namespace Hx
open PySem PySem.Spec PyProof.Rows L2
section
variable {X:Cx} {body:List Stmt} {h0:ExceptHandler} {hs:List ExceptHandler} {pos:Pos} {t:TS}
end
end Hx
namespace Hy
open PySem PySem.Spec PyProof.Rows L2
end Hy
namespace Hy
open PySem PySem.Spec PyProof.Rows L2
open Ev (D Den ar ak aY aN)
section
variable {X:Cx} {C:Bool} {τ:List Sl} {a b e e1 e2 e3 o:Expr} {pos p p2 tp:Pos} {k:Nat} {x x1 x2 x3:D} {N:Po} {rest:List Stmt}
theorem yg {lo hi:Option Expr} {l u:Option Int} {xs:List D} (ha:PE X a (dE X.K C τ (.d (.tup xs)))) (hl:PO X lo (dO X.K τ l)) (hu:PO X hi (dO X.K τ u)) (hw:¬ (HT.sIx xs.length 0 l=0/\HT.sIx xs.length xs.length u=xs.length)):PE X (.Subscript a (.Slice lo hi none p2) pos) (dE X.K C τ (.d (.tup (cutD xs l u)))):=
 peW (oW CS ha hl hu) λσ H Q q=>by
   obtain ⟨A,H₀,B,S,k⟩:=cJ q
   exact aH S λv H1 e1 d1=>⟨A,H₀,B,S.mono e1,λH2 e2=>⟨A,H₀,B,(S.mono e1).mono e2,λH3 e3=>by
     cases d1 with
     | @tup _ ws _ h r=>
       have h:=aY (e2.trans e3) (aY aI h)
       have r:=r.mono (ay (e2.trans e3) λ_ z=>z)
       refine ⟨_,_,rfl,h,by rw [r.length]; exact hw,λp hp=>?_⟩
       have r':ar X.K (hd H3 (vw C A B)) (kI ws l u) (cutD xs l u):=by
         unfold kI cutD
         rw [r.length]
         exact (r.drop _).take _
       have hM:=(((S.mono e1).mono e2).mono e3).vd (C:=C)
       have e4:=ak hp (.tup (kI ws l u))
       exact k _ _ ((e1.trans (e2.trans e3)).trans e4) (.tup (SqT.of (kY hM hp)) (r'.mono (ay e4 λ_ z=>z)))⟩⟩
theorem cS {K:Fb} {G H:Hp}:∀ {vs:List V} {bs:List Addr} {ds:List D},aL K G H vs bs (ds.map .d)->ar K G vs ds/\bs=[]
 | _,_,[],h=>by cases h; exact ⟨.nil,rfl⟩
 | _,_,x :: ds,h=>by
   rw [FJ] at h
   cases h with
   | cons h r=>
     cases h with
     | d h=>
       obtain ⟨d1,rfl⟩:=cS r
       exact ⟨.cons h d1,rfl⟩
theorem wD {i:Nat} {pt:List Nat} {t:Nd} {ds:List D} {m:Int} {j:Nat} {ix:Expr} {sp:Pos} (ho:PE X o (dP X.K τ i pt)) (hx:PE X ix (dE X.K false τ (.d (.int m)))) (he:PE X e (dE X.K true τ (.d x))) (hi:τ[i]?=some (.n t)) (hp:bz pt t=some (.l (ds.map .d))) (hj:ixN ds.length m=some j)
   (hr:PSs X rest (dS X.K (τ.set i (.n (bw pt t (.l ((ds.set j x).map .d))))) N))
   (hs:swapsWithSole [.Subscript o ix sp] e pos.line X.env=pure false:=by rfl) (hw:swappedStores [.Subscript o ix sp] e X.env=pure none:=by rfl) (h1:(assignEach [.Subscript o ix sp] X.env).map (·.2)=[assign (.Subscript o ix sp) X.env]:=by rfl)
   (ha:∀ v,assign (.Subscript o ix sp) X.env v=(do
     let ov <- holding [v] (eval o X.env)
     let iv <- holding [v,ov] (eval ix X.env)
     standAt sp
     holding [v,ov,iv] (setItem ov iv v)
     release [v,ov,iv] []):=by intro _; rfl) :
   PSs X (.Assign [.Subscript o ix sp] e pos :: rest) (dS X.K τ N):=
 a8 (M:=(·=τ.set i (.n (bw pt t (.l ((ds.set j x).map .d)))))) (psW (fH he (gN ho hx set_list ha) hs hw h1) λD σ H ⟨A,H₀,B,S,Me⟩=>aH S λv H1 e1 d1=>by
   refine ⟨A,H₀,B,S.mono e1,λu w H2 eu e2 pv=>aH ((S.mono e1).mono e2) λy H3 e3 d3=>?_⟩
   have S3:=((S.mono e1).mono e2).mono e3
   obtain ⟨u',l,vs,bs0,eu',pv',hH,r0,nd0,hal,hown,put⟩:=S3.putN hi hp
   rw [eu] at eu'
   cases eu'
   obtain rfl:=(pv.mono e3).det pv'
   cases d3
   obtain ⟨dl,rfl⟩:=cS r0
   refine ⟨l,vs,m,j,rfl,rfl,hH,by rw [dl.length]; exact hj,?_⟩
   have sm:aj (hd H3 (own A B)) (hd (upd H3 l (.lst (vs.set j v))) λb=>own A B b\/b ∈ ([]:List Addr)):=λb o z=>by
     obtain ⟨z1,z2⟩:=ao.mp z
     exact ao.mpr ⟨(λy=>y.elim z1 λy=>(nomatch y)),by rw [av (λy:b=l=>z1 (by rw [y]; exact hal))]; exact z2⟩
   obtain ⟨B',S'⟩:=put (H1:=H3) (vs':=vs.set j v) (bs1:=[]) (xs':=(ds.set j x).map .d) (aj.refl _) Hc (λ_ z=>nomatch z) (iQ ((fY j dl (d1.mono (ay (e2.trans e3) λ_ z=>z))).mono sm))
   exact Me.nx _ B' _ _ rfl S') λ_ e=>e ▸ hr
end
noncomputable def dSL (K:Fb) (τ:List Sl) (i j k:Nat) (τe:List Sl):TS:=λD σ H=>∃ A H₀ B,Sta K A H₀ τ B σ H/\Pj σ H i j k/\∀ B' σ' H',Sta K A H₀ τe B' σ' H'->Pj σ' H' i j k->σ'[i]?=σ[i]?->D.nx σ' H'
section
variable {X:Cx} {τ τ1 τ2:List Sl} {x y z:D} {a b e o ix:Expr} {es:List Expr} {pos p q:Pos} {l:Nat} {s:Sl} {N:Po} {st:Stmt} {body rest:List Stmt} {i j k:Nat} {t c:Nd} {pt:List Nat} {xs:List Nd} {m:Nat} {ds:List D}
theorem wF:PSs X [] (dSL X.K τ i j k τ):=jJ uj λ_ σ H ⟨_,_,B,S,P,fin⟩=>fin B σ H S P rfl
theorem gX (h1:PS X st (dSL X.K τ i j k τ1)) (h2:PSs X rest (dSL X.K τ1 i j k τ2)):PSs X (st :: rest) (dSL X.K τ i j k τ2):=
 jJ (fM h1 h2) λ_ _ _ ⟨A,H₀,B,S,P,fin⟩=>⟨A,H₀,B,S,P,λB' _ _ S' P' e=>⟨A,H₀,B',S',P',λB2 σ2 H2 S2 P2 e2=>fin B2 σ2 H2 S2 P2 (e2.trans e)⟩⟩
theorem xG (r:Nat) {x:D} (h:PSs X rest (dSL X.K (τ.set r .un) i j k τ2)) (hr:τ[r]?=some (.d x):=by rfl):PSs X rest (dSL X.K τ i j k τ2):=
 jJ h λ_ _ _ ⟨A,H₀,_,S,P,fin⟩=>⟨A,H₀,_,S.less (bs:=[]) (s:=.un) (i:=r) (λ_ z=>nomatch z) (λ_ _ _=>rfl),P,fin⟩
theorem Ad (r:Nat) {n:Str} (hN:X.N.Nodup) (he:PE X e (dE X.K true τ (.d x))) (hri:r ≠ i:=by decide) (hrj:r ≠ j:=by decide) (hi:X.N[r]?=some n:=by rfl) (hx:Loc X.env.scope n:=by first | exact .inl rfl | exact .inr rfl) (hs:swapsWith e (some (.Name n p)) pos.line X.env=pure false:=by rfl)
   (hf:X.fn n=true\/X.env.scope.names.lookup n=some .local:=by first | exact .inl rfl | exact .inr rfl | assumption):PS X (.Assign [.Name n p] e pos) (dSL X.K τ i j k (τ.set r (.d x))):=
 psW (oB hN hi hx he hs hf) λD σ H ⟨A,H₀,B,S,⟨a,vs,v,e1,e2,e3,e4⟩,fin⟩=>⟨A,H₀,B,S,λw H' bs e hf h=>by
   refine fin _ _ _ (S.set e hf h) ⟨a,vs,v,?_,e _ _ e2,e3,?_⟩ ?_
   · rw [Ft hri]; exact e1
   · rw [Ft hrj]; exact e4
   · rw [Ft hri]⟩
theorem ej (h:PE X e (dE X.K false τ (.d x))):PE X e (dEJ X.K τ i j k x):=peW h λσ H Q ⟨A,H₀,B,S,_,q⟩=>aH S λv H' e d=>q v H' e d
theorem vH {op:Operator} (ha:PE X a (dEJ X.K τ i j k x)) (hb:PE X b (dEJ X.K τ i j k y)) (ho:cq X (binaryOp op) x y z):PE X (.BinOp a op b pos) (dEJ X.K τ i j k z):=by
 obtain ⟨r,h1,h2⟩:=ho
 exact peW (sG h1 ha hb) λσ H Q ⟨A,H₀,B,S,P,q⟩=>⟨A,H₀,B,S,P,λv H1 e1 d1=>⟨A,H₀,B,S.mono e1,P.mono e1,λw H2 e2 d2=>h2 A v w H2 Q (λb hb=>((S.mono e1).mono e2).dm b (.inl hb)) (d1.mono (ay e2 λ_ z=>z)) d2 λu H' e3 d3=>q u H' (e1.trans (e2.trans e3)) d3⟩⟩
theorem AM {zi:Int} {m:Nat} {sp:Pos} (ho:PE X o (dPJ X.K τ i j k pt)) (hx:PE X ix (dE X.K false τ (.d (.int zi)))) (he:PE X e (dEJ X.K τ i j k x)) (hi:τ[i]?=some (.n t)) (hp:bz (k :: pt) t=some (.l (ds.map .d))) (hj:ixN ds.length zi=some m) (hfl:flat x=true:=by rfl)
   (hs:swapsWithSole [.Subscript o ix sp] e pos.line X.env=pure false:=by rfl) (hw:swappedStores [.Subscript o ix sp] e X.env=pure none:=by rfl) (h1:(assignEach [.Subscript o ix sp] X.env).map (·.2)=[assign (.Subscript o ix sp) X.env]:=by rfl)
   (ha:∀ v,assign (.Subscript o ix sp) X.env v=(do
     let ov <- holding [v] (eval o X.env)
     let iv <- holding [v,ov] (eval ix X.env)
     standAt sp
     holding [v,ov,iv] (setItem ov iv v)
     release [v,ov,iv] []):=by intro _; rfl) :
   PS X (.Assign [.Subscript o ix sp] e pos) (dSL X.K τ i j k (τ.set i (.n (bw (k :: pt) t (.l ((ds.set m x).map .d)))))):=
 psW (fH he (gN ho hx set_list ha) hs hw h1) λD σ H ⟨A,H₀,B,S,P,fin⟩=>⟨A,H₀,B,S,P,λv H1 e1 d1=>by
   refine ⟨A,H₀,B,S.mono e1,P.mono e1,λu w H2 eu e2 pv=>aH ((S.mono e1).mono e2) λy H3 e3 d3=>?_⟩
   have S3:=((S.mono e1).mono e2).mono e3
   have P3:=((P.mono e1).mono e2).mono e3
   obtain ⟨u',l,vs,bs0,eu',pv',hH,r0,nd0,hal,hown,put⟩:=S3.putN hi hp
   rw [eu] at eu'
   cases eu'
   obtain rfl:=(pv.mono e3).det pv'
   cases d3
   obtain ⟨dl,rfl⟩:=cS r0
   refine ⟨l,vs,zi,m,rfl,rfl,hH,by rw [dl.length]; exact hj,?_⟩
   have sm:aj (hd H3 (own A B)) (hd (upd H3 l (.lst (vs.set m v))) λb=>own A B b\/b ∈ ([]:List Addr)):=λb o z=>by
     obtain ⟨z1,z2⟩:=ao.mp z
     exact ao.mpr ⟨(λy=>y.elim z1 λy=>(nomatch y)),by rw [av (λy:b=l=>z1 (by rw [y]; exact hal))]; exact z2⟩
   obtain ⟨B',S'⟩:=put (H1:=H3) (vs':=vs.set m v) (bs1:=[]) (xs':=(ds.set m x).map .d) (aj.refl _) Hc (λ_ z=>nomatch z) (iQ ((fY m dl (iJ d1 hfl)).mono sm))
   obtain ⟨r,rs,v',f1,f2,f3,f4⟩:=P3
   rw [f1] at eu
   cases eu
   have ne:=S3.below hi hp f1 (pv.mono e3)
   exact fin B' _ _ S' ⟨r,rs,v',f1,by rw [av (GG ne)]; exact f2,f3,f4⟩ rfl⟩
theorem qI (i j:Nat) {n v:Str} {ip tp:Pos} (ns ms:List Nd) (hnm:ns.length=ms.length) (Bq:Bk X l) (hN:X.N.Nodup) (hi:τ[i]?=some (.n (.l ns)))
   (hb:∀ k (h:k < ns.length) (h':k < ms.length) (r:List Nd),r[k]?=some ns[k]->PSs X body (dSL X.K (τ.set i (.n (.l r))) i j k (τ.set i (.n (.l (r.set k ms[k]))))))
   (hr:PSs X rest (dS X.K (τ.set i (.n (.l ms))) N)) (hj:τ[j]?=some .un:=by rfl) (hij:i ≠ j:=by decide) (hNi:X.N[i]?=some v:=by rfl) (hNj:X.N[j]?=some n:=by rfl)
   (hvi:Vis X.env.scope v:=by first | exact GO rfl | exact F5 (GO rfl) | exact F5 (F5 rfl)) (hlj:Loc X.env.scope n:=by first | exact .inl rfl | exact .inr rfl)
   (hf:X.fn n=true\/X.env.scope.names.lookup n=some .local:=by first | exact .inl rfl | exact .inr rfl | assumption)
   (hd1:(v == ("__debug__" : Str))=false:=by decide) (hd2:(v == ("__classdict__" : Str))=false:=by decide)
   (hs:∀ x,foldedSetIterable (.Name v ip) X.env x=pure x:=by intro _; rfl) :
   PSs X (.For (.Name n tp) (.Name v ip) body [] pos :: rest) (dS X.K τ N):=by
 have hlen:i < τ.length:=(Fn.mp hi).1
 let mx:Nat->List Nd:=λk=>ms.take k++ns.drop k
 have ml:∀ k,k<=ns.length->(mx k).length=ns.length:=λk hk=>by simp [mx]; omega
 have tk:∀ k,(τ.set i (.n (.l (mx k))))[i]?=some (.n (.l (mx k))):=λk=>FP hlen
 have tj:∀ k,(τ.set i (.n (.l (mx k))))[j]?=some .un:=λk=>by rw [Ft hij]; exact hj
 have bd:PSs X body λD σ H=>∃ kk,kk < ns.length/\dSL X.K (τ.set i (.n (.l (mx kk)))) i j kk (τ.set i (.n (.l (mx (kk + 1))))) D σ H:=by
   rintro pins s σ H D I ⟨kk,hk,h⟩
   have hk':kk < ms.length:=by omega
   have:=hb kk hk hk' (mx kk) ((DN (ms:=ms) hk).resolve_right (by omega))
   rw [y3 hk hk'] at this
   exact this pins s σ H D I h
 have e0:mx 0=ns:=by simp [mx]
 have eE:mx ns.length=ms:=by simp [mx,hnm]
 refine a8 (M:=(·=τ.set i (.n (.l (mx ns.length))))) (psW (xF Bq.po (tw Bq.calm (bx hNi hvi hd1 hd2)) (dr hN hNj hlj hf) bd hs) λD σ H ⟨A,H₀,B,S,Me⟩=>?_) λ_ e=>by rw [e,eE]; exact hr
 obtain ⟨_,u,eu,ok⟩:=S.sl i _ hi
 generalize B i=bi at ok
 cases ok with
 | @l a vs bs0 _ hH r0=>
   refine ⟨_,slot_of eu,a,rfl,⟨_,SqL.of hH⟩,λk m σ' H'=>m=ns.length - k/\k<=ns.length/\(σ'[i]?).join=some (.ref a)/\∃ B',Sta X.K A H₀ (τ.set i (.n (.l (mx k)))) B' σ' H',⟨_,rfl,FR _,eu,B,by rw [e0,set_same hi]; exact S⟩,?_⟩
   rintro k m σ' H' ⟨rfl,hk,ea,B',S'⟩
   obtain ⟨_,u',eu',ok'⟩:=S'.sl i _ (tk k)
   rw [ea] at eu'
   cases eu'
   generalize B' i=bi' at ok'
   cases ok' with
   | @l _ vs' bs1 _ hH' r1=>
     have hlv:vs'.length=ns.length:=by rw [r1.length,ml k hk]
     by_cases hlt:k < ns.length
     · refine .inr ⟨⟨vs',vs'[k],SqL.of hH',Fe (by omega)⟩,λσ2 H2=>(σ2[i]?).join=some (.ref a)/\∃ B',Sta X.K A H₀ (τ.set i (.n (.l (mx (k + 1))))) B' σ2 H2,λσ2 H2 ⟨z1,z2⟩=>⟨ns.length - (k + 1),by omega,rfl,hlt,z1,z2⟩,λy H2 ⟨e1,e2⟩=>?_⟩
       subst e1
       have ey:=e2 vs' (SqL.of hH')
       have S2:=S'.set (aj.refl _) (i:=j) (v:=y) (s:=.un) (bs:=[]) (λ_ z=>nomatch z) rfl
       rw [set_same (tj k)] at S2
       have hjl:j < σ'.length:=by rw [S'.len,FF]; exact (Fn.mp hj).1
       have ei:((σ'.set j (some y))[i]?).join=some (.ref a):=by rw [Ft (GG hij)]; exact ea
       exact ⟨k,hlt,A,H₀,_,S2,⟨a,vs',y,ei,hH',ey,FP hjl⟩,λB3 σ3 H3 S3 _ e3=>⟨by rw [e3]; exact ei,B3,S3⟩⟩
     · obtain rfl:k=ns.length:=by omega
       exact .inl ⟨⟨vs',SqL.of hH',by omega⟩,Me.nx _ _ _ _ rfl S'⟩
end
section
variable {X:Cx} {τ τ1 τ2:List Sl} {x y z:D} {a b e o ix:Expr} {pos p q:Pos} {l:Nat} {N:Po} {st:Stmt} {body rest:List Stmt} {i j k:Nat} {t c:Nd} {pt:List Nat} {ds:List D}
end
section
variable {K:Fb} {G H:Hp}
inductive Nd3 (K:Fb) (G H:Hp):List V->List (List Addr)->List Nd->Prop where
 | nil:Nd3 K G H [] [] []
 | cons {v:V} {vs:List V} {b:List Addr} {bs:List (List Addr)} {c:Nd} {cs:List Nd} (h:bD K G H v b c) (r:Nd3 K G H vs bs cs):Nd3 K G H (v :: vs) (b :: bs) (c :: cs)
theorem aL.three:∀ {vs:List V} {bs:List Addr} {xs:List Nd},aL K G H vs bs xs->∃ bss:List (List Addr),bss.flatten=bs/\Nd3 K G H vs bss xs
 | _,_,_,.nil=>⟨[],rfl,.nil⟩
 | _,_,_,.cons (b1:=b1) h r=>let ⟨bss,e,q⟩:=aL.three r; ⟨b1 :: bss,by rw [GY,e],.cons h q⟩
theorem Nd3.oks:∀ {vs:List V} {bs:List (List Addr)} {xs:List Nd},Nd3 K G H vs bs xs->aL K G H vs bs.flatten xs
 | _,_,_,.nil=>.nil
 | _,_,_,.cons h r=>.cons h r.oks
theorem Nd3.len:∀ {vs:List V} {bs:List (List Addr)} {xs:List Nd},Nd3 K G H vs bs xs->vs.length=xs.length/\bs.length=xs.length
 | _,_,_,.nil=>⟨rfl,rfl⟩
 | _,_,_,.cons _ r=>⟨congrArg (· + 1) r.len.1,congrArg (· + 1) r.len.2⟩
theorem Nd3.at:∀ {vs:List V} {bs:List (List Addr)} {xs:List Nd} {a:Nat} (h1:a < vs.length) (h2:a < bs.length) (h3:a < xs.length),Nd3 K G H vs bs xs->bD K G H vs[a] bs[a] xs[a]
 | _,_,_,0,_,_,_,.cons h _=>h
 | _,_,_,a + 1,h1,h2,h3,.cons _ r=>by simpa using Nd3.at (a:=a) (by simpa using h1) (by simpa using h2) (by simpa using h3) r
theorem Nd3.set {v:V} {b:List Addr} {c:Nd} (h:bD K G H v b c):∀ {vs:List V} {bs:List (List Addr)} {xs:List Nd} (a:Nat),Nd3 K G H vs bs xs->Nd3 K G H (vs.set a v) (bs.set a b) (xs.set a c)
 | _,_,_,_,.nil=>.nil
 | _,_,_,0,.cons _ r=>.cons h r
 | _,_,_,a + 1,.cons h1 r=>.cons h1 (Nd3.set h a r)
theorem aL.swap {vs:List V} {bs:List Addr} {xs:List Nd} {a b:Nat} {va vb:V} {xa xb:Nd} (h:aL K G H vs bs xs) (ea:vs[a]?=some va) (eb:vs[b]?=some vb) (fa:xs[a]?=some xa) (fb:xs[b]?=some xb) :
   ∃ bs',bs'.Perm bs/\aL K G H ((vs.set a vb).set b va) bs' ((xs.set a xb).set b xa):=by
 obtain ⟨bss,rfl,q⟩:=h.three
 obtain ⟨l1,l2⟩:=q.len
 obtain ⟨a1,a2⟩:=Fn.mp fa
 obtain ⟨b1,b2⟩:=Fn.mp fb
 obtain ⟨c1,c2⟩:=Fn.mp ea
 obtain ⟨d1,d2⟩:=Fn.mp eb
 have ka:=q.at c1 (by omega) a1
 have kb:=q.at d1 (by omega) b1
 rw [c2,a2] at ka
 rw [d2,b2] at kb
 exact ⟨_,(List.set_set_perm (as:=bss) (by omega) (by omega)).flatten,((q.set kb a).set ka b).oks⟩
end
section
variable {X:Cx} {τ:List Sl} {ia ia2 ib ib2:Expr} {N:Po} {rest:List Stmt} {xs:List Nd} {xa xb:Nd}
theorem zY {H:Hp} {a:Addr} {o o':HO}:upd (upd H a o) a o'=upd H a o':=by
 funext b
 unfold upd
 split <;> rfl
theorem BB (i j:Nat) {tn rn:Str} {za zb:Int} {a b:Nat} {p1 p2 p3 p4 p5 p6 p7 p8 p9 s1 s2 s3:Pos} (hN:X.N.Nodup) (hi:τ[i]?=some (.n (.l xs))) (hij:i ≠ j) (hj:τ[j]?=some .un)
   (h1:PE X ia (dE X.K false τ (.d (.int za)))) (h2:PE X ib (dE X.K false τ (.d (.int zb)))) (h3:PE X ia2 (dE X.K false τ (.d (.int za)))) (h4:PE X ib2 (dE X.K false (τ.set i .un) (.d (.int zb))))
   (ea:ixN xs.length za=some a) (eb:ixN xs.length zb=some b) (fa:xs[a]?=some xa) (fb:xs[b]?=some xb)
   (hr:PSs X rest (dS X.K (τ.set i (.n (.l ((xs.set a xb).set b xa)))) N))
   (hNi:X.N[i]?=some tn:=by rfl) (hNj:X.N[j]?=some rn:=by rfl)
   (hvi:Vis X.env.scope tn:=by first | exact GO rfl | exact F5 (GO rfl) | exact F5 (F5 rfl)) (hvj:Vis X.env.scope rn:=by first | exact GO rfl | exact F5 (GO rfl) | exact F5 (F5 rfl)) (hlj:Loc X.env.scope rn:=by first | exact .inl rfl | exact .inr rfl)
   (hf:X.fn rn=true\/X.env.scope.names.lookup rn=some .local:=by first | exact .inl rfl | exact .inr rfl | assumption)
   (hd1:(tn == ("__debug__" : Str))=false:=by decide) (hd2:(tn == ("__classdict__" : Str))=false:=by decide) (hd3:(rn == ("__debug__" : Str))=false:=by decide) (hd4:(rn == ("__classdict__" : Str))=false:=by decide)
   (pa:fZ ia:=by exact λ_ _=>rfl) (pb:fZ ib:=by exact λ_ _=>rfl)
   (w1:swapsWith (.Subscript (.Name tn p2) ia p3) (some (.Name rn p1)) s1.line X.env=pure false:=by rfl)
   (w2:swapsWithSole [.Subscript (.Name tn p4) ia2 p5] (.Subscript (.Name tn p6) ib p7) s2.line X.env=pure false:=by rfl) (w3:swappedStores [.Subscript (.Name tn p4) ia2 p5] (.Subscript (.Name tn p6) ib p7) X.env=pure none:=by rfl) (w4:(assignEach [.Subscript (.Name tn p4) ia2 p5] X.env).map (·.2)=[assign (.Subscript (.Name tn p4) ia2 p5) X.env]:=by rfl)
   (w5:∀ v,assign (.Subscript (.Name tn p4) ia2 p5) X.env v=(do
     let ov <- holding [v] (eval (.Name tn p4) X.env)
     let iv <- holding [v,ov] (eval ia2 X.env)
     standAt p5
     holding [v,ov,iv] (setItem ov iv v)
     release [v,ov,iv] []):=by intro _; rfl)
   (w6:swapsWithSole [.Subscript (.Name tn p8) ib2 p9] (.Name rn q) s3.line X.env=pure false:=by rfl) (w7:swappedStores [.Subscript (.Name tn p8) ib2 p9] (.Name rn q) X.env=pure none:=by rfl) (w8:(assignEach [.Subscript (.Name tn p8) ib2 p9] X.env).map (·.2)=[assign (.Subscript (.Name tn p8) ib2 p9) X.env]:=by rfl)
   (w9:∀ v,assign (.Subscript (.Name tn p8) ib2 p9) X.env v=(do
     let ov <- holding [v] (eval (.Name tn p8) X.env)
     let iv <- holding [v,ov] (eval ib2 X.env)
     standAt p9
     holding [v,ov,iv] (setItem ov iv v)
     release [v,ov,iv] []):=by intro _; rfl) :
   PSs X (.Assign [.Name rn p1] (.Subscript (.Name tn p2) ia p3) s1 :: .Assign [.Subscript (.Name tn p4) ia2 p5] (.Subscript (.Name tn p6) ib p7) s2 :: .Assign [.Subscript (.Name tn p8) ib2 p9] (.Name rn q) s3 :: rest) (dS X.K τ N):=by
 refine jJ (fM (oB hN hNj hlj (mH (fK i hi hNi hvi hd1 hd2) h1 hi rfl ea pa) w1 hf) (fM (fH (mH (fK i hi hNi hvi hd1 hd2) h2 hi rfl eb pb) (gN (fK i hi hNi hvi hd1 hd2) h3 set_list w5) w2 w3 w4) (fM (fH (bx hNj hvj hd3 hd4) (gN (bx hNi hvi hd1 hd2) h4 set_list w9) w6 w7 w8) hr))) λD σ H ⟨A,H₀,B,S,Me⟩=>?_
 refine ⟨A,H₀,B,S,λu va H1 eu e1 pv=>?_⟩
 have S1:=S.mono e1
 have S1':=S1.set (aj.refl _) (i:=j) (v:=va) (s:=.un) (bs:=[]) (λ_ z=>nomatch z) rfl
 rw [set_same hj] at S1'
 have hjl:j < σ.length:=by rw [S.len]; exact (Fn.mp hj).1
 have eu1:((σ.set j (some va))[i]?).join=some u:=by rw [Ft (GG hij)]; exact eu
 have ej:(σ.set j (some va))[j]?=some (some va):=FP hjl
 refine ⟨A,H₀,_,S1',λu2 vb H2 eu2 e2 pv2=>?_⟩
 rw [eu1] at eu2
 cases eu2
 refine ⟨A,H₀,_,S1'.mono e2,λu3 w H3 eu3 e3 pv3=>aH ((S1'.mono e2).mono e3) λy H4 e4 d4=>?_⟩
 rw [eu1] at eu3
 cases eu3
 cases d4
 cases pv3
 have S4:=((S1'.mono e2).mono e3).mono e4
 generalize hB:upB B j []=B' at S1' S4
 obtain ⟨u',l,vs,bs0,eu',pv',hH,r0,nd0,hal,hown,put⟩:=S4.putN (p:=[]) hi rfl
 rw [eu1] at eu'
 cases eu'
 cases pv'
 have lv:=r0.length
 have va1:vs[a]?=some va:=by
   obtain ⟨a',vs',w,z1,z2,z3,z4⟩:=((pv.mono e2).mono e3).mono e4
   cases z1
   cases z4
   rcases z2 with z2 | z2 <;> rw [hH] at z2 <;> cases z2
   exact z3
 have vb1:vs[b]?=some vb:=by
   obtain ⟨a',vs',w,z1,z2,z3,z4⟩:=(pv2.mono e3).mono e4
   cases z1
   cases z4
   rcases z2 with z2 | z2 <;> rw [hH] at z2 <;> cases z2
   exact z3
 refine ⟨l,vs,za,a,rfl,rfl,hH,by rw [lv]; exact ea,?_⟩
 have hlB:l ∈ B' i:=by
   obtain ⟨_,u9,e9,ok⟩:=S4.sl i _ hi
   rw [eu1] at e9
   cases e9
   generalize B' i=bi at ok
   cases ok with
   | l _ _=>exact Fi ..
 have f0:H₀ l=none:=S4.fr i l hlB
 have sub:∀ c,own A (upB B' i []) c->own A B' c:=λc z=>z.elim .inl λ⟨k,z⟩=>(aZ z).elim (λz=>nomatch z.2) λz=>.inr ⟨k,z.2⟩
 have sm:∀ vs',aj (hd H4 (own A B')) (hd (upd H4 l (.lst vs')) (own A (upB B' i []))):=λvs' c o z=>by
   obtain ⟨z1,z2⟩:=ao.mp z
   exact ao.mpr ⟨λy=>z1 (sub c y),by rw [av (λy:c=l=>z1 (by rw [y]; exact hal))]; exact z2⟩
 have Sm:Sta X.K A H₀ (τ.set i .un) (upB B' i []) (σ.set j (some va)) (upd H4 l (.lst (vs.set a vb))):=by
   refine ⟨λc o z=>?_,S4.len.trans FF.symm,λk s hk=>?_,λk c hc=>?_,λk k' c z1 z2=>?_,S4.ad,λk c hc=>?_⟩
   · rw [av (λy:c=l=>by rw [y,f0] at z; cases z)]; exact S4.same _ _ z
   · by_cases ek:k=i
     · subst ek
       rw [FP (Fn.mp hi).1] at hk
       cases hk
       unfold upB
       rw [if_pos rfl]
       exact rfl
     · rw [Ft (λz=>ek z.symm)] at hk
       have:=(S4.sl k s hk).frame (G':=hd (upd H4 l (.lst (vs.set a vb))) (own A (upB B' i []))) (H':=upd H4 l (.lst (vs.set a vb))) (sm _) (λc hc=>av (λy=>ek (S4.uq k i l (y ▸ hc) hlB)))
       unfold upB
       rw [if_neg ek]
       exact this
   · exact (aZ hc).elim (λz=>nomatch z.2) λz=>S4.fr k c z.2
   · rcases aZ z1 with ⟨_,z⟩ | ⟨_,z⟩
     · cases z
     · rcases aZ z2 with ⟨_,z'⟩ | ⟨_,z'⟩
       · cases z'
       · exact S4.uq k k' c z z'
   · rcases aZ hc with ⟨_,z⟩ | ⟨n1,z⟩
     · cases z
     · obtain ⟨o,q⟩:=S4.bd k c z
       exact ⟨o,by rw [av (λy:c=l=>n1 (S4.uq k i l (y ▸ z) hlB))]; exact q⟩
 refine ⟨va,ej,_,slot_of eu1,aH Sm λy2 H5 e5 d5=>?_⟩
 cases d5
 have hH5:H5 l=some (.lst (vs.set a vb)):=e5 _ _ aC
 refine ⟨l,vs.set a vb,zb,b,rfl,rfl,hH5,by rw [FF,lv]; exact eb,?_⟩
 obtain ⟨bs',pm,r1⟩:=r0.swap va1 vb1 fa fb
 have ee:∀ o,upd H5 l o=upd (upd H5 l (.lst vs)) l o:=λo=>zY.symm
 have sH:aj H4 (upd H5 l (.lst vs)):=λc o z=>by
   by_cases q:c=l
   · rw [q] at z ⊢; rw [hH] at z; cases z; exact aC
   · rw [av q]; exact e5 _ _ (by rw [av q]; exact z)
 rw [ee]
 have fr:∀ c o,c ≠ l->H4 c=some o->upd (upd H5 l (.lst vs)) l (.lst ((vs.set a vb).set b va)) c=some o:=λc o q z=>by
   rw [av q]; exact sH _ _ z
 obtain ⟨B9,S9⟩:=put (H1:=upd H5 l (.lst vs)) (vs':=(vs.set a vb).set b va) (bs1:=bs') (xs':=(xs.set a xb).set b xa) sH (pm.nodup_iff.mpr nd0) (λc hc=>.inl (pm.mem_iff.mp hc)) (r1.frame (λc o z=>by
     obtain ⟨z1,z2⟩:=ao.mp z
     refine ao.mpr ⟨λy=>z1 (y.elim id λy=>(hown c (pm.mem_iff.mp y)).1),fr c o (λy=>z1 (by rw [y]; exact hal)) z2⟩) λc hc=>by
       obtain ⟨o,q⟩:=r0.some_of c (pm.mem_iff.mp hc)
       rw [fr c o (hown c (pm.mem_iff.mp hc)).2 q,q])
 exact ⟨A,H₀,B9,S9,Me⟩
end
section
variable {X:Cx} {τ:List Sl} {e2:Expr} {N:Po} {rest:List Stmt} {pos p tp:Pos} {x2:D} {t:Nd}
theorem Bm (i:Nat) {n:Str} {md} (h2:PE X e2 (dE X.K true τ (.d x2))) (h:N.rt (.n (.t [t,.d x2]))) (hi:τ[i]?=some (.n t):=by rfl) (hN:X.N[i]?=some n:=by rfl)
   (hv:Vis X.env.scope n:=by first | exact GO rfl | exact F5 (GO rfl) | exact F5 (F5 rfl)) (hd1:(n == ("__debug__" : Str))=false:=by decide) (hcd:(n == ("__classdict__" : Str))=false:=by decide)
   (s1:starEach [.Name n p,e2] X.env=(false,eval (.Name n p) X.env) :: starEach [e2] X.env:=by rfl) (s2:starEach [e2] X.env=(false,eval e2 X.env) :: starEach [] X.env:=by rfl) :
   PSs X (.Return (some (.Tuple [.Name n p,e2] md tp)) pos :: rest) (dS X.K τ N):=
 a8 (M:=λ_=>False) (psW (rY (rF (bO (bx (i:=i) hN hv hd1 hcd) (bO h2 dC s2) s1))) λD σ H ⟨A,H₀,B,S,Me⟩=>by
   obtain ⟨_,u,eu,_⟩:=S.sl i _ hi
   refine ⟨_,slot_of eu,aH S λv2 H2 e2 d2=>⟨(show 2<=sizeLine by decide),λp hp=>?_⟩⟩
   have S2:=S.mono e2
   obtain ⟨nd,u',eu',ok⟩:=S2.sl i _ hi
   rw [eu] at eu'
   cases eu'
   have low:aj (hd H2 (own A B)) (hd H2 λb=>A b\/b ∈ B i):=ay (aj.refl _) λb z=>z.elim .inl λz=>.inr ⟨i,z⟩
   have nds:aL X.K (hd H2 λb=>A b\/b ∈ B i) H2 [u,v2] (B i) [t,.d x2]:=by
     have:=aL.cons (ok.frame low λ_ _=>rfl) (.cons (b1:=[]) (b2:=[]) (.d (d2.mono low)) .nil)
     rw [Gh,Gh] at this
     exact this
   obtain ⟨z1,z2⟩:=wC (o:=.tup [u,v2]) hp nds nd
   refine Me.rt (.ref p) _ (p :: B i) _ h (S2.same.trans (ak hp _)) (λb hb'=>?_) ⟨z2,_,rfl,.t aC z1⟩
   rcases Fv.mp hb' with w | w
   · subst w; exact ⟨S2.same.free hp,_,aC⟩
   · obtain ⟨o,w2⟩:=S2.bd i b w
     exact ⟨S2.fr i b w,o,ak hp _ _ _ w2⟩) λ_ e=>e.elim
end
section
variable {P:Program} {w:World} {K:Fb} {mg:Str->Option Value} {base:Heap}
end
section
variable {X:Cx} {τ:List Sl} {es:List Expr} {pos p q pr:Pos} {k:Nat} {s:Sl} {ds:List D} {N:Po} {rest:List Stmt}
end
end Hy
namespace L2
open PySem PySem.Spec PyProof.Rows
end L2
namespace Hy
open PySem PySem.Spec PyProof.Rows L2
open Ev (D Den ar ak aY aN aG fq dj PTs cy eo)
section
variable {P:Program} {w:World} {K:Fb} {mg:Str->Option Value} {base:Heap}
end
section
variable {X:Cx} {τ:List Sl} {es:List Expr} {pos p q pr:Pos} {k:Nat} {s:Sl} {ds xs:List D} {N:Po} {rest:List Stmt} {elt it:Expr} {scope:Scope}
end
end Hy
namespace Hy
open PySem PySem.Spec PyProof.Rows L2
open Ev (D Den ar ak)
section
variable {X:Cx} {C:Bool} {τ:List Sl} {e o:Expr} {k c i:Nat} {N:Po} {rest body:List Stmt} {cl:Nat->Addr} {n:Str} {fw S:Addr} {p p' q psm pr ph pos pc pq:Pos} {t:Nd} {pt:List Nat} {xs:List Nd}
theorem Bw {ap cp:Pos} (ho:PE X o (dP X.K τ i pt)) (hi:τ[i]?=some (.n t)) (hp:bz pt t=some (.l xs)) (hr:PSs X rest (dS X.K (τ.set i (.n (bw pt t (.l [])))) N))
   (hline:(ap.endLine == cp.line)=true:=by rfl) (hs:swapsWith (.Call (.Attribute o "clear" ap) [] [] cp) none pos.line X.env=pure false:=by rfl) (hbase:attributeBase o "clear" X.env (eval o X.env)=eval o X.env:=by rfl) :
   PSs X (.Expr (.Call (.Attribute o "clear" ap) [] [] cp) pos :: rest) (dS X.K τ N):=
 a8 (M:=(·=τ.set i (.n (bw pt t (.l []))))) (psW (fV (Bc GU PySem.F.slot_list_clear PySem.F.type_list_clear wN ho hbase hline) hs) λD σ H ⟨A,H₀,B,S,Me⟩=>by
   refine ⟨A,H₀,B,S,λu v H1 eu e1 pv=>?_⟩
   have S1:=S.mono e1
   obtain ⟨u',l,vs,bs0,eu',pv',hH,r0,nd0,hal,hown,put⟩:=S1.putN hi hp
   rw [eu] at eu'
   cases eu'
   obtain rfl:=pv.det pv'
   obtain ⟨B',S'⟩:=put (H1:=H1) (vs':=[]) (bs1:=[]) (xs':=[]) (aj.refl _) Hc (λ_ z=>nomatch z) .nil
   exact ⟨.inl ⟨rfl,_,SqL.of hH⟩,l,vs,rfl,rfl,hH,Me.nx _ B' _ _ rfl S'⟩) λ_ e=>e ▸ hr
end
end Hy
namespace Hy
open PySem PySem.Spec PyProof.Rows L2
open Ev (D Den ar ak aY aN Ite Cz og)
section
variable {X:Cx} {τ:List Sl} {k:Nat} {N:Po} {rest ret:List Stmt} {c:Expr} {ns:List Nd} {xs:List D} {p q ip tp pos bp cp pb:Pos}
end
end Hy
namespace Hy
open PySem PySem.Spec PyProof.Rows L2
open Ev (D Den ar aN eqD fO eD cln dep fA)
section
variable {X:Cx} {k:Nat} {x:D} {xs:List D}
end
end Hy
namespace Hy
open PySem PySem.Spec PyProof.Rows L2
open Ev (D Den ar ak aY aN)
section
variable {K:Fb} {A:Addr->Prop} {H₀ H:Hp} {τ:List Sl} {B:Nat->List Addr} {σ:L2.St}
end
section
variable {X:Cx} {τ:List Sl} {N:Po} {rest:List Stmt} {xs:List Nd} {pos p p2:Pos} {s:Sl} {c:Nd}
end
end Hy
namespace Hy
open PySem PySem.Spec PyProof.Rows L2
open Ev (D Den ar aD aE ak aY aN eqD fO eD cln dep fA)
section
variable {X:Cx} {k:Nat} {x:D} {xs:List D}
end
section
variable {X:Cx} {C:Bool} {τ:List Sl} {x:D} {e o:Expr} {pos:Pos} {N:Po} {rest:List Stmt}
end
end Hy
namespace Hy
open PySem PySem.Spec PyProof.Rows L2
open Ev (D Den ar aN eqD fO)
section
variable {X:Cx}
theorem zd:OpR X (compareOp .IsNot) (λx y H Q=>∃ a b:Bool,x=.bl a/\y=.bl b/\Q (.bl (!decide (a=b))) H):=by
 intro pins s σ H x y v u Q I rx ry h
 obtain ⟨a,b,rfl,rfl,q⟩:=h
 cases rx
 cases ry
 exact wpAny_isNot_plain rfl (aW I q (by cases a <;> cases b <;> rfl))
theorem CJ {a b:Bool}:cq X (compareOp .IsNot) (.bl a) (.bl b) (.bl (!decide (a=b))):=⟨_,zd,λ_ v w H Q _ d1 d2 k=>by
 cases d1
 cases d2
 exact ⟨a,b,rfl,rfl,k _ H (aj.refl _) .bl⟩⟩
end
end Hy
namespace Hy
open PySem PySem.Spec PyProof.Rows L2
open Ev (D Den ar ak)
section
variable {X:Cx} {τ:List Sl} {e o:Expr} {pos:Pos} {N:Po} {rest:List Stmt} {s:Sl} {c:Nd}
variable {a b:Expr} {x:D} {k:Nat} {ds:List D}
theorem Bh {i j:Nat} {pt:List Nat} {t:Nd} {zi:Int} {m:Nat} {ix:Expr} {sp:Pos} (ho:PE X o (dPJ X.K τ i j k pt)) (hx:PE X ix (dE X.K false τ (.d (.int zi)))) (he:PE X e (dE X.K true τ (.d x))) (hi:τ[i]?=some (.n t)) (hp:bz (k :: pt) t=some (.l (ds.map .d))) (hj:ixN ds.length zi=some m)
   (hs:swapsWithSole [.Subscript o ix sp] e pos.line X.env=pure false:=by rfl) (hw:swappedStores [.Subscript o ix sp] e X.env=pure none:=by rfl) (h1:(assignEach [.Subscript o ix sp] X.env).map (·.2)=[assign (.Subscript o ix sp) X.env]:=by rfl)
   (ha:∀ v,assign (.Subscript o ix sp) X.env v=(do
     let ov <- holding [v] (eval o X.env)
     let iv <- holding [v,ov] (eval ix X.env)
     standAt sp
     holding [v,ov,iv] (setItem ov iv v)
     release [v,ov,iv] []):=by intro _; rfl) :
   PS X (.Assign [.Subscript o ix sp] e pos) (dSL X.K τ i j k (τ.set i (.n (bw (k :: pt) t (.l ((ds.set m x).map .d)))))):=
 psW (fH he (gN ho hx set_list ha) hs hw h1) λD σ H ⟨A,H₀,B,S,P,fin⟩=>aH S λv H1 e1 d1=>by
   refine ⟨A,H₀,B,S.mono e1,P.mono e1,λu w H2 eu e2 pv=>aH ((S.mono e1).mono e2) λy H3 e3 d3=>?_⟩
   have S3:=((S.mono e1).mono e2).mono e3
   have P3:=((P.mono e1).mono e2).mono e3
   obtain ⟨u',l,vs,bs0,eu',pv',hH,r0,nd0,hal,hown,put⟩:=S3.putN hi hp
   rw [eu] at eu'
   cases eu'
   obtain rfl:=(pv.mono e3).det pv'
   cases d3
   obtain ⟨dl,rfl⟩:=cS r0
   refine ⟨l,vs,zi,m,rfl,rfl,hH,by rw [dl.length]; exact hj,?_⟩
   have sm:aj (hd H3 (own A B)) (hd (upd H3 l (.lst (vs.set m v))) λb=>own A B b\/b ∈ ([]:List Addr)):=λb o z=>by
     obtain ⟨z1,z2⟩:=ao.mp z
     exact ao.mpr ⟨(λy=>y.elim z1 λy=>(nomatch y)),by rw [av (λy:b=l=>z1 (by rw [y]; exact hal))]; exact z2⟩
   obtain ⟨B',S'⟩:=put (H1:=H3) (vs':=vs.set m v) (bs1:=[]) (xs':=(ds.set m x).map .d) (aj.refl _) Hc (λ_ z=>nomatch z) (iQ ((fY m dl (d1.mono (ay (e2.trans e3) λ_ z=>z))).mono sm))
   obtain ⟨r,rs,v',f1,f2,f3,f4⟩:=P3
   rw [f1] at eu
   cases eu
   have ne:=S3.below hi hp f1 (pv.mono e3)
   exact fin B' _ _ S' ⟨r,rs,v',f1,by rw [av (GG ne)]; exact f2,f3,f4⟩ rfl
noncomputable def dEG (K:Fb) (τ:List Sl) (i j k:Nat) (x:D):TE:=λσ H Q=>∃ A H₀ B,Sta K A H₀ τ B σ H/\Pj σ H i j k/\∀ v H',aj H H'->Den K (hd H' (own A B)) v x->Q v H'
theorem xg {i j:Nat} {pt:List Nat} {t:Nd} (h:PE X e (dPJ X.K τ i j k pt)) (hi:τ[i]?=some (.n t)) (hp:bz (k :: pt) t=some (.d x)):PE X e (dEG X.K τ i j k x):=peW h λσ H Q ⟨A,H₀,B,S,P,q⟩=>by
 refine ⟨A,H₀,B,S,P,λu v H1 eu e1 pv=>?_⟩
 obtain ⟨u',v',m',eu',pv',ok,hm⟩:=(S.mono e1).at hi hp
 rw [eu] at eu'
 cases eu'
 obtain rfl:=pv.det pv'
 cases ok with
 | d d=>exact q v H1 e1 d
theorem B4 {i j:Nat} (r:Nat) {n:Str} {p:Pos} (hN:X.N.Nodup) (he:PE X e (dEG X.K τ i j k x)) (hri:r ≠ i:=by decide) (hrj:r ≠ j:=by decide) (hi:X.N[r]?=some n:=by rfl) (hx:Loc X.env.scope n:=by first | exact .inl rfl | exact .inr rfl) (hs:swapsWith e (some (.Name n p)) pos.line X.env=pure false:=by rfl)
   (hf:X.fn n=true\/X.env.scope.names.lookup n=some .local:=by first | exact .inl rfl | exact .inr rfl | assumption):PS X (.Assign [.Name n p] e pos) (dSL X.K τ i j k (τ.set r (.d x))):=
 psW (oB hN hi hx he hs hf) λD σ H ⟨A,H₀,B,S,⟨a,vs,v,e1,e2,e3,e4⟩,fin⟩=>⟨A,H₀,B,S,⟨a,vs,v,e1,e2,e3,e4⟩,λw H' e d=>by
   refine fin _ _ _ (S.set (bs:=[]) e (λ_ z=>nomatch z) ⟨rfl,w,rfl,d.mono (ay (aj.refl _) λ_ z=>z.elim id λz=>nomatch z)⟩) ⟨a,vs,v,?_,e _ _ e2,e3,?_⟩ ?_
   · rw [Ft hri]; exact e1
   · rw [Ft hrj]; exact e4
   · rw [Ft hri]⟩
theorem CL {i j:Nat} {pt:List Nat} {t:Nd} {zi:Int} {m:Nat} {ix:Expr} {sp:Pos} (ho:PE X o (dPJ X.K τ i j k pt)) (hx:PE X ix (dE X.K false τ (.d (.int zi)))) (he:PE X e (dEG X.K τ i j k x)) (hi:τ[i]?=some (.n t)) (hp:bz (k :: pt) t=some (.l (ds.map .d))) (hj:ixN ds.length zi=some m)
   (hs:swapsWithSole [.Subscript o ix sp] e pos.line X.env=pure false:=by rfl) (hw:swappedStores [.Subscript o ix sp] e X.env=pure none:=by rfl) (h1:(assignEach [.Subscript o ix sp] X.env).map (·.2)=[assign (.Subscript o ix sp) X.env]:=by rfl)
   (ha:∀ v,assign (.Subscript o ix sp) X.env v=(do
     let ov <- holding [v] (eval o X.env)
     let iv <- holding [v,ov] (eval ix X.env)
     standAt sp
     holding [v,ov,iv] (setItem ov iv v)
     release [v,ov,iv] []):=by intro _; rfl) :
   PS X (.Assign [.Subscript o ix sp] e pos) (dSL X.K τ i j k (τ.set i (.n (bw (k :: pt) t (.l ((ds.set m x).map .d)))))):=
 psW (fH he (gN ho hx set_list ha) hs hw h1) λD σ H ⟨A,H₀,B,S,P,fin⟩=>⟨A,H₀,B,S,P,λv H1 e1 d1=>by
   refine ⟨A,H₀,B,S.mono e1,P.mono e1,λu w H2 eu e2 pv=>aH ((S.mono e1).mono e2) λy H3 e3 d3=>?_⟩
   have S3:=((S.mono e1).mono e2).mono e3
   have P3:=((P.mono e1).mono e2).mono e3
   obtain ⟨u',l,vs,bs0,eu',pv',hH,r0,nd0,hal,hown,put⟩:=S3.putN hi hp
   rw [eu] at eu'
   cases eu'
   obtain rfl:=(pv.mono e3).det pv'
   cases d3
   obtain ⟨dl,rfl⟩:=cS r0
   refine ⟨l,vs,zi,m,rfl,rfl,hH,by rw [dl.length]; exact hj,?_⟩
   have sm:aj (hd H3 (own A B)) (hd (upd H3 l (.lst (vs.set m v))) λb=>own A B b\/b ∈ ([]:List Addr)):=λb o z=>by
     obtain ⟨z1,z2⟩:=ao.mp z
     exact ao.mpr ⟨(λy=>y.elim z1 λy=>(nomatch y)),by rw [av (λy:b=l=>z1 (by rw [y]; exact hal))]; exact z2⟩
   obtain ⟨B',S'⟩:=put (H1:=H3) (vs':=vs.set m v) (bs1:=[]) (xs':=(ds.set m x).map .d) (aj.refl _) Hc (λ_ z=>nomatch z) (iQ ((fY m dl (d1.mono (ay (e2.trans e3) λ_ z=>z))).mono sm))
   obtain ⟨r,rs,v',f1,f2,f3,f4⟩:=P3
   rw [f1] at eu
   cases eu
   have ne:=S3.below hi hp f1 (pv.mono e3)
   exact fin B' _ _ S' ⟨r,rs,v',f1,by rw [av (GG ne)]; exact f2,f3,f4⟩ rfl⟩
end
end Hy
namespace Ev
open PySem PySem.Spec PyProof.Rows L2
section
variable {X:Cx} {o:Expr} {apos cpos:Pos} {td:TE}
noncomputable def DW (td:TE):TE:=λσ H Q=>td σ H λx H1=>∃ z:Int,x=.int z/\Q (.int ((Hd z:Nat):Int)) H1
theorem yC (ho:PE X o td) (hbase:attributeBase o "bit_length" X.env (eval o X.env)=eval o X.env) (hline:(apos.endLine == cpos.line)=true):PE X (.Call (.Attribute o "bit_length" apos) [] [] cpos) (DW td):=by
 intro pins s σ H Q I h
 refine wpAny_Call_method0_late hbase hline (thn (ho pins s σ H _ I h) λv s1 ⟨x,H1,I1,r1,z,ex,q1⟩=>?_)
 subst ex
 obtain ⟨t,rfl⟩:=r1
 refine ⟨"int",_,PySem.F.plainAttrs_int,JX,PySem.F.type_int_bit_length,typeIs_int _ _ _,(λ_ e=>nomatch e),method0_gives JX PySem.F.entry_int_bit_length (typeIs_int _ _ _) (PySem.F.args_int_bit_length_1 _) (PySem.AutoIntG2.int_bit_length_int_0 z t) ?_⟩
 exact ⟨.int _,H1,I1.tok _,⟨_,rfl⟩,q1⟩
end
end Ev
namespace Hy
open PySem PySem.Spec PyProof.Rows L2
open Ev (D Den ar)
theorem Cw {X:Cx} {C:Bool} {τ:List Sl} {o:Expr} {apos cpos:Pos} {z:Int} (ho:PE X o (dE X.K C τ (.d (.int z)))) (hbase:attributeBase o "bit_length" X.env (eval o X.env)=eval o X.env:=by rfl) (hline:(apos.endLine == cpos.line)=true:=by rfl):PE X (.Call (.Attribute o "bit_length" apos) [] [] cpos) (dE X.K C τ (.d (.int ((Hd z:Nat):Int)))):=
 peW (Ev.yC ho hbase hline) λσ H Q q=>by
   obtain ⟨A,H₀,B,S,kk⟩:=cJ q
   refine aH S λv H1 e1 d1=>?_
   cases d1
   exact ⟨z,rfl,kk _ _ e1 .int⟩
end Hy
namespace Ev
open PySem PySem.Spec PyProof.Rows L2
section
variable {prog:Program} {w:World} {A:Around} {E:Value->Shared->Prop} {s:Shared} {d it:Addr} {o:Obj} {es:Array DictEntry} {ep i:Nat}
theorem tE {Q:Value->Shared->Prop} (hd:(d == sysModules)=false) (ho:s.heap.get? d=some o) (hx:o.ExactDict) (hdat:o.data=.dict es ep)
   (hQ:Q (.ref s.heap.objs.size) { s with heap:=s.heap.push { cls:=.type "dict_keyiterator",data:=.fields #[.ref d,.int 0 0,.int es.size 0,.int ep 0] } }):wpAny (model prog w) A (pyIter (.ref d)) Q E s:=by
 have hT:s.TypeIs (.ref d) "dict":=⟨o,ho,hx.1⟩
 refine wpAny_pyIter_slot hT Kx (wpAny_call_entry Kx hT PySem.F.entry_dict_iter ?_ (PySem.F.args_dict_iter_1 _))
 unfold Builtin.«dict.__iter__»
 refine wpAny_bind ?_
 unfold Builtin.Dict.dictSlotNone
 refine wpAny_bind (wpAny_notOrdered_dict hT (wpAny_pure ?_))
 show wpAny _ _ (Builtin.Dict.showsAll d >>= _) _ _ s
 unfold Builtin.Dict.showsAll
 rw [if_neg (by rw [hd]; exact Fp)]
 refine wpAny_bind (wpAny_pure (wpAny_bind (wpAny_dictEntries ho hdat (wpAny_bind (wpAny_dictEpoch ho hdat ?_)))))
 refine wpAny_bind (wpAny_newObj_type (wpAny_pure ⟨_,rfl,"dict_keyiterator",_,⟨_,FA _ rfl,rfl⟩,PySem.F.slot_dict_keyiterator_next.lookup,?_⟩))
 simpa [rawInt] using hQ
theorem wX:Builtin.Dict_items.ownsTuple "dict_keyiterator" = false:=by decide
theorem t6 {Q:Option Value->Shared->Prop} (hit:s.heap.IsKeyIter it d i es.size ep) (ho:s.heap.get? d=some o) (hdat:o.data=.dict es ep) (hlt:i < es.size)
   (hQ:∀ h',h'.IsKeyIter it d (i + 1) es.size ep->IA it s.heap h'->Q (some es[i].key) { s with heap:=h' }):wpAny (model prog w) A (pyNext (.ref it)) Q E s:=by
 obtain ⟨oi,hoi,hc,hdi⟩:=id hit
 unfold pyNext
 refine wpAny_bind (wpAny_attempt (wpAny_callSpecial?_slot (name:=J3 "__next__") hit.typeIs GZ (wpAny_call_entry GZ hit.typeIs Jv ?_ (Jm _))))
 refine wpAny_bind (wpAny_pure (wpAny_bind (wpAny_bind ?_)))
 first | refine wpAny_bind (wpAny_typeNameOfWhole_keyiter hit.typeIs (wpAny_pure ?_)) | refine wpAny_bind (wpAny_typeNameOf_keyiter hit.typeIs (wpAny_pure ?_))
 refine wpAny_bind (wpAny_fieldsOf hoi hdi ?_)
 simp only [wX,Ha,if_false]
 show wpAny _ _ (if (FV d == GW)=true then _ else _) _ _ s
 rw [if_neg (show ¬ ((FV d == GW)=true) from Fp)]
 refine wpAny_bind (wpAny_pure (wpAny_bind (wpAny_dictEntries ho hdat ?_)))
 rw [if_neg (by simp)]
 refine wpAny_bind (wpAny_pure (wpAny_bind (wpAny_dictEpoch ho hdat ?_)))
 rw [if_neg (by simp)]
 refine wpAny_pure ?_
 simp only [show ¬ ((i:Int) < 0) from by omega,if_false,Fq,Hz hlt]
 refine wpAny_bind ?_
 first | refine wpAny_bind (wpAny_typeNameOfWhole_keyiter hit.typeIs (wpAny_pure ?_)) | refine wpAny_bind (wpAny_typeNameOf_keyiter hit.typeIs (wpAny_pure ?_))
 refine wpAny_bind (wpAny_isOneOf_keyiter hit.typeIs ?_)
 show wpAny _ _ (setField (.ref it) 1 (rawInt ((i:Int) + 1)) >>= _) _ _ s
 refine wpAny_bind (wpAny_setField hoi hdi (by simp) ?_)
 have hit':(s.heap.update it (JR (·.setIfInBounds 1 (rawInt ((i:Int) + 1))))).IsKeyIter it d (i + 1) es.size ep:=
   ⟨_,Jl _ hoi (Obj.isFreed_of_fields (Obj.data_mapFields hdi _)),(Obj.cls_mapFields ..).trans hc,by rw [Obj.data_mapFields hdi]; simp [rawInt]⟩
 refine wpAny_bind (wpAny_holding ?_)
 refine wpAny_bind (wpAny_isOneOf_keyiter (s:={ s with heap:=s.heap.update it (JR (·.setIfInBounds 1 (rawInt ((i:Int) + 1)))) }) hit'.typeIs ?_)
 show wpAny _ _ (pure es[i].key) _ _ _
 exact wpAny_pure (wpAny_pure ⟨_,rfl,wpAny_pure (hQ _ hit' (Kd ..))⟩)
theorem yr {Q:Option Value->Shared->Prop} (hh:A.handled=none) (hit:s.heap.IsKeyIter it d i es.size ep) (ho:s.heap.get? d=some o) (hdat:o.data=.dict es ep) (hge:es.size<=i)
   (hQ:∀ h',Heap.ExtBut it s.heap h'->Q none { s with heap:=h' }):wpAny (model prog w) A (pyNext (.ref it)) Q E s:=by
 obtain ⟨oi,hoi,hc,hdi⟩:=id hit
 unfold pyNext
 refine wpAny_bind (wpAny_attempt (wpAny_callSpecial?_slot (name:=J3 "__next__") hit.typeIs GZ (wpAny_call_entry GZ hit.typeIs Jv ?_ (Jm _))))
 refine wpAny_bind (wpAny_pure (wpAny_bind (wpAny_bind ?_)))
 first | refine wpAny_bind (wpAny_typeNameOfWhole_keyiter hit.typeIs (wpAny_pure ?_)) | refine wpAny_bind (wpAny_typeNameOf_keyiter hit.typeIs (wpAny_pure ?_))
 refine wpAny_bind (wpAny_fieldsOf hoi hdi ?_)
 simp only [wX,Ha,if_false]
 show wpAny _ _ (if (FV d == GW)=true then _ else _) _ _ s
 rw [if_neg (show ¬ ((FV d == GW)=true) from Fp)]
 refine wpAny_bind (wpAny_pure (wpAny_bind (wpAny_dictEntries ho hdat ?_)))
 rw [if_neg (by simp)]
 refine wpAny_bind (wpAny_pure (wpAny_bind (wpAny_dictEpoch ho hdat ?_)))
 rw [if_neg (by simp)]
 refine wpAny_pure ?_
 simp only [show ¬ ((i:Int) < 0) from by omega,if_false,Fq,Array.getElem?_eq_none hge]
 refine wpAny_bind ?_
 first | refine wpAny_bind (wpAny_typeNameOfWhole_keyiter hit.typeIs (wpAny_pure ?_)) | refine wpAny_bind (wpAny_typeNameOf_keyiter hit.typeIs (wpAny_pure ?_))
 show wpAny _ _ (setField (.ref it) 0 .none >>= _) _ _ s
 refine wpAny_bind (wpAny_setField hoi hdi (by simp) ?_)
 show wpAny _ _ (newExc (.type "StopIteration") [] >>= _) _ _ _
 refine wpAny_bind ?_
 simp only [newExc,newTuple]
 refine wpAny_bind (wpAny_newObj_type ?_ (by size_fits))
 refine wpAny_bind (m:=firstArgMember _ _) (wpAny_of_eq (a:=GW) (by first | rfl | (simp only [firstArgMember]; rfl)) ?_)
 refine wpAny_newObj_type ?_ (by size_fits)
 simp only [raiseNew]
 refine wpAny_bind (wpAny_handled ?_)
 rw [show A.in1.handled=none from hh]
 refine wpAny_bind (wpAny_pure (wpAny_throw ?_))
 refine wpAny_bind (wpAny_isInstance (T:="StopIteration") (b:=true) ⟨_,FA _ rfl,rfl⟩ isSubtype_stop ?_)
 exact wpAny_pure (hQ _ (((Kd ..).extBut.push _).push _))
end
section
variable {K:Type} [DecidableEq K] {a:KD K} {hd:a.dep<=7} {X:Cx} {pins:List (Addr × Obj)} {σ:L2.St} {H:Hp} {s:Shared} {d:Addr} {xs:NEs K} {ob:Obj}
theorem xr (I:Inv X pins σ H s) (h:H d=some (.frz ob (dNk a hd X.prog X.w d xs))):(d == sysModules)=false/\∃ es ep,s.heap.get? d=some ob/\ob.ExactDict/\ob.data=.dict es ep/\es.toList=xs.map (entryOfKey (kd a hd X.prog X.w))/\(xs.map (·.1)).Nodup:=by
 obtain ⟨e,⟨h0,o,es,ep,h1,h2⟩,_⟩:=(show bo X.prog X.w H s.heap d (.frz ob (dNk a hd X.prog X.w d xs)) from I.hok d _ h)
 rw [e] at h1
 cases h1
 exact ⟨h0,es,ep,e,h2⟩
noncomputable def Itw (a:KD K) (hd:a.dep<=7) (P:Program) (w:World) (d:Addr) (ob:Obj) (xs:NEs K):L2.It:=
 ⟨λi H=>i < xs.length/\H d=some (.frz ob (dNk a hd P w d xs)),λi H x H'=>H'=H/\∃ p,xs[i]?=some p/\x=.ref p.2.1,λi H=>xs.length<=i/\H d=some (.frz ob (dNk a hd P w d xs))⟩
theorem zK {P:Program} {w:World} {F:Fb} {tg:Expr} (it:Addr) (es:Array DictEntry) (ep:Nat) (hdat:ob.data=.dict es ep) :
   Turn P w F false tg (Itw a hd P w d ob xs) [it] it (λi h=>i<=xs.length/\h.IsKeyIter it d i xs.length ep) where
 mem:=by simp
 obj:=λi h st b hb=>by
   have e:b=it:=by simpa using hb
   subst e
   obtain ⟨o,e,c,d⟩:=st.2
   exact ⟨o,e,λv z=>by rw [d] at z; cases z⟩
 keep:=λi h h' st k=>⟨st.1,st.2.at λo e=>k it (by simp) o e⟩
 item:=by
   intro X hP hw hK hc i pins s σ H E I hf st hg
   subst hP hw hK
   obtain ⟨hi,ha⟩:=hg
   obtain ⟨f0,f1,f2,f3,f4,f5⟩:=hf it (by simp)
   obtain ⟨_,es',ep',g1,_,g3,g4,_⟩:=xr I ha
   rw [hdat] at g3
   injection g3 with z1 z2
   subst z1 z2
   have hl:es.size=xs.length:=by rw [<- Gw,g4,E9]
   have st2:=st.2
   rw [<- hl] at st2
   have hie:i < es.size:=by omega
   have hk:es[i].key=.ref (xs[i]).2.1:=by
     have e:es.toList[i]?=some (entryOfKey (kd a hd X.prog X.w) xs[i]):=by rw [g4,FL,Fe hi]; rfl
     rw [Jk,Hz hie] at e
     rw [FX e]
     rfl
   refine t6 st2 g1 hdat hie λh' st' sb=>?_
   have I1:Inv X pins σ H { s with heap:=h' }:=I.turned (t':=s.toks) (λb o hb e=>(sb.2 b hb).trans e) f0 f1 f3 f4 f5
   obtain ⟨o',e,c,dd⟩:=id st'
   rw [hk]
   refine ⟨_,rfl,jE (s:={ s with heap:=h' }) e c dd (by decide) ⟨.ref (xs[i]).2.1,H,I1,rfl,⟨rfl,_,Fe hi,rfl⟩,⟨hi,by rw [<- hl]; exact st'⟩,λb hb=>(hf b hb).1⟩⟩
 done:=by
   intro X hP hw hK hc i pins s σ H E I hf st hg
   subst hP hw hK
   obtain ⟨hi,ha⟩:=hg
   obtain ⟨f0,f1,f2,f3,f4,f5⟩:=hf it (by simp)
   obtain ⟨_,es',ep',g1,_,g3,g4,_⟩:=xr I ha
   rw [hdat] at g3
   injection g3 with z1 z2
   subst z1 z2
   have hl:es.size=xs.length:=by rw [<- Gw,g4,E9]
   have st2:=st.2
   rw [<- hl] at st2
   exact yr (I.ok.hd hc.calm) st2 g1 hdat (by omega) λh' eb=>⟨rfl,I.turned (t':=s.toks) (λb o hb e=>eb b o hb e) f0 f1 f3 f4 f5⟩
 self:=λ_ _ _ _ _ st h=>wpAny_pyIter_keyiter st.2 h
end
section
variable {K:Type} [DecidableEq K] {a:KD K} {hd:a.dep<=7} {X:Cx} {tg l o i:Expr} {tl td ty:TE} {pos:Pos}
noncomputable def Bp (a:KD K) (hd:a.dep<=7) (P:Program) (w:World) (tl:TE):TI:=λσ H R=>tl σ H λx H1=>∃ d ob xs,x=.ref d/\H1 d=some (.frz ob (dNk a hd P w d xs))/\R (Itw a hd P w d ob xs) H1
theorem oV (hc:X.calm=true) (hl:PE X l tl):PI X tg l (Bp a hd X.prog X.w tl):=by
 intro pins s σ H R I h
 refine thn (hl pins s σ H _ I h) λu s1 ⟨x,H1,I1,r1,d,ob,xs,ex,ha,q⟩=>?_
 subst ex
 cases r1
 obtain ⟨h0,es,ep,g1,g2,g3,g4,_⟩:=xr I1 ha
 have hl:es.size=xs.length:=by rw [<- Gw,g4,E9]
 refine tE h0 g1 g2 g3 ?_
 refine ⟨false,s1.heap.objs.size,[s1.heap.objs.size],_,_,H1,rfl,I1.kept (t':=s1.toks) λb o e=>Fg _ e,.inl hc,zK (xs:=xs) _ es ep g3,⟨FR _,?_⟩,λb hb=>?_,q⟩
 · rw [<- hl]
   exact ⟨_,FA _ rfl,rfl,rfl⟩
 · have e:b=s1.heap.objs.size:=by simpa using hb
   subst e
   exact I1.lX (Fc _) (I1.hok.fresh (Fc _))
noncomputable def Dp (a:KD K) (hd:a.dep<=7) (P:Program) (w:World) (F:Fb) (td ty:TE):TE:=λσ H Q=>td σ H λx H1=>ty σ H1 λy H2=>∃ d ob b k xs p v,x=.ref d/\y=.ref b/\H2 d=some (.frz ob (dNk a hd P w d xs))/\(∀ x ∈ xs,Den F H2 (.ref x.2.1) (a.toD x.1))/\Den F H2 (.ref b) (a.toD k)/\atKey xs k=some p/\RelV v p.2/\Q v H2
theorem sJ (hu:X.A.units + 16 < cLine) (ho:PE X o td) (hi:PE X i ty) (hs:lQ i):PE X (.Subscript o i pos) (Dp a hd X.prog X.w X.K td ty):=by
 intro pins s σ H Q I h
 refine oe PySem.F.slot_dict_getitem.lookup hs (thn (ho pins s σ H _ I h) λu s1 ⟨x,H1,I1,rx,q1⟩=>thn (hi pins s1 σ H1 _ I1 q1) λiv s2 ⟨y,H2,I2,ry,d,ob,b,k,xs,p,v,ex,ey,ha,hk,g,hp,rv,q2⟩=>?_)
 subst ex ey
 obtain rfl:u=FV d:=rx
 obtain rfl:iv=FV b:=ry
 obtain ⟨_,es,ep,g1,g2,g3,g4,g5⟩:=xr I2 ha
 have dd:s2.heap.DictOfH (kd a hd X.prog X.w) d xs:=⟨ob,es,ep,g1,g2,g3,g4,λx hx=>key_is I2 (hk x hx),g5⟩
 exact ⟨dd.typeIs,wpAny_getItem_heap (show X.A.units + 1 + 8 < cLine by omega) (key_is I2 g) dd hp ⟨v,H2,I2.tok _,rv,q2⟩⟩
end
end Ev
namespace Hy
open PySem PySem.Spec PyProof.Rows L2
open Ev (D Den ar KD NEs dNk gn Bx ak xr Itw oV sJ)
section
variable {K:Type} [DecidableEq K] {a:KD K} {hd:a.dep<=7} {X:Cx} {C:Bool} {τ:List Sl} {x y:D} {b e f o ix tg:Expr} {pos p q apos cpos:Pos} {k:Nat} {N:Po} {rest:List Stmt} {m:List (K × D)} {key:K}
noncomputable def bxW (a:KD K) (hd:a.dep<=7) (P:Program) (w:World) (m:List (K × D)):Bx where
 p:=λF H d=>∃ ob xs,H d=some (.frz ob (dNk a hd P w d xs))/\EnK a F H xs m
 mono:=λe ⟨ob,xs,h1,h2⟩=>⟨ob,xs,e _ _ h1,h2.mono e⟩
 isd:=λ{_ _ d} ⟨ob,xs,h1,_⟩=>⟨_,h1,λP w H' h z=>let ⟨_,o,_,_,z1,z2,_⟩:=z.2.1; ⟨o,z1,z2.1⟩⟩
noncomputable def exW (a:KD K) (hd:a.dep<=7) (P:Program) (w:World) (ob:Obj) (m:List (K × D)):Ex where
 p:=λF G o p=>∃ xs,o=.frz ob (dNk a hd P w p xs)/\EnK a F G xs m
 mono:=λe ⟨xs,h1,h2⟩=>⟨xs,h1,h2.mono e⟩
 ext:=λ⟨xs,h1,_⟩=>.inr (.inl ⟨_,_,h1⟩)
theorem Sta.fzW {F:Fb} {P:Program} {w:World} {A:Addr->Prop} {H₀ H:Hp} {B:Nat->List Addr} {σ:L2.St} {i:Nat} {ob:Obj} (S:Sta F A H₀ τ B σ H) (hi:τ[i]?=some (.x (exW a hd P w ob m))):Sta F A H₀ (τ.set i (.d (.box (bxW a hd P w m)))) (upB B i []) σ H:=
 S.less (λ_ z=>nomatch z) λG g hv=>by
   obtain ⟨d,o,h1,h2,h3,xs,h4,h5⟩:=S.sl i _ hi
   subst h4
   exact ⟨rfl,_,h2,.box ⟨ob,xs,hv d _ (by rw [h1]; exact Ff.mpr rfl) (λz=>nomatch z) h3,h5.mono g⟩⟩
theorem AJ (i:Nat) (h:PSs X rest (dS X.K (τ.set i (.d (.box (bxW a hd X.prog X.w m)))) N)) (hi:τ[i]?=some (.x (exK a hd X.prog X.w m)):=by rfl):PSs X rest (dS X.K τ N):=by
 intro pins s σ H D I ⟨A,H₀,B,S,Me⟩
 obtain ⟨d,xs,h1,h2,h3,h4⟩:=S.dct hi
 obtain ⟨⟨z0,o,es,ep,z1,z2⟩,z3,z4⟩:=(show bo X.prog X.w H s.heap d (dNk a hd X.prog X.w d xs) from I.hok d _ h3)
 have I2:Inv X pins σ (upd H d (.frz o (dNk a hd X.prog X.w d xs))) s:=e7 (t':=s.toks) (h':=s.heap) I (by rw [h3]; exact Hf) (.refl _ _) ⟨o,z1⟩ ⟨z1,⟨z0,o,es,ep,z1,z2⟩,z3,z4⟩
 have hl:=(Fn.mp hi).1
 have S2:=S.zW (E':=exW a hd X.prog X.w o m) hi h2 ⟨xs,rfl,h4⟩
 have S3:=S2.fzW (ob:=o) (m:=m) (FP hl)
 rw [List.set_set] at S3
 exact h pins s σ _ D I2 ⟨A,H₀,_,S3,Me⟩
theorem wo (hu:X.A.units + 16 < cLine) (hb:PE X b (dE X.K C τ (.d (.box (bxW a hd X.prog X.w m))))) (hk:PE X ix (dE X.K C τ (.d (a.toD key)))) (hx:getM m key=some x) (hr:∀ H v,Den X.K H v (a.toD key)->∃ b,v=.ref b) (hs:lQ ix):PE X (.Subscript b ix pos) (dE X.K C τ (.d x)):=
 peW (sJ (a:=a) (hd:=hd) hu hb hk hs) λσ H Q q=>by
   obtain ⟨A,H₀,B,S,kk⟩:=cJ q
   refine aH S λv H1 e1 d1=>aH (S.mono e1) λy H2 e2 dy=>?_
   obtain ⟨b',rfl⟩:=hr _ _ dy
   cases d1.mono (ay e2 λ_ z=>z) with
   | box h=>
     obtain ⟨ob,xs,g3,g4⟩:=h
     have:=g4.at key
     rw [hx] at this
     obtain ⟨pp,v,h1,h2,h3⟩:=this
     exact ⟨_,ob,b',key,xs,pp,v,rfl,rfl,aI _ _ g3,λz hz=>(g4.key z hz).mono aI,dy.mono aI,h1,h2,kk v H2 (e1.trans e2) h3⟩
theorem EnK.x5 {F:Fb} {G:Hp}:∀ {xs:NEs K} {m:List (K × D)},EnK a F G xs m->∀ i (h:i < m.length),∃ p,xs[i]?=some p/\p.1=(m[i]).1
 | _,_,.nil,i,h=>absurd h (by simp)
 | _,_,.cons ..,0,_=>⟨_,rfl,rfl⟩
 | _,_,.cons _ _ _ r,i + 1,h=>by
   obtain ⟨p,h1,h2⟩:=EnK.x5 r i (by simpa using h)
   exact ⟨p,h1,h2⟩
theorem tX (h:PE X e (dE X.K true τ (.d (.box (bxW a hd X.prog X.w m))))) (hc:X.calm=true:=by first | rfl | assumption):PI X tg e (dI X.K τ (m.map λp=>a.toD p.1)):=piW (oV (a:=a) (hd:=hd) hc h) λσ H R ⟨A,H₀,B,S,k⟩=>aH S λv H1 e1 d1=>by
 cases d1 with
 | box h=>
   obtain ⟨ob,xs,g,en⟩:=h
   have ln:=en.length
   refine ⟨_,ob,xs,rfl,aI _ _ g,k _ H1 e1 λH2 sg=>⟨λi hi=>⟨by rw [ln]; simpa using hi,sg _ _ g⟩,λi hi=>⟨⟨by rw [ln]; simpa using hi,sg _ _ g⟩,λx H' ⟨eH,p,hp,ex⟩=>?_⟩⟩⟩
   subst eH ex
   refine ⟨aj.refl _,λM hM sM=>?_⟩
   have hi':i < m.length:=by simpa using hi
   obtain ⟨p',hp',ek⟩:=en.x5 i hi'
   rw [hp] at hp'
   cases hp'
   rw [Gu,<- ek]
   exact (en.key p (Gn hp)).mono sM
end
end Hy
namespace Ev
open PySem PySem.Spec PyProof.Rows L2 PySem.W
section
variable {prog:Program} {w:World} {d:Addr} {o:Obj} {es:Array DictEntry} {ep:Nat}
theorem BN (h0:(d == sysModules)=false) (hx:o.ExactDict) (hdat:o.data=.dict es ep):KdlSrc prog w "dict" d d es.size (λi v=>∃ h:i < es.size,v=es[i].key) (λh=>h.get? d=some o) where
 type:=λs h=>⟨o,h,hx.1⟩
 there:=λh e=>⟨Fu e,Fu e⟩
 keep:=λh h' e k=>k d (.inl rfl) o e
 notList:=by decide
 notTuple:=by decide
 hint:=λA E s Q e q=>kdl_hint_dict ⟨o,e,hx.1⟩ q
 iter:=λA s hh e=>by
   have ne:d ≠ s.heap.objs.size:=FT (Fu e)
   refine ⟨_,λi h=>h.get? d=some o/\h.IsKeyIter s.heap.objs.size d i es.size ep,λE Q q=>tE h0 e hx hdat q,?_,Fg _ e,⟨_,FA _ rfl,rfl,rfl⟩⟩
   exact {
     sub:=λb hb=>by rw [Ff.mp hb]; exact Fi ..
     frame:=λi h h' st k=>⟨k d (by simp) o st.1,st.2.at λo e=>k _ (Fi ..) o e⟩
     item:=λi s' Q E hi st hQ=>t6 st.2 st.1 hdat hi λh' st' sb=>hQ _ h' s'.toks ⟨hi,rfl⟩ ⟨(sb.2 d ne).trans st.1,st'⟩ λb o' hb e'=>(sb.2 b λz=>hb (by rw [z]; exact Ff.mpr rfl)).trans e'
     done:=λs' Q E st hQ=>yr hh st.2 st.1 hdat (Fc _) λh' eb=>hQ h' s'.toks λb o' hb e'=>eb b o' (λz=>hb (by rw [z]; exact Ff.mpr rfl)) e'
     self:=λi s' Q E st h=>wpAny_pyIter_keyiter st.2 h }
end
section
variable {K:Type} [DecidableEq K] {a:KD K} {hd:a.dep<=7} {X:Cx}
theorem mq:∀ xs:NEs K,Vals (xs.map λx=>V.ref x.2.1) (xs.map λx=>FV x.2.1)
 | []=>.nil
 | _ :: xs=>.cons rfl (mq xs)
theorem lC (hc:X.calm=true):dg X (.type "list") (λvs H Q=>∃ d xs,vs=[.ref d]/\H d=some (dNk a hd X.prog X.w d xs)/\xs.length<=sizeLine/\∀ l,H l=none->Q (.ref l) (upd H l (.lst (xs.map λx=>.ref x.2.1)))):=by
 intro pins s σ H vs us Q I r h
 obtain ⟨d,xs,rfl,ha,hz,q⟩:=h
 obtain ⟨u,rfl,rx⟩:=vals1 r
 cases rx
 obtain ⟨⟨h0,o,es,ep,h1,h2,h3,h4,h5⟩,_⟩:=(show bo X.prog X.w H s.heap d (dNk a hd X.prog X.w d xs) from I.hok d _ ha)
 have hl:es.size=xs.length:=by rw [<- Gw,h4,E9]
 refine kdl_call (BN h0 h2 h3) (I.ok.hd hc) h1 (by omega) λh' tk acc' c' kp e it=>?_
 have ea:acc'.toList=xs.map λx=>FV x.2.1:=by
   refine G8 (by rw [Gw,it.1,E9,hl]) λi z1 z2=>?_
   rw [Gw] at z1
   obtain ⟨g,e⟩:=it.2 i acc'[i] (Hz z1)
   rw [Array.getElem_toList,e]
   have hi:i < xs.length:=by omega
   have e:es.toList[i]?=some (entryOfKey (kd a hd X.prog X.w) xs[i]):=by rw [h4,FL,Fe hi]; rfl
   rw [Jk,Hz g] at e
   rw [FX e,Gu]
   rfl
 have e':h'.get? s.heap.objs.size=some { cls:=.type "list",dict:=none,data:=.seq (xs.map λx=>FV x.2.1).toArray c',slots:=#[] }:=by rw [<- ea,Array.toArray_toList]; exact e
 exact ⟨.ref s.heap.objs.size,_,I.laid (t':=tk) kp (Fc _) (show bo X.prog X.w _ h' _ (.lst (xs.map λx=>.ref x.2.1)) from ⟨by rw [E9]; exact hz,_,c',mq xs,e'⟩),rfl,q _ (I.hok.fresh (Fc _))⟩
end
end Ev
namespace Hy
open PySem PySem.Spec PyProof.Rows L2
open Ev (D Den ar KD NEs dNk gn Bx ak lC)
section
variable {K:Type} [DecidableEq K] {a:KD K} {hd:a.dep<=7} {X:Cx} {C:Bool} {τ:List Sl} {e:Expr} {pos p q:Pos} {k:Nat} {m:List (K × D)}
theorem EnK.refs {F:Fb} {G:Hp}:∀ {xs:NEs K} {m:List (K × D)},EnK a F G xs m->ar F G (xs.map λx=>V.ref x.2.1) (m.map λp=>a.toD p.1)
 | _,_,.nil=>.nil
 | _,_,.cons h _ _ r=>.cons h r.refs
theorem zm (i:Nat) {n:Str} (B:Bk X k) (hi:τ[i]?=some (.x (exK a hd X.prog X.w m))) (hl:m.length<=sizeLine) (hN:X.N[i]?=some n:=by rfl)
   (hv:Vis X.env.scope n:=by first | exact GO rfl | exact F5 (GO rfl) | exact F5 (F5 rfl)) (hd1:(n == ("__debug__" : Str))=false:=by decide) (hcd:(n == ("__classdict__" : Str))=false:=by decide)
   (hg:Gl X "list":=by rfl) (he:starEach [.Name n q] X.env=(false,eval (.Name n q) X.env) :: starEach [] X.env:=by rfl) (hpl:(backTo pos (starEach [] X.env)).any (·.1)=false:=by rfl):PE X (.Call (.Name "list" p) [.Name n q] [] pos) (dE X.K true τ (.o (m.map λp=>a.toD p.1))):=
 peW (mM (lC (a:=a) (hd:=hd) B.calm) hg (B.blt _ (by decide)) (by decide +kernel) (bO (bx (i:=i) hN hv hd1 hcd) dC he) (by decide) (by decide) he hpl) λσ H Q ⟨A,H₀,B,S,kk⟩=>by
   obtain ⟨d,xs,e1,e2,e3,e4⟩:=S.dct hi
   refine ⟨_,slot_of e1,d,xs,rfl,e3,by rw [e4.length]; exact hl,λp hp=>?_⟩
   obtain ⟨z1,z2,z3⟩:=jh (K:=X.K) (M:=own A B) hp e4.refs
   exact kk _ _ [p] z1 z2 z3
end
end Hy
namespace Ev
open PySem PySem.Spec PyProof.Rows L2
noncomputable def Cc (a:Addr) (o:Obj) (kv:List (Int × Int)):L2.It:=
 ⟨λi H=>i < kv.length/\H a=some (.frz o (.dK (bG kv))),λi H x H'=>H'=H/\∃ p,kv[i]?=some p/\x=.int p.2,λi H=>kv.length<=i/\H a=some (.frz o (.dK (bG kv)))⟩
theorem AN:∀ {kv:List (Int × Int)} {vs:List (Key × Value)},KV (bG kv) vs->∀ i (hi:i < kv.length),∃ k v,vs[i]?=some (k,v)/\RelV (.int kv[i].2) v
 | [],_,_,i,hi=>absurd hi (by simp)
 | p :: kv,vs,r,i,hi=>by
   unfold KV bG at r
   rw [FJ] at r
   cases r with
   | cons h r=>
     cases i with
     | zero=>exact ⟨_,_,rfl,h.2⟩
     | succ i=>
       obtain ⟨k,v,h1,h2⟩:=AN (kv:=kv) (show KV (bG kv) _ from r) i (by simpa using hi)
       exact ⟨k,v,by simpa using h1,by simpa using h2⟩
theorem ve {P:Program} {w:World} {K:Fb} {tg:Expr} (a it:Addr) (o:Obj) (kv:List (Int × Int)) (es:Array DictEntry) (ep:Nat) (hd:o.data=.dict es ep) :
   Turn P w K false tg (Cc a o kv) [it] it (λi h=>i<=kv.length/\h.IsValIter it a i kv.length ep) where
 mem:=by simp
 obj:=λi h st b hb=>by
   have e:b=it:=by simpa using hb
   subst e
   obtain ⟨o,e,c,d⟩:=st.2
   exact ⟨o,e,λv z=>by rw [d] at z; cases z⟩
 keep:=λi h h' st k=>⟨st.1,st.2.at λo e=>k it (by simp) o e⟩
 item:=by
   intro X hP hw hK hc i pins s σ H E I hf st hg
   subst hP hw hK
   obtain ⟨hi,ha⟩:=hg
   obtain ⟨f0,f1,f2,f3,f4,f5⟩:=hf it (by simp)
   obtain ⟨vs,rel,dd⟩:=oD I ha hd
   have hl:kv.length=vs.length:=by rw [<- rel.length,bG,E9]
   have st2:=st.2
   rw [hl] at st2
   obtain ⟨k,v,hx,rv⟩:=AN rel i hi
   refine wpAny_pyNext_values_item st2 dd hx λh' st' sb=>?_
   have I1:Inv X pins σ H { s with heap:=h' }:=I.turned (t':=s.toks) (λb o hb e=>(sb.2 b hb).trans e) f0 f1 f3 f4 f5
   obtain ⟨o',e,c,d⟩:=id st'
   refine ⟨_,rfl,jE (s:={ s with heap:=h' }) e c d (by decide) ⟨.int kv[i].2,H,I1,rv,⟨rfl,_,Fe hi,rfl⟩,⟨hi,by rw [hl]; exact st'⟩,λb hb=>(hf b hb).1⟩⟩
 done:=by
   intro X hP hw hK hc i pins s σ H E I hf st hg
   subst hP hw hK
   obtain ⟨hi,ha⟩:=hg
   obtain ⟨f0,f1,f2,f3,f4,f5⟩:=hf it (by simp)
   obtain ⟨vs,rel,dd⟩:=oD I ha hd
   have hl:kv.length=vs.length:=by rw [<- rel.length,bG,E9]
   have st2:=st.2
   rw [hl] at st2
   exact wpAny_pyNext_values_end (I.ok.hd hc.calm) st2 dd (G9 (by omega)) λh' eb=>⟨rfl,I.turned (t':=s.toks) (λb o hb e=>eb b o hb e) f0 f1 f3 f4 f5⟩
 self:=λ_ _ _ _ _ st h=>wpAny_pyIter_valiter st.2 h
structure M0 (X:Cx) (o:Expr) (m:Str) (apos:Pos) (cpos:Pos):Prop where
 base:attributeBase o m X.env (eval o X.env)=eval o X.env
 few:((backTo cpos (starEach [] X.env)).all (λx=>!x.1) && (backToKw cpos (keywordEach [] X.env)).all (λx=>x.1.isSome)
   && decide (([]:List Expr).length + ([]:List Keyword).length + (if ([]:List Keyword).isEmpty then 0 else 1) < 30))=true
 line:(apos.endLine == cpos.line)=true
 trees:backTo cpos (starEach [] X.env)=[]
section
variable {X:Cx} {tg:Expr}
noncomputable def xh (tl:TE):TI:=λσ H R=>tl σ H λx H1=>∃ a o kv,x=.ref a/\H1 a=some (.frz o (.dK (bG kv)))/\R (Cc a o kv) H1
theorem qw {l:Expr} {tl:TE} {apos cpos:Pos} (hc:X.calm=true) (hl:PE X l tl) (m:M0 X l "values" apos cpos):PI X tg (.Call (.Attribute l "values" apos) [] [] cpos) (xh tl):=by
 intro pins s σ H R I h
 refine wpAny_Call_method m.base m.few m.line Kp Kg PySem.F.type_dict_values (thn (hl pins s σ H _ I h) λu s1 ⟨x,H1,I1,r1,a,o,kv,ex,ha,q⟩=>?_)
 subst ex
 obtain rfl:u=FV a:=r1
 obtain ⟨e,ok⟩:=(show bo X.prog X.w H1 s1.heap a (.frz o (.dK (bG kv))) from I1.hok a _ ha)
 obtain ⟨z,hd,vs,rel,o',es,ep,e',r⟩:=ok
 rw [e] at e'
 cases e'
 have dd:s1.heap.DictAt (bf X.prog X.w) a vs ep:=⟨o,es,e,r⟩
 refine ⟨dd.dictOf.typeIs,λc ec=>(by cases ec; exact ⟨o,e,r.1.2.1⟩),?_⟩
 rw [m.trees]
 refine HY rfl (PySem.evalArgs_none ?_)
 refine call_meetsIn Kg dd.dictOf.typeIs PySem.F.entry_dict_values (PySem.F.args_dict_values_1 _) (meets_dict_values (bf X.prog X.w) a hd) ⟨⟨vs,dd.dictOf⟩,?_⟩
 have I2:Inv X pins σ H1 { s1 with heap:=s1.heap.push { cls:=.type "dict_values",data:=.fields #[.ref a] } }:=I1.kept (t':=s1.toks) λb o e=>Fg _ e
 have hv:vs.length=kv.length:=by rw [<- rel.length,bG,E9]
 refine wpAny_pyIter_values (knd:=bf X.prog X.w) (kvs:=vs) (ep:=ep) ⟨_,FA _ rfl,rfl,rfl⟩ (dd.push _) ?_
 refine ⟨false,_,[(s1.heap.push { cls:=.type "dict_values",data:=.fields #[.ref a] }).objs.size],_,_,H1,rfl,I2.kept (t':=s1.toks) λb o e=>Fg _ e,.inl hc,ve a _ o kv es ep r.2.1,⟨FR _,?_⟩,λb hb=>?_,q⟩
 · rw [<- hv]
   exact ⟨_,FA _ rfl,rfl,rfl⟩
 · have e:b=(s1.heap.push { cls:=.type "dict_values",data:=.fields #[.ref a] }).objs.size:=by simpa using hb
   subst e
   exact I2.lX (Fc _) (I2.hok.fresh (Fc _))
end
end Ev
namespace Hy
open PySem PySem.Spec PyProof.Rows L2
open Ev (D Den ar Bx ak bG Cc xh qw M0)
section
variable {X:Cx} {C:Bool} {τ:List Sl} {e tg:Expr} {pos p apos cpos:Pos} {m:List (Int × Int)}
theorem zF (h:PE X e (dE X.K true τ (.d (.box (bxZ m))))) (hc:X.calm=true:=by first | rfl | assumption) (m0:M0 X e "values" apos cpos:=by exact ⟨rfl,rfl,rfl,rfl⟩):PI X tg (.Call (.Attribute e "values" apos) [] [] cpos) (dI X.K τ (m.map λp=>.int p.2)):=piW (qw hc h m0) λσ H R ⟨A,H₀,B,S,k⟩=>aH S λv H1 e1 d1=>by
 cases d1 with
 | box h=>
   obtain ⟨o,g⟩:=h
   refine ⟨_,o,m,rfl,aI _ _ g,k _ H1 e1 λH2 sg=>⟨λi hi=>⟨by simpa using hi,sg _ _ g⟩,λi hi=>⟨⟨by simpa using hi,sg _ _ g⟩,λx H' ⟨eH,p,hp,ex⟩=>?_⟩⟩⟩
   subst eH ex
   refine ⟨aj.refl _,λM _ _=>?_⟩
   have hi':i < m.length:=by simpa using hi
   rw [Fe hi'] at hp
   cases hp
   rw [Gu]
   exact .int
theorem DG (h:PE X e (dE X.K C τ (.x (exZ m)))):PE X e (dE X.K C τ (.d (.box (bxZ m)))):=by
 intro pins s σ H Q I q
 obtain ⟨A,H₀,B,S,kk⟩:=cJ q
 have vd:=S.vd (C:=C)
 refine thn (h pins s σ H (λv H'=>∃ d,v=.ref d/\aj H H'/\H d=none/\H' d=some (.dK (bG m))) I ⟨A,H₀,B,S,λv H' bs e hf ⟨d,o,h1,h2,h3,h4⟩=>?_⟩) λu s1 ⟨x,H1,I1,rx,d,ex,e,hn,h3⟩=>?_
 · cases h2
   cases (show o=_ from h4)
   subst h1
   exact ⟨d,rfl,e,(hf d (Ff.mpr rfl)).1,h3⟩
 · subst ex
   obtain ⟨z,hd0,vs,rel,dd⟩:=ug I1.hok h3
   obtain ⟨o,es,ep,e0,r⟩:=id dd
   have I2:Inv X pins σ (upd H1 d (.frz o (.dK (bG m)))) s1:=e7 (t':=s1.toks) (h':=s1.heap) I1 (by rw [h3]; exact Hf) (.refl _ _) ⟨o,e0⟩ ⟨e0,nG z hd0 rel dd⟩
   have un:¬ vw C A B d:=λz=>by
     obtain ⟨_,q⟩:=vd d z
     rw [hn] at q
     cases q
   refine ⟨.ref d,_,I2,rx,kk _ _ (λb o' hb=>?_) (.box ⟨o,ao.mpr ⟨un,aC⟩⟩)⟩
   rw [av (λz=>by rw [z,hn] at hb; cases hb)]
   exact e b o' hb
end
end Hy
namespace K39
open PySem PySem.Spec PyProof.Rows L2 Hy
noncomputable def top (i:Nat):Stmt:=PySem.Challenge.pw_signsmooth_k39_whole_gaining.main.body.getD i (.Pass ⟨0,0,0,0⟩)
theorem hE:aq ["_law_cell_here","_law_bases","_law_row","_law_base","_law_k","_law_mixed"] ["_law_cell_here","_law_bases"] (ah (top 52)):=⟨rfl,rfl,rfl,by decide +kernel,rfl,by decide +kernel,by decide +kernel⟩
theorem my:aq ["_law_cell_here","_law_parts"] ["_law_cell_here"] (ah (top 58)):=⟨rfl,rfl,rfl,by decide +kernel,rfl,by decide +kernel,by decide +kernel⟩
theorem uZ:aq ["_law_cell_here","_law_used"] ["_law_cell_here","_law_used"] (ah (top 53)):=⟨rfl,rfl,rfl,by decide +kernel,rfl,by decide +kernel,by decide +kernel⟩
theorem fo:aq ["_law_cell_here","_law_many","_law_wide","_law_most","_law_rows_here","_law_parts","_law_part","_law_k","_law_weight","_law_row","_law_here","_law_there"] ["_law_cell_here","_law_many","_law_wide"] (ah (top 68)):=⟨rfl,rfl,rfl,by decide +kernel,rfl,by decide +kernel,by decide +kernel⟩
theorem iC:aq ["_law_one","_law_other","_law_rest_here"] ["_law_one","_law_other"] (ah (top 54)):=⟨rfl,rfl,rfl,by decide +kernel,rfl,by decide +kernel,by decide +kernel⟩
theorem mX:aq ["_law_top","_law_bottom","_law_common"] ["_law_top","_law_bottom"] (ah (top 55)):=⟨rfl,rfl,rfl,by decide +kernel,rfl,by decide +kernel,by decide +kernel⟩
theorem jB:aq ["_law_kind","_law_part","_law_top"] ["_law_kind","_law_part"] (ah (top 56)):=⟨rfl,rfl,rfl,by decide +kernel,rfl,by decide +kernel,by decide +kernel⟩
theorem jZ:aq ["_law_cell_here","_law_many","_law_wide","_law_kind","_law_base","_law_parts"] ["_law_cell_here","_law_many","_law_wide","_law_kind"] (ah (top 57)):=⟨rfl,rfl,rfl,by decide +kernel,rfl,by decide +kernel,by decide +kernel⟩
theorem jW:aq ["_law_cell_here","_law_great","_law_parts","_law_many","_law_wide","_law_rest_here","_law_table_here","_law_i","_law_j","_law_number_here","_law_row"] ["_law_cell_here","_law_great"] (ah (top 71)):=⟨rfl,rfl,rfl,by decide +kernel,rfl,by decide +kernel,by decide +kernel⟩
theorem vg:aq ["_law_script","_law_k"] ["_law_script","_law_k"] (ah (top 51)):=⟨rfl,rfl,rfl,by decide +kernel,rfl,by decide +kernel,by decide +kernel⟩
theorem jA:aq ["_law_rows_here","_law_wide","_law_made_here","_law_i","_law_lines","_law_longer","_law_mask","_law_behind_it","_law_j","_law_key","_law_part"] ["_law_rows_here"] (ah (top 62)):=⟨rfl,rfl,rfl,by decide +kernel,rfl,by decide +kernel,by decide +kernel⟩
theorem fg:aq ["_law_rows_here","_law_least_here","_law_made_here","_law_lines","_law_worth"] ["_law_rows_here"] (ah (top 63)):=⟨rfl,rfl,rfl,by decide +kernel,rfl,by decide +kernel,by decide +kernel⟩
theorem iP:aq ["thing"] ["thing"] (ah (top 14)):=⟨rfl,rfl,rfl,by decide +kernel,rfl,by decide +kernel,by decide +kernel⟩
theorem pe:aq ["thing"] ["thing"] (ah (top 7)):=⟨rfl,rfl,rfl,by decide +kernel,rfl,by decide +kernel,by decide +kernel⟩
theorem di:aq ["one","other","greater","lesser","rest"] ["one","other"] (ah (top 9)):=⟨rfl,rfl,rfl,by decide +kernel,rfl,by decide +kernel,by decide +kernel⟩
theorem lB:aq ["thing"] ["thing"] (ah (top 8)):=⟨rfl,rfl,rfl,by decide +kernel,rfl,by decide +kernel,by decide +kernel⟩
theorem ur:aq ["thing"] ["thing"] (ah (top 15)):=⟨rfl,rfl,rfl,by decide +kernel,rfl,by decide +kernel,by decide +kernel⟩
theorem pf:aq ["thing"] ["thing"] (ah (top 16)):=⟨rfl,rfl,rfl,by decide +kernel,rfl,by decide +kernel,by decide +kernel⟩
theorem l6:aq ["thing"] ["thing"] (ah (top 17)):=⟨rfl,rfl,rfl,by decide +kernel,rfl,by decide +kernel,by decide +kernel⟩
theorem gw:aq ["many","size","found","turn","longer","choice","least"] ["many","size"] (ah (top 18)):=⟨rfl,rfl,rfl,by decide +kernel,rfl,by decide +kernel,by decide +kernel⟩
theorem dB:aq ["known","row","columns","total","k","part"] ["known","row","columns"] (ah (top 36)):=⟨rfl,rfl,rfl,by decide +kernel,rfl,by decide +kernel,by decide +kernel⟩
theorem fh:aq ["known","row","column_choices","found","columns"] ["known","row","column_choices"] (ah (top 35)):=⟨rfl,rfl,rfl,by decide +kernel,rfl,by decide +kernel,by decide +kernel⟩
theorem cM:aq ["rows","found","known","size","fresh","column_choices","some","columns"] ["rows"] (ah (top 34)):=⟨rfl,rfl,rfl,by decide +kernel,rfl,by decide +kernel,by decide +kernel⟩
theorem oG:aq ["row","scale"] ["row","scale"] (ah (top 25)):=⟨rfl,rfl,rfl,by decide +kernel,rfl,by decide +kernel,by decide +kernel⟩
theorem ma:aq ["table","scales"] ["table","scales"] (ah (top 26)):=⟨rfl,rfl,rfl,by decide +kernel,rfl,by decide +kernel,by decide +kernel⟩
theorem jD:aq ["row","scale","number"] ["row"] (ah (top 24)):=⟨rfl,rfl,rfl,by decide +kernel,rfl,by decide +kernel,by decide +kernel⟩
theorem fS:aq ["table","bound","found","choices"] ["table","bound"] (ah (top 33)):=⟨rfl,rfl,rfl,by decide +kernel,rfl,by decide +kernel,by decide +kernel⟩
theorem lL:aq ["table"] ["table"] (ah (top 38)):=⟨rfl,rfl,rfl,by decide +kernel,rfl,by decide +kernel,by decide +kernel⟩
theorem vq:aq ["things","places"] ["things","places"] (ah (top 19)):=⟨rfl,rfl,rfl,by decide +kernel,rfl,by decide +kernel,by decide +kernel⟩
theorem uJ:aq ["table","rows","columns"] ["table","rows","columns"] (ah (top 20)):=⟨rfl,rfl,rfl,by decide +kernel,rfl,by decide +kernel,by decide +kernel⟩
theorem fT:aq ["grid","k","i"] ["grid","k"] (ah (top 28)):=⟨rfl,rfl,rfl,by decide +kernel,rfl,by decide +kernel,by decide +kernel⟩
theorem ko:aq ["row","pivot_row","k","last","pivot","factor"] ["row","pivot_row","k","last"] (ah (top 29)):=⟨rfl,rfl,rfl,by decide +kernel,rfl,by decide +kernel,by decide +kernel⟩
theorem cC:aq ["rows","grid","many","sign","last","k","at","i"] ["rows"] (ah (top 27)):=⟨rfl,rfl,rfl,by decide +kernel,rfl,by decide +kernel,by decide +kernel⟩
theorem dR:aq ["rows","k"] ["rows","k"] (ah (top 49)):=⟨rfl,rfl,rfl,by decide +kernel,rfl,by decide +kernel,by decide +kernel⟩
theorem fj:aq ["table","rows","columns","part","whole_part","tops","k","place"] ["table","rows","columns"] (ah (top 48)):=⟨rfl,rfl,rfl,by decide +kernel,rfl,by decide +kernel,by decide +kernel⟩
theorem pD:aq ["thing"] ["thing"] (ah (top 40)):=⟨rfl,rfl,rfl,by decide +kernel,rfl,by decide +kernel,by decide +kernel⟩
theorem nO:aq ["table","j"] ["table","j"] (ah (top 22)):=⟨rfl,rfl,rfl,by decide +kernel,rfl,by decide +kernel,by decide +kernel⟩
theorem lV:aq ["table"] ["table"] (ah (top 21)):=⟨rfl,rfl,rfl,by decide +kernel,rfl,by decide +kernel,by decide +kernel⟩
theorem cR:aq ["top","bottom","divisor"] ["top","bottom"] (ah (top 10)):=⟨rfl,rfl,rfl,by decide +kernel,rfl,by decide +kernel,by decide +kernel⟩
theorem pO:aq ["top","bottom"] ["top","bottom"] (ah (top 11)):=⟨rfl,rfl,rfl,by decide +kernel,rfl,by decide +kernel,by decide +kernel⟩
theorem gJ:aq ["numbers","others"] ["numbers","others"] (ah (top 32)):=⟨rfl,rfl,rfl,by decide +kernel,rfl,by decide +kernel,by decide +kernel⟩
theorem fB:aq ["row","whole_columns","scales","row_scale","numbers"] ["row","whole_columns","scales"] (ah (top 31)):=⟨rfl,rfl,rfl,by decide +kernel,rfl,by decide +kernel,by decide +kernel⟩
theorem kQ:aq ["one","other","columns","scales","whole_columns"] ["one","other"] (ah (top 30)):=⟨rfl,rfl,rfl,by decide +kernel,rfl,by decide +kernel,by decide +kernel⟩
theorem uS:aq ["table","row"] ["table","row"] (ah (top 45)):=⟨rfl,rfl,rfl,by decide +kernel,rfl,by decide +kernel,by decide +kernel⟩
theorem r9:aq ["number"] ["number"] (ah (top 41)):=⟨rfl,rfl,rfl,by decide +kernel,rfl,by decide +kernel,by decide +kernel⟩
theorem qd:aq ["row"] ["row"] (ah (top 42)):=⟨rfl,rfl,rfl,by decide +kernel,rfl,by decide +kernel,by decide +kernel⟩
theorem dW:aq ["row","signs"] ["row"] (ah (top 43)):=⟨rfl,rfl,rfl,by decide +kernel,rfl,by decide +kernel,by decide +kernel⟩
theorem gq:aq ["row","sign"] ["row"] (ah (top 44)):=⟨rfl,rfl,rfl,by decide +kernel,rfl,by decide +kernel,by decide +kernel⟩
theorem d8:aq ["table","row","after","more"] ["table","row"] (ah (top 46)):=⟨rfl,rfl,rfl,by decide +kernel,rfl,by decide +kernel,by decide +kernel⟩
theorem j8:aq ["table","below","tops","most_bits","bits","row"] ["table"] (ah (top 47)):=⟨rfl,rfl,rfl,by decide +kernel,rfl,by decide +kernel,by decide +kernel⟩
theorem mU:aq ["_law_table_here","_law_rows_here","_law_all_bottoms","_law_row","_law_factor","_law_number_here"] ["_law_table_here"] (ah (top 61)):=⟨rfl,rfl,rfl,by decide +kernel,rfl,by decide +kernel,by decide +kernel⟩
theorem rT:aq ["_law_thing"] ["_law_thing"] (ah (top 59)):=⟨rfl,rfl,rfl,by decide +kernel,rfl,by decide +kernel,by decide +kernel⟩
theorem kn:aq ["_law_found","_law_top","_law_bottom"] ["_law_found","_law_top","_law_bottom"] (ah (top 60)):=⟨rfl,rfl,rfl,by decide +kernel,rfl,by decide +kernel,by decide +kernel⟩
theorem jy:aq ["_law_found","_law_wide","_law_number_here"] ["_law_found","_law_wide"] (ah (top 69)):=⟨rfl,rfl,rfl,by decide +kernel,rfl,by decide +kernel,by decide +kernel⟩
theorem jv:aq ["_law_table_here","_law_row","_law_made_here","_law_line","_law_top","_law_bottom","_law_one","_law_other","_law_part"] ["_law_table_here","_law_row"] (ah (top 67)):=⟨rfl,rfl,rfl,by decide +kernel,rfl,by decide +kernel,by decide +kernel⟩
theorem uy:aq ["_law_number_here"] ["_law_number_here"] (ah (top 64)):=⟨rfl,rfl,rfl,by decide +kernel,rfl,by decide +kernel,by decide +kernel⟩
theorem lj:aq ["_law_row","_law_signs"] ["_law_row"] (ah (top 65)):=⟨rfl,rfl,rfl,by decide +kernel,rfl,by decide +kernel,by decide +kernel⟩
theorem kM:aq ["_law_row","_law_number_here"] ["_law_row"] (ah (top 66)):=⟨rfl,rfl,rfl,by decide +kernel,rfl,by decide +kernel,by decide +kernel⟩
theorem kA:aq ["_law_table_here","_law_row","_law_made_here","_law_more"] ["_law_table_here","_law_row"] (ah (top 70)):=⟨rfl,rfl,rfl,by decide +kernel,rfl,by decide +kernel,by decide +kernel⟩
theorem wZ:aq ["_law_script","_law_k","_law_table_here","_law_kept","_law_found","_law_again"] ["_law_script"] (ah (top 72)):=⟨rfl,rfl,rfl,by decide +kernel,rfl,by decide +kernel,by decide +kernel⟩
end K39
namespace K39
open PySem PySem.Spec PyProof.Rows L2 Hy
open Ev (D Den ar aD aE)
noncomputable def aA (f:Nat->Rat):Nat->Rat
 | 0=>0
 | n + 1=>aA f n + f n
theorem az {f g:Nat->Rat}:∀ {n:Nat},(∀ k < n,f k=g k)->aA f n=aA g n
 | 0,_=>rfl
 | n + 1,h=>by rw [aA,aA,az λk hk=>h k (by omega),h n (by omega)]
theorem bF (c:Rat) (f:Nat->Rat):∀ n:Nat,c * aA f n=aA (λk=>c * f k) n
 | 0=>GJ c
 | n + 1=>by rw [aA,aA,Rat.mul_add,bF c f n]
theorem k5 (c:Rat) (f:Nat->Rat):∀ n:Nat,aA f n * c=aA (λk=>f k * c) n
 | 0=>J1 c
 | n + 1=>by rw [aA,aA,Rat.add_mul,k5 c f n]
theorem iq (f g:Nat->Rat):∀ n:Nat,aA (λk=>f k + g k) n=aA f n + aA g n
 | 0=>(Gq 0).symm
 | n + 1=>by rw [aA,aA,aA,iq f g n]; grind
theorem jc:∀ n:Nat,aA (λ_=>0) n=0
 | 0=>rfl
 | n + 1=>by rw [aA,jc n,Gq]
theorem iV (f:Nat->Nat->Rat) (m:Nat):∀ n:Nat,aA (λk=>aA (λl=>f k l) m) n=aA (λl=>aA (λk=>f k l) n) m
 | 0=>by simp only [aA]; exact (jc m).symm
 | n + 1=>by simp only [aA]; rw [iV f m n,<- iq]
noncomputable def dq (i j:Nat):Rat:=if i=j then 1 else 0
theorem pJ (A:Nat->Rat) (j:Nat):∀ n:Nat,n<=j->aA (λk=>A k * dq k j) n=0
 | 0,_=>rfl
 | n + 1,h=>by
   rw [aA,pJ A j n (by omega),dq,if_neg (by omega),GJ,Gq]
theorem cP (A:Nat->Rat) (j:Nat):∀ n:Nat,j < n->aA (λk=>A k * dq k j) n=A j
 | n + 1,h=>by
   rw [aA]
   by_cases e:j=n
   · subst e
     rw [pJ A j j (Fc _),dq,if_pos rfl,Ir,Rat.zero_add]
   · rw [cP A j n (by omega),dq,if_neg (by omega),GJ,Gq]
theorem mz (f:Nat->Int):∀ n:Nat,((((Fd n).map f).sum:Int):Rat)=aA (λk=>(f k:Rat)) n
 | 0=>rfl
 | n + 1=>by
   rw [F3,FE,List.sum_append,Iu,mz f n,aA]
   simp
noncomputable def skp (i r:Nat):Nat:=if r < i then r else r + 1
noncomputable def minor (M:Nat->Nat->Rat) (i r c:Nat):Rat:=M (skp i r) (c + 1)
noncomputable def sgn (i:Nat):Rat:=if i % 2=0 then 1 else -1
theorem fL (i:Nat):sgn (i + 1)=-sgn i:=by
 unfold sgn
 by_cases h:i % 2=0
 · rw [if_pos h,if_neg (by omega)]
 · rw [if_neg h,if_pos (by omega)]
   rfl
theorem xO (i:Nat):sgn i * sgn i=1:=by
 unfold sgn
 split <;> grind
noncomputable def det:Nat->(Nat->Nat->Rat)->Rat
 | 0,_=>1
 | n + 1,M=>aA (λi=>sgn i * M i 0 * det n (minor M i)) (n + 1)
theorem kL {i r n:Nat} (h:r < n):skp i r < n + 1:=by unfold skp; split <;> omega
theorem AZ (i r:Nat):skp i r ≠ i:=by unfold skp; split <;> omega
theorem aO:∀ {n:Nat} {M M':Nat->Nat->Rat},(∀ i < n,∀ j < n,M i j=M' i j)->det n M=det n M'
 | 0,_,_,_=>rfl
 | n + 1,M,M',h=>by
   unfold det
   refine az λi hi=>?_
   rw [h i hi 0 (by omega),aO (M:=minor M i) (M':=minor M' i) λr hr c hc=>h _ (kL hr) _ (by omega)]
noncomputable def au (M:Nat->Nat->Rat) (p:Nat) (v:Nat->Rat) (r c:Nat):Rat:=if r=p then v c else M r c
noncomputable def a6 (M:Nat->Nat->Rat) (q:Nat) (v:Nat->Rat) (r c:Nat):Rat:=if c=q then v r else M r c
noncomputable def un (i p:Nat):Nat:=if p < i then p else p - 1
theorem gA (M:Nat->Nat->Rat) (p:Nat) (v:Nat->Rat):minor (au M p v) p=minor M p:=by
 funext r c
 unfold minor au
 rw [if_neg (AZ p r)]
theorem fP (M:Nat->Nat->Rat) {i p:Nat} (h:i ≠ p) (v:Nat->Rat):minor (au M p v) i=au (minor M i) (un i p) λc=>v (c + 1):=by
 funext r c
 unfold minor au
 have:skp i r=p ↔ r=un i p:=by unfold skp un; split <;> split <;> omega
 by_cases q:skp i r=p
 · rw [if_pos q,if_pos (this.mp q)]
 · rw [if_neg q,if_neg λz=>q (this.mpr z)]
theorem nY:∀ {n:Nat} (M:Nat->Nat->Rat) {p:Nat},p < n->∀ (a b:Rat) (x y:Nat->Rat),det n (au M p λc=>a * x c + b * y c)=a * det n (au M p x) + b * det n (au M p y)
 | 0,_,_,h,_,_,_,_=>absurd h (Gb _)
 | n + 1,M,p,hp,a,b,x,y=>by
   unfold det
   rw [bF,bF,<- iq]
   refine az λi hi=>?_
   by_cases h:i=p
   · subst h
     rw [gA,gA,gA]
     simp only [au,if_pos rfl]
     grind
   · rw [fP M h,fP M h,fP M h,nY (minor M i) (show un i p < n by unfold un; split <;> omega) a b]
     simp only [au,if_neg h]
     grind
theorem xX {f:Nat->Rat} {p:Nat} (h0:∀ i,i ≠ p->i ≠ p + 1->f i=0) (h:f p + f (p + 1)=0):∀ n,p + 1 < n->aA f n=0:=by
 have z:∀ n,n<=p->aA f n=0:=by
   intro n
   induction n with
   | zero=>intro _; rfl
   | succ n ih=>intro hn; rw [aA,ih (by omega),h0 n (by omega) (by omega),Gq]
 intro n
 induction n with
 | zero=>intro hn; omega
 | succ n ih=>
   intro hn
   rw [aA]
   by_cases q:n=p + 1
   · subst q
     rw [aA,z p (Fc _),Rat.zero_add]
     exact h
   · rw [ih (by omega),h0 n (by omega) q,Gq]
theorem cO {f:Nat->Rat} {n:Nat} (h:∀ i < n,f i=0):aA f n=0:=by
 rw [az h]; exact jc n
theorem oH:∀ {n:Nat} {M:Nat->Nat->Rat} {p:Nat},p + 1 < n->(∀ c < n,M p c=M (p + 1) c)->det n M=0
 | 0,_,_,h,_=>absurd h (Gb _)
 | n + 1,M,p,hp,h=>by
   unfold det
   let f:Nat->Rat:=λi=>if i < n + 1 then sgn i * M i 0 * det n (minor M i) else 0
   have e:aA (λi=>sgn i * M i 0 * det n (minor M i)) (n + 1)=aA f (n + 1):=az λi hi=>by simp only [f]; rw [if_pos hi]
   rw [e]
   refine xX (p:=p) (λi h1 h2=>?_) ?_ _ hp
   · simp only [f]
     by_cases hi:i < n + 1
     · rw [if_pos hi]
       have:det n (minor M i)=0:=by
         by_cases q:i < p
         · refine oH (p:=p - 1) (by omega) λc hc=>?_
           unfold minor skp
           rw [if_neg (by omega),if_neg (by omega),show p - 1 + 1=p by omega]
           exact h (c + 1) (by omega)
         · refine oH (p:=p) (by omega) λc hc=>?_
           unfold minor skp
           rw [if_pos (by omega),if_pos (by omega)]
           exact h (c + 1) (by omega)
       rw [this,GJ]
     · rw [if_neg hi]
   · simp only [f]
     rw [if_pos (by omega),if_pos hp,fL,<- h 0 (by omega)]
     have:det n (minor M p)=det n (minor M (p + 1)):=aO λr hr c hc=>by
       unfold minor skp
       by_cases q:r < p
       · rw [if_pos q,if_pos (by omega)]
       · rw [if_neg q]
         by_cases q2:r=p
         · subst q2
           rw [if_pos (by omega)]
           exact (h (c + 1) (by omega)).symm
         · rw [if_neg (by omega)]
     rw [this]
     grind
structure ML (n:Nat) (f:(Nat->Nat->Rat)->Rat):Prop where
 cong:∀ {M M':Nat->Nat->Rat},(∀ i < n,∀ j < n,M i j=M' i j)->f M=f M'
 lin:∀ (M:Nat->Nat->Rat) {p:Nat},p < n->∀ (a b:Rat) (x y:Nat->Rat),f (au M p λc=>a * x c + b * y c)=a * f (au M p x) + b * f (au M p y)
 alt:∀ {M:Nat->Nat->Rat} {p:Nat},p + 1 < n->(∀ c < n,M p c=M (p + 1) c)->f M=0
theorem fI (n:Nat):ML n (det n):=⟨aO,nY,oH⟩
section
variable {n:Nat} {f:(Nat->Nat->Rat)->Rat}
theorem bC (M:Nat->Nat->Rat) (p:Nat):au M p (M p)=M:=by
 funext r c
 unfold au
 split
 · rename_i h; rw [h]
 · rfl
theorem bP {M:Nat->Nat->Rat} {p:Nat} {v:Nat->Rat}:au M p v p=v:=by funext c; unfold au; rw [if_pos rfl]
theorem bQ {M:Nat->Nat->Rat} {p r:Nat} {v:Nat->Rat} (h:r ≠ p):au M p v r=M r:=by funext c; unfold au; rw [if_neg h]
theorem bh {M:Nat->Nat->Rat} {p q:Nat} {v u:Nat->Rat} (h:p ≠ q):au (au M p v) q u=au (au M q u) p v:=by
 funext r c
 unfold au
 by_cases h1:r=q
 · rw [if_pos h1,if_neg λz=>h (z.symm.trans h1),if_pos h1]
 · rw [if_neg h1,if_neg h1]
theorem ML.add (h:ML n f) (M:Nat->Nat->Rat) {p:Nat} (hp:p < n) (x y:Nat->Rat):f (au M p λc=>x c + y c)=f (au M p x) + f (au M p y):=by
 have:=h.lin M hp 1 1 x y
 simp only [Gx] at this
 exact this
theorem ML.nb (h:ML n f) (M:Nat->Nat->Rat) {p:Nat} (hp:p + 1 < n) (x y:Nat->Rat):f (au (au M p x) (p + 1) y)=-f (au (au M p y) (p + 1) x):=by
 have z:∀ u:Nat->Rat,f (au (au M p u) (p + 1) u)=0:=λu=>h.alt hp λc _=>by rw [bP,bQ (by omega),bP]
 have e:=z λc=>x c + y c
 rw [h.add _ hp] at e
 rw [bh (by omega),h.add _ (show p < n by omega),bh (M:=M) (p:=p) (q:=p + 1) (v:=λc=>x c + y c) (u:=y) (by omega),h.add _ (show p < n by omega)] at e
 rw [bh (M:=M) (p:=p + 1) (q:=p) (v:=x) (u:=x) (by omega),z x,bh (M:=M) (p:=p + 1) (q:=p) (v:=y) (u:=y) (by omega),z y,bh (M:=M) (p:=p + 1) (q:=p) (v:=x) (u:=y) (by omega),bh (M:=M) (p:=p + 1) (q:=p) (v:=y) (u:=x) (by omega)] at e
 grind
theorem ML.two (h:ML n f):∀ (d:Nat) (M:Nat->Nat->Rat) (p:Nat),p + 1 + d < n->M p=M (p + 1 + d)->f M=0
 | 0,M,p,hp,e=>h.alt hp λc _=>by rw [e]
 | d + 1,M,p,hp,e=>by
   have s:=h.nb M (p:=p + 1 + d) (by omega) (M (p + 1 + d)) (M (p + 1 + d + 1))
   rw [bC,bC] at s
   rw [s,ML.two h d _ p (by omega) (by rw [bQ (by omega),bQ (by omega),bQ (by omega),bP]; exact e)]
   rfl
theorem ML.same (h:ML n f) {M:Nat->Nat->Rat} {p q:Nat} (hp:p < n) (hq:q < n) (hpq:p ≠ q) (e:M p=M q):f M=0:=by
 rcases Nat.lt_or_lt_of_ne hpq with z | z
 · exact h.two (q - p - 1) M p (by omega) (by rw [show p + 1 + (q - p - 1)=q by omega]; exact e)
 · exact h.two (p - q - 1) M q (by omega) (by rw [show q + 1 + (p - q - 1)=p by omega]; exact e.symm)
theorem ML.swap (h:ML n f) {M:Nat->Nat->Rat} {p q:Nat} (hp:p < n) (hq:q < n) (hpq:p ≠ q) (x y:Nat->Rat):f (au (au M p x) q y)=-f (au (au M p y) q x):=by
 have z:∀ u:Nat->Rat,f (au (au M p u) q u)=0:=λu=>h.same hp hq hpq (by rw [bP,bQ hpq,bP])
 have e:=z λc=>x c + y c
 have c1:∀ u v:Nat->Rat,au (au M q u) p v=au (au M p v) q u:=λu v=>bh λz=>hpq z.symm
 rw [h.add _ hq,bh hpq,h.add _ hp,bh (M:=M) (p:=p) (q:=q) (v:=λc=>x c + y c) (u:=y) hpq,h.add _ hp,c1,c1,c1,c1,z x,z y] at e
 grind
theorem ML.EE (h:ML n f) (M:Nat->Nat->Rat) {p:Nat} (hp:p < n):f (au M p λ_=>0)=0:=by
 have:=h.lin M hp 0 0 (λ_=>0) (λ_=>0)
 simp only [J1,Gq] at this
 exact this
theorem ML.sum (h:ML n f) (M:Nat->Nat->Rat) {p:Nat} (hp:p < n) (v:Nat->Rat) (e:Nat->Nat->Rat):∀ m,f (au M p λj=>aA (λc=>v c * e c j) m)=aA (λc=>v c * f (au M p (e c))) m
 | 0=>h.EE M hp
 | m + 1=>by
   have:=h.lin M hp 1 (v m) (λj=>aA (λc=>v c * e c j) m) (e m)
   simp only [Gx] at this
   rw [aA,<- ML.sum h M hp v e m]
   exact this
theorem ML.comb (h:ML n f) (M:Nat->Nat->Rat) {p k:Nat} (hp:p < n) (hk:k<=p) (d:Rat) (β:Nat->Rat):f (au M p λj=>d * M p j + aA (λi=>β i * M i j) k)=d * f M:=by
 have e:=h.lin M hp d 1 (M p) (λj=>aA (λi=>β i * M i j) k)
 simp only [Gx] at e
 rw [e,bC,h.sum M hp β M k,cO,Gq]
 intro i hi
 rw [h.same (p:=i) (q:=p) (by omega) hp (by omega) (by rw [bQ (by omega),bP]),GJ]
end
noncomputable def idQ (i j:Nat):Rat:=if i=j then 1 else 0
noncomputable def un1 (σ:Nat->Nat) (i j:Nat):Rat:=if σ i=j then 1 else 0
theorem xy:∀ (m:Nat) (σ:Nat->Nat),(∀ i < m + 1,σ i < m)->∃ i j,i < j/\j < m + 1/\σ i=σ j
 | 0,σ,h=>absurd (h 0 (by decide)) (Gb _)
 | m + 1,σ,h=>by
   by_cases q:∃ i,i < m + 1/\σ i=σ (m + 1)
   · obtain ⟨i,hi,e⟩:=q
     exact ⟨i,m + 1,hi,by omega,e⟩
   · have q':∀ i < m + 1,σ i ≠ σ (m + 1):=λi hi z=>q ⟨i,hi,z⟩
     obtain ⟨i,j,h1,h2,e⟩:=xy m (λi=>if σ (m + 1) < σ i then σ i - 1 else σ i) λi hi=>by
       have a:=h i (by omega)
       have b:=h (m + 1) (by omega)
       have c:=q' i hi
       split <;> omega
     refine ⟨i,j,h1,by omega,?_⟩
     have a:=q' i (by omega)
     have b:=q' j h2
     split at e <;> split at e <;> omega
theorem yu {n k:Nat} {σ:Nat->Nat} (h:∀ i < n,σ i < n) (hk:k < n) (hn:∀ i < n,σ i ≠ k):∃ i j,i < j/\j < n/\σ i=σ j:=by
 obtain ⟨m,rfl⟩:∃ m,n=m + 1:=⟨n - 1,by omega⟩
 obtain ⟨i,j,h1,h2,e⟩:=xy m (λi=>if k < σ i then σ i - 1 else σ i) λi hi=>by
   have a:=h i hi
   have b:=hn i hi
   split <;> omega
 refine ⟨i,j,h1,h2,?_⟩
 have a:=hn i (by omega)
 have b:=hn j h2
 split at e <;> split at e <;> omega
section
variable {n:Nat} {h:(Nat->Nat->Rat)->Rat}
theorem ML.yd (H:ML n h) (h0:h idQ=0):∀ (d k:Nat),k + d=n->∀ σ:Nat->Nat,(∀ i < n,σ i < n)->(∀ i < k,σ i=i)->h (un1 σ)=0
 | 0,k,hk,σ,_,hf=>by
   rw [<- h0]
   exact H.cong λi hi j _=>by unfold un1 idQ; rw [hf i (by omega)]
 | d + 1,k,hk,σ,hs,hf=>by
   by_cases q:∃ j,k<=j/\j < n/\σ j=k
   · obtain ⟨j,h1,h2,h3⟩:=q
     by_cases z:j=k
     · subst z
       exact ML.yd H h0 d (j + 1) (by omega) σ hs λi hi=>by
         by_cases y:i=j
         · rw [y]; exact h3
         · exact hf i (by omega)
     · have e:un1 σ=au (au (un1 σ) k (un1 σ k)) j (un1 σ j):=by rw [bC,bC]
       have e2:au (au (un1 σ) k (un1 σ j)) j (un1 σ k)=un1 λi=>if i=j then σ k else if i=k then σ j else σ i:=by
         funext r c
         have zk:¬ k=j:=λy=>z y.symm
         by_cases y1:r=j <;> by_cases y2:r=k <;> simp [au,un1,y1,y2,zk]
       rw [e,H.swap (by omega) h2 (λy=>z y.symm),e2,ML.yd H h0 d (k + 1) (by omega) _ (λi hi=>?_) (λi hi=>?_)]
       · rfl
       · split
         · exact hs k (by omega)
         · split
           · exact hs j h2
           · exact hs i hi
       · rw [if_neg (by omega)]
         by_cases y:i=k
         · rw [if_pos y,h3,y]
         · rw [if_neg y]
           exact hf i (by omega)
   · obtain ⟨i,j,h1,h2,e⟩:=yu hs (show k < n by omega) λi hi z=>by
       by_cases y:i < k
       · have:=hf i y
         omega
       · exact q ⟨i,by omega,hi,z⟩
     exact H.same (p:=i) (q:=j) (by omega) h2 (by omega) (by funext c; unfold un1; rw [e])
noncomputable def nZ (k:Nat) (M:Nat->Nat->Rat) (σ:Nat->Nat) (i j:Nat):Rat:=if i < k then M i j else un1 σ i j
theorem ML.Ea (H:ML n h) (h0:h idQ=0) (M:Nat->Nat->Rat):∀ (k:Nat),k<=n->∀ σ:Nat->Nat,(∀ i < n,σ i < n)->h (nZ k M σ)=0
 | 0,_,σ,hs=>by
   rw [<- ML.yd H h0 n 0 (by omega) σ hs λi hi=>absurd hi (Gb _)]
   exact H.cong λi _ j _=>by unfold nZ; rw [if_neg (Gb _)]
 | k + 1,hk,σ,hs=>by
   have e:h (nZ (k + 1) M σ)=h (au (nZ k M σ) k λj=>aA (λc=>M k c * idQ c j) n):=H.cong λi hi j hj=>by
     unfold au nZ
     by_cases y:i=k
     · subst y
       rw [if_pos (by omega),if_pos rfl]
       exact (cP (M i) j n hj).symm
     · rw [if_neg y]
       by_cases z:i < k
       · rw [if_pos (by omega),if_pos z]
       · rw [if_neg (by omega),if_neg z]
   rw [e,H.sum _ (by omega),cO]
   intro c hc
   have e2:au (nZ k M σ) k (idQ c)=nZ k M λi=>if i=k then c else σ i:=by
     funext r j
     by_cases y:r=k <;> simp [au,nZ,un1,idQ,y]
   rw [e2,ML.Ea H h0 M k (by omega) _ (λi hi=>?_),GJ]
   split
   · exact hc
   · exact hs i hi
theorem ML.zero (H:ML n h) (h0:h idQ=0) (M:Nat->Nat->Rat):h M=0:=by
 rw [<- ML.Ea H h0 M n (Fc _) (λi=>i) λi hi=>hi]
 exact H.cong λi hi j _=>by unfold nZ; rw [if_pos hi]
end
theorem wB:minor idQ 0=idQ:=by
 funext r c
 unfold minor idQ skp
 rw [if_neg (Gb _)]
 by_cases h:r=c
 · rw [if_pos (by omega),if_pos h]
 · rw [if_neg (by omega),if_neg h]
theorem sr:∀ n,det n idQ=1
 | 0=>rfl
 | n + 1=>by
   unfold det
   rw [az (g:=λi=>det n (minor idQ i) * idQ i 0) λi hi=>?_]
   · have:=cP (λi=>det n (minor idQ i)) 0 (n + 1) (by omega)
     have e:(λi=>det n (minor idQ i) * idQ i 0)=λk=>(λi=>det n (minor idQ i)) k * dq k 0:=rfl
     rw [e,this,wB,sr n]
   · by_cases z:i=0
     · subst z
       show 1 * 1 * _=_ * 1
       grind
     · unfold idQ
       rw [if_neg z]
       grind
theorem ML.uniq {n:Nat} {f:(Nat->Nat->Rat)->Rat} (F:ML n f) (M:Nat->Nat->Rat):f M=det n M * f idQ:=by
 have D:=fI n
 have H:ML n λM=>f M - det n M * f idQ:=by
   refine ⟨λ{M M'} e=>?_,λM p hp a b x y=>?_,λ{M p} hp e=>?_⟩
   · rw [F.cong e,D.cong e]
   · rw [F.lin M hp,D.lin M hp]
     grind
   · rw [F.alt hp e,D.alt hp e]
     grind
 have:=H.zero (by rw [sr]; grind) M
 grind
theorem pX:∀ {n:Nat} (M:Nat->Nat->Rat) {q:Nat},q < n->∀ (a b:Rat) (x y:Nat->Rat),det n (a6 M q λc=>a * x c + b * y c)=a * det n (a6 M q x) + b * det n (a6 M q y)
 | 0,_,_,h,_,_,_,_=>absurd h (Gb _)
 | n + 1,M,q,hq,a,b,x,y=>by
   unfold det
   rw [bF,bF,<- iq]
   refine az λi hi=>?_
   cases q with
   | zero=>
     have e:∀ v,minor (a6 M 0 v) i=minor M i:=λv=>by
       funext r c
       unfold minor a6
       rw [if_neg (by omega)]
     rw [e,e,e]
     simp only [a6,if_true]
     grind
   | succ q=>
     have e:∀ v,minor (a6 M (q + 1) v) i=a6 (minor M i) q λr=>v (skp i r):=λv=>by
       funext r c
       unfold minor a6
       by_cases z:c=q
       · rw [if_pos (by omega),if_pos z]
       · rw [if_neg (by omega),if_neg z]
     rw [e,e,e,pX (minor M i) (show q < n by omega) a b]
     have z:¬ (0=q + 1):=by omega
     simp only [a6,if_neg z]
     grind
theorem mE (g:Nat->Rat) (i:Nat):∀ n,i<=n->aA (λj=>g (skp i j)) n=aA g (n + 1) - g i
 | 0,h=>by
   have:i=0:=by omega
   subst this
   show (0:Rat)=0 + g 0 - g 0
   grind
 | n + 1,h=>by
   by_cases q:i=n + 1
   · subst q
     have e:aA (λj=>g (skp (n + 1) j)) (n + 1)=aA g (n + 1):=az λk hk=>by unfold skp; rw [if_pos hk]
     rw [e,aA.eq_2 g (n + 1)]
     grind
   · rw [aA,mE g i n (by omega),aA.eq_2 g (n + 1)]
     have:skp i n=n + 1:=by unfold skp; rw [if_neg (by omega)]
     rw [this]
     grind
theorem uF {n:Nat} {G:Nat->Nat->Rat} (h:∀ i < n,∀ j < n,G i j=-G j i):aA (λi=>aA (λj=>G i j) n) n=0:=by
 have e:aA (λi=>aA (λj=>G i j) n) n=-1 * aA (λi=>aA (λj=>G i j) n) n:=by
   conv=>lhs; rw [iV]
   rw [bF]
   refine az λi hi=>?_
   rw [bF]
   refine az λj hj=>?_
   rw [h j hj i hi]
   grind
 grind
theorem zH {i j r:Nat} (h:i < j):skp i (skp (j - 1) r)=skp j (skp i r):=by
 unfold skp
 split <;> split <;> (try split) <;> (try split) <;> omega
theorem qz:∀ {n:Nat} {M:Nat->Nat->Rat} {q:Nat},q + 1 < n->(∀ r < n,M r q=M r (q + 1))->det n M=0
 | 0,_,_,h,_=>absurd h (Gb _)
 | 1,_,_,h,_=>by omega
 | n + 2,M,q + 1,hq,h=>by
   rw [det]
   refine cO λi hi=>?_
   rw [qz (M:=minor M i) (q:=q) (by omega) λr hr=>h _ (kL hr),GJ]
 | n + 2,M,0,hq,h=>by
   let D:Nat->Nat->Rat:=λi j=>det n λr c=>M (skp i (skp j r)) (c + 2)
   let G:Nat->Nat->Rat:=λi j=>if i < j then -(sgn i * sgn j * M i 0 * M j 0 * D i (j - 1)) else if j < i then sgn i * sgn j * M i 0 * M j 0 * D i j else 0
   have inner:∀ i < n + 2,sgn i * M i 0 * det (n + 1) (minor M i)=aA (λj=>G i j) (n + 2):=λi hi=>by
     have e:aA (λj=>G i j) (n + 2)=aA (λj=>G i (skp i j)) (n + 1):=by
       have g0:G i i=0:=by simp only [G]; rw [if_neg (F4 i),if_neg (F4 i)]
       rw [mE (λj=>G i j) i (n + 1) (by omega),g0]
       grind
     rw [e,det,bF]
     refine az λj hj=>?_
     have m0:minor M i j 0=M (skp i j) 0:=(h _ (kL hj)).symm
     have mm:det n (minor (minor M i) j)=D i j:=rfl
     rw [m0,mm]
     simp only [G]
     by_cases z:j < i
     · have s:skp i j=j:=by unfold skp; rw [if_pos z]
       rw [s,if_neg (by omega),if_pos z]
       grind
     · have s:skp i j=j + 1:=by unfold skp; rw [if_neg z]
       rw [s,if_pos (by omega),fL,show j + 1 - 1=j by omega]
       grind
   rw [det,az inner]
   refine uF λi hi j hj=>?_
   have sy:∀ {i j:Nat},i < j->D i (j - 1)=D j i:=λ{i j} z=>by
     simp only [D]
     congr 1
     funext r c
     rw [zH z]
   simp only [G]
   rcases Nat.lt_trichotomy i j with z | z | z
   · rw [if_pos z,if_neg (by omega),if_pos z,sy z]
     grind
   · subst z
     rw [if_neg (F4 _),if_neg (F4 _)]
     rfl
   · rw [if_neg (by omega),if_pos z,if_pos z,sy z]
     grind
theorem jC (n:Nat) (M:Nat->Nat->Rat):det n (λi j=>M j i)=det n M:=by
 have H:ML n λM=>det n λi j=>M j i:=by
   refine ⟨λ{M M'} e=>aO λi hi j hj=>e j hj i hi,λM p hp a b x y=>?_,λ{M p} hp e=>qz hp λr hr=>e r hr⟩
   exact pX (λi j=>M j i) hp a b x y
 have u:=H.uniq M
 have i1:(det n λi j=>idQ j i)=1:=by
   rw [<- sr n]
   congr 1
   funext i j
   unfold idQ
   by_cases z:i=j
   · rw [if_pos z,if_pos z.symm]
   · rw [if_neg z,if_neg λy=>z y.symm]
 simp only [i1,Ir] at u
 exact u
noncomputable def mulQ (n:Nat) (F H:Nat->Nat->Rat) (i j:Nat):Rat:=aA (λk=>F i k * H k j) n
theorem gb (m:Nat):∀ (k:Nat) (M:Nat->Nat->Rat),(∀ i,k<=i->i < k + m->∀ j < k,M i j=0)->det (k + m) M=det k M * det m λi j=>M (k + i) (k + j)
 | 0,M,_=>by
   rw [Jw]
   show det m M=1 * _
   rw [Gx]
   congr 1
   funext i j
   rw [Jw,Jw]
 | k + 1,M,h=>by
   have a:k + 1 + m=(k + m) + 1:=by omega
   rw [a,det,det,k5]
   have tail:∀ t,aA (λi=>sgn i * M i 0 * det (k + m) (minor M i)) (k + 1 + t)=aA (λi=>sgn i * M i 0 * det (k + m) (minor M i)) (k + 1)\/¬ t<=m:=by
     intro t
     induction t with
     | zero=>exact .inl rfl
     | succ t ih=>
       by_cases q:t + 1<=m
       · rcases ih with ih | ih
         · refine .inl ?_
           rw [show k + 1 + (t + 1)=(k + 1 + t) + 1 by omega,aA,ih,h (k + 1 + t) (by omega) (by omega) 0 (by omega)]
           grind
         · omega
       · exact .inr q
   rcases tail m with e | e
   · rw [show k + m + 1=k + 1 + m by omega,e]
     refine az λi hi=>?_
     rw [gb m k (minor M i) λr h1 h2 c hc=>?_]
     · have:(λr c=>minor M i (k + r) (k + c))=λr c=>M (k + 1 + r) (k + 1 + c):=by
         funext r c
         unfold minor skp
         rw [if_neg (by omega),show k + r + 1=k + 1 + r by omega,show k + c + 1=k + 1 + c by omega]
       rw [this]
       grind
     · unfold minor skp
       rw [if_neg (by omega)]
       exact h _ (by omega) (by omega) _ (by omega)
   · exact absurd (Fc m) e
theorem kH {n k:Nat} (d:Rat) (β:Nat->Nat->Rat) (M:Nat->Nat->Rat):∀ t,k + t<=n->det n (λi j=>if k<=i/\i < k + t then d * M i j + aA (λa=>β i a * M a j) k else M i j)=d ^ t * det n M
 | 0,_=>by
   rw [Rat.pow_zero,Gx]
   congr 1
   funext i j
   have n0:¬ (k<=i/\i < k + 0):=by omega
   rw [if_neg n0]
 | t + 1,h=>by
   have ih:=kH (n:=n) (k:=k) d β M t (by omega)
   have c:=(fI n).comb (λi j=>if k<=i/\i < k + t then d * M i j + aA (λa=>β i a * M a j) k else M i j) (p:=k + t) (k:=k) (by omega) (by omega) d (β (k + t))
   rw [ih] at c
   rw [J2,Hr (d ^ t) d,GN,<- c]
   congr 1
   funext i j
   unfold au
   by_cases q:i=k + t
   · subst q
     have n1:¬ (k<=k + t/\k + t < k + t):=by omega
     have p1:k<=k + t/\k + t < k + (t + 1):=by omega
     rw [if_pos p1,if_pos rfl]
     dsimp only
     rw [if_neg n1]
     congr 1
     exact az λa ha=>by
       have na:¬ (k<=a/\a < k + t):=by omega
       rw [if_neg na]
   · rw [if_neg q]
     dsimp only
     by_cases z:k<=i/\i < k + t
     · rw [if_pos (by omega),if_pos z]
     · rw [if_neg (by omega),if_neg z]
theorem vL {d:Rat} (h:d ≠ 0):∀ t:Nat,d ^ t ≠ 0
 | 0=>by rw [Rat.pow_zero]; exact λz=>by cases z
 | t + 1=>by
   rw [J2]
   intro z
   rcases Kn.mp z with y | y
   · exact vL h t y
   · exact h y
noncomputable def bm (Y:Nat->Nat->Rat) (k p q:Nat):Rat:=det (k + 1) λr c=>Y (if r < k then r else p) (if c < k then c else q)
noncomputable def bc (Y:Nat->Nat->Rat) (k p i:Nat):Rat:=det (k + 1) (au (λr c=>Y (if c < k then c else p) r) k (idQ i))
theorem jN (M:Nat->Nat->Rat):det 1 M=M 0 0:=by
 show 0 + 1 * M 0 0 * 1=M 0 0
 grind
theorem zt (M:Nat->Nat->Rat):det 2 M=M 0 0 * M 1 1 - M 0 1 * M 1 0:=by
 show 0 + 1 * M 0 0 * det 1 (minor M 0) + -1 * M 1 0 * det 1 (minor M 1)=_
 rw [jN,jN]
 show 0 + 1 * M 0 0 * M 1 1 + -1 * M 1 0 * M 0 1=_
 grind
section
variable {Y:Nat->Nat->Rat} {k p q:Nat}
theorem so:bm Y k p q=det k Y * Y p q + aA (λi=>bc Y k p i * Y i q) k:=by
 have e:bm Y k p q=det (k + 1) (au (λr c=>Y (if c < k then c else p) r) k λr=>aA (λc=>Y (if c < k then c else p) q * idQ c r) (k + 1)):=by
   unfold bm
   rw [<- jC]
   refine aO λi hi j hj=>?_
   unfold au
   by_cases z:i=k
   · subst z
     rw [if_pos rfl,if_neg (F4 _)]
     exact (cP (λc=>Y (if c < i then c else p) q) j (i + 1) hj).symm
   · rw [if_neg z,if_pos (show i < k by omega)]
 have last:det (k + 1) (au (λr c=>Y (if c < k then c else p) r) k (idQ k))=det k Y:=by
   rw [gb 1 k _ λi h1 h2 j hj=>?_,jN]
   · have e1:au (λr c=>Y (if c < k then c else p) r) k (idQ k) (k + 0) (k + 0)=1:=by
       unfold au idQ
       rw [if_pos (Ik k),if_pos (Ik k).symm]
     rw [e1,Ir,<- jC]
     refine aO λi hi j hj=>?_
     unfold au
     rw [if_neg (by omega)]
     dsimp only
     rw [if_pos hi]
   · have:i=k:=by omega
     subst this
     unfold au idQ
     rw [if_pos rfl,if_neg (by omega)]
 rw [e,(fI (k + 1)).sum _ (Jg k),aA,last,if_neg (F4 _),Rat.add_comm,Hr (Y p q)]
 congr 1
 exact az λi hi=>by rw [if_pos hi,Hr]; rfl
theorem oF (h:q < k):bm Y k p q=0:=by
 unfold bm
 rw [<- jC]
 refine (fI (k + 1)).same (p:=q) (q:=k) (by omega) (by omega) (by omega) ?_
 funext r
 rw [if_pos h,if_neg (F4 _)]
theorem y0:bm Y k k k=det (k + 1) Y:=by
 refine aO λi hi j hj=>?_
 have:∀ r,r < k + 1->(if r < k then r else k)=r:=λr hr=>by split <;> omega
 rw [this i hi,this j hj]
theorem zN {i j:Nat} (h0:det k Y ≠ 0):det k Y * bm Y (k + 1) i j=bm Y k k k * bm Y k i j - bm Y k k j * bm Y k i k:=by
 let W:Nat->Nat->Rat:=λr c=>Y (if r < k + 1 then r else i) (if c < k + 1 then c else j)
 have e:=kH (n:=k + 2) (k:=k) (det k Y) (λr a=>bc Y k (if r < k + 1 then r else i) a) W 2 (Fc _)
 have ent:∀ r c,(if k<=r/\r < k + 2 then det k Y * W r c + aA (λa=>bc Y k (if r < k + 1 then r else i) a * W a c) k else W r c)=if k<=r/\r < k + 2 then bm Y k (if r < k + 1 then r else i) (if c < k + 1 then c else j) else W r c:=λr c=>by
   by_cases z:k<=r/\r < k + 2
   · rw [if_pos z,if_pos z,so]
     congr 1
     exact az λa ha=>by simp only [W]; rw [if_pos (show a < k + 1 by omega)]
   · rw [if_neg z,if_neg z]
 simp only [ent] at e
 rw [gb 2 k _ λr h1 h2 c hc=>?_,zt] at e
 · have a0:k<=k + 0/\k + 0 < k + 2:=by omega
   have a1:k<=k + 1/\k + 1 < k + 2:=by omega
   have b0:k + 0 < k + 1:=by omega
   have b1:¬ k + 1 < k + 1:=by omega
   rw [if_pos a0,if_pos a1,if_pos a0,if_pos a1,if_pos b0,if_neg b1,if_pos b0,if_neg b1,Ik] at e
   have dk:(det k λr c=>if k<=r/\r < k + 2 then bm Y k (if r < k + 1 then r else i) (if c < k + 1 then c else j) else W r c)=det k Y:=aO λr hr c hc=>by
     rw [if_neg (by omega)]
     simp only [W]
     rw [if_pos (by omega),if_pos (by omega)]
   rw [dk] at e
   have dw:det (k + 2) W=bm Y (k + 1) i j:=rfl
   rw [dw] at e
   have c:=Rat.inv_mul_cancel (det k Y) h0
   have p2:det k Y ^ 2=det k Y * det k Y:=by rw [J2,J2,Rat.pow_zero,Gx]
   rw [p2] at e
   have e2:(det k Y)⁻¹ * (det k Y * det k Y * bm Y (k + 1) i j)=(det k Y)⁻¹ * (det k Y * (bm Y k k k * bm Y k i j - bm Y k k j * bm Y k i k)):=congrArg _ e.symm
   rw [GN,<- GN,c,Gx,<- GN,c,Gx] at e2
   exact e2
 · rw [if_pos ⟨h1,h2⟩,if_pos (show c < k + 1 by omega)]
   exact oF hc
theorem y6 {n:Nat} (h0:det k Y ≠ 0) (hk:k < n) (h:∀ p,k<=p->p < n->bm Y k p k=0):det n Y=0:=by
 have e:=kH (n:=n) (k:=k) (det k Y) (λr a=>bc Y k r a) Y (n - k) (by omega)
 have ent:∀ r c,(if k<=r/\r < k + (n - k) then det k Y * Y r c + aA (λa=>bc Y k r a * Y a c) k else Y r c)=if k<=r/\r < k + (n - k) then bm Y k r c else Y r c:=λr c=>by
   by_cases z:k<=r/\r < k + (n - k)
   · rw [if_pos z,if_pos z,so]
   · rw [if_neg z,if_neg z]
 simp only [ent] at e
 have z:(det n λr c=>if k<=r/\r < k + (n - k) then bm Y k r c else Y r c)=0:=by
   obtain ⟨m,hm⟩:∃ m,n=k + (m + 1):=⟨n - k - 1,by omega⟩
   subst hm
   rw [gb (m + 1) k _ λr h1 h2 c hc=>?_]
   · have:det (m + 1) (λi j=>if k<=k + i/\k + i < k + (k + (m + 1) - k) then bm Y k (k + i) (k + j) else Y (k + i) (k + j))=0:=by
       rw [det]
       refine cO λi hi=>?_
       rw [if_pos (by omega),Ik,h (k + i) (by omega) (by omega)]
       grind
     rw [this,GJ]
   · rw [if_pos (by omega)]
     exact oF hc
 rw [z] at e
 rcases Kn.mp e.symm with y | y
 · exact absurd y (vL h0 _)
 · exact y
noncomputable def rho (k m r:Nat):Nat:=if r < k then r else if r=k then k + m else if r<=k + m then r - 1 else r
theorem nr {n:Nat}:∀ (m:Nat) (Y:Nat->Nat->Rat),k + m < n->(det n λr=>Y (rho k m r))=sgn m * det n Y
 | 0,Y,_=>by
   have:(λr=>Y (rho k 0 r))=Y:=by
     funext r
     congr 1
     unfold rho
     split
     · rfl
     · split
       · omega
       · split <;> omega
   rw [this]
   show _=1 * _
   rw [Gx]
 | m + 1,Y,h=>by
   have ih:=nr (n:=n) m (au (au Y (k + m) (Y (k + m + 1))) (k + m + 1) (Y (k + m))) (by omega)
   have s:=(fI n).nb Y (p:=k + m) (by omega) (Y (k + m + 1)) (Y (k + m))
   rw [bC,bC] at s
   rw [s] at ih
   rw [fL]
   have e:(λr=>au (au Y (k + m) (Y (k + m + 1))) (k + m + 1) (Y (k + m)) (rho k m r))=λr=>Y (rho k (m + 1) r):=by
     funext r
     by_cases z:rho k m r=k + m + 1
     · rw [z,bP]
       congr 1
       unfold rho at z ⊢
       split at z
       · omega
       · split at z
         · omega
         · split at z
           · omega
           · rename_i a b c
             rw [if_neg a,if_neg b,if_pos (by omega)]
             omega
     · rw [bQ z]
       by_cases y:rho k m r=k + m
       · rw [y,bP]
         congr 1
         unfold rho at y z ⊢
         split at y
         · omega
         · split at y
           · rename_i a b
             rw [if_neg a,if_pos b]
             omega
           · split at y
             · omega
             · omega
       · rw [bQ y]
         congr 1
         unfold rho at y z ⊢
         split at y
         · rename_i a
           rw [if_pos a,if_pos a]
         · rename_i a
           rw [if_neg a] at z
           split at y
           · omega
           · rename_i b
             rw [if_neg b] at z
             rw [if_neg a,if_neg b,if_neg a,if_neg b]
             split at y
             · rename_i c
               rw [if_pos c,if_pos (by omega)]
             · rename_i c
               rw [if_neg c] at z
               rw [if_neg c,if_neg (by omega)]
   rw [e] at ih
   rw [ih]
   grind
theorem A4 {m:Nat}:bm (λr=>Y (rho k m r)) k p q=bm Y k (rho k m p) q:=by
 refine aO λr hr c hc=>?_
 dsimp only
 congr 1
 by_cases z:r < k
 · rw [if_pos z,if_pos z]
   unfold rho
   rw [if_pos z]
 · rw [if_neg z,if_neg z]
theorem mJ {m:Nat}:(det k λr=>Y (rho k m r))=det k Y:=aO λr hr c hc=>by
 unfold rho
 rw [if_pos hr]
end
noncomputable def ZB (b:Nat) (x:Rat):Prop:=∃ z:Int,x=(z:Rat)/\z.natAbs<=2 ^ b
theorem ZB.mono {b c:Nat} {x:Rat} (h:ZB b x) (hc:b<=c):ZB c x:=by
 obtain ⟨z,e,l⟩:=h
 exact ⟨z,e,Fz l (FW (by decide) hc)⟩
theorem ZB.mul {b c:Nat} {x y:Rat} (h:ZB b x) (g:ZB c y):ZB (b + c) (x * y):=by
 obtain ⟨u,rfl,l⟩:=h
 obtain ⟨v,rfl,k⟩:=g
 exact ⟨u * v,(FZ u v).symm,by rw [Gj,HH]; exact Gr l k⟩
theorem ZB.sgn (i:Nat):ZB 0 (sgn i):=by
 show ZB 0 (if i % 2=0 then 1 else -1)
 split
 · exact ⟨1,rfl,by decide⟩
 · exact ⟨-1,rfl,by decide⟩
theorem ZB.sum {b:Nat} {f:Nat->Rat}:∀ {n:Nat},(∀ i < n,ZB b (f i))->∃ z:Int,aA f n=(z:Rat)/\z.natAbs<=n * 2 ^ b
 | 0,_=>⟨0,rfl,FR _⟩
 | n + 1,h=>by
   obtain ⟨u,e,l⟩:=ZB.sum λi hi=>h i (IV hi)
   obtain ⟨v,e',l'⟩:=h n (Jg n)
   refine ⟨u + v,by rw [aA,e,e',Iu],?_⟩
   rw [GK]
   exact Fz (Int.natAbs_add_le _ _) (Nat.add_le_add l l')
theorem xo {b:Nat}:∀ {n:Nat} {M:Nat->Nat->Rat},n<=8->(∀ i < n,∀ j < n,ZB b (M i j))->ZB (n * (b + 3)) (det n M)
 | 0,_,_,_=>⟨1,rfl,Nat.one_le_two_pow⟩
 | n + 1,M,hn,h=>by
   obtain ⟨z,e,l⟩:=ZB.sum (b:=b + n * (b + 3)) (f:=λi=>sgn i * M i 0 * det n (minor M i)) (n:=n + 1) λi hi=>by
     have:=((ZB.sgn i).mul (h i hi 0 (by omega))).mul (xo (n:=n) (M:=minor M i) (by omega) λr hr c hc=>h _ (kL hr) _ (by omega))
     exact this.mono (by omega)
   refine ⟨z,e,Fz l ?_⟩
   rw [show (n + 1) * (b + 3)=3 + (b + n * (b + 3)) by rw [GK]; omega,HH 2 3]
   exact FO _ (by omega)
noncomputable def hZ (s:Nat->Rat):Nat->Rat
 | 0=>1
 | n + 1=>hZ s n * s n
theorem iY {n:Nat} (s:Nat->Rat) (M:Nat->Nat->Rat):∀ t,t<=n->det n (λi j=>if i < t then s i * M i j else M i j)=hZ s t * det n M
 | 0,_=>by
   rw [hZ,Gx]
   exact aO λi _ j _=>if_neg (Gb _)
 | t + 1,h=>by
   have ih:=iY (n:=n) s M t (by omega)
   have c:=(fI n).comb (λi j=>if i < t then s i * M i j else M i j) (p:=t) (k:=0) (by omega) (FR _) (s t) (λ_=>0)
   rw [ih] at c
   rw [hZ,Hr (hZ s t),GN,<- c]
   refine aO λi _ j _=>?_
   unfold au
   by_cases q:i=t
   · subst q
     rw [if_pos (Jg i),if_pos rfl]
     dsimp only
     rw [if_neg (F4 i)]
     show _=_ + 0
     rw [Gq]
   · rw [if_neg q]
     dsimp only
     by_cases z:i < t
     · rw [if_pos (by omega),if_pos z]
     · rw [if_neg (by omega),if_neg z]
theorem ZB.num {b:Nat} {x:Rat} (h:ZB b x):x=(x.num:Rat)/\x.num.natAbs<=2 ^ b:=by
 obtain ⟨z,rfl,l⟩:=h
 rw [Iq]
 exact ⟨rfl,l⟩
noncomputable def rq (k:Int) (j:Nat):Bool:=decide (J8 (k / 2 ^ j) 1=1)
noncomputable def lO (k:Int) (j:Nat):Int:=Kq k (1 * 2 ^ j)
noncomputable def sgZ (b:Int):Int:=1 - 2 * b.fmod 2
noncomputable def kf (row:List Int) (k v:Int) (j:Nat) (s:Int × List (Int × Int)):Int × List (Int × Int):=
 if rq k j then (s.1 + 1,s.2) else (s.1,ft s.2 (lO k j) ((bK s.2 (lO k j)).getD 0 + sgZ s.1 * row.getD j 0 * v))
noncomputable def b8 (n:Nat) (row:List Int) (k v:Int) (kv:List (Int × Int)):Nat->Int × List (Int × Int)
 | 0=>(0,kv)
 | c + 1=>kf row k v (n - 1 - c) (b8 n row k v kv c)
noncomputable def bj (n:Nat) (row:List Int) (kv:List (Int × Int)):Nat->List (Int × Int)
 | 0=>[]
 | t + 1=>(b8 n row (kv.getD t (0,0)).1 ((bK kv (kv.getD t (0,0)).1).getD 0) (bj n row kv t) n).2
noncomputable def lim:Nat:=2 ^ 3900
theorem vz (m:Nat) (Y:Nat->Nat->Rat):det (m + 1) Y=aA (λc=>sgn (m + c) * Y m c * det m λr q=>Y r (skp c q)) (m + 1):=by
 have e1:=nr (k:=0) (n:=m + 1) m Y (by omega)
 have e2:=jC (m + 1) λr=>Y (rho 0 m r)
 rw [det] at e2
 have r0:rho 0 m 0=m:=by unfold rho; rw [if_neg (by omega),if_pos rfl]; omega
 have rs:∀ r,r < m->rho 0 m (r + 1)=r:=λr hr=>by
   unfold rho
   rw [if_neg (by omega),if_neg (by omega),if_pos (by omega)]
   omega
 have e3:aA (λc=>sgn c * Y m c * det m λr q=>Y r (skp c q)) (m + 1)=sgn m * det (m + 1) Y:=by
   rw [<- e1,<- e2]
   refine az λc _=>?_
   rw [r0,<- jC m]
   congr 1
   exact aO λr hr q hq=>by
     unfold minor
     dsimp only
     rw [rs q hq]
 have sm:∀ c,sgn (m + c)=sgn m * sgn c:=λc=>by
   induction c with
   | zero=>rw [Ik,show sgn 0=1 from rfl,Ir]
   | succ c ih=>rw [<- Hu,fL,ih,fL]; grind
 have:aA (λc=>sgn (m + c) * Y m c * det m λr q=>Y r (skp c q)) (m + 1)=sgn m * aA (λc=>sgn c * Y m c * det m λr q=>Y r (skp c q)) (m + 1):=by
   rw [bF]
   refine az λc _=>?_
   rw [sm]
   grind
 rw [this,e3,<- GN,xO,Gx]
noncomputable def dn (M:Nat->Nat->Rat) (L:List Nat):Rat:=det L.length λr c=>M r (L.getD c 0)
theorem kB {M:Nat->Nat->Rat} {L:List Nat} {m:Nat} (h:L.length=m + 1):dn M L=aA (λc=>sgn (m - c) * M m (L.getD c 0) * dn M (L.eraseIdx c)) (m + 1):=by
 unfold dn
 rw [h,vz]
 refine az λc hc=>?_
 have e1:sgn (m + c)=sgn (m - c):=by
   unfold sgn
   by_cases z:(m + c) % 2=0
   · rw [if_pos z,if_pos (by omega)]
   · rw [if_neg z,if_neg (by omega)]
 have e2:(L.eraseIdx c).length=m:=by rw [Gm (by omega)]; omega
 rw [e1,e2]
 refine congrArg (λx=>sgn (m - c) * M m (L.getD c 0) * x) (aO λr _ q hq=>?_)
 rw [Fm,Fm,KU]
 unfold skp
 split <;> rfl
noncomputable def cols (n S:Nat):List Nat:=(Fd n).filter λj=>S.testBit j
theorem pW {n S j:Nat}:j ∈ cols n S ↔ j < n/\S.testBit j=true:=by
 unfold cols
 rw [Hn,FN]
theorem yN {n S j:Nat} (hj:j < n) (h:S.testBit j=false):cols n (S ||| 2 ^ j)=(cols j S)++j :: ((Fd (n - (j + 1))).map (j + 1 + ·)).filter (λk=>S.testBit k):=by
 unfold cols
 obtain ⟨d,rfl⟩:=Jd (show j + 1<=n from hj)
 rw [List.range_add,F3,Gg,Gg,show j + 1 + d - (j + 1)=d by omega,GB]
 have lo:(Fd j).filter (λk=>(S ||| 2 ^ j).testBit k)=(Fd j).filter λk=>S.testBit k:=Ib λk hk=>by
   have:=FN.mp hk
   rw [Ie,He (by omega),IZ]
 have hi:((Fd d).map (j + 1 + ·)).filter (λk=>(S ||| 2 ^ j).testBit k)=((Fd d).map (j + 1 + ·)).filter λk=>S.testBit k:=Ib λk hk=>by
   obtain ⟨q,_,rfl⟩:=Fj.mp hk
   rw [Ie,He (by omega),IZ]
 rw [lo,hi,IX (by rw [Ie,HJ,J0]),Js]
 rfl
noncomputable def above (n j S:Nat):List Nat:=((Fd (n - (j + 1))).map (j + 1 + ·)).filter λk=>S.testBit k
theorem rJ {n S j:Nat} (hj:j < n) (h:S.testBit j=false):cols n S=cols j S++above n j S:=by
 unfold cols above
 obtain ⟨d,rfl⟩:=Jd (show j + 1<=n from hj)
 rw [List.range_add,F3,Gg,Gg,show j + 1 + d - (j + 1)=d by omega,KN (by rw [h]; decide),Js,Gh]
theorem lE {n S j:Nat} (hj:j < n) (h:S.testBit j=false):(cols n (S ||| 2 ^ j)).length=(cols n S).length + 1/\(cols n (S ||| 2 ^ j)).getD (cols j S).length 0=j/\(cols n (S ||| 2 ^ j)).eraseIdx (cols j S).length=cols n S/\(cols n S).length - (cols j S).length=(above n j S).length/\(cols j S).length<=(cols n S).length:=by
 rw [yN hj h,rJ hj h]
 refine ⟨by simp only [Fw,Ga]; rfl,?_,?_,by rw [Fw]; omega,by rw [Fw]; omega⟩
 · rw [Fm,F0 (Fc _),Jx]
   rfl
 · rw [List.eraseIdx_append_of_length_le (Fc _),Jx]
   rfl
theorem uu (n S:Nat):cols (n + 1) S=if S.testBit n then cols n S++[n] else cols n S:=by
 unfold cols
 rw [F3,Gg]
 cases h:S.testBit n with
 | true=>rw [IX h,Js,if_pos rfl]
 | false=>rw [KN (by rw [h]; decide),Js,Gh,if_neg (by decide)]
theorem qD (G:Nat->Nat->Rat) (S:Nat):∀ n,aA (λc=>G c ((cols n S).getD c 0)) (cols n S).length=aA (λj=>if S.testBit j then G (cols j S).length j else 0) n
 | 0=>rfl
 | n + 1=>by
   rw [uu,aA,<- qD G S n]
   cases h:S.testBit n with
   | true=>
     rw [if_pos rfl,if_pos rfl,Fw,Jp,aA]
     have e1:(cols n S++[n]).getD (cols n S).length 0=n:=by
       rw [Fm,F0 (Fc _),Jx]
       rfl
     rw [e1]
     refine congrArg (· + G (cols n S).length n) (az λc hc=>?_)
     rw [Fm,FG hc,<- Fm]
   | false=>rw [if_neg (by decide),if_neg (by decide),Gq]
theorem g9 {S j:Nat} (h:S.testBit j=true):(S ^^^ 2 ^ j).testBit j=false/\(S ^^^ 2 ^ j) ||| 2 ^ j=S/\∀ k,k ≠ j->(S ^^^ 2 ^ j).testBit k=S.testBit k:=by
 have a:∀ k,k ≠ j->(S ^^^ 2 ^ j).testBit k=S.testBit k:=λk hk=>by rw [Nat.testBit_xor,He (GG hk),Bool.xor_false]
 have b:(S ^^^ 2 ^ j).testBit j=false:=by rw [Nat.testBit_xor,HJ,h]; rfl
 refine ⟨b,JD λk=>?_,a⟩
 rw [Ie]
 by_cases z:k=j
 · subst z
   rw [HJ,J0,h]
 · rw [a k z,He (GG z),IZ]
theorem ux {M:Nat->Nat->Rat} {n m S:Nat} (h:(cols n S).length=m + 1):dn M (cols n S)=aA (λj=>if S.testBit j then sgn (above n j S).length * M m j * dn M (cols n (S ^^^ 2 ^ j)) else 0) n:=by
 rw [kB h,<- h,qD (λc j=>sgn (m - c) * M m j * dn M ((cols n S).eraseIdx c)) S n]
 refine az λj hj=>?_
 cases hb:S.testBit j with
 | false=>rfl
 | true=>
   rw [if_pos rfl,if_pos rfl]
   obtain ⟨b1,b2,b3⟩:=g9 hb
   obtain ⟨c1,c2,c3,c4,c5⟩:=lE hj b1
   rw [b2] at c1 c2 c3
   have l1:cols j (S ^^^ 2 ^ j)=cols j S:=Ib λk hk=>b3 k (by have:=FN.mp hk; omega)
   have l2:above n j (S ^^^ 2 ^ j)=above n j S:=Ib λk hk=>by
     obtain ⟨q,_,rfl⟩:=Fj.mp hk
     exact b3 _ (by omega)
   rw [l1] at c3 c4
   rw [l2] at c4
   rw [c3,<- c4,show (cols n (S ^^^ 2 ^ j)).length=m by omega]
theorem Dk (S j:Nat):rq (S:Int) j=S.testBit j:=by
 unfold rq
 have e:(S:Int) / 2 ^ j=((S / 2 ^ j:Nat):Int):=by simp
 rw [e,PyProof.Rows.bitAnd_pp (Hl _) (by decide),Fq,Nat.testBit_eq_decide_div_mod_eq]
 have:(S / 2 ^ j) &&& (1:Int).toNat=S / 2 ^ j % 2:=by show (S / 2 ^ j) &&& 1=_; rw [Nat.and_one_is_mod]
 rw [this]
 congr 1
 rw [eq_iff_iff]
 omega
theorem DA (S j:Nat):lO (S:Int) j=((S ||| 2 ^ j:Nat):Int):=by
 unfold lO
 have e:(1:Int) * 2 ^ j=((2 ^ j:Nat):Int):=by simp
 rw [e]
 generalize 2 ^ j=y
 unfold Builtin.bitOr
 have h1:¬ (0<=Jn (S:Int)):=by unfold Builtin.bitNot; omega
 have h2:¬ (0<=Jn (y:Int)):=by unfold Builtin.bitNot; omega
 rw [PyProof.Rows.bitAnd_nn h1 h2]
 have h3:∀ x:Int,Jn (Jn x)=x:=λx=>by unfold Builtin.bitNot; omega
 rw [h3,h3,h3,Fq,Fq]
theorem EY (k:Nat):((sgZ (k:Int):Int):Rat)=sgn k:=by
 unfold sgZ sgn
 rw [FU _ (by decide)]
 by_cases h:k % 2=0
 · rw [if_pos h,show (k:Int) % 2=0 by omega]; rfl
 · rw [if_neg h,show (k:Int) % 2=1 by omega]; rfl
theorem nX (kv:List (Int × Int)) (k v j:Int):bK (ft kv k v) j=if j=k then some v else bK kv j:=by
 have e:=xf (Ev.bG kv) (HS k) (HS j) (V.int v)
 rw [tT,iz,iz] at e
 by_cases h:j=k
 · rw [if_pos (congrArg HS h)] at e
   rw [if_pos h]
   cases z:bK (ft kv k v) j with
   | none=>rw [z] at e; cases e
   | some x=>rw [z] at e; cases e; rfl
 · rw [if_neg (λz=>h (JU z))] at e
   rw [if_neg h]
   cases z:bK (ft kv k v) j <;> cases z':bK kv j <;> rw [z,z'] at e <;> cases e <;> rfl
theorem qt (kv:List (Int × Int)) (k v:Int):(ft kv k v).map (·.1)=if (kv.any λp=>decide (p.1=k))=true then kv.map (·.1) else kv.map (·.1)++[k]:=by
 unfold ft
 split
 · rw [Fx]
   refine F6 λp _=>?_
   simp only [Ih]
   split <;> rfl
 · rw [FE]; rfl
theorem Cp {kv:List (Int × Int)} {k v:Int} (h:(kv.map (·.1)).Nodup):((ft kv k v).map (·.1)).Nodup:=by
 rw [qt]
 split
 · exact h
 · rename_i z
   rw [Gk]
   refine ⟨h,by simp,λa ha b hb e=>z ?_⟩
   obtain ⟨p,hp,rfl⟩:=Fj.mp ha
   rw [Ff] at hb
   exact List.any_eq_true.mpr ⟨p,hp,decide_eq_true (e.trans hb)⟩
theorem yI {kv:List (Int × Int)} {k v x:Int} (h:x ∈ (ft kv k v).map (·.1)):x=k\/x ∈ kv.map (·.1):=by
 rw [qt] at h
 split at h
 · exact .inr h
 · rcases Fs.mp h with h | h
   · exact .inr h
   · exact .inl (Ff.mp h)
theorem qL:∀ {kv:List (Int × Int)} {q:Int × Int},(kv.map (·.1)).Nodup->q ∈ kv->bK kv q.1=some q.2
 | p :: t,q,h,hq=>by
   rw [FJ,F8] at h
   unfold bK
   by_cases z:p.1=q.1
   · rw [Jh (by simp [z])]
     rcases Fv.mp hq with e | hq
     · rw [e]; rfl
     · exact absurd (Fj.mpr ⟨q,hq,z.symm⟩) h.1
   · rw [Ji (by simp [z])]
     rcases Fv.mp hq with e | hq
     · exact absurd (by rw [e]) z
     · exact qL h.2 hq
theorem wm:∀ {kv:List (Int × Int)} {k v:Int},bK kv k=some v->(k,v) ∈ kv
 | p :: t,k,v,h=>by
   unfold bK at h
   by_cases z:p.1=k
   · rw [Jh (by simp [z])] at h
     cases h
     rw [<- z]
     exact Fi ..
   · rw [Ji (by simp [z])] at h
     exact Fh _ (wm h)
noncomputable def gv (kv:List (Int × Int)) (k:Int):Rat:=(((bK kv k).getD 0:Int):Rat)
theorem BQ (kv:List (Int × Int)) (k j x:Int):gv (ft kv k ((bK kv k).getD 0 + x)) j=gv kv j + if j=k then (x:Rat) else 0:=by
 unfold gv
 rw [nX]
 by_cases h:j=k
 · rw [if_pos h,if_pos h,h,IU,Iu]
 · rw [if_neg h,if_neg h,Gq]
theorem qP {n j S:Nat} (h:j + 1 < n):(above n j S).length=(if S.testBit (j + 1) then 1 else 0) + (above n (j + 1) S).length:=by
 unfold above
 obtain ⟨d,rfl⟩:=Jd (show j + 2<=n from h)
 rw [show j + 2 + d - (j + 1)=d + 1 by omega,show j + 2 + d - (j + 1 + 1)=d by omega,G4,FJ,Fx,Gv]
 have e:(Fd d).map ((j + 1 + ·) ∘ KS)=(Fd d).map (j + 1 + 1 + ·):=F6 λk _=>by simp only [Ih]; omega
 rw [e,Ik]
 split
 · rw [Ga]; omega
 · omega
theorem sa {n S:Nat}:(above (n + 1) n S).length=0:=by
 unfold above
 rw [show n + 1 - (n + 1)=0 by omega]
 rfl
theorem lN (g:Nat->Rat):∀ n,aA g (n + 1)=g 0 + aA (λk=>g (k + 1)) n
 | 0=>by simp only [aA,Gq,Rat.zero_add]
 | n + 1=>by
   rw [aA,lN g n,aA,Rat.add_assoc]
theorem qx (f:Nat->Rat):∀ n,aA (λt=>f (n - 1 - t)) n=aA f n
 | 0=>rfl
 | n + 1=>by
   rw [lN,aA,Rat.add_comm,show n + 1 - 1 - 0=n by omega,<- qx f n]
   refine congrArg (· + f n) (az λk hk=>?_)
   rw [show n + 1 - 1 - (k + 1)=n - 1 - k by omega]
noncomputable def qS (n S:Nat):Nat->Nat
 | 0=>0
 | c + 1=>qS n S c + if S.testBit (n - 1 - c) then 1 else 0
theorem mv {n S:Nat}:∀ c,c < n->qS n S c=(above n (n - 1 - c) S).length
 | 0,h=>by
   obtain ⟨m,rfl⟩:=Nat.exists_eq_succ_of_ne_zero (show n ≠ 0 by omega)
   rw [show m.succ - 1 - 0=m by omega,sa]
   rfl
 | c + 1,h=>by
   rw [qS,mv c (by omega),qP (n:=n) (j:=n - 1 - (c + 1)) (by omega),show n - 1 - (c + 1) + 1=n - 1 - c by omega]
   omega
noncomputable def evQ (n:Nat) (row:List Int) (S:Nat) (v:Rat) (T:Int) (j:Nat):Rat:=if S.testBit j then 0 else if T=((S ||| 2 ^ j:Nat):Int) then sgn (above n j S).length * ((row.getD j 0:Int):Rat) * v else 0
structure CI (n S:Nat) (row:List Int) (v:Int) (lk:List (Int × Int)) (c:Nat) (r:Int × List (Int × Int)):Prop where
 cnt:r.1=(qS n S c:Nat)
 val:∀ T,gv r.2 T=gv lk T + aA (λt=>evQ n row S v T (n - 1 - t)) c
 key:∀ x ∈ r.2.map (·.1),x ∈ lk.map (·.1)\/∃ j,j < n/\S.testBit j=false/\x=((S ||| 2 ^ j:Nat):Int)
 nd:(r.2.map (·.1)).Nodup
 old:∀ T,bK lk T ≠ none->bK r.2 T ≠ none
 new:∀ t < c,S.testBit (n - 1 - t)=false->bK r.2 ((S ||| 2 ^ (n - 1 - t):Nat):Int) ≠ none
theorem tY {n S:Nat} {row:List Int} {v:Int} {lk:List (Int × Int)} (hn:(lk.map (·.1)).Nodup):∀ c,c<=n->CI n S row v lk c (b8 n row (S:Int) v lk c)
 | 0,_=>⟨rfl,λT=>by rw [aA,Gq]; rfl,λx h=>.inl h,hn,λ_ h=>h,λt h=>by omega⟩
 | c + 1,hc=>by
   obtain ⟨h1,h2,h3,h4,h5,h6⟩:=tY (n:=n) (S:=S) (row:=row) (v:=v) hn c (by omega)
   rw [b8,kf,Dk,DA]
   generalize b8 n row (S:Int) v lk c=r at h1 h2 h3 h4 h5 h6 ⊢
   cases hb:S.testBit (n - 1 - c) with
   | true=>
     rw [if_pos rfl]
     refine ⟨by dsimp only; rw [h1,qS,hb,if_pos rfl]; omega,λT=>?_,h3,h4,h5,λt ht hf=>?_⟩
     · rw [aA,evQ,if_pos hb,Gq]; exact h2 T
     · rcases GQ t c with z | z
       · exact h6 t z hf
       · obtain rfl:t=c:=by omega
         rw [hb] at hf; cases hf
   | false=>
     rw [if_neg (by decide)]
     refine ⟨by dsimp only; rw [h1,qS,hb]; rfl,λT=>?_,λx hx=>?_,Cp h4,λT hT=>?_,λt ht hf=>?_⟩
     · dsimp only
       have e:evQ n row S v T (n - 1 - c)=if T=((S ||| 2 ^ (n - 1 - c):Nat):Int) then sgn (qS n S c) * ((row.getD (n - 1 - c) 0:Int):Rat) * v else 0:=by
         unfold evQ
         rw [if_neg (by rw [hb]; decide),<- mv (n:=n) (S:=S) c (by omega)]
       rw [BQ,h2,aA,<- Rat.add_assoc,e,h1,FZ,FZ,EY]
     · rcases yI hx with e | e
       · exact .inr ⟨n - 1 - c,by omega,hb,e⟩
       · exact h3 x e
     · dsimp only
       rw [nX]
       split
       · exact nofun
       · exact h5 T hT
     · dsimp only
       rw [nX]
       split
       · exact nofun
       · rename_i z
         rcases GQ t c with y | y
         · exact h6 t y hf
         · obtain rfl:t=c:=by omega
           exact absurd rfl z
structure MI (n:Nat) (row:List Int) (Sf:Nat->Nat) (vf:Nat->Rat) (t:Nat) (r:List (Int × Int)):Prop where
 val:∀ T,gv r T=aA (λs=>aA (evQ n row (Sf s) (vf s) T) n) t
 key:∀ x ∈ r.map (·.1),∃ s < t,∃ j,j < n/\(Sf s).testBit j=false/\x=((Sf s ||| 2 ^ j:Nat):Int)
 nd:(r.map (·.1)).Nodup
 new:∀ s < t,∀ j < n,(Sf s).testBit j=false->bK r ((Sf s ||| 2 ^ j:Nat):Int) ≠ none
theorem qj {n:Nat} {row:List Int} {kv:List (Int × Int)} {Sf:Nat->Nat} (hS:∀ s < kv.length,(kv.getD s (0,0)).1=(Sf s:Int)):∀ t,t<=kv.length->MI n row Sf (λs=>gv kv (Sf s)) t (bj n row kv t)
 | 0,_=>⟨λT=>rfl,λx h=>by simp [bj] at h,by simp [bj],λs h=>by omega⟩
 | t + 1,ht=>by
   obtain ⟨h1,h2,h3,h4⟩:=qj (n:=n) (row:=row) hS t (by omega)
   rw [bj,hS t (by omega)]
   generalize bj n row kv t=r at h1 h2 h3 h4 ⊢
   obtain ⟨_,c2,c3,c4,c5,c6⟩:=tY (n:=n) (S:=Sf t) (row:=row) (v:=(bK kv (Sf t:Int)).getD 0) h3 n (Fc _)
   refine ⟨λT=>?_,λx hx=>?_,c4,λs hs j hj hf=>?_⟩
   · rw [c2,h1,aA,qx (evQ n row (Sf t) _ T)]
     rfl
   · rcases c3 x hx with e | ⟨j,e⟩
     · obtain ⟨s,hs,e⟩:=h2 x e
       exact ⟨s,by omega,e⟩
     · exact ⟨t,by omega,j,e⟩
   · rcases GQ s t with z | z
     · exact c5 _ (h4 s z j hj hf)
     · obtain rfl:s=t:=by omega
       have:=c6 (n - 1 - j) (by omega)
       rw [show n - 1 - (n - 1 - j)=j by omega] at this
       exact this hf
structure RI (n i:Nat) (M:Nat->Nat->Rat) (kv:List (Int × Int)):Prop where
 key:∀ x ∈ kv.map (·.1),∃ S:Nat,x=(S:Int)/\S < 2 ^ n/\(cols n S).length=i
 nd:(kv.map (·.1)).Nodup
 all:∀ S:Nat,S < 2 ^ n->(cols n S).length=i->bK kv (S:Int) ≠ none/\gv kv (S:Int)=dn M (cols n S)
theorem yh {S T j:Nat} (h:S.testBit j=false) (e:T=S ||| 2 ^ j):T.testBit j=true/\S=T ^^^ 2 ^ j:=by
 have h1:T.testBit j=true:=by rw [e,Ie,HJ,J0]
 refine ⟨h1,JD λk=>?_⟩
 obtain ⟨b1,_,b3⟩:=g9 h1
 by_cases z:k=j
 · subst z; rw [h,b1]
 · rw [b3 k z,e,Ie,He (GG z),IZ]
theorem RI.step {n i:Nat} {M:Nat->Nat->Rat} {kv:List (Int × Int)} {row:List Int} (h:RI n i M kv) (hr:∀ j < n,((row.getD j 0:Int):Rat)=M i j):RI n (i + 1) M (bj n row kv kv.length):=by
 have hS:∀ s < kv.length,(kv.getD s (0,0)).1=((kv.getD s (0,0)).1.toNat:Int)/\(kv.getD s (0,0)).1.toNat < 2 ^ n/\(cols n (kv.getD s (0,0)).1.toNat).length=i:=λs hs=>by
   have hm:kv.getD s (0,0) ∈ kv:=by rw [Fm,Fe hs]; exact J7 hs
   obtain ⟨S,e1,e2,e3⟩:=h.key _ (Fj.mpr ⟨_,hm,rfl⟩)
   rw [e1,Fq]
   exact ⟨rfl,e2,e3⟩
 obtain ⟨m1,m2,m3,m4⟩:=qj (n:=n) (row:=row) (kv:=kv) (Sf:=λs=>(kv.getD s (0,0)).1.toNat) (λs hs=>(hS s hs).1) kv.length (Fc _)
 have off:∀ {T j:Nat},T < 2 ^ n->(cols n T).length=i + 1->j < n->T.testBit j=true->T ^^^ 2 ^ j < 2 ^ n/\(cols n (T ^^^ 2 ^ j)).length=i/\∃ s < kv.length,(kv.getD s (0,0)).1.toNat=T ^^^ 2 ^ j:=λ{T j} hT hl hj hb=>by
   obtain ⟨b1,b2,_⟩:=g9 hb
   have l1:T ^^^ 2 ^ j < 2 ^ n:=Nat.xor_lt_two_pow hT (JC (by decide) hj)
   have l2:=(lE hj b1).1
   rw [b2,hl] at l2
   refine ⟨l1,by omega,?_⟩
   obtain ⟨q,_⟩:=h.all _ l1 (by omega)
   cases z:bK kv ((T ^^^ 2 ^ j:Nat):Int) with
   | none=>exact absurd z q
   | some v=>
     obtain ⟨s,hs⟩:=List.getElem?_of_mem (wm z)
     refine ⟨s,(Fn.mp hs).1,?_⟩
     rw [Fm,hs]
     show (((T ^^^ 2 ^ j:Nat):Int)).toNat=_
     rw [Fq]
 refine ⟨λx hx=>?_,m3,λT hT hl=>⟨?_,?_⟩⟩
 · obtain ⟨s,hs,j,hj,hf,rfl⟩:=m2 x hx
   obtain ⟨_,e2,e3⟩:=hS s hs
   exact ⟨_,rfl,Nat.or_lt_two_pow e2 (JC (by decide) hj),by rw [(lE hj hf).1,e3]⟩
 · obtain ⟨j,hj⟩:=List.exists_mem_of_length_pos (l:=cols n T) (by omega)
   obtain ⟨hj,hb⟩:=pW.mp hj
   obtain ⟨_,_,s,hs,e⟩:=off hT hl hj hb
   obtain ⟨b1,b2,_⟩:=g9 hb
   have:=m4 s hs j hj
   try dsimp only at this
   rw [e,b2] at this
   exact this b1
 · rw [m1,iV (λs j=>evQ n row (kv.getD s (0,0)).1.toNat (gv kv ((kv.getD s (0,0)).1.toNat:Int)) (T:Int) j) n kv.length,ux hl]
   refine az λj hj=>?_
   cases hb:T.testBit j with
   | false=>
     rw [if_neg (by decide)]
     refine cO λs hs=>?_
     unfold evQ
     cases hf:(kv.getD s (0,0)).1.toNat.testBit j with
     | true=>rw [if_pos rfl]
     | false=>
       rw [if_neg (by decide),if_neg λz=>?_]
       have:=(yh hf (Int.ofNat.inj z)).1
       rw [hb] at this; cases this
   | true=>
     rw [if_pos rfl]
     obtain ⟨l1,l2,s0,hs0,e0⟩:=off hT hl hj hb
     obtain ⟨b1,b2,b3⟩:=g9 hb
     have ea:above n j (T ^^^ 2 ^ j)=above n j T:=Ib λk hk=>by
       obtain ⟨q,_,rfl⟩:=Fj.mp hk
       exact b3 _ (by omega)
     rw [<- (h.all _ l1 l2).2,<- hr j hj,<- ea,<- cP (λ_=>sgn (above n j (T ^^^ 2 ^ j)).length * ((row.getD j 0:Int):Rat) * gv kv ((T ^^^ 2 ^ j:Nat):Int)) s0 kv.length hs0]
     refine az λs hs=>?_
     unfold evQ dq
     by_cases z:s=s0
     · subst z
       rw [e0,b1,b2,if_neg (by decide),if_pos rfl,if_pos rfl,Ir]
     · rw [if_neg z,GJ]
       cases hf:(kv.getD s (0,0)).1.toNat.testBit j with
       | true=>rw [if_pos rfl]
       | false=>
         rw [if_neg (by decide),if_neg λy=>z ?_]
         have e1:=(yh hf (Int.ofNat.inj y)).2
         have e2:(kv.map (·.1))[s]?=(kv.map (·.1))[s0]?:=by
           have g:∀ s < kv.length,(kv.map (·.1))[s]?=some (kv.getD s (0,0)).1:=λs hs=>by
             rw [FL,Fm,Fe hs]; rfl
           rw [g s hs,g s0 hs0,(hS s hs).1,(hS s0 hs0).1,e1,e0]
         exact (List.getElem?_inj (by rw [E9]; exact hs) h.nd).mp e2
theorem RI.zero (n:Nat) (M:Nat->Nat->Rat):RI n 0 M [(0,1)]:=by
 have c0:∀ S:Nat,S < 2 ^ n->(cols n S).length=0->S=0:=λS hS h=>JD λk=>by
   rw [Nat.zero_testBit]
   rcases GQ k n with z | z
   · cases hb:S.testBit k with
     | false=>rfl
     | true=>
       have:=pW.mpr ⟨z,hb⟩
       rw [HM.mp h] at this
       cases this
   · exact Nat.testBit_lt_two_pow (Fy hS (FW (by decide) z))
 refine ⟨λx hx=>⟨0,?_,GH n,?_⟩,by simp,λS hS h=>?_⟩
 · simpa using hx
 · unfold cols
   rw [List.filter_eq_nil_iff.mpr λa _=>by rw [Nat.zero_testBit]; decide]
   rfl
 · obtain rfl:=c0 S hS h
   refine ⟨nofun,?_⟩
   rw [dn,h]
   rfl
section
variable {P:Program} {w:World} {K:Fb} {mg:Str->Option Value} {base:Heap} {k:Nat} {f:Addr} {fd:FuncData} {qual:Str}
end
noncomputable def kU:Int->List Int->List Int
 | _,[]=>[]
 | c,b :: r=>c.fmod b :: kU (c.fdiv b) r
noncomputable def Ab (c:Int) (bs:List Int):Int:=bs.foldl (λc b=>c.fdiv b) c
noncomputable def Bu (c:Int) (k:Nat) (b:Int):Int:=(((((c * 48271 + (k:Int) * k * 69621 + (k:Int) * 16807 + 11).fmod 2147483647) * 40692 + c + 31 * (k:Int)).fmod 2147483399).fdiv 7).fmod b
noncomputable def zR (c:Int) (bs:List Int):List Int:=(Fd bs.length).map λk=>Bu c k (bs.getD k 0)
noncomputable def nums (c:Int) (bs:List Int):List Int:=if (10:Int) ^ (18:Int).toNat<=lZ c then kU c bs else zR c bs
theorem m6:∀ (bs:List Int) (c b:Int),kU c (bs++[b])=kU c bs++[(Ab c bs).fmod b]
 | [],_,_=>rfl
 | a :: bs,c,b=>by rw [Gi,kU,kU,m6 bs]; rfl
theorem lg:∀ (bs:List Int) (c:Int),(kU c bs).length=bs.length
 | [],_=>rfl
 | _ :: bs,c=>congrArg (· + 1) (lg bs _)
theorem dX (c:Int) (bs:List Int):(nums c bs).length=bs.length:=by
 unfold nums
 split
 · exact lg bs c
 · simp [zR]
theorem tO:∀ (bs:List Int) (c:Int),(∀ b ∈ bs,0 < b)->∀ (i:Nat),i < bs.length->0<=(kU c bs).getD i 0/\(kU c bs).getD i 0 < bs.getD i 0
 | b :: bs,c,h,0,_=>by
   have:=h b (Fi ..)
   exact ⟨Hk c this,IG c this⟩
 | b :: bs,c,h,i + 1,hi=>by
   have:=tO bs (c.fdiv b) (λx hx=>h x (Fh _ hx)) i (by simpa using hi)
   simpa [kU] using this
theorem jO {c:Int} {bs:List Int} (h:∀ b ∈ bs,0 < b) {i:Nat} (hi:i < bs.length):0<=(nums c bs).getD i 0/\(nums c bs).getD i 0 < bs.getD i 0:=by
 unfold nums
 split
 · exact tO bs c h i hi
 · have hp:0 < bs.getD i 0:=h _ (by simp [hi])
   have e:(zR c bs).getD i 0=Bu c i (bs.getD i 0):=by simp [zR,hi]
   rw [e]
   exact ⟨Hk _ hp,IG _ hp⟩
theorem take_snoc {α:Type} {xs:List α} {i:Nat} (d:α) (h:i < xs.length):xs.take (i + 1)=xs.take i++[xs.getD i d]:=by
 rw [IM,Fe h]
 simp [h]
theorem vo {b:Int} (h0:0 < b) (h:b < 2 ^ 60):0 < b/\aE b:=⟨h0,mkD (by omega) (by omega)⟩
noncomputable def b7 (ds:List D) (r:Sl):Prop:=∃ (c:Int) (bs:List Int),ds=[.int c,.lst (bs.map .int)]/\bs.length<=10000/\(∀ b ∈ bs,0 < b/\aE b)/\r=.o ((nums c bs).map .int)
section
variable {P:Program} {w:World} {K:Fb} {mg:Str->Option Value} {base:Heap} {k:Nat} {f:Addr} {fd:FuncData} {qual:Str}
theorem oJ (F:Fun K "_law_numbers" qual (top 52) f fd) (hb:∀ x ∈ ai,mg x=none):aQ P w K mg base CX0 (k + 1) f fd ["_law_cell_here","_law_bases"] (spD K b7):=by
 refine fnD F hE hb (by rintro _ _ ⟨_,_,rfl,_⟩; rfl) ?_
 rintro _ _ ⟨c,bs,rfl,hl,hbs,rfl⟩ cdv A outer s H E b
 have nd:=hE.nd
 have hp:∀ i,i < bs.length->0 < bs.getD i 0/\aE (bs.getD i 0):=λi hi=>hbs _ (by simp [hi])
 refine aw 2 nd (fm af) ?_
 refine b9 (aS (a5 b (ab (aa 0) af) jY) (ax ae ae (lG ⟨by decide,by decide,by decide⟩)) B6) (λh=>?_) λh=>?_
 · refine bu 3 (λi τ=>∃ s3,τ=[.d (.int (Ab c (bs.take i))),.d (.lst (bs.map .int)),.o ((kU c (bs.take i)).map .int),s3,.un,.un]) b nd (aU (aa 1)) Af ⟨_,rfl⟩ (λi hi τ h=>?_) λτ h=>?_
   · obtain ⟨s3,rfl⟩:=h
     have hi:i < bs.length:=by simpa using hi
     obtain ⟨p1,p2⟩:=hp i hi
     refine vN 2 (ax (aa 0) (aa 3) (ba (by omega))) ?_ ?_
     · rw [E9,lg,FI]; omega
     refine aw 0 nd (ax (aa 0) (aa 3) (bH p2)) (aM ?_)
     apply ex1
     show [Sl.d (.int ((Ab c (bs.take i)).fdiv (bs.getD i 0))),_,Sl.o _,_,_,_]=_
     rw [take_snoc 0 hi,m6,FE]
     unfold Ab
     rw [GA]
     rfl
   · obtain ⟨s3,rfl⟩:=h
     refine jj 2 ?_
     rw [E9,FC (Fc _)]
     unfold nums
     rw [if_pos (of_decide_eq_true h)]
 · refine qJ 4 3 (λi τ=>∃ s3 s4 s5,τ=[.d (.int c),.d (.lst (bs.map .int)),.o (((Fd i).map λk=>Bu c k (bs.getD k 0)).map .int),s3,s4,s5]) b nd (yk b (aa 1)) Ai ⟨_,_,_,rfl⟩ (λi hi τ h=>?_) λτ h=>?_
   · obtain ⟨s3,s4,s5,rfl⟩:=h
     have hi:i < bs.length:=by rw [cB,E9] at hi; exact hi
     obtain ⟨p1,p2⟩:=hp i hi
     refine aw 5 nd (ax (ax (ax (ax (ax (aa 0) ae (aX (mkR (by decide)))) (ax (ax (aa 4) (aa 4) (aX (mkL (by omega)))) ae (aX (mkR (by decide)))) a7) (ax (aa 4) ae (aX (mkR (by decide)))) a7) ae a7) ae (ba (by decide))) ?_
     refine vN 2 (ax (ax (ax (ax (ax (ax (aa 5) ae (aX (mkR (by decide)))) (aa 0) a7) (ax ae (aa 4) (aX (mkL (by decide)))) a7) ae (ba (by decide))) ae (bH (mkD (by decide) (by decide)))) (aa 3) (ba (by omega))) ?_ (aM ?_)
     · rw [E9,E9,Gz]; omega
     apply ex3
     rw [F3,FE,FE]
     rfl
   · obtain ⟨s3,s4,s5,rfl⟩:=h
     refine jj 2 ?_
     rw [cB,E9]
     unfold nums
     rw [if_neg (of_decide_eq_false h)]
     rfl
end
theorem qh (b:Int):sgZ b=1\/sgZ b=-1:=by
 unfold sgZ
 rw [FU _ (by decide)]
 omega
theorem kE (n:Nat) (row:List Int) (k v:Int) (kv:List (Int × Int)):∀ c,(b8 n row k v kv c).2.length<=kv.length + c
 | 0=>Fc _
 | c + 1=>by
   have:=kE n row k v kv c
   rw [b8,kf]
   split
   · dsimp only; omega
   · have:=zC (b8 n row k v kv c).2 (lO k (n - 1 - c)) ((bK (b8 n row k v kv c).2 (lO k (n - 1 - c))).getD 0 + sgZ (b8 n row k v kv c).1 * row.getD (n - 1 - c) 0 * v)
     dsimp only
     omega
theorem i5 (n:Nat) (row:List Int) (kv:List (Int × Int)):∀ t,(bj n row kv t).length<=t * n
 | 0=>by rw [bj,Jq]; omega
 | t + 1=>by
   have h1:=i5 n row kv t
   have h2:=kE n row (kv.getD t (0,0)).1 ((bK kv (kv.getD t (0,0)).1).getD 0) (bj n row kv t) n
   rw [bj,GK]
   omega
noncomputable def dtR (r:List Int):D:=.lst (r.map .int)
noncomputable def dtM (Ms:List (List Int)) (i j:Nat):Rat:=(((Ms.getD i []).getD j 0:Int):Rat)
theorem atR {row:List Int} {j:Nat} (h:j < row.length):atI (row.map D.int) (j:Int)=some (.int (row.getD j 0)):=rL (i:=(j:Int)) (by omega) (by omega)
section
variable {P:Program} {w:World} {K:Fb} {mg:Str->Option Value} {base:Heap} {k:Nat} {f:Addr} {fd:FuncData} {qual:Str}
end
noncomputable def frD (q:Rat):D:=.tup [.int q.num,.int (q.den:Nat)]
theorem iL (x:Rat):x * (((x.den:Nat):Int):Rat)=(x.num:Rat):=by
 have h:mkRat x.num x.den=x:=by rw [<- Rat.normalize_eq_mkRat x.den_nz]; exact Rat.normalize_self x
 rw [Rat.mkRat_eq_div] at h
 have hd:((x.den:Nat):Rat) ≠ 0:=λz=>x.den_nz (KP.mp z)
 rw [Rat.intCast_natCast]
 conv=>lhs; lhs; rw [<- h]
 exact Rat.div_mul_cancel hd
theorem kx {t b:Int} {x:Rat} (hb:0 < b) (h:(t:Rat)=x * (b:Rat)):x.num=t / (GD t b:Int)/\((x.den:Nat):Int)=b / (GD t b:Int):=by
 have hb0:((b.toNat:Nat):Rat) ≠ 0:=λz=>by have:=KP.mp z; omega
 have hbb:((b:Int):Rat)=((b.toNat:Nat):Rat):=by rw [<- Rat.intCast_natCast,HI (by omega)]
 have e:x=mkRat t b.toNat:=by
   rw [Rat.mkRat_eq_div,h,hbb,Rat.mul_div_cancel hb0]
 have g:b.toNat.gcd t.natAbs=GD t b:=by
   rw [GD,Jz,show b.natAbs=b.toNat by omega]
 have nz:¬ b.toNat=0:=by omega
 constructor
 · rw [e,Rat.num_mkRat,if_neg nz,g]
 · rw [e,Rat.den_mkRat,if_neg nz,g,Int.natCast_ediv,HI (by omega)]
theorem den_pos (q:Rat):0 < ((q.den:Nat):Int):=by have:=q.den_pos; omega
theorem B0 {b:Int} (hb:0 < b):(b:Rat) ≠ 0:=λz=>by have:=KQ.mp z; omega
noncomputable def Bd (n:Nat) (i:Int):Prop:=i.natAbs < 2 ^ n
theorem Bd.mono {m n:Nat} {i:Int} (h:Bd m i) (hm:m<=n):Bd n i:=Fy h (FW (by decide) hm)
theorem Bd.log {n:Nat} {i:Int} (h:Bd n i) (hn:0 < n):i.natAbs.log2 < n:=by
 rcases GI i.natAbs with z | z
 · rw [z]; exact hn
 · exact (Iw (by omega)).mpr h
theorem Bd.mul {m n:Nat} {i j:Int} (h:Bd m i) (g:Bd n j):Bd (m + n) (i * j):=by
 unfold Bd at *
 rw [Gj,HH]
 rcases GI j.natAbs with z | z
 · rw [z,Nat.mul_zero]; exact Nat.mul_pos (GH m) (GH n)
 · exact Fy (Nat.mul_lt_mul_of_pos_right h z) (Nat.mul_le_mul_left _ (GR g))
theorem Bd.add {n:Nat} {i j:Int} (h:Bd n i) (g:Bd n j):Bd (n + 1) (i + j):=by
 unfold Bd at *
 rw [IF]
 omega
theorem Bd.aD {m n:Nat} {i j:Int} (h:Bd m i) (g:Bd n j) (hm:m<=1000000) (hn:n<=1000000):aD i j:=
 .inr (.inr ⟨(h.mono (Nat.le_succ_of_le hm)).log (by omega) |> λz=>by
   rcases GI i.natAbs with q | q
   · rw [q]; decide
   · exact Fy ((Iw (by omega)).mpr h) hm,by
   rcases GI j.natAbs with q | q
   · rw [q]; decide
   · exact Fy ((Iw (by omega)).mpr g) hn⟩)
theorem Bd.aE {n:Nat} {j:Int} (h:Bd n j) (h0:j ≠ 0) (hn:n<=9000):aE j:=⟨h0,Fy ((Iw (by omega)).mpr h) hn⟩
theorem Bd.of_dvd {n:Nat} {i j:Int} (h:Bd n j) (hd:i ∣ j) (h0:j ≠ 0):Bd n i:=FQ (Nat.le_of_dvd (by omega) (Int.natAbs_dvd_natAbs.mpr hd)) h
theorem Bd.ediv {n:Nat} {i:Int} (h:Bd n i) (j:Int):Bd n (i / j):=FQ (KH i j) h
theorem Bd.gcd {n:Nat} {i j:Int} (h:Bd n j) (h0:j ≠ 0):Bd n (GD i j:Int):=h.of_dvd (JZ ..) h0
theorem jk {i j:Int} (h0:j ≠ 0):(GD i j:Int) ≠ 0:=λz=>h0 (by have:=Int.gcd_eq_zero_iff.mp (Int.ofNat_eq_zero.mp z); exact this.2)
theorem c9 {i j:Int} (t:Int):t.fdiv (GD i j:Int)=t / (GD i j:Int):=F7 _ (Hl _)
structure Sq (n:Nat) (q:Rat):Prop where
 num:Bd n q.num
 den:Bd n (q.den:Nat)
theorem Sq.mono {m n:Nat} {q:Rat} (h:Sq m q) (hm:m<=n):Sq n q:=⟨h.num.mono hm,h.den.mono hm⟩
noncomputable def whl (x:D):Bool:=l4 .int x && !l4 .bool x
noncomputable def eF (ds:List D) (r:Sl):Prop:=∃ x,ds=[x]/\r=.d (.bl (whl x))
noncomputable def bA (ds:List D) (r:Sl):Prop:=∃ a b:Int,ds=[.int a,.int b]/\r=.d (.int (GD a b:Int))
theorem iu (i:Int):lZ i=(i.natAbs:Int):=by unfold lZ; omega
noncomputable def vt:D->Bool
 | .tup [.int a,.int b]=>decide (1<=b) && decide ((GD a b:Int)=1)
 | _=>false
theorem zB (q:Rat):vt (frD q)=true:=by
 have h1:=den_pos q
 have h2:GD q.num (q.den:Nat)=1:=q.reduced
 show (decide ((1:Int)<=(q.den:Nat)) && decide ((GD q.num (q.den:Nat):Int)=1))=true
 rw [h2,decide_eq_true (show (1:Int)<=(q.den:Nat) by omega)]
 rfl
theorem vF {xs:List D} (h:xs.length ≠ 2):vt (.tup xs)=false:=by
 unfold vt
 split
 · rename_i e; cases e; exact absurd rfl h
 · rfl
noncomputable def dN (ds:List D) (r:Sl):Prop:=∃ x,ds=[x]/\r=.d (.bl (vt x))
noncomputable def cb (ds:List D) (r:Sl):Prop:=∃ (t b:Int) (q:Rat),ds=[.int t,.int b]/\0 < b/\Bd 8999 b/\(t:Rat)=q * (b:Rat)/\r=.d (frD q)
noncomputable def gY (ds:List D) (r:Sl):Prop:=∃ (t b:Int) (q:Rat),ds=[.int t,.int b]/\0 < b/\Bd 8999 b/\(t:Rat)=q * (b:Rat)/\r=.d (frD q)
noncomputable def bZ (ds:List D) (r:Sl):Prop:=∃ xs,ds=[.lst xs]/\r=.d (.bl (decide ((1:Int)<=(xs.length:Nat)) && decide (((xs.length:Nat):Int)<=7)))
section
variable {P:Program} {w:World} {K:Fb} {mg:Str->Option Value} {base:Heap} {k:Nat} {f:Addr} {fd:FuncData} {qual:Str}
theorem pg (F:Fun K "is_whole" qual (top 7) f fd) (hb:∀ x ∈ ai,mg x=none):aQ P w K mg base CX0 (k + 1) f fd ["thing"] (spD K eF):=by
 refine fnD F pe hb (by rintro _ _ ⟨_,rfl,_⟩; rfl) ?_
 rintro _ _ ⟨x,rfl,rfl⟩ cdv A outer s H E b
 exact aF (mN (gx .int b (aa 0)) λh=>(kh (AB (gx .bool b (aa 0))))) rfl
theorem iH (F:Fun K "common_divisor" qual (top 9) f fd) (hb:∀ x ∈ ai,mg x=none):aQ P w K mg base CX0 (k + 1) f fd ["one","other"] (spD K bA):=by
 refine fnD F di hb (by rintro _ _ ⟨_,_,rfl,_⟩; rfl) ?_
 rintro _ _ ⟨x,y,rfl,rfl⟩ cdv A outer s H E b
 have nd:=di.nd
 refine aw 2 nd (a5 b (ab (aa 0) af) jY) (aw 3 nd (a5 b (ab (aa 1) af) jY) ?_)
 rw [iu,iu]
 refine oK (λn t τ=>∃ (g:Nat) (s4:Sl),Nat.gcd g n=GD x y/\t=(!decide ((n:Int)=0))/\τ=[.d (.int x),.d (.int y),.d (.int g),.d (.int n),s4]) b ⟨_,_,_,_,rfl,rfl,rfl⟩ (λn t τ h=>?_) (λn τ h=>?_) λn τ h=>?_
 · obtain ⟨g,s4,_,rfl,rfl⟩:=h
   exact aS (aa 3) ae gP
 · obtain ⟨g,s4,hg,ht,rfl⟩:=h
   have hl:n ≠ 0:=λz=>by simp [z] at ht
   have e:(g:Int).fmod n=((g % n:Nat):Int):=by rw [FU _ (by omega)]; rfl
   refine aw 4 nd (ax (aa 2) (aa 3) (ba (by omega))) ?_
   rw [e]
   refine aw 2 nd (aa 3) (aw 3 nd (aa 4) (aM ⟨g % n,_,JA g (Nat.pos_of_ne_zero hl),n,_,?_,rfl,rfl⟩))
   rw [<- hg,Jz n,<- Nat.gcd_rec,Jz]
 · obtain ⟨g,s4,hg,ht,rfl⟩:=h
   have hl:n=0:=by simpa using ht
   refine aF (aa 2) ?_
   rw [<- hg,hl,Nat.gcd_zero_right]
theorem lI (F:Fun K "is_fraction" qual (top 8) f fd) (hb:∀ x ∈ ai,mg x=none) (c_is_whole:Cal P w K mg base k "is_whole" eF) (c_common_divisor:Cal P w K mg base k "common_divisor" bA):aQ P w K mg base CX0 (k + 1) f fd ["thing"] (spD K dN):=by
 refine fnD F lB hb (by rintro _ _ ⟨_,rfl,_⟩; rfl) ?_
 rintro _ _ ⟨x,rfl,rfl⟩ cdv A outer s H E b
 by_cases ht:l4 .tuple x=true
 · obtain ⟨xs,rfl⟩:∃ xs,x=.tup xs:=by cases x <;> first | exact ⟨_,rfl⟩ | cases ht
   refine b9 (PW.pt (gH (bW (bS (gx .tuple b (aa 0)))) λh=>(gu (aS (a5 b (ab (aa 0) af) iO) ae gP)))) (λh=>?_) λh=>?_
   · refine aF uU ?_
     have h:(!decide ((xs.length:Int)=2))=true:=h
     have:xs.length ≠ 2:=λz=>by rw [z] at h; cases h
     rw [vF this]
   · have h:(!decide ((xs.length:Int)=2))=false:=h
     have h2:xs.length=2:=by simp at h; omega
     obtain ⟨u,v,rfl⟩:∃ u v,xs=[u,v]:=by
       match xs,h2 with
       | [u,v],_=>exact ⟨u,v,rfl⟩
     refine b9 (PW.pt (gH (bW (bS (x_call b c_is_whole (ab (aJ (aa 0) ae (aV (aP (i:=0) rfl))) af) ⟨_,rfl,rfl⟩))) λh=>(gu (bW (bS (x_call b c_is_whole (ab (aJ (aa 0) ae (aV (aP (i:=1) rfl))) af) ⟨_,rfl,rfl⟩)))))) (λh=>?_) λh=>?_
     · refine aF uU ?_
       have:vt (.tup [u,v])=false:=by cases u <;> cases v <;> first | rfl | cases h
       rw [this]
     · obtain ⟨i,j,rfl,rfl⟩:∃ i j,u=.int i/\v=.int j:=by cases u <;> cases v <;> first | exact ⟨_,_,rfl,rfl⟩ | cases h
       exact aF (mN (cG (aJ (aa 0) ae (aV (aP (i:=1) rfl))) ae B6) λh=>(kh (cG (x_call b c_common_divisor (ab (aJ (aa 0) ae (aV (aP (i:=0) rfl))) (ab (aJ (aa 0) ae (aV (aP (i:=1) rfl))) af)) ⟨_,_,rfl,rfl⟩) ae de))) rfl
 · have e:l4 .tuple x=false:=by simpa using ht
   have ef:vt x=false:=by cases x <;> first | rfl | cases e
   refine b9 (PW.pt (gH (q:=true) (bW (bS (gx .tuple b (aa 0)))) λh=>(by rw [e] at h; cases h))) (λh=>?_) λh=>?_
   · refine aF uU ?_
     rw [ef]
   · rw [J0] at h; cases h
theorem gO (F:Fun K "in_lowest_terms" qual (top 10) f fd) (hb:∀ x ∈ ai,mg x=none) (c_common_divisor:Cal P w K mg base k "common_divisor" bA):aQ P w K mg base CX0 (k + 1) f fd ["top","bottom"] (spD K cb):=by
 refine fnD F cR hb (by rintro _ _ ⟨_,_,_,rfl,_⟩; rfl) ?_
 rintro _ _ ⟨t,c,q,rfl,h0,h1,hq,rfl⟩ cdv A outer s H E b
 have nd:=cR.nd
 refine aw 2 nd (x_call b c_common_divisor (ab (aa 0) (ab (aa 1) af)) ⟨_,_,rfl,rfl⟩) ?_
 have dv:aE (GD t c:Int):=(h1.gcd (by omega)).aE (jk (by omega)) (by decide)
 obtain ⟨e1,e2⟩:=kx h0 hq
 refine cL (aS (aa 1) ae kc) (decide_eq_false (by omega)) (aF (cg (ab (ax (aa 0) (aa 2) (bH dv)) (ab (ax (aa 1) (aa 2) (bH dv)) af))) ?_)
 rw [c9,c9,<- e1,<- e2]
 rfl
theorem qp (F:Fun K "fraction" qual (top 11) f fd) (hb:∀ x ∈ ai,mg x=none) (c_in_lowest_terms:Cal P w K mg base k "in_lowest_terms" cb) (c_is_whole:Cal P w K mg base k "is_whole" eF):aQ P w K mg base CX0 (k + 1) f fd ["top","bottom"] (spD K gY):=by
 refine fnD F pO hb (by rintro _ _ ⟨_,_,_,rfl,_⟩; rfl) ?_
 rintro _ _ ⟨t,c,q,rfl,h0,h1,hq,rfl⟩ cdv A outer s H E b
 refine cL (PW.pt (gH (bW (bS (x_call b c_is_whole (ab (aa 0) af) ⟨_,rfl,rfl⟩))) λh=>(gu (bW (bS (x_call b c_is_whole (ab (aa 1) af) ⟨_,rfl,rfl⟩)))))) rfl ?_
 refine cL (aS (aa 1) ae de) (decide_eq_false (by omega)) ?_
 exact aF (x_call b c_in_lowest_terms (ab (aa 0) (ab (aa 1) af)) ⟨t,c,q,rfl,h0,h1,hq,rfl⟩) rfl
theorem i4 (F:Fun K "is_short_list" qual (top 14) f fd) (hb:∀ x ∈ ai,mg x=none) (y_MOST:∃ t,mg "MOST" = some (.int 7 t)):aQ P w K mg base CX0 (k + 1) f fd ["thing"] (spD K bZ):=by
 refine fnD F iP hb (by rintro _ _ ⟨_,rfl,_⟩; rfl) ?_
 rintro _ _ ⟨xs,rfl,rfl⟩ cdv A outer s H E b
 exact aF (mN (gx .list b (aa 0)) λh=>(kh (zZ ae (a5 b (ab (aa 0) af) fR) (BR y_MOST) D7 D7).1)) rfl
end
noncomputable def rwQ (r:List Rat):D:=.lst (r.map frD)
noncomputable def tbQ (M:List (List Rat)):D:=.lst (M.map rwQ)
structure Tq (R C:Nat) (M:List (List Rat)):Prop where
 r1:1<=R
 r7:R<=7
 c1:1<=C
 c7:C<=7
 len:M.length=R
 row:∀ r ∈ M,r.length=C
theorem a9 {α:Type} {f:α->D} {xs:List α} (d:α):∀ i (h:i < (xs.map f).length),(xs.map f)[i]=f (xs.getD i d):=λi h=>by
 have:i < xs.length:=by simpa using h
 simp [this]
theorem c8 {α:Type} {f:α->D} {xs:List α} (d:α) {i:Nat} (h:i < xs.length):atI (xs.map f) (i:Int)=some (f (xs.getD i d)):=aP (by simp [h])
theorem aK {α:Type} {xs:List α} {d:α} {i:Nat} (h:i < xs.length):xs.getD i d ∈ xs:=by simp [h]
theorem Tq.at_ {R C:Nat} {M:List (List Rat)} (h:Tq R C M) {i:Nat} (hi:i < R):(M.getD i []).length=C:=h.row _ (aK (by rw [h.len]; exact hi))
theorem wt (n:Nat) (f:Nat->Bool) (h:∀ i,i < n->f i=true):((Fd n).map f).all id=true:=by
 rw [JY,F1]
 intro i hi
 exact h i (FN.mp hi)
structure Qs (d v:Nat) (q:Rat):Prop where
 den:Bd d (q.den:Nat)
 val:q.num.natAbs<=2 ^ v * q.den
theorem d0 {X:Cx} {xs:List D} {n:Nat} (h:xs.length=n):gy X (.builtin "len") [.lst xs] (.d (.int n)):=h ▸ fR
theorem bE {α:Type} (f:α->D) (xs:List α) (d:α) {m:Nat} (h:m=xs.length):(Fd m).map (λi=>f (xs.getD i d))=xs.map f:=by
 subst h
 refine G8 (by simp) λi h1 h2=>?_
 have:i < xs.length:=by simpa using h2
 simp [this]
theorem nA {m:Int} {n:Nat} (i:Nat) (h:i < (jl m n).length):(jl m n)[i]=.int (m + (i:Nat)):=hX m n i h
noncomputable def ig (ds:List D) (r:Sl):Prop:=∃ q:List Rat,ds=[rwQ q]/\1<=q.length/\q.length<=7/\r=.d (.bl true)
noncomputable def gM (ds:List D) (r:Sl):Prop:=∃ (R C:Nat) (M:List (List Rat)),ds=[tbQ M]/\Tq R C M/\r=.d (.bl true)
noncomputable def cf (ds:List D) (r:Sl):Prop:=∃ (R C:Nat) (M:List (List Rat)),ds=[tbQ M]/\Tq R C M/\r=.d .non
section
variable {P:Program} {w:World} {K:Fb} {mg:Str->Option Value} {base:Heap} {k:Nat} {f:Addr} {fd:FuncData} {qual:Str}
theorem vk (F:Fun K "is_row" qual (top 15) f fd) (hb:∀ x ∈ ai,mg x=none) (c_is_short_list:Cal P w K mg base k "is_short_list" bZ) (c_is_fraction:Cal P w K mg base k "is_fraction" dN):aQ P w K mg base CX0 (k + 1) f fd ["thing"] (spD K ig):=by
 refine fnD F ur hb (by rintro _ _ ⟨_,rfl,_⟩; rfl) ?_
 rintro _ _ ⟨q,rfl,h1,h7,rfl⟩ cdv A outer s H E b
 refine aF (mN (x_call b c_is_short_list (ab (aa 0) af) ⟨_,rfl,rfl⟩) λh=>(kh (a5 b (ab (a4 (bV (cmp 0 (f:=λ_=>.bl true) b (aU (aa 0)) (a9 (f:=frD) (xs:=q) 0) (by rw [E9]; omega) λi hi s0 H0 fp=>(x_call (b.comp s0 H0 _ fp) c_is_fraction (ab (aa 0) af) ⟨_,rfl,by rw [zB]⟩)))) af) (xk b.calm ((Fd (q.map frD).length).map λ_=>true) (by rw [Fx]; rfl))))) ?_
 rw [E9,decide_eq_true (by omega),decide_eq_true (by omega),wt _ _ λ_ _=>rfl]
 rfl
theorem oZ (F:Fun K "is_table" qual (top 16) f fd) (hb:∀ x ∈ ai,mg x=none) (c_is_short_list:Cal P w K mg base k "is_short_list" bZ) (c_is_row:Cal P w K mg base k "is_row" ig):aQ P w K mg base CX0 (k + 1) f fd ["thing"] (spD K gM):=by
 refine fnD F pf hb (by rintro _ _ ⟨_,_,_,rfl,_⟩; rfl) ?_
 rintro _ _ ⟨R,C,M,rfl,t,rfl⟩ cdv A outer s H E b
 have hl:(M.map rwQ).length=R:=by rw [E9,t.len]
 have r1:=t.r1
 have r7:=t.r7
 have c1:=t.c1
 have c7:=t.c7
 refine cL (PW.pt (gH (bW (bS (x_call b c_is_short_list (ab (aa 0) af) ⟨_,rfl,rfl⟩))) λh=>(gu (bW (bS (a5 b (ab (a4 (bV (cmp 0 (f:=λ_=>.bl true) b (aU (aa 0)) (a9 (f:=rwQ) (xs:=M) []) (by rw [hl]; omega) λi hi s0 H0 fp=>(x_call (b.comp s0 H0 _ fp) c_is_row (ab (aa 0) af) ⟨_,rfl,?_,?_,rfl⟩)))) af) (xk b.calm ((Fd (M.map rwQ).length).map λ_=>true) (by rw [Fx]; rfl)))))))) ?_ ?_
 · rw [t.at_ (by rw [hl] at hi; exact hi)]; exact c1
 · rw [t.at_ (by rw [hl] at hi; exact hi)]; exact c7
 · rw [hl,decide_eq_true (by omega),decide_eq_true (by omega),wt _ _ λ_ _=>rfl]; rfl
 have e0:atI (M.map rwQ) 0=some (rwQ (M.getD 0 [])):=c8 [] (i:=0) (by rw [t.len]; omega)
 refine aF (a5 b (ab (a4 (bV (cmp 0 (f:=λ_=>.bl (decide ((C:Int)=(C:Int)))) b (aU (aa 0)) (a9 (f:=rwQ) (xs:=M) []) (by rw [hl]; omega) λi hi s0 H0 fp=>(cG (a5 (b.comp s0 H0 _ fp) (ab (aa 0) af) (d0 (n:=C) (by rw [E9]; exact t.at_ (by rw [hl] at hi; exact hi)))) (a5 (b.comp s0 H0 _ fp) (ab (aJ (aa 1) ae (aT e0)) af) (d0 (n:=C) (by rw [E9]; exact t.at_ (by omega)))) de)))) af) (xk b.calm ((Fd (M.map rwQ).length).map λ_=>decide ((C:Int)=(C:Int))) (by rw [Fx]; rfl))) ?_
 rw [wt _ _ λ_ _=>decide_eq_true rfl]
theorem mf (F:Fun K "look_table" qual (top 17) f fd) (hb:∀ x ∈ ai,mg x=none) (c_is_table:Cal P w K mg base k "is_table" gM):aQ P w K mg base CX0 (k + 1) f fd ["thing"] (spD K cf):=by
 refine fnD F l6 hb (by rintro _ _ ⟨_,_,_,rfl,_⟩; rfl) ?_
 rintro _ _ ⟨R,C,M,rfl,t,rfl⟩ cdv A outer s H E b
 exact cL (bW (bS (x_call b c_is_table (ab (aa 0) af) ⟨R,C,M,rfl,t,rfl⟩))) rfl (aM rfl)
end
noncomputable def scS (s:Int) (q:Rat):Int:=s / (GD s (q.den:Nat):Int) * (q.den:Nat)
noncomputable def scL (r:List Rat):Int:=r.foldl scS 1
theorem B8 {s:Int} (hs:0 < s) (q:Rat):0 < scS s q/\s ∣ scS s q/\((q.den:Nat):Int) ∣ scS s q:=by
 have hq:=den_pos q
 have g0:0 < (GD s (q.den:Nat):Int):=by
   have:=jk (i:=s) (j:=(q.den:Nat)) (by omega)
   have:=Hl (GD s (q.den:Nat))
   omega
 have d1:(GD s (q.den:Nat):Int) ∣ s:=Jj ..
 have d2:(GD s (q.den:Nat):Int) ∣ ((q.den:Nat):Int):=JZ ..
 have p1:0 < s / (GD s (q.den:Nat):Int):=Int.ediv_pos_of_pos_of_dvd hs (by omega) d1
 refine ⟨JK p1 hq,?_,Int.dvd_mul_left ..⟩
 obtain ⟨k,hk⟩:=d2
 refine ⟨k,?_⟩
 unfold scS
 conv=>lhs; rhs; rw [hk]
 rw [<- KY,JL d1]
theorem qA (r:List Rat) (q:Rat):scL (r++[q])=scS (scL r) q:=by unfold scL; rw [GA]; rfl
theorem qF:∀ (r:List Rat) (s:Int),0 < s->0 < r.foldl scS s/\s ∣ r.foldl scS s/\∀ q ∈ r,((q.den:Nat):Int) ∣ r.foldl scS s
 | [],s,h=>⟨h,Int.dvd_refl _,λ_ z=>nomatch z⟩
 | q :: r,s,h=>by
   obtain ⟨a1,a2,a3⟩:=B8 h q
   obtain ⟨b1,b2,b3⟩:=qF r _ a1
   exact ⟨b1,Int.dvd_trans a2 b2,λx hx=>(Fv.mp hx).elim (λe=>by rw [e]; exact Int.dvd_trans a3 b2) (b3 x)⟩
theorem cv (r:List Rat):0 < scL r/\∀ q ∈ r,((q.den:Nat):Int) ∣ scL r:=⟨(qF r 1 (by decide)).1,(qF r 1 (by decide)).2.2⟩
theorem wj {d:Nat}:∀ (r:List Rat) (s:Int) (n:Nat),Bd n s->(∀ q ∈ r,Bd d (q.den:Nat))->Bd (n + r.length * d) (r.foldl scS s)
 | [],s,n,h,_=>by simpa using h
 | q :: r,s,n,h,hd=>by
   have h1:Bd (n + d) (scS s q):=(h.ediv _).mul (hd q (Fi ..))
   have:=wj r _ _ h1 λx hx=>hd x (Fh _ hx)
   rw [Ga,GK]
   rwa [show n + d + r.length * d=n + (r.length * d + d) by omega] at this
theorem cI {d:Nat} {r:List Rat} (h:∀ q ∈ r,Bd d (q.den:Nat)):Bd (1 + r.length * d) (scL r):=wj r 1 1 (by unfold Bd; decide) h
noncomputable def cu (ds:List D) (r:Sl):Prop:=∃ (q:List Rat) (d:Nat),ds=[rwQ q]/\q.length<=1000/\(∀ x ∈ q,Bd d (x.den:Nat))/\1 + q.length * d<=8999/\d<=8999/\r=.d (.int (scL q))
noncomputable def whR (r:List Rat) (s:Int):List Int:=r.map λq=>q.num * (s / (q.den:Nat))
theorem zf {q:Rat} {s:Int} (h:((q.den:Nat):Int) ∣ s):((q.num * (s / (q.den:Nat)):Int):Rat)=q * (s:Rat):=by
 obtain ⟨k,rfl⟩:=h
 have:=den_pos q
 rw [IW _ (by omega),FZ,FZ,<- GN,iL]
theorem xp {d v n:Nat} {q:Rat} {s:Int} (hq:Qs d v q) (h:((q.den:Nat):Int) ∣ s) (hs:Bd n s):Bd (v + n) (q.num * (s / (q.den:Nat))):=by
 obtain ⟨k,rfl⟩:=h
 have hd:=den_pos q
 rw [IW _ (by omega)]
 unfold Bd at hs ⊢
 rw [Gj,HH]
 rw [Gj,HX] at hs
 have h1:q.num.natAbs * k.natAbs<=2 ^ v * q.den * k.natAbs:=FO _ hq.val
 rw [Jc] at h1
 exact FQ h1 (IC hs (GH v))
noncomputable def du (ds:List D) (r:Sl):Prop:=∃ (q:List Rat) (s:Int) (n:Nat),ds=[rwQ q,.int s]/\q.length<=1000/\(∀ x ∈ q,Sq n x)/\n<=8999/\Bd 8999 s/\r=.o ((whR q s).map .int)
noncomputable def whM (M:List (List Rat)) (ss:List Int):List (List Int):=(Fd M.length).map λi=>whR (M.getD i []) (ss.getD i 0)
theorem nV {α β:Type} {f:α->D} {g:β->D} {xs:List α} {ys:List β} (d:α) (e:β) (i:Nat) (h:i < (fG (xs.map f) (ys.map g)).length):(fG (xs.map f) (ys.map g))[i]=.tup [f (xs.getD i d),g (ys.getD i e)]:=by
 rw [bU,E9,E9] at h
 have h1:i < xs.length:=by omega
 have h2:i < ys.length:=by omega
 simp [fG,h1,h2]
noncomputable def cn (ds:List D) (r:Sl):Prop:=∃ (M:List (List Rat)) (ss:List Int) (n:Nat),ds=[tbQ M,.lst (ss.map .int)]/\M.length=ss.length/\M.length<=1000/\(∀ r ∈ M,r.length<=1000/\∀ x ∈ r,Sq n x)/\n<=8999/\(∀ s ∈ ss,Bd 8999 s)/\r=.o ((whM M ss).map dtR)
noncomputable def tpD (c:List Int):D:=.tup (c.map .int)
noncomputable def nH (cs:List (List Int)):D:=.lst (cs.map tpD)
noncomputable def gj (c:List Int):Int:=c.getD (c.length - 1) 0
noncomputable def lea (t:Nat) (c:List Int):Int:=if 0 < t then gj c + 1 else 0
noncomputable def onC (n t:Nat) (c:List Int):List (List Int):=(Fd ((n:Int) - lea t c).toNat).map λk=>c++[lea t c + (k:Nat)]
noncomputable def chs (n:Nat):Nat->List (List Int)
 | 0=>[[]]
 | t + 1=>(chs n t).flatMap (onC n t)
structure Chs (n t:Nat) (c:List Int):Prop where
 len:c.length=t
 at_:∀ i,i < t->0<=c.getD i 0/\c.getD i 0 < n
theorem wV {c:List Int} {x:Int} {i:Nat}:(c++[x]).getD i 0=if i < c.length then c.getD i 0 else if i=c.length then x else 0:=by
 by_cases h:i < c.length
 · rw [if_pos h]; simp [IQ,FG h]
 · rw [if_neg h]
   by_cases e:i=c.length
   · subst e; simp
   · rw [if_neg e]
     simp [IQ]
     rw [G9 (by simp; omega)]
     rfl
theorem q0 {n t:Nat} {c:List Int} (h:Chs n t c):0<=lea t c/\lea t c<=n:=by
 unfold lea
 by_cases ht:0 < t
 · have:=h.at_ (t - 1) (by omega)
   rw [if_pos ht,gj,h.len]
   omega
 · rw [if_neg ht]; omega
theorem bI (n:Nat):∀ t,∀ c ∈ chs n t,Chs n t c
 | 0,c,h=>by
   rw [chs,Ff] at h
   subst h
   exact ⟨rfl,λi hi=>absurd hi (by omega)⟩
 | t + 1,c,h=>by
   rw [chs,G7] at h
   obtain ⟨d,hd,hc⟩:=h
   have ih:=bI n t d hd
   have hl:=q0 ih
   unfold onC at hc
   obtain ⟨k,hk,rfl⟩:=Fj.mp hc
   rw [FN] at hk
   refine ⟨by rw [Fw,ih.len]; rfl,λi hi=>?_⟩
   rw [wV,ih.len]
   by_cases e:i < t
   · rw [if_pos e]; exact ih.at_ i e
   · rw [if_neg e,if_pos (by omega)]; omega
theorem nR {n t:Nat} {c:List Int} (h:Chs n t c):(onC n t c).length<=n:=by
 have:=q0 h
 simp [onC]
 omega
theorem fD {α β:Type} (f:α->List β) (m:Nat):∀ xs:List α,(∀ x ∈ xs,(f x).length<=m)->(xs.flatMap f).length<=xs.length * m
 | [],_=>by simp
 | x :: xs,h=>by
   rw [List.flatMap_cons,Fw,Ga,GK]
   have:=h x (Fi ..)
   have:=fD f m xs λy hy=>h y (Fh _ hy)
   omega
theorem ua {n:Nat} (hn:n<=7):∀ t,(chs n t).length<=7 ^ t
 | 0=>by simp [chs]
 | t + 1=>by
   rw [chs]
   have:=fD (onC n t) 7 (chs n t) λc hc=>Fz (nR (bI n t c hc)) hn
   have:=ua hn t
   rw [IF]
   omega
noncomputable def eV (ds:List D) (r:Sl):Prop:=∃ n t:Nat,ds=[.int n,.int t]/\n<=7/\t<=7/\r=.d (nH (chs n t))
theorem yz {cs:List (List Int)} (i:Nat) (h:i < (cs.map tpD).length):(cs.map tpD)[i]=tpD (cs.getD i []):=by
 have:i < cs.length:=by simpa using h
 simp [this]
theorem bJ {α:Type} {xs:List α} {i:Nat} {d:α} (h:i < xs.length):xs.getD i d ∈ xs:=by simp [h]
theorem tD {c:List Int} (h:c ≠ []):atI (c.map D.int) (-1)=some (.int (gj c)):=by
 have hl:0 < c.length:=List.length_pos_iff.mpr h
 unfold atI ixN gj
 rw [if_neg (by decide),if_pos (by rw [E9]; omega),E9]
 simp only [Hw]
 have e:(-1 + (c.length:Int)).toNat=c.length - 1:=by omega
 rw [e]
 simp [(by omega:c.length - 1 < c.length)]
section
variable {P:Program} {w:World} {K:Fb} {mg:Str->Option Value} {base:Heap} {k:Nat} {f:Addr} {fd:FuncData} {qual:Str}
theorem pQ (F:Fun K "scale_of" qual (top 24) f fd) (hb:∀ x ∈ ai,mg x=none) (c_common_divisor:Cal P w K mg base k "common_divisor" bA):aQ P w K mg base CX0 (k + 1) f fd ["row"] (spD K cu):=by
 refine fnD F jD hb (by rintro _ _ ⟨_,_,rfl,_⟩; rfl) ?_
 rintro _ _ ⟨q,d,rfl,hl,hd,hb1,hd1,rfl⟩ cdv A outer s H E b
 have nd:=jD.nd
 refine aw 1 nd ae ?_
 refine bu 2 (g:=λi=>frD (q.getD i 0)) (λi τ=>i<=q.length/\∃ s2,τ=[.d (rwQ q),.d (.int (scL (q.take i))),s2]) b nd (aU (aa 0)) (a9 (f:=frD) (xs:=q) 0) ⟨FR _,.un,rfl⟩ (λi hi τ h=>?_) λτ h=>?_
 · obtain ⟨_,s2,rfl⟩:=h
   have hi:i < q.length:=by simpa using hi
   have mm:=aK (d:=(0:Rat)) hi
   have hs:=(cv (q.take i)).1
   have bs:Bd (1 + q.length * d) (scL (q.take i)):=(cI λx hx=>hd x (Ge hx)).mono (by
     have:(q.take i).length * d<=q.length * d:=FO _ (by rw [FI]; omega)
     omega)
   have et:q.take (i + 1)=q.take i++[q.getD i 0]:=by rw [Ky,Fe hi]; simp [hi]
   rw [et,qA]
   generalize scL (q.take i)=sc at hs bs ⊢
   generalize q.getD i 0=x at mm ⊢
   have hx:=den_pos x
   have dv:aE (GD sc (x.den:Nat):Int):=((hd x mm).gcd (by omega)).aE (jk (by omega)) (by omega)
   refine aw 1 nd (ax (ax (aa 1) (x_call b c_common_divisor (ab (aa 1) (ab (aJ (aa 2) ae (aV (aP (i:=1) rfl))) af)) ⟨_,_,rfl,rfl⟩) (bH dv)) (aJ (aa 2) ae (aV (aP (i:=1) rfl))) (aX ?_)) (aM ⟨hi,.d (frD x),?_⟩)
   · rw [c9]; exact (bs.ediv _).aD (hd x mm) (by omega) (by omega)
   · rw [c9]; rfl
 · obtain ⟨_,s2,rfl⟩:=h
   rw [E9,HC]
   exact aF (aa 1) rfl
theorem nB (F:Fun K "whole_row" qual (top 25) f fd) (hb:∀ x ∈ ai,mg x=none):aQ P w K mg base CX0 (k + 1) f fd ["row","scale"] (spD K du):=by
 refine fnD F oG hb (by rintro _ _ ⟨_,_,_,rfl,_⟩; rfl) ?_
 rintro _ _ ⟨q,s0,n,rfl,hl,hq,hn,hs,rfl⟩ cdv A outer s H E b
 refine aF (bV (cmp 0 (f:=λi=>.int ((q.getD i 0).num * (s0.fdiv ((q.getD i 0).den:Nat)))) b (aU (aa 0)) (a9 (f:=frD) (xs:=q) 0) (by rw [E9]; omega) λi hi s1 H0 fp=>?_)) ?_
 · have sq:=hq _ (aK (d:=(0:Rat)) (by simpa using hi))
   generalize q.getD i 0=x at sq ⊢
   have hx:=den_pos x
   have e:s0.fdiv (x.den:Nat)=s0 / (x.den:Nat):=F7 _ (by omega)
   exact ax (aJ (aa 0) ae (aV (aP (i:=0) rfl))) (ax (aa 1) (aJ (aa 0) ae (aV (aP (i:=1) rfl))) (bH (sq.den.aE (by omega) (by omega)))) (aX (by rw [e]; exact sq.num.aD (hs.ediv _) (by omega) (by omega)))
 · refine congrArg Sl.o ((bE (λx:Rat=>D.int (x.num * (s0.fdiv (x.den:Nat)))) q 0 (E9 ..)).trans ?_)
   unfold whR
   rw [Fx]
   refine F6 λx _=>?_
   simp only [Ih]
   rw [F7 _ (by have:=den_pos x; omega)]
theorem me (F:Fun K "whole_rows" qual (top 26) f fd) (hb:∀ x ∈ ai,mg x=none) (c_whole_row:Cal P w K mg base k "whole_row" du):aQ P w K mg base CX0 (k + 1) f fd ["table","scales"] (spD K cn):=by
 refine fnD F ma hb (by rintro _ _ ⟨_,_,_,rfl,_⟩; rfl) ?_
 rintro _ _ ⟨M,ss,n,rfl,hl,h1,hM,hn,hs,rfl⟩ cdv A outer s H E b
 have zl:(fG (M.map rwQ) (ss.map D.int)).length=M.length:=by rw [bU,E9,E9]; omega
 refine aF (bV (wQ 0 1 (g:=λi=>rwQ (M.getD i [])) (g':=λi=>.int (ss.getD i 0)) (f:=λi=>dtR (whR (M.getD i []) (ss.getD i 0))) b (pE b (aa 0) (aa 1)) (nV [] 0) (by rw [zl]; omega) λi hi s0 H0 fp=>?_)) ?_
 · rw [zl] at hi
   obtain ⟨g1,g2⟩:=hM _ (aK (d:=[]) hi)
   exact a4 (x_call (b.comp s0 H0 _ fp) c_whole_row (ab (aa 0) (ab (aa 1) af)) ⟨_,_,n,rfl,g1,g2,hn,hs _ (aK (by omega)),rfl⟩)
 · unfold whM
   rw [zl,Fx]
   rfl
theorem l5 (F:Fun K "choices_of" qual (top 18) f fd) (hb:∀ x ∈ ai,mg x=none):aQ P w K mg base CX0 (k + 1) f fd ["many","size"] (spD K eV):=by
 refine fnD F gw hb (by rintro _ _ ⟨_,_,rfl,_⟩; rfl) ?_
 rintro _ _ ⟨n,t,rfl,hn,ht,rfl⟩ cdv A outer s H E b
 have nd:=gw.nd
 refine aw 2 nd (a4 (fm (ab (cg af) af))) ?_
 refine bu 3 (λi τ=>∃ s3 s4 s5 s6,τ=[.d (.int n),.d (.int t),.d (nH (chs n i)),s3,s4,s5,s6]) b nd (dZ b (aa 1) (by omega) (by omega)) dU ⟨.un,.un,.un,.un,rfl⟩ (λi hi τ h=>?_) λτ h=>?_
 · obtain ⟨s3,s4,s5,s6,rfl⟩:=h
   have hi:i < t:=by rw [aB] at hi; omega
   have l1:=ua hn i
   have l2:7 ^ i<=7 ^ 6:=FW (by decide) (by omega)
   refine aw 4 nd (fm af) ?_
   refine bu 5 (g:=λl=>tpD ((chs n i).getD l [])) (λl τ=>∃ s5 s6,τ=[.d (.int n),.d (.int t),.d (nH (chs n i)),.d (.int (i:Nat)),.o ((((chs n i).take l).flatMap (onC n i)).map tpD),s5,s6]) b nd (aU (aa 2)) yz ⟨s5,s6,rfl⟩ (λl hl τ h=>?_) λτ h=>?_
   · obtain ⟨s5,s6,rfl⟩:=h
     have hl:l < (chs n i).length:=by simpa using hl
     have ok:=bI n i _ (bJ (d:=[]) hl)
     have hle:=q0 ok
     have len1:=fD (onC n i) 7 ((chs n i).take l) λc hc=>Fz (nR (bI n i c (Ge hc))) hn
     rw [FI] at len1
     have len2:=nR ok
     refine aw 6 nd (t9 (s:=.d (.int (lea i ((chs n i).getD l [])))) (aS (aa 3) ae pU) (λh=>?_) λh=>?_) ?_
     · have h:=of_decide_eq_true h
       have h0:0 < i:=by omega
       rw [show lea i ((chs n i).getD l [])=gj ((chs n i).getD l []) + 1 from if_pos h0]
       exact ax (aJ (aa 5) (iD ae) (aV (tD λz=>by have:=ok.len; rw [z] at this; simp at this; omega))) ae a7
     · have h:=of_decide_eq_false h
       rw [show lea i ((chs n i).getD l [])=0 from if_neg (by omega)]
       exact ae
     refine DV 4 (bV (cmp 0 (f:=λk=>tpD (((chs n i).getD l [])++[lea i ((chs n i).getD l []) + (k:Nat)])) b (iZ b (aa 6) (aa 0) ⟨by omega,by omega,by omega,by omega⟩) (λk hk=>hX _ _ k hk) (by rw [aB]; omega) λk hk s0 H0 fp=>?_)) ?_ (aM ⟨.d (tpD ((chs n i).getD l [])),.d (.int (lea i ((chs n i).getD l []))),?_⟩)
     · have e:tpD (((chs n i).getD l [])++[lea i ((chs n i).getD l []) + (k:Nat)])=.tup ((((chs n i).getD l []).map D.int)++[.int (lea i ((chs n i).getD l []) + (k:Nat))]):=by unfold tpD; rw [FE]; rfl
       rw [e]
       exact ax (aa 1) (cg (ab (aa 0) af)) (rQ (by rw [E9,ok.len]; show _ + 1 < _; omega))
     · rw [E9,E9,Gz,aB]; omega
     · rw [take_snoc [] hl,JF,FE,aB]
       show [_,_,_,_,Sl.o (_++(Fd ((n:Int) - lea i ((chs n i).getD l [])).toNat).map _),_,_]=_
       simp [onC]
   · obtain ⟨s5,s6,rfl⟩:=h
     refine DO 4 (aw 2 nd (aa 4) (aM ⟨.d (.int (i:Nat)),.d (nH (chs n (i + 1))),s5,s6,?_⟩))
     rw [E9,FC (Fc _)]
     rfl
 · obtain ⟨s3,s4,s5,s6,rfl⟩:=h
   refine aF (aa 2) ?_
   rw [aB,Fq]
end
noncomputable def qM (M:List (List Rat)) (i j:Nat):Rat:=(M.getD i []).getD j 0
theorem Qs.sq {d v:Nat} {q:Rat} (h:Qs d v q):Sq (v + d) q:=by
 refine ⟨?_,h.den.mono (by omega)⟩
 have h1:=h.den
 unfold Bd at h1 ⊢
 rw [HX] at h1
 rw [HH]
 exact FQ h.val (IC h1 (GH v))
noncomputable def ny (t:List (List Rat)) (j:Nat):List Rat:=t.map λr=>r.getD j 0
noncomputable def df (ds:List D) (r:Sl):Prop:=∃ (R C:Nat) (t:List (List Rat)) (j:Nat),ds=[tbQ t,.int (j:Nat)]/\Tq R C t/\j < C/\r=.o ((ny t j).map frD)
noncomputable def bR (t:List (List Rat)) (C:Nat):List (List Rat):=(Fd C).map (ny t)
theorem kO {R C:Nat} {t:List (List Rat)} (h:Tq R C t):Tq C R (bR t C):=⟨h.c1,h.c7,h.r1,h.r7,by simp [bR],λr hr=>by
 unfold bR at hr
 obtain ⟨j,_,rfl⟩:=Fj.mp hr
 unfold ny
 rw [E9,h.len]⟩
theorem wH {R C:Nat} {t:List (List Rat)} (h:Tq R C t) {i j:Nat} (hi:i < R) (hj:j < C):qM (bR t C) j i=qM t i j:=by
 have:i < t.length:=by rw [h.len]; exact hi
 unfold qM bR ny
 simp [hj,this]
theorem wA {R C d v:Nat} {t:List (List Rat)} (h:Tq R C t) (hq:∀ r ∈ t,∀ x ∈ r,Qs d v x):∀ r ∈ bR t C,∀ x ∈ r,Qs d v x:=λr hr x hx=>by
 unfold bR at hr
 obtain ⟨j,hj,rfl⟩:=Fj.mp hr
 rw [FN] at hj
 unfold ny at hx
 obtain ⟨q,hq',rfl⟩:=Fj.mp hx
 exact hq q hq' _ (aK (by rw [h.row q hq']; exact hj))
noncomputable def ff (ds:List D) (r:Sl):Prop:=∃ (R C:Nat) (t:List (List Rat)),ds=[tbQ t]/\Tq R C t/\r=.o ((bR t C).map rwQ)
noncomputable def nk (ns ms:List Int):List Int:=(Fd (min ns.length ms.length)).map λi=>ns.getD i 0 * ms.getD i 0
noncomputable def cc (ds:List D) (r:Sl):Prop:=∃ (ns ms:List Int) (B:Nat),ds=[dtR ns,dtR ms]/\ns.length<=1000/\(∀ x ∈ ns,Bd B x)/\(∀ x ∈ ms,Bd B x)/\B<=900000/\r=.d (.int (nk ns ms).sum)
noncomputable def eU (q c:List Rat):Rat:=aA (λk=>q.getD k 0 * c.getD k 0) q.length
theorem ET (a s b t:Rat):a * s * (b * t)=a * b * (s * t):=by rw [GN,<- GN s b t,Hr s b,GN b s t,<- GN a b]
theorem AF {d v:Nat} {q:Rat} {s:Int} (hq:Qs d v q) (h:((q.den:Nat):Int) ∣ s):(q.num * (s / (q.den:Nat))).natAbs<=2 ^ v * s.natAbs:=by
 obtain ⟨k,rfl⟩:=h
 have hd:=den_pos q
 rw [IW _ (by omega),Gj,Gj,HX,<- Jc]
 exact FO _ hq.val
theorem oE {q:List Rat} {s:Int} {i:Nat} (h:i < q.length):(whR q s).getD i 0=(q.getD i 0).num * (s / ((q.getD i 0).den:Nat)):=by unfold whR; simp [h]
theorem wJ {B:Nat} {f:Nat->Int}:∀ n,(∀ i < n,(f i).natAbs<=B)->((Fd n).map f).sum.natAbs<=n * B
 | 0,_=>by simp
 | n + 1,h=>by
   rw [F3,FE,List.sum_append]
   have h1:=wJ n λi hi=>h i (by omega)
   have h2:=h n (by omega)
   rw [GK]
   simp only [FJ,IE,List.sum_cons,List.sum_nil,Int.add_zero]
   omega
theorem A1 {K d v:Nat} {q c:List Rat} (h1:q.length=K) (h2:c.length=K) (k7:K<=7) (hq:∀ x ∈ q,Qs d v x) (hc:∀ x ∈ c,Qs d v x):(((nk (whR q (scL q)) (whR c (scL c))).sum:Int):Rat)=eU q c * ((scL q * scL c:Int):Rat)/\Qs (2 + 2 * (K * d)) (2 * v + 3) (eU q c):=by
 obtain ⟨p1,d1⟩:=cv q
 obtain ⟨p2,d2⟩:=cv c
 have l1:(whR q (scL q)).length=K:=by unfold whR; rw [E9,h1]
 have l2:(whR c (scL c)).length=K:=by unfold whR; rw [E9,h2]
 have e:(((nk (whR q (scL q)) (whR c (scL c))).sum:Int):Rat)=eU q c * ((scL q * scL c:Int):Rat):=by
   unfold nk eU
   rw [l1,l2,J6,mz,h1,k5]
   refine az λi hi=>?_
   have mi:=aK (xs:=q) (d:=(0:Rat)) (i:=i) (by omega)
   have ni:=aK (xs:=c) (d:=(0:Rat)) (i:=i) (by omega)
   rw [oE (by omega),oE (by omega),FZ,zf (d1 _ mi),zf (d2 _ ni),FZ]
   exact ET _ _ _ _
 refine ⟨e,?_⟩
 have S0:0 < scL q * scL c:=JK p1 p2
 obtain ⟨f1,f2⟩:=kx S0 e
 have b1:=cI (d:=d) (r:=q) λx hx=>(hq x hx).den
 have b2:=cI (d:=d) (r:=c) λx hx=>(hc x hx).den
 rw [h1] at b1
 rw [h2] at b2
 refine ⟨?_,?_⟩
 · rw [f2]
   exact ((b1.mul b2).ediv _).mono (by omega)
 · have zl:(nk (whR q (scL q)) (whR c (scL c))).sum.natAbs<=K * (2 ^ v * (scL q).natAbs * (2 ^ v * (scL c).natAbs)):=by
     unfold nk
     rw [l1,l2,J6]
     refine wJ K λi hi=>?_
     have mi:=aK (xs:=q) (d:=(0:Rat)) (i:=i) (by omega)
     have ni:=aK (xs:=c) (d:=(0:Rat)) (i:=i) (by omega)
     rw [oE (by omega),oE (by omega),Gj]
     exact Gr (AF (hq _ mi) (d1 _ mi)) (AF (hc _ ni) (d2 _ ni))
   generalize (nk (whR q (scL q)) (whR c (scL c))).sum=z at f1 f2 zl
   generalize hS:scL q * scL c=S at f1 f2 S0
   have sS:(scL q).natAbs * (scL c).natAbs=S.natAbs:=by rw [<- hS,Gj]
   generalize hg:(GD z S:Int)=g at f1 f2
   have g0:0 < g:=by
     have:=jk (i:=z) (j:=S) (by omega)
     rw [hg] at this
     have:=Hl (GD z S)
     omega
   have gz:g ∣ z:=by rw [<- hg]; exact Jj ..
   have gS:g ∣ S:=by rw [<- hg]; exact JZ ..
   have ez:(eU q c).num * g=z:=by rw [f1]; exact JL gz
   have eS:((eU q c).den:Int) * g=S:=by rw [f2]; exact JL gS
   have nz:(eU q c).num.natAbs * g.natAbs=z.natAbs:=by rw [<- Gj,ez]
   have nS:(eU q c).den * g.natAbs=S.natAbs:=by rw [<- eS,Gj,HX]
   have key:(eU q c).num.natAbs * g.natAbs<=2 ^ (2 * v + 3) * (eU q c).den * g.natAbs:=by
     rw [nz,Jc,nS,<- sS]
     refine Fz zl ?_
     have e3:(2:Nat) ^ (2 * v + 3)=2 ^ v * 2 ^ v * 8:=by rw [HH,Nat.two_mul,HH]
     rw [e3]
     have:K * (2 ^ v * (scL q).natAbs * (2 ^ v * (scL c).natAbs))=K * (2 ^ v * 2 ^ v * ((scL q).natAbs * (scL c).natAbs)):=by
       congr 1
       rw [Nat.mul_mul_mul_comm]
     rw [this,Ij (2 ^ v * 2 ^ v) 8,Jc 8]
     exact FO _ (by omega)
   exact Nat.le_of_mul_le_mul_right key (by omega)
noncomputable def dD (ds:List D) (r:Sl):Prop:=∃ (K d v:Nat) (q:List Rat) (cl:List (List Rat)),ds=[rwQ q,.lst ((whM cl (cl.map scL)).map dtR),.lst ((cl.map scL).map .int)]/\q.length=K/\K<=7/\(∀ x ∈ q,Qs d v x)/\cl.length<=1000/\(∀ c ∈ cl,c.length=K/\∀ x ∈ c,Qs d v x)/\2 + 2 * (K * d)<=8999/\v + (1 + K * d)<=8999/\v + d<=8999/\r=.o ((cl.map (eU q)).map frD)
noncomputable def pdM (A B:List (List Rat)) (C:Nat):List (List Rat):=A.map λr=>(bR B C).map (eU r)
theorem xH {R K C:Nat} {A B:List (List Rat)} (h1:Tq R K A) (h2:Tq K C B):Tq R C (pdM A B C):=⟨h1.r1,h1.r7,h2.c1,h2.c7,by unfold pdM; rw [E9,h1.len],λr hr=>by
 unfold pdM at hr
 obtain ⟨x,_,rfl⟩:=Fj.mp hr
 rw [E9]
 exact (kO h2).len⟩
theorem BF {R K C:Nat} {A B:List (List Rat)} (h1:Tq R K A) (h2:Tq K C B) {i j:Nat} (hi:i < R) (hj:j < C):qM (pdM A B C) i j=mulQ K (qM A) (qM B) i j:=by
 have a1:i < A.length:=by rw [h1.len]; exact hi
 have e:qM (pdM A B C) i j=eU (A.getD i []) ((bR B C).getD j []):=by
   have a2:j < (bR B C).length:=by rw [(kO h2).len]; exact hj
   unfold qM pdM
   simp [a1,a2]
 rw [e]
 unfold eU mulQ
 rw [h1.at_ hi]
 refine az λk hk=>?_
 rw [<- wH h2 hk hj]
 rfl
noncomputable def iR (ds:List D) (r:Sl):Prop:=∃ (R K C d v:Nat) (A B:List (List Rat)),ds=[tbQ A,tbQ B]/\Tq R K A/\Tq K C B/\(∀ r ∈ A,∀ x ∈ r,Qs d v x)/\(∀ r ∈ B,∀ x ∈ r,Qs d v x)/\2 + 2 * (K * d)<=8999/\v + (1 + K * d)<=8999/\v + d<=8999/\r=.o ((pdM A B C).map rwQ)
section
variable {P:Program} {w:World} {K:Fb} {mg:Str->Option Value} {base:Heap} {k:Nat} {f:Addr} {fd:FuncData} {qual:Str}
theorem ot (F:Fun K "column_of" qual (top 22) f fd) (hb:∀ x ∈ ai,mg x=none):aQ P w K mg base CX0 (k + 1) f fd ["table","j"] (spD K df):=by
 refine fnD F nO hb (by rintro _ _ ⟨_,_,_,_,rfl,_⟩; rfl) ?_
 rintro _ _ ⟨R,C,t,j,rfl,h,hj,rfl⟩ cdv A outer s H E b
 have r7:=h.r7
 refine aF (bV (cmp 0 (g:=λi=>rwQ (t.getD i [])) (f:=λi=>frD ((t.getD i []).getD j 0)) b (aU (aa 0)) (a9 (f:=rwQ) (xs:=t) []) (by rw [E9,h.len]; omega) λi hi s0 H0 fp=>(aJ (aa 0) (aa 1) (aT (c8 (f:=frD) (xs:=t.getD i []) 0 (i:=j) ?_))))) ?_
 · rw [h.at_ (by rw [E9,h.len] at hi; exact hi)]; exact hj
 · refine congrArg Sl.o ((bE (λr:List Rat=>frD (r.getD j 0)) t [] (E9 ..)).trans ?_)
   unfold ny
   rw [Fx]
   rfl
theorem lY (F:Fun K "columns_of" qual (top 21) f fd) (hb:∀ x ∈ ai,mg x=none) (c_column_of:Cal P w K mg base k "column_of" df):aQ P w K mg base CX0 (k + 1) f fd ["table"] (spD K ff):=by
 refine fnD F lV hb (by rintro _ _ ⟨_,_,_,rfl,_⟩; rfl) ?_
 rintro _ _ ⟨R,C,t,rfl,h,rfl⟩ cdv A outer s H E b
 have r1:=h.r1
 have c7:=h.c7
 have e0:atI (t.map rwQ) 0=some (rwQ (t.getD 0 [])):=c8 [] (i:=0) (by rw [h.len]; omega)
 refine aF (bV (cmp 0 (f:=λj=>rwQ (ny t j)) b (dZ (n:=(C:Nat)) b (a5 b (ab (aJ (aa 0) ae (aT e0)) af) (d0 (n:=C) (by rw [E9]; exact h.at_ (by omega)))) (by omega) (by omega)) dU (by rw [aB]; omega) λj hj s0 H0 fp=>a4 (x_call (b.comp s0 H0 _ fp) c_column_of (ab (aa 1) (ab (aa 0) af)) ⟨R,C,t,j,rfl,h,by rw [aB] at hj; omega,rfl⟩))) ?_
 unfold bR
 rw [aB,Fq,Fx]
 rfl
theorem gI (F:Fun K "sum_of_products" qual (top 32) f fd) (hb:∀ x ∈ ai,mg x=none):aQ P w K mg base CX0 (k + 1) f fd ["numbers","others"] (spD K cc):=by
 refine fnD F gJ hb (by rintro _ _ ⟨_,_,_,rfl,_⟩; rfl) ?_
 rintro _ _ ⟨ns,ms,B,rfl,hl,h1,h2,hB,rfl⟩ cdv A outer s H E b
 have zl:(fG (ns.map D.int) (ms.map D.int)).length=min ns.length ms.length:=by rw [bU,E9,E9]
 refine aF (a5 b (ab (a4 (bV (wQ 0 1 (g:=λi=>.int (ns.getD i 0)) (g':=λi=>.int (ms.getD i 0)) (f:=λi=>.int (ns.getD i 0 * ms.getD i 0)) b (pE b (aa 0) (aa 1)) (nV 0 0) (by rw [zl]; omega) λi hi s0 H0 fp=>?_))) af) (DH b.calm (nk ns ms) ?_)) rfl
 · rw [zl] at hi
   exact ax (aa 0) (aa 1) (aX ((h1 _ (aK (by omega))).aD (h2 _ (aK (by omega))) (by omega) (by omega)))
 · unfold nk
   rw [zl,Fx]
   rfl
theorem kG (F:Fun K "product_row" qual (top 31) f fd) (hb:∀ x ∈ ai,mg x=none) (c_scale_of:Cal P w K mg base k "scale_of" cu) (c_whole_row:Cal P w K mg base k "whole_row" du) (c_fraction:Cal P w K mg base k "fraction" gY) (c_sum_of_products:Cal P w K mg base k "sum_of_products" cc):aQ P w K mg base CX0 (k + 1) f fd ["row","whole_columns","scales"] (spD K dD):=by
 refine fnD F fB hb (by rintro _ _ ⟨_,_,_,_,_,rfl,_⟩; rfl) ?_
 rintro _ _ ⟨K0,d,v,q,cl,rfl,hk,k7,hq,hl,hc,z1,z2,z3,rfl⟩ cdv A outer s H E b
 have nd:=fB.nd
 have bq:=cI (d:=d) (r:=q) λx hx=>(hq x hx).den
 rw [hk] at bq
 have pq:=(cv q).1
 have lw:(whM cl (cl.map scL)).length=cl.length:=by simp [whM]
 have zl:(fG ((whM cl (cl.map scL)).map dtR) ((cl.map scL).map D.int)).length=cl.length:=by rw [bU,E9,E9,E9,lw,J6]
 refine aw 3 nd (x_call b c_scale_of (ab (aa 0) af) ⟨q,d,rfl,by omega,λx hx=>(hq x hx).den,by rw [hk]; omega,by omega,rfl⟩) ?_
 refine aw 4 nd (a4 (x_call b c_whole_row (ab (aa 0) (ab (aa 3) af)) ⟨q,scL q,v + d,rfl,by omega,λx hx=>(hq x hx).sq,z3,bq.mono (by omega),rfl⟩)) ?_
 refine aF (bV (wQ 0 1 (g:=λi=>dtR (whR (cl.getD i []) (scL (cl.getD i [])))) (g':=λi=>.int (scL (cl.getD i []))) (f:=λi=>frD (eU q (cl.getD i []))) b (pE b (aa 1) (aa 2)) (λi hi=>?_) (by rw [zl]; omega) λi hi s0 H0 fp=>?_)) ?_
 · have hi':i < cl.length:=by rw [zl] at hi; exact hi
   rw [nV [] 0 i hi]
   have e1:(cl.map scL).getD i 0=scL (cl.getD i []):=by simp [hi']
   have e2:(whM cl (cl.map scL)).getD i []=whR (cl.getD i []) ((cl.map scL).getD i 0):=by unfold whM; simp [hi']
   rw [e2,e1]
 · rw [zl] at hi
   have mi:=aK (xs:=cl) (d:=[]) hi
   generalize cl.getD i []=c at mi ⊢
   obtain ⟨lc,qc⟩:=hc c mi
   obtain ⟨o1,o2⟩:=A1 hk lc k7 hq qc
   have pc:=(cv c).1
   have bc:=cI (d:=d) (r:=c) λx hx=>(qc x hx).den
   rw [lc] at bc
   refine x_call (b.comp s0 H0 _ fp) c_fraction (ab (x_call (b.comp s0 H0 _ fp) c_sum_of_products (ab (aa 2) (ab (aa 0) af)) ⟨whR q (scL q),whR c (scL c),8999,rfl,by unfold whR; rw [E9]; omega,λx hx=>?_,λx hx=>?_,by decide,rfl⟩) (ab (ax (aa 3) (aa 1) (aX (bq.aD bc (by omega) (by omega)))) af)) ⟨_,_,eU q c,rfl,JK pq pc,(bq.mul bc).mono (by omega),o1,rfl⟩
   · unfold whR at hx
     obtain ⟨y,hy,rfl⟩:=Fj.mp hx
     exact (xp (hq y hy) ((cv q).2 y hy) bq).mono z2
   · unfold whR at hx
     obtain ⟨y,hy,rfl⟩:=Fj.mp hx
     exact (xp (qc y hy) ((cv c).2 y hy) bc).mono z2
 · rw [zl]
   refine congrArg Sl.o ((bE (λc:List Rat=>frD (eU q c)) cl [] rfl).trans ?_)
   rw [Fx]
   rfl
theorem rf (F:Fun K "product" qual (top 30) f fd) (hb:∀ x ∈ ai,mg x=none) (c_look_table:Cal P w K mg base k "look_table" cf) (c_columns_of:Cal P w K mg base k "columns_of" ff) (c_whole_rows:Cal P w K mg base k "whole_rows" cn) (c_scale_of:Cal P w K mg base k "scale_of" cu) (c_product_row:Cal P w K mg base k "product_row" dD):aQ P w K mg base CX0 (k + 1) f fd ["one","other"] (spD K iR):=by
 refine fnD F kQ hb (by rintro _ _ ⟨_,_,_,_,_,_,_,rfl,_⟩; rfl) ?_
 rintro _ _ ⟨R,K0,C,d,v,A0,B,rfl,h1,h2,q1,q2,z1,z2,z3,rfl⟩ cdv A outer s H E b
 have nd:=kQ.nd
 have r1:=h1.r1
 have r7:=h1.r7
 have k7:=h1.c7
 have c7:=h2.c7
 have hT:=kO h2
 have qT:=wA h2 q2
 have e0:atI (A0.map rwQ) 0=some (rwQ (A0.getD 0 [])):=c8 [] (i:=0) (by rw [h1.len]; omega)
 refine gW (x_call b c_look_table (ab (aa 0) af) ⟨R,K0,A0,rfl,h1,rfl⟩) ?_
 refine gW (x_call b c_look_table (ab (aa 1) af) ⟨K0,C,B,rfl,h2,rfl⟩) ?_
 refine cL (aS (a5 b (ab (aJ (aa 0) ae (aT e0)) af) (d0 (n:=K0) (by rw [E9]; exact h1.at_ (by omega)))) (a5 b (ab (aa 1) af) (d0 (n:=K0) (by rw [E9]; exact h2.len))) gP) (by rw [decide_eq_true rfl]; rfl) ?_
 refine aw 2 nd (a4 (x_call b c_columns_of (ab (aa 1) af) ⟨K0,C,B,rfl,h2,rfl⟩)) ?_
 refine aw 3 nd (s:=.d (.lst (((bR B C).map scL).map .int))) (a4 (bV (cmp 0 (g:=λi=>rwQ ((bR B C).getD i [])) (f:=λi=>.int (scL ((bR B C).getD i []))) b (aU (aa 2)) (a9 (f:=rwQ) (xs:=bR B C) []) (by rw [E9,hT.len]; omega) λi hi s0 H0 fp=>(x_call (b.comp s0 H0 _ fp) c_scale_of (ab (aa 0) af) ⟨_,d,rfl,?_,?_,?_,?_,rfl⟩))) ?hx) ?_
 · rw [hT.at_ (by simpa [hT.len] using hi)]; omega
 · exact λx hx=>(qT _ (aK (by simpa using hi)) x hx).den
 · rw [hT.at_ (by simpa [hT.len] using hi)]; omega
 · omega
 case hx=>exact congrArg (λl=>some (D.lst l)) ((bE (λr:List Rat=>D.int (scL r)) (bR B C) [] (E9 ..)).trans (by rw [Fx]; rfl))
 refine aw 4 nd (a4 (x_call b c_whole_rows (ab (aa 2) (ab (aa 3) af)) ⟨bR B C,(bR B C).map scL,v + d,rfl,by rw [E9],by rw [hT.len]; omega,λr hr=>⟨by rw [hT.row r hr]; omega,λx hx=>(qT r hr x hx).sq⟩,z3,?_,rfl⟩)) ?_
 · intro s hs
   obtain ⟨r,hr,rfl⟩:=Fj.mp hs
   have:=cI (d:=d) (r:=r) λx hx=>(qT _ hr x hx).den
   rw [hT.row r hr] at this
   exact this.mono (by omega)
 refine aF (bV (cmp 0 (g:=λi=>rwQ (A0.getD i [])) (f:=λi=>rwQ ((bR B C).map (eU (A0.getD i [])))) b (aU (aa 0)) (a9 (f:=rwQ) (xs:=A0) []) (by rw [E9,h1.len]; omega) λi hi s0 H0 fp=>a4 (x_call (b.comp s0 H0 _ fp) c_product_row (ab (aa 0) (ab (aa 2) (ab (aa 1) af))) ⟨K0,d,v,_,bR B C,rfl,?_,k7,?_,by rw [hT.len]; omega,λc hc=>⟨hT.row c hc,qT c hc⟩,z1,z2,z3,rfl⟩))) ?_
 · exact h1.at_ (by simpa [h1.len] using hi)
 · exact q1 _ (aK (by simpa using hi))
 · refine congrArg Sl.o ((bE (λr:List Rat=>rwQ ((bR B C).map (eU r))) A0 [] (E9 ..)).trans ?_)
   unfold pdM
   rw [Fx]
   rfl
end
noncomputable abbrev kT:Ev.KD (List Int):=Ev.AS Ev.Dc
noncomputable abbrev kTT:Ev.KD (List Int × List Int):=Ev.AR kT kT
theorem hdT:kT.dep<=7:=by show 1<=7; decide
theorem lU:kTT.dep<=7:=by show 2<=7; decide
theorem cw {F:Fb} (c:List Int) (H:Hp) (v:V) (h:Den F H v (kT.toD c)):∃ b,v=.ref b:=by
 generalize e:kT.toD c=x at h
 cases h with
 | tup=>exact ⟨_,rfl⟩
 | _=>cases e
theorem tR {F:Fb} (c:List Int × List Int) (H:Hp) (v:V) (h:Den F H v (kTT.toD c)):∃ b,v=.ref b:=by
 generalize e:kTT.toD c=x at h
 cases h with
 | tup=>exact ⟨_,rfl⟩
 | _=>cases e
section
variable {κ:Type} [DecidableEq κ]
theorem iX (p:κ × D) (m:List (κ × D)) (k:κ):getM (p :: m) k=if p.1=k then some p.2 else getM m k:=by
 unfold getM
 rw [G0]
 by_cases e:p.1=k
 · simp [e]
 · simp [e]
theorem mO (k k':κ) (x:D):∀ m:List (κ × D),getM (m.map λy=>if y.1=k then (y.1,x) else y) k'=if k=k'/\(getM m k).isSome then some x else getM m k'
 | []=>by simp [getM]
 | p :: m=>by
   rw [FJ,iX,mO k k' x m,iX,iX]
   by_cases e:p.1=k
   · rw [if_pos e,if_pos e]
     by_cases e':k=k'
     · simp [e,e']
     · simp [e,e']
   · rw [if_neg e,if_neg e]
     by_cases e':p.1=k'
     · simp [e',show ¬ k=k' from λz=>e (e'.trans z.symm)]
     · simp [e']
theorem qB (m:List (κ × D)) (k k':κ) (x:D):getM (eQ m k x) k'=if k=k' then some x else getM m k':=by
 unfold eQ
 by_cases h:(getM m k).isSome
 · rw [if_pos h,mO]
   simp [h]
 · rw [if_neg h]
   have h:getM m k=none:=by simpa using h
   unfold getM at *
   rw [JT]
   by_cases e:k=k'
   · subst e
     have h:m.find? (λx=>decide (x.1=k))=none:=by simpa using h
     rw [h]
     simp
   · simp [e]
noncomputable def mkM (v:κ->D) (ks:List κ):List (κ × D):=ks.foldl (λm k=>eQ m k (v k)) []
theorem fQ (v:κ->D) (ks:List κ) (k:κ):mkM v (ks++[k])=eQ (mkM v ks) k (v k):=by unfold mkM; rw [GA]; rfl
theorem mR (v:κ->D) (k:κ):∀ (ks:List κ) (m:List (κ × D)),getM (ks.foldl (λm k=>eQ m k (v k)) m) k=if k ∈ ks then some (v k) else getM m k
 | [],m=>by simp
 | k0 :: ks,m=>by
   rw [Jr,mR v k ks,qB]
   by_cases h:k ∈ ks
   · simp [h]
   · by_cases e:k0=k
     · simp [e]
     · simp [h,e,show ¬ k=k0 from λz=>e z.symm]
theorem dh {v:κ->D} {ks:List κ} {k:κ} (h:k ∈ ks):getM (mkM v ks) k=some (v k):=by unfold mkM; rw [mR,if_pos h]
theorem xK (m:List (κ × D)) (k:κ) (x:D):(eQ m k x).length<=m.length + 1:=by
 unfold eQ
 split <;> simp
theorem mL (v:κ->D):∀ (ks:List κ) (m:List (κ × D)),(ks.foldl (λm k=>eQ m k (v k)) m).length<=m.length + ks.length
 | [],m=>by simp
 | k :: ks,m=>by
   rw [Jr]
   have:=mL v ks (eQ m k (v k))
   have:=xK m k (v k)
   rw [Ga]
   omega
theorem gc (v:κ->D) (ks:List κ):(mkM v ks).length<=ks.length:=by unfold mkM; simpa using mL v ks []
theorem xM {m:List (κ × D)} {k:κ} {x:D} {p:κ × D} (h:p ∈ eQ m k x):p=(k,x)\/p ∈ m:=by
 unfold eQ at h
 split at h
 · obtain ⟨q,hq,e⟩:=Fj.mp h
   by_cases z:q.1=k
   · rw [if_pos z] at e; exact .inl (by rw [<- e,z])
   · rw [if_neg z] at e; exact .inr (e ▸ hq)
 · rcases Fs.mp h with h | h
   · exact .inr h
   · exact .inl (Ff.mp h)
theorem mV (v:κ->D) {p:κ × D}:∀ (ks:List κ) (m:List (κ × D)),p ∈ ks.foldl (λm k=>eQ m k (v k)) m->(p.1 ∈ ks/\p.2=v p.1)\/p ∈ m
 | [],m,h=>.inr h
 | k :: ks,m,h=>by
   rw [Jr] at h
   rcases mV v ks _ h with ⟨h1,h2⟩ | h
   · exact .inl ⟨Fh _ h1,h2⟩
   · rcases xM h with e | h
     · exact .inl (by rw [e]; exact ⟨Fi ..,rfl⟩)
     · exact .inr h
theorem gh {v:κ->D} {ks:List κ} {p:κ × D} (h:p ∈ mkM v ks):p.1 ∈ ks/\p.2=v p.1:=(mV v ks [] h).elim id λz=>nomatch z
theorem lJ {m:List (κ × D)} {k:κ} {x:D} (h:getM m k=some x):(k,x) ∈ m:=by
 unfold getM at h
 obtain ⟨p,h1,h2⟩:=HV.mp h
 have e:p.1=k:=by have:=List.find?_some h1; simpa using this
 rw [<- h2,<- e]
 exact HA h1
end
noncomputable def ers (c:List Int) (k:Nat):List Int:=c.take k++c.drop (k + 1)
noncomputable def alP (f:List Int->Int) (row c:List Int) (k:Nat):Int:=row.getD (c.getD k 0).toNat 0 * f (ers c k)
noncomputable def alS (f:List Int->Int) (row c:List Int):Nat->Int
 | 0=>0
 | k + 1=>if Int.fmod ((c.length:Int) - (k:Nat)) 2=0 then alS f row c k - alP f row c k else alS f row c k + alP f row c k
noncomputable def alR (f:List Int->Int) (row c:List Int):Int:=alS f row c c.length
theorem C3 (c:List Int) (k:Nat):kT.toD (ers c k)=.tup (Hy.cutD (c.map D.int) none (some (k:Int))++Hy.cutD (c.map D.int) (some ((k:Int) + 1)) none):=by
 rw [show ((k:Int) + 1)=((k + 1:Nat):Int) from rfl,jd]
 have e:Hy.cutD (c.map D.int) (some ((k + 1:Nat):Int)) none=(c.map D.int).drop (k + 1):=by
   unfold Hy.cutD
   rw [HT.jU,HT.kN]
   rcases Nat.le_total (k + 1) (c.map D.int).length with h | h
   · rw [HW h,FC (by rw [Hi]; exact Fc _)]
   · rw [Kb h,KW (Fc _),KW h,List.take_nil]
 rw [e]
 show D.tup ((ers c k).map D.int)=_
 unfold ers
 rw [FE,HL,KL]
noncomputable def cx (P:Program) (w:World) (ds:List D) (r:Sl):Prop:=∃ (m:List (List Int × D)) (f:List Int->Int) (row c:List Int) (n p:Nat),ds=[bxD kT hdT P w m,dtR row,tpD c]/\c.length<=7/\(∀ k,k < c.length->0<=c.getD k 0/\c.getD k 0 < row.length)/\(∀ k,k < c.length->getM m (ers c k)=some (.int (f (ers c k)))/\Bd p (f (ers c k)))/\(∀ x ∈ row,Bd n x)/\n<=10000/\p<=10000/\r=.d (.int (alR f row c))
section
variable {P:Program} {w:World} {K:Fb} {mg:Str->Option Value} {base:Heap} {k:Nat} {f:Addr} {fd:FuncData} {qual:Str}
theorem g8 (F:Fun K "along_last_row" qual (top 36) f fd) (hb:∀ x ∈ ai,mg x=none):aQ P w K mg base CX0 (k + 1) f fd ["known","row","columns"] (spD K (cx P w)):=by
 refine fnD F dB hb (by rintro _ _ ⟨_,_,_,_,_,_,rfl,_⟩; rfl) ?_
 rintro _ _ ⟨m,g,row,c,n,p,rfl,h7,hc,hg,hr,hn,hp,rfl⟩ cdv A outer s H E b
 have nd:=dB.nd
 have hu:(Xc P w K mg base ["known","row","columns","total","k","part"] qual (top 36) f cdv A outer s H E).A.units + 16 < cLine:=FQ (G1 (by decide:16<=64) _) b.room.units
 have lc:(c.map D.int).length=c.length:=E9 ..
 refine aw 3 nd ae ?_
 refine bu 4 (λi τ=>i<=c.length/\∃ s4 s5,τ=[.d (bxD kT hdT P w m),.d (dtR row),.d (tpD c),.d (.int (alS g row c i)),s4,s5]) b nd (dZ b (a5 b (ab (aa 2) af) iO) (by omega) (by omega)) dU ⟨FR _,.un,.un,rfl⟩ (λi hi τ h=>?_) λτ h=>?_
 · obtain ⟨_,s4,s5,rfl⟩:=h
   have hi:i < c.length:=by rw [aB,lc] at hi; omega
   obtain ⟨c1,c2⟩:=hc i hi
   obtain ⟨g1,g2⟩:=hg i hi
   have ht:(c.getD i 0).toNat < row.length:=by omega
   refine aw 5 nd (ax (aJ (aa 1) (aJ (aa 2) (aa 4) (aV (atR hi))) (aT (rL c1 ht))) (sj (a:=kT) (hd:=hdT) (m:=m) (key:=ers c i) hu (aa 0) (by
     rw [C3]
     exact ax (yg (aa 2) gU (gC (aa 4)) (by rw [HT.jU,lc]; omega)) (yg (aa 2) (gC (ax (aa 4) ae a7)) gU (by rw [show ((i:Int) + 1)=((i + 1:Nat):Int) from rfl,HT.jU,lc]; omega)) (rQ (by
       have l1:∀ l u,(Hy.cutD (c.map D.int) l u).length<=7:=λl u=>by unfold Hy.cutD; rw [FI,Hi,lc]; omega
       have:=l1 none (some (i:Int))
       have:=l1 (some ((i:Int) + 1)) none
       omega))) g1 (cw _) vy) (aX ((hr _ (bJ ht)).aD g2 (by omega) (by omega)))) ?_
   refine aw 3 nd (t9 (s:=.d (.int (alS g row c (i + 1)))) (aS (ax (ax (a5 b (ab (aa 2) af) iO) (aa 4) cF) ae (ba (by decide))) ae de) (λh=>?_) λh=>?_) (aM ⟨hi,_,_,rfl⟩)
   · have h:=of_decide_eq_true h
     rw [lc] at h
     rw [alS,if_pos h]
     exact ax (aa 3) (aa 5) cF
   · have h:=of_decide_eq_false h
     rw [lc] at h
     rw [alS,if_neg h]
     exact ax (aa 3) (aa 5) a7
 · obtain ⟨_,s4,s5,rfl⟩:=h
   refine aF (aa 3) ?_
   rw [aB,lc,Fq]
   rfl
end
noncomputable def orM (f:List Int->Int) (row:List Int) (cs:List (List Int)):List (List Int × D):=mkM (λc=>D.int (alR f row c)) cs
noncomputable def cV (P:Program) (w:World) (ds:List D) (r:Sl):Prop:=∃ (m:List (List Int × D)) (f:List Int->Int) (row:List Int) (cs:List (List Int)) (n p:Nat),ds=[bxD kT hdT P w m,dtR row,nH cs]/\cs.length<=100000/\(∀ c ∈ cs,c.length<=7/\(∀ k,k < c.length->0<=c.getD k 0/\c.getD k 0 < row.length)/\(∀ k,k < c.length->getM m (ers c k)=some (.int (f (ers c k)))/\Bd p (f (ers c k))))/\(∀ x ∈ row,Bd n x)/\n<=10000/\p<=10000/\r=.d (bxD kT hdT P w (orM f row cs))
section
variable {P:Program} {w:World} {K:Fb} {mg:Str->Option Value} {base:Heap} {k:Nat} {f:Addr} {fd:FuncData} {qual:Str}
theorem jK (F:Fun K "one_row_more" qual (top 35) f fd) (hb:∀ x ∈ ai,mg x=none) (c_along_last_row:Cal P w K mg base k "along_last_row" (cx P w)):aQ P w K mg base CX0 (k + 1) f fd ["known","row","column_choices"] (spD K (cV P w)):=by
 refine fnD F fh hb (by rintro _ _ ⟨_,_,_,_,_,_,rfl,_⟩; rfl) ?_
 rintro _ _ ⟨m,g,row,cs,n,p,rfl,h1,hc,hr,hn,hp,rfl⟩ cdv A outer s H E b
 have nd:=fh.nd
 have hu:(Xc P w K mg base ["known","row","column_choices","found","columns"] qual (top 35) f cdv A outer s H E).A.units + 16 < cLine:=FQ (G1 (by decide:16<=64) _) b.room.units
 refine aw 3 nd (q9 (a:=kT) (hd:=hdT)) ?_
 refine bu 4 (g:=λi=>tpD (cs.getD i [])) (λi τ=>∃ s4,τ=[.d (bxD kT hdT P w m),.d (dtR row),.d (nH cs),.x (exK kT hdT P w (orM g row (cs.take i))),s4]) b nd (aU (aa 2)) yz ⟨.un,rfl⟩ (λi hi τ h=>?_) λτ h=>?_
 · obtain ⟨s4,rfl⟩:=h
   have hi:i < cs.length:=by simpa using hi
   obtain ⟨c1,c2,c3⟩:=hc _ (bJ (d:=[]) hi)
   have ln:=gc (λc=>D.int (alR g row c)) (cs.take i)
   rw [FI] at ln
   refine nK 3 (a:=kT) (hd:=hdT) (key:=cs.getD i []) (x:=.int (alR g row (cs.getD i []))) hu rfl (aa 4) (x_call b c_along_last_row (ab (aa 0) (ab (aa 1) (ab (aa 4) af))) ⟨m,g,row,_,n,p,rfl,c1,c2,c3,hr,hn,hp,rfl⟩) (Fz ln (by unfold sizeLine; omega)) (cw _) (aM ⟨.d (tpD (cs.getD i [])),?_⟩)
   rw [take_snoc [] hi]
   unfold orM
   rw [fQ]
   rfl
 · obtain ⟨s4,rfl⟩:=h
   refine AD 3 (a:=kT) (hd:=hdT) (aF (aa 3) ?_)
   rw [E9,FC (Fc _)]
   rfl
end
theorem BP:∀ n,n < 8->∀ t,t < 7->((chs n (t + 1)).all λc=>(chs n t).contains (c.take t) && (Fd (t + 1)).all λk=>(chs n t).contains (ers c k))=true:=by decide +kernel
theorem nM:∀ n,n < 8->∀ t,t < 8->(chs n t).length<=35:=by decide +kernel
theorem iF {n t:Nat} {c:List Int} (hn:n<=7) (ht:t < 7) (h:c ∈ chs n (t + 1)):c.take t ∈ chs n t/\∀ k,k < t + 1->ers c k ∈ chs n t:=by
 have:=F1.mp (BP n (by omega) t ht) c h
 rw [F2] at this
 obtain ⟨h1,h2⟩:=this
 refine ⟨by simpa using h1,λk hk=>?_⟩
 have:=F1.mp h2 k (FN.mpr hk)
 simpa using this
noncomputable def dtm (R:List (List Int)):Nat->List Int->List Int->Int
 | 0,_,_=>1
 | t + 1,ls,c=>alR (dtm R t (ls.take t)) (R.getD (gj ls).toNat []) c
structure Rw (m n b:Nat) (R:List (List Int)):Prop where
 len:R.length=m
 row:∀ r ∈ R,r.length=n/\∀ x ∈ r,Bd b x
 m1:1<=m/\m<=7
 n1:1<=n/\n<=7
 b1:b<=1400
theorem yf {f:List Int->Int} {row c:List Int} {N:Nat}:∀ k,(∀ i,i < k->(alP f row c i).natAbs<=N)->(alS f row c k).natAbs<=k * N
 | 0,_=>by simp [alS]
 | k + 1,h=>by
   have ih:=yf k λi hi=>h i (by omega)
   have h1:=h k (by omega)
   rw [alS,GK]
   split <;> omega
theorem Be {f:List Int->Int} {row c:List Int} {n p:Nat} (h7:c.length<=7) (hr:∀ x ∈ row,Bd n x) (hf:∀ k,k < c.length->Bd p (f (ers c k))):Bd (n + p + 3) (alR f row c):=by
 have h:=yf (f:=f) (row:=row) (c:=c) (N:=2 ^ (n + p)) c.length λi hi=>by
   have h1:Bd n (row.getD (c.getD i 0).toNat 0):=by
     by_cases h:(c.getD i 0).toNat < row.length
     · exact hr _ (bJ h)
     · rw [getD_none (by omega)]
       exact GH n
   exact GR (h1.mul (hf i hi))
 unfold Bd alR
 have e:2 ^ (n + p + 3)=8 * 2 ^ (n + p):=by rw [HH]; omega
 have p0:=GH (n + p)
 have:c.length * 2 ^ (n + p)<=7 * 2 ^ (n + p):=FO _ h7
 omega
theorem yc {m n b:Nat} {R:List (List Int)} (h:Rw m n b R):∀ t,t<=7->∀ ls c,c ∈ chs n t->Bd (1 + t * (b + 3)) (dtm R t ls c)
 | 0,_,_,_,_=>by unfold Bd dtm; rw [Nat.zero_mul]; decide
 | t + 1,ht,ls,c,hc=>by
   have l:=(bI n _ c hc).len
   have:=Be (f:=dtm R t (ls.take t)) (row:=R.getD (gj ls).toNat []) (c:=c) (n:=b) (p:=1 + t * (b + 3)) (by omega) (λx hx=>by
     by_cases hl:(gj ls).toNat < R.length
     · exact (h.row _ (bJ hl)).2 x hx
     · rw [getD_none (by omega)] at hx
       cases hx) λk hk=>yc h t (by omega) _ _ ((iF h.n1.2 (by omega) hc).2 k (by omega))
   rw [dtm]
   refine this.mono ?_
   rw [GK]
   omega
noncomputable def mn (P:Program) (w:World) (R:List (List Int)) (n t:Nat) (ls:List Int):D:=bxD kT hdT P w (mkM (λc=>D.int (dtm R t ls c)) (chs n t))
noncomputable def knM (P:Program) (w:World) (R:List (List Int)) (m n t:Nat):List (List Int × D):=mkM (mn P w R n t) (chs m t)
noncomputable def ky1 (n t:Nat) (ls:List Int):List (List Int × List Int):=(chs n t).map λc=>(ls,c)
noncomputable def kys (m n i:Nat):List (List Int × List Int):=(Fd i).flatMap λt=>(chs m (t + 1)).flatMap (ky1 n (t + 1))
noncomputable def vD (R:List (List Int)) (p:List Int × List Int):Int:=dtm R p.1.length p.1 p.2
noncomputable def fdM (R:List (List Int)) (ks:List (List Int × List Int)):List ((List Int × List Int) × D):=mkM (λp=>D.int (vD R p)) ks
theorem xi {n t:Nat} (hn:n<=7) (ht:t<=7):∀ ls:List (List Int),ls.length<=35->(ls.flatMap (ky1 n t)).length<=1225:=λls hl=>by
 have:=fD (ky1 n t) 35 ls λx _=>by unfold ky1; rw [E9]; exact nM n (by omega) t (by omega)
 omega
theorem kys_len {m n i:Nat} (hm:m<=7) (hn:n<=7) (hi:i<=7):(kys m n i).length<=8575:=by
 have:=fD (λt=>(chs m (t + 1)).flatMap (ky1 n (t + 1))) 1225 (Fd i) λt ht=>xi hn (by have:=FN.mp ht; omega) _ (nM m (by omega) _ (by have:=FN.mp ht; omega))
 rw [Gz] at this
 unfold kys
 omega
noncomputable def b5 (P:Program) (w:World) (ds:List D) (r:Sl):Prop:=∃ (R:List (List Int)) (m n b:Nat),ds=[.lst (R.map dtR)]/\Rw m n b R/\r=.d (.box (bxW kTT lU P w (fdM R (kys m n (min m n)))))
theorem nW {R:List (List Int)} {i:Int} (h0:0<=i) (h:i.toNat < R.length):atI (R.map dtR) i=some (dtR (R.getD i.toNat [])):=by
 obtain ⟨n,rfl⟩:=Je h0
 exact aP (by
   have h:n < R.length:=h
   simp [h])
theorem Cm (c:List Int) (t:Nat) (h:c.length=t + 1):D.tup (Hy.cutD (c.map D.int) none (some (-1)))=kT.toD (c.take t):=by
 unfold Hy.cutD
 have e:HT.sIx (c.map D.int).length (c.map D.int).length (some (-1))=t:=by
   unfold HT.sIx
   simp only []
   rw [if_pos (by decide),E9,h]
   omega
 rw [e,HT.kN,JE,J5,<- HL]
 rfl
theorem kn0 (P:Program) (w:World) (R:List (List Int)) (m n:Nat):knM P w R m n 0=[([],bxD kT hdT P w [([],.int 1)])]:=rfl
section
variable {P:Program} {w:World} {K:Fb} {mg:Str->Option Value} {base:Heap} {k:Nat} {f:Addr} {fd:FuncData} {qual:Str}
set_option maxHeartbeats 1000000 in
theorem gk (F:Fun K "all_determinants" qual (top 34) f fd) (hb:∀ x ∈ ai,mg x=none) (c_choices_of:Cal P w K mg base k "choices_of" eV) (c_one_row_more:Cal P w K mg base k "one_row_more" (cV P w)):aQ P w K mg base CX0 (k + 1) f fd ["rows"] (spD K (b5 P w)):=by
 refine fnD F cM hb (by rintro _ _ ⟨_,_,_,_,rfl,_⟩; rfl) ?_
 rintro _ _ ⟨R,m,n,b0,rfl,ok,rfl⟩ cdv A outer s H E b
 have nd:=cM.nd
 have hu:(Xc P w K mg base ["rows","found","known","size","fresh","column_choices","some","columns"] qual (top 34) f cdv A outer s H E).A.units + 16 < cLine:=FQ (G1 (by decide:16<=64) _) b.room.units
 obtain ⟨⟨m1,m7⟩,n1,n7⟩:=And.intro ok.m1 ok.n1
 have lR:(R.map dtR).length=m:=by rw [E9,ok.len]
 have r0:(R.getD 0 []).length=n:=(ok.row _ (bJ (by rw [ok.len]; omega))).1
 have lr0:((R.getD 0 []).map D.int).length=n:=by rw [E9,r0]
 have a0:atI (R.map dtR) 0=some (dtR (R.getD 0 [])):=nW (i:=0) (by decide) (by rw [ok.len]; show 0 < m; omega)
 have hmin:(if ((((R.getD 0 []).map D.int).length:Nat):Int) < ((R.map dtR).length:Nat) then ((((R.getD 0 []).map D.int).length:Nat):Int) else ((R.map dtR).length:Nat))=((min m n:Nat):Int):=by
   rw [lR,lr0]
   split <;> omega
 refine aw 1 nd (q9 (a:=kTT) (hd:=lU)) ?_
 generalize e:Expr.Dict [some (Expr.Tuple [] 0 _)] _ _=ex
 refine aw 2 nd (s:=.d (bxD kT hdT P w [([],bxD kT hdT P w [([],.int 1)])])) ?_ ?_ (hs:=by subst e; rfl)
 · subst e
   generalize e:Expr.Dict [some (Expr.Tuple [] 0 _)] [Expr.Constant _ _ _] _=ex
   refine Am (a:=kT) (hd:=hdT) (rW (a:=kT) (hd:=hdT) (key:=[]) (x:=bxD kT hdT P w [([],.int 1)]) hu ?_ ?_ (cw []))
   · show PE _ _ (dE _ _ _ (.d (.tup [])))
     exact cg af
   · subst e
     refine Am (a:=kT) (hd:=hdT) (m:=[([],.int 1)]) (rW (a:=kT) (hd:=hdT) (key:=[]) (x:=.int 1) hu ?_ ae (cw []))
     show PE _ _ (dE _ _ _ (.d (.tup [])))
     exact cg af
 refine bu 3 (g:=λi=>.int (1 + (i:Nat))) (λi τ=>i<=min m n/\∃ s3 s4 s5 s6 s7,τ=[.d (.lst (R.map dtR)),.x (exK kTT lU P w (fdM R (kys m n i))),.d (bxD kT hdT P w (knM P w R m n i)),s3,s4,s5,s6,s7]) b nd (iZ b ae (ax (a5 b (ab (a5 b (ab (aa 0) af) fR) (ab (a5 b (ab (aJ (aa 0) ae (aT a0)) af) fR) af)) (px b.calm)) ae a7) (by rw [hmin]; omega)) (λk hk=>hX _ _ k hk) ⟨FR _,.un,.un,.un,.un,.un,by rw [kn0]; rfl⟩ (λi hi τ h=>?_) λτ h=>?_
 · obtain ⟨_,s3,s4,s5,s6,s7,rfl⟩:=h
   have hi:i < min m n:=by rw [aB,hmin] at hi; omega
   have e1:(1 + (i:Nat):Int)=((i + 1:Nat):Int):=by omega
   rw [e1]
   refine aw 4 nd (q9 (a:=kT) (hd:=hdT)) ?_
   refine aw 5 nd (x_call b c_choices_of (ab (a5 b (ab (aJ (aa 0) ae (aT a0)) af) fR) (ab (aa 3) af)) ⟨n,i + 1,by rw [lr0],n7,by omega,rfl⟩) ?_
   refine bu 6 (g:=λl=>tpD ((chs m (i + 1)).getD l [])) (λl τ=>∃ s6 s7,τ=[.d (.lst (R.map dtR)),.x (exK kTT lU P w (fdM R (kys m n i++((chs m (i + 1)).take l).flatMap (ky1 n (i + 1))))),.d (bxD kT hdT P w (knM P w R m n i)),.d (.int ((i + 1:Nat):Int)),.x (exK kT hdT P w (mkM (mn P w R n (i + 1)) ((chs m (i + 1)).take l))),.d (nH (chs n (i + 1))),s6,s7]) b nd (aU (x_call b c_choices_of (ab (a5 b (ab (aa 0) af) fR) (ab (aa 3) af)) ⟨m,i + 1,by rw [lR],m7,by omega,rfl⟩)) yz ⟨s6,s7,by simp [mkM]; rfl⟩ (λl hl τ h=>?_) λτ h=>?_
   · obtain ⟨s6,s7,rfl⟩:=h
     have hl:l < (chs m (i + 1)).length:=by simpa using hl
     have hs:=bJ (d:=[]) hl
     generalize hls:(chs m (i + 1)).getD l []=ls at hs
     have okl:=bI m _ ls hs
     have l35:=nM m (by omega) (i + 1) (by omega)
     have n35:=nM n (by omega) (i + 1) (by omega)
     have lf:=gc (mn P w R n (i + 1)) ((chs m (i + 1)).take l)
     rw [FI] at lf
     have ne:ls ≠ []:=λz=>by have:=okl.len; rw [z] at this; cases this
     have last:0<=gj ls/\gj ls < m:=by
       have:=okl.at_ i (by omega)
       unfold gj
       rw [okl.len]
       exact this
     have hlr:(gj ls).toNat < R.length:=by rw [ok.len]; omega
     have hrow:=ok.row _ (bJ (d:=[]) hlr)
     have pre:=(iF m7 (by omega) hs).1
     have key:kT.toD (ls.take i)=D.tup (Hy.cutD (ls.map D.int) none (some (-1))):=(Cm ls i okl.len).symm
     refine nK 4 (a:=kT) (hd:=hdT) (key:=ls) (x:=mn P w R n (i + 1) ls) hu rfl (aa 6) (x_call b c_one_row_more (ab (sj (a:=kT) (hd:=hdT) (m:=knM P w R m n i) (key:=ls.take i) (x:=mn P w R n i (ls.take i)) hu (aa 2) (by
       rw [key]
       refine yg (aa 6) gU (gC (iD ae)) ?_
       rintro ⟨_,z⟩
       have e:HT.sIx (ls.map D.int).length (ls.map D.int).length (some (-1))=i:=by
         unfold HT.sIx
         simp only []
         rw [if_pos (by decide),E9,okl.len]
         omega
       rw [e,E9,okl.len] at z
       omega) (dh pre) (cw _) λ_ _=>rfl) (ab (aJ (aa 0) (aJ (aa 6) (iD ae) (aV (tD ne))) (aT (nW last.1 hlr))) (ab (aa 5) af))) ⟨_,dtm R i (ls.take i),_,_,b0,1 + i * (b0 + 3),rfl,by omega,λc hc=>?_,hrow.2,by have:=ok.b1; omega,?_,rfl⟩) (Fz lf (by unfold sizeLine; omega)) (cw _) ?_
     · have okc:=bI n _ c hc
       refine ⟨by rw [okc.len]; omega,λk hk=>?_,λk hk=>?_⟩
       · rw [hrow.1]
         exact okc.at_ k (by rw [okc.len] at hk; exact hk)
       · have hk:k < i + 1:=by rw [okc.len] at hk; exact hk
         have:=(iF n7 (by omega) hc).2 k hk
         exact ⟨dh this,yc ok i (by omega) _ _ this⟩
     · have:=ok.b1
       have:i * (b0 + 3)<=6 * (b0 + 3):=FO _ (by omega)
       omega
     have kl:=kys_len (i:=i) m7 n7 (by omega)
     have kk:=xi (t:=i + 1) n7 (by omega) ((chs m (i + 1)).take l) (by rw [FI]; omega)
     refine bu 7 (g:=λj=>tpD ((chs n (i + 1)).getD j [])) (λj τ=>∃ s7,τ=[.d (.lst (R.map dtR)),.x (exK kTT lU P w (fdM R (kys m n i++((chs m (i + 1)).take l).flatMap (ky1 n (i + 1))++((chs n (i + 1)).take j).map λc=>(ls,c)))),.d (bxD kT hdT P w (knM P w R m n i)),.d (.int ((i + 1:Nat):Int)),.x (exK kT hdT P w (eQ (mkM (mn P w R n (i + 1)) ((chs m (i + 1)).take l)) ls (mn P w R n (i + 1) ls))),.d (nH (chs n (i + 1))),.d (tpD ls),s7]) b nd (aU (aa 5)) yz ⟨s7,by simp; rfl⟩ (λj hj τ h=>?_) λτ h=>?_
     · obtain ⟨s7,rfl⟩:=h
       have hj:j < (chs n (i + 1)).length:=by simpa using hj
       have hc:=bJ (d:=[]) hj
       generalize hcs:(chs n (i + 1)).getD j []=c at hc
       have gF:getM (eQ (mkM (mn P w R n (i + 1)) ((chs m (i + 1)).take l)) ls (mn P w R n (i + 1) ls)) ls=some (mn P w R n (i + 1) ls):=by rw [qB,if_pos rfl]
       refine nK 1 (a:=kTT) (hd:=lU) (key:=(ls,c)) (x:=.int (vD R (ls,c))) hu rfl (cg (ab (aa 6) (ab (aa 7) af))) (sj (a:=kT) (hd:=hdT) (key:=c) hu (rB 4 (a:=kT) (hd:=hdT) (key:=ls) hu rfl (aa 6) gF (cw _) eK) (aa 7) ?_ (cw _) eK) ?_ (tR _) (aM ⟨.d (tpD c),?_⟩)
       · rw [dh hc]
         show _=some (D.int (dtm R ls.length ls c))
         rw [okl.len]
       · refine Fz (gc _ _) ?_
         rw [Fw,Fw,E9,FI]
         unfold sizeLine
         omega
       · rw [take_snoc [] hj,hcs,FE,<- GB]
         unfold fdM
         rw [List.map_singleton,fQ]
         rfl
     · obtain ⟨s7,rfl⟩:=h
       refine aM ⟨.d (tpD ls),s7,?_⟩
       rw [take_snoc [] hl,hls,fQ,JF,E9,FC (Fc _),GB]
       simp [ky1]
   · obtain ⟨s6,s7,rfl⟩:=h
     refine AD 4 (a:=kT) (hd:=hdT) (aw 2 nd (aa 4) (aM ⟨hi,.d (.int ((i + 1:Nat):Int)),.d (bxD kT hdT P w (knM P w R m n (i + 1))),.d (nH (chs n (i + 1))),s6,s7,?_⟩))
     rw [E9,FC (Fc _)]
     have e:kys m n (i + 1)=kys m n i++(chs m (i + 1)).flatMap (ky1 n (i + 1)):=by unfold kys; rw [F3,JF]; simp
     rw [e]
     rfl
 · obtain ⟨_,s3,s4,s5,s6,s7,rfl⟩:=h
   refine AJ 1 (a:=kTT) (hd:=lU) (aF (aa 1) ?_)
   rw [aB,hmin]
   show Sl.d (.box (bxW kTT lU P w (fdM R (kys m n ((((min m n:Nat):Int) + 1) - 1).toNat))))=_
   rw [Int.add_sub_cancel,Fq]
end
noncomputable def rwN (r:List Int):Nd:=.l ((r.map D.int).map .d)
noncomputable def lh (R:List (List Int)):Nd:=.l (R.map rwN)
theorem rw_ok {m n d v:Nat} {M:List (List Rat)} (t:Tq m n M) (hq:∀ r ∈ M,∀ x ∈ r,Qs d v x) (hb:v + (1 + n * d)<=1400):Rw m n (v + (1 + n * d)) (whM M (M.map scL)):=by
 refine ⟨by unfold whM; simp [t.len],λr hr=>?_,⟨t.r1,t.r7⟩,⟨t.c1,t.c7⟩,hb⟩
 unfold whM at hr
 obtain ⟨i,hi,rfl⟩:=Fj.mp hr
 rw [FN] at hi
 have mi:M.getD i [] ∈ M:=aK hi
 refine ⟨by unfold whR; rw [E9]; exact t.row _ mi,λx hx=>?_⟩
 unfold whR at hx
 obtain ⟨q,hq',rfl⟩:=Fj.mp hx
 have e:(M.map scL).getD i 0=scL (M.getD i []):=by simp [hi]
 rw [e]
 have:=cI (d:=d) (r:=M.getD i []) λx hx=>(hq _ mi x hx).den
 rw [t.row _ mi] at this
 exact xp (hq _ mi q hq') ((cv _).2 q hq') this
noncomputable def fuO (R:List (List Int)) (m n:Nat) (t:Int):Option (List Int × List Int):=(((fdM R (kys m n (min m n))).map (·.1)).find? λp=>decide (vD R p < t))
noncomputable def fuD:Option (List Int × List Int)->D
 | none=>.non
 | some p=>.tup [.lst (p.1.map .int),.lst (p.2.map .int)]
theorem yO {R:List (List Int)} {m n:Nat} {t:Int}:fuO R m n t=none ↔ ∀ p ∈ kys m n (min m n),t<=vD R p:=by
 unfold fuO
 rw [List.find?_eq_none]
 constructor
 · intro h p hp
   have:=h p (Fj.mpr ⟨_,lJ (dh (v:=λp=>D.int (vD R p)) hp),rfl⟩)
   have:=of_decide_eq_false (by simpa using this:decide (vD R p < t)=false)
   omega
 · intro h p hp
   obtain ⟨q,hq,rfl⟩:=Fj.mp hp
   have:=h _ (gh hq).1
   simp
   omega
theorem Ce {X:Cx} {o:Option (List Int × List Int)}:cq X (compareOp .Is) (fuD o) .non (.bl o.isNone):=⟨_,xI,λ_ v w H Q _ d1 d2 k=>by
 cases d2
 cases o with
 | none=>cases d1; exact ⟨rfl,by rw [decide_eq_true rfl]; exact k _ H (aj.refl _) .bl⟩
 | some i=>cases d1; exact ⟨rfl,by rw [decide_eq_false (by intro z; cases z)]; exact k _ H (aj.refl _) .bl⟩⟩
noncomputable def fuS:Option (List Int × List Int)->Sl
 | none=>.d .non
 | some p=>.n (.t [rwN p.1,rwN p.2])
noncomputable def dJ (ds:List D) (r:Sl):Prop:=∃ (m n d v:Nat) (M:List (List Rat)) (t:Int),ds=[tbQ M,.int t]/\Tq m n M/\(∀ r ∈ M,∀ x ∈ r,Qs d v x)/\v + (1 + n * d)<=1400/\r=fuS (fuO (whM M (M.map scL)) m n t)
noncomputable def dF (ds:List D) (r:Sl):Prop:=∃ (m n d v:Nat) (M:List (List Rat)),ds=[tbQ M]/\Tq m n M/\(∀ r ∈ M,∀ x ∈ r,Qs d v x)/\v + (1 + n * d)<=1400/\r=fuS (fuO (whM M (M.map scL)) m n 0)
section
variable {P:Program} {w:World} {K:Fb} {mg:Str->Option Value} {base:Heap} {k:Nat} {f:Addr} {fd:FuncData} {qual:Str}
set_option maxHeartbeats 1000000 in
theorem kr (F:Fun K "first_under" qual (top 33) f fd) (hb:∀ x ∈ ai,mg x=none) (c_all_determinants:Cal P w K mg base k "all_determinants" (b5 P w)) (c_whole_rows:Cal P w K mg base k "whole_rows" cn) (c_scale_of:Cal P w K mg base k "scale_of" cu):aQ P w K mg base CX0 (k + 1) f fd ["table","bound"] (spD K dJ):=by
 refine fnD F fS hb (by rintro _ _ ⟨_,_,_,_,_,_,rfl,_⟩; rfl) ?_
 rintro _ _ ⟨m,n,d,v,M,t,rfl,tq,hq,hz,rfl⟩ cdv A outer s H E b
 have nd:=fS.nd
 have hu:(Xc P w K mg base ["table","bound","found","choices"] qual (top 33) f cdv A outer s H E).A.units + 16 < cLine:=FQ (G1 (by decide:16<=64) _) b.room.units
 have r7:=tq.r7
 have c7:=tq.c7
 have nd1:d<=n * d:=G5 d tq.c1
 have ok:=rw_ok tq hq hz
 generalize hRR:whM M (M.map scL)=R at ok
 have es:(D.lst ((M.map scL).map .int))=.lst ((Fd (M.map rwQ).length).map λi=>D.int (scL (M.getD i []))):=by
   exact congrArg D.lst (((bE (λr:List Rat=>D.int (scL r)) M [] (E9 ..)).trans (by rw [Fx]; rfl)).symm)
 refine aw 2 nd (x_call b c_all_determinants (ab (a4 (x_call b c_whole_rows (ab (aa 0) (ab (a4 (bV (cmp 0 (g:=λi=>rwQ (M.getD i [])) (f:=λi=>.int (scL (M.getD i []))) b (aU (aa 0)) (a9 (f:=rwQ) (xs:=M) []) (by rw [E9,tq.len]; omega) λi hi s0 H0 fp=>(x_call (b.comp s0 H0 _ fp) c_scale_of (ab (aa 0) af) ⟨_,d,rfl,?_,?_,?_,?_,rfl⟩)))) af)) ⟨M,M.map scL,v + d,by rw [es],by rw [E9],by rw [tq.len]; omega,λr hr=>⟨by rw [tq.row r hr]; omega,λx hx=>(hq r hr x hx).sq⟩,by omega,?_,rfl⟩)) af) ⟨R,m,n,_,by rw [hRR],ok,rfl⟩) ?_
 · rw [tq.row _ (aK (by simpa using hi))]; omega
 · exact λx hx=>(hq _ (aK (by simpa using hi)) x hx).den
 · rw [tq.row _ (aK (by simpa using hi))]; omega
 · omega
 · intro s hs
   obtain ⟨r,hr,rfl⟩:=Fj.mp hs
   have:=cI (d:=d) (r:=r) λx hx=>(hq _ hr x hx).den
   rw [tq.row r hr] at this
   exact this.mono (by omega)
 have hall:∀ p ∈ (fdM R (kys m n (min m n))).map (·.1),getM (fdM R (kys m n (min m n))) p=some (.int (vD R p)):=λp hp=>by
   obtain ⟨q,hq,rfl⟩:=Fj.mp hp
   exact dh (gh hq).1
 unfold fuO
 generalize hks:(fdM R (kys m n (min m n))).map (·.1)=ks at hall
 have em:(fdM R (kys m n (min m n))).map (λp=>kTT.toD p.1)=ks.map kTT.toD:=by rw [<- hks,Fx]; rfl
 refine bu 3 (g:=λi=>kTT.toD (ks.getD i ([],[]))) (λi τ=>(ks.take i).find? (λp=>decide (vD R p < t))=none/\∃ s3,τ=[.d (tbQ M),.d (.int t),.d (.box (bxW kTT lU P w (fdM R (kys m n (min m n))))),s3]) b nd (em ▸ tX (aa 2)) (a9 (f:=kTT.toD) (xs:=ks) ([],[])) ⟨rfl,.un,rfl⟩ (λi hi τ h=>?_) λτ h=>?_
 · obtain ⟨h0,s3,rfl⟩:=h
   have hi:i < ks.length:=by simpa using hi
   have mi:ks.getD i ([],[]) ∈ ks:=aK hi
   have g:=hall _ mi
   have es:ks.take (i + 1)=ks.take i++[ks.getD i ([],[])]:=take_snoc _ hi
   generalize hp:ks.getD i ([],[])=p at g es
   refine b9 (aS (wo (a:=kTT) (hd:=lU) (key:=p) hu (aa 2) (aa 3) g (tR _) eK) (aa 1) kc) (λh=>?_) λh=>?_
   · have e:ks.find? (λp=>decide (vD R p < t))=some p:=by
       have e1:ks=ks.take i++p :: ks.drop (i + 1):=by
         have:=Ig (i + 1) ks
         rw [es,GB] at this
         exact this.symm
       rw [e1,JT,h0,G0,h]
       rfl
     rw [e]
     exact aF (Bz (yj (kS b (ab (aJ (aa 3) ae (aV rfl)) af) sL) rfl (yj (kS b (ab (aJ (aa 3) ae (aV rfl)) af) sL) rfl DC))) rfl
   · refine aM ⟨?_,_,rfl⟩
     rw [es,JT,h0,G0,h]
     rfl
 · obtain ⟨h0,s3,rfl⟩:=h
   rw [E9,FC (Fc _)] at h0
   rw [h0]
   exact aF pP rfl
theorem j0 (F:Fun K "first_below" qual (top 38) f fd) (hb:∀ x ∈ ai,mg x=none) (c_look_table:Cal P w K mg base k "look_table" cf) (c_first_under:Cal P w K mg base k "first_under" dJ):aQ P w K mg base CX0 (k + 1) f fd ["table"] (spD K dF):=by
 refine fnD F lL hb (by rintro _ _ ⟨_,_,_,_,_,rfl,_⟩; rfl) ?_
 rintro _ _ ⟨m,n,d,v,M,rfl,tq,hq,hz,rfl⟩ cdv A outer s H E b
 refine gW (x_call b c_look_table (ab (aa 0) af) ⟨m,n,M,rfl,tq,rfl⟩) ?_
 exact aF (x_call b c_first_under (ab (aa 0) (ab ae af)) ⟨m,n,d,v,M,0,rfl,tq,hq,hz,rfl⟩) rfl
end
noncomputable def cD (ds:List D) (r:Sl):Prop:=∃ a b:Int,ds=[.int a,.int b]/\r=.d (.int (GD a b:Int))
noncomputable def ic (ds:List D) (r:Sl):Prop:=∃ (t b:Int) (q:Rat),ds=[.int t,.int b]/\0 < b/\Bd 8999 b/\(t:Rat)=q * (b:Rat)/\r=.d (frD q)
noncomputable def jV (ds:List D) (r:Sl):Prop:=∃ (ns:List Int) (k:Nat),ds=[.lst (ns.map .int),.int k]/\r=.d (.int (ns.getD k 0))
noncomputable def rsZ (c u:Int):Int:=if decide ((10:Int) ^ Hs 18<=lZ c)=true then c.fdiv u else c + u
noncomputable def k8 (ds:List D) (r:Sl):Prop:=∃ c u:Int,ds=[.int c,.int u]/\0 < u/\u < 2 ^ 60/\r=.d (.int (rsZ c u))
theorem Qs.of {t b:Int} {q:Rat} {d v:Nat} (hb:0 < b) (h:(t:Rat)=q * (b:Rat)) (hd:Bd d b) (hv:t.natAbs<=2 ^ v):Qs d v q:=by
 obtain ⟨e1,e2⟩:=kx hb h
 refine ⟨by rw [e2]; exact hd.ediv _,?_⟩
 have g:=Jj (a:=t) (b:=b)
 have h1:q.num.natAbs<=t.natAbs:=by rw [e1]; exact KH ..
 exact Fz h1 (Fz hv (Nat.le_mul_of_pos_right _ q.den_pos))
noncomputable def nmT (kd:Nat) (p:Int):Int:=if kd=1 then p.fmod 5 - 2 else if kd=3 then (p.fdiv 2).fmod (10 ^ 40) * (1 - 2 * p.fmod 2) else if kd=2 then p.fmod 10 else p.fmod 19 - 9
noncomputable def nmB (kd:Nat) (p:Int):Int:=if kd=1 then 1 else if kd=3 then 1 + (p.fdiv (2 * 10 ^ 40)).fmod (10 ^ 40 - 1) else if kd=2 then 1 + (p.fdiv 10).fmod 6 else 1 + (p.fdiv 19).fmod 6
noncomputable def nmQ (kd:Nat) (p:Int):Rat:=if kd=1 then ((p.fmod 5 - 2:Int):Rat) else ((nmT kd p:Int):Rat) / ((nmB kd p:Int):Rat)
noncomputable def kD (kd:Nat):Nat:=if kd=3 then 133 else 3
noncomputable def kV (kd:Nat):Nat:=if kd=3 then 133 else 4
theorem fmn {a b:Int} (h:0 < b):0<=a.fmod b/\a.fmod b < b:=⟨Hk a h,IG a h⟩
theorem ow {kd:Nat} (p:Int):0 < nmB kd p/\Bd (kD kd) (nmB kd p):=by
 unfold nmB kD
 by_cases h1:kd=1
 · rw [if_pos h1,if_neg (by omega)]; exact ⟨by decide,by unfold Bd; decide⟩
 · rw [if_neg h1]
   by_cases h3:kd=3
   · rw [if_pos h3,if_pos h3]
     have:=fmn (a:=p.fdiv (2 * 10 ^ 40)) (b:=10 ^ 40 - 1) (by decide)
     refine ⟨by omega,?_⟩
     unfold Bd
     have:(10:Int) ^ 40 < 2 ^ 133:=by decide
     have e:((2 ^ 133:Nat):Int)=2 ^ 133:=by decide
     omega
   · rw [if_neg h3,if_neg h3]
     by_cases h2:kd=2
     · rw [if_pos h2]
       have:=fmn (a:=p.fdiv 10) (b:=6) (by decide)
       exact ⟨by omega,by unfold Bd; omega⟩
     · rw [if_neg h2]
       have:=fmn (a:=p.fdiv 19) (b:=6) (by decide)
       exact ⟨by omega,by unfold Bd; omega⟩
theorem B7 {kd:Nat} (p:Int):(nmT kd p).natAbs<=2 ^ kV kd:=by
 unfold nmT kV
 by_cases h1:kd=1
 · rw [if_pos h1,if_neg (by omega)]
   have:=fmn (a:=p) (b:=5) (by decide)
   omega
 · rw [if_neg h1]
   by_cases h3:kd=3
   · rw [if_pos h3,if_pos h3]
     have h4:=fmn (a:=p.fdiv 2) (b:=10 ^ 40) (by decide)
     have h5:=fmn (a:=p) (b:=2) (by decide)
     have:(10:Int) ^ 40 < 2 ^ 133:=by decide
     have e:((2 ^ 133:Nat):Int)=2 ^ 133:=by decide
     rw [Gj,show (1 - 2 * p.fmod 2).natAbs=1 by omega,Ks]
     omega
   · rw [if_neg h3,if_neg h3]
     by_cases h2:kd=2
     · rw [if_pos h2]
       have:=fmn (a:=p) (b:=10) (by decide)
       omega
     · rw [if_neg h2]
       have:=fmn (a:=p) (b:=19) (by decide)
       omega
theorem wk {kd:Nat} (p:Int):((nmT kd p:Int):Rat)=nmQ kd p * ((nmB kd p:Int):Rat):=by
 unfold nmQ
 by_cases h1:kd=1
 · rw [if_pos h1]
   unfold nmT nmB
   rw [if_pos h1,if_pos h1]
   exact (Ir _).symm
 · rw [if_neg h1]
   exact (Rat.div_mul_cancel (B0 (ow p).1)).symm
theorem DK {kd:Nat} (p:Int):Qs (kD kd) (kV kd) (nmQ kd p):=Qs.of (ow p).1 (wk p) (ow p).2 (B7 p)
noncomputable def gG (ds:List D) (r:Sl):Prop:=∃ (kd:Nat) (p:Int),ds=[.int (kd:Nat),.int p]/\kd < 4/\r=.d (frD (nmQ kd p))
theorem m40:aD ((2:Int) * 10 ^ 40) (10 ^ 40):=(show Bd 140 ((2:Int) * 10 ^ 40) by unfold Bd; decide).aD (show Bd 140 ((10:Int) ^ 40) by unfold Bd; decide) (by decide) (by decide)
theorem EA:aE ((2:Int) * 10 ^ 40):=(show Bd 140 ((2:Int) * 10 ^ 40) by unfold Bd; decide).aE (by decide) (by decide)
section
variable {P:Program} {w:World} {K:Fb} {mg:Str->Option Value} {base:Heap} {k:Nat} {f:Addr} {fd:FuncData} {qual:Str}
theorem nU (F:Fun K "_law_divisor" qual (top 54) f fd) (hb:∀ x ∈ ai,mg x=none):aQ P w K mg base CX0 (k + 1) f fd ["_law_one","_law_other"] (spD K cD):=by
 refine fnD F iC hb (by rintro _ _ ⟨_,_,rfl,_⟩; rfl) ?_
 rintro _ _ ⟨x,y,rfl,rfl⟩ cdv A outer s H E b
 have nd:=iC.nd
 refine aw 0 nd (a5 b (ab (aa 0) af) jY) (aw 1 nd (a5 b (ab (aa 1) af) jY) ?_)
 rw [iu,iu]
 refine oK (λn t τ=>∃ (g:Nat) (s2:Sl),Nat.gcd g n=GD x y/\t=(decide ((0:Int) < n))/\τ=[.d (.int g),.d (.int n),s2]) b ⟨_,_,_,_,rfl,rfl,rfl⟩ (λn t τ h=>?_) (λn τ h=>?_) λn τ h=>?_
 · obtain ⟨g,s2,_,rfl,rfl⟩:=h
   exact aS (aa 1) ae pU
 · obtain ⟨g,s2,hg,ht,rfl⟩:=h
   have hl:n ≠ 0:=λz=>by simp [z] at ht
   have e:(g:Int).fmod n=((g % n:Nat):Int):=by rw [FU _ (by omega)]; rfl
   refine aw 2 nd (ax (aa 0) (aa 1) (ba (by omega))) ?_
   rw [e]
   refine aw 0 nd (aa 1) (aw 1 nd (aa 2) (aM ⟨g % n,_,JA g (Nat.pos_of_ne_zero hl),n,_,?_,rfl,rfl⟩))
   rw [<- hg,Jz n,<- Nat.gcd_rec,Jz]
 · obtain ⟨g,s2,hg,ht,rfl⟩:=h
   have hl:n=0:=by have:=of_decide_eq_false ht.symm; omega
   refine aF (aa 0) ?_
   rw [<- hg,hl,Nat.gcd_zero_right]
theorem vc (F:Fun K "_law_made" qual (top 55) f fd) (hb:∀ x ∈ ai,mg x=none) (c_l_divisor:Cal P w K mg base k "_law_divisor" cD):aQ P w K mg base CX0 (k + 1) f fd ["_law_top","_law_bottom"] (spD K ic):=by
 refine fnD F mX hb (by rintro _ _ ⟨_,_,_,rfl,_⟩; rfl) ?_
 rintro _ _ ⟨t,c,q,rfl,h0,h1,hq,rfl⟩ cdv A outer s H E b
 have nd:=mX.nd
 have dv:aE (GD t c:Int):=(h1.gcd (by omega)).aE (jk (by omega)) (by decide)
 obtain ⟨e1,e2⟩:=kx h0 hq
 refine aw 2 nd (x_call b c_l_divisor (ab (aa 0) (ab (aa 1) af)) ⟨_,_,rfl,rfl⟩) (aF (cg (ab (ax (aa 0) (aa 2) (bH dv)) (ab (ax (aa 1) (aa 2) (bH dv)) af))) ?_)
 rw [c9,c9,<- e1,<- e2]
 rfl
theorem uw (F:Fun K "_law_cell" qual (top 51) f fd) (hb:∀ x ∈ ai,mg x=none):aQ P w K mg base CX0 (k + 1) f fd ["_law_script","_law_k"] (spD K jV):=by
 refine fnD F vg hb (by rintro _ _ ⟨_,_,rfl,_⟩; rfl) ?_
 rintro _ _ ⟨ns,n,rfl,rfl⟩ cdv A outer s H E b
 refine b9 (aS (aa 1) (a5 b (ab (aa 0) af) fR) kc) (λh=>?_) λh=>?_
 · have h:=of_decide_eq_true h
   rw [E9] at h
   exact aF (aJ (aa 0) (aa 1) (aT (rL (by omega) (by omega)))) rfl
 · have h:=of_decide_eq_false h
   rw [E9] at h
   refine aF ae ?_
   show Sl.d (.int 0)=_
   rw [getD_none (by omega)]
theorem uk (F:Fun K "_law_rest" qual (top 53) f fd) (hb:∀ x ∈ ai,mg x=none):aQ P w K mg base CX0 (k + 1) f fd ["_law_cell_here","_law_used"] (spD K k8):=by
 refine fnD F uZ hb (by rintro _ _ ⟨_,_,rfl,_⟩; rfl) ?_
 rintro _ _ ⟨c,u,rfl,h0,h1,rfl⟩ cdv A outer s H E b
 refine b9 (aS (a5 b (ab (aa 0) af) jY) (ax ae ae (lG ⟨by decide,by decide,by decide⟩)) B6) (λh=>?_) λh=>?_
 · refine aF (ax (aa 0) (aa 1) (bH (mkD (by omega) (by omega)))) ?_
   unfold rsZ
   rw [if_pos (show decide ((10:Int) ^ Hs 18<=lZ c)=true from h)]
 · refine aF (ax (aa 0) (aa 1) a7) ?_
   unfold rsZ
   rw [if_neg (λz=>by rw [show decide ((10:Int) ^ Hs 18<=lZ c)=false from h] at z; cases z)]
theorem pL (F:Fun K "_law_number" qual (top 56) f fd) (hb:∀ x ∈ ai,mg x=none) (c_l_made:Cal P w K mg base k "_law_made" ic):aQ P w K mg base CX0 (k + 1) f fd ["_law_kind","_law_part"] (spD K gG):=by
 refine fnD F jB hb (by rintro _ _ ⟨_,_,rfl,_⟩; rfl) ?_
 rintro _ _ ⟨kd,p,rfl,h4,rfl⟩ cdv A outer s H E b
 have nd:=jB.nd
 obtain ⟨b0,b1⟩:=ow (kd:=kd) p
 have b2:Bd 8999 (nmB kd p):=b1.mono (by unfold kD; split <;> decide)
 have hm:=wk (kd:=kd) p
 refine b9 (aS (aa 0) ae de) (λh=>?_) λh=>?_
 · have h1:kd=1:=by have:=of_decide_eq_true h; omega
   refine aF (cg (ab (ax (ax (aa 1) ae (ba (by decide))) ae cF) (ab ae af))) ?_
   unfold nmQ
   rw [if_pos h1]
   rfl
 have n1:¬ kd=1:=by have:=of_decide_eq_false h; omega
 refine b9 (aS (aa 0) ae de) (λh=>?_) λh=>?_
 · have h3:kd=3:=by have:=of_decide_eq_true h; omega
   have eT:nmT kd p=(p.fdiv 2).fmod (10 ^ 40) * (1 - 2 * p.fmod 2):=by unfold nmT; rw [if_neg n1,if_pos h3]
   have eB:nmB kd p=1 + (p.fdiv (2 * 10 ^ 40)).fmod (10 ^ 40 - 1):=by unfold nmB; rw [if_neg n1,if_pos h3]
   rw [eT] at hm
   rw [eB] at hm b0 b2
   refine aw 2 nd (ax (ax (ax (aa 1) ae (bH (mkD (by decide) (by decide)))) (ax ae ae (lG ⟨by decide,by decide,by decide⟩)) (ba (by decide))) (ax ae (ax ae (ax (aa 1) ae (ba (by decide))) (aX (mkL (by decide)))) cF) (aX (mkR ?_))) ?_
   · have:=fmn (a:=p) (b:=2) (by decide); omega
   exact aF (x_call b c_l_made (ab (aa 2) (ab (ax ae (ax (ax (aa 1) (ax ae (ax ae ae (lG ⟨by decide,by decide,by decide⟩)) (aX (mkL (by decide)))) (bH EA)) (ax (ax ae ae (lG ⟨by decide,by decide,by decide⟩)) ae cF) (ba (by decide))) a7) af)) ⟨_,_,nmQ kd p,rfl,b0,b2,hm,rfl⟩) rfl
 have n3:¬ kd=3:=by have:=of_decide_eq_false h; omega
 refine b9 (aS (aa 0) ae de) (λh=>?_) λh=>?_
 · have h2:kd=2:=by have:=of_decide_eq_true h; omega
   have eT:nmT kd p=p.fmod 10:=by unfold nmT; rw [if_neg n1,if_neg n3,if_pos h2]
   have eB:nmB kd p=1 + (p.fdiv 10).fmod 6:=by unfold nmB; rw [if_neg n1,if_neg n3,if_pos h2]
   rw [eT] at hm
   rw [eB] at hm b0 b2
   exact aF (x_call b c_l_made (ab (ax (aa 1) ae (ba (by decide))) (ab (ax ae (ax (ax (aa 1) ae (bH (mkD (by decide) (by decide)))) ae (ba (by decide))) a7) af)) ⟨_,_,nmQ kd p,rfl,b0,b2,hm,rfl⟩) rfl
 · have n2:¬ kd=2:=by have:=of_decide_eq_false h; omega
   have eT:nmT kd p=p.fmod 19 - 9:=by unfold nmT; rw [if_neg n1,if_neg n3,if_neg n2]
   have eB:nmB kd p=1 + (p.fdiv 19).fmod 6:=by unfold nmB; rw [if_neg n1,if_neg n3,if_neg n2]
   rw [eT] at hm
   rw [eB] at hm b0 b2
   exact aF (x_call b c_l_made (ab (ax (ax (aa 1) ae (ba (by decide))) ae cF) (ab (ax ae (ax (ax (aa 1) ae (bH (mkD (by decide) (by decide)))) ae (ba (by decide))) a7) af)) ⟨_,_,nmQ kd p,rfl,b0,b2,hm,rfl⟩) rfl
end
noncomputable def DR (t:List (List Rat)):D:=.lst (t.map λr=>.lst (r.map frD))
noncomputable def da (t:List (List Rat)):Nd:=.l (t.map λr=>.l ((r.map frD).map .d))
theorem sX (xs:List D):ke (xs.map .d)=xs:=by
 induction xs with
 | nil=>rfl
 | cons x xs ih=>rw [FJ,ke,ndD,ih]
theorem rh {α:Type} (f:α->List Nd):∀ t:List α,ke (t.map λr=>.l (f r))=t.map λr=>D.lst (ke (f r))
 | []=>rfl
 | r :: t=>by rw [FJ,ke,ndD,rh f t]; rfl
theorem CF (t:List (List Rat)):ndD (da t)=DR t:=by
 unfold da DR
 rw [ndD,rh]
 congr 1
 exact F6 λr _=>by rw [sX]
theorem vO {α β:Type} (f:α->β) (xs:List α) (d:α) {m:Nat} (h:m=xs.length):(Fd m).map (λi=>f (xs.getD i d))=xs.map f:=by
 subst h
 refine G8 (by simp) λi h1 h2=>?_
 have:i < xs.length:=by simpa using h2
 simp [this]
noncomputable def szP (c:Int):List Int:=nums c [8,4,4,7,7]
noncomputable def szR (c:Int):Nat:=(1 + (if (szP c).getD 0 0=1 then (szP c).getD 3 0 else (szP c).getD 1 0)).toNat
noncomputable def szC (c:Int):Nat:=(1 + (if (szP c).getD 0 0=1 then (szP c).getD 4 0 else (szP c).getD 2 0)).toNat
theorem fJ (c:Int) {i:Nat} (h:i < 5):0<=(szP c).getD i 0/\(szP c).getD i 0 < [8,4,4,7,7].getD i 0:=jO (c:=c) (bs:=[8,4,4,7,7]) (by decide) h
theorem Ds (c:Int):1<=szR c/\szR c<=7/\1<=szC c/\szC c<=7:=by
 have h1:=fJ c (i:=1) (by decide)
 have h2:=fJ c (i:=2) (by decide)
 have h3:=fJ c (i:=3) (by decide)
 have h4:=fJ c (i:=4) (by decide)
 have e1:([8,4,4,7,7]:List Int).getD 1 0=4:=rfl
 have e2:([8,4,4,7,7]:List Int).getD 2 0=4:=rfl
 have e3:([8,4,4,7,7]:List Int).getD 3 0=7:=rfl
 have e4:([8,4,4,7,7]:List Int).getD 4 0=7:=rfl
 unfold szR szC
 split <;> omega
noncomputable def kK (ds:List D) (r:Sl):Prop:=∃ c:Int,ds=[.int c]/\r=.d (.tup [.int (szR c:Nat),.int (szC c:Nat)])
section
variable {P:Program} {w:World} {K:Fb} {mg:Str->Option Value} {base:Heap} {k:Nat} {f:Addr} {fd:FuncData} {qual:Str}
theorem uv (F:Fun K "_law_size" qual (top 58) f fd) (hb:∀ x ∈ ai,mg x=none) (c_l_numbers:Cal P w K mg base k "_law_numbers" b7):aQ P w K mg base CX0 (k + 1) f fd ["_law_cell_here"] (spD K kK):=by
 refine fnD F my hb (by rintro _ _ ⟨_,rfl,_⟩; rfl) ?_
 rintro _ _ ⟨c,rfl,rfl⟩ cdv A outer s H E b
 have nd:=my.nd
 refine aw 1 nd (a4 (x_call b c_l_numbers (ab (aa 0) (ab (a4 (fm (ab ae (ab ae (ab ae (ab ae (ab ae af))))))) af)) ⟨c,[8,4,4,7,7],rfl,by decide,λx hx=>?_,rfl⟩)) ?_
 · have:0 < x/\x < 9:=by
     simp only [Fv,HD,or_false] at hx
     omega
   exact vo this.1 (by omega)
 have ln:(szP c).length=5:=dX c _
 have at_:∀ i:Nat,i < 5->atI ((szP c).map D.int) (i:Int)=some (.int ((szP c).getD i 0)):=λi hi=>atR (by rw [ln]; exact hi)
 have h1:=fJ c (i:=1) (by decide)
 have h2:=fJ c (i:=2) (by decide)
 have h3:=fJ c (i:=3) (by decide)
 have h4:=fJ c (i:=4) (by decide)
 refine b9 (aS (aJ (aa 1) ae (aT (at_ 0 (by decide)))) ae de) (λh=>?_) λh=>?_
 · refine aF (cg (ab (ax ae (aJ (aa 1) ae (aT (at_ 3 (by decide)))) a7) (ab (ax ae (aJ (aa 1) ae (aT (at_ 4 (by decide)))) a7) af))) ?_
   have h:=of_decide_eq_true h
   have e1:((szR c:Nat):Int)=1 + (szP c).getD 3 0:=by unfold szR; rw [if_pos h]; omega
   have e2:((szC c:Nat):Int)=1 + (szP c).getD 4 0:=by unfold szC; rw [if_pos h]; omega
   rw [e1,e2]
 · refine aF (cg (ab (ax ae (aJ (aa 1) ae (aT (at_ 1 (by decide)))) a7) (ab (ax ae (aJ (aa 1) ae (aT (at_ 2 (by decide)))) a7) af))) ?_
   have h:=of_decide_eq_false h
   have e1:((szR c:Nat):Int)=1 + (szP c).getD 1 0:=by unfold szR; rw [if_neg h]; omega
   have e2:((szC c:Nat):Int)=1 + (szP c).getD 2 0:=by unfold szC; rw [if_neg h]; omega
   rw [e1,e2]
end
theorem A7 {x y:Rat} (hx:0 < x) (h:0 < x * y):0 < y:=by
 refine KI.mp λz=>?_
 have:=IH (Ju hx) (show 0<=-y by grind)
 rw [Rat.mul_neg] at this
 grind
theorem rO (q:Rat):q.num > 0 ↔ 0 < q:=by
 have d:(0:Rat) < (((q.den:Nat):Int):Rat):=(show ((0:Int):Rat) < _ from HZ.mpr (den_pos q))
 have e:=iL q
 constructor
 · intro h
   refine A7 d ?_
   rw [Hr,e]
   exact (show ((0:Int):Rat) < _ from HZ.mpr h)
 · intro h
   have:=Km h d
   rw [e] at this
   exact HZ.mp (show ((0:Int):Rat) < _ from this)
noncomputable def sgR (x:Rat):Int:=if x=0 then 0 else if 0 < x then 1 else -1
noncomputable def chg:List Int->Nat
 | []=>0
 | [_]=>0
 | a :: b :: l=>(if a=b then 0 else 1) + chg (b :: l)
noncomputable def nzS (xs:List Rat):List Int:=(xs.map sgR).filter λs=>decide (s ≠ 0)
theorem Ak {x:Rat} (h:x ≠ 0):sgR x ≠ 0:=by
 unfold sgR
 rw [if_neg h]
 split <;> decide
theorem yE {x:Rat} (h:x ≠ 0) (s:¬ 0 < x):0 < -x:=by
 have:x<=0:=Rat.not_lt.mp s
 rcases Rat.le_iff_lt_or_eq.mp this with z | z
 · grind
 · exact absurd z h
theorem qH (x:Rat):sgR x=0/\x=0\/sgR x=1/\0 < x\/sgR x=-1/\x < 0:=by
 unfold sgR
 by_cases h:x=0
 · rw [if_pos h]; exact .inl ⟨rfl,h⟩
 · rw [if_neg h]
   by_cases p:0 < x
   · rw [if_pos p]; exact .inr (.inl ⟨rfl,p⟩)
   · rw [if_neg p]
     refine .inr (.inr ⟨rfl,?_⟩)
     have:=yE h p
     grind
theorem tH {α:Type} (t:α->Bool) (xs:List α) (d:α):((Fd xs.length).filter λi=>t (xs.getD i d)).map (λi=>xs.getD i d)=xs.filter t:=by
 induction xs with
 | nil=>rfl
 | cons x xs ih=>
   rw [Ga,G4,Gv,List.filter_map,Gv]
   have e:((Fd xs.length).filter ((λi=>t ((x :: xs).getD i d)) ∘ KS)).map (λi=>(x :: xs).getD (KS i) d)=xs.filter t:=ih
   by_cases h:t x=true
   · rw [if_pos (show t ((x :: xs).getD 0 d)=true from h),if_pos h,FJ,Fx]
     congr 1
   · rw [if_neg (show ¬ t ((x :: xs).getD 0 d)=true from h),if_neg h,Fx]
     exact e
theorem iy:∀ l:List Int,((Fd (l.length - 1)).filter λi=>decide (l.getD (i + 1) 0 ≠ l.getD i 0)).length=chg l
 | []=>rfl
 | [_]=>rfl
 | a :: b :: l=>by
   have ih:=iy (b :: l)
   rw [chg,<- ih]
   show ((Fd (l.length + 1)).filter _).length=_
   rw [G4,Gv,List.filter_map]
   have e:(((Fd l.length).filter ((λi=>decide ((a :: b :: l).getD (i + 1) 0 ≠ (a :: b :: l).getD i 0)) ∘ KS)).map KS).length=((Fd ((b :: l).length - 1)).filter λi=>decide ((b :: l).getD (i + 1) 0 ≠ (b :: l).getD i 0)).length:=by
     rw [E9]
     rfl
   by_cases h:a=b
   · subst h
     rw [if_neg (by simp),if_pos rfl,Jw]
     exact e
   · rw [if_pos (by simpa using λz=>h z.symm),if_neg h,Ga,e,Nat.add_comm]
noncomputable def cU (ds:List D) (r:Sl):Prop:=∃ q:List Rat,ds=[rwQ q]/\1<=q.length/\q.length<=7/\r=.d .non
noncomputable def i8 (ds:List D) (r:Sl):Prop:=∃ q:Rat,ds=[frD q]/\r=.d (.int (sgR q))
noncomputable def eR (ds:List D) (r:Sl):Prop:=∃ q:List Rat,ds=[rwQ q]/\q.length<=1000/\r=.o ((q.map sgR).map .int)
noncomputable def cH (ds:List D) (r:Sl):Prop:=∃ q:List Rat,ds=[rwQ q]/\1<=q.length/\q.length<=7/\r=.d (.int (chg (nzS q):Nat))
theorem wU (q:List Rat):(nzS q).length<=q.length:=by
 unfold nzS
 exact Fz (Hq ..) (by rw [E9]; exact Fc _)
section
variable {P:Program} {w:World} {K:Fb} {mg:Str->Option Value} {base:Heap} {k:Nat} {f:Addr} {fd:FuncData} {qual:Str}
theorem pK (F:Fun K "look_row" qual (top 40) f fd) (hb:∀ x ∈ ai,mg x=none) (c_is_row:Cal P w K mg base k "is_row" ig):aQ P w K mg base CX0 (k + 1) f fd ["thing"] (spD K cU):=by
 refine fnD F pD hb (by rintro _ _ ⟨_,rfl,_⟩; rfl) ?_
 rintro _ _ ⟨q,rfl,h1,h7,rfl⟩ cdv A outer s H E b
 exact cL (bW (bS (x_call b c_is_row (ab (aa 0) af) ⟨q,rfl,h1,h7,rfl⟩))) rfl (aM rfl)
theorem sf (F:Fun K "sign_of" qual (top 41) f fd) (hb:∀ x ∈ ai,mg x=none):aQ P w K mg base CX0 (k + 1) f fd ["number"] (spD K i8):=by
 refine fnD F r9 hb (by rintro _ _ ⟨_,rfl,_⟩; rfl) ?_
 rintro _ _ ⟨q,rfl,rfl⟩ cdv A outer s H E b
 unfold sgR
 refine b9 (aS (aJ (aa 0) ae (aV (aP (i:=0) rfl))) ae de) (λh=>?_) λh=>?_
 · rw [if_pos (Jt.mp (of_decide_eq_true h))]
   exact aF ae rfl
 · rw [if_neg λz=>of_decide_eq_false h (by rw [z]; rfl)]
   refine aF (t9 (aS (aJ (aa 0) ae (aV (aP (i:=0) rfl))) ae pU) (λh=>?_) λh=>?_) rfl
   · rw [if_pos ((rO q).mp (of_decide_eq_true h))]
     exact ae
   · rw [if_neg λz=>of_decide_eq_false h ((rO q).mpr z)]
     exact iD ae
theorem o3 (F:Fun K "signs_of" qual (top 42) f fd) (hb:∀ x ∈ ai,mg x=none) (c_sign_of:Cal P w K mg base k "sign_of" i8):aQ P w K mg base CX0 (k + 1) f fd ["row"] (spD K eR):=by
 refine fnD F qd hb (by rintro _ _ ⟨_,rfl,_⟩; rfl) ?_
 rintro _ _ ⟨q,rfl,h7,rfl⟩ cdv A outer s H E b
 refine aF (bV (cmp 0 (g:=λi=>frD (q.getD i 0)) (f:=λi=>.int (sgR (q.getD i 0))) b (aU (aa 0)) (a9 (f:=frD) (xs:=q) 0) (by rw [E9]; omega) λi hi s0 H0 fp=>(x_call (b.comp s0 H0 _ fp) c_sign_of (ab (aa 0) af) ⟨_,rfl,rfl⟩))) ?_
 rw [Fx]
 exact congrArg Sl.o (bE (λx:Rat=>D.int (sgR x)) q 0 (E9 ..))
set_option maxHeartbeats 1000000 in
theorem i3 (F:Fun K "least_changes" qual (top 43) f fd) (hb:∀ x ∈ ai,mg x=none) (c_look_row:Cal P w K mg base k "look_row" cU) (c_signs_of:Cal P w K mg base k "signs_of" eR):aQ P w K mg base CX0 (k + 1) f fd ["row"] (spD K cH):=by
 refine fnD F dW hb (by rintro _ _ ⟨_,rfl,_⟩; rfl) ?_
 rintro _ _ ⟨q,rfl,h1,h7,rfl⟩ cdv A outer s H E b
 have nd:=dW.nd
 refine gW (x_call b c_look_row (ab (aa 0) af) ⟨q,rfl,h1,h7,rfl⟩) ?_
 refine aw 1 nd (a4 (x:=.lst ((nzS q).map .int)) (bV (tU 0 (g:=λi=>.int ((q.map sgR).getD i 0)) (f:=λi=>.int ((q.map sgR).getD i 0)) (t:=λi=>decide ((q.map sgR).getD i 0 ≠ 0)) b (aU (a4 (x_call b c_signs_of (ab (aa 0) af) ⟨q,rfl,by omega,rfl⟩))) Af (by rw [E9,E9]; omega) (λi hi s0 H0 fp=>?_) λi hi _ s0 H0 fp=>aa 0)) ?_) ?_
 · have e:decide ((q.map sgR).getD i 0 ≠ 0)=!decide ((q.map sgR).getD i 0=0):=by simp
   rw [e]
   exact aS (aa 0) ae gP
 · refine congrArg (λl=>some (D.lst l)) ?_
   have e:((q.map sgR).map D.int).length=(q.map sgR).length:=E9 ..
   unfold nzS
   rw [e,<- tH (λs=>decide (s ≠ 0)) (q.map sgR) 0]
   generalize q.map sgR=l
   rw [Fx]
   rfl
 have ln:=wU q
 generalize nzS q=l at ln ⊢
 refine aF (a5 b (ab (a4 (x:=.lst (((Fd (l.length - 1)).filter λi=>decide (l.getD (i + 1) 0 ≠ l.getD i 0)).map λi=>.int (1 + (i:Nat)))) (bV (tU 0 (g:=λi=>.int (1 + (i:Nat))) (f:=λi=>.int (1 + (i:Nat))) (t:=λi=>decide (l.getD (i + 1) 0 ≠ l.getD i 0)) b (iZ b ae (a5 b (ab (aa 1) af) (d0 (n:=l.length) (E9 ..))) (by omega)) nA (by rw [aB]; omega) (λi hi s0 H0 fp=>?_) λi hi _ s0 H0 fp=>aa 0)) ?_) af) fR) ?_
 · have hi:i + 1 < l.length:=by rw [aB] at hi; omega
   have e:decide (l.getD (i + 1) 0 ≠ l.getD i 0)=!decide (l.getD (i + 1) 0=l.getD i 0):=by simp
   rw [e]
   exact aS (aJ (aa 1) (aa 0) (aT (by rw [show 1 + ((i:Nat):Int)=((i + 1:Nat):Int) by omega]; exact atR hi))) (aJ (aa 1) (ax (aa 0) ae cF) (aT (by rw [show 1 + ((i:Nat):Int) - 1=((i:Nat):Int) by omega]; exact atR (by omega)))) gP
 · rw [aB,show (((l.length:Nat):Int) - 1).toNat=l.length - 1 by omega]
   rfl
 · rw [E9,iy]
end
noncomputable def bhQ (R C:Nat) (M:List (List Rat)) (x:List Rat):List Rat:=(Fd R).map λi=>aA (λj=>qM M i j * x.getD j 0) C
noncomputable def lH (ds:List D) (r:Sl):Prop:=∃ (R C d v:Nat) (M:List (List Rat)) (x:List Rat),ds=[tbQ M,rwQ x]/\Tq R C M/\x.length=C/\(∀ r ∈ M,∀ q ∈ r,Qs d v q)/\(∀ q ∈ x,Qs d v q)/\2 + 2 * (C * d)<=8999/\v + (1 + C * d)<=8999/\v + d<=8999/\r=.o ((bhQ R C M x).map frD)
theorem AI {C:Nat} {x:List Rat} (h:x.length=C) (c1:1<=C) (c7:C<=7):Tq C 1 (x.map λq=>[q]):=⟨c1,c7,Fc 1,by omega,by rw [E9,h],λr hr=>by
 obtain ⟨q,_,rfl⟩:=Fj.mp hr
 rfl⟩
theorem D2 {R C:Nat} {M:List (List Rat)} {x:List Rat} (t:Tq R C M) (h:x.length=C):ny (pdM M (x.map λq=>[q]) 1) 0=bhQ R C M x:=by
 have t2:=AI h t.c1 t.c7
 have tp:=xH t t2
 unfold ny bhQ
 refine G8 (by rw [E9,tp.len,E9,Gz]) λi h1 h2=>?_
 have hi:i < R:=by simpa using h2
 have e:=BF t t2 hi (j:=0) (by omega)
 have e1:((pdM M (x.map λq=>[q]) 1).map λr=>r.getD 0 0)[i]=qM (pdM M (x.map λq=>[q]) 1) i 0:=by
   unfold qM
   have:i < (pdM M (x.map λq=>[q]) 1).length:=by rw [tp.len]; exact hi
   simp [this]
 rw [e1,e]
 simp only [Gu,HN]
 unfold mulQ
 refine az λk hk=>?_
 congr 1
 unfold qM
 simp [show k < x.length by omega]
section
variable {P:Program} {w:World} {K:Fb} {mg:Str->Option Value} {base:Heap} {k:Nat} {f:Addr} {fd:FuncData} {qual:Str}
theorem um (F:Fun K "behind" qual (top 45) f fd) (hb:∀ x ∈ ai,mg x=none) (c_look_table:Cal P w K mg base k "look_table" cf) (c_look_row:Cal P w K mg base k "look_row" cU) (c_column_of:Cal P w K mg base k "column_of" df) (c_product:Cal P w K mg base k "product" iR):aQ P w K mg base CX0 (k + 1) f fd ["table","row"] (spD K lH):=by
 refine fnD F uS hb (by rintro _ _ ⟨_,_,_,_,_,_,rfl,_⟩; rfl) ?_
 rintro _ _ ⟨R,C,d,v,M,x,rfl,t,hx,hq,hq2,z1,z2,z3,rfl⟩ cdv A outer s H E b
 have c1:=t.c1
 have c7:=t.c7
 have t2:=AI hx c1 c7
 refine gW (x_call b c_look_table (ab (aa 0) af) ⟨R,C,M,rfl,t,rfl⟩) ?_
 refine gW (x_call b c_look_row (ab (aa 1) af) ⟨x,rfl,by omega,by omega,rfl⟩) ?_
 refine aF (x_call b c_column_of (ab (a4 (x:=tbQ (pdM M (x.map λq=>[q]) 1)) (x_call b c_product (ab (aa 0) (ab (a4 (x:=tbQ (x.map λq=>[q])) (bV (cmp 0 (g:=λi=>frD (x.getD i 0)) (f:=λi=>rwQ [x.getD i 0]) b (aU (aa 1)) (a9 (f:=frD) (xs:=x) 0) (by rw [E9]; omega) λi hi s0 H0 fp=>a4 (fm (ab (aa 0) af)))) ?_) af)) ⟨R,C,1,d,v,M,_,rfl,t,t2,hq,?_,z1,z2,z3,rfl⟩)) (ab ae af)) ⟨R,1,_,0,rfl,xH t t2,by omega,rfl⟩) ?_
 · refine congrArg (λl=>some (D.lst l)) ((bE (λq:Rat=>rwQ [q]) x 0 (E9 ..)).trans ?_)
   rw [Fx]
   rfl
 · intro r hr q hq'
   obtain ⟨y,hy,rfl⟩:=Fj.mp hr
   rw [Ff.mp hq']
   exact hq2 y hy
 · rw [D2 t hx]
end
noncomputable def hJ (ds:List D) (r:Sl):Prop:=∃ q:Rat,ds=[frD q]/\r=.d (.int (sgR q))
theorem A6 (q:Rat):(if decide (q.num > 0)=true then (1:Int) else 0) - (if decide (q.num < 0)=true then (1:Int) else 0)=sgR q:=by
 unfold sgR
 have h1:=rO q
 by_cases h:q=0
 · rw [if_pos h,h]
   rfl
 · have hn:q.num ≠ 0:=λz=>h (Jt.mp z)
   rw [if_neg h]
   by_cases p:0 < q
   · have p':=h1.mpr p
     rw [if_pos p,decide_eq_true p',decide_eq_false (by omega)]
     rfl
   · have p':¬ q.num > 0:=λz=>p (h1.mp z)
     rw [if_neg p,decide_eq_false p',decide_eq_true (by omega)]
     rfl
noncomputable def iS (ds:List D) (r:Sl):Prop:=∃ q:List Rat,ds=[rwQ q]/\q.length<=1000/\r=.d (.int (chg (nzS q):Nat))
theorem C0 (q:List Rat):(q.filter λx=>decide (x.num ≠ 0)).map sgR=nzS q:=by
 unfold nzS
 induction q with
 | nil=>rfl
 | cons x q ih=>
   rw [FJ,Gv,Gv]
   by_cases h:x=0
   · rw [if_neg (by simp [h]),if_neg (by simp [sgR,h])]
     exact ih
   · have hn:x.num ≠ 0:=λz=>h (Jt.mp z)
     rw [if_pos (by simpa using hn),if_pos (by simpa using Ak h),FJ,ih]
noncomputable def iN (ds:List D) (r:Sl):Prop:=∃ q:List Rat,ds=[rwQ q]/\r=.d (.int ((nzS q).getD 0 0))
theorem yG {q:List Rat} (h:nzS q=[]) (x:Rat):nzS (q++[x])=if x=0 then [] else [sgR x]:=by
 unfold nzS at h ⊢
 rw [FE,Gg,h]
 by_cases z:x=0
 · rw [if_pos z,z]
   rfl
 · rw [if_neg z,FJ,IX (by simpa using Ak z)]
   rfl
theorem B5 {q t:List Rat} {s:Int} {l:List Int} (h:nzS q=s :: l):(nzS (q++t)).getD 0 0=s:=by
 unfold nzS at h ⊢
 rw [FE,Gg,h]
 rfl
section
variable {P:Program} {w:World} {K:Fb} {mg:Str->Option Value} {base:Heap} {k:Nat} {f:Addr} {fd:FuncData} {qual:Str}
theorem uz (F:Fun K "_law_sign" qual (top 64) f fd) (hb:∀ x ∈ ai,mg x=none):aQ P w K mg base CX0 (k + 1) f fd ["_law_number_here"] (spD K hJ):=by
 refine fnD F uy hb (by rintro _ _ ⟨_,rfl,_⟩; rfl) ?_
 rintro _ _ ⟨q,rfl,rfl⟩ cdv A outer s H E b
 refine aF (ax (kS b (ab (cG (aJ (aa 0) ae (aV (aP (i:=0) rfl))) ae pU) af) ku) (kS b (ab (cG (aJ (aa 0) ae (aV (aP (i:=0) rfl))) ae kc) af) ku) cF) ?_
 rw [A6]
set_option maxHeartbeats 1000000 in
theorem se (F:Fun K "_law_least" qual (top 65) f fd) (hb:∀ x ∈ ai,mg x=none) (c_l_sign:Cal P w K mg base k "_law_sign" hJ):aQ P w K mg base CX0 (k + 1) f fd ["_law_row"] (spD K iS):=by
 refine fnD F lj hb (by rintro _ _ ⟨_,rfl,_⟩; rfl) ?_
 rintro _ _ ⟨q,rfl,h7,rfl⟩ cdv A outer s H E b
 have nd:=lj.nd
 have ln:=wU q
 refine aw 1 nd (a4 (x:=.lst ((nzS q).map .int)) (bV (tU 0 (g:=λi=>frD (q.getD i 0)) (f:=λi=>.int (sgR (q.getD i 0))) (t:=λi=>decide ((q.getD i 0).num ≠ 0)) b (aU (aa 0)) (a9 (f:=frD) (xs:=q) 0) (by rw [E9]; omega) (λi hi s0 H0 fp=>?_) λi hi _ s0 H0 fp=>x_call (b.comp s0 H0 _ fp) c_l_sign (ab (aa 0) af) ⟨_,rfl,rfl⟩)) ?_) ?_
 · have e:decide ((q.getD i 0).num ≠ 0)=!decide ((q.getD i 0).num=0):=by simp
   rw [e]
   exact aS (aJ (aa 0) ae (aV (aP (i:=0) rfl))) ae gP
 · refine congrArg (λl=>some (D.lst l)) ?_
   have e:(q.map frD).length=q.length:=E9 ..
   rw [e,<- C0,<- tH (λx:Rat=>decide (x.num ≠ 0)) q 0,Fx,Fx]
   rfl
 generalize nzS q=l at ln ⊢
 refine aF (a5 b (ab (a4 (x:=.lst (((Fd (l.length - 1)).filter λi=>decide (l.getD (i + 1) 0 ≠ l.getD i 0)).map λi=>.int (1 + (i:Nat)))) (bV (tU 0 (g:=λi=>.int (1 + (i:Nat))) (f:=λi=>.int (1 + (i:Nat))) (t:=λi=>decide (l.getD (i + 1) 0 ≠ l.getD i 0)) b (iZ b ae (a5 b (ab (aa 1) af) (d0 (n:=l.length) (E9 ..))) (by omega)) nA (by rw [aB]; omega) (λi hi s0 H0 fp=>?_) λi hi _ s0 H0 fp=>aa 0)) ?_) af) fR) ?_
 · have hi:i + 1 < l.length:=by rw [aB] at hi; omega
   have e:decide (l.getD (i + 1) 0 ≠ l.getD i 0)=!decide (l.getD (i + 1) 0=l.getD i 0):=by simp
   rw [e]
   exact aS (aJ (aa 1) (aa 0) (aT (by rw [show 1 + ((i:Nat):Int)=((i + 1:Nat):Int) by omega]; exact atR hi))) (aJ (aa 1) (ax (aa 0) ae cF) (aT (by rw [show 1 + ((i:Nat):Int) - 1=((i:Nat):Int) by omega]; exact atR (by omega)))) gP
 · rw [aB,show (((l.length:Nat):Int) - 1).toNat=l.length - 1 by omega]
   rfl
 · rw [E9,iy]
theorem rV (F:Fun K "_law_first" qual (top 66) f fd) (hb:∀ x ∈ ai,mg x=none) (c_l_sign:Cal P w K mg base k "_law_sign" hJ):aQ P w K mg base CX0 (k + 1) f fd ["_law_row"] (spD K iN):=by
 refine fnD F kM hb (by rintro _ _ ⟨_,rfl,_⟩; rfl) ?_
 rintro _ _ ⟨q,rfl,rfl⟩ cdv A outer s H E b
 have nd:=kM.nd
 refine bu 1 (g:=λi=>frD (q.getD i 0)) (λi τ=>nzS (q.take i)=[]/\∃ s1,τ=[.d (rwQ q),s1]) b nd (aU (aa 0)) (a9 (f:=frD) (xs:=q) 0) ⟨rfl,.un,rfl⟩ (λi hi τ h=>?_) λτ h=>?_
 · obtain ⟨h0,s1,rfl⟩:=h
   have hi:i < q.length:=by simpa using hi
   have et:q.take (i + 1)=q.take i++[q.getD i 0]:=by rw [IM]; simp [hi]
   have sn:=yG h0 (q.getD i 0)
   refine b9 (aS (aJ (aa 1) ae (aV (aP (i:=0) rfl))) ae gP) (λh=>?_) λh=>?_
   · have h:(q.getD i 0).num ≠ 0:=by simpa using h
     have hz:q.getD i 0 ≠ 0:=λz=>h (by rw [z]; rfl)
     rw [if_neg hz] at sn
     have e:(nzS q).getD 0 0=sgR (q.getD i 0):=by
       have:=B5 (t:=q.drop (i + 1)) (s:=sgR (q.getD i 0)) (l:=[]) (by rw [<- sn,<- et])
       rwa [Ig] at this
     exact aF (x_call b c_l_sign (ab (aa 1) af) ⟨_,rfl,rfl⟩) (by rw [e])
   · have h:(q.getD i 0).num=0:=by simpa using h
     rw [if_pos (Jt.mp h)] at sn
     exact aM ⟨by rw [et]; exact sn,_,rfl⟩
 · obtain ⟨h0,s1,rfl⟩:=h
   rw [E9,HC] at h0
   rw [h0]
   exact aF ae rfl
end
theorem vP (R:List (List Int)):ndD (lh R)=.lst (R.map dtR):=by
 unfold lh rwN
 rw [ndD,rh]
 congr 1
 exact F6 λr _=>by rw [sX]; rfl
theorem ck {n m:Nat} (h:m < n):ixN n (m:Int)=some m:=by
 unfold ixN
 rw [if_pos (by omega),if_pos (by omega)]
 rfl
theorem jd (xs:List D) (m:Nat):Hy.cutD xs none (some (m:Int))=xs.take m:=by
 unfold Hy.cutD
 have:HT.sIx xs.length xs.length (some (m:Int))=min m xs.length:=by
   unfold HT.sIx
   simp
   omega
 rw [this,show HT.sIx xs.length 0 none=0 from rfl,J5,JE]
 rcases Nat.le_total m xs.length with h | h
 · rw [HW h]
 · rw [Kb h,HC,FC h]
theorem lK {r:List Nd} {kk:Nat} {g:List Int} (hr:r[kk]?=some (rwN g)):bz [kk] (.l r)=some (.l ((g.map D.int).map .d)):=by
 rw [bz,hr]
 rfl
theorem nu {r:List Nd} {kk m:Nat} {g:List Int} (hr:r[kk]?=some (rwN g)) (hm:m < g.length):bz [kk,m] (.l r)=some (.d (.int (g.getD m 0))):=by
 rw [bz,hr,Hw,rwN,bz,FL,FL,Fe hm]
 simp [bz,hm]
noncomputable def gdK (n:Nat) (p:Int):Nat:=(((p.fdiv 3).fmod 7).fmod (n:Int)).toNat
noncomputable def gdH (n:Nat) (p:Int):Nat:=gdK n p + (if p.fmod 3=1 then 1 else 0)
noncomputable def gdT (n:Nat) (p:Int):Nat:=2 * gdK n p + 1 - gdH n p
noncomputable def gdX (p:Int):Int:=if p.fdiv 21 > 1 then p.fdiv 21 else 1
noncomputable def gdR (n:Nat) (p:Int) (r:List Int):List Int:=
 if p.fmod 3=0 then r.set (gdK n p) (r.getD (gdK n p) 0 * gdX p)
 else if gdK n p + 1 < n then r.set (gdH n p) (r.getD (gdH n p) 0 + p.fdiv 21 * r.getD (gdT n p) 0)
 else r
noncomputable def gdU (n:Nat):List (List Int):=(Fd n).map λ(i:Nat)=>(Fd n).map λ(j:Nat)=>if decide ((i:Int)=(j:Int)) then 1 else 0
noncomputable def gdL (n:Nat) (ps:List Int):List (List Int):=ps.foldl (λR p=>R.map (gdR n p)) (gdU n)
structure Gd (n t:Nat) (R:List (List Int)):Prop where
 len:R.length=n
 row:∀ r ∈ R,r.length=n/\∀ x ∈ r,x.natAbs<=4 ^ t
theorem gd0 (n:Nat):Gd n 0 (gdU n):=by
 refine ⟨by simp [gdU],λr hr=>?_⟩
 unfold gdU at hr
 obtain ⟨i,_,rfl⟩:=Fj.mp hr
 refine ⟨by simp,λx hx=>?_⟩
 obtain ⟨j,_,rfl⟩:=Fj.mp hx
 split <;> decide
theorem qe {n t:Nat} {r:List Int} (h:∀ x ∈ r,x.natAbs<=4 ^ t) (i:Nat):(r.getD i 0).natAbs<=4 ^ t:=by
 by_cases hi:i < r.length
 · exact h _ (aK (d:=(0:Int)) hi)
 · rw [Fm,G9 (by omega)]
   exact FR _
theorem Cd {n t:Nat} {p:Int} (h0:0<=p) (h84:p < 84) {r:List Int} (hl:r.length=n) (h:∀ x ∈ r,x.natAbs<=4 ^ t):(gdR n p r).length=n/\∀ x ∈ gdR n p r,x.natAbs<=4 ^ (t + 1):=by
 have w:0<=p.fdiv 21/\p.fdiv 21<=3:=by rw [F7 _ (by decide)]; omega
 have up:4 ^ t<=4 ^ (t + 1):=FW (by decide) (by omega)
 have e4:4 ^ (t + 1)=4 * 4 ^ t:=by rw [IF]; omega
 unfold gdR
 split
 · refine ⟨by rw [FF]; exact hl,λx hx=>?_⟩
   rcases FY hx with z | z
   · exact Fz (h x z) up
   · rw [z,Gj,e4,Ij]
     refine Gr ?_ (qe (n:=n) h _)
     unfold gdX
     split <;> omega
 · split
   · refine ⟨by rw [FF]; exact hl,λx hx=>?_⟩
     rcases FY hx with z | z
     · exact Fz (h x z) up
     · have h1:=qe (n:=n) h (gdH n p)
       have h2:(p.fdiv 21 * r.getD (gdT n p) 0).natAbs<=3 * 4 ^ t:=by
         rw [Gj]
         exact Gr (by omega) (qe (n:=n) h _)
       rw [z]
       omega
   · exact ⟨hl,λx hx=>Fz (h x hx) up⟩
theorem Gd.step {n t:Nat} {p:Int} {R:List (List Int)} (h0:0<=p) (h84:p < 84) (h:Gd n t R):Gd n (t + 1) (R.map (gdR n p)):=by
 refine ⟨by rw [E9]; exact h.len,λr hr=>?_⟩
 obtain ⟨r',hr',rfl⟩:=Fj.mp hr
 exact Cd h0 h84 (h.row r' hr').1 (h.row r' hr').2
theorem oX (n:Nat) (ps:List Int) (p:Int):gdL n (ps++[p])=(gdL n ps).map (gdR n p):=by
 unfold gdL
 rw [GA]
 rfl
theorem rP (n:Nat) (ps:List Int) (h:∀ p ∈ ps,0<=p/\p < 84):Gd n ps.length (gdL n ps):=by
 generalize hk:ps.length=k
 induction k generalizing ps with
 | zero=>rw [HM.mp hk]; exact gd0 n
 | succ k ih=>
   have ne:ps ≠ []:=λz=>by rw [z] at hk; cases hk
   have e:=Kc ne
   have lk:ps.dropLast.length=k:=by rw [List.length_dropLast]; omega
   rw [<- e,oX]
   have hl:=h _ (List.getLast_mem ne)
   exact (ih ps.dropLast (λp hp=>h p (List.dropLast_subset _ hp)) lk).step hl.1 hl.2
noncomputable def gdN (n:Nat) (p0:Int):Nat:=n + (p0.fmod (5 * (n:Int))).toNat
noncomputable def gdP (c:Int) (n:Nat):List Int:=nums c (FH (6 * n) 84)
noncomputable def gdm (R C:Nat):Nat:=if R < C then C else R
noncomputable def gdV (c:Int) (n:Nat):List (List Int):=gdL n ((gdP c n).take (gdN n ((gdP c n).getD 0 0)))
noncomputable def gdM (c:Int) (R C:Nat):List (List Rat):=((gdV c (gdm R C)).take R).map λr=>(Fd C).map λj=>((r.getD j 0:Int):Rat)
theorem wx {c:Int} {n:Nat}:∀ p ∈ gdP c n,0<=p/\p < 84:=λp hp=>by
 obtain ⟨i,hi,e⟩:=Hg hp
 have hl:(gdP c n).length=6 * n:=by unfold gdP; rw [dX,Gy]
 have:=jO (c:=c) (bs:=FH (6 * n) 84) (λb hb=>by rw [(ID.mp hb).2]; decide) (i:=i) (by rw [Gy,<- hl]; exact hi)
 have e1:(nums c (FH (6 * n) 84)).getD i 0=p:=by rw [<- e]; unfold gdP at hi; simp [gdP,hi]
 have e2:(FH (6 * n) (84:Int)).getD i 0=84:=by
   rw [Fm,HP,if_pos (by rw [<- hl]; exact hi)]
   rfl
 rw [e1,e2] at this
 exact this
theorem xt (c:Int) {n:Nat} (h7:n<=7):Gd n 42 (gdV c n):=by
 have hl:(gdP c n).length=6 * n:=by unfold gdP; rw [dX,Gy]
 have:=rP n ((gdP c n).take (gdN n ((gdP c n).getD 0 0))) λp hp=>wx p (Ge hp)
 refine ⟨this.len,λr hr=>⟨(this.row r hr).1,λx hx=>Fz ((this.row r hr).2 x hx) (FW (by decide) ?_)⟩⟩
 rw [FI,hl]
 omega
theorem xv {c:Int} {R C:Nat} (h1:1<=R) (h2:R<=7) (h3:1<=C) (h4:C<=7):Tq R C (gdM c R C):=by
 have hn:R<=gdm R C/\gdm R C<=7:=by unfold gdm; split <;> omega
 refine ⟨h1,h2,h3,h4,?_,λr hr=>?_⟩
 · unfold gdM
   rw [E9,FI,(xt c hn.2).len]
   omega
 · unfold gdM at hr
   obtain ⟨g,_,rfl⟩:=Fj.mp hr
   simp
theorem AY (i:Int):frD (i:Rat)=.tup [.int i,.int 1]:=by
 unfold frD
 rw [Iq,HU]
 rfl
theorem wY {c:Int} {R C:Nat} (h2:R<=7) (h4:C<=7):∀ r ∈ gdM c R C,∀ x ∈ r,Qs 1 84 x:=λr hr x hx=>by
 have hn:gdm R C<=7:=by unfold gdm; split <;> omega
 unfold gdM at hr
 obtain ⟨g,hg,rfl⟩:=Fj.mp hr
 obtain ⟨j,_,rfl⟩:=Fj.mp hx
 have:=qe (n:=0) ((xt c hn).row g (Ge hg)).2 j
 refine ⟨?_,?_⟩
 · rw [HU]
   unfold Bd
   decide
 · rw [Iq,HU,Ks]
   exact this
noncomputable def cQ (ds:List D) (r:Sl):Prop:=∃ (c:Int) (R C:Nat),ds=[.int c,.int (R:Nat),.int (C:Nat)]/\1<=R/\R<=7/\1<=C/\C<=7/\r=.n (da (gdM c R C))
section
variable {P:Program} {w:World} {K:Fb} {mg:Str->Option Value} {base:Heap} {k:Nat} {f:Addr} {fd:FuncData} {qual:Str}
set_option maxHeartbeats 4000000 in
theorem jI (F:Fun K "_law_good_table" qual (top 68) f fd) (hb:∀ x ∈ ai,mg x=none) (c_l_numbers:Cal P w K mg base k "_law_numbers" b7):aQ P w K mg base CX0 (k + 1) f fd ["_law_cell_here","_law_many","_law_wide"] (spD K cQ):=by
 refine fnD F fo hb (by rintro _ _ ⟨_,_,_,rfl,_⟩; rfl) ?_
 rintro _ _ ⟨c,R,C,rfl,r1,r7,c1,c7,rfl⟩ cdv A outer s H E b
 have nd:=fo.nd
 have hn:R<=gdm R C/\C<=gdm R C/\gdm R C<=7:=by unfold gdm; split <;> omega
 have em:(if (C:Int) > (R:Int) then (C:Int) else (R:Int))=((gdm R C:Nat):Int):=by unfold gdm; split <;> split <;> omega
 refine aw 3 nd (a5 b (ab (aa 1) (ab (aa 2) af)) (tZ rfl)) ?_
 rw [em]
 unfold gdM
 obtain ⟨hR,hC,h7⟩:=hn
 generalize gdm R C=n at hR hC h7 ⊢
 refine Aa 4 nd (CH 0 (f:=λ(i:Nat)=>rwN ((Fd n).map λ(j:Nat)=>if decide ((i:Int)=(j:Int)) then 1 else 0)) b (dZ b (aa 3) (by omega) (by omega)) dU (by rw [aB]; omega) (λi hi s0 H0 fp=>bV (cmp 0 (f:=λ(j:Nat)=>D.int (if decide ((i:Int)=(j:Int)) then 1 else 0)) (b.comp s0 H0 _ fp) (dZ (b.comp s0 H0 _ fp) (aa 1) (by omega) (by omega)) dU (by rw [aB]; omega) λj hj s1 H1 fp1=>kS ((b.comp s0 H0 _ fp).comp s1 H1 _ fp1) (ab (cG (aa 1) (aa 0) de) af) ku)) λi hi=>?_) ?_
 · refine congrArg (λl:List D=>some (Nd.l (l.map .d))) ?_
   rw [aB,Fq,Fx]
   rfl
 have e0:(Fd (jl 0 (n:Int).toNat).length).map (λ(i:Nat)=>rwN ((Fd n).map λ(j:Nat)=>if decide ((i:Int)=(j:Int)) then 1 else 0))=(gdU n).map rwN:=by
   rw [aB,Fq]
   unfold gdU
   rw [Fx]
   rfl
 rw [e0]
 have e6:(6:Int) * (n:Int)=((6 * n:Nat):Int):=by omega
 refine aw 5 nd (a4 (x_call b c_l_numbers (ab (aa 0) (ab (a4 (bV (cmp 0 (f:=λ_=>.int 84) b (dZ (n:=((6 * n:Nat):Int)) b (by rw [<- e6]; exact ax ae (aa 3) (aX (mkL (by decide)))) (by omega) (by omega)) dU (by rw [aB]; omega) λi hi s0 H0 fp=>(ax (ax ae ae (aX (mkL (by decide)))) ae (aX (mkL (by decide))))))) af)) ⟨c,FH (6 * n) 84,?_,?_,?_,rfl⟩)) ?_
 · rw [aB,Fq,JO]
   refine congrArg (λl=>[D.int c,D.lst l]) (G8 (by simp) λi h1 h2=>by simp)
 · rw [Gy]; omega
 · intro x hx
   rw [(ID.mp hx).2]
   exact vo (by decide) (by decide)
 have lp:(gdP c n).length=6 * n:=by unfold gdP; rw [dX,Gy]
 have pl:=wx (c:=c) (n:=n)
 unfold gdV
 show PSs _ _ (dS K [_,_,_,_,_,.d (.lst ((gdP c n).map D.int)),_,_,_,_,_,_] _)
 generalize gdP c n=ps at lp pl ⊢
 have en:(n:Int) + (ps.getD 0 0).fmod (5 * (n:Int))=((gdN n (ps.getD 0 0):Nat):Int):=by
   unfold gdN
   have:=Hk (ps.getD 0 0) (show (0:Int) < 5 * (n:Int) by omega)
   omega
 have ct:cutD (ps.map D.int) none (some ((n:Int) + (ps.getD 0 0).fmod (5 * (n:Int))))=(ps.take (gdN n (ps.getD 0 0))).map D.int:=by rw [en,jd,HL]
 refine bu 6 (g:=λi=>.int ((ps.take (gdN n (ps.getD 0 0))).getD i 0)) (λi τ=>∃ s6 s7 s8,τ=[.d (.int c),.d (.int (R:Nat)),.d (.int (C:Nat)),.d (.int (n:Nat)),.n (lh (gdL n ((ps.take (gdN n (ps.getD 0 0))).take i))),.d (.lst (ps.map D.int)),s6,s7,s8,.un,.un,.un]) b nd (aU (a4 (yL (aa 5) gU (gC (ax (aa 3) (ax (aJ (aa 5) ae (aT (atR (j:=0) (by omega)))) (ax ae (aa 3) (aX (mkL (by decide)))) (ba (by omega))) a7))) (congrArg (λl=>some (D.lst l)) ct))) (a9 (f:=D.int) (xs:=ps.take (gdN n (ps.getD 0 0))) 0) ⟨_,_,_,rfl⟩ (λi hi τ h=>?_) λτ h=>?_
 · obtain ⟨s6,s7,s8,rfl⟩:=h
   have hq:∀ p ∈ ps.take (gdN n (ps.getD 0 0)),0<=p/\p < 84:=λp hp=>pl p (Ge hp)
   have lq:(ps.take (gdN n (ps.getD 0 0))).length<=42:=by rw [FI,lp]; omega
   generalize ps.take (gdN n (ps.getD 0 0))=qs at hi hq lq ⊢
   have hi:i < qs.length:=by simpa using hi
   have gd:=rP n (qs.take i) λp hp=>hq p (Ge hp)
   have hp:=hq _ (aK (d:=(0:Int)) hi)
   have li:(qs.take i).length<=41:=by rw [FI]; omega
   rw [take_snoc 0 hi,oX]
   generalize gdL n (qs.take i)=G at gd ⊢
   generalize qs.getD i 0=p at hp ⊢
   generalize (qs.take i).length=t at gd li
   obtain ⟨p0,p84⟩:=hp
   have w3:0<=p.fdiv 21/\p.fdiv 21<=3:=by rw [F7 _ (by decide)]; omega
   have ek:((p.fdiv 3).fmod 7).fmod (n:Int)=((gdK n p:Nat):Int):=by
     unfold gdK
     have:=Hk ((p.fdiv 3).fmod 7) (show (0:Int) < n by omega)
     omega
   have kl:gdK n p < n:=by
     have:=IG ((p.fdiv 3).fmod 7) (show (0:Int) < n by omega)
     omega
   have bd:∀ g ∈ G,∀ m,Bd 83 (g.getD m 0):=λg hg m=>by
     have h1:=qe (n:=n) (gd.row g hg).2 m
     have h2:4 ^ t<=4 ^ 41:=FW (by decide) li
     unfold Bd
     have h3:4 ^ 41 < 2 ^ 83:=by decide
     omega
   refine aw 7 nd (ax (ax (ax (aa 6) ae (bH (mkD (by decide) (by decide)))) ae (ba (by decide))) (aa 3) (ba (by omega))) ?_
   rw [ek]
   refine aw 8 nd (ax (aa 6) ae (bH (mkD (by decide) (by decide)))) ?_
   refine ja (M:=λτ=>τ=[.d (.int c),.d (.int (R:Nat)),.d (.int (C:Nat)),.d (.int (n:Nat)),.n (lh (G.map (gdR n p))),.d (.lst (ps.map D.int)),.d (.int p),.d (.int (gdK n p:Nat)),.d (.int (p.fdiv 21)),.un,.un,.un]) (aS (ax (aa 6) ae (ba (by decide))) ae de) (λh=>?_) (λh=>?_) λτ h=>by subst h; exact aM ⟨_,_,_,rfl⟩
   · have h3:=of_decide_eq_true h
     refine qI 4 9 (G.map rwN) ((G.map (gdR n p)).map rwN) (by simp) b nd rfl (λkk hk hk' r hr=>?_) (aM rfl)
     have hk:kk < G.length:=by simpa using hk
     have hr':r[kk]?=some (rwN G[kk]):=by rw [hr]; simp
     have hm:=J7 hk
     have e:((G.map (gdR n p)).map rwN)[kk]=rwN (G[kk].set (gdK n p) (G[kk].getD (gdK n p) 0 * gdX p)):=by simp only [Gu]; unfold gdR; rw [if_pos h3]
     rw [e]
     generalize G[kk]=g at hr' hm ⊢
     have gl:=(gd.row g hm).1
     have hkl:gdK n p < g.length:=by omega
     refine gX (AM (m:=gdK n p) (x:=.int (g.getD (gdK n p) 0 * gdX p)) (ds:=g.map D.int) (pt:=[]) eG (aa 7) (vH (xj (pt:=[gdK n p]) (pk (pt:=[]) (m:=gdK n p) eG (aa 7) rfl (lK hr') (by rw [E9,E9]; exact ck hkl)) rfl (nu hr' hkl)) (ej (a5 b (ab ae (ab (aa 8) af)) (tZ rfl))) (aX ?_)) rfl (lK hr') (by rw [E9]; exact ck hkl)) ?_
     · refine mkR ?_
       split <;> omega
     · have e2:bw [kk] (.l r) (.l (((g.map D.int).set (gdK n p) (.int (g.getD (gdK n p) 0 * gdX p))).map .d))=.l (r.set kk (rwN (g.set (gdK n p) (g.getD (gdK n p) 0 * gdX p)))):=by
         unfold rwN
         simp only [Ho]
         rfl
       show PSs _ _ (dSL K (JN _ 4 (.n (bw [kk] (.l r) (.l (((g.map D.int).set (gdK n p) (.int (g.getD (gdK n p) 0 * gdX p))).map .d))))) 4 9 kk _)
       rw [e2]
       exact wF
   · have h3:=of_decide_eq_false h
     refine ja (M:=λτ=>τ=[.d (.int c),.d (.int (R:Nat)),.d (.int (C:Nat)),.d (.int (n:Nat)),.n (lh (G.map (gdR n p))),.d (.lst (ps.map D.int)),.d (.int p),.d (.int (gdK n p:Nat)),.d (.int (p.fdiv 21)),.un,.un,.un]) (aS (ax (aa 7) ae a7) (aa 3) kc) (λh=>?_) (λh=>?_) λτ h=>by subst h; exact aM rfl
     · have h4:gdK n p + 1 < n:=by have:=of_decide_eq_true h; omega
       have eh:(gdK n p:Int) + (if decide (p.fmod 3=1)=true then (1:Int) else 0)=((gdH n p:Nat):Int):=by
         unfold gdH
         by_cases q:p.fmod 3=1
         · rw [if_pos q,if_pos (decide_eq_true q)]; rfl
         · rw [if_neg q,if_neg (by simp [q])]; rfl
       have hhk:gdH n p<=gdK n p + 1:=by unfold gdH; split <;> omega
       have et:2 * (gdK n p:Int) + 1 - (gdH n p:Int)=((gdT n p:Nat):Int):=by unfold gdT; omega
       have htl:gdT n p < n:=by unfold gdT gdH; split <;> omega
       refine qI 4 9 (G.map rwN) ((G.map (gdR n p)).map rwN) (by simp) b nd rfl (λkk hk hk' r hr=>?_) (aM rfl)
       have hk:kk < G.length:=by simpa using hk
       have hr':r[kk]?=some (rwN G[kk]):=by rw [hr]; simp
       have hm:=J7 hk
       have e:((G.map (gdR n p)).map rwN)[kk]=rwN (G[kk].set (gdH n p) (G[kk].getD (gdH n p) 0 + p.fdiv 21 * G[kk].getD (gdT n p) 0)):=by simp only [Gu]; unfold gdR; rw [if_neg h3,if_pos h4]
       rw [e]
       generalize G[kk]=g at hr' hm ⊢
       have gl:=(gd.row g hm).1
       have hhl:gdH n p < g.length:=by omega
       have htl':gdT n p < g.length:=by omega
       refine gX (Ad 10 nd (ax (aa 7) (kS b (ab (cG (ax (aa 6) ae (ba (by decide))) ae de) af) ku) a7)) ?_
       rw [eh]
       refine gX (Ad 11 nd (ax (ax (ax ae (aa 7) (aX (mkL (by decide)))) ae a7) (aa 10) cF)) ?_
       rw [et]
       refine gX (AM (m:=gdH n p) (x:=.int (g.getD (gdH n p) 0 + p.fdiv 21 * g.getD (gdT n p) 0)) (ds:=g.map D.int) (pt:=[]) eG (aa 10) (vH (xj (pt:=[gdH n p]) (pk (pt:=[]) (m:=gdH n p) eG (aa 10) rfl (lK hr') (by rw [E9,E9]; exact ck hhl)) rfl (nu hr' hhl)) (vH (ej (aa 8)) (xj (pt:=[gdT n p]) (pk (pt:=[]) (m:=gdT n p) eG (aa 11) rfl (lK hr') (by rw [E9,E9]; exact ck htl')) rfl (nu hr' htl')) (aX (mkL (by omega)))) a7) rfl (lK hr') (by rw [E9]; exact ck hhl)) ?_
       have e2:bw [kk] (.l r) (.l (((g.map D.int).set (gdH n p) (.int (g.getD (gdH n p) 0 + p.fdiv 21 * g.getD (gdT n p) 0))).map .d))=.l (r.set kk (rwN (g.set (gdH n p) (g.getD (gdH n p) 0 + p.fdiv 21 * g.getD (gdT n p) 0)))):=by
         unfold rwN
         simp only [Ho]
         rfl
       show PSs _ _ (dSL K (JN _ 4 (.n (bw [kk] (.l r) (.l (((g.map D.int).set (gdH n p) (.int (g.getD (gdH n p) 0 + p.fdiv 21 * g.getD (gdT n p) 0))).map .d))))) 4 9 kk _)
       rw [e2]
       exact xG 10 (xG 11 wF)
     · have h4:¬ gdK n p + 1 < n:=by have:=of_decide_eq_false h; omega
       have e:G.map (gdR n p)=G:=by
         rw [show gdR n p=id from funext λr=>by unfold gdR; rw [if_neg h3,if_neg h4]; rfl,List.map_id]
       rw [e]
       exact aM rfl
 · obtain ⟨s6,s7,s8,rfl⟩:=h
   rw [E9,HC]
   have gd:=rP n (ps.take (gdN n (ps.getD 0 0))) λp hp=>pl p (Ge hp)
   generalize gdL n (ps.take (gdN n (ps.getD 0 0)))=V at gd ⊢
   refine DO 4 (x:=.lst (V.map dtR)) ?_ rfl (congrArg some (vP V))
   have cut:cutD (V.map dtR) none (some (R:Int))=(V.take R).map dtR:=by rw [jd,HL]
   have hV:∀ r ∈ V.take R,r.length=n:=λr hr=>(gd.row r (Ge hr)).1
   have hWl:(V.take R).length<=7:=by rw [FI]; omega
   generalize V.take R=W at cut hV hWl ⊢
   refine aF (Aj (CH 0 (g:=λi=>dtR (W.getD i [])) (f:=λi=>.l ((((Fd C).map λj=>(((W.getD i []).getD j 0:Int):Rat)).map frD).map .d)) b (aU (a4 (yL (aa 4) gU (gC (aa 1))) (congrArg (λl=>some (D.lst l)) cut))) (a9 (f:=dtR) (xs:=W) []) ?_ (λi hi s0 H0 fp=>bV (cmp 0 (f:=λj=>frD (((W.getD i []).getD j 0:Int):Rat)) (b.comp s0 H0 _ fp) (dZ (b.comp s0 H0 _ fp) (aa 1) (by omega) (by omega)) dU (by rw [aB]; omega) λj hj s1 H1 fp1=>?_)) λi hi=>?_)) ?_
   · rw [E9]
     have:=hWl
     omega
   · rw [aB,Fq] at hj
     have hi:i < W.length:=by simpa using hi
     have:=hV _ (aK (d:=[]) hi)
     rw [AY]
     exact cg (ab (aJ (aa 1) (aa 0) (aT (atR (by omega)))) (ab ae af))
   · refine congrArg (λl:List D=>some (Nd.l (l.map .d))) ?_
     rw [aB,Fq,Fx]
     rfl
   · unfold da
     rw [Fx,vO (λr:List Int=>Nd.l ((((Fd C).map λj=>((r.getD j 0:Int):Rat)).map frD).map .d)) W [] (E9 ..)]
     rfl
end
noncomputable def mi (M:Nat->Nat->Rat) (k:Nat) (ρ γ:Nat->Nat):Rat:=det k λr c=>M (ρ r) (γ c)
noncomputable def Inc (k:Nat) (γ:Nat->Nat):Prop:=∀ i,i + 1 < k->γ i < γ (i + 1)
theorem Inc.lt {k:Nat} {γ:Nat->Nat} (h:Inc k γ):∀ (d i:Nat),i + d + 1 < k->γ i < γ (i + d + 1)
 | 0,i,hi=>h i hi
 | d + 1,i,hi=>GP (h.lt d i (by omega)) (h (i + d + 1) hi)
theorem Inc.mono {k:Nat} {γ:Nat->Nat} (h:Inc k γ) {i j:Nat} (hij:i < j) (hj:j < k):γ i < γ j:=by
 have:=h.lt (j - i - 1) i (by omega)
 rwa [show i + (j - i - 1) + 1=j by omega] at this
theorem Inc.ne {k:Nat} {γ:Nat->Nat} (h:Inc k γ) {i j:Nat} (hi:i < k) (hj:j < k) (ne:i ≠ j):γ i ≠ γ j:=by
 rcases GQ i j with z | z
 · have:=h.mono z hj; omega
 · have:=h.mono (show j < i by omega) hi; omega
section
variable {P:Program} {w:World} {K:Fb} {mg:Str->Option Value} {base:Heap} {k:Nat} {f:Addr} {fd:FuncData} {qual:Str}
end
noncomputable def fsS (l:List Int):Int:=l.getD 0 0
noncomputable def Rs (l m:List Int):Prop:=chg m < chg l\/(chg m=chg l/\(fsS m=0\/fsS m=fsS l))
theorem Rs.refl (l:List Int):Rs l l:=.inr ⟨rfl,.inr rfl⟩
theorem Rs.trans {l m n:List Int} (h:Rs l m) (g:Rs m n):Rs l n:=by
 rcases h with h | ⟨h1,h2⟩
 · rcases g with g | ⟨g1,_⟩
   · exact .inl (by omega)
   · exact .inl (by omega)
 · rcases g with g | ⟨g1,g2⟩
   · exact .inl (by omega)
   · refine .inr ⟨by omega,?_⟩
     rcases g2 with g2 | g2
     · exact .inl g2
     · rw [g2]; exact h2
theorem zP (a:Int):∀ l:List Int,Rs (a :: l) l
 | []=>.inr ⟨rfl,.inl rfl⟩
 | b :: l=>by
   by_cases e:a=b
   · subst e
     refine .inr ⟨?_,.inr rfl⟩
     show chg (a :: l)=(if a=a then 0 else 1) + chg (a :: l)
     rw [if_pos rfl,Jw]
   · refine .inl ?_
     show chg (b :: l) < (if a=b then 0 else 1) + chg (b :: l)
     rw [if_neg e]
     omega
theorem yQ {a:Int} {l m:List Int} (hm:∀ x ∈ m,x ≠ 0) (h:Rs l m):Rs (a :: l) (a :: m):=by
 cases m with
 | nil=>
   have:chg [a]<=chg (a :: l):=FR _
   rcases GQ (chg [a]) (chg (a :: l)) with z | z
   · exact .inl z
   · exact .inr ⟨by omega,.inr rfl⟩
 | cons b m=>
   have hb:b ≠ 0:=hm b (Fi ..)
   have e1:chg (a :: b :: m)=(if a=b then 0 else 1) + chg (b :: m):=rfl
   have l1:(if a=b then 0 else 1)<=1:=by split <;> omega
   cases l with
   | nil=>
     rcases h with h | ⟨_,h⟩
     · exact absurd h (Gb _)
     · rcases h with h | h
       · exact absurd h hb
       · exact absurd h hb
   | cons c l=>
     have e2:chg (a :: c :: l)=(if a=c then 0 else 1) + chg (c :: l):=rfl
     rcases h with h | ⟨h1,h2⟩
     · rcases GQ (chg (a :: b :: m)) (chg (a :: c :: l)) with z | z
       · exact .inl z
       · exact .inr ⟨by omega,.inr rfl⟩
     · have:b=c:=by
         rcases h2 with h2 | h2
         · exact absurd h2 hb
         · exact h2
       subst this
       exact .inr ⟨by omega,.inr rfl⟩
theorem rZ:∀ {m l:List Int},m.Sublist l->(∀ x ∈ l,x ≠ 0)->Rs l m
 | _,_,.slnil,_=>Rs.refl _
 | _,_,.cons a h,hn=>(zP a _).trans (rZ h λx hx=>hn x (Fh _ hx))
 | _,_,.cons₂ a h,hn=>yQ (λx hx=>hn x (Fh _ (h.subset hx))) (rZ h λx hx=>hn x (Fh _ hx))
theorem hU (x y:List Rat):nzS (x++y)=nzS x++nzS y:=by
 unfold nzS
 rw [FE,Gg]
theorem qX (a:Rat):nzS [a]=if sgR a=0 then [] else [sgR a]:=by
 unfold nzS
 rw [FJ,IE,Gv]
 by_cases h:sgR a=0
 · rw [if_neg (by simp [h]),if_pos h]; rfl
 · rw [if_pos (by simp [h]),if_neg h]; rfl
theorem Dd (x:List Rat):∀ s ∈ nzS x,s ≠ 0:=λs hs=>by
 unfold nzS at hs
 have:=(Hn.mp hs).2
 simpa using this
theorem A9 {x y:List Rat} (h:x.Sublist y):(nzS x).Sublist (nzS y):=(h.map sgR).filter _
theorem oI (b:Rat) (v:List Rat):nzS (b :: v)=nzS [b]++nzS v:=hU [b] v
section
variable {P:Program} {w:World} {K:Fb} {mg:Str->Option Value} {base:Heap} {k:Nat} {f:Addr} {fd:FuncData} {qual:Str}
end
structure Pk (n:Nat) (ps:List Int):Prop where
 len:ps.length<=1000
 at_:∀ i,i < ps.length->0<=ps.getD i 0/\ps.getD i 0 < n
noncomputable def pkL {α:Type} (xs:List α) (ps:List Int) (d:α):List α:=ps.map λp=>xs.getD p.toNat d
noncomputable def kq (ds:List D) (r:Sl):Prop:=∃ (q:List Rat) (ps:List Int),ds=[rwQ q,.lst (ps.map .int)]/\Pk q.length ps/\r=.o ((pkL q ps 0).map frD)
theorem Ae {α:Type} {f:α->D} {xs:List α} (d:α) {p:Int} (h:0<=p/\p < xs.length):atI (xs.map f) p=some (f (xs.getD p.toNat d)):=by
 obtain ⟨n,rfl⟩:=Je h.1
 rw [Fq]
 exact c8 d (by omega)
theorem BE {α:Type} (f:α->D) (xs:List α) (ps:List Int) (d:α) {m:Nat} (h:m=ps.length):(Fd m).map (λi=>f (xs.getD (ps.getD i 0).toNat d))=(pkL xs ps d).map f:=by
 unfold pkL
 rw [Fx]
 exact bE (λp:Int=>f (xs.getD p.toNat d)) ps 0 h
noncomputable def chM (M:List (List Rat)) (rs cs:List Int):List (List Rat):=rs.map λr=>pkL (M.getD r.toNat []) cs 0
noncomputable def lA (ds:List D) (r:Sl):Prop:=∃ (R C:Nat) (M:List (List Rat)) (rs cs:List Int),ds=[tbQ M,.lst (rs.map .int),.lst (cs.map .int)]/\Tq R C M/\Pk R rs/\Pk C cs/\r=.o ((chM M rs cs).map rwQ)
noncomputable def pvF (G:List (List Int)) (k:Nat):Nat->Option Nat
 | 0=>none
 | t + 1=>match pvF G k t with
   | some i=>some i
   | none=>if (G.getD (k + t) []).getD k 0 ≠ 0 then some (k + t) else none
noncomputable def pvP (G:List (List Int)) (k:Nat):Option Nat:=pvF G k (G.length - k)
noncomputable def pvD:Option Nat->D
 | none=>.non
 | some i=>.int (i:Nat)
theorem pI {G:List (List Int)} {k:Nat}:∀ t,pvF G k t=none->∀ i,i < t->(G.getD (k + i) []).getD k 0=0
 | t + 1,h,i,hi=>by
   rw [pvF] at h
   cases e:pvF G k t with
   | some j=>rw [e] at h; cases h
   | none=>
     rw [e] at h
     have h:(if (G.getD (k + t) []).getD k 0 ≠ 0 then some (k + t) else none)=none:=h
     by_cases z:i < t
     · exact pI t e i z
     · obtain rfl:i=t:=by omega
       by_cases y:(G.getD (k + i) []).getD k 0=0
       · exact y
       · rw [if_pos y] at h; cases h
theorem qg {G:List (List Int)} {k:Nat}:∀ t j,pvF G k t=some j->k<=j/\j < k + t/\(G.getD j []).getD k 0 ≠ 0
 | t + 1,j,h=>by
   rw [pvF] at h
   cases e:pvF G k t with
   | some i=>
     rw [e] at h
     cases h
     have:=qg t _ e
     exact ⟨this.1,by omega,this.2.2⟩
   | none=>
     rw [e] at h
     have h:(if (G.getD (k + t) []).getD k 0 ≠ 0 then some (k + t) else none)=some j:=h
     split at h
     · rename_i y
       cases h
       exact ⟨by omega,by omega,y⟩
     · cases h
theorem pd {G:List (List Int)} {k:Nat} {t j:Nat} (h:pvF G k t=some j):∀ u,pvF G k (t + u)=some j
 | 0=>h
 | u + 1=>by rw [<- Hu,pvF,pd h u]
noncomputable def dH (ds:List D) (r:Sl):Prop:=∃ (n:Nat) (G:List (List Int)) (k:Nat),ds=[.lst (G.map dtR),.int (k:Nat)]/\G.length=n/\n<=1000/\(∀ r ∈ G,r.length=n)/\k < n/\r=.d (pvD (pvP G k))
noncomputable def clR (r p:List Int) (k:Nat) (l:Int) (n:Nat):List Int:=(Fd n).map λj=>((r.getD j 0 * p.getD k 0) - (p.getD j 0 * r.getD k 0)).fdiv l
noncomputable def ji (ds:List D) (r:Sl):Prop:=∃ (n:Nat) (q p:List Int) (k:Nat) (l:Int) (B:Nat),ds=[dtR q,dtR p,.int (k:Nat),.int l]/\q.length=n/\p.length=n/\n<=1000/\k < n/\(∀ x ∈ q,Bd B x)/\(∀ x ∈ p,Bd B x)/\B<=900000/\l ≠ 0/\Bd 8999 l/\r=.o ((clR q p k l n).map .int)
section
variable {P:Program} {w:World} {K:Fb} {mg:Str->Option Value} {base:Heap} {k:Nat} {f:Addr} {fd:FuncData} {qual:Str}
theorem uX (F:Fun K "picked" qual (top 19) f fd) (hb:∀ x ∈ ai,mg x=none):aQ P w K mg base CX0 (k + 1) f fd ["things","places"] (spD K kq):=by
 refine fnD F vq hb (by rintro _ _ ⟨_,_,rfl,_⟩; rfl) ?_
 rintro _ _ ⟨q,ps,rfl,h,rfl⟩ cdv A outer s H E b
 refine aF (bV (cmp 0 (f:=λi=>frD (q.getD (ps.getD i 0).toNat 0)) b (aU (aa 1)) (a9 (f:=D.int) (xs:=ps) 0) (by rw [E9]; have:=h.len; omega) λi hi s0 H0 fp=>(aJ (aa 1) (aa 0) (aT (Ae 0 (h.at_ i (by simpa using hi))))))) ?_
 rw [BE frD q ps 0 (E9 ..)]
theorem uB (F:Fun K "chosen" qual (top 20) f fd) (hb:∀ x ∈ ai,mg x=none) (c_picked:Cal P w K mg base k "picked" kq):aQ P w K mg base CX0 (k + 1) f fd ["table","rows","columns"] (spD K lA):=by
 refine fnD F uJ hb (by rintro _ _ ⟨_,_,_,_,_,rfl,_⟩; rfl) ?_
 rintro _ _ ⟨R,C,M,rs,cs,rfl,t,hr,hc,rfl⟩ cdv A outer s H E b
 refine aF (bV (cmp 0 (f:=λi=>rwQ (pkL (M.getD (rs.getD i 0).toNat []) cs 0)) b (aU (aa 1)) (a9 (f:=D.int) (xs:=rs) 0) (by rw [E9]; have:=hr.len; omega) λi hi s0 H0 fp=>?_)) ?_
 · have hi:=hr.at_ i (by simpa using hi)
   exact a4 (x_call (b.comp s0 H0 _ fp) c_picked (ab (aJ (aa 2) (aa 0) (aT (Ae [] (by rw [t.len]; exact hi)))) (ab (aa 1) af)) ⟨_,cs,rfl,by rw [t.at_ (by omega)]; exact hc,rfl⟩)
 · refine congrArg Sl.o ((bE (λr:Int=>rwQ (pkL (M.getD r.toNat []) cs 0)) rs 0 (E9 ..)).trans ?_)
   unfold chM
   rw [Fx]
   rfl
theorem kC (F:Fun K "pivot_place" qual (top 28) f fd) (hb:∀ x ∈ ai,mg x=none):aQ P w K mg base CX0 (k + 1) f fd ["grid","k"] (spD K dH):=by
 refine fnD F fT hb (by rintro _ _ ⟨_,_,_,rfl,_⟩; rfl) ?_
 rintro _ _ ⟨n,G,k0,rfl,hG,h1,hr,hk,rfl⟩ cdv A outer s H E b
 have nd:=fT.nd
 refine bu 2 (λi τ=>pvF G k0 i=none/\∃ s2,τ=[.d (.lst (G.map dtR)),.d (.int (k0:Nat)),s2]) b nd (iZ b (aa 1) (a5 b (ab (aa 0) af) (d0 (n:=n) (by rw [E9]; exact hG))) (by omega)) nA ⟨rfl,.un,rfl⟩ (λi hi τ h=>?_) λτ h=>?_
 · obtain ⟨h0,s2,rfl⟩:=h
   rw [aB] at hi
   have hi':k0 + i < n:=by omega
   have e:((k0:Int) + (i:Int))=((k0 + i:Nat):Int):=by omega
   rw [e]
   have a1:atI (G.map dtR) ((k0 + i:Nat):Int)=some (dtR (G.getD (k0 + i) [])):=c8 [] (by omega)
   have hl:(G.getD (k0 + i) []).length=n:=hr _ (aK (by omega))
   have a2:atI ((G.getD (k0 + i) []).map D.int) (k0:Int)=some (.int ((G.getD (k0 + i) []).getD k0 0)):=atR (by omega)
   refine b9 (aS (aJ (aJ (aa 0) (aa 2) (aT a1)) (aa 1) (aT a2)) ae gP) (λz=>?_) λz=>?_
   · refine aF (aa 2) ?_
     have z:(!decide ((G.getD (k0 + i) []).getD k0 0=0))=true:=z
     have z:(G.getD (k0 + i) []).getD k0 0 ≠ 0:=by simpa using z
     have e1:pvF G k0 (i + 1)=some (k0 + i):=by rw [pvF,h0]; exact if_pos z
     have e2:pvP G k0=some (k0 + i):=by
       unfold pvP
       have:=pd e1 (G.length - k0 - (i + 1))
       rwa [show i + 1 + (G.length - k0 - (i + 1))=G.length - k0 by omega] at this
     rw [e2]
     rfl
   · refine aM ⟨?_,_,rfl⟩
     have z:(!decide ((G.getD (k0 + i) []).getD k0 0=0))=false:=z
     have z:(G.getD (k0 + i) []).getD k0 0=0:=by simpa using z
     rw [pvF,h0]
     exact if_neg (λy=>y z)
 · obtain ⟨h0,s2,rfl⟩:=h
   rw [aB] at h0
   refine aF pP ?_
   have:pvP G k0=none:=by
     unfold pvP
     rw [hG,<- h0]
     congr 1
     omega
   rw [this]
   rfl
theorem rl (F:Fun K "cleared" qual (top 29) f fd) (hb:∀ x ∈ ai,mg x=none):aQ P w K mg base CX0 (k + 1) f fd ["row","pivot_row","k","last"] (spD K ji):=by
 refine fnD F ko hb (by rintro _ _ ⟨_,_,_,_,_,_,rfl,_⟩; rfl) ?_
 rintro _ _ ⟨n,q,p,k0,l,B,rfl,hq,hp,hn,hk,bq,bp,hB,hl,bl,rfl⟩ cdv A outer s H E b
 have nd:=ko.nd
 have zl:(fG (q.map D.int) (p.map D.int)).length=n:=by rw [bU,E9,E9]; omega
 refine aw 4 nd (aJ (aa 1) (aa 2) (aT (atR (by omega)))) ?_
 refine aw 5 nd (aJ (aa 0) (aa 2) (aT (atR (by omega)))) ?_
 refine aF (bV (wQ 0 1 (g:=λi=>.int (q.getD i 0)) (g':=λi=>.int (p.getD i 0)) (f:=λj=>.int (((q.getD j 0 * p.getD k0 0) - (p.getD j 0 * q.getD k0 0)).fdiv l)) b (pE b (aa 0) (aa 1)) (nV 0 0) (by rw [zl]; omega) λi hi s0 H0 fp=>?_)) ?_
 · rw [zl] at hi
   have m1:=bq _ (aK (d:=(0:Int)) (show i < q.length by omega))
   have m2:=bp _ (aK (d:=(0:Int)) (show k0 < p.length by omega))
   have m3:=bp _ (aK (d:=(0:Int)) (show i < p.length by omega))
   have m4:=bq _ (aK (d:=(0:Int)) (show k0 < q.length by omega))
   exact ax (ax (ax (aa 0) (aa 4) (aX (m1.aD m2 (by omega) (by omega)))) (ax (aa 1) (aa 2) (aX (m3.aD m4 (by omega) (by omega)))) cF) (aa 3) (bH (bl.aE hl (by decide)))
 · unfold clR
   rw [zl,Fx]
   rfl
end
theorem Ax {α β:Type} (g:α->β) (x:α):∀ (m:Nat) (ys:List α),(ys.map g).insertIdx m (g x)=(ys.insertIdx m x).map g
 | 0,_=>rfl
 | m + 1,[]=>rfl
 | m + 1,y :: ys=>by rw [FJ,IP,IP,FJ,Ax g x m ys]
theorem rj {α:Type} (d:α) {G:List α} {k m:Nat} (h:k + m < G.length) (i:Nat):((G.eraseIdx (k + m)).insertIdx k (G.getD (k + m) d)).getD i d=G.getD (rho k m i) d:=by
 have hl:(G.eraseIdx (k + m)).length=G.length - 1:=Gm h
 simp only [Fm]
 rw [List.getElem?_insertIdx]
 unfold rho
 by_cases h1:i < k
 · rw [if_pos h1,if_pos h1,List.getElem?_eraseIdx_of_lt (by omega)]
 · rw [if_neg h1,if_neg h1]
   by_cases h2:i=k
   · rw [if_pos h2,if_pos h2,if_pos (by omega)]
     rw [Fe h]
     rfl
   · rw [if_neg h2,if_neg h2,KU]
     by_cases h3:i<=k + m
     · rw [if_pos h3,if_pos (by omega)]
     · rw [if_neg h3,if_neg (by omega),show i - 1 + 1=i by omega]
theorem oR {k m n i:Nat} (h:k + m < n) (hi:i < n):rho k m i < n/\(k<=i->k<=rho k m i):=by
 unfold rho
 repeat' split
 all_goals omega
theorem Ap {n b k p q:Nat} {Y:Nat->Nat->Rat} (hY:∀ i < n,∀ j < n,ZB b (Y i j)) (hk:k < n) (hp:p < n) (hq:q < n) (h7:n<=7):ZB ((k + 1) * (b + 3)) (bm Y k p q):=by
 unfold bm
 exact xo (by omega) λr hr c hc=>hY _ (by split <;> omega) _ (by split <;> omega)
theorem Ao {B c:Nat} {x:Rat} {z:Int} (h:ZB c x) (e:(z:Rat)=x) (hc:c < B):Bd B z:=by
 obtain ⟨y,e1,e2⟩:=h
 rw [e1] at e
 rw [Rat.intCast_inj.mp e]
 exact FQ e2 (JC (by decide) hc)
structure WI (n b:Nat) (M:Nat->Nat->Rat) (k:Nat) (G:List (List Int)) (s l:Int) (Y:Nat->Nat->Rat):Prop where
 zb:∀ i < n,∀ j < n,ZB b (Y i j)
 dt:det n M=(s:Rat) * det n Y
 sg:s=1\/s=-1
 last:(l:Rat)=det k Y
 nz:det k Y ≠ 0
 len:G.length=n
 row:∀ i,i < n->(G.getD i []).length=n
 ent:∀ i,k<=i->i < n->∀ j,j < n->(((G.getD i []).getD j 0:Int):Rat)=bm Y k i j
theorem WI.zero {n b:Nat} {Ms:List (List Int)} (h1:Ms.length=n) (hr:∀ r ∈ Ms,r.length=n/\∀ x ∈ r,x.natAbs<=2 ^ b):WI n b (dtM Ms) 0 Ms 1 1 (dtM Ms):=by
 have rw':∀ i,i < n->(Ms.getD i []).length=n:=λi hi=>(hr _ (aK (by omega))).1
 refine ⟨λi hi j hj=>⟨_,rfl,(hr _ (aK (d:=[]) (show i < Ms.length by omega))).2 _ (aK (d:=(0:Int)) (by rw [rw' i hi]; exact hj))⟩,?_,.inl rfl,rfl,by show (1:Rat) ≠ 0; decide,h1,rw',λi _ hi j hj=>?_⟩
 · rw [show ((1:Int):Rat)=1 from rfl,Gx]
 · unfold bm
   rw [jN]
   rfl
theorem WI.rot {n b k m:Nat} {M Y:Nat->Nat->Rat} {G:List (List Int)} {s l:Int} (W:WI n b M k G s l Y) (h:k + m < n):WI n b M k ((G.eraseIdx (k + m)).insertIdx k (G.getD (k + m) [])) (if m % 2=1 then -s else s) l (λr=>Y (rho k m r)):=by
 have hG:k + m < G.length:=by rw [W.len]; exact h
 have e:=nr (k:=k) (n:=n) m Y h
 refine ⟨λi hi j hj=>W.zb _ (oR h hi).1 j hj,?_,?_,?_,?_,?_,λi hi=>?_,λi ki hi j hj=>?_⟩
 · rw [e,W.dt]
   unfold sgn
   by_cases z:m % 2=1
   · rw [if_pos z,if_neg (by omega),Rat.intCast_neg]
     simp [Rat.neg_mul,Rat.mul_neg]
   · rw [if_neg z,if_pos (by omega),Gx]
 · rcases W.sg with z | z <;> rw [z] <;> split <;> first | exact .inl rfl | exact .inr rfl
 · rw [mJ]; exact W.last
 · rw [mJ]; exact W.nz
 · rw [JJ (by rw [Gm hG]; omega),Gm hG,W.len]; omega
 · rw [rj [] hG]; exact W.row _ (oR h hi).1
 · rw [rj [] hG,A4]
   exact W.ent _ ((oR h hi).2 ki) (oR h hi).1 j hj
theorem WI.clear {n b k:Nat} {M Y:Nat->Nat->Rat} {G:List (List Int)} {s l:Int} (W:WI n b M k G s l Y) (h:k < n) (h7:n<=7) {i:Nat} (ki:k < i) (hi:i < n) {j:Nat} (hj:j < n):(((clR (G.getD i []) (G.getD k []) k l n).getD j 0:Int):Rat)=bm Y (k + 1) i j:=by
 have g0:(clR (G.getD i []) (G.getD k []) k l n).getD j 0=(((G.getD i []).getD j 0 * (G.getD k []).getD k 0) - ((G.getD k []).getD j 0 * (G.getD i []).getD k 0)).fdiv l:=by
   unfold clR
   simp [hj]
 obtain ⟨z,e1,_⟩:=Ap (k:=k + 1) (p:=i) (q:=j) W.zb (by omega) hi hj h7
 have st:=zN (Y:=Y) (k:=k) (i:=i) (j:=j) W.nz
 rw [<- W.ent k (Fc _) h k h,<- W.ent i (by omega) hi j hj,<- W.ent k (Fc _) h j hj,<- W.ent i (by omega) hi k h,e1,<- W.last] at st
 have st':l * z=(G.getD k []).getD k 0 * (G.getD i []).getD j 0 - (G.getD k []).getD j 0 * (G.getD i []).getD k 0:=by
   apply Rat.intCast_inj.mp
   rw [FZ,Ko,FZ,FZ]
   exact st
 have l0:l ≠ 0:=λq=>W.nz (by rw [<- W.last,q]; rfl)
 rw [g0,Int.mul_comm ((G.getD i []).getD j 0),<- st',e1,Int.mul_fdiv_cancel_left _ l0]
theorem WI.next {n b k:Nat} {M Y:Nat->Nat->Rat} {G G':List (List Int)} {s l:Int} (W:WI n b M k G s l Y) (h:k < n) (h7:n<=7) (hp:(G.getD k []).getD k 0 ≠ 0) (hl:G'.length=n) (hG:∀ i,i < n->G'.getD i []=if k < i then clR (G.getD i []) (G.getD k []) k l n else G.getD i []):WI n b M (k + 1) G' s ((G.getD k []).getD k 0) Y:=by
 have e:=W.ent k (Fc _) h k h
 rw [y0] at e
 refine ⟨W.zb,W.dt,W.sg,e,λz=>hp (by rw [z] at e; exact KQ.mp e),hl,λi hi=>?_,λi ki hi j hj=>?_⟩
 · rw [hG i hi]
   split
   · unfold clR; simp
   · exact W.row i hi
 · rw [hG i hi,if_pos (by omega)]
   exact W.clear h h7 (by omega) hi hj
theorem WI.no {n b k:Nat} {M Y:Nat->Nat->Rat} {G:List (List Int)} {s l:Int} (W:WI n b M k G s l Y) (h:k < n) (hz:∀ i,i < n - k->(G.getD (k + i) []).getD k 0=0):det n M=0:=by
 rw [W.dt,y6 W.nz h λp kp hp=>?_,GJ]
 rw [<- W.ent p kp hp k h,<- show k + (p - k)=p by omega,hz (p - k) (by omega)]
 rfl
theorem WI.bd {n b k:Nat} {M Y:Nat->Nat->Rat} {G:List (List Int)} {s l:Int} (W:WI n b M k G s l Y) (h7:n<=7) (hb:n * (b + 3)<=8998) {i:Nat} (ki:k<=i) (hi:i < n):∀ x ∈ G.getD i [],Bd 8999 x:=λx hx=>by
 obtain ⟨j,hj,rfl⟩:=Hg hx
 have hj':j < n:=by rw [<- W.row i hi]; exact hj
 have e:=W.ent i ki hi j hj'
 have e2:(G.getD i []).getD j 0=(G.getD i [])[j]:=by rw [Fm (l:=G.getD i []),Fe hj]; rfl
 rw [e2] at e
 refine Ao (Ap W.zb (by omega) hi hj' h7) e ?_
 have:(k + 1) * (b + 3)<=n * (b + 3):=FO _ (by omega)
 omega
theorem WI.lbd {n b k:Nat} {M Y:Nat->Nat->Rat} {G:List (List Int)} {s l:Int} (W:WI n b M k G s l Y) (hk:k<=n) (h7:n<=7) (hb:n * (b + 3)<=8998):Bd 8999 l:=by
 refine Ao (xo (b:=b) (n:=k) (M:=Y) (by omega) λi hi j hj=>W.zb i (by omega) j (by omega)) W.last ?_
 have:k * (b + 3)<=n * (b + 3):=FO _ hk
 omega
noncomputable def wdZ (Ms:List (List Int)):Int:=(det Ms.length (dtM Ms)).num
theorem Ar {Ms:List (List Int)} {z:Int} (h:(z:Rat)=det Ms.length (dtM Ms)):wdZ Ms=z:=by unfold wdZ; rw [<- h]; rfl
noncomputable def bT (ds:List D) (r:Sl):Prop:=∃ (n b:Nat) (Ms:List (List Int)),ds=[.lst (Ms.map dtR)]/\Ms.length=n/\n<=7/\(∀ r ∈ Ms,r.length=n/\∀ x ∈ r,x.natAbs<=2 ^ b)/\n * (b + 3)<=8998/\r=.d (.int (wdZ Ms))
theorem xw {X:Cx} {o:Option Nat}:cq X (compareOp .Is) (pvD o) .non (.bl o.isNone):=⟨_,xI,λ_ v w H Q _ d1 d2 k=>by
 cases d2
 cases o with
 | none=>cases d1; exact ⟨rfl,by rw [decide_eq_true rfl]; exact k _ H (aj.refl _) .bl⟩
 | some i=>cases d1; exact ⟨rfl,by rw [decide_eq_false (by intro z; cases z)]; exact k _ H (aj.refl _) .bl⟩⟩
theorem DT (o:Option Nat):zx (.d (pvD o))=true:=by cases o <;> rfl
theorem zj (ns:List Int):zx (.o (ns.map .int))=true:=by
 show (ns.map D.int).all flat=true
 rw [JY,F1]
 intro _ _
 rfl
section
variable {P:Program} {w:World} {K:Fb} {mg:Str->Option Value} {base:Heap} {k:Nat} {f:Addr} {fd:FuncData} {qual:Str}
set_option maxHeartbeats 1000000 in
theorem fE (F:Fun K "whole_determinant" qual (top 27) f fd) (hb:∀ x ∈ ai,mg x=none) (c_pivot_place:Cal P w K mg base k "pivot_place" dH) (c_cleared:Cal P w K mg base k "cleared" ji):aQ P w K mg base CX0 (k + 1) f fd ["rows"] (spD K bT):=by
 refine fnD F cC hb (by rintro _ _ ⟨_,_,_,rfl,_⟩; rfl) ?_
 rintro _ _ ⟨n,b0,Ms,rfl,hl,h7,hr,hb0,rfl⟩ cdv A outer s H E b
 have nd:=cC.nd
 refine aw 1 nd (kS b (ab (aa 0) af) xC) ?_
 refine aw 2 nd (a5 b (ab (aa 0) af) (d0 (n:=n) (by rw [E9]; exact hl))) ?_
 refine aw 3 nd ae ?_
 refine aw 4 nd ae ?_
 refine bu 5 (λi τ=>i<=n/\∃ G sg l Y s5 s6 s7,WI n b0 (dtM Ms) i G sg l Y/\τ=[.d (.lst (Ms.map dtR)),.o (G.map dtR),.d (.int (n:Nat)),.d (.int sg),.d (.int l),s5,s6,s7]) b nd (dZ b (aa 2) (by omega) (by omega)) dU ⟨FR _,Ms,1,1,_,.un,.un,.un,WI.zero hl hr,rfl⟩ (λi hi τ h=>?_) λτ h=>?_
 · obtain ⟨_,G,sg,l,Y,s5,s6,s7,W,rfl⟩:=h
   have hi:i < n:=by rw [aB] at hi; omega
   have gr:∀ r ∈ G,r.length=n:=λr hr'=>by
     obtain ⟨j,hj,rfl⟩:=Hg hr'
     have:=W.row j (by rw [<- W.len]; exact hj)
     simpa [hj] using this
   refine aw 6 nd (vK 1 (C':=true) (s:=.d (pvD (pvP G i))) (x_call b c_pivot_place (ab (aa 1) (ab (aa 5) af)) ⟨n,G,i,rfl,W.len,by omega,gr,hi,rfl⟩) (DT _)) ?_
   cases ep:pvP G i with
   | none=>
     refine b9 (aS (aa 6) pP (xw (o:=none))) (λ_=>?_) λz=>by cases z
     refine aF ae ?_
     unfold pvP at ep
     rw [W.len] at ep
     have:=W.no hi (pI _ ep)
     have:wdZ Ms=0:=Ar (by rw [hl]; exact this.symm)
     rw [this]
   | some j=>
     unfold pvP at ep
     obtain ⟨kj,jn,hp⟩:=qg _ _ ep
     rw [W.len] at jn
     obtain ⟨m,rfl⟩:∃ m,j=i + m:=⟨j - i,by omega⟩
     have him:i + m < n:=by omega
     refine cL (aS (aa 6) pP (xw (o:=some (i + m)))) rfl ?_
     have W2:=W.rot him
     refine ja (M:=λτ=>τ=[.d (.lst (Ms.map dtR)),.o (G.map dtR),.d (.int (n:Nat)),.d (.int (if m % 2=1 then -sg else sg)),.d (.int l),.d (.int (i:Nat)),.d (.int ((i + m:Nat):Int)),s7]) (aS (ax (ax (aa 6) (aa 5) cF) ae (ba (by decide))) ae de) (λz=>?_) (λz=>?_) ?_
     · have z:=of_decide_eq_true z
       have:m % 2=1:=by rw [FU _ (by decide)] at z; omega
       rw [if_pos this]
       exact aw 3 nd (iD (aa 3)) (aM rfl)
     · have z:=of_decide_eq_false z
       have:¬ m % 2=1:=by rw [FU _ (by decide)] at z; omega
       rw [if_neg this]
       exact aM rfl
     rintro _ rfl
     have hiG:i + m < G.length:=by rw [W.len]; exact him
     have hxj:(G.map dtR)[i + m]?=some (dtR (G.getD (i + m) [])):=by simp [hiG]
     refine D8 1 (k:=i) (j:=i + m) (dtR (G.getD (i + m) [])) (aa 5) (aa 6) hxj (by rw [E9,W.len]; exact hi) (by rw [E9,W.len]; omega) ?_
     have em:((G.map dtR).eraseIdx (i + m)).insertIdx i (dtR (G.getD (i + m) []))=((G.eraseIdx (i + m)).insertIdx i (G.getD (i + m) [])).map dtR:=by rw [<- wK,Ax]
     rw [em]
     have hp2:(((G.eraseIdx (i + m)).insertIdx i (G.getD (i + m) [])).getD i []).getD i 0 ≠ 0:=by
       rw [rj [] (by rw [W.len]; exact him)]
       unfold rho
       rw [if_neg (by omega),if_pos rfl]
       exact hp
     generalize (G.eraseIdx (i + m)).insertIdx i (G.getD (i + m) [])=G2 at W2 hp2 ⊢
     generalize (if m % 2=1 then -sg else sg)=sg2 at W2 ⊢
     have l0:l ≠ 0:=λq=>W2.nz (by rw [<- W2.last,q]; rfl)
     refine bu 7 (g:=λt=>.int (((i:Int) + 1) + (t:Nat))) (λt τ=>∃ G3 s7,G3.length=n/\(∀ j,j < n->G3.getD j []=if i < j/\j < i + 1 + t then clR (G2.getD j []) (G2.getD i []) i l n else G2.getD j [])/\τ=[.d (.lst (Ms.map dtR)),.o (G3.map dtR),.d (.int (n:Nat)),.d (.int sg2),.d (.int l),.d (.int (i:Nat)),.d (.int ((i + m:Nat):Int)),s7]) b nd (iZ b (ax (aa 5) ae a7) (aa 2) (by omega)) nA ⟨G2,s7,W2.len,λj _=>by rw [if_neg (by omega)],rfl⟩ (λt ht τ h=>?_) λτ h=>?_
     · obtain ⟨G3,s7,g1,g2,rfl⟩:=h
       rw [aB] at ht
       have hit:i + 1 + t < n:=by omega
       have ei:((i:Int) + 1) + (t:Nat)=((i + 1 + t:Nat):Int):=by omega
       rw [ei]
       have r3:G3.getD (i + 1 + t) []=G2.getD (i + 1 + t) []:=by rw [g2 _ hit,if_neg (by omega)]
       have r4:G3.getD i []=G2.getD i []:=by rw [g2 i hi,if_neg (by omega)]
       have a1:atI (G3.map dtR) ((i + 1 + t:Nat):Int)=some (dtR (G2.getD (i + 1 + t) [])):=by rw [<- r3]; exact c8 [] (by omega)
       have a2:atI (G3.map dtR) (i:Int)=some (dtR (G2.getD i [])):=by rw [<- r4]; exact c8 [] (by omega)
       refine Au 1 (xs:=G3.map dtR) (j:=i + 1 + t) (x:=dtR (clR (G2.getD (i + 1 + t) []) (G2.getD i []) i l n)) (aa 7) (a4 (vK 1 (C':=true) (s:=.o ((clR (G2.getD (i + 1 + t) []) (G2.getD i []) i l n).map .int)) (x_call b c_cleared (ab (aJ (aa 1) (aa 7) (aT a1)) (ab (aJ (aa 1) (aa 5) (aT a2)) (ab (aa 5) (ab (aa 4) af)))) ⟨n,_,_,i,l,8999,rfl,W2.row _ hit,W2.row _ hi,by omega,hi,W2.bd h7 hb0 (by omega) hit,W2.bd h7 hb0 (Fc _) hi,by decide,l0,W2.lbd (by omega) h7 hb0,rfl⟩) (zj _))) (ck (by rw [E9,g1]; exact hit)) (aM ⟨G3.set (i + 1 + t) (clR (G2.getD (i + 1 + t) []) (G2.getD i []) i l n),.d (.int ((i + 1 + t:Nat):Int)),by rw [FF]; exact g1,λj hj=>?_,by rw [Ho]; rfl⟩)
       by_cases z:j=i + 1 + t
       · subst z
         rw [if_pos (by omega)]
         simp [g1,hit]
       · have:(G3.set (i + 1 + t) (clR (G2.getD (i + 1 + t) []) (G2.getD i []) i l n)).getD j []=G3.getD j []:=by
           simp [Fm,Ft (GG z)]
         rw [this,g2 j hj]
         by_cases y:i < j/\j < i + 1 + t
         · rw [if_pos y,if_pos (by omega)]
         · rw [if_neg y,if_neg (by omega)]
     · obtain ⟨G3,s7,g1,g2,rfl⟩:=h
       rw [aB] at g2
       have r4:G3.getD i []=G2.getD i []:=by rw [g2 i hi,if_neg (by omega)]
       have a2:atI (G3.map dtR) (i:Int)=some (dtR (G2.getD i [])):=by rw [<- r4]; exact c8 [] (by omega)
       have W3:=W2.next (G':=G3) hi h7 hp2 g1 λj hj=>by
         rw [g2 j hj]
         by_cases y:i < j
         · rw [if_pos (by omega),if_pos y]
         · rw [if_neg (by omega),if_neg y]
       exact aw 4 nd (vK 1 (C':=true) (s:=.d (.int ((G2.getD i []).getD i 0))) (aJ (aJ (aa 1) (aa 5) (aT a2)) (aa 5) (aT (atR (by rw [W2.row i hi]; exact hi)))) rfl) (aM ⟨hi,G3,sg2,_,_,_,_,_,W3,rfl⟩)
 · obtain ⟨_,G,sg,l,Y,s5,s6,s7,W,rfl⟩:=h
   rw [aB,Fq] at W
   refine aF (ax (aa 3) (aa 4) (aX (mkL (by rcases W.sg with z | z <;> rw [z] <;> decide)))) ?_
   rw [Ar (z:=sg * l) (by rw [hl,FZ,W.last,W.dt])]
end
noncomputable def sgI (i:Nat):Int:=if i % 2=0 then 1 else -1
noncomputable def wsM (Ms:List (List Int)) (k:Nat):List (List Int):=(Fd Ms.length).map λi=>(Ms.getD i []).set k (sgI i)
theorem wG {xs:List D} (m:Nat) (h:m<=xs.length):Hy.cutD xs (some (m:Int)) none=xs.drop m:=by
 unfold Hy.cutD
 have e:HT.sIx xs.length 0 (some (m:Int))=m:=by
   unfold HT.sIx
   simp only
   split <;> omega
 rw [e,show HT.sIx xs.length xs.length none=xs.length from rfl]
 exact FC (by rw [Hi]; omega)
noncomputable def cK (ds:List D) (r:Sl):Prop:=∃ (Ms:List (List Int)) (k n:Nat),ds=[.lst (Ms.map dtR),.int (k:Nat)]/\Ms.length<=7/\(∀ r ∈ Ms,r.length=n)/\k < n/\n<=7/\r=.o ((wsM Ms k).map dtR)
section
variable {P:Program} {w:World} {K:Fb} {mg:Str->Option Value} {base:Heap} {k:Nat} {f:Addr} {fd:FuncData} {qual:Str}
theorem i6 (F:Fun K "with_signs_at" qual (top 49) f fd) (hb:∀ x ∈ ai,mg x=none):aQ P w K mg base CX0 (k + 1) f fd ["rows","k"] (spD K cK):=by
 refine fnD F dR hb (by rintro _ _ ⟨_,_,_,rfl,_⟩; rfl) ?_
 rintro _ _ ⟨Ms,kk,n,rfl,l7,hr,hk,n7,rfl⟩ cdv A outer s H E b
 have nd:=dR.nd
 refine aF (bV (wQ 0 1 (g:=λi=>.int (i:Nat)) (g':=λi=>dtR (Ms.getD i [])) (f:=λi=>dtR ((Ms.getD i []).set kk (sgI i))) b (yk b (aa 0)) (λi h=>?_) (by rw [cB,E9]; omega) λi hi s0 H0 fp=>?_)) ?_
 · rw [nq]
   have:i < Ms.length:=by simpa [ky] using h
   simp [this]
 · have hi:i < Ms.length:=by simpa [ky] using hi
   have lr:(Ms.getD i []).length=n:=hr _ (aK hi)
   have lm:((Ms.getD i []).map D.int).length=n:=by rw [E9,lr]
   have e:dtR ((Ms.getD i []).set kk (sgI i))=.lst ((Hy.cutD ((Ms.getD i []).map D.int) none (some (kk:Int))++[.int (sgI i)])++Hy.cutD ((Ms.getD i []).map D.int) (some ((kk:Int) + 1)) none):=by
     rw [show (kk:Int) + 1=((kk + 1:Nat):Int) from rfl,jd,wG _ (by omega)]
     unfold dtR
     rw [List.set_eq_take_append_cons_drop,if_pos (by omega),FE,FJ,HL,KL]
     simp
   rw [e]
   have lc:(Hy.cutD ((Ms.getD i []).map D.int) none (some (kk:Int))).length<=7:=by rw [jd,FI]; omega
   have ld:(Hy.cutD ((Ms.getD i []).map D.int) (some ((kk:Int) + 1)) none).length<=7:=by
     rw [show (kk:Int) + 1=((kk + 1:Nat):Int) from rfl,wG _ (by omega),Hi]; omega
   refine a4 (Aw (a4 (Aw (a4 (yL (aa 1) gU (gC (aa 2)))) (a4 (fm (ab ?_ af))) (by show _ + 1 < _; omega))) (a4 (yL (aa 1) (gC (ax (aa 2) ae a7)) gU)) (by rw [Fw]; show _ + 1 + _ < _; omega))
   have em:((i:Nat):Int).fmod 2=((i % 2:Nat):Int):=by
     rw [FU _ (by omega)]
     exact (Int.natCast_emod i 2).symm
   refine t9 (aS (ax (aa 0) ae (ba (by decide))) ae de) (λh=>?_) λh=>?_
   · have h:=of_decide_eq_true h
     rw [show sgI i=1 from if_pos (by omega)]
     exact ae
   · have h:=of_decide_eq_false h
     rw [show sgI i=-1 from if_neg (by omega)]
     exact iD ae
 · rw [cB,E9]
   unfold wsM
   rw [Fx]
   rfl
end
noncomputable def tpW (M:List (List Rat)) (rs cs:List Int):List (List Int):=whM (chM M rs cs) ((chM M rs cs).map scL)
noncomputable def tpL (n:Nat) (cs:List Int) (W:List (List Int)) (i:Nat):List Int:=(Fd i).foldl (λl k=>l.set (cs.getD k 0).toNat (-(wdZ (wsM W k)))) (FH n 0)
noncomputable def tpZ (n:Nat) (M:List (List Rat)) (rs cs:List Int):List Int:=tpL n cs (tpW M rs cs) cs.length
theorem gf (n:Nat) (cs:List Int) (W:List (List Int)):∀ i,(tpL n cs W i).length=n
 | 0=>by simp [tpL]
 | i + 1=>by
   have:tpL n cs W (i + 1)=(tpL n cs W i).set (cs.getD i 0).toNat (-(wdZ (wsM W i))):=by unfold tpL; rw [F3,GA]; rfl
   rw [this,FF,gf n cs W i]
theorem iI (n:Nat) (cs:List Int) (W:List (List Int)) (i:Nat):tpL n cs W (i + 1)=(tpL n cs W i).set (cs.getD i 0).toNat (-(wdZ (wsM W i))):=by unfold tpL; rw [F3,GA]; rfl
structure Ag (m n t d v:Nat) (M:List (List Rat)) (rs cs:List Int):Prop where
 tq:Tq m n M
 q:∀ r ∈ M,∀ x ∈ r,Qs d v x
 r:Chs m t rs
 c:Chs n t cs
 t1:1<=t
 tm:t<=m
 tn:t<=n
 sz:v + (1 + n * d)<=1280
theorem Ag.b {m n t d v:Nat} {M:List (List Rat)} {rs cs:List Int} (h:Ag m n t d v M rs cs):v + (1 + t * d)<=1280:=by
 have:=FO d h.tn
 have:=h.sz
 omega
theorem Ag.pt {m n t d v:Nat} {M:List (List Rat)} {rs cs:List Int} (h:Ag m n t d v M rs cs):Tq t t (chM M rs cs):=by
 have:=h.tq.r7
 have:=h.tm
 refine ⟨h.t1,by omega,h.t1,by omega,by unfold chM; rw [E9]; exact h.r.len,λr hr=>?_⟩
 unfold chM at hr
 obtain ⟨x,_,rfl⟩:=Fj.mp hr
 unfold pkL
 rw [E9]
 exact h.c.len
theorem Qs.d1 {d v:Nat} {q:Rat} (h:Qs d v q):1<=d:=by
 rcases GI d with z | z
 · subst z
   have:=h.den
   unfold Bd at this
   have:=den_pos q
   omega
 · exact z
theorem Ag.pq {m n t d v:Nat} {M:List (List Rat)} {rs cs:List Int} (h:Ag m n t d v M rs cs):∀ r ∈ chM M rs cs,∀ x ∈ r,Qs d v x:=λr hr x hx=>by
 unfold chM at hr
 obtain ⟨a,ha,rfl⟩:=Fj.mp hr
 unfold pkL at hx
 obtain ⟨c,hc,rfl⟩:=Fj.mp hx
 obtain ⟨i,hi,ei⟩:=Hg ha
 obtain ⟨j,hj,ej⟩:=Hg hc
 have b1:=h.r.at_ i (by rw [<- h.r.len]; exact hi)
 have b2:=h.c.at_ j (by rw [<- h.c.len]; exact hj)
 rw [show rs.getD i 0=a by rw [<- ei]; simp [hi]] at b1
 rw [show cs.getD j 0=c by rw [<- ej]; simp [hj]] at b2
 have l1:a.toNat < M.length:=by rw [h.tq.len]; omega
 exact h.q _ (aK l1) _ (aK (by rw [h.tq.at_ (by omega)]; omega))
theorem Ag.rw {m n t d v:Nat} {M:List (List Rat)} {rs cs:List Int} (h:Ag m n t d v M rs cs):Rw t t (v + (1 + t * d)) (tpW M rs cs):=rw_ok h.pt h.pq (by have:=h.b; omega)
theorem qR {W:List (List Int)} {t b k:Nat} (h:∀ r ∈ W,r.length=t/\∀ x ∈ r,Bd b x):∀ r ∈ wsM W k,r.length=t/\∀ x ∈ r,x.natAbs<=2 ^ b:=λr hr=>by
 unfold wsM at hr
 obtain ⟨i,hi,rfl⟩:=Fj.mp hr
 have hi:=FN.mp hi
 obtain ⟨h1,h2⟩:=h _ (aK (d:=[]) hi)
 refine ⟨by rw [FF]; exact h1,λx hx=>?_⟩
 rcases FY hx with z | z
 · exact GR (h2 x z)
 · rw [z]
   have:1<=2 ^ b:=Nat.one_le_two_pow
   unfold sgI
   split
   · exact this
   · exact this
theorem rep1 {α:Type} (x:α):∀ n,(FH n [x]).flatten=FH n x
 | 0=>rfl
 | n + 1=>by rw [GL,GY,rep1 x n]; rfl
theorem C2 {n m:Nat} (h:m < n):ixN n (m:Int)=some m:=by
 unfold ixN
 rw [if_pos (by omega),if_pos (by omega)]
 rfl
noncomputable def cX (ds:List D) (r:Sl):Prop:=∃ (m n t d v:Nat) (M:List (List Rat)) (rs cs:List Int),ds=[tbQ M,.lst (rs.map .int),.lst (cs.map .int)]/\Ag m n t d v M rs cs/\r=.o ((tpZ n M rs cs).map .int)
section
variable {P:Program} {w:World} {K:Fb} {mg:Str->Option Value} {base:Heap} {k:Nat} {f:Addr} {fd:FuncData} {qual:Str}
set_option maxHeartbeats 1000000 in
theorem jL (F:Fun K "tops_against" qual (top 48) f fd) (hb:∀ x ∈ ai,mg x=none) (c_chosen:Cal P w K mg base k "chosen" lA) (c_whole_rows:Cal P w K mg base k "whole_rows" cn) (c_scale_of:Cal P w K mg base k "scale_of" cu) (c_whole_determinant:Cal P w K mg base k "whole_determinant" bT) (c_with_signs_at:Cal P w K mg base k "with_signs_at" cK):aQ P w K mg base CX0 (k + 1) f fd ["table","rows","columns"] (spD K cX):=by
 refine fnD F fj hb (by rintro _ _ ⟨_,_,_,_,_,_,_,_,rfl,_⟩; rfl) ?_
 rintro _ _ ⟨m,n,t,d,v,M,rs,cs,rfl,h,rfl⟩ cdv A outer s H E b
 have nd:=fj.nd
 have r1:=h.tq.r1
 have m7:=h.tq.r7
 have n7:=h.tq.c7
 have c1:=h.tq.c1
 have tm:=h.tm
 have t1:=h.t1
 have hb':=h.b
 have pt:=h.pt
 have pq:=h.pq
 have rw:=h.rw
 have lp:((chM M rs cs).map rwQ).length=t:=by rw [E9,pt.len]
 refine aw 3 nd (a4 (x:=tbQ (chM M rs cs)) (x_call b c_chosen (ab (aa 0) (ab (aa 1) (ab (aa 2) af))) ⟨m,n,M,rs,cs,rfl,h.tq,⟨by rw [h.r.len]; omega,λi hi=>h.r.at_ i (by rw [<- h.r.len]; exact hi)⟩,⟨by rw [h.c.len]; omega,λi hi=>h.c.at_ i (by rw [<- h.c.len]; exact hi)⟩,rfl⟩)) ?_
 generalize hP:chM M rs cs=Q at pt pq lp
 have nd1:d<=t * d:=G5 d t1
 have es:(D.lst ((Q.map scL).map .int))=.lst ((Fd (Q.map rwQ).length).map λi=>D.int (scL (Q.getD i []))):=congrArg D.lst (((bE (λr:List Rat=>D.int (scL r)) Q [] (E9 ..)).trans (by rw [Fx]; rfl)).symm)
 have eW:tpW M rs cs=whM Q (Q.map scL):=by unfold tpW; rw [hP]
 refine aw 4 nd (a4 (x:=.lst ((tpW M rs cs).map dtR)) (x_call b c_whole_rows (ab (aa 3) (ab (a4 (bV (cmp 0 (g:=λi=>rwQ (Q.getD i [])) (f:=λi=>.int (scL (Q.getD i []))) b (aU (aa 3)) (a9 (f:=rwQ) (xs:=Q) []) (by rw [lp]; omega) λi hi s0 H0 fp=>(x_call (b.comp s0 H0 _ fp) c_scale_of (ab (aa 0) af) ⟨_,d,rfl,?_,?_,?_,?_,rfl⟩)))) af)) ⟨Q,Q.map scL,v + d,by rw [es],by rw [E9],by rw [pt.len]; omega,λr hr=>⟨by rw [pt.row r hr]; omega,λx hx=>(pq r hr x hx).sq⟩,by omega,?_,rfl⟩) (by rw [eW]; rfl)) ?_
 · rw [pt.row _ (aK (by simpa using hi))]; omega
 · exact λx hx=>(pq _ (aK (by simpa using hi)) x hx).den
 · rw [pt.row _ (aK (by simpa using hi))]; omega
 · omega
 · intro s hs
   obtain ⟨r,hr,rfl⟩:=Fj.mp hs
   have:=cI (d:=d) (r:=r) λx hx=>(pq _ hr x hx).den
   rw [pt.row r hr] at this
   exact this.mono (by omega)
 have e0:atI (M.map rwQ) 0=some (rwQ (M.getD 0 [])):=c8 [] (i:=0) (by rw [h.tq.len]; omega)
 refine aw 5 nd (s:=.o ((tpL n cs (tpW M rs cs) 0).map .int)) ?_ ?_
 · have er:(tpL n cs (tpW M rs cs) 0).map D.int=(FH (n:Int).toNat [D.int 0]).flatten:=by
     unfold tpL
     rw [Fq]
     show (FH n (0:Int)).map D.int=_
     rw [JO,rep1]
   rw [er]
   exact C9 (a4 (fm (ab ae af))) (a5 b (ab (aJ (aa 0) ae (aT e0)) af) (d0 (n:=n) (by rw [E9]; exact h.tq.at_ (by omega)))) (by omega) (by omega) (by rw [Fq]; show 1 * n < _; omega)
 rw [show tpZ n M rs cs=tpL n cs (tpW M rs cs) cs.length from rfl]
 generalize tpW M rs cs=W at rw ⊢
 refine qJ 6 7 (g:=λi=>.int (i:Nat)) (g':=λi=>.int (cs.getD i 0)) (λi τ=>∃ s6 s7,τ=[.d (tbQ M),.d (.lst (rs.map .int)),.d (.lst (cs.map .int)),.d (tbQ Q),.d (.lst (W.map dtR)),.o ((tpL n cs W i).map .int),s6,s7]) b nd (yk b (aa 2)) Ai ⟨.un,.un,rfl⟩ (λi hi τ hh=>?_) λτ hh=>?_
 · obtain ⟨s6,s7,rfl⟩:=hh
   have hi:i < t:=by rw [cB,E9,h.c.len] at hi; exact hi
   have ci:=h.c.at_ i hi
   have ec:cs.getD i 0=(((cs.getD i 0).toNat:Nat):Int):=by omega
   have wr:=qR (k:=i) rw.row
   have wl:(wsM W i).length=t:=by unfold wsM; rw [E9,Gz,rw.len]
   refine Au 5 (xs:=(tpL n cs W i).map .int) (j:=(cs.getD i 0).toNat) (aa 7) (iD (x_call b c_whole_determinant (ab (a4 (x:=.lst ((wsM W i).map dtR)) (x_call b c_with_signs_at (ab (aa 4) (ab (aa 6) af)) ⟨W,i,t,rfl,by rw [rw.len]; omega,λr hr=>(rw.row r hr).1,hi,by omega,rfl⟩)) af) ⟨t,v + (1 + t * d),wsM W i,rfl,wl,by omega,wr,?_,rfl⟩)) ?_ (aM ⟨.d (.int (i:Nat)),.d (.int (cs.getD i 0)),?_⟩)
   · have:t * (v + (1 + t * d) + 3)<=7 * 1283:=Gr (by omega) (by omega)
     omega
   · rw [E9,gf]
     rw [ec]
     exact C2 (by omega)
   · rw [iI,Ho]
     rfl
 · obtain ⟨s6,s7,rfl⟩:=hh
   rw [cB,E9]
   exact jj 5 rfl
end
theorem Ey {x:List Rat} {k:Nat} (h:k < x.length):x=x.take k++x.getD k 0 :: x.drop (k + 1):=by
 have:x.getD k 0=x[k]:=by simp [h]
 rw [this,List.getElem_cons_drop,Ig]
section
variable {A:Nat->Nat->Rat} {k:Nat}
theorem ye (A:Nat->Nat->Rat) (c:Nat) (b:Nat->Rat):det k (a6 A c b)=det k (au (λr j=>A j r) c b):=by
 rw [<- jC]
 exact aO λi _ j _=>rfl
theorem yw {b:Nat->Rat}:∃ a:Nat->Rat,∀ p,p < k->aA (λc=>a c * A p c) k=det k A * b p:=by
 refine ⟨λi=>-bc (λr c=>if r < k then A c r else b c) k k i,λp hp=>?_⟩
 have e:=so (Y:=λr c=>if r < k then A c r else b c) (k:=k) (p:=k) (q:=p)
 rw [oF hp] at e
 have e1:det k (λr c=>if r < k then A c r else b c)=det k A:=by
   rw [<- jC k A]
   exact aO λi hi j hj=>if_pos hi
 rw [e1] at e
 have e2:aA (λc=>-bc (λr c=>if r < k then A c r else b c) k k c * A p c) k=-1 * aA (λi=>bc (λr c=>if r < k then A c r else b c) k k i * (if i < k then A p i else b p)) k:=by
   rw [bF]
   refine az λc hc=>?_
   rw [if_pos hc]
   grind
 rw [e2]
 have e3:(if k < k then A p k else b p)=b p:=if_neg (F4 k)
 rw [e3] at e
 grind
theorem E1 {b:Nat->Rat} (h0:det k A ≠ 0) {p:Nat} (hp:p < k):aA (λc=>A p c * det k (a6 A c b)) k=det k A * b p:=by
 obtain ⟨a,ha⟩:=yw (A:=A) (k:=k) (b:=b)
 have key:∀ c,c < k->det k (a6 A c b)=a c:=λc hc=>by
   have e1:=(fI k).sum (λr j=>A j r) hc a (λc' j=>A j c') k
   have e2:det k (au (λr j=>A j r) c λj=>aA (λc'=>a c' * A j c') k)=det k A * det k (au (λr j=>A j r) c b):=by
     have:=nY (n:=k) (λr j=>A j r) hc (det k A) 0 b b
     rw [J1,Gq] at this
     rw [<- this]
     refine aO λi hi j hj=>?_
     unfold au
     split
     · show aA (λc'=>a c' * A j c') k=_
       rw [ha j hj]
       grind
     · rfl
   have e3:aA (λc'=>a c' * det k (au (λr j=>A j r) c λj=>A j c')) k=aA (λc'=>(a c' * det k A) * dq c' c) k:=az λc' hc'=>by
     unfold dq
     by_cases z:c'=c
     · subst z
       rw [if_pos rfl,Ir,show (λj=>A j c')=(λr j=>A j r) c' from rfl,bC,jC]
     · rw [if_neg z,GJ,(fI k).same (M:=au (λr j=>A j r) c λj=>A j c') (p:=c) (q:=c') hc hc' (GG z) (by rw [bP,bQ z]),GJ]
   rw [e2,e3,cP _ c k hc] at e1
   rw [ye]
   have:(det k (au (λr j=>A j r) c b) - a c) * det k A=0:=by grind
   rcases Kn.mp this with z | z
   · grind
   · exact absurd z h0
 rw [<- ha p hp]
 refine az λc hc=>?_
 rw [key c hc,Hr]
theorem Bf (h:∀ i,i < k + 1->0<=det k (minor A i)):0<=det (k + 1) (a6 A 0 sgn):=by
 show 0<=aA (λi=>sgn i * a6 A 0 sgn i 0 * det k (minor (a6 A 0 sgn) i)) (k + 1)
 have e:aA (λi=>sgn i * a6 A 0 sgn i 0 * det k (minor (a6 A 0 sgn) i)) (k + 1)=aA (λi=>det k (minor A i)) (k + 1):=az λi hi=>by
   rw [show a6 A 0 sgn i 0=sgn i from if_pos rfl,xO,Gx]
   rfl
 rw [e]
 have nn:∀ m,m<=k + 1->0<=aA (λi=>det k (minor A i)) m:=λm=>by
   induction m with
   | zero=>intro _; exact Rat.le_refl
   | succ m ih=>
     intro hm
     rw [aA]
     exact Rat.add_nonneg (ih (by omega)) (h m (by omega))
 exact nn _ (Fc _)
end
theorem pY:∀ (k:Nat) (y:List Rat) (ρ:Nat->Nat),Inc k ρ->(∀ i,i < k->ρ i < y.length)->((Fd k).map λi=>y.getD (ρ i) 0).Sublist y
 | 0,y,_,_,_=>List.nil_sublist y
 | k + 1,y,ρ,h,hb=>by
   have hk:=hb k (by omega)
   rw [F3,FE]
   have ih:=pY k (y.take (ρ k)) ρ (λi hi=>h i (by omega)) λi hi=>by
     rw [FI]
     have:=h.mono hi (by omega)
     omega
   have e:((Fd k).map λi=>(y.take (ρ k)).getD (ρ i) 0)=(Fd k).map λi=>y.getD (ρ i) 0:=F6 λi hi=>by
     have hi:=FN.mp hi
     have:=h.mono hi (by omega)
     simp [IQ,List.getElem?_take,this]
   rw [e] at ih
   have:=ih.append (show [y.getD (ρ k) 0].Sublist (y.getD (ρ k) 0 :: y.drop (ρ k + 1)) from List.singleton_sublist.mpr (Fi ..))
   rw [<- Ey hk] at this
   exact this
noncomputable def jG (k:Nat):List Int:=(Fd k).map λi=>if i % 2=0 then 1 else -1
theorem yb (l:List Int):chg l<=l.length - 1:=by
 rw [<- iy]
 have:=Hq (λi=>decide (l.getD (i + 1) 0 ≠ l.getD i 0)) (Fd (l.length - 1))
 rwa [Gz] at this
theorem yy (k:Nat):chg (jG k)=k - 1:=by
 have hl:(jG k).length=k:=by simp [jG]
 rw [<- iy,hl,Ip.mpr λi hi=>?_,Gz]
 have hi:=FN.mp hi
 have g:∀ j,j < k->(jG k).getD j 0=if j % 2=0 then 1 else -1:=λj hj=>by simp [jG,hj]
 rw [g i (by omega),g (i + 1) (by omega)]
 refine decide_eq_true ?_
 rcases Nat.mod_two_eq_zero_or_one i with z | z
 · rw [if_pos z,if_neg (by omega)]; decide
 · rw [if_pos (show (i + 1) % 2=0 by omega),if_neg (show ¬ i % 2=0 by omega)]; decide
theorem AO {k:Nat} {y:List Rat} {ρ:Nat->Nat} (h:Inc k ρ) (hb:∀ i,i < k->ρ i < y.length) (hs:∀ i,i < k->sgR (y.getD (ρ i) 0)=if i % 2=0 then 1 else -1):Rs (nzS y) (jG k):=by
 have e:nzS ((Fd k).map λi=>y.getD (ρ i) 0)=jG k:=by
   unfold nzS jG
   rw [Fx]
   have e1:(Fd k).map (sgR ∘ λi=>y.getD (ρ i) 0)=(Fd k).map λi=>if i % 2=0 then (1:Int) else -1:=F6 λi hi=>hs i (FN.mp hi)
   rw [e1,Ip.mpr λs hs'=>?_]
   obtain ⟨i,_,rfl⟩:=Fj.mp hs'
   split <;> decide
 rw [<- e]
 exact rZ (A9 (pY k y ρ h hb)) (Dd _)
theorem oA:∀ {x:List Rat},(∀ q ∈ x,q=0)->nzS x=[]
 | [],_=>rfl
 | q :: x,h=>by
   rw [oI,oA λp hp=>h p (Fh _ hp),h q (Fi ..),qX]
   rfl
theorem sD {X:Nat->Rat}:∀ (k n:Nat) (γ:Nat->Nat),Inc k γ->(∀ i,i < k->γ i < n)->(∀ j,j < n->(∀ i,i < k->γ i ≠ j)->X j=0)->nzS ((Fd n).map X)=nzS ((Fd k).map λi=>X (γ i))
 | 0,n,γ,_,_,h0=>by
   rw [oA λq hq=>?_]
   · rfl
   · obtain ⟨j,hj,rfl⟩:=Fj.mp hq
     exact h0 j (FN.mp hj) λi hi=>absurd hi (Gb _)
 | k + 1,n,γ,h,hb,h0=>by
   have hk:=hb k (by omega)
   have ih:=sD (X:=X) k (γ k) γ (λi hi=>h i (by omega)) (λi hi=>h.mono hi (by omega)) λj hj hn=>h0 j (by omega) λi hi=>by
     rcases GQ i k with z | z
     · exact hn i z
     · obtain rfl:i=k:=by omega
       omega
   have e:(Fd n).map X=(Fd (γ k)).map X++X (γ k) :: (Fd (n - (γ k + 1))).map λj=>X (γ k + 1 + j):=by
     refine G8 (by simp; omega) λi h1 h2=>?_
     simp only [Gu,HN]
     rw [List.getElem_append]
     split
     · simp
     · rename_i z
       have z:γ k<=i:=by simpa using z
       rw [List.getElem_cons]
       split
       · rename_i y
         have:i=γ k:=by simp at y; omega
         rw [this]
       · rename_i y
         simp only [Gu,HN]
         congr 1
         simp at y ⊢
         omega
   rw [e,hU,oI,ih,oA (x:=(Fd (n - (γ k + 1))).map λj=>X (γ k + 1 + j)) λq hq=>?_,Gh,F3,FE,hU]
   · rfl
   · obtain ⟨j,hj,rfl⟩:=Fj.mp hq
     have hj:=FN.mp hj
     refine h0 _ (by omega) λi hi z=>?_
     rcases GQ i k with y | y
     · have:=h.mono y (by omega); omega
     · obtain rfl:i=k:=by omega
       omega
theorem ahead {X:Nat->Rat} {k n:Nat} {γ:Nat->Nat} (hk:1<=k) (h:Inc k γ) (hb:∀ i,i < k->γ i < n) (h0:∀ j,j < n->(∀ i,i < k->γ i ≠ j)->X j=0) (h1:X (γ 0)<=0):chg (nzS ((Fd n).map X))<=k - 1/\(chg (nzS ((Fd n).map X))=k - 1->fsS (nzS ((Fd n).map X)) ≠ 1):=by
 rw [sD k n γ h hb h0]
 have ll:(nzS ((Fd k).map λi=>X (γ i))).length<=k:=by
   unfold nzS
   have:=Hq (λs=>decide (s ≠ 0)) (((Fd k).map λi=>X (γ i)).map sgR)
   simpa using this
 have cl:=yb (nzS ((Fd k).map λi=>X (γ i)))
 refine ⟨by omega,λe f=>?_⟩
 obtain ⟨k,rfl⟩:∃ k',k=k' + 1:=⟨k - 1,by omega⟩
 have ec:(Fd (k + 1)).map (λi=>X (γ i))=X (γ 0) :: (Fd k).map λi=>X (γ (i + 1)):=by
   rw [G4,FJ,Fx]
   rfl
 rw [ec,oI,qX] at f e
 have l2:(nzS ((Fd k).map λi=>X (γ (i + 1)))).length<=k:=by
   unfold nzS
   have:=Hq (λs=>decide (s ≠ 0)) (((Fd k).map λi=>X (γ (i + 1))).map sgR)
   simpa using this
 have c2:=yb (nzS ((Fd k).map λi=>X (γ (i + 1))))
 rcases qH (X (γ 0)) with ⟨z,_⟩ | ⟨_,z⟩ | ⟨z,_⟩
 · rw [if_pos z,Kj] at f e
   rcases GI k with y | y
   · subst y
     cases f
   · omega
 · exfalso
   grind
 · rw [z,if_neg (by decide)] at f
   have f:(-1:Int)=1:=f
   exact absurd f (by decide)
noncomputable def tlS (y x:List Int):Bool:=if chg y=chg x then !(([0,fsS x]:List Int).any λw=>decide (w=fsS y)) else decide (chg x < chg y)
theorem zq {y x:List Int} {k:Nat} (hk:1<=k) (hy:Rs y (jG k)) (hx:chg x<=k - 1) (hf:chg x=k - 1->fsS x ≠ 1):tlS y x=true:=by
 have ca:=yy k
 have fa:fsS (jG k)=1:=by
   obtain ⟨k,rfl⟩:∃ k',k=k' + 1:=⟨k - 1,by omega⟩
   unfold jG
   rw [G4]
   rfl
 unfold tlS
 rcases hy with hy | ⟨h1,h2⟩
 · rw [if_neg (by omega)]
   exact decide_eq_true (by omega)
 · by_cases z:chg y=chg x
   · rw [if_pos z]
     have f1:fsS y=1:=by
       rw [fa] at h2
       rcases h2 with h2 | h2
       · exact absurd h2 (by decide)
       · exact h2.symm
     have f2:=hf (by omega)
     rw [f1,HQ,HQ,List.any_nil,decide_eq_false (show ¬ ((0:Int)=1) by decide),decide_eq_false f2]
     rfl
   · rw [if_neg z]
     exact decide_eq_true (by omega)
section
variable {P:Program} {w:World} {K:Fb} {mg:Str->Option Value} {base:Heap} {k:Nat} {f:Addr} {fd:FuncData} {qual:Str}
end
theorem wM {q:List Rat} (h:nzS q=[]) (x:Rat):nzS (q++[x])=if sgR x=0 then [] else [sgR x]:=by rw [hU,h,qX]; rfl
theorem yB {q t:List Rat} {s:Int} {l:List Int} (h:nzS q=s :: l):(nzS (q++t)).getD 0 0=s:=by rw [hU,h]; rfl
noncomputable def eY (ds:List D) (r:Sl):Prop:=∃ q:List Rat,ds=[rwQ q]/\1<=q.length/\q.length<=7/\r=.d (.int ((nzS q).getD 0 0))
noncomputable def tlQ (R C:Nat) (M:List (List Rat)) (x:List Rat):Bool:=tlS (nzS (bhQ R C M x)) (nzS x)
noncomputable def bX (ds:List D) (r:Sl):Prop:=∃ (R C d v:Nat) (M:List (List Rat)) (x:List Rat),ds=[tbQ M,rwQ x]/\Tq R C M/\x.length=C/\(∀ r ∈ M,∀ q ∈ r,Qs d v q)/\(∀ q ∈ x,Qs d v q)/\2 + 2 * (C * d)<=8999/\v + (1 + C * d)<=8999/\v + d<=8999/\r=.d (.bl (tlQ R C M x))
noncomputable def qO (ts:List Int):List Int:=ts.map λt=>((Hd (lZ t):Nat):Int)
noncomputable def mbZ (ts:List Int):Nat:=match qO ts with
 | []=>0
 | a :: as=>(je a as).toNat
noncomputable def cW (ts:List Int) (s:Nat):List Rat:=ts.map λt=>((t / 2 ^ s:Int):Rat)
noncomputable def agZ (T:List Rat->Bool) (ts:List Int) (mb bits:Nat):List Rat:=
 if h:1<=bits/\bits < mb then (if T (cW ts (mb - bits)) then cW ts (mb - bits) else agZ T ts mb (2 * bits)) else cW ts 0
termination_by mb - bits
decreasing_by omega
theorem xW {T:List Rat->Bool} {ts:List Int} {mb:Nat} (h:T (cW ts 0)=true) (n:Nat):∀ bits,mb - bits<=n->T (agZ T ts mb bits)=true:=by
 induction n with
 | zero=>
   intro bits hb
   rw [agZ,dif_neg (by omega)]
   exact h
 | succ n ih=>
   intro bits hb
   rw [agZ]
   split
   · rename_i z
     split
     · rename_i y; exact y
     · exact ih (2 * bits) (by omega)
   · exact h
theorem Bi {T:List Rat->Bool} {ts:List Int} {mb:Nat} (n:Nat):∀ bits,mb - bits<=n->∃ s,agZ T ts mb bits=cW ts s:=by
 induction n with
 | zero=>
   intro bits hb
   rw [agZ,dif_neg (by omega)]
   exact ⟨0,rfl⟩
 | succ n ih=>
   intro bits hb
   rw [agZ]
   split
   · split
     · exact ⟨_,rfl⟩
     · exact ih (2 * bits) (by omega)
   · exact ⟨0,rfl⟩
theorem yH {a:Int} {as:List Int} (h:0<=a):0<=je a as:=Int.le_trans h ((ou as a).2 a (Fi ..))
theorem DX (o:Option (List Int × List Int)):fzD (fuS o)=some (fuD o):=by
 cases o with
 | none=>rfl
 | some p=>
   show some (D.tup [.lst (ke _),.lst (ke _)])=_
   rw [sX,sX]
   rfl
theorem sY (i:Int):frD (i:Rat)=.tup [.int i,.int 1]:=by
 unfold frD
 rw [Iq,HU]
 rfl
theorem DS {Ms:List (List Int)} {n b:Nat} (hl:Ms.length=n) (n7:n<=7) (h:∀ r ∈ Ms,r.length=n/\∀ x ∈ r,x.natAbs<=2 ^ b):(wdZ Ms).natAbs<=2 ^ (n * (b + 3)):=by
 have z:=xo (b:=b) (n:=n) (M:=dtM Ms) (by omega) λi hi j hj=>⟨_,rfl,by
   have hm:Ms.getD i [] ∈ Ms:=aK (by omega)
   exact (h _ hm).2 _ (aK (by rw [(h _ hm).1]; exact hj))⟩
 have:=z.num.2
 unfold wdZ
 rw [hl]
 exact this
theorem rG {n t b:Nat} {cs:List Int} {W:List (List Int)} (hl:W.length=t) (t7:t<=7) (h:∀ r ∈ W,r.length=t/\∀ x ∈ r,Bd b x):∀ i,∀ x ∈ tpL n cs W i,x.natAbs<=2 ^ (t * (b + 3))
 | 0,x,hx=>by
   have:x=0:=(ID.mp hx).2
   rw [this]
   exact FR _
 | i + 1,x,hx=>by
   rw [iI] at hx
   rcases FY hx with z | z
   · exact rG hl t7 h i x z
   · rw [z,Int.natAbs_neg]
     exact DS (by unfold wsM; rw [E9,Gz,hl]) t7 (qR h)
theorem CN (t:Int) (s:Nat):(t / 2 ^ s).natAbs<=t.natAbs:=by
 have p:(0:Int) < 2 ^ s:=by exact Int.pow_pos (by decide)
 rcases Int.le_total 0 t with h | h
 · have h1:0<=t / 2 ^ s:=Int.ediv_nonneg h (Int.le_of_lt p)
   have h2:t / 2 ^ s<=t:=Int.ediv_le_self _ h
   omega
 · have h1:t / 2 ^ s<=0:=by
     have:=Int.ediv_le_ediv p h
     rwa [Int.zero_ediv] at this
   have h2:t<=t / 2 ^ s:=by
     have h3:t * 2 ^ s<=t:=by
       have:=Int.mul_nonneg (show 0<=-t by omega) (show (0:Int)<=2 ^ s - 1 by omega)
       rw [Int.mul_sub,Int.mul_one,Int.neg_mul] at this
       omega
     have:=Int.ediv_le_ediv p h3
     rwa [Int.mul_ediv_cancel _ (by omega)] at this
   omega
theorem xB {ts:List Int} {d v s:Nat} (hd:1<=d) (h:∀ t ∈ ts,t.natAbs<=2 ^ v):∀ q ∈ cW ts s,Qs d v q:=λq hq=>by
 unfold cW at hq
 obtain ⟨t,ht,rfl⟩:=Fj.mp hq
 refine ⟨?_,?_⟩
 · rw [HU]
   unfold Bd
   show 1 < 2 ^ d
   have:=FW (n:=2) (by decide) hd
   omega
 · rw [Iq,HU,Ks]
   exact Fz (CN t s) (h t ht)
theorem Qs.mo {d v d' v':Nat} {q:Rat} (h:Qs d v q) (hd:d<=d') (hv:v<=v'):Qs d' v' q:=⟨h.den.mono hd,Fz h.val (FO _ (FW (by decide) hv))⟩
noncomputable def gg (ds:List D) (r:Sl):Prop:=∃ (m n t d v:Nat) (M:List (List Rat)) (rs cs:List Int),ds=[tbQ M]/\Ag m n t d v M rs cs/\fuO (whM M (M.map scL)) m n 0=some (rs,cs)/\v + t * (v + (1 + t * d) + 3) + (1 + n * d)<=8999/\r=.o ((agZ (tlQ m n M) (tpZ n M rs cs) (mbZ (tpZ n M rs cs)) 4).map frD)
section
variable {P:Program} {w:World} {K:Fb} {mg:Str->Option Value} {base:Heap} {k:Nat} {f:Addr} {fd:FuncData} {qual:Str}
theorem mh (F:Fun K "first_sign" qual (top 44) f fd) (hb:∀ x ∈ ai,mg x=none) (c_look_row:Cal P w K mg base k "look_row" cU) (c_signs_of:Cal P w K mg base k "signs_of" eR):aQ P w K mg base CX0 (k + 1) f fd ["row"] (spD K eY):=by
 refine fnD F gq hb (by rintro _ _ ⟨_,rfl,_⟩; rfl) ?_
 rintro _ _ ⟨q,rfl,q1,q7,rfl⟩ cdv A outer s H E b
 have nd:=gq.nd
 refine gW (x_call b c_look_row (ab (aa 0) af) ⟨q,rfl,q1,q7,rfl⟩) ?_
 refine bu 1 (g:=λi=>.int ((q.map sgR).getD i 0)) (λi τ=>nzS (q.take i)=[]/\∃ s1,τ=[.d (rwQ q),s1]) b nd (aU (a4 (x_call b c_signs_of (ab (aa 0) af) ⟨q,rfl,by omega,rfl⟩))) (a9 (f:=D.int) (xs:=q.map sgR) 0) ⟨rfl,.un,rfl⟩ (λi hi τ h=>?_) λτ h=>?_
 · obtain ⟨h0,s1,rfl⟩:=h
   have hi:i < q.length:=by simpa using hi
   have et:q.take (i + 1)=q.take i++[q.getD i 0]:=by rw [IM]; simp [hi]
   have sn:=wM h0 (q.getD i 0)
   have eg:(q.map sgR).getD i 0=sgR (q.getD i 0):=by simp [hi]
   rw [eg]
   refine b9 (aS (aa 1) ae gP) (λh=>?_) λh=>?_
   · have h:sgR (q.getD i 0) ≠ 0:=by simpa using h
     rw [if_neg h] at sn
     have e:(nzS q).getD 0 0=sgR (q.getD i 0):=by
       have:=yB (t:=q.drop (i + 1)) (s:=sgR (q.getD i 0)) (l:=[]) (by rw [<- sn,<- et])
       rwa [Ig] at this
     exact aF (aa 1) (by rw [e])
   · have h:sgR (q.getD i 0)=0:=by simpa using h
     rw [if_pos h] at sn
     exact aM ⟨by rw [et]; exact sn,_,rfl⟩
 · obtain ⟨h0,s1,rfl⟩:=h
   rw [E9,E9,HC] at h0
   rw [h0]
   exact aF ae rfl
theorem js (F:Fun K "tells_against" qual (top 46) f fd) (hb:∀ x ∈ ai,mg x=none) (c_behind:Cal P w K mg base k "behind" lH) (c_least_changes:Cal P w K mg base k "least_changes" cH) (c_first_sign:Cal P w K mg base k "first_sign" eY):aQ P w K mg base CX0 (k + 1) f fd ["table","row"] (spD K bX):=by
 refine fnD F d8 hb (by rintro _ _ ⟨_,_,_,_,_,_,rfl,_⟩; rfl) ?_
 rintro _ _ ⟨R,C,d,v,M,x,rfl,t,lx,q1,q2,z1,z2,z3,rfl⟩ cdv A outer s H E b
 have nd:=d8.nd
 have r1:=t.r1
 have r7:=t.r7
 have c1:=t.c1
 have c7:=t.c7
 have ly:(bhQ R C M x).length=R:=by simp [bhQ]
 refine aw 2 nd (a4 (x:=rwQ (bhQ R C M x)) (x_call b c_behind (ab (aa 0) (ab (aa 1) af)) ⟨R,C,d,v,M,x,rfl,t,lx,q1,q2,z1,z2,z3,rfl⟩)) ?_
 refine aw 3 nd (ax (x_call b c_least_changes (ab (aa 2) af) ⟨_,rfl,by omega,by omega,rfl⟩) (x_call b c_least_changes (ab (aa 1) af) ⟨x,rfl,by omega,by omega,rfl⟩) cF) ?_
 refine b9 (aS (aa 3) ae gP) (λh=>?_) λh=>?_
 · have h:((chg (nzS (bhQ R C M x)):Nat):Int) - (chg (nzS x):Nat) ≠ 0:=by simpa using h
   refine aF (cG (aa 3) ae pU) ?_
   unfold tlQ tlS
   rw [if_neg (by omega)]
   exact congrArg (λb=>Sl.d (.bl b)) (decide_eq_decide.mpr (by omega))
 · have h:((chg (nzS (bhQ R C M x)):Nat):Int) - (chg (nzS x):Nat)=0:=by simpa using h
   refine aF (cG (x_call b c_first_sign (ab (aa 2) af) ⟨_,rfl,by omega,by omega,rfl⟩) (cg (ab ae (ab (x_call b c_first_sign (ab (aa 1) af) ⟨x,rfl,by omega,by omega,rfl⟩) af))) (vG (ns:=[0,(nzS x).getD 0 0]))) ?_
   unfold tlQ tlS
   rw [if_pos (by omega)]
   rfl
set_option maxHeartbeats 1000000 in
theorem qW (F:Fun K "against" qual (top 47) f fd) (hb:∀ x ∈ ai,mg x=none) (c_first_below:Cal P w K mg base k "first_below" dF) (c_tops_against:Cal P w K mg base k "tops_against" cX) (c_tells_against:Cal P w K mg base k "tells_against" bX):aQ P w K mg base CX0 (k + 1) f fd ["table"] (spD K gg):=by
 refine fnD F j8 hb (by rintro _ _ ⟨_,_,_,_,_,_,_,_,rfl,_⟩; rfl) ?_
 rintro _ _ ⟨m,n,t,d,v,M,rs,cs,rfl,h,hf,hz,rfl⟩ cdv A outer s H E b
 have nd:=j8.nd
 have c1:=h.tq.c1
 have n7:=h.tq.c7
 have sz:=h.sz
 have d1:1<=d:=(h.q _ (aK (d:=[]) (i:=0) (by rw [h.tq.len]; have:=h.tq.r1; omega)) _ (aK (d:=0) (i:=0) (by rw [h.tq.at_ (by have:=h.tq.r1; omega)]; exact c1))).d1
 refine aw 1 nd (s:=.d (fuD (some (rs,cs)))) (a4 (x_call b c_first_below (ab (aa 0) af) ⟨m,n,d,v,M,rfl,h.tq,h.q,by omega,rfl⟩) (by rw [hf]; exact DX _)) ?_
 refine cL (aS (aa 1) pP (Ce (o:=some (rs,cs)))) rfl ?_
 refine aw 2 nd (a4 (x:=.lst ((tpZ n M rs cs).map .int)) (x_call b c_tops_against (ab (aa 0) (ab (aJ (aa 1) ae (aV (aP (i:=0) rfl))) (ab (aJ (aa 1) ae (aV (aP (i:=1) rfl))) af))) ⟨m,n,t,d,v,M,rs,cs,rfl,h,rfl⟩)) ?_
 have lt:(tpZ n M rs cs).length=n:=gf ..
 have bt:∀ x ∈ tpZ n M rs cs,x.natAbs<=2 ^ (t * (v + (1 + t * d) + 3)):=rG h.rw.len (by have:=h.tn; omega) h.rw.row _
 generalize tpZ n M rs cs=ts at lt bt ⊢
 have qs:∀ s,∀ q ∈ cW ts s,Qs d (v + t * (v + (1 + t * d) + 3)) q:=λs q hq=>(xB d1 bt q hq).mo (Fc _) (by omega)
 have qm:∀ r ∈ M,∀ q ∈ r,Qs d (v + t * (v + (1 + t * d) + 3)) q:=λr hr q hq=>(h.q r hr q hq).mo (Fc _) (by omega)
 have ls:∀ s,(cW ts s).length=n:=λs=>by unfold cW; rw [E9,lt]
 have nd1:d<=n * d:=G5 d c1
 have lm:(ts.map D.int).length=n:=by rw [E9,lt]
 have es:∀ s,(Fd (ts.map D.int).length).map (λi=>frD (((ts.getD i 0 / 2 ^ s:Int)):Rat))=(cW ts s).map frD:=λs=>by
   unfold cW
   rw [Fx,lm,<- lt]
   exact bE (λt:Int=>frD ((t / 2 ^ s:Int):Rat)) ts 0 rfl
 obtain ⟨a,as,ea⟩:∃ a as,qO ts=a :: as:=by
   cases e:qO ts with
   | nil=>have:=congrArg Kk e; unfold qO at this; rw [E9,lt] at this; simp at this; omega
   | cons a as=>exact ⟨a,as,rfl⟩
 have nn:∀ x ∈ qO ts,0<=x:=λx hx=>by
   unfold qO at hx
   obtain ⟨t,_,rfl⟩:=Fj.mp hx
   exact Hl _
 have em:je a as=(mbZ ts:Nat):=by
   have:=yH (a:=a) (as:=as) (nn a (by rw [ea]; exact Fi ..))
   unfold mbZ
   rw [ea]
   show _=((je a as).toNat:Int)
   omega
 refine aw 3 nd (s:=.d (.int (mbZ ts:Nat))) (by rw [<- em]; exact a5 b (ab (a4 (bV (cmp 0 (g:=λi=>.int (ts.getD i 0)) (f:=λi=>.int ((Hd (lZ (ts.getD i 0)):Nat):Int)) b (aU (aa 2)) (a9 (f:=D.int) (xs:=ts) 0) (by rw [lm]; omega) λi hi s0 H0 fp=>Cw (a5 (b.comp s0 H0 _ fp) (ab (aa 0) af) jY)))) af) (Cv b.calm a as (by
   rw [<- ea]
   unfold qO
   rw [Fx,lm,<- lt]
   exact bE (λt:Int=>D.int ((Hd (lZ t):Nat):Int)) ts 0 rfl))) ?_
 generalize mbZ ts=mb
 refine aw 4 nd ae ?_
 refine oK (λl c τ=>∃ (bits:Nat) (s5:Sl),1<=bits/\l=mb - bits/\c=decide ((bits:Int) < (mb:Nat))/\agZ (tlQ m n M) ts mb bits=agZ (tlQ m n M) ts mb 4/\τ=[.d (tbQ M),.d (fuD (some (rs,cs))),.d (.lst (ts.map .int)),.d (.int (mb:Nat)),.d (.int (bits:Nat)),s5]) b ⟨_,_,4,.un,by decide,rfl,rfl,rfl,rfl⟩ (λl c τ hh=>?_) (λl τ hh=>?_) λl τ hh=>?_
 · obtain ⟨bits,s5,_,_,rfl,_,rfl⟩:=hh
   exact aS (aa 4) (aa 3) kc
 · obtain ⟨bits,s5,b1,rfl,hc,ag,rfl⟩:=hh
   have hlt:bits < mb:=by have:=of_decide_eq_true hc.symm; omega
   have esub:((mb:Nat):Int) - (bits:Nat)=((mb - bits:Nat):Int):=by omega
   refine xm 5 nd (s:=.o ((cW ts (mb - bits)).map frD)) (cmp 0 (g:=λi=>.int (ts.getD i 0)) (f:=λi=>frD (((ts.getD i 0 / 2 ^ (mb - bits):Int)):Rat)) b (aU (aa 2)) (a9 (f:=D.int) (xs:=ts) 0) (by rw [lm]; omega) λi hi s0 H0 fp=>?_) (.inl ?_) ?_
   · have ej:(((mb:Nat):Int) - (bits:Nat)).toNat=mb - bits:=by omega
     rw [sY,<- ej]
     exact cg (ab (ax (aa 0) (ax (aa 2) (aa 1) cF) (Az (by omega))) (ab ae af))
   · rw [es]
   refine b9 (bS (x_call b c_tells_against (ab (aa 0) (ab (iM 5) af)) ⟨m,n,d,v + t * (v + (1 + t * d) + 3),M,cW ts (mb - bits),rfl,h.tq,ls _,qm,qs _,by omega,by omega,by omega,rfl⟩)) (λhT=>?_) λhT=>?_
   · have e:agZ (tlQ m n M) ts mb 4=cW ts (mb - bits):=by rw [<- ag,agZ,dif_pos ⟨b1,hlt⟩,if_pos hT]
     rw [e]
     exact jj 5 rfl
   · have hT:tlQ m n M (cW ts (mb - bits))=false:=hT
     refine aw 4 nd (ax ae (aa 4) (aX (mkL (by decide)))) (aM ⟨mb - 2 * bits,_,by omega,2 * bits,.o ((cW ts (mb - bits)).map frD),by omega,rfl,rfl,?_,rfl⟩)
     rw [<- ag,agZ.eq_def (bits:=bits),dif_pos ⟨b1,hlt⟩,if_neg (by rw [hT]; decide)]
 · obtain ⟨bits,s5,b1,_,hc,ag,rfl⟩:=hh
   have hge:¬ bits < mb:=by have:=of_decide_eq_false hc.symm; omega
   rw [<- ag,agZ,dif_neg (by omega)]
   refine aF (bV (cmp 0 (g:=λi=>.int (ts.getD i 0)) (f:=λi=>frD (((ts.getD i 0 / 2 ^ 0:Int)):Rat)) b (aU (aa 2)) (a9 (f:=D.int) (xs:=ts) 0) (by rw [lm]; omega) λi hi s0 H0 fp=>?_)) ?_
   · rw [sY,show (2:Int) ^ 0=1 from rfl,Int.ediv_one]
     exact cg (ab (aa 0) (ab ae af))
   · rw [es]
end
noncomputable def ltI:List Int->List Int->Bool
 | [],[]=>false
 | [],_ :: _=>true
 | _ :: _,[]=>false
 | x :: xs,y :: ys=>if x < y then true else if y < x then false else ltI xs ys
theorem nL:∀ xs,ltI xs xs=false
 | []=>rfl
 | x :: xs=>by rw [ltI,if_neg (by omega),if_neg (by omega),nL xs]
theorem oz:∀ {k:Nat} {xs ys:List Int} {x y:Int},xs[k]?=some x->ys[k]?=some y->x ≠ y->(∀ m,m < k->xs[m]?=ys[m]?)->ltI xs ys=decide (x < y)
 | 0,x :: xs,y :: ys,_,_,h1,h2,h,_=>by
   cases h1
   cases h2
   rw [ltI]
   by_cases a:x < y
   · rw [if_pos a,decide_eq_true a]
   · rw [if_neg a,if_pos (by omega),decide_eq_false a]
 | k + 1,x :: xs,y :: ys,_,_,h1,h2,h,he=>by
   have e:=he 0 (by omega)
   simp only [List.getElem?_cons_zero,HG] at e
   subst e
   rw [ltI,if_neg (by omega),if_neg (by omega)]
   exact oz (k:=k) h1 h2 h λm hm=>by simpa using he (m + 1) (by omega)
 | 0,[],_,_,_,h1,_,_,_=>nomatch h1
 | _,_ :: _,[],_,_,_,h2,_,_=>by simp at h2
 | _ + 1,[],_,_,_,h1,_,_,_=>nomatch h1
theorem sI:∀ {xs ys:List Int},xs.length=ys.length->xs ≠ ys->∃ (k:Nat) (x y:Int),xs[k]?=some x/\ys[k]?=some y/\x ≠ y/\∀ m:Nat,m < k->xs[m]?=ys[m]?
 | [],[],_,h=>absurd rfl h
 | [],_ :: _,h,_=>by simp at h
 | _ :: _,[],h,_=>by simp at h
 | x :: xs,y :: ys,hl,h=>by
   by_cases e:x=y
   · subst e
     obtain ⟨k,a,b,h1,h2,h3,h4⟩:=sI (xs:=xs) (ys:=ys) (by simpa using hl) λz=>h (by rw [z])
     refine ⟨k + 1,a,b,by simpa using h1,by simpa using h2,h3,λm hm=>?_⟩
     cases m with
     | zero=>rfl
     | succ m=>simpa using h4 m (by omega)
   · exact ⟨0,x,y,rfl,rfl,e,λm hm=>absurd hm (Gb _)⟩
theorem oy (zs:List Int) {xs ys:List Int}:ltI (zs++xs) (zs++ys)=ltI xs ys:=by
 induction zs with
 | nil=>rfl
 | cons z zs ih=>rw [Gi,Gi,ltI,if_neg (by omega),if_neg (by omega),ih]
section
variable {P:Program} {w:World} {K:Fb} {mg:Str->Option Value} {base:Heap} {k:Nat} {f:Addr} {fd:FuncData} {qual:Str}
end
noncomputable def bL (n:Nat) (rs:List (List Int)):List (Int × Int):=rs.foldl (λkv r=>bj n r kv kv.length) [(0,1)]
theorem eO (n:Nat) (rs:List (List Int)) (r:List Int):bL n (rs++[r])=bj n r (bL n rs) (bL n rs).length:=by unfold bL; rw [GA]; rfl
theorem qv (n:Nat) (rs:List (List Int)):∀ i,i<=rs.length->RI n i (dtM rs) (bL n (rs.take i))
 | 0,_=>RI.zero n _
 | i + 1,h=>by
   have e:rs.take (i + 1)=rs.take i++[rs.getD i []]:=take_snoc _ (by omega)
   rw [e,eO]
   exact (qv n rs i (by omega)).step λj _=>rfl
theorem iT (n:Nat) (rs:List (List Int)):RI n rs.length (dtM rs) (bL n rs):=by
 have:=qv n rs rs.length (Fc _)
 rwa [FC (Fc _)] at this
theorem jr (n:Nat) (rs:List (List Int)):∀ i,i<=rs.length->(bL n (rs.take i)).length<=n ^ i
 | 0,_=>Fc 1
 | i + 1,h=>by
   have e:rs.take (i + 1)=rs.take i++[rs.getD i []]:=take_snoc _ (by omega)
   rw [e,eO,IF]
   exact Fz (i5 _ _ _ _) (FO _ (jr n rs i (by omega)))
theorem vI {kv:List (Int × Int)} {k v:Int} {q:Int × Int} (h:q ∈ ft kv k v):q.2=v\/q ∈ kv:=by
 unfold ft at h
 split at h
 · obtain ⟨p,hp,e⟩:=Fj.mp h
   by_cases z:p.1=k
   · rw [if_pos z] at e; exact .inl (by rw [<- e])
   · rw [if_neg z] at e; exact .inr (e ▸ hp)
 · rcases Fs.mp h with h | h
   · exact .inr h
   · exact .inl (by rw [Ff.mp h])
theorem y7 {kv:List (Int × Int)} {k:Int} {N:Nat} (h:∀ q ∈ kv,q.2.natAbs<=N):((bK kv k).getD 0).natAbs<=N:=by
 cases e:bK kv k with
 | none=>simp
 | some v=>
   unfold bK at e
   obtain ⟨p,h1,h2⟩:=HV.mp e
   rw [<- h2]
   exact h p (HA h1)
theorem uh {n:Nat} {row:List Int} {k v:Int} {kv:List (Int × Int)} {N W:Nat} (hW:∀ j,(row.getD j 0 * v).natAbs<=W) (h:∀ q ∈ kv,q.2.natAbs<=N):∀ c,∀ q ∈ (b8 n row k v kv c).2,q.2.natAbs<=N + c * W
 | 0,q,hq=>by have:=h q hq; omega
 | c + 1,q,hq=>by
   have ih:=uh (n:=n) (k:=k) hW h c
   rw [b8,kf] at hq
   rw [GK]
   split at hq
   · have:=ih q hq; omega
   · rcases vI hq with e | hq
     · have h1:=y7 (k:=lO k (n - 1 - c)) ih
       have h2:(sgZ (b8 n row k v kv c).1 * row.getD (n - 1 - c) 0 * v).natAbs<=W:=by
         rw [KY,Gj]
         have:=hW (n - 1 - c)
         rcases qh (b8 n row k v kv c).1 with z | z <;> rw [z] <;> simpa using this
       rw [e]
       omega
     · have:=ih q hq; omega
theorem pV {n:Nat} {row:List Int} {kv:List (Int × Int)} {W:Nat} (hW:∀ j q,q ∈ kv->(row.getD j 0 * q.2).natAbs<=W):∀ t,∀ q ∈ bj n row kv t,q.2.natAbs<=t * n * W
 | 0,q,hq=>nomatch hq
 | t + 1,q,hq=>by
   rw [bj] at hq
   have ih:=pV (n:=n) hW t
   have:=uh (N:=t * n * W) (W:=W) (λj=>by
     cases e:bK kv (kv.getD t (0,0)).1 with
     | none=>simp
     | some v=>
       unfold bK at e
       obtain ⟨p,h1,h2⟩:=HV.mp e
       rw [IU,<- h2]
       exact hW j p (HA h1)) ih n q hq
   rw [GK,Nat.add_mul]
   exact this
theorem ql {n b:Nat} {rs:List (List Int)} (hn:n<=7) (hl:rs.length<=7) (hr:∀ r ∈ rs,∀ x ∈ r,Bd b x):∀ i,i<=rs.length->∀ q ∈ bL n (rs.take i),Bd (1 + i * (b + 24)) q.2
 | 0,_,q,hq=>by
   cases Ff.mp hq
   unfold Bd
   rw [Nat.zero_mul]
   decide
 | i + 1,h,q,hq=>by
   have e:rs.take (i + 1)=rs.take i++[rs.getD i []]:=take_snoc _ (by omega)
   rw [e,eO] at hq
   have ih:=ql hn hl hr i (by omega)
   have hl1:=jr n rs i (by omega)
   have hl2:n ^ i<=7 ^ 7:=Fz (Nat.pow_le_pow_left hn i) (FW (by decide) (by omega))
   have:=pV (n:=n) (row:=rs.getD i []) (W:=2 ^ (b + (1 + i * (b + 24)))) (λj q hq=>by
     have h1:Bd b ((rs.getD i []).getD j 0):=by
       by_cases hj:j < (rs.getD i []).length
       · exact hr _ (bJ (by omega)) _ (bJ hj)
       · rw [getD_none (by omega)]; exact GH b
     exact GR (h1.mul (ih q hq))) _ q hq
   unfold Bd
   have e2:1 + (i + 1) * (b + 24)=(b + (1 + i * (b + 24))) + 24:=by rw [GK]; omega
   rw [e2,HH]
   have p0:=GH (b + (1 + i * (b + 24)))
   have h7:(7:Nat) ^ 7=823543:=by decide
   have:(bL n (rs.take i)).length * n<=823543 * 7:=Gr (by omega) hn
   have l2:(bL n (rs.take i)).length * n * 2 ^ (b + (1 + i * (b + 24)))<=823543 * 7 * 2 ^ (b + (1 + i * (b + 24))):=FO _ this
   have l3:823543 * 7 * 2 ^ (b + (1 + i * (b + 24))) < 2 ^ (b + (1 + i * (b + 24))) * 2 ^ 24:=by
     rw [Ij]
     exact IC (by decide) p0
   omega
noncomputable def lnR (R:List (List Int)) (ls:List Int):List (List Int):=ls.map λi=>R.getD i.toNat []
noncomputable def vMn (R:List (List Int)) (n:Nat) (ls:List Int):D:=.box (bxZ (bL n (lnR R ls)))
noncomputable def nxK (n i:Nat) (ks:List (List Int)):List (List Int):=(ks.filter λls=>decide (ls.length < n)).map λls=>ls++[(i:Int)]
noncomputable def lks (R:List (List Int)) (n:Nat):Nat->List (List Int)
 | 0=>[[]]
 | i + 1=>lks R n i++nxK n i ((mkM (vMn R n) (lks R n i)).map (·.1))
theorem sV (n i:Nat) (ks:List (List Int)):(nxK n i ks).length<=ks.length:=by
 unfold nxK
 rw [E9]
 exact Hq ..
theorem ud (R:List (List Int)) (n:Nat):∀ i,(lks R n i).length<=2 ^ i
 | 0=>Fc 1
 | i + 1=>by
   have h1:=ud R n i
   have h2:=sV n i ((mkM (vMn R n) (lks R n i)).map (·.1))
   have h3:=gc (vMn R n) (lks R n i)
   rw [E9] at h2
   rw [lks,Fw,IF]
   omega
structure Ls (n i:Nat) (ls:List Int):Prop where
 len:ls.length<=n
 at_:∀ x ∈ ls,0<=x/\x < i
theorem BK {n i:Nat} {ks:List (List Int)} (h:∀ ls ∈ ks,Ls n i ls):∀ ls ∈ nxK n i ks,Ls n (i + 1) ls:=λls hs=>by
 unfold nxK at hs
 obtain ⟨l,hl,rfl⟩:=Fj.mp hs
 rw [Hn] at hl
 have h1:=h l hl.1
 have h2:=of_decide_eq_true hl.2
 refine ⟨by rw [Fw,Jp]; omega,λx hx=>?_⟩
 rcases Fs.mp hx with hx | hx
 · have:=h1.at_ x hx; omega
 · rw [Ff.mp hx]; omega
theorem lks_ok (R:List (List Int)) (n:Nat):∀ i,∀ ls ∈ lks R n i,Ls n i ls
 | 0,ls,h=>by
   rw [Ff.mp h]
   exact ⟨FR _,λ_ z=>nomatch z⟩
 | i + 1,ls,h=>by
   have ih:=lks_ok R n i
   rcases Fs.mp h with h | h
   · have:=ih ls h
     exact ⟨this.len,λx hx=>by have:=this.at_ x hx; omega⟩
   · refine BK (λl hl=>?_) ls h
     obtain ⟨q,hq,rfl⟩:=Fj.mp hl
     exact ih _ (gh hq).1
noncomputable def gQ (P:Program) (w:World) (ds:List D) (r:Sl):Prop:=∃ (R:List (List Int)) (m n b:Nat),ds=[.lst (R.map dtR)]/\Rw m n b R/\r=.d (.box (bxW kT hdT P w (mkM (vMn R n) (lks R n m))))
theorem mn0 (R:List (List Int)) (n:Nat):mkM (vMn R n) (lks R n 0)=[([],D.box (bxZ [(0,1)]))]:=rfl
theorem yi (R:List (List Int)) (n i:Nat) (ls:List Int):vMn R n (ls++[(i:Int)])=.box (bxZ (bj n (R.getD i []) (bL n (lnR R ls)) (bL n (lnR R ls)).length)):=by
 unfold vMn
 have e:lnR R (ls++[(i:Int)])=lnR R ls++[R.getD i []]:=by unfold lnR; rw [FE]; rfl
 rw [e,eO]
theorem vX (n i:Nat) (ks:List (List Int)) (ls:List Int):nxK n i (ks++[ls])=nxK n i ks++if ls.length < n then [ls++[(i:Int)]] else []:=by
 unfold nxK
 rw [Gg,FE]
 congr 1
 by_cases h:ls.length < n
 · rw [if_pos h,Gv,if_pos (by simpa using h)]; rfl
 · rw [if_neg h,Gv,if_neg (by simpa using h)]; rfl
section
variable {P:Program} {w:World} {K:Fb} {mg:Str->Option Value} {base:Heap} {k:Nat} {f:Addr} {fd:FuncData} {qual:Str}
set_option maxHeartbeats 1000000 in
theorem qu (F:Fun K "_law_minors" qual (top 62) f fd) (hb:∀ x ∈ ai,mg x=none):aQ P w K mg base CX0 (k + 1) f fd ["_law_rows_here"] (spD K (gQ P w)):=by
 refine fnD F jA hb (by rintro _ _ ⟨_,_,_,_,rfl,_⟩; rfl) ?_
 rintro _ _ ⟨R,m,n,b0,rfl,ok,rfl⟩ cdv A outer s H E b
 have nd:=jA.nd
 have hu:(Xc P w K mg base ["_law_rows_here","_law_wide","_law_made_here","_law_i","_law_lines","_law_longer","_law_mask","_law_behind_it","_law_j","_law_key","_law_part"] qual (top 62) f cdv A outer s H E).A.units + 16 < cLine:=FQ (G1 (by decide:16<=64) _) b.room.units
 have hu1:(Xc P w K mg base ["_law_rows_here","_law_wide","_law_made_here","_law_i","_law_lines","_law_longer","_law_mask","_law_behind_it","_law_j","_law_key","_law_part"] qual (top 62) f cdv A outer s H E).A.units + 1 < cLine:=FQ (G1 (by decide:1<=64) _) b.room.units
 obtain ⟨⟨m1,m7⟩,n1,n7⟩:=And.intro ok.m1 ok.n1
 have lR:(R.map dtR).length=m:=by rw [E9,ok.len]
 have r0:(R.getD 0 []).length=n:=(ok.row _ (bJ (by rw [ok.len]; omega))).1
 have lr0:((R.getD 0 []).map D.int).length=n:=by rw [E9,r0]
 have a0:atI (R.map dtR) 0=some (dtR (R.getD 0 [])):=nW (i:=0) (by decide) (by rw [ok.len]; show 0 < m; omega)
 refine aw 1 nd (a5 b (ab (aJ (aa 0) ae (aT a0)) af) (Dh lr0)) ?_
 generalize e:Expr.Dict [some (Expr.Tuple [] 0 _)] _ _=ex
 refine aw 2 nd (s:=.x (exK kT hdT P w [([],D.box (bxZ [(0,1)]))])) ?_ ?_ (hs:=by subst e; rfl)
 · subst e
   generalize e:Expr.Dict [some (Expr.Constant _ _ _)] _ _=ex
   refine rW (a:=kT) (hd:=hdT) (key:=[]) (x:=D.box (bxZ [(0,1)])) hu ?_ ?_ (cw [])
   · show PE _ _ (dE _ _ _ (.d (.tup [])))
     exact cg af
   · subst e
     exact DG Br
 refine bu 3 (λi τ=>i<=m/\∃ s3 s4 s5 s6 s7 s8 s9 s10,τ=[.d (.lst (R.map dtR)),.d (.int n),.x (exK kT hdT P w (mkM (vMn R n) (lks R n i))),s3,s4,s5,s6,s7,s8,s9,s10]) b nd (dZ b (a5 b (ab (aa 0) af) (Dh lR)) (by omega) (by omega)) dU ⟨FR _,.un,.un,.un,.un,.un,.un,.un,.un,by rw [mn0]; rfl⟩ (λi hi τ h=>?_) λτ h=>?_
 · obtain ⟨_,s3,s4,s5,s6,s7,s8,s9,s10,rfl⟩:=h
   have hi:i < m:=by rw [aB] at hi; omega
   have hiR:i < R.length:=by rw [ok.len]; exact hi
   have hrow:=ok.row _ (bJ (d:=[]) hiR)
   have aRi:atI (R.map dtR) (i:Int)=some (dtR (R.getD i [])):=nW (i:=(i:Int)) (by omega) (by omega)
   have kl:=gc (vMn R n) (lks R n i)
   have ll:=ud R n i
   have p2:2 ^ i<=2 ^ 7:=FW (by decide) (by omega)
   have hks:∀ ls ∈ (mkM (vMn R n) (lks R n i)).map (·.1),ls ∈ lks R n i:=λls h=>by
     obtain ⟨q,hq,rfl⟩:=Fj.mp h
     exact (gh hq).1
   have lkl:((mkM (vMn R n) (lks R n i)).map (·.1)).length<=128:=by rw [E9]; omega
   have eL:lks R n (i + 1)=lks R n i++nxK n i ((mkM (vMn R n) (lks R n i)).map (·.1)):=rfl
   have em:(mkM (vMn R n) (lks R n i)).map (λp=>kT.toD p.1)=((mkM (vMn R n) (lks R n i)).map (·.1)).map kT.toD:=by rw [Fx]; rfl
   refine bu 4 (g:=λl=>kT.toD (((mkM (vMn R n) (lks R n i)).map (·.1)).getD l [])) (λl τ=>∃ s4 s5 s6 s7 s8 s9 s10,τ=[.d (.lst (R.map dtR)),.d (.int n),.x (exK kT hdT P w (mkM (vMn R n) (lks R n i++nxK n i (((mkM (vMn R n) (lks R n i)).map (·.1)).take l)))),.d (.int (i:Nat)),s4,s5,s6,s7,s8,s9,s10]) b nd (em ▸ aU (a4 (zm 2 (a:=kT) (hd:=hdT) b rfl (Fz kl (Fz ll (Fz p2 (by decide))))))) (a9 (f:=kT.toD) []) ⟨s4,s5,s6,s7,s8,s9,s10,by rw [List.take_zero]; show _=[_,_,Sl.x (exK kT hdT P w (mkM (vMn R n) (lks R n i++[]))),_,_,_,_,_,_,_,_]; rw [Gh]; rfl⟩ (λl hl τ h=>?_) λτ h=>?_
   · obtain ⟨s4,s5,s6,s7,s8,s9,s10,rfl⟩:=h
     generalize (mkM (vMn R n) (lks R n i)).map (·.1)=ks at hl hks lkl
     have hl:l < ks.length:=by simpa using hl
     have hs:=hks _ (bJ (d:=[]) hl)
     have es:ks.take (l + 1)=ks.take l++[ks.getD l []]:=take_snoc _ hl
     rw [es,vX]
     generalize ks.getD l []=ls at hs
     have okl:=lks_ok R n i ls hs
     have nl:=sV n i (ks.take l)
     rw [FI] at nl
     generalize nxK n i (ks.take l)=nx at nl
     have gK:getM (mkM (vMn R n) (lks R n i++nx)) ls=some (.box (bxZ (bL n (lnR R ls)))):=dh (v:=vMn R n) (FD _ hs)
     have ml:=gc (vMn R n) (lks R n i++nx)
     rw [Fw] at ml
     have lnl:(lnR R ls).length=ls.length:=by unfold lnR; rw [E9]
     have RIk:=iT n (lnR R ls)
     have kvl:=jr n (lnR R ls) _ (Fc _)
     have kvb:=ql (n:=n) (b:=b0) (rs:=lnR R ls) n7 (by have:=okl.len; omega) (λr hr x hx=>by
       unfold lnR at hr
       obtain ⟨y,hy,rfl⟩:=Fj.mp hr
       have:=okl.at_ y hy
       exact (ok.row _ (bJ (by rw [ok.len]; omega))).2 x hx) _ (Fc _)
     rw [FC (Fc _)] at kvl kvb
     have kv7:n ^ (lnR R ls).length<=7 ^ 7:=Fz (Nat.pow_le_pow_left n7 _) (FW (by decide) (by have:=okl.len; omega))
     have h77:(7:Nat) ^ 7=823543:=by decide
     have vS:=yi R n i ls
     generalize bL n (lnR R ls)=kv at gK RIk kvl kvb vS
     generalize hRow:R.getD i []=row at hrow aRi vS
     refine aw 5 nd CV ?_
     refine bu 6 (g:=λt=>.int (kv.getD t (0,0)).1) (λt τ=>∃ s6 s7 s8 s9 s10,τ=[.d (.lst (R.map dtR)),.d (.int n),.x (exK kT hdT P w (mkM (vMn R n) (lks R n i++nx))),.d (.int (i:Nat)),.d (kT.toD ls),.x (exZ (bj n row kv t)),s6,s7,s8,s9,s10]) b nd (yv (rB 2 (a:=kT) (hd:=hdT) (key:=ls) hu rfl (aa 4) gK (cw _) eK)) zu ⟨s6,s7,s8,s9,s10,rfl⟩ (λt ht τ z=>?_) λτ z=>?_
     · obtain ⟨s6,s7,s8,s9,s10,rfl⟩:=z
       have ht:t < kv.length:=by simpa using ht
       have hq:kv.getD t (0,0) ∈ kv:=bJ ht
       have hg:bK kv (kv.getD t (0,0)).1=some (kv.getD t (0,0)).2:=qL RIk.nd hq
       have hv:=kvb _ hq
       have hml:=i5 n row kv t
       have hml2:t * n<=823543 * 7:=Gr (by omega) n7
       have eM:bj n row kv (t + 1)=(b8 n row (kv.getD t (0,0)).1 (kv.getD t (0,0)).2 (bj n row kv t) n).2:=by rw [bj,hg]; rfl
       rw [eM]
       generalize bj n row kv t=lk at hml
       generalize (kv.getD t (0,0)).1=mk at hg
       generalize (kv.getD t (0,0)).2=v at hg hv
       refine aw 7 nd ae ?_
       refine bu 8 (g:=λc=>.int ((n - 1 - c:Nat):Int)) (λc τ=>∃ s8 s9 s10,τ=[.d (.lst (R.map dtR)),.d (.int n),.x (exK kT hdT P w (mkM (vMn R n) (lks R n i++nx))),.d (.int (i:Nat)),.d (kT.toD ls),.x (exZ (b8 n row mk v lk c).2),.d (.int mk),.d (.int (b8 n row mk v lk c).1),s8,s9,s10]) b nd (E3 (n:=n) b (aa 1) (by omega)) Eu ⟨s8,s9,s10,rfl⟩ (λc hc τ z=>?_) λτ z=>?_
       · obtain ⟨s8,s9,s10,rfl⟩:=z
         have hc:c < n:=by rw [ir] at hc; exact hc
         have hcl:=kE n row mk v lk c
         have hj:n - 1 - c < row.length:=by rw [hrow.1]; omega
         have eC:b8 n row mk v lk (c + 1)=kf row mk v (n - 1 - c) (b8 n row mk v lk c):=rfl
         rw [eC]
         generalize b8 n row mk v lk c=st at hcl
         generalize n - 1 - c=j at hj
         have j7:j < 7:=by have:=hrow.1; omega
         refine ja (M:=λτ=>∃ s8 s9 s10,τ=[.d (.lst (R.map dtR)),.d (.int n),.x (exK kT hdT P w (mkM (vMn R n) (lks R n i++nx))),.d (.int (i:Nat)),.d (kT.toD ls),.x (exZ (kf row mk v j st).2),.d (.int mk),.d (.int (kf row mk v j st).1),s8,s9,s10]) (aS (ax (ax (aa 6) (aa 8) (Az (by omega))) ae DI) ae de) (λz=>?_) (λz=>?_) λτ z=>by
           obtain ⟨s8,s9,s10,rfl⟩:=z
           exact aM ⟨s8,s9,s10,rfl⟩
         · have z:rq mk j=true:=by
             unfold rq
             rw [Fq] at z
             exact z
           have e:kf row mk v j st=(st.1 + 1,st.2):=by unfold kf; rw [if_pos z]
           rw [e]
           exact aw 7 nd (ax (aa 7) ae a7) (aM ⟨_,_,_,rfl⟩)
         · have z:rq mk j=false:=by
             unfold rq
             rw [Fq] at z
             exact z
           have e:kf row mk v j st=(st.1,ft st.2 (lO mk j) ((bK st.2 (lO mk j)).getD 0 + sgZ st.1 * row.getD j 0 * v)):=by unfold kf; rw [if_neg (by rw [z]; decide)]
           have hx:Bd b0 (row.getD j 0):=hrow.2 _ (bJ hj)
           have s2:aD (row.getD j 0) v:=hx.aD hv (by have:=ok.b1; omega) (by
             have:=ok.b1
             have:(lnR R ls).length * (b0 + 24)<=7 * (b0 + 24):=FO _ (by have:=okl.len; omega)
             omega)
           rw [e]
           refine aw 9 nd (ax (aa 6) (ax ae (aa 8) (D5 ⟨by omega,by omega,by decide⟩)) EH) ?_
           rw [Fq]
           show PSs _ _ (dS K [.d (.lst (R.map dtR)),.d (.int n),.x (exK kT hdT P w (mkM (vMn R n) (lks R n i++nx))),.d (.int (i:Nat)),.d (kT.toD ls),.x (exZ st.2),.d (.int mk),.d (.int st.1),.d (.int (j:Nat)),.d (.int (lO mk j)),_] _)
           refine aw 10 nd (ax (aJ (aJ (aa 0) (aa 3) (aT aRi)) (aa 8) (aT (atR hj))) (BD hu1 (rB 2 (a:=kT) (hd:=hdT) (key:=ls) hu rfl (aa 4) gK (cw _) eK) (aa 6) hg eK) (aX s2)) ?_
           refine ja (M:=λτ=>τ=[.d (.lst (R.map dtR)),.d (.int n),.x (exK kT hdT P w (mkM (vMn R n) (lks R n i++nx))),.d (.int (i:Nat)),.d (kT.toD ls),.x (exZ st.2),.d (.int mk),.d (.int st.1),.d (.int (j:Nat)),.d (.int (lO mk j)),.d (.int (sgZ st.1 * row.getD j 0 * v))]) (aS (ax (aa 7) ae (ba (by decide))) ae de) (λz=>?_) (λz=>?_) λτ z=>?_
           · have z:=of_decide_eq_true z
             have e2:sgZ st.1=-1:=by unfold sgZ; rw [z]; rfl
             rw [e2,KY,Int.neg_mul,Int.one_mul]
             exact aw 10 nd (iD (aa 10)) (aM rfl)
           · have z:=of_decide_eq_false z
             have e2:sgZ st.1=1:=by
               rcases qh st.1 with h | h
               · exact h
               · unfold sgZ at h; omega
             rw [e2,Int.one_mul]
             exact aM rfl
           · rw [z]
             refine AX 5 hu1 rfl (aa 9) (ax (zo 5 hu1 rfl (aa 9) ae) (aa 10) a7) ?_ (aM ⟨_,_,_,rfl⟩)
             have:sizeLine > 10000000:=by decide
             omega
       · obtain ⟨s8,s9,s10,rfl⟩:=z
         rw [ir]
         exact aM ⟨_,_,_,_,_,rfl⟩
     · obtain ⟨s6,s7,s8,s9,s10,rfl⟩:=z
       rw [E9]
       refine C5 5 ?_
       refine ja (M:=λτ=>∃ s4 s5 s6 s7 s8 s9 s10,τ=[.d (.lst (R.map dtR)),.d (.int n),.x (exK kT hdT P w (mkM (vMn R n) (lks R n i++(nx++if ls.length < n then [ls++[(i:Int)]] else [])))),.d (.int (i:Nat)),s4,s5,s6,s7,s8,s9,s10]) (aS (a5 b (ab (aa 4) af) iO) (aa 1) kc) (λz=>?_) (λz=>?_) λτ z=>aM z
       · have z:=of_decide_eq_true z
         rw [E9] at z
         rw [if_pos (by omega),<- GB,fQ,vS]
         refine nK 2 (a:=kT) (hd:=hdT) (key:=ls++[(i:Int)]) hu rfl ?_ (aa 5) (Fz ml ?_) (cw _) (aM ⟨_,_,_,_,_,_,_,rfl⟩)
         · have e:kT.toD (ls++[(i:Int)])=.tup (ls.map D.int++[.int (i:Nat)]):=by show D.tup ((ls++[(i:Int)]).map D.int)=_; rw [FE]; rfl
           rw [e]
           exact ax (aa 4) (cg (ab (aa 3) af)) (rQ (by rw [E9]; have:=okl.len; show _ + 1 < _; omega))
         · have:sizeLine > 10000000:=by decide
           omega
       · have z:=of_decide_eq_false z
         rw [E9] at z
         rw [if_neg (by omega),Gh]
         exact aM ⟨_,_,_,_,_,_,_,rfl⟩
   · obtain ⟨s4,s5,s6,s7,s8,s9,s10,rfl⟩:=h
     refine aM ⟨hi,.d (.int (i:Nat)),s4,s5,s6,s7,s8,s9,s10,?_⟩
     rw [eL,E9,FC (Fc _)]
 · obtain ⟨_,s3,s4,s5,s6,s7,s8,s9,s10,rfl⟩:=h
   refine AJ 2 (a:=kT) (hd:=hdT) (aF (aa 2) ?_)
   rw [aB,Fq]
   rfl
end
noncomputable def sg1 (x:Int):Int:=if 0 < x then 1 else if x < 0 then -1 else 0
noncomputable def lsV (a:Int) (kv:List (Int × Int)):Int:=kv.foldl (λa p=>min a (sg1 p.2)) a
noncomputable def lsA (R:List (List Int)) (n:Nat) (a:Int) (ks:List (List Int)):Int:=ks.foldl (λa ls=>lsV a (bL n (lnR R ls))) a
theorem yo (a:Int) (kv:List (Int × Int)) (p:Int × Int):lsV a (kv++[p])=min (lsV a kv) (sg1 p.2):=by unfold lsV; rw [GA]; rfl
theorem wR (R:List (List Int)) (n:Nat) (a:Int) (ks:List (List Int)) (ls:List Int):lsA R n a (ks++[ls])=lsV (lsA R n a ks) (bL n (lnR R ls)):=by unfold lsA; rw [GA]; rfl
noncomputable def cT (ds:List D) (r:Sl):Prop:=∃ (R:List (List Int)) (m n b:Nat),ds=[.lst (R.map dtR)]/\Rw m n b R/\r=.d (.int (lsA R n 1 ((mkM (vMn R n) (lks R n m)).map (·.1))))
theorem yR {m:List (Int × Int)}:∀ i (h:i < (m.map λp=>D.int p.2).length),(m.map λp=>D.int p.2)[i]=.int (m.getD i (0,0)).2:=λi h=>by
 have:i < m.length:=by simpa using h
 simp [this]
section
variable {P:Program} {w:World} {K:Fb} {mg:Str->Option Value} {base:Heap} {k:Nat} {f:Addr} {fd:FuncData} {qual:Str}
set_option maxHeartbeats 1000000 in
theorem jM (F:Fun K "_law_least_sign" qual (top 63) f fd) (hb:∀ x ∈ ai,mg x=none) (c_l_minors:Cal P w K mg base k "_law_minors" (gQ P w)):aQ P w K mg base CX0 (k + 1) f fd ["_law_rows_here"] (spD K cT):=by
 refine fnD F fg hb (by rintro _ _ ⟨_,_,_,_,rfl,_⟩; rfl) ?_
 rintro _ _ ⟨R,m,n,b0,rfl,ok,rfl⟩ cdv A outer s H E b
 have nd:=fg.nd
 have hu:(Xc P w K mg base ["_law_rows_here","_law_least","_law_made_here","_law_lines","_law_worth"] qual (top 63) f cdv A outer s H E).A.units + 16 < cLine:=FQ (G1 (by decide:16<=64) _) b.room.units
 refine aw 1 nd ae ?_
 refine aw 2 nd (x_call b c_l_minors (ab (aa 0) af) ⟨R,m,n,b0,rfl,ok,rfl⟩) ?_
 have hall:∀ ls ∈ (mkM (vMn R n) (lks R n m)).map (·.1),getM (mkM (vMn R n) (lks R n m)) ls=some (.box (bxZ (bL n (lnR R ls)))):=λls h=>by
   obtain ⟨q,hq,rfl⟩:=Fj.mp h
   exact dh (v:=vMn R n) (gh hq).1
 generalize hks:(mkM (vMn R n) (lks R n m)).map (·.1)=ks at hall
 have em:(mkM (vMn R n) (lks R n m)).map (λp=>kT.toD p.1)=ks.map kT.toD:=by rw [<- hks,Fx]; rfl
 refine bu 3 (g:=λi=>kT.toD (ks.getD i [])) (λi τ=>∃ s3 s4,τ=[.d (.lst (R.map dtR)),.d (.int (lsA R n 1 (ks.take i))),.d (.box (bxW kT hdT P w (mkM (vMn R n) (lks R n m)))),s3,s4]) b nd (em ▸ tX (aa 2)) (a9 (f:=kT.toD) (xs:=ks) []) ⟨.un,.un,rfl⟩ (λi hi τ h=>?_) λτ h=>?_
 · obtain ⟨s3,s4,rfl⟩:=h
   have hi:i < ks.length:=by simpa using hi
   have gK:=hall _ (bJ (d:=[]) hi)
   have es:ks.take (i + 1)=ks.take i++[ks.getD i []]:=take_snoc _ hi
   rw [es,wR]
   generalize ks.getD i []=ls at gK
   generalize lsA R n 1 (ks.take i)=a0
   generalize bL n (lnR R ls)=kv at gK
   refine bu 4 (g:=λt=>.int (kv.getD t (0,0)).2) (λt τ=>∃ s4,τ=[.d (.lst (R.map dtR)),.d (.int (lsV a0 (kv.take t))),.d (.box (bxW kT hdT P w (mkM (vMn R n) (lks R n m)))),.d (kT.toD ls),s4]) b nd (zF (wo (a:=kT) (hd:=hdT) (key:=ls) hu (aa 2) (aa 3) gK (cw _) eK)) yR ⟨s4,rfl⟩ (λt ht τ z=>?_) λτ z=>?_
   · obtain ⟨s4,rfl⟩:=z
     have ht:t < kv.length:=by simpa using ht
     have es:kv.take (t + 1)=kv.take t++[kv.getD t (0,0)]:=take_snoc _ ht
     rw [es,yo]
     generalize (kv.getD t (0,0)).2=x
     refine aw 1 nd (a5 b (ab (aa 1) (ab (ax (kS b (ab (cG (aa 4) ae pU) af) ku) (kS b (ab (cG (aa 4) ae kc) af) ku) cF) af)) (px b.calm)) (aM ⟨.d (.int x),?_⟩)
     have e:(if ((if decide (x > 0)=true then (1:Int) else 0) - (if decide (x < 0)=true then (1:Int) else 0)) < lsV a0 (kv.take t) then ((if decide (x > 0)=true then (1:Int) else 0) - (if decide (x < 0)=true then (1:Int) else 0)) else lsV a0 (kv.take t))=min (lsV a0 (kv.take t)) (sg1 x):=by
       have e1:((if decide (x > 0)=true then (1:Int) else 0) - (if decide (x < 0)=true then (1:Int) else 0))=sg1 x:=by
         unfold sg1
         simp only [decide_eq_true_eq]
         split <;> split <;> (try split) <;> omega
       rw [e1]
       split <;> omega
     exact congrArg (λy=>[Sl.d (.lst (R.map dtR)),Sl.d (.int y),Sl.d (.box (bxW kT hdT P w (mkM (vMn R n) (lks R n m)))),Sl.d (kT.toD ls),Sl.d (.int x)]) e
   · obtain ⟨s4,rfl⟩:=z
     refine aM ⟨.d (kT.toD ls),s4,?_⟩
     rw [E9,FC (Fc _)]
 · obtain ⟨s3,s4,rfl⟩:=h
   refine aF (aa 1) ?_
   rw [E9,FC (Fc _)]
end
theorem sC {f:List Int->Int} {row c:List Int} {g:Nat->Rat} {m:Nat} (hl:c.length=m + 1) (hg:∀ k,k < m + 1->((alP f row c k:Int):Rat)=g k):∀ k,k<=m + 1->((alS f row c k:Int):Rat)=aA (λk=>sgn (m - k) * g k) k
 | 0,_=>rfl
 | k + 1,h=>by
   have ih:=sC hl hg k (by omega)
   rw [alS,aA,<- ih,<- hg k (by omega),hl]
   unfold sgn
   rw [FU _ (by decide)]
   by_cases z:(m - k) % 2=0
   · rw [if_pos z,if_neg (by omega),Iu,Gx]
   · rw [if_neg z,if_pos (by omega),Ko,JQ,Rat.neg_mul,Gx]
theorem qG {M M':Nat->Nat->Rat} {L:List Nat} (h:∀ r,r < L.length->∀ j,M r j=M' r j):dn M L=dn M' L:=by
 unfold dn
 exact aO λr hr q _=>h r hr _
theorem wd (R:List (List Int)) (ls:List Int) (t r j:Nat) (h:r < t):dtM (lnR R (ls.take t)) r j=dtM (lnR R ls) r j:=by
 have e:(lnR R (ls.take t)).getD r []=(lnR R ls).getD r []:=by
   unfold lnR
   rw [HL,Fm,Fm,KG h]
 unfold dtM
 rw [e]
theorem t8 (c:List Int) (k:Nat):(ers c k).map Hs=(c.map Hs).eraseIdx k:=by
 unfold ers
 rw [List.eraseIdx_eq_take_drop_succ,FE,HL,KL]
theorem jR (R:List (List Int)):∀ (t:Nat) (ls c:List Int),ls.length=t->c.length=t->((dtm R t ls c:Int):Rat)=dn (dtM (lnR R ls)) (c.map Hs)
 | 0,ls,c,_,hc=>by
   cases HM.mp hc
   rfl
 | t + 1,ls,c,hl,hc=>by
   have hL:(c.map Hs).length=t + 1:=by rw [E9,hc]
   rw [kB hL,dtm]
   unfold alR
   rw [hc]
   have:=sC (f:=dtm R t (ls.take t)) (row:=R.getD (gj ls).toNat []) (c:=c) (g:=λk=>dtM (lnR R ls) t ((c.map Hs).getD k 0) * dn (dtM (lnR R ls)) ((c.map Hs).eraseIdx k)) hc (λk hk=>by
     unfold alP
     have e1:(c.map Hs).getD k 0=(c.getD k 0).toNat:=by simp [show k < c.length by omega]
     have e2:(lnR R ls).getD t []=R.getD (gj ls).toNat []:=by
       unfold lnR gj
       rw [hl]
       simp [show t < ls.length by omega]
     have l2:(ers c k).length=t:=by
       have:=congrArg Kk (t8 c k)
       rw [E9,Gm (by omega),hL] at this
       exact this
     rw [FZ,jR R t (ls.take t) (ers c k) (by rw [FI,hl]; omega) l2,t8]
     rw [e1]
     have e3:dtM (lnR R ls) t (c.getD k 0).toNat=(((R.getD (gj ls).toNat []).getD (c.getD k 0).toNat 0:Int):Rat):=by unfold dtM; rw [e2]
     rw [e3]
     refine congrArg _ (qG λr hr j=>wd R ls t r j ?_)
     rw [Gm (by omega),hL] at hr
     omega) (t + 1) (Fc _)
   rw [this]
   refine az λk hk=>?_
   rw [GN]
section
variable {P:Program} {w:World} {K:Fb} {mg:Str->Option Value} {base:Heap} {k:Nat} {f:Addr} {fd:FuncData} {qual:Str}
end
noncomputable def lkP (n:Nat):Nat->List (List Int)
 | 0=>[[]]
 | i + 1=>lkP n i++nxK n i (lkP n i)
theorem gZ {κ:Type} [DecidableEq κ] {v:κ->D} {ks:List κ} {k:κ}:k ∈ (mkM v ks).map (·.1) ↔ k ∈ ks:=by
 constructor
 · intro h
   obtain ⟨q,hq,rfl⟩:=Fj.mp h
   exact (gh hq).1
 · intro h
   exact Fj.mpr ⟨_,lJ (dh (v:=v) h),rfl⟩
theorem t5 {n i:Nat} {ks:List (List Int)} {ls:List Int}:ls ∈ nxK n i ks ↔ ∃ l,l ∈ ks/\l.length < n/\l++[(i:Int)]=ls:=by
 unfold nxK
 rw [Fj]
 constructor
 · rintro ⟨l,h,e⟩
   rw [Hn] at h
   exact ⟨l,h.1,of_decide_eq_true h.2,e⟩
 · rintro ⟨l,h,z,e⟩
   exact ⟨l,Hn.mpr ⟨h,decide_eq_true z⟩,e⟩
theorem m9 (R:List (List Int)) (n:Nat):∀ i (ls:List Int),ls ∈ lks R n i ↔ ls ∈ lkP n i
 | 0,_=>Iff.rfl
 | i + 1,ls=>by
   have ih:=m9 R n i
   rw [lks,lkP,Fs,Fs,t5,t5,ih]
   refine or_congr Iff.rfl (exists_congr λl=>?_)
   rw [gZ,ih]
theorem Bo:∀ n,n < 8->∀ m,m < 8->(((lkP n m).all λls=>(chs m ls.length).contains ls && decide (ls.length<=min m n)) && (Fd (min m n + 1)).all λt=>(chs m t).all λls=>(lkP n m).contains ls)=true:=by decide +kernel
theorem Cj:∀ n,n < 8->(((Fd (2 ^ n)).all λS=>(chs n (cols n S).length).contains ((cols n S).map Ku)) && (Fd 8).all λt=>(chs n t).all λc=>(Fd (2 ^ n)).any λS=>decide (cols n S=c.map Hs))=true:=by decide +kernel
theorem jT {m n k:Nat} {ls c:List Int}:(ls,c) ∈ kys m n k ↔ ∃ s,s < k/\ls ∈ chs m (s + 1)/\c ∈ chs n (s + 1):=by
 unfold kys ky1
 constructor
 · intro h
   obtain ⟨s,hs,h⟩:=G7.mp h
   obtain ⟨l,hl,h⟩:=G7.mp h
   obtain ⟨d,hd,e⟩:=Fj.mp h
   cases e
   exact ⟨s,FN.mp hs,hl,hd⟩
 · rintro ⟨s,hs,h1,h2⟩
   exact G7.mpr ⟨s,FN.mpr hs,G7.mpr ⟨ls,h1,Fj.mpr ⟨c,h2,rfl⟩⟩⟩
theorem x9 {x y:Int} (h:(x:Rat)=(y:Rat)):x=y:=by exact_mod_cast h
theorem pG {R:List (List Int)} {m n b:Nat} (ok:Rw m n b R) {t:Int} (ht:t<=1):(∀ p ∈ kys m n (min m n),t<=vD R p) ↔ ∀ ls ∈ lks R n m,∀ q ∈ bL n (lnR R ls),t<=q.2:=by
 have m7:=ok.m1.2
 have n7:=ok.n1.2
 have f1:=Bool.and_eq_true_iff.mp (Bo n (by omega) m (by omega))
 have f2:=Bool.and_eq_true_iff.mp (Cj n (by omega))
 constructor
 · intro h ls hls q hq
   have hP:=F1.mp f1.1 ls ((m9 R n m ls).mp hls)
   rw [F2] at hP
   have hc:ls ∈ chs m ls.length:=by simpa using hP.1
   have hl:=of_decide_eq_true hP.2
   have RIk:=iT n (lnR R ls)
   have lnl:(lnR R ls).length=ls.length:=by unfold lnR; rw [E9]
   rw [lnl] at RIk
   obtain ⟨S,e1,e2,e3⟩:=RIk.key q.1 (Fj.mpr ⟨q,hq,rfl⟩)
   have hg:=qL RIk.nd hq
   have hv:=(RIk.all S e2 e3).2
   unfold gv at hv
   rw [<- e1,hg,IU] at hv
   have hcc:(cols n S).map Ku ∈ chs n ls.length:=by
     have:=F1.mp f2.1 S (FN.mpr e2)
     rw [e3] at this
     simpa using this
   have et:((cols n S).map Ku).map Hs=cols n S:=by
     rw [Fx]
     exact (F6 λx _=>rfl).trans (List.map_id _)
   have hd:=jR R ls.length ls ((cols n S).map Ku) rfl (by rw [E9,e3])
   rw [et,<- hv] at hd
   have e:=x9 hd
   rw [<- e]
   cases hl0:ls.length with
   | zero=>exact ht
   | succ s=>
     have:=h (ls,(cols n S).map Ku) (jT.mpr ⟨s,by omega,by rw [<- hl0]; exact hc,by rw [<- hl0]; exact hcc⟩)
     unfold vD at this
     rw [hl0] at this
     exact this
 · rintro h ⟨ls,c⟩ hp
   obtain ⟨s,hs,h1,h2⟩:=jT.mp hp
   have l1:=(bI m _ ls h1).len
   have l2:=(bI n _ c h2).len
   have hls:ls ∈ lks R n m:=(m9 R n m ls).mpr (by
     have:=F1.mp (F1.mp f1.2 (s + 1) (FN.mpr (by omega))) ls h1
     simpa using this)
   obtain ⟨S,hS,eS⟩:=List.any_eq_true.mp (F1.mp (F1.mp f2.2 (s + 1) (FN.mpr (by omega))) c h2)
   have eS:=of_decide_eq_true eS
   have RIk:=iT n (lnR R ls)
   have lnl:(lnR R ls).length=ls.length:=by unfold lnR; rw [E9]
   rw [lnl,l1] at RIk
   obtain ⟨a1,a2⟩:=RIk.all S (FN.mp hS) (by rw [eS,E9,l2])
   have hd:=jR R (s + 1) ls c l1 l2
   rw [<- eS,<- a2] at hd
   unfold gv at hd
   have e:=x9 hd
   show t<=dtm R ls.length ls c
   rw [l1,e]
   cases hg:bK (bL n (lnR R ls)) (S:Int) with
   | none=>exact absurd hg a1
   | some v=>
     rw [IU]
     unfold bK at hg
     obtain ⟨p,h3,h4⟩:=HV.mp hg
     rw [<- h4]
     exact h ls hls p (HA h3)
section
variable {P:Program} {w:World} {K:Fb} {mg:Str->Option Value} {base:Heap} {k:Nat} {f:Addr} {fd:FuncData} {qual:Str}
end
theorem wg {t:Int}:∀ (kv:List (Int × Int)) (a:Int),t<=lsV a kv ↔ t<=a/\∀ q ∈ kv,t<=sg1 q.2
 | [],a=>by simp [lsV]
 | p :: kv,a=>by
   have ih:=wg (t:=t) kv (min a (sg1 p.2))
   show t<=lsV (min a (sg1 p.2)) kv ↔ _
   rw [ih]
   constructor
   · rintro ⟨h1,h2⟩
     exact ⟨by omega,λq hq=>by
       rcases Fv.mp hq with rfl | hq
       · omega
       · exact h2 q hq⟩
   · rintro ⟨h1,h2⟩
     have:=h2 p (Fi ..)
     exact ⟨by omega,λq hq=>h2 q (Fh _ hq)⟩
theorem xT {R:List (List Int)} {n:Nat} {t:Int}:∀ (ks:List (List Int)) (a:Int),t<=lsA R n a ks ↔ t<=a/\∀ ls ∈ ks,∀ q ∈ bL n (lnR R ls),t<=sg1 q.2
 | [],a=>by simp [lsA]
 | ls :: ks,a=>by
   have ih:=xT (R:=R) (n:=n) (t:=t) ks (lsV a (bL n (lnR R ls)))
   show t<=lsA R n (lsV a (bL n (lnR R ls))) ks ↔ _
   rw [ih,wg]
   constructor
   · rintro ⟨⟨h1,h2⟩,h3⟩
     exact ⟨h1,λl hl=>by
       rcases Fv.mp hl with rfl | hl
       · exact h2
       · exact h3 l hl⟩
   · rintro ⟨h1,h2⟩
     exact ⟨⟨h1,h2 ls (Fi ..)⟩,λl hl=>h2 l (Fh _ hl)⟩
theorem yq {t x:Int} (h:t=0\/t=1):t<=sg1 x ↔ t<=x:=by
 unfold sg1
 split
 · omega
 · split <;> omega
theorem wz {R:List (List Int)} {m n b:Nat} (ok:Rw m n b R) {t:Int} (h:t=0\/t=1):(fuO R m n t).isNone=decide (t<=lsA R n 1 ((mkM (vMn R n) (lks R n m)).map (·.1))):=by
 have e:(fuO R m n t).isNone=true ↔ t<=lsA R n 1 ((mkM (vMn R n) (lks R n m)).map (·.1)):=by
   rw [Option.isNone_iff_eq_none,yO,pG ok (by omega),xT]
   constructor
   · intro z
     exact ⟨by omega,λls hl q hq=>(yq h).mpr (z ls (gZ.mp hl) q hq)⟩
   · rintro ⟨_,z⟩ ls hl q hq
     exact (yq h).mp (z ls (gZ.mpr hl) q hq)
 by_cases z:t<=lsA R n 1 ((mkM (vMn R n) (lks R n m)).map (·.1))
 · rw [decide_eq_true z,e.mpr z]
 · rw [decide_eq_false z]
   cases hh:(fuO R m n t).isNone with
   | false=>rfl
   | true=>exact absurd (e.mp hh) z
section
variable {P:Program} {w:World} {K:Fb} {mg:Str->Option Value} {base:Heap} {k:Nat} {f:Addr} {fd:FuncData} {qual:Str}
end
theorem DL:∀ n,n < 8->∀ t,t < 8->((chs n t).all λc=>(Fd (t - 1)).all λi=>decide (c.getD i 0 < c.getD (i + 1) 0))=true:=by decide +kernel
theorem AE {R:List (List Int)} {ls c:List Int} {t:Nat} (hl:ls.length=t) (hc:c.length=t):((vD R (ls,c):Int):Rat)=mi (dtM R) t (λr=>(ls.getD r 0).toNat) (λj=>(c.getD j 0).toNat):=by
 unfold vD
 show ((dtm R ls.length ls c:Int):Rat)=_
 rw [jR R ls.length ls c rfl (by omega)]
 unfold dn mi
 rw [E9,hc]
 refine aO λi hi j hj=>?_
 unfold dtM lnR
 have e1:(ls.map λi=>R.getD i.toNat []).getD i []=R.getD (ls.getD i 0).toNat []:=by simp [show i < ls.length by omega]
 have e2:(c.map Hs).getD j 0=(c.getD j 0).toNat:=by simp [show j < c.length by omega]
 rw [e1,e2]
theorem ui {n t:Nat} (hn:n<=7) (ht:t<=7) {c:List Int} (h:c ∈ chs n t):Inc t λi=>(c.getD i 0).toNat:=λi hi=>by
 have u:=F1.mp (F1.mp (DL n (by omega) t (by omega)) c h) i (FN.mpr (by omega))
 have u:=of_decide_eq_true u
 have:=((bI n t c h).at_ i (by omega)).1
 show (c.getD i 0).toNat < (c.getD (i + 1) 0).toNat
 omega
theorem ya {M:List (List Rat)} {ss:List Int} {i j:Nat} (hi:i < M.length) (hj:j < (M.getD i []).length):((whM M ss).getD i []).getD j 0=((M.getD i []).getD j 0).num * (ss.getD i 0 / (((M.getD i []).getD j 0).den:Nat)):=by
 have e:(whM M ss).getD i []=whR (M.getD i []) (ss.getD i 0):=by unfold whM; simp [hi]
 rw [e]
 unfold whR
 rw [Fm,FL,Fe hj,Fm (l:=M.getD i []),Fe hj]
 rfl
noncomputable def kcd (p:List Int × List Int):List Int:=(p.1.length:Int) :: (p.1++p.2)
noncomputable def ltP (p q:List Int × List Int):Bool:=ltI (kcd p) (kcd q)
theorem t4:∀ n,n < 8->∀ t,t < 8->(chs n t).Pairwise λa b=>ltI a b=true:=by decide +kernel
theorem nQ {α β:Type} {r:β->β->Prop} {f:α->List β}:∀ {xs:List α},(∀ x ∈ xs,(f x).Pairwise r)->(xs.Pairwise λa b=>∀ y ∈ f a,∀ z ∈ f b,r y z)->(xs.flatMap f).Pairwise r
 | [],_,_=>Kt
 | x :: xs,h,p=>by
   rw [List.flatMap_cons]
   obtain ⟨p1,p2⟩:=List.pairwise_cons.mp p
   refine List.pairwise_append.mpr ⟨h x (Fi ..),nQ (λy hy=>h y (Fh _ hy)) p2,λy hy z hz=>?_⟩
   obtain ⟨a,ha,hz⟩:=G7.mp hz
   exact p1 a ha y hy z hz
theorem y4 {m n k:Nat} (hm:m<=7) (hn:n<=7) (hk:k<=7):(kys m n k).Pairwise λp q=>ltP p q=true:=by
 unfold kys
 refine nQ (λt ht=>?_) ?_
 · have ht:t < k:=FN.mp ht
   refine nQ (λls hls=>?_) ((t4 m (by omega) (t + 1) (by omega)).imp_of_mem λ{a b} ha hb h y hy z hz=>?_)
   · unfold ky1
     refine List.pairwise_map.mpr ((t4 n (by omega) (t + 1) (by omega)).imp λ{a b} h=>?_)
     show ltI ([(ls.length:Int)]++(ls++a)) ([(ls.length:Int)]++(ls++b))=true
     rw [oy,oy]
     exact h
   · unfold ky1 at hy hz
     obtain ⟨c,_,rfl⟩:=Fj.mp hy
     obtain ⟨c',_,rfl⟩:=Fj.mp hz
     have la:=(bI m _ a ha).len
     have lb:=(bI m _ b hb).len
     have hab:a ≠ b:=λz=>by rw [z,nL] at h; cases h
     obtain ⟨i,x,y,h1,h2,h3,h4⟩:=sI (by rw [la,lb]) hab
     have hl:=oz h1 h2 h3 h4
     rw [h] at hl
     have il:i < a.length:=(Fn.mp h1).1
     unfold ltP kcd
     show ltI ((a.length:Int) :: (a++c)) ((b.length:Int) :: (b++c'))=true
     rw [la,lb]
     show ltI ([((t + 1:Nat):Int)]++(a++c)) ([((t + 1:Nat):Int)]++(b++c'))=true
     rw [oy]
     rw [oz (k:=i) (x:=x) (y:=y) (by rw [FG il]; exact h1) (by rw [FG (by omega)]; exact h2) h3 λj hj=>by
       rw [FG (by omega),FG (by omega)]
       exact h4 j hj]
     exact hl.symm
 · refine (List.pairwise_lt_range).imp_of_mem λ{s t} hs ht hst y hy z hz=>?_
   obtain ⟨a,ha,hy⟩:=G7.mp hy
   obtain ⟨b,hb,hz⟩:=G7.mp hz
   unfold ky1 at hy hz
   obtain ⟨c,_,rfl⟩:=Fj.mp hy
   obtain ⟨c',_,rfl⟩:=Fj.mp hz
   have la:=(bI m _ a ha).len
   have lb:=(bI m _ b hb).len
   unfold ltP kcd
   show ltI ((a.length:Int) :: (a++c)) ((b.length:Int) :: (b++c'))=true
   rw [la,lb,ltI,if_pos (by omega)]
theorem u6 {κ:Type} [DecidableEq κ] {v:κ->D} (ks:List κ) (h:ks.Nodup):(mkM v ks).map (·.1)=ks:=by
 generalize hn:ks.length=l
 induction l generalizing ks with
 | zero=>rw [HM.mp hn]; rfl
 | succ l ih=>
   have ne:ks ≠ []:=λz=>by rw [z] at hn; cases hn
   have e:=Kc ne
   have lk:ks.dropLast.length=l:=by rw [List.length_dropLast]; omega
   have nd:(ks.dropLast++[ks.getLast ne]).Nodup:=by rw [e]; exact h
   obtain ⟨n1,_,n3⟩:=Gk.mp nd
   have ih':=ih ks.dropLast n1 lk
   rw [<- e,fQ]
   have no:getM (mkM v ks.dropLast) (ks.getLast ne)=none:=by
     cases g:getM (mkM v ks.dropLast) (ks.getLast ne) with
     | none=>rfl
     | some x=>
       have:=gZ.mp (Fj.mpr ⟨_,lJ g,rfl⟩)
       exact absurd rfl (n3 _ this _ (Ff.mpr rfl))
   unfold eQ
   rw [no,if_neg (by simp),FE,ih']
   rfl
theorem Aq {α:Type} {xs:List α} {k j:Nat} {y d:α} (h:k < xs.length):(xs.set k y).getD j d=if j=k then y else xs.getD j d:=by
 by_cases e:j=k
 · subst e
   rw [if_pos rfl]
   simp [h]
 · rw [if_neg e]
   simp [IQ,Ft (GG e)]
theorem Ac {M:List (List Rat)} {k:Nat} (h:k < M.length):(M.map scL).getD k 0=scL (M.getD k []):=by simp [h]
theorem kz {s:Nat->Rat} (h:∀ i,0 < s i):∀ k,0 < hZ s k
 | 0=>by show (0:Rat) < 1; decide
 | k + 1=>by
   rw [hZ]
   exact Km (kz h k) (h k)
theorem zy {p q:List Int × List Int} (h:ltP p q=true):p.1.length<=q.1.length:=by
 have h:ltI ((p.1.length:Int) :: (p.1++p.2)) ((q.1.length:Int) :: (q.1++q.2))=true:=h
 rw [ltI] at h
 by_cases a:(p.1.length:Int) < q.1.length
 · omega
 · rw [if_neg a] at h
   by_cases b:(q.1.length:Int) < p.1.length
   · rw [if_pos b] at h; cases h
   · omega
theorem zX {R:List (List Int)} {m n:Nat} (m7:m<=7) (n7:n<=7) {p:List Int × List Int} (h:fuO R m n 0=some p):p ∈ kys m n (min m n)/\vD R p < 0/\∀ q ∈ kys m n (min m n),q.1.length < p.1.length->0<=vD R q:=by
 have srt:=y4 (m:=m) (n:=n) (k:=min m n) m7 n7 (by omega)
 have nodup:(kys m n (min m n)).Nodup:=srt.imp λ{a b} hl e=>by
   subst e
   have:ltI (kcd a) (kcd a)=true:=hl
   rw [nL] at this
   cases this
 have ek:(fdM R (kys m n (min m n))).map (·.1)=kys m n (min m n):=u6 _ nodup
 unfold fuO at h
 rw [ek] at h
 obtain ⟨hp,as,bs,e,hn⟩:=List.find?_eq_some_iff_append.mp h
 have hp:vD R p < 0:=of_decide_eq_true hp
 refine ⟨by rw [e]; simp,hp,λq hq hl=>?_⟩
 refine Decidable.byContradiction λz=>?_
 rw [e] at hq srt
 rcases Fs.mp hq with y | y
 · have:=hn q y
   rw [decide_eq_true (show vD R q < 0 by omega)] at this
   cases this
 · rcases Fv.mp y with y | y
   · rw [y] at hl; omega
   · have:=(List.pairwise_cons.mp (List.pairwise_append.mp srt).2.1).1 q y
     have:=zy this
     omega
theorem Ah {m n s:Nat} {M:List (List Rat)} (t:Tq m n M) {ρ γ:Nat->Nat} (b1:∀ i,i < s->ρ i < m) (b2:∀ i,i < s->γ i < n):∃ P:Rat,0 < P/\mi (dtM (whM M (M.map scL))) s ρ γ=P * mi (qM M) s ρ γ:=by
 refine ⟨hZ (λr=>((scL (M.getD (ρ r) []):Int):Rat)) s,kz (λi=>Rat.intCast_pos.mpr (cv _).1) s,?_⟩
 unfold mi
 rw [<- iY (n:=s) _ (λr c=>qM M (ρ r) (γ c)) s (Fc _)]
 refine aO λi hi j hj=>?_
 rw [if_pos hi]
 have hi':ρ i < M.length:=by rw [t.len]; exact b1 i hi
 have hj':γ j < (M.getD (ρ i) []).length:=by rw [t.at_ (b1 i hi)]; exact b2 j hj
 unfold dtM
 rw [ya hi' hj',Ac hi',zf ((cv _).2 _ (aK hj')),Hr]
 rfl
theorem BJ {P x:Rat} (hP:0 < P) (h:0<=P * x):0<=x:=by
 refine Rat.not_lt.mp λz=>?_
 have:=Km hP (show 0 < -x by grind)
 grind
theorem BG {P x:Rat} (hP:0 < P) (h:P * x < 0):x < 0:=by
 refine KI.mp λz=>?_
 have:=IH (Ju hP) z
 grind
theorem xE (c:List Int) (i r:Nat) (hi:i < c.length):(ers c i).getD r 0=c.getD (skp i r) 0:=by
 unfold ers skp
 split
 · rename_i h
   rw [Fm,FG (by rw [FI]; omega),List.getElem?_take,if_pos h,<- Fm]
 · rename_i h
   rw [Fm,F0 (by rw [FI]; omega),FI,HW (GR hi),List.getElem?_drop,Fm]
   congr 2
   omega
theorem mK {X:Nat->Rat} (f:Nat->Rat):∀ (k n:Nat) (γ:Nat->Nat),Inc k γ->(∀ i,i < k->γ i < n)->(∀ j,j < n->(∀ i,i < k->γ i ≠ j)->X j=0)->aA (λj=>f j * X j) n=aA (λc=>f (γ c) * X (γ c)) k
 | 0,n,γ,_,_,h0=>by
   rw [cO λj hj=>?_]
   · rfl
   · rw [h0 j hj λi hi=>absurd hi (Gb _),GJ]
 | k + 1,n,γ,h,hb,h0=>by
   have hk:=hb k (by omega)
   have ih:=mK (X:=X) f k (γ k) γ (λi hi=>h i (by omega)) (λi hi=>h.mono hi (by omega)) λj hj hn=>h0 j (by omega) λi hi=>by
     rcases GQ i k with z | z
     · exact hn i z
     · obtain rfl:i=k:=by omega
       omega
   have up:∀ d,γ k + 1 + d<=n->aA (λj=>f j * X j) (γ k + 1 + d)=aA (λj=>f j * X j) (γ k + 1):=λd=>by
     induction d with
     | zero=>intro _; rfl
     | succ d ihd=>
       intro hd
       show aA (λj=>f j * X j) ((γ k + 1 + d) + 1)=_
       rw [aA,ihd (by omega),h0 (γ k + 1 + d) (by omega) λi hi z=>?_,GJ,Gq]
       rcases GQ i k with y | y
       · have:=h.mono y (by omega); omega
       · obtain rfl:i=k:=by omega
         omega
   have e:n=γ k + 1 + (n - (γ k + 1)):=by omega
   rw [e,up _ (by omega),aA,ih,aA]
theorem Df (i:Nat):((sgI i:Int):Rat)=sgn i:=by
 unfold sgI sgn
 split <;> rfl
theorem CK {W:List (List Int)} {t c i j:Nat} (hl:W.length=t) (hr:∀ r ∈ W,r.length=t) (hc:c < t) (hi:i < t):dtM (wsM W c) i j=a6 (dtM W) c sgn i j:=by
 unfold dtM a6
 have e:(wsM W c).getD i []=(W.getD i []).set c (sgI i):=by unfold wsM; simp [hl,hi]
 rw [e,Aq (by rw [hr _ (aK (by omega))]; exact hc)]
 split
 · exact Df i
 · rfl
theorem E6 {Ms:List (List Int)} {n b:Nat} (hl:Ms.length=n) (n7:n<=7) (h:∀ r ∈ Ms,r.length=n/\∀ x ∈ r,x.natAbs<=2 ^ b):((wdZ Ms:Int):Rat)=det n (dtM Ms):=by
 have z:=xo (b:=b) (n:=n) (M:=dtM Ms) (by omega) λi hi j hj=>⟨_,rfl,by
   have hm:Ms.getD i [] ∈ Ms:=aK (by omega)
   exact (h _ hm).2 _ (aK (by rw [(h _ hm).1]; exact hj))⟩
 unfold wdZ
 rw [hl]
 exact z.num.1.symm
theorem vx {n:Nat} {cs:List Int} {W:List (List Int)} {j:Nat} (hb:∀ k,(cs.getD k 0).toNat < n\/True):∀ i,(∀ k,k < i->(cs.getD k 0).toNat ≠ j)->(tpL n cs W i).getD j 0=0
 | 0,_=>by
   show (FH n (0:Int)).getD j 0=0
   rw [Fm,HP]
   split <;> rfl
 | i + 1,h=>by
   rw [iI]
   have:=h i (by omega)
   rw [Fm,Ft this,<- Fm]
   exact vx hb i λk hk=>h k (by omega)
theorem An {n t:Nat} {cs:List Int} {W:List (List Int)} {c:Nat} (inj:∀ a b,a < t->b < t->a ≠ b->(cs.getD a 0).toNat ≠ (cs.getD b 0).toNat) (hb:∀ a,a < t->(cs.getD a 0).toNat < n):∀ i,i<=t->c < i->(tpL n cs W i).getD (cs.getD c 0).toNat 0=-(wdZ (wsM W c))
 | i + 1,hi,hc=>by
   rw [iI,Aq (by rw [gf]; exact hb i (by omega))]
   by_cases z:c=i
   · rw [z,if_pos rfl]
   · rw [if_neg (inj c i (by omega) (by omega) z)]
     exact An inj hb i (by omega) (by omega)
theorem pM (ts:List Int):cW ts 0=(Fd ts.length).map λj=>((ts.getD j 0:Int):Rat):=by
 unfold cW
 refine G8 (by simp) λi h1 h2=>?_
 have:i < ts.length:=by simpa using h1
 simp [this]
theorem zL {m n t d v:Nat} {M:List (List Rat)} {rs cs:List Int} (h:Ag m n t d v M rs cs) (mr:rs ∈ chs m t) (mc:cs ∈ chs n t) (neg:vD (whM M (M.map scL)) (rs,cs) < 0) (small:∀ q ∈ kys m n (min m n),q.1.length < t->0<=vD (whM M (M.map scL)) q):tlQ m n M (cW (tpZ n M rs cs) 0)=true:=by
 have m7:=h.tq.r7
 have n7:=h.tq.c7
 have t1:=h.t1
 have tm:=h.tm
 have tn:=h.tn
 have iρ:=ui m7 (by omega) mr
 have iγ:=ui n7 (by omega) mc
 have bρ:∀ i,i < t->(rs.getD i 0).toNat < m:=λi hi=>by have:=h.r.at_ i hi; omega
 have bγ:∀ i,i < t->(cs.getD i 0).toNat < n:=λi hi=>by have:=h.c.at_ i hi; omega
 have rw:=h.rw
 have eA:∀ i,i < t->∀ j,j < t->dtM (tpW M rs cs) i j=((scL ((chM M rs cs).getD i []):Int):Rat) * qM M (rs.getD i 0).toNat (cs.getD j 0).toNat:=λi hi j hj=>by
   have pt:=h.pt
   have hi':i < (chM M rs cs).length:=by rw [pt.len]; exact hi
   have hj':j < ((chM M rs cs).getD i []).length:=by rw [pt.at_ hi]; exact hj
   unfold tpW dtM
   rw [ya hi' hj',Ac hi',zf ((cv _).2 _ (aK hj')),Hr]
   congr 1
   unfold qM chM pkL
   have l1:i < rs.length:=by rw [h.r.len]; exact hi
   have l2:j < cs.length:=by rw [h.c.len]; exact hj
   simp [l1,l2]
 have sp:∀ i,0 < ((scL ((chM M rs cs).getD i []):Int):Rat):=λi=>Rat.intCast_pos.mpr (cv _).1
 generalize hs:(λi=>((scL ((chM M rs cs).getD i []):Int):Rat))=s at *
 have eA:∀ i,i < t->∀ j,j < t->dtM (tpW M rs cs) i j=s i * qM M (rs.getD i 0).toNat (cs.getD j 0).toNat:=λi hi j hj=>by rw [<- hs]; exact eA i hi j hj
 have sp:∀ i,0 < s i:=λi=>by rw [<- hs]; exact sp i
 have part:∀ (k:Nat) (α β:Nat->Nat),(∀ i,i < k->α i < t)->(∀ i,i < k->β i < t)->∃ P:Rat,0 < P/\det k (λr c=>dtM (tpW M rs cs) (α r) (β c))=P * mi (qM M) k (λr=>(rs.getD (α r) 0).toNat) λc=>(cs.getD (β c) 0).toNat:=λk α β ha hb=>by
   refine ⟨hZ (λr=>s (α r)) k,kz (λi=>sp _) k,?_⟩
   unfold mi
   rw [<- iY (n:=k) (λr=>s (α r)) (λr c=>qM M (rs.getD (α r) 0).toNat (cs.getD (β c) 0).toNat) k (Fc _)]
   refine aO λi hi j hj=>?_
   rw [if_pos hi]
   exact eA _ (ha i hi) _ (hb j hj)
 have dneg:det t (dtM (tpW M rs cs)) < 0:=by
   obtain ⟨P,hP,e⟩:=part t id id (λ_ hi=>hi) λ_ hi=>hi
   obtain ⟨P',hP',e'⟩:=Ah h.tq bρ bγ
   have v1:=AE (R:=whM M (M.map scL)) h.r.len h.c.len
   rw [e'] at v1
   have v2:((vD (whM M (M.map scL)) (rs,cs):Int):Rat) < 0:=HZ.mpr neg
   rw [v1] at v2
   have v3:=BG hP' v2
   have e:det t (dtM (tpW M rs cs))=P * mi (qM M) t (λr=>(rs.getD r 0).toNat) λc=>(cs.getD c 0).toNat:=e
   rw [e]
   have:=Km hP (show 0 < -(mi (qM M) t (λr=>(rs.getD r 0).toNat) λc=>(cs.getD c 0).toNat) by grind)
   grind
 have ws:∀ c,c < t->((wdZ (wsM (tpW M rs cs) c):Int):Rat)=det t (a6 (dtM (tpW M rs cs)) c sgn):=λc hc=>by
   rw [E6 (n:=t) (by unfold wsM; rw [E9,Gz,rw.len]) (by omega) (qR (k:=c) rw.row)]
   exact aO λi hi j _=>CK rw.len (λr hr=>(rw.row r hr).1) hc hi
 have lt:(tpZ n M rs cs).length=n:=gf ..
 have inj:∀ a b,a < t->b < t->a ≠ b->(cs.getD a 0).toNat ≠ (cs.getD b 0).toNat:=λa b ha hb ne=>iγ.ne ha hb ne
 have lc:cs.length=t:=h.c.len
 have xat:∀ c,c < t->(((tpZ n M rs cs).getD (cs.getD c 0).toNat 0:Int):Rat)=-det t (a6 (dtM (tpW M rs cs)) c sgn):=λc hc=>by
   unfold tpZ
   rw [lc,An inj bγ t (Fc _) hc,Rat.intCast_neg,ws c hc]
 have xoff:∀ j,j < n->(∀ i,i < t->(cs.getD i 0).toNat ≠ j)->(((tpZ n M rs cs).getD j 0:Int):Rat)=0:=λj _ hj=>by
   unfold tpZ
   rw [lc,vx (λ_=>.inr trivial) t hj]
   rfl
 have cr:=λp (hp:p < t)=>E1 (A:=dtM (tpW M rs cs)) (k:=t) (b:=sgn) (by grind) hp
 have hy:Rs (nzS (bhQ m n M (cW (tpZ n M rs cs) 0))) (jG t):=by
   refine AO (ρ:=λi=>(rs.getD i 0).toNat) iρ (λi hi=>by simp [bhQ]; exact bρ i hi) λi hi=>?_
   have e1:(bhQ m n M (cW (tpZ n M rs cs) 0)).getD (rs.getD i 0).toNat 0=aA (λj=>qM M (rs.getD i 0).toNat j * (((tpZ n M rs cs).getD j 0:Int):Rat)) n:=by
     unfold bhQ
     rw [Fm,FL,List.getElem?_range (bρ i hi)]
     show aA _ n=_
     refine az λj hj=>?_
     rw [pM,lt]
     congr 1
     simp [hj]
   have e2:=mK (X:=λj=>(((tpZ n M rs cs).getD j 0:Int):Rat)) (λj=>qM M (rs.getD i 0).toNat j) t n (λc=>(cs.getD c 0).toNat) iγ bγ xoff
   have e3:s i * aA (λc=>qM M (rs.getD i 0).toNat (cs.getD c 0).toNat * (((tpZ n M rs cs).getD (cs.getD c 0).toNat 0:Int):Rat)) t=-(det t (dtM (tpW M rs cs)) * sgn i):=by
     rw [<- cr i hi,bF]
     have:-aA (λc=>dtM (tpW M rs cs) i c * det t (a6 (dtM (tpW M rs cs)) c sgn)) t=-1 * aA (λc=>dtM (tpW M rs cs) i c * det t (a6 (dtM (tpW M rs cs)) c sgn)) t:=by grind
     rw [this,bF]
     refine az λc hc=>?_
     rw [xat c hc,eA i hi c hc]
     grind
   rw [e1,e2]
   generalize aA (λc=>qM M (rs.getD i 0).toNat (cs.getD c 0).toNat * (((tpZ n M rs cs).getD (cs.getD c 0).toNat 0:Int):Rat)) t=y at e3
   have si:=sp i
   generalize s i=s0 at e3 si
   generalize det t (dtM (tpW M rs cs))=dt at e3 dneg
   unfold sgn at e3
   by_cases z:i % 2=0
   · rw [if_pos z] at e3 ⊢
     have py:0 < y:=by
       refine KI.mp λzz=>?_
       have:=IH (Ju si) (show 0<=-y by grind)
       grind
     rcases qH y with ⟨_,q⟩ | ⟨q,_⟩ | ⟨_,q⟩
     · exfalso; grind
     · exact q
     · exfalso; grind
   · rw [if_neg z] at e3 ⊢
     have py:y < 0:=by
       refine KI.mp λzz=>?_
       have:=IH (Ju si) zz
       grind
     rcases qH y with ⟨_,q⟩ | ⟨_,q⟩ | ⟨q,_⟩
     · exfalso; grind
     · exfalso; grind
     · exact q
 have x0:(((tpZ n M rs cs).getD (cs.getD 0 0).toNat 0:Int):Rat)<=0:=by
   rw [xat 0 (by omega)]
   obtain ⟨k,rfl⟩:∃ k,t=k + 1:=⟨t - 1,by omega⟩
   have nn:=Bf (A:=dtM (tpW M rs cs)) (k:=k) λi hi=>by
     rcases GI k with y | y
     · subst y
       show (0:Rat)<=1
       decide
     · obtain ⟨P,hP,e⟩:=part k (λr=>skp i r) (λc=>c + 1) (λr hr=>by have:=kL (i:=i) hr; omega) λc hc=>by omega
       have e:det k (minor (dtM (tpW M rs cs)) i)=P * mi (qM M) k (λr=>(rs.getD (skp i r) 0).toNat) λc=>(cs.getD (c + 1) 0).toNat:=e
       rw [e]
       refine IH (Ju hP) ?_
       have m1:=(iF m7 (by omega) mr).2 i hi
       have m2:=(iF n7 (by omega) mc).2 0 (by omega)
       have o1:=bI m k _ m1
       have o2:=bI n k _ m2
       have nnv:=small (ers rs i,ers cs 0) (jT.mpr ⟨k - 1,by omega,by rw [Nat.sub_add_cancel y]; exact m1,by rw [Nat.sub_add_cancel y]; exact m2⟩) (by show (ers rs i).length < _; rw [o1.len]; omega)
       have v1:=AE (R:=whM M (M.map scL)) o1.len o2.len
       obtain ⟨P',hP',e'⟩:=Ah (s:=k) (ρ:=λr=>((ers rs i).getD r 0).toNat) (γ:=λc=>((ers cs 0).getD c 0).toNat) h.tq (λj hj=>by have:=o1.at_ j hj; omega) λj hj=>by have:=o2.at_ j hj; omega
       rw [e'] at v1
       have v2:(0:Rat)<=((vD (whM M (M.map scL)) (ers rs i,ers cs 0):Int):Rat):=Rat.intCast_nonneg.mpr nnv
       rw [v1] at v2
       have v3:=BJ hP' v2
       have e5:mi (qM M) k (λr=>((ers rs i).getD r 0).toNat) (λc=>((ers cs 0).getD c 0).toNat)=mi (qM M) k (λr=>(rs.getD (skp i r) 0).toNat) λc=>(cs.getD (c + 1) 0).toNat:=by
         unfold mi
         refine aO λa ha b hb=>?_
         show qM M ((ers rs i).getD a 0).toNat ((ers cs 0).getD b 0).toNat=qM M (rs.getD (skp i a) 0).toNat (cs.getD (b + 1) 0).toNat
         rw [xE rs i a (by rw [h.r.len]; exact hi),xE cs 0 b (by rw [lc]; omega),show skp 0 b=b + 1 from if_neg (by omega)]
       rw [<- e5]
       exact v3
   grind
 obtain ⟨h1,h2⟩:=ahead (X:=λj=>(((tpZ n M rs cs).getD j 0:Int):Rat)) (k:=t) (n:=n) t1 iγ bγ xoff x0
 unfold tlQ
 rw [pM,lt] at hy ⊢
 exact zq t1 hy h1 h2
section
variable {P:Program} {w:World} {K:Fb} {mg:Str->Option Value} {base:Heap} {k:Nat} {f:Addr} {fd:FuncData} {qual:Str}
end
noncomputable def whw (x:D):Bool:=l4 .int x && !l4 .bool x
noncomputable def i9 (ds:List D) (r:Sl):Prop:=∃ x,ds=[x]/\r=.d (.bl (whw x))
noncomputable def dQ (ds:List D) (r:Sl):Prop:=∃ q:Rat,ds=[frD q,.int q.num,.int (q.den:Nat)]/\Sq 8000 q/\r=.d (.bl true)
theorem BU (q:Rat):(GD q.num (q.den:Nat):Int)=1:=by
 have:Nat.gcd q.num.natAbs q.den=1:=q.reduced
 rw [GD,HX,this]
 rfl
noncomputable def prZ (ns:List Int):Int:=ns.foldl (· * ·) 1
theorem wu (ns:List Int) (n:Int):prZ (ns++[n])=prZ ns * n:=by unfold prZ; rw [GA]; rfl
theorem xq {d:Nat}:∀ (r:List Int) (s:Int) (n:Nat),Bd n s->(∀ q ∈ r,Bd d q)->Bd (n + r.length * d) (r.foldl (· * ·) s)
 | [],s,n,h,_=>by simpa using h
 | q :: r,s,n,h,hd=>by
   have:=xq r _ _ (h.mul (hd q (Fi ..))) λx hx=>hd x (Fh _ hx)
   rw [Ga,GK]
   rwa [show n + d + r.length * d=n + (r.length * d + d) by omega] at this
theorem CW {d:Nat} {r:List Int} (h:∀ q ∈ r,Bd d q):Bd (1 + r.length * d) (prZ r):=xq r 1 1 (by unfold Bd; decide) h
theorem Ec {s:Int} (hs:0 < s) (q:Rat):(s * (q.den:Nat)) / (GD s (q.den:Nat):Int)=scS s q:=by
 unfold scS
 have d1:(GD s (q.den:Nat):Int) ∣ s:=Jj ..
 rw [Int.mul_comm s,Int.mul_ediv_assoc _ d1,Int.mul_comm]
noncomputable def kZ (ds:List D) (r:Sl):Prop:=∃ (R C d v:Nat) (M:List (List Rat)),ds=[tbQ M]/\Tq R C M/\(∀ r ∈ M,∀ x ∈ r,Qs d v x)/\1 + C * d<=8999/\v + d<=8999/\r=.n (.t [lh (whM M (M.map scL)),.d (.int (prZ (M.map scL)))])
theorem vE {M:List (List Rat)} {i:Nat} (h:i < M.length):((Fd (i + 1)).map λi=>whR (M.getD i []) (scL (M.getD i [])))=((Fd i).map λi=>whR (M.getD i []) (scL (M.getD i [])))++[whR (M.getD i []) (scL (M.getD i []))]:=by
 rw [F3,FE]
 rfl
theorem zr (M:List (List Rat)):(Fd M.length).map (λi=>whR (M.getD i []) (scL (M.getD i [])))=whM M (M.map scL):=by
 unfold whM
 refine F6 λi hi=>?_
 have:i < M.length:=FN.mp hi
 simp [this]
section
variable {P:Program} {w:World} {K:Fb} {mg:Str->Option Value} {base:Heap} {k:Nat} {f:Addr} {fd:FuncData} {qual:Str}
theorem qK (F:Fun K "_law_whole" qual (top 59) f fd) (hb:∀ x ∈ ai,mg x=none):aQ P w K mg base CX0 (k + 1) f fd ["_law_thing"] (spD K i9):=by
 refine fnD F rT hb (by rintro _ _ ⟨_,rfl,_⟩; rfl) ?_
 rintro _ _ ⟨x,rfl,rfl⟩ cdv A outer s H E b
 exact aF (mN (gx .int b (aa 0)) λh=>(kh (AB (gx .bool b (aa 0))))) rfl
theorem j3 (F:Fun K "_law_is_number" qual (top 60) f fd) (hb:∀ x ∈ ai,mg x=none) (c_l_whole:Cal P w K mg base k "_law_whole" i9) (c_l_divisor:Cal P w K mg base k "_law_divisor" cD):aQ P w K mg base CX0 (k + 1) f fd ["_law_found","_law_top","_law_bottom"] (spD K dQ):=by
 refine fnD F kn hb (by rintro _ _ ⟨_,rfl,_⟩; rfl) ?_
 rintro _ _ ⟨q,rfl,hq,rfl⟩ cdv A outer s H E b
 refine cL (PW.pt (gH (bW (bS (gx .tuple b (aa 0)))) λh=>(gH (aS (a5 b (ab (aa 0) af) iO) ae gP) λh=>(gH (bW (bS (x_call b c_l_whole (ab (aJ (aa 0) ae (aV (aP (i:=0) rfl))) af) ⟨_,rfl,rfl⟩))) λh=>(gu (bW (bS (x_call b c_l_whole (ab (aJ (aa 0) ae (aV (aP (i:=1) rfl))) af) ⟨_,rfl,rfl⟩)))))))) rfl ?_
 refine cL (PW.pt (gH (aS (aJ (aa 0) ae (aV (aP (i:=1) rfl))) ae kc) λh=>(gu (aS (x_call b c_l_divisor (ab (aJ (aa 0) ae (aV (aP (i:=0) rfl))) (ab (aJ (aa 0) ae (aV (aP (i:=1) rfl))) af)) ⟨_,_,rfl,rfl⟩) ae gP)))) ?_ ?_
 · rw [BU,decide_eq_false (show ¬ ((q.den:Nat):Int) < 1 by have:=den_pos q; omega)]
   rfl
 refine aF (cG (ax (aJ (aa 0) ae (aV (aP (i:=0) rfl))) (aa 2) (aX (hq.num.aD hq.den (by decide) (by decide)))) (ax (aa 1) (aJ (aa 0) ae (aV (aP (i:=1) rfl))) (aX (hq.num.aD hq.den (by decide) (by decide)))) de) ?_
 rw [decide_eq_true rfl]
set_option maxHeartbeats 1000000 in
theorem uW (F:Fun K "_law_rows" qual (top 61) f fd) (hb:∀ x ∈ ai,mg x=none) (c_l_divisor:Cal P w K mg base k "_law_divisor" cD):aQ P w K mg base CX0 (k + 1) f fd ["_law_table_here"] (spD K kZ):=by
 refine fnD F mU hb (by rintro _ _ ⟨_,_,_,_,_,rfl,_⟩; rfl) ?_
 rintro _ _ ⟨R,C,d,v,M,rfl,t,hq,z1,z2,rfl⟩ cdv A outer s H E b
 have nd:=mU.nd
 have r7:=t.r7
 have c7:=t.c7
 refine aw 1 nd (fm af) ?_
 refine DJ 1 (c:=.l []) ?_
 refine aw 2 nd ae ?_
 refine bu 3 (g:=λi=>rwQ (M.getD i [])) (λi τ=>i<=M.length/\∃ s3 s4 s5,τ=[.d (tbQ M),.n (lh ((Fd i).map λi=>whR (M.getD i []) (scL (M.getD i [])))),.d (.int (prZ ((M.map scL).take i))),s3,s4,s5]) b nd (aU (aa 0)) (a9 (f:=rwQ) (xs:=M) []) ⟨FR _,.un,.un,.un,rfl⟩ (λi hi τ h=>?_) λτ h=>?_
 · obtain ⟨_,s3,s4,s5,rfl⟩:=h
   have hi:i < M.length:=by simpa using hi
   have mi:=aK (xs:=M) (d:=[]) hi
   have hiR:i < R:=by rw [<- t.len]; exact hi
   have hC:=t.at_ hiR
   have qr:=hq _ mi
   rw [vE hi]
   have et:(M.map scL).take (i + 1)=(M.map scL).take i++[scL (M.getD i [])]:=by
     rw [Ky,FL,Fe hi]
     simp [hi]
   rw [et,wu]
   have bpr:Bd (1 + R * 8999) (prZ ((M.map scL).take i)):=(CW (d:=8999) λx hx=>by
     obtain ⟨r,hr,rfl⟩:=Fj.mp (Ge hx)
     have:=cI (d:=d) (r:=r) λx hx=>(hq r hr x hx).den
     rw [t.row r hr] at this
     exact this.mono z1).mono (by
       have:((M.map scL).take i).length<=R:=by rw [FI,E9,t.len]; omega
       have:=FO 8999 this
       omega)
   generalize prZ ((M.map scL).take i)=pr at bpr ⊢
   generalize hg:((Fd i).map λi=>whR (M.getD i []) (scL (M.getD i [])))=Gs
   have lGs:Gs.length=i:=by rw [<- hg]; simp
   generalize M.getD i []=row at mi hC qr ⊢
   refine aw 4 nd ae ?_
   refine bu 5 (g:=λj=>frD (row.getD j 0)) (λj τ=>j<=row.length/\∃ s5,τ=[.d (tbQ M),.n (lh Gs),.d (.int pr),.d (rwQ row),.d (.int (scL (row.take j))),s5]) b nd (aU (aa 3)) (a9 (f:=frD) (xs:=row) 0) ⟨FR _,s5,rfl⟩ (λj hj τ h=>?_) λτ h=>?_
   · obtain ⟨_,s5,rfl⟩:=h
     have hj:j < row.length:=by simpa using hj
     have mm:=aK (d:=(0:Rat)) hj
     have hs:=(cv (row.take j)).1
     have bs:Bd (1 + C * d) (scL (row.take j)):=(cI λx hx=>(qr x (Ge hx)).den).mono (by
       have:(row.take j).length * d<=C * d:=FO _ (by rw [FI]; omega)
       omega)
     have et:row.take (j + 1)=row.take j++[row.getD j 0]:=by rw [Ky,Fe hj]; simp [hj]
     rw [et,qA]
     generalize scL (row.take j)=sc at hs bs ⊢
     generalize row.getD j 0=x at mm ⊢
     have hx:=den_pos x
     have sd:=(qr x mm).den
     have dv:aE (GD sc (x.den:Nat):Int):=(sd.gcd (by omega)).aE (jk (by omega)) (by omega)
     refine aw 4 nd (ax (ax (aa 4) (aJ (aa 5) ae (aV (aP (i:=1) rfl))) (aX (bs.aD sd (by omega) (by omega)))) (x_call b c_l_divisor (ab (aa 4) (ab (aJ (aa 5) ae (aV (aP (i:=1) rfl))) af)) ⟨_,_,rfl,rfl⟩) (bH dv)) (aM ⟨hj,.d (frD x),?_⟩)
     rw [c9,Ec hs]
     rfl
   · obtain ⟨_,s5,rfl⟩:=h
     rw [E9,HC]
     have br:=cI (d:=d) (r:=row) λx hx=>(qr x hx).den
     rw [hC] at br
     refine Bn (c:=rwN (whR row (scL row))) (fK 1) (bV (cmp 0 (g:=λj=>frD (row.getD j 0)) (f:=λj=>.int ((row.getD j 0).num * ((scL row).fdiv ((row.getD j 0).den:Nat)))) b (aU (aa 3)) (a9 (f:=frD) (xs:=row) 0) (by rw [E9]; omega) λj hj s0 H0 fp=>?_)) rfl rfl ?hx ?_ ?_
     · have sq:=(qr _ (aK (d:=(0:Rat)) (show j < row.length by simpa using hj))).sq
       generalize row.getD j 0=x at sq ⊢
       have hx:=den_pos x
       have e:(scL row).fdiv (x.den:Nat)=scL row / (x.den:Nat):=F7 _ (by omega)
       exact ax (aJ (aa 0) ae (aV (aP (i:=0) rfl))) (ax (aa 1) (aJ (aa 0) ae (aV (aP (i:=1) rfl))) (bH (sq.den.aE (by omega) (by omega)))) (aX (by rw [e]; exact sq.num.aD (br.ediv _) (by omega) (by omega)))
     case hx=>
       refine congrArg (λl=>some (Nd.l (l.map .d))) ((bE (λx:Rat=>D.int (x.num * ((scL row).fdiv (x.den:Nat)))) row 0 (E9 ..)).trans ?_)
       unfold whR
       rw [Fx]
       refine F6 λx _=>?_
       simp only [Ih]
       rw [F7 _ (by have:=den_pos x; omega)]
     · rw [E9,lGs]; omega
     · refine aw 2 nd (ax (aa 2) (aa 4) (aX (bpr.aD br (by omega) (by omega)))) (aM ⟨hi,.d (rwQ row),.d (.int (scL row)),s5,?_⟩)
       unfold lh
       rw [FE]
       rfl
 · obtain ⟨_,s3,s4,s5,rfl⟩:=h
   rw [E9,zr,FC (by rw [E9]; exact Fc _)]
   exact Bm 1 (aa 2) rfl
end
noncomputable def tlB (kd:Nat):Int:=if kd=0 then 114 else if kd=1 then 5 else if kd=2 then 60 else 2 * 10 ^ 40 * 10 ^ 40
noncomputable def tlP (c:Int) (n kd:Nat):List Int:=nums c (FH n (tlB kd))
noncomputable def tlM (c:Int) (R C kd:Nat):List (List Rat):=(Fd R).map λi=>(Fd C).map λj=>nmQ kd ((tlP c (R * C) kd).getD (C * i + j) 0)
theorem DE {kd:Nat} (h:kd < 4):atI [D.int 114,.int 5,.int 60,.int (2 * 10 ^ 40 * 10 ^ 40)] (kd:Int)=some (.int (tlB kd)):=by
 rcases (by omega:kd=0\/kd=1\/kd=2\/kd=3) with rfl | rfl | rfl | rfl <;> rfl
theorem Cy {kd:Nat}:0 < tlB kd/\aE (tlB kd):=by
 unfold tlB
 split
 · exact vo (by decide) (by decide)
 · split
   · exact vo (by decide) (by decide)
   · split
     · exact vo (by decide) (by decide)
     · exact ⟨by decide,(show Bd 280 ((2:Int) * 10 ^ 40 * 10 ^ 40) by unfold Bd; decide +kernel).aE (by decide) (by decide)⟩
theorem CU {c:Int} {R C kd:Nat} (h1:1<=R) (h2:R<=7) (h3:1<=C) (h4:C<=7):Tq R C (tlM c R C kd):=⟨h1,h2,h3,h4,by simp [tlM],λr hr=>by
 unfold tlM at hr
 obtain ⟨i,_,rfl⟩:=Fj.mp hr
 simp⟩
theorem A5 {c:Int} {R C kd:Nat}:∀ r ∈ tlM c R C kd,∀ x ∈ r,Qs (kD kd) (kV kd) x:=λr hr x hx=>by
 unfold tlM at hr
 obtain ⟨i,_,rfl⟩:=Fj.mp hr
 obtain ⟨j,_,rfl⟩:=Fj.mp hx
 exact DK _
noncomputable def jm (ds:List D) (r:Sl):Prop:=∃ (c:Int) (R C kd:Nat),ds=[.int c,.int (R:Nat),.int (C:Nat),.int (kd:Nat)]/\R<=7/\C<=7/\kd < 4/\r=.n (da (tlM c R C kd))
section
variable {P:Program} {w:World} {K:Fb} {mg:Str->Option Value} {base:Heap} {k:Nat} {f:Addr} {fd:FuncData} {qual:Str}
set_option maxHeartbeats 4000000 in
theorem qV (F:Fun K "_law_table" qual (top 57) f fd) (hb:∀ x ∈ ai,mg x=none) (c_l_numbers:Cal P w K mg base k "_law_numbers" b7) (c_l_number:Cal P w K mg base k "_law_number" gG):aQ P w K mg base CX0 (k + 1) f fd ["_law_cell_here","_law_many","_law_wide","_law_kind"] (spD K jm):=by
 refine fnD F jZ hb (by rintro _ _ ⟨_,_,_,_,rfl,_⟩; rfl) ?_
 rintro _ _ ⟨c,R,C,kd,rfl,r7,c7,k4,rfl⟩ cdv A outer s H E b
 have nd:=jZ.nd
 have rc:R * C<=49:=Gr r7 c7
 have eRC:(R:Int) * (C:Int)=((R * C:Nat):Int):=by rw [Int.natCast_mul]
 refine aw 4 nd (aJ (a4 (fm (ab ae (ab ae (ab ae (ab (ax (ax ae (ax ae ae (lG ⟨by decide,by decide,by decide⟩)) (aX (mkL (by decide)))) (ax ae ae (lG ⟨by decide,by decide,by decide⟩)) (aX m40)) af)))))) (aa 3) (aT (DE k4))) ?_
 refine aw 5 nd (a4 (x_call b c_l_numbers (ab (aa 0) (ab (a4 (bV (cmp 0 (f:=λ_=>.int (tlB kd)) b (dZ (n:=((R * C:Nat):Int)) b (by rw [<- eRC]; exact ax (aa 1) (aa 2) (aX (mkL (by omega)))) (by omega) (by omega)) dU (by rw [aB]; omega) λi hi s0 H0 fp=>(aa 1)))) af)) ⟨c,FH (R * C) (tlB kd),?_,?_,?_,rfl⟩)) ?_
 · rw [aB,Fq,JO]
   refine congrArg (λl=>[D.int c,D.lst l]) (G8 (by simp) λi h1 h2=>by simp)
 · rw [Gy]; omega
 · intro x hx
   rw [(ID.mp hx).2]
   exact Cy
 have lp:(tlP c (R * C) kd).length=R * C:=by unfold tlP; rw [dX,Gy]
 refine aF (Aj (CH 0 (f:=λi=>.l ((((Fd C).map λj=>nmQ kd ((tlP c (R * C) kd).getD (C * i + j) 0)).map frD).map .d)) b (dZ b (aa 1) (by omega) (by omega)) dU (by rw [aB]; omega) (λi hi s0 H0 fp=>bV (cmp 0 (f:=λj=>frD (nmQ kd ((tlP c (R * C) kd).getD (C * i + j) 0))) (b.comp s0 H0 _ fp) (dZ (b.comp s0 H0 _ fp) (aa 3) (by omega) (by omega)) dU (by rw [aB]; omega) λj hj s1 H1 fp1=>?_)) λi hi=>?_)) ?_
 · rw [aB,Fq] at hi
   rw [aB,Fq] at hj
   have h1:C * i + j < R * C:=by
     have:C * (i + 1)<=C * R:=Nat.mul_le_mul_left _ (by omega)
     rw [Nat.mul_succ,Ij C R] at this
     omega
   have e:(C:Int) * (i:Int) + (j:Int)=((C * i + j:Nat):Int):=by rw [Int.natCast_add,Int.natCast_mul]
   refine x_call ((b.comp s0 H0 _ fp).comp s1 H1 _ fp1) c_l_number (ab (aa 2) (ab (aJ (aa 3) (ax (ax (aa 4) (aa 1) (aX (mkL (by omega)))) (aa 0) a7) (aT ?_)) af)) ⟨kd,_,rfl,k4,rfl⟩
   rw [e]
   exact atR (show C * i + j < (tlP c (R * C) kd).length by rw [lp]; exact h1)
 · refine congrArg (λl:List D=>some (Nd.l (l.map .d))) ?_
   rw [aB,Fq,Fx]
   rfl
 · unfold tlM da
   rw [aB,Fq,Fx]
   rfl
end
theorem Qs.mono {d v d' v':Nat} {q:Rat} (h:Qs d v q) (hd:d<=d') (hv:v<=v'):Qs d' v' q:=⟨h.den.mono hd,Fz h.val (FO _ (FW (by decide) hv))⟩
theorem Qs.neg {d v:Nat} {q:Rat} (h:Qs d v q):Qs d v (-q):=by
 refine ⟨h.den,?_⟩
 rw [show (-q).num=-q.num from rfl,show (-q).den=q.den from rfl,Int.natAbs_neg]
 exact h.val
structure Oq (R C d v:Nat) (M:List (List Rat)):Prop where
 t:Tq R C M
 q:∀ r ∈ M,∀ x ∈ r,Qs d v x
theorem Oq.mono {R C d v d' v':Nat} {M:List (List Rat)} (h:Oq R C d v M) (hd:d<=d') (hv:v<=v'):Oq R C d' v' M:=⟨h.t,λr hr x hx=>(h.q r hr x hx).mono hd hv⟩
noncomputable def mj (M:List (List Rat)) (i j:Nat) (q:Rat):List (List Rat):=M.set i ((M.getD i []).set j q)
noncomputable def nF (M:List (List Rat)) (a b:Nat):List (List Rat):=(M.set a (M.getD b [])).set b (M.getD a [])
noncomputable def j9 (a b:Nat) (r:List Rat):List Rat:=(r.set a (r.getD b 0)).set b (r.getD a 0)
section
variable {R C d v:Nat} {M:List (List Rat)}
theorem Oq.put {i j:Nat} {q:Rat} (h:Oq R C d v M) (hi:i < R) (hq:Qs d v q):Oq R C d v (mj M i j q):=by
 have hm:∀ r ∈ mj M i j q,r ∈ M\/r=(M.getD i []).set j q:=λr hr=>FY hr
 refine ⟨⟨h.t.r1,h.t.r7,h.t.c1,h.t.c7,by unfold mj; rw [FF]; exact h.t.len,λr hr=>?_⟩,λr hr x hx=>?_⟩
 · rcases hm r hr with z | z
   · exact h.t.row r z
   · rw [z,FF]; exact h.t.at_ hi
 · rcases hm r hr with z | z
   · exact h.q r z x hx
   · rw [z] at hx
     rcases FY hx with y | y
     · exact h.q _ (aK (d:=[]) (by rw [h.t.len]; exact hi)) x y
     · rw [y]; exact hq
theorem Oq.swap {a b:Nat} (h:Oq R C d v M) (ha:a < R) (hb:b < R):Oq R C d v (nF M a b):=by
 have mem:∀ r ∈ nF M a b,r ∈ M:=λr hr=>by
   rcases FY hr with z | z
   · rcases FY z with y | y
     · exact y
     · rw [y]; exact aK (d:=[]) (by rw [h.t.len]; exact hb)
   · rw [z]; exact aK (d:=[]) (by rw [h.t.len]; exact ha)
 exact ⟨⟨h.t.r1,h.t.r7,h.t.c1,h.t.c7,by unfold nF; rw [FF,FF]; exact h.t.len,λr hr=>h.t.row r (mem r hr)⟩,λr hr=>h.q r (mem r hr)⟩
theorem Oq.csw {a b:Nat} (h:Oq R C d v M) (ha:a < C) (hb:b < C):Oq R C d v (M.map (j9 a b)):=by
 refine ⟨⟨h.t.r1,h.t.r7,h.t.c1,h.t.c7,by rw [E9]; exact h.t.len,λr hr=>?_⟩,λr hr x hx=>?_⟩
 · obtain ⟨g,hg,rfl⟩:=Fj.mp hr
   unfold j9
   rw [FF,FF]
   exact h.t.row g hg
 · obtain ⟨g,hg,rfl⟩:=Fj.mp hr
   have gl:=h.t.row g hg
   unfold j9 at hx
   rcases FY hx with z | z
   · rcases FY z with y | y
     · exact h.q g hg x y
     · rw [y]; exact h.q g hg _ (aK (d:=(0:Rat)) (by omega))
   · rw [z]; exact h.q g hg _ (aK (d:=(0:Rat)) (by omega))
theorem Oq.cell {i j:Nat} (h:Oq R C d v M) (hi:i < R) (hj:j < C):Qs d v ((M.getD i []).getD j 0):=
 h.q _ (aK (d:=[]) (by rw [h.t.len]; exact hi)) _ (aK (d:=(0:Rat)) (by rw [h.t.at_ hi]; exact hj))
end
theorem oj {M:List (List Rat)} {i:Nat} (hi:i < M.length):bz [i] (da M)=some (.l (((M.getD i []).map frD).map .d)):=by
 unfold da
 rw [bz,FL,Fe hi]
 simp [bz,hi]
theorem uf {M:List (List Rat)} {i j:Nat} {q:Rat}:bw [i] (da M) (.l ((((M.getD i []).map frD).set j (frD q)).map .d))=da (mj M i j q):=by
 unfold da mj
 simp only [Ho]
 rfl
theorem xR {M:List (List Rat)} {i j:Nat} (hi:i < M.length) (hj:j < (M.getD i []).length):bz [i,j] (da M)=some (.d (frD ((M.getD i []).getD j 0))):=by
 unfold da
 rw [bz,FL,Fe hi]
 have e:(M.getD i [])=M[i]:=by simp [hi]
 rw [e] at hj ⊢
 simp only [GF,Hw,bz,FL,Fe hj]
 simp [hj]
theorem pw {M:List (List Rat)} {i:Nat} (hi:i < M.length):(M.map λr=>Nd.l ((r.map frD).map .d))[i]?=some (.l (((M.getD i []).map frD).map .d)):=by
 rw [FL,Fe hi]
 simp [hi]
theorem yp {M:List (List Rat)} {a b:Nat}:Nd.l (((M.map λr=>Nd.l ((r.map frD).map .d)).set a (.l (((M.getD b []).map frD).map .d))).set b (.l (((M.getD a []).map frD).map .d)))=da (nF M a b):=by
 unfold da nF
 rw [Ho,Ho]
theorem Ci (q:Rat):frD (-q)=.tup [.int (-q.num),.int (q.den:Nat)]:=by
 unfold frD
 rw [show (-q).num=-q.num from rfl,show (-q).den=q.den from rfl]
theorem nc (q:Rat):(q - 1).num=q.num - (q.den:Nat)/\(((q - 1).den:Nat):Int)=(q.den:Nat):=by
 have hd:=den_pos q
 have e:((q.num - (q.den:Nat):Int):Rat)=(q - 1) * (((q.den:Nat):Int):Rat):=by
   rw [Ko,JQ q 1,Rat.add_mul,Rat.neg_mul,Gx,<- JQ]
   have:(q.num:Rat)=q * (((q.den:Nat):Int):Rat):=(iL q).symm
   rw [<- this]
 obtain ⟨e1,e2⟩:=kx (by omega) e
 have g:GD (q.num - (q.den:Nat)) (q.den:Nat)=1:=by
   have:=q.reduced
   rw [Int.gcd_sub_self_left]
   exact this
 rw [g] at e1 e2
 exact ⟨by rw [e1]; simp,by rw [e2]; simp⟩
theorem wy (q:Rat):frD (q - 1)=.tup [.int (q.num - (q.den:Nat)),.int (q.den:Nat)]:=by
 unfold frD
 rw [(nc q).1,(nc q).2]
theorem Qs.less {d v:Nat} {q:Rat} (h:Qs d v q):Qs d (v + 1) (q - 1):=by
 obtain ⟨e1,e2⟩:=nc q
 refine ⟨by rw [e2]; exact h.den,?_⟩
 have e3:(q - 1).den=q.den:=by omega
 rw [e1,e3,IF,Ij (2 ^ v) 2,Jc]
 have:=h.val
 have p:=GH v
 have:q.den<=2 ^ v * q.den:=G5 _ p
 omega
section
variable {P:Program} {w:World} {K:Fb} {mg:Str->Option Value} {base:Heap} {k:Nat} {f:Addr} {fd:FuncData} {qual:Str}
end
noncomputable def qf (c:Int):List Int:=nums c [4,4,7,7,4]
noncomputable def o8 (c:Int) (g:Bool):Nat:=if g then szR (rsZ c 3136) else min (szR (rsZ c 3136)) 4
noncomputable def qo (c:Int) (g:Bool):Nat:=if g then szC (rsZ c 3136) else min (szC (rsZ c 3136)) 4
noncomputable def nN (p4:Int) (R C:Nat):Nat:=if 4 < max R C then (p4.fmod 3).toNat else p4.toNat
noncomputable def rM (p:Int) (n:Nat):Nat:=(p.fmod (n:Nat)).toNat
noncomputable def BH (p1:Int) (R C:Nat) (M:List (List Rat)) (i j:Nat):List (List Rat):=if p1=0 then mj M i j (-((M.getD i []).getD j 0)) else if p1=1 then mj M i j ((M.getD i []).getD j 0 - 1) else if p1=2 then nF M i ((i + 1) % R) else M.map (j9 j ((j + 1) % C))
noncomputable def zT (c e:Int) (p:List Int) (R C:Nat):List (List Rat):=if p.getD 0 0=0 then tlM e R C (nN (p.getD 4 0) R C) else BH (p.getD 1 0) R C (gdM e R C) (rM (p.getD 2 0) R) (rM (p.getD 3 0) C)
noncomputable def xJ (c:Int) (g:Bool):List (List Rat):=zT c (rsZ c 19668992) (qf c) (o8 c g) (qo c g)
theorem v7 (c:Int) (g:Bool):1<=o8 c g/\o8 c g<=7/\1<=qo c g/\qo c g<=7:=by
 have:=Ds (rsZ c 3136)
 unfold o8 qo
 cases g
 · show 1<=min (szR (rsZ c 3136)) 4/\min (szR (rsZ c 3136)) 4<=7/\1<=min (szC (rsZ c 3136)) 4/\min (szC (rsZ c 3136)) 4<=7
   omega
 · exact this
theorem jP {p:Int} {n:Nat} (h:1<=n):rM p n < n/\p.fmod (n:Nat)=(rM p n:Nat):=by
 have:=fmn (a:=p) (b:=(n:Int)) (by omega)
 unfold rM
 omega
structure Sz (R C d v:Nat) (M:List (List Rat)):Prop where
 o:Oq R C d v M
 s1:v + (1 + C * d)<=1280
 s2:∀ t,t<=R->t<=C->v + t * (v + (1 + t * d) + 3) + (1 + C * d)<=8999
 s3:∀ t,t<=R->t<=C->t * (v + (1 + t * d) + 3)<=7000
 d9:d<=600
theorem fF {R C d v:Nat} {M:List (List Rat)} (h:Oq R C d v M) (hd:d<=3) (hv:v<=133):Sz R C 3 133 M:=by
 have c7:=h.t.c7
 have key:∀ t,t<=R->t<=C->t * (133 + (1 + t * 3) + 3)<=7 * (133 + (1 + 7 * 3) + 3):=λt h1 h2=>Gr (by omega) (by omega)
 exact ⟨h.mono hd hv,by omega,λt h1 h2=>by have:=key t h1 h2; omega,λt h1 h2=>by have:=key t h1 h2; omega,by decide⟩
theorem wO {R C:Nat} {M:List (List Rat)} (h:Oq R C 133 133 M) (r4:R<=4) (c4:C<=4):Sz R C 133 133 M:=by
 have key:∀ t,t<=R->t<=C->t * (133 + (1 + t * 133) + 3)<=4 * (133 + (1 + 4 * 133) + 3):=λt h1 h2=>Gr (by omega) (by omega)
 exact ⟨h,by omega,λt h1 h2=>by have:=key t h1 h2; omega,λt h1 h2=>by have:=key t h1 h2; omega,by decide⟩
theorem BI {c e:Int} {p:List Int} {R C:Nat} (p4:0<=p.getD 4 0/\p.getD 4 0 < 4) (r1:1<=R) (r7:R<=7) (c1:1<=C) (c7:C<=7):∃ d v,Sz R C d v (zT c e p R C):=by
 unfold zT
 split
 · have t:=CU (c:=e) (R:=R) (C:=C) (kd:=nN (p.getD 4 0) R C) r1 r7 c1 c7
   have q:=A5 (c:=e) (R:=R) (C:=C) (kd:=nN (p.getD 4 0) R C)
   have f3:=fmn (a:=p.getD 4 0) (b:=3) (by decide)
   generalize hk:nN (p.getD 4 0) R C=kd at t q ⊢
   by_cases z:kd=3
   · have m4:¬ 4 < max R C:=λy=>by
       unfold nN at hk
       rw [if_pos y] at hk
       omega
     refine ⟨133,133,wO ⟨t,?_⟩ (by omega) (by omega)⟩
     unfold kD kV at q
     rw [if_pos z,if_pos z] at q
     exact q
   · refine ⟨3,133,fF (d:=3) (v:=4) ⟨t,?_⟩ (by decide) (by decide)⟩
     unfold kD kV at q
     rw [if_neg z,if_neg z] at q
     exact q
 · have o:Oq R C 1 84 (gdM e R C):=⟨xv r1 r7 c1 c7,wY r7 c7⟩
   have hi:=(jP (p:=p.getD 2 0) r1).1
   have hj:=(jP (p:=p.getD 3 0) c1).1
   have qc:=o.cell hi hj
   refine ⟨3,133,?_⟩
   unfold BH
   split
   · exact fF (o.put hi qc.neg) (by decide) (by decide)
   · split
     · exact fF ((o.mono (Fc 1) (show 84<=85 by decide)).put hi qc.less) (by decide) (by decide)
     · split
       · exact fF (o.swap hi (JA _ r1)) (by decide) (by decide)
       · exact fF (o.csw hj (JA _ c1)) (by decide) (by decide)
noncomputable def i0 (ds:List D) (r:Sl):Prop:=∃ (c:Int) (g:Bool),ds=[.int c,.bl g]/\r=.n (da (xJ c g))
theorem Dt (n:Nat):(if (4:Int) < (n:Nat) then (4:Int) else (n:Nat))=((min n 4:Nat):Int):=by split <;> omega
noncomputable abbrev rwF (r:List Rat):Nd:=.l ((r.map frD).map .d)
theorem rm {r:List Nd} {kk:Nat} {q:List Rat} (h:r[kk]?=some (rwF q)):bz [kk] (.l r)=some (.l ((q.map frD).map .d)):=by
 rw [bz,h,Hw]
 rfl
theorem tu {r:List Nd} {kk j:Nat} {q:List Rat} (h:r[kk]?=some (rwF q)) (hj:j < q.length):bz [kk,j] (.l r)=some (.d (frD (q.getD j 0))):=by
 rw [bz,h,Hw,bz,FL,FL,Fe hj]
 simp [bz,hj]
theorem zc (q:List Rat) (a b:Nat):(((q.map frD).set a (frD (q.getD b 0))).set b (frD (q.getD a 0)))=(j9 a b q).map frD:=by
 unfold j9
 rw [Ho,Ho]
noncomputable def Bs (c:Int) (g:Bool) (e:Int) (p:List Int) (R C:Nat) (M:List (List Rat)) (s7 s8 s9 s10:Sl):List Sl:=[.d (.int c),.d (.bl g),.d (.lst (p.map D.int)),.d (.int (R:Nat)),.d (.int (C:Nat)),.d (.int e),.n (da M),s7,s8,s9,s10]
section
variable {P:Program} {w:World} {K:Fb} {mg:Str->Option Value} {base:Heap} {k:Nat} {f:Addr} {fd:FuncData} {qual:Str}
set_option maxHeartbeats 4000000 in
theorem sx (F:Fun K "_law_drawn" qual (top 71) f fd) (hb:∀ x ∈ ai,mg x=none) (c_l_numbers:Cal P w K mg base k "_law_numbers" b7) (c_l_size:Cal P w K mg base k "_law_size" kK) (c_l_rest:Cal P w K mg base k "_law_rest" k8) (c_l_good_table:Cal P w K mg base k "_law_good_table" cQ) (c_l_table:Cal P w K mg base k "_law_table" jm):aQ P w K mg base CX0 (k + 1) f fd ["_law_cell_here","_law_great"] (spD K i0):=by
 refine fnD F jW hb (by rintro _ _ ⟨_,_,rfl,_⟩; rfl) ?_
 rintro _ _ ⟨c,g,rfl,rfl⟩ cdv A outer s H E b
 have nd:=jW.nd
 refine aw 2 nd (a4 (x_call b c_l_numbers (ab (aa 0) (ab (a4 (fm (ab ae (ab ae (ab ae (ab ae (ab ae af))))))) af)) ⟨c,[4,4,7,7,4],rfl,by decide,λb hb=>vo (by revert b; decide) (by revert b; decide),rfl⟩)) ?_
 have ln:(qf c).length=5:=dX c _
 have h4:0<=(qf c).getD 4 0/\(qf c).getD 4 0 < 4:=jO (c:=c) (bs:=[4,4,7,7,4]) (by decide) (by decide)
 unfold xJ
 show PSs _ _ (dS K [_,_,.d (.lst ((qf c).map D.int)),_,_,_,_,_,_,_,_] _)
 refine BS (x_call b c_l_size (ab (x_call b c_l_rest (ab (aa 0) (ab ae af)) ⟨c,3136,rfl,by decide,by decide,rfl⟩) af) ⟨_,rfl,rfl⟩) (Ed b.calm (sU 3 nd (sU 4 nd CM))) ?_
 refine aw 5 nd (x_call b c_l_rest (ab (aa 0) (ab ae af)) ⟨c,19668992,rfl,by decide,by decide,rfl⟩) ?_
 refine ja (M:=λτ=>τ=[.d (.int c),.d (.bl g),.d (.lst ((qf c).map D.int)),.d (.int (o8 c g:Nat)),.d (.int (qo c g:Nat)),.d (.int (rsZ c 19668992)),.un,.un,.un,.un,.un]) (bW (bS (aa 1))) (λh=>?_) (λh=>?_) λτ h=>?_
 · have h:(!g)=true:=h
   have h:g=false:=by simpa using h
   subst h
   refine aw 3 nd (a5 b (ab (aa 3) (ab ae af)) (px b.calm)) ?_
   refine aw 4 nd (a5 b (ab (aa 4) (ab ae af)) (px b.calm)) (aM ?_)
   rw [Dt,Dt]
   rfl
 · have h:(!g)=false:=h
   have h:g=true:=by simpa using h
   subst h
   exact aM rfl
 subst h
 obtain ⟨r1,r7,c1,c7⟩:=v7 c g
 generalize o8 c g=R at r1 r7 ⊢
 generalize qo c g=C at c1 c7 ⊢
 generalize rsZ c 19668992=e
 generalize qf c=p at ln h4 ⊢
 have pa:∀ i:Nat,i < 5->atI (p.map D.int) (i:Int)=some (.int (p.getD i 0)):=λi hi=>atR (by omega)
 unfold zT
 refine b9 (aS (aJ (aa 2) ae (aT (pa 0 (by decide)))) ae de) (λh=>?_) λh=>?_
 · have h:p.getD 0 0=0:=of_decide_eq_true h
   rw [if_pos h]
   have f3:=fmn (a:=p.getD 4 0) (b:=3) (by decide)
   have hk:nN (p.getD 4 0) R C < 4:=by unfold nN; split <;> omega
   have em:(if ((C:Nat):Int) > (R:Nat) then ((C:Nat):Int) else (R:Nat))=((max R C:Nat):Int):=by split <;> omega
   refine aF (x_call b c_l_table (ab (aa 5) (ab (aa 3) (ab (aa 4) (ab (aJ (z:=.int (nN (p.getD 4 0) R C:Nat)) (a4 (fm (ab (aJ (aa 2) ae (aT (pa 4 (by decide)))) (ab (ax (aJ (aa 2) ae (aT (pa 4 (by decide)))) ae (ba (by decide))) af)))) (kS b (ab (cG (a5 b (ab (aa 3) (ab (aa 4) af)) (tZ b.calm)) ae pU) af) ku) (aT ?_)) af)))) ⟨e,R,C,_,rfl,r7,c7,hk,rfl⟩) rfl
   rw [em]
   unfold nN
   by_cases z:4 < max R C
   · rw [decide_eq_true (show ((max R C:Nat):Int) > 4 by omega),if_pos z]
     show some (D.int ((p.getD 4 0).fmod 3))=_
     rw [HI f3.1]
   · rw [decide_eq_false (show ¬ ((max R C:Nat):Int) > 4 by omega),if_neg z]
     show some (D.int (p.getD 4 0))=_
     rw [HI h4.1]
 have h:¬ p.getD 0 0=0:=of_decide_eq_false h
 rw [if_neg h]
 have o:Oq R C 1 84 (gdM e R C):=⟨xv r1 r7 c1 c7,wY r7 c7⟩
 refine aw 6 nd (x_call b c_l_good_table (ab (aa 5) (ab (aa 3) (ab (aa 4) af))) ⟨e,R,C,rfl,r1,r7,c1,c7,rfl⟩) ?_
 obtain ⟨hi,eI⟩:=jP (p:=p.getD 2 0) r1
 obtain ⟨hj,eJ⟩:=jP (p:=p.getD 3 0) c1
 refine aw 7 nd (ax (aJ (aa 2) ae (aT (pa 2 (by decide)))) (aa 3) (ba (by omega))) ?_
 rw [eI]
 refine aw 8 nd (ax (aJ (aa 2) ae (aT (pa 3 (by decide)))) (aa 4) (ba (by omega))) ?_
 rw [eJ]
 generalize rM (p.getD 2 0) R=i at hi ⊢
 generalize rM (p.getD 3 0) C=j at hj ⊢
 generalize gdM e R C=M at o ⊢
 have hl:i < M.length:=by rw [o.t.len]; exact hi
 have hl2:j < (M.getD i []).length:=by rw [o.t.at_ hi]; exact hj
 refine aw 9 nd (EU (mH (mH (fK 6) (aa 7) rfl rfl (by rw [E9]; exact ck hl)) (aa 8) rfl (oj hl) (by rw [E9,E9]; exact ck hl2)) rfl (xR hl hl2)) ?_
 unfold BH
 generalize hq:(M.getD i []).getD j 0=q
 have num:atI [D.int q.num,D.int (q.den:Nat)] ((0:Nat):Int)=some (.int q.num):=rfl
 have den:atI [D.int q.num,D.int (q.den:Nat)] ((1:Nat):Int)=some (.int (q.den:Nat)):=rfl
 generalize hp1:p.getD 1 0=p1
 have pa1:atI (p.map D.int) ((1:Nat):Int)=some (.int p1):=by rw [<- hp1]; exact pa 1 (by decide)
 refine ja (M:=λτ=>∃ s7 s8 s9 s10,τ=Bs c g e p R C (if p1=0 then mj M i j (-q) else if p1=1 then mj M i j (q - 1) else if p1=2 then nF M i ((i + 1) % R) else M.map (j9 j ((j + 1) % C))) s7 s8 s9 s10) (aS (aJ (aa 2) ae (aT pa1)) ae de) (λh=>?_) (λh=>?_) λτ h=>?_
 · have h:p1=0:=of_decide_eq_true h
   refine wD (pt:=[]++[i]) (t:=da M) (ds:=(M.getD i []).map frD) (j:=j) (x:=frD (-q)) (mH (fK 6) (aa 7) rfl rfl (by rw [E9]; exact ck hl)) (aa 8) (by rw [Ci]; exact cg (ab (iD (aJ (aa 9) ae (aV num))) (ab (aJ (aa 9) ae (aV den)) af))) rfl (oj hl) (by rw [E9]; exact ck hl2) (aM ⟨.d (.int (i:Nat)),.d (.int (j:Nat)),.d (frD q),.un,?_⟩)
   show JN [_,_,_,_,_,_,_,_,_,_,_] 6 (Sl.n (bw [i] (da M) _))=_
   rw [uf,if_pos h]
   rfl
 · have h:¬ p1=0:=of_decide_eq_false h
   rw [if_neg h]
   refine ja (M:=λτ=>∃ s7 s8 s9 s10,τ=Bs c g e p R C (if p1=1 then mj M i j (q - 1) else if p1=2 then nF M i ((i + 1) % R) else M.map (j9 j ((j + 1) % C))) s7 s8 s9 s10) (aS (aJ (aa 2) ae (aT pa1)) ae de) (λh=>?_) (λh=>?_) λτ h=>aM h
   · have h:p1=1:=of_decide_eq_true h
     refine wD (pt:=[]++[i]) (t:=da M) (ds:=(M.getD i []).map frD) (j:=j) (x:=frD (q - 1)) (mH (fK 6) (aa 7) rfl rfl (by rw [E9]; exact ck hl)) (aa 8) (by rw [wy]; exact cg (ab (ax (aJ (aa 9) ae (aV num)) (aJ (aa 9) ae (aV den)) cF) (ab (aJ (aa 9) ae (aV den)) af))) rfl (oj hl) (by rw [E9]; exact ck hl2) (aM ⟨.d (.int (i:Nat)),.d (.int (j:Nat)),.d (frD q),.un,?_⟩)
     show JN [_,_,_,_,_,_,_,_,_,_,_] 6 (Sl.n (bw [i] (da M) _))=_
     rw [uf,if_pos h]
     rfl
   · have h:¬ p1=1:=of_decide_eq_false h
     rw [if_neg h]
     refine ja (M:=λτ=>∃ s7 s8 s9 s10,τ=Bs c g e p R C (if p1=2 then nF M i ((i + 1) % R) else M.map (j9 j ((j + 1) % C))) s7 s8 s9 s10) (aS (aJ (aa 2) ae (aT pa1)) ae de) (λh=>?_) (λh=>?_) λτ h=>aM h
     · have h:p1=2:=of_decide_eq_true h
       have hb':(i + 1) % R < M.length:=by rw [o.t.len]; exact JA _ r1
       have eb:((i:Int) + 1).fmod (R:Int)=(((i + 1) % R:Nat):Int):=by rw [FU _ (by omega)]; rfl
       refine BB 6 10 (xs:=M.map λr=>.l ((r.map frD).map .d)) (za:=(i:Int)) (zb:=((i:Int) + 1).fmod (R:Int)) (a:=i) (b:=(i + 1) % R) nd rfl (by decide) rfl (aa 7) (ax (ax (aa 7) ae a7) (aa 3) (ba (by omega))) (aa 7) (ax (ax (aa 7) ae a7) (aa 3) (ba (by omega))) (by rw [E9]; exact ck hl) (by rw [E9,eb]; exact ck hb') (pw hl) (pw hb') (aM ⟨.d (.int (i:Nat)),.d (.int (j:Nat)),.d (frD q),.un,?_⟩)
       show JN [_,_,_,_,_,_,_,_,_,_,_] 6 (Sl.n (Nd.l _))=_
       rw [yp,if_pos h]
       rfl
     · have h:¬ p1=2:=of_decide_eq_false h
       rw [if_neg h]
       have jb:(j + 1) % C < C:=JA _ c1
       have eb:((j:Int) + 1).fmod (C:Int)=(((j + 1) % C:Nat):Int):=by rw [FU _ (by omega)]; rfl
       refine EC 9 ?_
       show PSs _ _ (dS K [.d (.int c),.d (.bl g),.d (.lst (p.map D.int)),.d (.int (R:Nat)),.d (.int (C:Nat)),.d (.int e),.n (da M),.d (.int (i:Nat)),.d (.int (j:Nat)),.un,.un] _)
       refine qI 6 10 (M.map rwF) ((M.map (j9 j ((j + 1) % C))).map rwF) (by simp) b nd rfl (λkk hk hk' r hr=>?_) (aM ⟨.d (.int (i:Nat)),.d (.int (j:Nat)),.un,.un,rfl⟩)
       have hk:kk < M.length:=by simpa using hk
       have hr':r[kk]?=some (rwF (M.getD kk [])):=by rw [hr]; simp [hk]
       have lq:(M.getD kk []).length=C:=o.t.at_ (by rw [<- o.t.len]; exact hk)
       have e1:((M.map (j9 j ((j + 1) % C))).map rwF)[kk]=.l (((((M.getD kk []).map frD).set j (frD ((M.getD kk []).getD ((j + 1) % C) 0))).set ((j + 1) % C) (frD ((M.getD kk []).getD j 0))).map .d):=by
         rw [zc]
         simp [hk]
       rw [e1]
       generalize M.getD kk []=w at hr' lq ⊢
       have kl:kk < r.length:=(Fn.mp hr').1
       refine gX (B4 9 nd (xg (pt:=[j]) (pk (pt:=[]) (m:=j) eG (aa 8) rfl (rm hr') (by rw [E9,E9,lq]; exact ck hj)) rfl (tu hr' (by omega)))) ?_
       refine gX (CL (m:=j) (zi:=(j:Nat)) (x:=frD (w.getD ((j + 1) % C) 0)) (ds:=w.map frD) (pt:=[]) eG (aa 8) (xg (pt:=[(j + 1) % C]) (pk (pt:=[]) (m:=(j + 1) % C) eG (ax (ax (aa 8) ae a7) (aa 4) (ba (by omega))) rfl (rm hr') (by rw [E9,E9,lq,eb]; exact ck jb)) rfl (tu hr' (by omega))) rfl (rm hr') (by rw [E9,lq]; exact ck hj)) ?_
       have e2:bw [kk] (.l r) (.l (((w.map frD).set j (frD (w.getD ((j + 1) % C) 0))).map .d))=.l (r.set kk (.l (((w.map frD).set j (frD (w.getD ((j + 1) % C) 0))).map .d))):=rfl
       show PSs _ _ (dSL K (JN _ 6 (.n (bw [kk] (.l r) (.l (((w.map frD).set j (frD (w.getD ((j + 1) % C) 0))).map .d))))) 6 10 kk _)
       rw [e2]
       have hr2:(r.set kk (.l (((w.map frD).set j (frD (w.getD ((j + 1) % C) 0))).map .d)))[kk]?=some (.l (((w.map frD).set j (frD (w.getD ((j + 1) % C) 0))).map .d)):=by simp [kl]
       refine gX (Bh (m:=(j + 1) % C) (zi:=((j:Int) + 1).fmod (C:Int)) (x:=frD (w.getD j 0)) (ds:=(w.map frD).set j (frD (w.getD ((j + 1) % C) 0))) (pt:=[]) eG (ax (ax (aa 8) ae a7) (aa 4) (ba (by omega))) (aa 9) rfl (by rw [bz,hr2,Hw]; rfl) (by rw [FF,E9,lq,eb]; exact ck jb)) ?_
       refine xG 9 ?_
       have e3:bw [kk] (.l (r.set kk (.l (((w.map frD).set j (frD (w.getD ((j + 1) % C) 0))).map .d)))) (.l ((((w.map frD).set j (frD (w.getD ((j + 1) % C) 0))).set ((j + 1) % C) (frD (w.getD j 0))).map .d))=.l (r.set kk (.l ((((w.map frD).set j (frD (w.getD ((j + 1) % C) 0))).set ((j + 1) % C) (frD (w.getD j 0))).map .d))):=by
         show Nd.l ((r.set kk _).set kk _)=_
         rw [List.set_set]
         rfl
       show PSs _ _ (dSL K (JN [_,_,_,_,_,_,.n (bw [kk] (.l (r.set kk (.l (((w.map frD).set j (frD (w.getD ((j + 1) % C) 0))).map .d)))) (.l ((((w.map frD).set j (frD (w.getD ((j + 1) % C) 0))).set ((j + 1) % C) (frD (w.getD j 0))).map .d))),_,_,_,_] 9 .un) 6 10 kk _)
       rw [e3]
       exact wF
 obtain ⟨s7,s8,s9,s10,rfl⟩:=h
 exact jj 6 rfl
end
theorem DQ {t u:List Rat} (i:Nat) (h:i < (fG (t.map frD) (u.map frD)).length):(fG (t.map frD) (u.map frD))[i]=.tup [frD (t.getD i 0),frD (u.getD i 0)]:=by
 rw [uc]
 rw [bU,E9,E9] at h
 simp [show i < t.length by omega,show i < u.length by omega]
noncomputable def gL (ds:List D) (r:Sl):Prop:=∃ (R C d v:Nat) (M:List (List Rat)) (x:List Rat),ds=[tbQ M,rwQ x]/\Tq R C M/\x.length=C/\(∀ r ∈ M,∀ q ∈ r,Qs d v q)/\(∀ q ∈ x,Qs d v q)/\d<=600/\v<=9000/\r=.o ((bhQ R C M x).map frD)
structure Lb (d v:Nat) (y x:Nat->Rat) (i:Nat) (t b:Int):Prop where
 pos:0 < b
 bb:Bd (2 * d * i + 1) b
 tb:Bd (2 * (v + d) + 2 + i * (2 * d + 1)) t
 eq:(t:Rat)=aA (λj=>y j * x j) i * (b:Rat)
theorem Lb.step {d v:Nat} {y x:Nat->Rat} {i:Nat} {t b:Int} (h:Lb d v y x i t b) (h1:Sq (v + d) (y i)) (h2:Sq (v + d) (x i)) (d1:Bd d ((y i).den:Nat)) (d2:Bd d ((x i).den:Nat)):Lb d v y x (i + 1) (t * (((y i).den:Nat) * ((x i).den:Nat)) + (y i).num * (x i).num * b) (b * (((y i).den:Nat) * ((x i).den:Nat))):=by
 have hp:=d1.mul d2
 have e1:2 * d * (i + 1)=2 * d * i + 2 * d:=Nat.mul_succ _ _
 have e2:(i + 1) * (2 * d + 1)=i * (2 * d + 1) + (2 * d + 1):=GK _ _
 have e3:i * (2 * d + 1)=2 * d * i + i:=by rw [Nat.mul_add,Ks,Ij]
 refine ⟨JK h.pos (JK (den_pos _) (den_pos _)),(h.bb.mul hp).mono (by omega),?_,?_⟩
 · have a1:=(h.tb.mul hp).mono (show 2 * (v + d) + 2 + i * (2 * d + 1) + (d + d)<=2 * (v + d) + 2 + i * (2 * d + 1) + 2 * d by omega)
   have a2:=((h1.num.mul h2.num).mul h.bb).mono (show v + d + (v + d) + (2 * d * i + 1)<=2 * (v + d) + 2 + i * (2 * d + 1) + 2 * d by omega)
   exact (a1.add a2).mono (by omega)
 · rw [aA,Iu,FZ,FZ,FZ,FZ,FZ,h.eq,<- iL (y i),<- iL (x i)]
   grind
section
variable {P:Program} {w:World} {K:Fb} {mg:Str->Option Value} {base:Heap} {k:Nat} {f:Addr} {fd:FuncData} {qual:Str}
set_option maxHeartbeats 1000000 in
theorem o9 (F:Fun K "_law_behind" qual (top 67) f fd) (hb:∀ x ∈ ai,mg x=none) (c_l_made:Cal P w K mg base k "_law_made" ic):aQ P w K mg base CX0 (k + 1) f fd ["_law_table_here","_law_row"] (spD K gL):=by
 refine fnD F jv hb (by rintro _ _ ⟨_,_,_,_,_,_,rfl,_⟩; rfl) ?_
 rintro _ _ ⟨R,C,d,v,M,x,rfl,t,lx,q1,q2,d9,v9,rfl⟩ cdv A outer s H E b
 have nd:=jv.nd
 have r7:=t.r7
 have c7:=t.c7
 refine aw 2 nd (fm af) ?_
 refine bu 3 (λi τ=>∃ s3 s4 s5 s6 s7 s8,τ=[.d (tbQ M),.d (rwQ x),.o (((Fd i).map λi=>aA (λj=>qM M i j * x.getD j 0) C).map frD),s3,s4,s5,s6,s7,s8]) b nd (aU (aa 0)) (a9 (f:=rwQ) (xs:=M) []) ⟨.un,.un,.un,.un,.un,.un,rfl⟩ (λi hi τ h=>?_) λτ h=>?_
 · obtain ⟨s3,s4,s5,s6,s7,s8,rfl⟩:=h
   have hi:i < R:=by rw [E9,t.len] at hi; exact hi
   have lr:(M.getD i []).length=C:=t.at_ hi
   have hm:M.getD i [] ∈ M:=aK (by rw [t.len]; exact hi)
   have zl:(fG ((M.getD i []).map frD) (x.map frD)).length=C:=by rw [bU,E9,E9,lr,lx]; exact J6 C
   refine aw 4 nd ae ?_
   refine aw 5 nd ae ?_
   refine qJ 6 7 (g:=λj=>frD ((M.getD i []).getD j 0)) (g':=λj=>frD (x.getD j 0)) (λj τ=>∃ (tt bb:Int) (s6 s7 s8:Sl),j<=C/\Lb d v (qM M i) (λj=>x.getD j 0) j tt bb/\τ=[.d (tbQ M),.d (rwQ x),.o (((Fd i).map λi=>aA (λj=>qM M i j * x.getD j 0) C).map frD),.d (rwQ (M.getD i [])),.d (.int tt),.d (.int bb),s6,s7,s8]) b nd (pE b (aa 3) (aa 1)) DQ ⟨0,1,s6,s7,s8,FR _,⟨by decide,by rw [Nat.mul_zero]; unfold Bd; decide,by unfold Bd; exact GH _,by rw [aA,J1]; rfl⟩,rfl⟩ (λj hj τ h=>?_) λτ h=>?_
   · obtain ⟨tt,bb,s6,s7,s8,_,I,rfl⟩:=h
     have hj:j < C:=by rw [zl] at hj; exact hj
     have a1:Qs d v ((M.getD i []).getD j 0):=q1 _ hm _ (aK (by omega))
     have a2:Qs d v (x.getD j 0):=q2 _ (aK (by omega))
     have I2:=I.step a1.sq a2.sq a1.den a2.den
     have hp:=a1.den.mul a2.den
     have m1:2 * d * j<=2 * 600 * 7:=Gr (by omega) (by omega)
     have m2:j * (2 * d + 1)<=7 * (2 * 600 + 1):=Gr (by omega) (by omega)
     refine aw 8 nd (ax (aJ (aa 6) ae (aV (aP (i:=1) rfl))) (aJ (aa 7) ae (aV (aP (i:=1) rfl))) (aX (a1.den.aD a2.den (by omega) (by omega)))) ?_
     refine aw 4 nd (ax (ax (aa 4) (aa 8) (aX (I.tb.aD hp (by omega) (by omega)))) (ax (ax (aJ (aa 6) ae (aV (aP (i:=0) rfl))) (aJ (aa 7) ae (aV (aP (i:=0) rfl))) (aX (a1.sq.num.aD a2.sq.num (by omega) (by omega)))) (aa 5) (aX ((a1.sq.num.mul a2.sq.num).aD I.bb (by omega) (by omega)))) a7) ?_
     refine aw 5 nd (ax (aa 5) (aa 8) (aX (I.bb.aD hp (by omega) (by omega)))) ?_
     exact aM ⟨_,_,_,_,_,hj,I2,rfl⟩
   · obtain ⟨tt,bb,s6,s7,s8,_,I,rfl⟩:=h
     rw [zl] at I
     have m1:2 * d * C<=2 * 600 * 7:=Gr (by omega) (by omega)
     refine vN 2 (x_call b c_l_made (ab (aa 4) (ab (aa 5) af)) ⟨tt,bb,_,rfl,I.pos,I.bb.mono (by omega),I.eq,rfl⟩) ?_ (aM ⟨.d (rwQ (M.getD i [])),.d (.int tt),.d (.int bb),s6,s7,s8,?_⟩)
     · rw [E9,E9,Gz]; omega
     rw [F3,FE,FE]
     rfl
 · obtain ⟨s3,s4,s5,s6,s7,s8,rfl⟩:=h
   rw [E9,t.len]
   exact jj 2 rfl
end
noncomputable def iW (ds:List D) (r:Sl):Prop:=∃ (R C d v:Nat) (M:List (List Rat)) (x:List Rat),ds=[tbQ M,rwQ x]/\Tq R C M/\x.length=C/\(∀ r ∈ M,∀ q ∈ r,Qs d v q)/\(∀ q ∈ x,Qs d v q)/\d<=600/\v<=9000/\r=.d (.bl (tlQ R C M x))
noncomputable def gD (ds:List D) (r:Sl):Prop:=∃ (x:List Rat),ds=[rwQ x,.int (x.length:Nat)]/\(∀ q ∈ x,Sq 8000 q)/\r=.d (.bl true)
section
variable {P:Program} {w:World} {K:Fb} {mg:Str->Option Value} {base:Heap} {k:Nat} {f:Addr} {fd:FuncData} {qual:Str}
theorem qU (F:Fun K "_law_shown" qual (top 70) f fd) (hb:∀ x ∈ ai,mg x=none) (c_l_behind:Cal P w K mg base k "_law_behind" gL) (c_l_least:Cal P w K mg base k "_law_least" iS) (c_l_first:Cal P w K mg base k "_law_first" iN):aQ P w K mg base CX0 (k + 1) f fd ["_law_table_here","_law_row"] (spD K iW):=by
 refine fnD F kA hb (by rintro _ _ ⟨_,_,_,_,_,_,rfl,_⟩; rfl) ?_
 rintro _ _ ⟨R,C,d,v,M,x,rfl,t,lx,q1,q2,d9,v9,rfl⟩ cdv A outer s H E b
 have nd:=kA.nd
 have r7:=t.r7
 have c7:=t.c7
 have ly:(bhQ R C M x).length=R:=by simp [bhQ]
 refine aw 2 nd (a4 (x:=rwQ (bhQ R C M x)) (x_call b c_l_behind (ab (aa 0) (ab (aa 1) af)) ⟨R,C,d,v,M,x,rfl,t,lx,q1,q2,d9,v9,rfl⟩)) ?_
 refine aw 3 nd (ax (x_call b c_l_least (ab (aa 2) af) ⟨_,rfl,by omega,rfl⟩) (x_call b c_l_least (ab (aa 1) af) ⟨x,rfl,by omega,rfl⟩) cF) ?_
 refine aF (Ep (cG (aa 3) ae pU) λh=>(kh (mN (cG (aa 3) ae de) λh=>(kh (cG (x_call b c_l_first (ab (aa 2) af) ⟨_,rfl,rfl⟩) (cg (ab ae (ab (x_call b c_l_first (ab (aa 1) af) ⟨x,rfl,rfl⟩) af))) (vG (ns:=[0,(nzS x).getD 0 0]))))))) ?_
 show Sl.d (.bl (decide (((chg (nzS (bhQ R C M x)):Nat):Int) - (chg (nzS x):Nat) > 0) || (decide (((chg (nzS (bhQ R C M x)):Nat):Int) - (chg (nzS x):Nat)=0) && !([0,fsS (nzS x)].any λw=>decide (w=fsS (nzS (bhQ R C M x)))))))=_
 unfold tlQ tlS
 by_cases z:chg (nzS (bhQ R C M x))=chg (nzS x)
 · rw [if_pos z,decide_eq_false (show ¬ ((chg (nzS (bhQ R C M x)):Nat):Int) - (chg (nzS x):Nat) > 0 by omega),decide_eq_true (show ((chg (nzS (bhQ R C M x)):Nat):Int) - (chg (nzS x):Nat)=0 by omega),Bool.false_or,Bool.true_and]
 · rw [if_neg z,decide_eq_false (show ¬ ((chg (nzS (bhQ R C M x)):Nat):Int) - (chg (nzS x):Nat)=0 by omega),Bool.false_and,IZ]
   exact congrArg (λb=>Sl.d (.bl b)) (decide_eq_decide.mpr (by omega))
theorem pB (F:Fun K "_law_is_row" qual (top 69) f fd) (hb:∀ x ∈ ai,mg x=none) (c_l_is_number:Cal P w K mg base k "_law_is_number" dQ):aQ P w K mg base CX0 (k + 1) f fd ["_law_found","_law_wide"] (spD K gD):=by
 refine fnD F jy hb (by rintro _ _ ⟨_,rfl,_⟩; rfl) ?_
 rintro _ _ ⟨x,rfl,hq,rfl⟩ cdv A outer s H E b
 have nd:=jy.nd
 refine cL (PW.pt (gH (bW (bS (gx .list b (aa 0)))) λh=>(gu (aS (a5 b (ab (aa 0) af) (d0 (n:=x.length) (E9 ..))) (aa 1) gP)))) ?_ ?_
 · rw [decide_eq_true rfl]; rfl
 refine bu 2 (g:=λi=>frD (x.getD i 0)) (λi τ=>∃ s2,τ=[.d (rwQ x),.d (.int (x.length:Nat)),s2]) b nd (aU (aa 0)) (a9 (f:=frD) (xs:=x) 0) ⟨.un,rfl⟩ (λi hi τ h=>?_) λτ h=>?_
 · obtain ⟨s2,rfl⟩:=h
   have hi:i < x.length:=by simpa using hi
   have sq:=hq _ (aK (d:=0) hi)
   generalize x.getD i 0=q at sq ⊢
   exact cL (PW.pt (gH (bW (bS (gx .tuple b (aa 2)))) λh=>(gH (aS (a5 b (ab (aa 2) af) iO) ae gP) λh=>(gu (bW (bS (x_call b c_l_is_number (ab (aa 2) (ab (aJ (aa 2) ae (aV (aP (i:=0) rfl))) (ab (aJ (aa 2) ae (aV (aP (i:=1) rfl))) af))) ⟨q,rfl,sq,rfl⟩))))))) rfl (aM ⟨_,rfl⟩)
 · obtain ⟨s2,rfl⟩:=h
   exact aF uU rfl
end
mutual
theorem qy:∀ x:D,Ev.eqD x x=true
 | .non=>by rw [Ev.eqD]
 | .bl a=>by simp [Ev.eqD]
 | .int a=>by simp [Ev.eqD]
 | .str a=>by simp [Ev.eqD]
 | .tup xs=>by rw [Ev.eqD]; exact jf xs
 | .lst xs=>by rw [Ev.eqD]; exact jf xs
 | .box x=>by rw [Ev.eqD]
theorem jf:∀ xs:List D,Ev.lD xs xs=true
 | []=>by rw [Ev.lD]
 | x :: xs=>by rw [Ev.lD,qy x,jf xs]; rfl
end
theorem ub:∀ r:List Rat,Ev.eD (r.map frD)=true/\Ev.fA (r.map frD)<=1
 | []=>by simp [Ev.eD,Ev.fA]
 | x :: r=>by
   obtain ⟨h1,h2⟩:=ub r
   rw [FJ,Ev.eD,Ev.fA,h1,frD]
   refine ⟨by simp [Ev.cln,Ev.eD],?_⟩
   have:Ev.dep (.tup [.int x.num,.int (x.den:Nat)])=1:=by simp [Ev.dep,Ev.fA]
   rw [this]
   omega
theorem tL:∀ m:List (List Rat),Ev.eD (m.map rwQ)=true/\Ev.fA (m.map rwQ)<=2
 | []=>by simp [Ev.eD,Ev.fA]
 | r :: m=>by
   obtain ⟨h1,h2⟩:=tL m
   obtain ⟨h3,h4⟩:=ub r
   rw [FJ,Ev.eD,Ev.fA,h1,show rwQ r=.lst (r.map frD) from rfl,Ev.cln,Ev.dep,h3]
   exact ⟨rfl,by omega⟩
theorem xS (m:List (List Rat)):Ev.fO (tbQ m):=by
 obtain ⟨h1,h2⟩:=tL m
 unfold tbQ Ev.fO
 rw [Ev.cln,Ev.dep,h1]
 exact ⟨rfl,by omega⟩
structure Go (R C:Nat) (M:List (List Rat)) (x:List Rat):Prop where
 len:x.length=C
 sq:∀ q ∈ x,Sq 8000 q
 tl:tlQ R C M x=true
 sh:∃ d v,(∀ r ∈ M,∀ q ∈ r,Qs d v q)/\(∀ q ∈ x,Qs d v q)/\d<=600/\v<=9000/\2 + 2 * (C * d)<=8999/\v + (1 + C * d)<=8999/\v + d<=8999
theorem jE {R C d v:Nat} {M:List (List Rat)} (h:Sz R C d v M) (neg:(fuO (whM M (M.map scL)) R C 0).isNone=false):∃ x,gg [tbQ M] (.o (x.map frD))/\Go R C M x:=by
 have r7:=h.o.t.r7
 have c7:=h.o.t.c7
 have c1:=h.o.t.c1
 cases e:fuO (whM M (M.map scL)) R C 0 with
 | none=>rw [e] at neg; cases neg
 | some p=>
   obtain ⟨rs,cs⟩:=p
   obtain ⟨h1,h2,h3⟩:=zX r7 c7 e
   obtain ⟨s,hs,m1,m2⟩:=jT.mp h1
   have o1:=bI R (s + 1) rs m1
   have o2:=bI C (s + 1) cs m2
   have ag:Ag R C (s + 1) d v M rs cs:=⟨h.o.t,h.o.q,o1,o2,by omega,by omega,by omega,h.s1⟩
   have tt:=zL ag m1 m2 h2 λq hq hl=>h3 q hq (by show q.1.length < rs.length; rw [o1.len]; exact hl)
   have s2:=h.s2 (s + 1) (by omega) (by omega)
   have s3:=h.s3 (s + 1) (by omega) (by omega)
   have s1:=h.s1
   have d9:=h.d9
   have nd1:d<=C * d:=G5 d c1
   have d1:1<=d:=(h.o.cell (i:=0) (j:=0) (by have:=h.o.t.r1; omega) c1).d1
   have lt:(tpZ C M rs cs).length=C:=gf ..
   have bt:∀ x ∈ tpZ C M rs cs,x.natAbs<=2 ^ ((s + 1) * (v + (1 + (s + 1) * d) + 3)):=rG ag.rw.len (by omega) ag.rw.row _
   refine ⟨_,⟨R,C,s + 1,d,v,M,rs,cs,rfl,ag,e,s2,rfl⟩,?_⟩
   have tl:=xW (T:=tlQ R C M) (ts:=tpZ C M rs cs) (mb:=mbZ (tpZ C M rs cs)) tt _ 4 (Fc _)
   obtain ⟨sh,es⟩:=Bi (T:=tlQ R C M) (ts:=tpZ C M rs cs) (mb:=mbZ (tpZ C M rs cs)) _ 4 (Fc _)
   refine ⟨by rw [es]; unfold cW; rw [E9,lt],λq hq=>?_,tl,d,v + (s + 1) * (v + (1 + (s + 1) * d) + 3),λr hr q hq=>(h.o.q r hr q hq).mo (Fc _) (by omega),λq hq=>?_,d9,by omega,by omega,by omega,by omega⟩
   · rw [es] at hq
     exact ((xB (Fc 1) bt q hq).sq).mono (by omega)
   · rw [es] at hq
     exact (xB d1 bt q hq).mo (Fc _) (by omega)
noncomputable def sO (ds:List D) (r:Sl):Prop:=∃ ns:List Int,ns.length<=63/\ds=[.lst (ns.map .int)]/\r=.d (.bl true)
section
variable {P:Program} {w:World} {K:Fb} {mg:Str->Option Value} {base:Heap} {k:Nat} {f:Addr} {fd:FuncData} {qual:Str}
set_option maxHeartbeats 4000000 in
theorem BV (F:Fun K "law" qual (top 72) f fd) (hb:∀ x ∈ ai,mg x=none) (c_l_drawn:Cal P w K mg base k "_law_drawn" i0) (c_l_cell:Cal P w K mg base k "_law_cell" jV) (c_l_least_sign:Cal P w K mg base k "_law_least_sign" cT) (c_against:Cal P w K mg base k "against" gg) (c_tells_against:Cal P w K mg base k "tells_against" bX) (c_l_rows:Cal P w K mg base k "_law_rows" kZ) (c_l_is_row:Cal P w K mg base k "_law_is_row" gD) (c_l_shown:Cal P w K mg base k "_law_shown" iW):aQ P w K mg base CX0 (k + 1) f fd ["_law_script"] (spD K sO):=by
 refine fnD F wZ hb (by rintro _ _ ⟨_,_,rfl,_⟩; rfl) ?_
 rintro _ _ ⟨ns,hn,rfl,rfl⟩ cdv A outer s H E b
 have nd:=wZ.nd
 have hN:∃ N:Nat,(if (if ((ns.map D.int).length:Int) < 10 then ((ns.map D.int).length:Int) else 10) > 1 then (if ((ns.map D.int).length:Int) < 10 then ((ns.map D.int).length:Int) else 10) else 1)=(N:Nat)/\N<=10:=by
   refine ⟨(if (if ((ns.map D.int).length:Int) < 10 then ((ns.map D.int).length:Int) else 10) > 1 then (if ((ns.map D.int).length:Int) < 10 then ((ns.map D.int).length:Int) else 10) else 1).toNat,?_,?_⟩
   · repeat' split
     all_goals omega
   · repeat' split
     all_goals omega
 obtain ⟨N,eN,N8⟩:=hN
 refine bu 1 (λi τ=>∃ s1 s2 s3 s4 s5,τ=[.d (.lst (ns.map .int)),s1,s2,s3,s4,s5]) b nd (dZ (n:=(N:Nat)) b (by rw [<- eN]; exact a5 b (ab ae (ab (a5 b (ab ae (ab (a5 b (ab (aa 0) af) fR) af)) (px b.calm)) af)) (tZ b.calm)) (by omega) (by omega)) dU ⟨_,_,_,_,_,rfl⟩ (λi hi τ h=>?_) λτ h=>?_
 · obtain ⟨s1,s2,s3,s4,s5,rfl⟩:=h
   refine aw 2 nd (a4 (x:=tbQ (xJ (ns.getD i 0) (decide ((i:Int) < 2)))) (x_call b c_l_drawn (ab (x_call b c_l_cell (ab (aa 0) (ab (aa 1) af)) ⟨ns,i,rfl,rfl⟩) (ab (cG (aa 1) ae kc) af)) ⟨_,_,rfl,rfl⟩) (congrArg some (CF _))) ?_
   obtain ⟨r1,r7,c1,c7⟩:=v7 (ns.getD i 0) (decide ((i:Int) < 2))
   obtain ⟨d,v,sz⟩:=BI (c:=ns.getD i 0) (e:=rsZ (ns.getD i 0) 19668992) (p:=qf (ns.getD i 0)) (jO (c:=ns.getD i 0) (bs:=[4,4,7,7,4]) (by decide) (by decide)) r1 r7 c1 c7
   have sz:Sz (o8 (ns.getD i 0) (decide ((i:Int) < 2))) (qo (ns.getD i 0) (decide ((i:Int) < 2))) d v (xJ (ns.getD i 0) (decide ((i:Int) < 2))):=sz
   generalize o8 (ns.getD i 0) (decide ((i:Int) < 2))=R at r1 r7 sz
   generalize qo (ns.getD i 0) (decide ((i:Int) < 2))=C at c1 c7 sz
   generalize xJ (ns.getD i 0) (decide ((i:Int) < 2))=M at sz ⊢
   have t:=sz.o.t
   have s1':=sz.s1
   have nd1:d<=C * d:=G5 d c1
   have ok:=rw_ok t sz.o.q (by omega)
   have g:=wz ok (t:=0) (.inl rfl)
   have ex:fzD (.n (.t [lh (whM M (M.map scL)),.d (.int (prZ (M.map scL)))]))=some (.tup [.lst ((whM M (M.map scL)).map dtR),.int (prZ (M.map scL))]):=by
     show some (D.tup [ndD (lh _),_])=_
     rw [vP]
     rfl
   refine ja (M:=λτ=>∃ s1 s2 s3 s4 s5,τ=[.d (.lst (ns.map .int)),s1,s2,s3,s4,s5]) (aS (x_call b c_l_least_sign (ab (aJ (a4 (x_call b c_l_rows (ab (aa 2) af) ⟨R,C,d,v,M,rfl,t,sz.o.q,by omega,by omega,rfl⟩) ex) ae (aV (aP (i:=0) rfl))) af) ⟨_,_,_,_,rfl,ok,rfl⟩) ae kc) (λh=>?_) (λh=>aM ⟨_,_,_,_,_,rfl⟩) λτ h=>aM h
   have h:=of_decide_eq_true h
   rw [decide_eq_false (by omega)] at g
   obtain ⟨x,fa,go⟩:=jE sz g
   obtain ⟨d',v',w1,w2,w3,w4,w5,w6,w7⟩:=go.sh
   have e0:atI (M.map rwQ) 0=some (rwQ (M.getD 0 [])):=c8 [] (i:=0) (by rw [t.len]; omega)
   have lx:=go.len
   refine xm 3 nd (s:=.d (tbQ M)) (cmp 0 (g:=λi=>rwQ (M.getD i [])) (f:=λi=>rwQ (M.getD i [])) b (aU (aa 2)) (a9 (f:=rwQ) (xs:=M) []) (by rw [E9,t.len]; omega) λi hi s0 H0 fp=>a4 (kS (b.comp s0 H0 _ fp) (ab (aa 0) af) xC)) (.inr ?_) ?_
   · refine congrArg (λl=>Sl.d (D.lst l)) (bE rwQ M [] (E9 ..)).symm
   refine aw 4 nd (x_call b c_against (ab (aa 2) af) fa) ?_
   refine cL (PW.pt (gH (bW (bS (x_call b c_l_is_row (ab (iM 4) (ab (a5 b (ab (aJ (aa 2) ae (aT e0)) af) (d0 (n:=C) (by rw [E9]; exact t.at_ (by omega)))) af)) ⟨x,by rw [lx]; rfl,go.sq,rfl⟩))) λh=>(gH (bW (bS (x_call b c_l_shown (ab (aa 2) (ab (iM 4) af)) ⟨R,C,d',v',M,x,rfl,t,lx,w1,w2,w3,w4,rfl⟩))) λh=>(gu (aS (aa 2) (aa 3) (Ef b (xS M) (xS M))))))) ?_ ?_
   · rw [go.tl,qy]
     rfl
   refine cL (aS (x_call b c_tells_against (ab (aa 2) (ab (iM 4) af)) ⟨R,C,d',v',M,x,rfl,t,lx,w1,w2,w5,w6,w7,rfl⟩) uU CJ) ?_ ?_
   · rw [go.tl]
     rfl
   refine DJ 4 ?_
   refine Bw (pt:=[]) (fK 4) rfl rfl ?_
   refine aw 5 nd (x_call b c_against (ab (aa 2) af) fa) ?_
   refine cL (PW.pt (gH (bW (bS (x_call b c_l_is_row (ab (iM 5) (ab (a5 b (ab (aJ (aa 2) ae (aT e0)) af) (d0 (n:=C) (by rw [E9]; exact t.at_ (by omega)))) af)) ⟨x,by rw [lx]; rfl,go.sq,rfl⟩))) λh=>(gu (bW (bS (x_call b c_l_shown (ab (aa 2) (ab (iM 5) af)) ⟨R,C,d',v',M,x,rfl,t,lx,w1,w2,w3,w4,rfl⟩)))))) ?_ (aM ⟨_,_,_,_,_,rfl⟩)
   rw [go.tl]
   rfl
 · obtain ⟨s1,s2,s3,s4,s5,rfl⟩:=h
   exact aF uU rfl
end
end K39
namespace K39
open PySem PySem.Spec PyProof.Rows L2 Hy
set_option maxHeartbeats 0 in
theorem all_mk {l:JV} {w:World} {K:Fb} {h:Heap} {mg:Str->Option Value} {fa f0 f1 f2 f3 f4 f5 f6 f7 f8 f9 f10 f11 f12 f13 f14 f15 f16 f17 f18 f19 f20 f21 f22 f23 f24 f25 f26 f27 f28 f29 f30 f31 f32 f33 f34 f35 f36 f37 f38 f39 f40 f41 f42 f43 f44 f45 f46 f47 f48 f49 f50 f51 f52 f53 f54 f55 f56 f57 f58 f59:Addr} {t0:Tok} (X:K.In h) (G:h.Ns mainGlobals mg) (hfa:mg "law" = some (.ref fa))
   (h0:Dfn K "_law_numbers" (top 52) f0) (h1:Dfn K "_law_size" (top 58) f1) (h2:Dfn K "_law_rest" (top 53) f2) (h3:Dfn K "_law_good_table" (top 68) f3) (h4:Dfn K "_law_divisor" (top 54) f4) (h5:Dfn K "_law_made" (top 55) f5) (h6:Dfn K "_law_number" (top 56) f6) (h7:Dfn K "_law_table" (top 57) f7) (h8:Dfn K "_law_drawn" (top 71) f8) (h9:Dfn K "_law_cell" (top 51) f9) (h10:Dfn K "_law_minors" (top 62) f10) (h11:Dfn K "_law_least_sign" (top 63) f11) (h12:Dfn K "is_short_list" (top 14) f12) (h13:Dfn K "is_whole" (top 7) f13) (h14:Dfn K "common_divisor" (top 9) f14) (h15:Dfn K "is_fraction" (top 8) f15) (h16:Dfn K "is_row" (top 15) f16) (h17:Dfn K "is_table" (top 16) f17) (h18:Dfn K "look_table" (top 17) f18) (h19:Dfn K "choices_of" (top 18) f19) (h20:Dfn K "along_last_row" (top 36) f20) (h21:Dfn K "one_row_more" (top 35) f21) (h22:Dfn K "all_determinants" (top 34) f22) (h23:Dfn K "whole_row" (top 25) f23) (h24:Dfn K "whole_rows" (top 26) f24) (h25:Dfn K "scale_of" (top 24) f25) (h26:Dfn K "first_under" (top 33) f26) (h27:Dfn K "first_below" (top 38) f27) (h28:Dfn K "picked" (top 19) f28) (h29:Dfn K "chosen" (top 20) f29) (h30:Dfn K "pivot_place" (top 28) f30) (h31:Dfn K "cleared" (top 29) f31) (h32:Dfn K "whole_determinant" (top 27) f32) (h33:Dfn K "with_signs_at" (top 49) f33) (h34:Dfn K "tops_against" (top 48) f34) (h35:Dfn K "look_row" (top 40) f35) (h36:Dfn K "column_of" (top 22) f36) (h37:Dfn K "columns_of" (top 21) f37) (h38:Dfn K "in_lowest_terms" (top 10) f38) (h39:xU K "fraction" (top 11) f39 (1)) (h40:Dfn K "sum_of_products" (top 32) f40) (h41:Dfn K "product_row" (top 31) f41) (h42:Dfn K "product" (top 30) f42) (h43:Dfn K "behind" (top 45) f43) (h44:Dfn K "sign_of" (top 41) f44) (h45:Dfn K "signs_of" (top 42) f45) (h46:Dfn K "least_changes" (top 43) f46) (h47:Dfn K "first_sign" (top 44) f47) (h48:Dfn K "tells_against" (top 46) f48) (h49:Dfn K "against" (top 47) f49) (h50:Dfn K "_law_rows" (top 61) f50) (h51:Dfn K "_law_whole" (top 59) f51) (h52:Dfn K "_law_is_number" (top 60) f52) (h53:Dfn K "_law_is_row" (top 69) f53) (h54:Dfn K "_law_behind" (top 67) f54) (h55:Dfn K "_law_sign" (top 64) f55) (h56:Dfn K "_law_least" (top 65) f56) (h57:Dfn K "_law_first" (top 66) f57) (h58:Dfn K "_law_shown" (top 70) f58) (h59:Dfn K "law" (top 72) f59) (hz:nsL K ai) (z0:Io K mainGlobals "MOST" = some (some (.int 7 t0))) :
   ∃ fd:FuncData,(∀ (s:Shared) (v:Value),BindsTo s fd ⟨[v],[]⟩ [("_law_script",v)])/\∀ base:Heap,K.In base->base.Ns mainGlobals mg->aQ l.prog w K mg base CX0 10 fa fd ["_law_script"] (spD K sO):=by
 have hb:=hz.none X G
 have y_MOST:∃ t,mg "MOST" = some (.int 7 t):=⟨_,JB X G z0⟩
 obtain ⟨a,⟨oc,od,kV,dc,pm,an,cd,ct,sl,l0,c⟩,r⟩:=h59
 cases hfa.symm.trans (JB X G a)
 refine ⟨GV "law" "law" (cA (top 72)) (bY (top 72)) (ah (top 72)) .none kV dc pm an cd ct,λs v=>.of_eq rfl,λbase _ _=>?_⟩
 have c_l_numbers:Cal l.prog w K mg base 1 "_law_numbers" b7:=h0.cal (ps:=["_law_cell_here","_law_bases"]) X G (λ_ _ _ _ _ _=>Hy.bd2 λ_ _=>rfl) λ_ F=>oJ (k:=0) F hb
 have c_l_size:Cal l.prog w K mg base 2 "_law_size" kK:=h1.cal (ps:=["_law_cell_here"]) X G (λ_ _ _ _ _ _=>Hy.bd1 λ_=>rfl) λ_ F=>uv (k:=1) F hb c_l_numbers
 have c_l_rest:Cal l.prog w K mg base 1 "_law_rest" k8:=h2.cal (ps:=["_law_cell_here","_law_used"]) X G (λ_ _ _ _ _ _=>Hy.bd2 λ_ _=>rfl) λ_ F=>uk (k:=0) F hb
 have c_l_good_table:Cal l.prog w K mg base 2 "_law_good_table" cQ:=h3.cal (ps:=["_law_cell_here","_law_many","_law_wide"]) X G (λ_ _ _ _ _ _=>Hy.bd3 λ_ _ _=>rfl) λ_ F=>jI (k:=1) F hb c_l_numbers
 have c_l_divisor:Cal l.prog w K mg base 1 "_law_divisor" cD:=h4.cal (ps:=["_law_one","_law_other"]) X G (λ_ _ _ _ _ _=>Hy.bd2 λ_ _=>rfl) λ_ F=>nU (k:=0) F hb
 have c_l_made:Cal l.prog w K mg base 2 "_law_made" ic:=h5.cal (ps:=["_law_top","_law_bottom"]) X G (λ_ _ _ _ _ _=>Hy.bd2 λ_ _=>rfl) λ_ F=>vc (k:=1) F hb c_l_divisor
 have c_l_number:Cal l.prog w K mg base 3 "_law_number" gG:=h6.cal (ps:=["_law_kind","_law_part"]) X G (λ_ _ _ _ _ _=>Hy.bd2 λ_ _=>rfl) λ_ F=>pL (k:=2) F hb c_l_made
 have c_l_table:Cal l.prog w K mg base 4 "_law_table" jm:=h7.cal (ps:=["_law_cell_here","_law_many","_law_wide","_law_kind"]) X G (λ_ _ _ _ _ _=>Hy.bd4 λ_ _ _ _=>rfl) λ_ F=>qV (k:=3) F hb (c_l_numbers.mono (by decide)) c_l_number
 have c_l_drawn:Cal l.prog w K mg base 5 "_law_drawn" i0:=h8.cal (ps:=["_law_cell_here","_law_great"]) X G (λ_ _ _ _ _ _=>Hy.bd2 λ_ _=>rfl) λ_ F=>sx (k:=4) F hb (c_l_numbers.mono (by decide)) (c_l_size.mono (by decide)) (c_l_rest.mono (by decide)) (c_l_good_table.mono (by decide)) c_l_table
 have c_l_cell:Cal l.prog w K mg base 1 "_law_cell" jV:=h9.cal (ps:=["_law_script","_law_k"]) X G (λ_ _ _ _ _ _=>Hy.bd2 λ_ _=>rfl) λ_ F=>uw (k:=0) F hb
 have c_l_minors:Cal l.prog w K mg base 1 "_law_minors" (gQ l.prog w):=h10.cal (ps:=["_law_rows_here"]) X G (λ_ _ _ _ _ _=>Hy.bd1 λ_=>rfl) λ_ F=>qu (k:=0) F hb
 have c_l_least_sign:Cal l.prog w K mg base 2 "_law_least_sign" cT:=h11.cal (ps:=["_law_rows_here"]) X G (λ_ _ _ _ _ _=>Hy.bd1 λ_=>rfl) λ_ F=>jM (k:=1) F hb c_l_minors
 have c_is_short_list:Cal l.prog w K mg base 1 "is_short_list" bZ:=h12.cal (ps:=["thing"]) X G (λ_ _ _ _ _ _=>Hy.bd1 λ_=>rfl) λ_ F=>i4 (k:=0) F hb y_MOST
 have c_is_whole:Cal l.prog w K mg base 1 "is_whole" eF:=h13.cal (ps:=["thing"]) X G (λ_ _ _ _ _ _=>Hy.bd1 λ_=>rfl) λ_ F=>pg (k:=0) F hb
 have c_common_divisor:Cal l.prog w K mg base 1 "common_divisor" bA:=h14.cal (ps:=["one","other"]) X G (λ_ _ _ _ _ _=>Hy.bd2 λ_ _=>rfl) λ_ F=>iH (k:=0) F hb
 have c_is_fraction:Cal l.prog w K mg base 2 "is_fraction" dN:=h15.cal (ps:=["thing"]) X G (λ_ _ _ _ _ _=>Hy.bd1 λ_=>rfl) λ_ F=>lI (k:=1) F hb c_is_whole c_common_divisor
 have c_is_row:Cal l.prog w K mg base 3 "is_row" ig:=h16.cal (ps:=["thing"]) X G (λ_ _ _ _ _ _=>Hy.bd1 λ_=>rfl) λ_ F=>vk (k:=2) F hb (c_is_short_list.mono (by decide)) c_is_fraction
 have c_is_table:Cal l.prog w K mg base 4 "is_table" gM:=h17.cal (ps:=["thing"]) X G (λ_ _ _ _ _ _=>Hy.bd1 λ_=>rfl) λ_ F=>oZ (k:=3) F hb (c_is_short_list.mono (by decide)) c_is_row
 have c_look_table:Cal l.prog w K mg base 5 "look_table" cf:=h18.cal (ps:=["thing"]) X G (λ_ _ _ _ _ _=>Hy.bd1 λ_=>rfl) λ_ F=>mf (k:=4) F hb c_is_table
 have c_choices_of:Cal l.prog w K mg base 1 "choices_of" eV:=h19.cal (ps:=["many","size"]) X G (λ_ _ _ _ _ _=>Hy.bd2 λ_ _=>rfl) λ_ F=>l5 (k:=0) F hb
 have c_along_last_row:Cal l.prog w K mg base 1 "along_last_row" (cx l.prog w):=h20.cal (ps:=["known","row","columns"]) X G (λ_ _ _ _ _ _=>Hy.bd3 λ_ _ _=>rfl) λ_ F=>g8 (k:=0) F hb
 have c_one_row_more:Cal l.prog w K mg base 2 "one_row_more" (cV l.prog w):=h21.cal (ps:=["known","row","column_choices"]) X G (λ_ _ _ _ _ _=>Hy.bd3 λ_ _ _=>rfl) λ_ F=>jK (k:=1) F hb c_along_last_row
 have c_all_determinants:Cal l.prog w K mg base 3 "all_determinants" (b5 l.prog w):=h22.cal (ps:=["rows"]) X G (λ_ _ _ _ _ _=>Hy.bd1 λ_=>rfl) λ_ F=>gk (k:=2) F hb (c_choices_of.mono (by decide)) c_one_row_more
 have c_whole_row:Cal l.prog w K mg base 1 "whole_row" du:=h23.cal (ps:=["row","scale"]) X G (λ_ _ _ _ _ _=>Hy.bd2 λ_ _=>rfl) λ_ F=>nB (k:=0) F hb
 have c_whole_rows:Cal l.prog w K mg base 2 "whole_rows" cn:=h24.cal (ps:=["table","scales"]) X G (λ_ _ _ _ _ _=>Hy.bd2 λ_ _=>rfl) λ_ F=>me (k:=1) F hb c_whole_row
 have c_scale_of:Cal l.prog w K mg base 2 "scale_of" cu:=h25.cal (ps:=["row"]) X G (λ_ _ _ _ _ _=>Hy.bd1 λ_=>rfl) λ_ F=>pQ (k:=1) F hb c_common_divisor
 have c_first_under:Cal l.prog w K mg base 4 "first_under" dJ:=h26.cal (ps:=["table","bound"]) X G (λ_ _ _ _ _ _=>Hy.bd2 λ_ _=>rfl) λ_ F=>kr (k:=3) F hb c_all_determinants (c_whole_rows.mono (by decide)) (c_scale_of.mono (by decide))
 have c_first_below:Cal l.prog w K mg base 6 "first_below" dF:=h27.cal (ps:=["table"]) X G (λ_ _ _ _ _ _=>Hy.bd1 λ_=>rfl) λ_ F=>j0 (k:=5) F hb c_look_table (c_first_under.mono (by decide))
 have c_picked:Cal l.prog w K mg base 1 "picked" kq:=h28.cal (ps:=["things","places"]) X G (λ_ _ _ _ _ _=>Hy.bd2 λ_ _=>rfl) λ_ F=>uX (k:=0) F hb
 have c_chosen:Cal l.prog w K mg base 2 "chosen" lA:=h29.cal (ps:=["table","rows","columns"]) X G (λ_ _ _ _ _ _=>Hy.bd3 λ_ _ _=>rfl) λ_ F=>uB (k:=1) F hb c_picked
 have c_pivot_place:Cal l.prog w K mg base 1 "pivot_place" dH:=h30.cal (ps:=["grid","k"]) X G (λ_ _ _ _ _ _=>Hy.bd2 λ_ _=>rfl) λ_ F=>kC (k:=0) F hb
 have c_cleared:Cal l.prog w K mg base 1 "cleared" ji:=h31.cal (ps:=["row","pivot_row","k","last"]) X G (λ_ _ _ _ _ _=>Hy.bd4 λ_ _ _ _=>rfl) λ_ F=>rl (k:=0) F hb
 have c_whole_determinant:Cal l.prog w K mg base 2 "whole_determinant" bT:=h32.cal (ps:=["rows"]) X G (λ_ _ _ _ _ _=>Hy.bd1 λ_=>rfl) λ_ F=>fE (k:=1) F hb c_pivot_place c_cleared
 have c_with_signs_at:Cal l.prog w K mg base 1 "with_signs_at" cK:=h33.cal (ps:=["rows","k"]) X G (λ_ _ _ _ _ _=>Hy.bd2 λ_ _=>rfl) λ_ F=>i6 (k:=0) F hb
 have c_tops_against:Cal l.prog w K mg base 3 "tops_against" cX:=h34.cal (ps:=["table","rows","columns"]) X G (λ_ _ _ _ _ _=>Hy.bd3 λ_ _ _=>rfl) λ_ F=>jL (k:=2) F hb c_chosen c_whole_rows c_scale_of c_whole_determinant (c_with_signs_at.mono (by decide))
 have c_look_row:Cal l.prog w K mg base 4 "look_row" cU:=h35.cal (ps:=["thing"]) X G (λ_ _ _ _ _ _=>Hy.bd1 λ_=>rfl) λ_ F=>pK (k:=3) F hb c_is_row
 have c_column_of:Cal l.prog w K mg base 1 "column_of" df:=h36.cal (ps:=["table","j"]) X G (λ_ _ _ _ _ _=>Hy.bd2 λ_ _=>rfl) λ_ F=>ot (k:=0) F hb
 have c_columns_of:Cal l.prog w K mg base 2 "columns_of" ff:=h37.cal (ps:=["table"]) X G (λ_ _ _ _ _ _=>Hy.bd1 λ_=>rfl) λ_ F=>lY (k:=1) F hb c_column_of
 have c_in_lowest_terms:Cal l.prog w K mg base 2 "in_lowest_terms" cb:=h38.cal (ps:=["top","bottom"]) X G (λ_ _ _ _ _ _=>Hy.bd2 λ_ _=>rfl) λ_ F=>gO (k:=1) F hb c_common_divisor
 have c_fraction:Cal l.prog w K mg base 3 "fraction" gY:=h39.cal (ps:=["top","bottom"]) X G (λ_ _ _ _ _ _ _ _=>Hy.bd2 λ_ _=>⟨_,rfl,rfl⟩) λ_ F=>qp (k:=2) F hb c_in_lowest_terms (c_is_whole.mono (by decide))
 have c_sum_of_products:Cal l.prog w K mg base 1 "sum_of_products" cc:=h40.cal (ps:=["numbers","others"]) X G (λ_ _ _ _ _ _=>Hy.bd2 λ_ _=>rfl) λ_ F=>gI (k:=0) F hb
 have c_product_row:Cal l.prog w K mg base 4 "product_row" dD:=h41.cal (ps:=["row","whole_columns","scales"]) X G (λ_ _ _ _ _ _=>Hy.bd3 λ_ _ _=>rfl) λ_ F=>kG (k:=3) F hb (c_scale_of.mono (by decide)) (c_whole_row.mono (by decide)) c_fraction (c_sum_of_products.mono (by decide))
 have c_product:Cal l.prog w K mg base 6 "product" iR:=h42.cal (ps:=["one","other"]) X G (λ_ _ _ _ _ _=>Hy.bd2 λ_ _=>rfl) λ_ F=>rf (k:=5) F hb c_look_table (c_columns_of.mono (by decide)) (c_whole_rows.mono (by decide)) (c_scale_of.mono (by decide)) (c_product_row.mono (by decide))
 have c_behind:Cal l.prog w K mg base 7 "behind" lH:=h43.cal (ps:=["table","row"]) X G (λ_ _ _ _ _ _=>Hy.bd2 λ_ _=>rfl) λ_ F=>um (k:=6) F hb (c_look_table.mono (by decide)) (c_look_row.mono (by decide)) (c_column_of.mono (by decide)) c_product
 have c_sign_of:Cal l.prog w K mg base 1 "sign_of" i8:=h44.cal (ps:=["number"]) X G (λ_ _ _ _ _ _=>Hy.bd1 λ_=>rfl) λ_ F=>sf (k:=0) F hb
 have c_signs_of:Cal l.prog w K mg base 2 "signs_of" eR:=h45.cal (ps:=["row"]) X G (λ_ _ _ _ _ _=>Hy.bd1 λ_=>rfl) λ_ F=>o3 (k:=1) F hb c_sign_of
 have c_least_changes:Cal l.prog w K mg base 5 "least_changes" cH:=h46.cal (ps:=["row"]) X G (λ_ _ _ _ _ _=>Hy.bd1 λ_=>rfl) λ_ F=>i3 (k:=4) F hb c_look_row (c_signs_of.mono (by decide))
 have c_first_sign:Cal l.prog w K mg base 5 "first_sign" eY:=h47.cal (ps:=["row"]) X G (λ_ _ _ _ _ _=>Hy.bd1 λ_=>rfl) λ_ F=>mh (k:=4) F hb c_look_row (c_signs_of.mono (by decide))
 have c_tells_against:Cal l.prog w K mg base 8 "tells_against" bX:=h48.cal (ps:=["table","row"]) X G (λ_ _ _ _ _ _=>Hy.bd2 λ_ _=>rfl) λ_ F=>js (k:=7) F hb c_behind (c_least_changes.mono (by decide)) (c_first_sign.mono (by decide))
 have c_against:Cal l.prog w K mg base 9 "against" gg:=h49.cal (ps:=["table"]) X G (λ_ _ _ _ _ _=>Hy.bd1 λ_=>rfl) λ_ F=>qW (k:=8) F hb (c_first_below.mono (by decide)) (c_tops_against.mono (by decide)) c_tells_against
 have c_l_rows:Cal l.prog w K mg base 2 "_law_rows" kZ:=h50.cal (ps:=["_law_table_here"]) X G (λ_ _ _ _ _ _=>Hy.bd1 λ_=>rfl) λ_ F=>uW (k:=1) F hb c_l_divisor
 have c_l_whole:Cal l.prog w K mg base 1 "_law_whole" i9:=h51.cal (ps:=["_law_thing"]) X G (λ_ _ _ _ _ _=>Hy.bd1 λ_=>rfl) λ_ F=>qK (k:=0) F hb
 have c_l_is_number:Cal l.prog w K mg base 2 "_law_is_number" dQ:=h52.cal (ps:=["_law_found","_law_top","_law_bottom"]) X G (λ_ _ _ _ _ _=>Hy.bd3 λ_ _ _=>rfl) λ_ F=>j3 (k:=1) F hb c_l_whole c_l_divisor
 have c_l_is_row:Cal l.prog w K mg base 3 "_law_is_row" gD:=h53.cal (ps:=["_law_found","_law_wide"]) X G (λ_ _ _ _ _ _=>Hy.bd2 λ_ _=>rfl) λ_ F=>pB (k:=2) F hb c_l_is_number
 have c_l_behind:Cal l.prog w K mg base 3 "_law_behind" gL:=h54.cal (ps:=["_law_table_here","_law_row"]) X G (λ_ _ _ _ _ _=>Hy.bd2 λ_ _=>rfl) λ_ F=>o9 (k:=2) F hb c_l_made
 have c_l_sign:Cal l.prog w K mg base 1 "_law_sign" hJ:=h55.cal (ps:=["_law_number_here"]) X G (λ_ _ _ _ _ _=>Hy.bd1 λ_=>rfl) λ_ F=>uz (k:=0) F hb
 have c_l_least:Cal l.prog w K mg base 2 "_law_least" iS:=h56.cal (ps:=["_law_row"]) X G (λ_ _ _ _ _ _=>Hy.bd1 λ_=>rfl) λ_ F=>se (k:=1) F hb c_l_sign
 have c_l_first:Cal l.prog w K mg base 2 "_law_first" iN:=h57.cal (ps:=["_law_row"]) X G (λ_ _ _ _ _ _=>Hy.bd1 λ_=>rfl) λ_ F=>rV (k:=1) F hb c_l_sign
 have c_l_shown:Cal l.prog w K mg base 4 "_law_shown" iW:=h58.cal (ps:=["_law_table_here","_law_row"]) X G (λ_ _ _ _ _ _=>Hy.bd2 λ_ _=>rfl) λ_ F=>qU (k:=3) F hb c_l_behind (c_l_least.mono (by decide)) (c_l_first.mono (by decide))
 exact BV (k:=9) (rS l0 c r) hb (c_l_drawn.mono (by decide)) (c_l_cell.mono (by decide)) (c_l_least_sign.mono (by decide)) c_against (c_tells_against.mono (by decide)) (c_l_rows.mono (by decide)) (c_l_is_row.mono (by decide)) (c_l_shown.mono (by decide))
theorem walk {l:JV} {q:Program} {loose:List Str} {XP:(Str->Option Value)->Heap->Prop} {YP:World->Heap->Prop} {d:DefRec} {K:Params->Fb} (hn:l.most=some 63) (hdf:d.params.defaults=[])
   (hY:∀ (w:World) (h:Heap),YP w h->(K w.params).In h)
   (F:∀ (w:World) (mg:Str->Option Value) (fa:Addr) (h:Heap),(K w.params).In h->h.Ns mainGlobals mg->mg d.name=some (.ref fa) ->
     ∃ fd:FuncData,(∀ (s:Shared) (u:Value),BindsTo s fd ⟨[u],[]⟩ [("_law_script",u)])/\∀ base:Heap,(K w.params).In base->base.Ns mainGlobals mg->aQ l.prog w (K w.params) mg base CX0 10 fa fd ["_law_script"] (spD (K w.params) sO)) :
   PySem.W.WalkO q loose XP YP l.row.toRowW d [] (λf vs=>PySem.call f vs):=
 L2.zG (n:=63) (k:=10) (x:="_law_script") (CX:=λ_=>CX0) (sp:=λw=>spD (K w.params) sO) hn (by decide) hdf ⟨rfl,by decide,by decide⟩ hY F
   (λw H a ns hl _ hS=>zU (λns h=>⟨ns,h,rfl,rfl⟩) H a ns hl hS) λ_ _ _ _ _ z=>z
end K39
open PySem PySem.W PyProof.Rows
namespace PySem.W.Fast
theorem tw12981944686357689321:True:=⟨⟩
theorem tw9111915291049832700:True:=⟨⟩
theorem tw13358894495071267814:True:=⟨⟩
theorem tw16664357089049083752:True:=⟨⟩
theorem tw844233853958030602:True:=⟨⟩
theorem tw11614229445415318946:True:=⟨⟩
theorem tw13901451264030717650:True:=⟨⟩
theorem tw6470691938686839810:True:=⟨⟩
theorem tw16403249397525725808:True:=⟨⟩
theorem tw14493996494669593214:True:=⟨⟩
theorem tw17148188831745603098:True:=⟨⟩
theorem tw15594475696352696205:True:=⟨⟩
theorem tw9539479606314980962:True:=⟨⟩
theorem tw11096564090357733536:True:=⟨⟩
theorem tw17797977266047643954:True:=⟨⟩
theorem tw15624951993056905432:True:=⟨⟩
theorem tw5526525970059058762:True:=⟨⟩
theorem tw15242429727033434699:True:=⟨⟩
theorem tw13794034440894605679:True:=⟨⟩
theorem tw2361318042360056616:True:=⟨⟩
theorem tw14623845110243421969:True:=⟨⟩
theorem tw17114836987848215409:True:=⟨⟩
theorem tw11776232183685393264:True:=⟨⟩
theorem tw9372253121025710835:True:=⟨⟩
theorem tw4604788538414067313:True:=⟨⟩
theorem tw1892785511239466273:True:=⟨⟩
theorem tw464631677952960952:True:=⟨⟩
theorem tw2892400444829621191:True:=⟨⟩
theorem tw11475600717282572605:True:=⟨⟩
theorem tw1563828655790265163:True:=⟨⟩
theorem tw3346142795999912077:True:=⟨⟩
theorem tw5866647609711104033:True:=⟨⟩
theorem tw14044605252542411708:True:=⟨⟩
theorem tw18154159388911493728:True:=⟨⟩
theorem tw1380508177083164848:True:=⟨⟩
theorem tw3488085979281665628:True:=⟨⟩
theorem tw3570329333397490028:True:=⟨⟩
theorem tw10530700670574164255:True:=⟨⟩
theorem tw16805789536852751364:True:=⟨⟩
theorem tw12679363298437211514:True:=⟨⟩
theorem tw14219752337624192403:True:=⟨⟩
theorem tw15118701417128878320:True:=⟨⟩
theorem tw14706238052425671117:True:=⟨⟩
theorem tw2668268524184051544:True:=⟨⟩
theorem tw10803055542742089863:True:=⟨⟩
theorem tw7541327695329224993:True:=⟨⟩
theorem tw7440590735274998952:True:=⟨⟩
theorem tw7157259696464509972:True:=⟨⟩
theorem tw5373027908505340124:True:=⟨⟩
theorem tw5674104369982264807:True:=⟨⟩
theorem tw2060056136588444398:True:=⟨⟩
theorem tw6659525183513517907:True:=⟨⟩
theorem tw14876337810066444098:True:=⟨⟩
theorem tw18259161524742229477:True:=⟨⟩
theorem tw12881979873553514875:True:=⟨⟩
theorem tw17870160414519487075:True:=⟨⟩
theorem tw3031418705773918189:True:=⟨⟩
theorem tw7734725601573533292:True:=⟨⟩
theorem tw18411889393421518078:True:=⟨⟩
theorem tw18374291330226699660:True:=⟨⟩
theorem tw3959824655847361328:True:=⟨⟩
theorem tw17929182608931081552:True:=⟨⟩
theorem tw9261424845206117289:True:=⟨⟩
theorem tw3607840020444354335:True:=⟨⟩
theorem tw17016520811046250708:True:=⟨⟩
theorem tw18116719652627474343:True:=⟨⟩
theorem tw16387699356162549596:True:=⟨⟩
theorem tw15501785022225939428:True:=⟨⟩
theorem tw3352430872511404795:True:=⟨⟩
theorem tw12797417112900002052:True:=⟨⟩
theorem tw5193143904794024741:True:=⟨⟩
theorem tw12068671261564570834:True:=⟨⟩
theorem tw2299190023556609234:True:=⟨⟩
theorem tw3974031815038434357:True:=⟨⟩
theorem tw5596574343567347747:True:=⟨⟩
end PySem.W.Fast
set_option maxRecDepth 100000 in
set_option maxHeartbeats 0 in
theorem PySem.Challenge.cw_signsmooth_k39_whole_gaining_holds : PySem.Challenge.rw_signsmooth_k39_whole_gaining.Holds := by
 w_on; o_law; k_head; (case hw=>w_witness2)
 k_fill
 refine K39.walk (l:=PySem.Challenge.rw_signsmooth_k39_whole_gaining) rfl rfl (λw h Y=>PySem.W.kIn_of Y) ?F
 case F=>
   intro w mg fa h KX G hmg
   refine' K39.all_mk KX G hmg (.of ?_ ?_ ?_ ?_) (.of ?_ ?_ ?_ ?_) (.of ?_ ?_ ?_ ?_) (.of ?_ ?_ ?_ ?_) (.of ?_ ?_ ?_ ?_) (.of ?_ ?_ ?_ ?_) (.of ?_ ?_ ?_ ?_) (.of ?_ ?_ ?_ ?_) (.of ?_ ?_ ?_ ?_) (.of ?_ ?_ ?_ ?_) (.of ?_ ?_ ?_ ?_) (.of ?_ ?_ ?_ ?_) (.of ?_ ?_ ?_ ?_) (.of ?_ ?_ ?_ ?_) (.of ?_ ?_ ?_ ?_) (.of ?_ ?_ ?_ ?_) (.of ?_ ?_ ?_ ?_) (.of ?_ ?_ ?_ ?_) (.of ?_ ?_ ?_ ?_) (.of ?_ ?_ ?_ ?_) (.of ?_ ?_ ?_ ?_) (.of ?_ ?_ ?_ ?_) (.of ?_ ?_ ?_ ?_) (.of ?_ ?_ ?_ ?_) (.of ?_ ?_ ?_ ?_) (.of ?_ ?_ ?_ ?_) (.of ?_ ?_ ?_ ?_) (.of ?_ ?_ ?_ ?_) (.of ?_ ?_ ?_ ?_) (.of ?_ ?_ ?_ ?_) (.of ?_ ?_ ?_ ?_) (.of ?_ ?_ ?_ ?_) (.of ?_ ?_ ?_ ?_) (.of ?_ ?_ ?_ ?_) (.of ?_ ?_ ?_ ?_) (.of ?_ ?_ ?_ ?_) (.of ?_ ?_ ?_ ?_) (.of ?_ ?_ ?_ ?_) (.of ?_ ?_ ?_ ?_) (.of ?_ ?_ ?_ ?_ ?_) (.of ?_ ?_ ?_ ?_) (.of ?_ ?_ ?_ ?_) (.of ?_ ?_ ?_ ?_) (.of ?_ ?_ ?_ ?_) (.of ?_ ?_ ?_ ?_) (.of ?_ ?_ ?_ ?_) (.of ?_ ?_ ?_ ?_) (.of ?_ ?_ ?_ ?_) (.of ?_ ?_ ?_ ?_) (.of ?_ ?_ ?_ ?_) (.of ?_ ?_ ?_ ?_) (.of ?_ ?_ ?_ ?_) (.of ?_ ?_ ?_ ?_) (.of ?_ ?_ ?_ ?_) (.of ?_ ?_ ?_ ?_) (.of ?_ ?_ ?_ ?_) (.of ?_ ?_ ?_ ?_) (.of ?_ ?_ ?_ ?_) (.of ?_ ?_ ?_ ?_) (.of ?_ ?_ ?_ ?_) ⟨?_,?_,?_,?_,?_,?_,?_,?_,?_,?_,?_,?_,?_,?_,?_,?_,?_,?_,trivial⟩ ?_
   all_goals try k_is
#print axioms PySem.Challenge.cw_signsmooth_k39_whole_gaining_holds
